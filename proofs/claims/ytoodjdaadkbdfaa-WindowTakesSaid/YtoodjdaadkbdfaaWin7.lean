/- Windows: Clone by contract; all calls on a window that isn't there. -/
import Derived.Test.YtoodjdaadkbdfaaWin6
import Derived.Deep.WholeRow
namespace Go.Proofs.Ytoodjdaadkbdfaa
set_option linter.unusedVariables false
set_option linter.unusedSimpArgs false
set_option maxRecDepth 100000
open Go.RowKit
def CloneRet (w : World) (L : List Nat) (e : Ending) (w' : World) : Prop := e = .returned (.pointer (some ⟨w.heap.size, 0, none⟩)) ∧ WinAt w' w.heap.size L ∧ Below w.heap.size w w'
theorem winC_one (t : Nat) (W : Nat → Nat) : (winC t W).all (·.oneCell') = true := by simp [winC, Value.oneCell']
theorem clone_any (B : Nat) (L : List Nat) (w : World) (hw : WinAt w B L) :
    Calls Try.prog 8 #[.pointer (some ⟨B, 0, none⟩)] w (CloneRet w L) := by
  obtain ⟨W, hok, hh⟩ := hw
  have HOK := Lib.hid hok
  have hh2 : w.heap[B]? = some (.cells (winC (topL L) W) 41 (0, 0)) := hh
  have HONE := Lib.hid (winC_one (topL L) W)
  have HI : Hid ((Try.prog.info? 41).map (·.size) = some (winC (topL L) W).size) := Lib.hid (by show _ = some 33; kernel_rfl)
  have HSZ : Hid (∀ c : Array Value, c.size = 33 → c.size = (winC (topL L) W).size) := Lib.hid (fun c h => by rw [h]; rfl)
  obtain ⟨C, hC⟩ : ∃ C, C = winC (topL L) W := ⟨_, rfl⟩
  rw [← hC] at HONE HI HSZ hh2
  have HC := Lib.hid hC
  have HH := Lib.hid hh2
  clear hok hh hh2 hC
  go_enter Try.func8, Try.ntmps8
  go_wp2_with (first | (refine wpList_load_row rfl 41 (.tmp 7) rfl B rfl 41 C (0, 0) _ HH.out Try.underlying41 rfl HI.out ?_) | (refine wpList_store_row rfl 41 (.tmp 3) (.tmp 8) rfl w.heap.size C rfl rfl 41 _ (heap_alloc_new w _) HI.out (HSZ.out _ rfl) HONE.out ?_; rw [World.setRow_alloc_new]) | fail)
  go_ret
  exact ⟨rfl, ⟨W, HOK.out, by rw [HC.out]; exact heap_alloc_new w _⟩, below_one _⟩
theorem take_nil (c : Nat) (w : World) : Calls Try.prog 11 #[.pointer none, .int .u64 (c : Nat)] w fun e w' => e = .returned (.int .i64 1) ∧ w = w' := by
  have HWO : Hid (∀ w, Calls Try.prog 10 #[.pointer none, .int .u64 (c : Nat)] w fun e w' => e = .returned (.int .i64 1) ∧ w = w') := Lib.hid (by
    intro w
    go_enter Try.func10, Try.ntmps10
    go_wp2_with fail
    go_ret
    exact ⟨rfl, rfl⟩)
  go_enter Try.func11, Try.ntmps11
  go_wp2_with (first | (go_at_call 10; ((with_reducible refine (HWO.out _).mono ?_); rintro e w2 ⟨rfl, rfl⟩)) | fail)
  go_ret
  exact ⟨rfl, rfl⟩
theorem would_nil (c : Nat) (w : World) : Calls Try.prog 10 #[.pointer none, .int .u64 (c : Nat)] w fun e w' => e = .returned (.int .i64 1) ∧ w = w' := by
  go_enter Try.func10, Try.ntmps10
  go_wp2_with fail
  go_ret
  exact ⟨rfl, rfl⟩
theorem top_nil (w : World) : Calls Try.prog 13 #[.pointer none] w fun e w' => e = .returned (.tuple #[.int .u64 0, .bool false]) ∧ w = w' := by
  go_enter Try.func13, Try.ntmps13
  go_wp2_with fail
  go_ret2
  exact ⟨rfl, rfl⟩
theorem missing_nil (w : World) : Calls Try.prog 15 #[.pointer none] w fun e w' => e = .returned (.int .i64 0) ∧ w = w' := by
  go_enter Try.func15, Try.ntmps15
  go_wp2_with (first | (go_at_call 13; ((with_reducible refine (top_nil _).mono ?_); rintro e w2 ⟨rfl, rfl⟩)) | fail)
  go_ret
  exact ⟨rfl, rfl⟩
theorem clone_nil (w : World) : Calls Try.prog 8 #[.pointer none] w fun e w' => e = .returned (.pointer none) ∧ w = w' := by
  go_enter Try.func8, Try.ntmps8
  go_wp2_with fail
  go_ret
  exact ⟨rfl, rfl⟩
end Go.Proofs.Ytoodjdaadkbdfaa
