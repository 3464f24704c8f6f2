/- Windows: what a window is in memory; New, has, Would by contract. -/
import Derived.Test.YtoodjdaadkbdfaaWin2
namespace Go.Proofs.Ytoodjdaadkbdfaa
set_option linter.unusedVariables false
set_option linter.unusedSimpArgs false
set_option maxRecDepth 100000
open Go.RowKit
/-- a window's cells: the words of the places, and the top -/
def winC (t : Nat) (W : Nat → Nat) : Array Value := #[.int .u64 (W 0 : Nat), .int .u64 (W 1 : Nat), .int .u64 (W 2 : Nat), .int .u64 (W 3 : Nat), .int .u64 (W 4 : Nat), .int .u64 (W 5 : Nat), .int .u64 (W 6 : Nat), .int .u64 (W 7 : Nat), .int .u64 (W 8 : Nat), .int .u64 (W 9 : Nat), .int .u64 (W 10 : Nat), .int .u64 (W 11 : Nat), .int .u64 (W 12 : Nat), .int .u64 (W 13 : Nat), .int .u64 (W 14 : Nat), .int .u64 (W 15 : Nat), .int .u64 (W 16 : Nat), .int .u64 (W 17 : Nat), .int .u64 (W 18 : Nat), .int .u64 (W 19 : Nat), .int .u64 (W 20 : Nat), .int .u64 (W 21 : Nat), .int .u64 (W 22 : Nat), .int .u64 (W 23 : Nat), .int .u64 (W 24 : Nat), .int .u64 (W 25 : Nat), .int .u64 (W 26 : Nat), .int .u64 (W 27 : Nat), .int .u64 (W 28 : Nat), .int .u64 (W 29 : Nat), .int .u64 (W 30 : Nat), .int .u64 (W 31 : Nat), .int .u64 (t : Nat)]
theorem winC_get (t : Nat) (W : Nat → Nat) : ∀ i, i < 32 → (winC t W)[i]? = some (.int .u64 (W i : Nat)) := fun i hi => match i, hi with
  | 0, _ => rfl
  | 1, _ => rfl
  | 2, _ => rfl
  | 3, _ => rfl
  | 4, _ => rfl
  | 5, _ => rfl
  | 6, _ => rfl
  | 7, _ => rfl
  | 8, _ => rfl
  | 9, _ => rfl
  | 10, _ => rfl
  | 11, _ => rfl
  | 12, _ => rfl
  | 13, _ => rfl
  | 14, _ => rfl
  | 15, _ => rfl
  | 16, _ => rfl
  | 17, _ => rfl
  | 18, _ => rfl
  | 19, _ => rfl
  | 20, _ => rfl
  | 21, _ => rfl
  | 22, _ => rfl
  | 23, _ => rfl
  | 24, _ => rfl
  | 25, _ => rfl
  | 26, _ => rfl
  | 27, _ => rfl
  | 28, _ => rfl
  | 29, _ => rfl
  | 30, _ => rfl
  | 31, _ => rfl
  | k + 32, h => absurd h (by omega)
theorem winC_set (t : Nat) (W : Nat → Nat) (v : Nat) : ∀ i, i < 32 → (winC t W).setIfInBounds i (.int .u64 (v : Nat)) = winC t (setW W i v) := fun i hi => match i, hi with
  | 0, _ => rfl
  | 1, _ => rfl
  | 2, _ => rfl
  | 3, _ => rfl
  | 4, _ => rfl
  | 5, _ => rfl
  | 6, _ => rfl
  | 7, _ => rfl
  | 8, _ => rfl
  | 9, _ => rfl
  | 10, _ => rfl
  | 11, _ => rfl
  | 12, _ => rfl
  | 13, _ => rfl
  | 14, _ => rfl
  | 15, _ => rfl
  | 16, _ => rfl
  | 17, _ => rfl
  | 18, _ => rfl
  | 19, _ => rfl
  | 20, _ => rfl
  | 21, _ => rfl
  | 22, _ => rfl
  | 23, _ => rfl
  | 24, _ => rfl
  | 25, _ => rfl
  | 26, _ => rfl
  | 27, _ => rfl
  | 28, _ => rfl
  | 29, _ => rfl
  | 30, _ => rfl
  | 31, _ => rfl
  | k + 32, h => absurd h (by omega)
theorem winC_top (t t' : Nat) (W : Nat → Nat) : (winC t W).setIfInBounds 32 (.int .u64 (t' : Nat)) = winC t' W := rfl
def WinHeap (w : World) (B t : Nat) (W : Nat → Nat) : Prop := w.heap[B]? = some (.cells (winC t W) 41 (0, 0))
def WinAt (w : World) (B : Nat) (L : List Nat) : Prop := ∃ W, WinOk L W ∧ WinHeap w B (topL L) W
theorem win_cell {w : World} {B t : Nat} {W : Nat → Nat} (h : WinHeap w B t W) (i : Nat) (hi : i < 32) : w.cell? ⟨B, i, none⟩ = some (.int .u64 (W i : Nat)) := cell_of h i (winC_get t W i hi)
theorem win_top {w : World} {B t : Nat} {W : Nat → Nat} (h : WinHeap w B t W) : w.cell? ⟨B, 32, none⟩ = some (.int .u64 (t : Nat)) := cell_of h 32 rfl
theorem WinHeap.below {w w' : World} {B t : Nat} {W : Nat → Nat} (h : WinHeap w B t W) (hb : Below w.heap.size w w') : WinHeap w' B t W := (hb.block B (Array.getElem?_eq_some_iff.1 h).1).trans h
theorem WinAt.below {w w' : World} {B : Nat} {L : List Nat} (h : WinAt w B L) (hb : Below w.heap.size w w') : WinAt w' B L := by
  obtain ⟨W, h1, h2⟩ := h
  exact ⟨W, h1, h2.below hb⟩
theorem below_one {w : World} (o : Obj) : Below w.heap.size w (w.alloc o) := (Below.refl _ _).alloc (Nat.le_refl _) _
theorem new_any (w : World) : Calls Try.prog 7 #[] w fun e w' => e = .returned (.pointer (some ⟨w.heap.size, 0, none⟩)) ∧ WinAt w' w.heap.size [] ∧ Below w.heap.size w w' := by
  go_enter Try.func7, Try.ntmps7
  go_wp2_with fail
  go_ret
  exact ⟨rfl, ⟨_, winok_nil, heap_alloc_new w _⟩, below_one _⟩
theorem has_any (B t c : Nat) (W : Nat → Nat) (w : World) (hw : WinHeap w B t W) (hW : ∀ i, W i < 2 ^ 64) (hc : c < 2 ^ 64) :
    Calls Try.prog 18 #[.pointer (some ⟨B, 0, none⟩), .int .u64 c] w fun e w' => e = .returned (.bool (bitW W (c % 2048))) ∧ w' = w.drew := by
  have c1 := win_cell hw (c / 64 % 32) (by omega)
  have HPL : Hid (∀ w, Calls Try.prog 21 #[.int .u64 c, .int .u64 1] w fun e w' => e = .returned (.int .u64 (pl c 1 : Nat)) ∧ w = w') := Lib.hid (fun w => places_any c 1 hc (by omega) (by omega) w)
  have hbk := fun w => block_any c hc w
  have hv : (Bool.not (decide ((W (c / 64 % 32) &&& pl c 1 : Nat) = (0 : Nat)))) = bitW W (c % 2048) := by
    have := and_pl W c
    by_cases h0 : W (c / 64 % 32) &&& pl c 1 = 0
    · have h2 : ¬ bitW W (c % 2048) = true := fun hb => this.2 hb h0
      simp [h0, h2]
    · simp [h0, this.1 h0]
  have e1 := and_u64 (W (c / 64 % 32)) (pl c 1) (hW _) (pl_lt c 1 (by omega))
  have hi : c / 64 % 32 < 32 := by omega
  generalize c / 64 % 32 = i at *
  generalize W i = x at *
  have HBK := Lib.hid hbk
  have hi0 : (0 : Int) ≤ i := by omega
  have hi1 : (i : Int) < 32 := by omega
  generalize bitW W (c % 2048) = r at *
  generalize x &&& pl c 1 = z at *
  clear hc hW hw hbk
  have HV := Lib.hid hv
  clear hv
  go_enter Try.func18, Try.ntmps18
  go_wp2_with fail
  go_region_held3 (fun W => W.cell? ⟨B, i, none⟩ = some (.int .u64 (x : Nat))) (exact c1) (first | ((go_at_call 20; ((with_reducible refine (HBK.out _).mono ?_); rintro e w2 ⟨rfl, rfl⟩))) | ((go_at_call 21; ((with_reducible refine (HPL.out _).mono ?_); rintro e w2 ⟨rfl, rfl⟩))))
  go_wp2_with fail
  go_ret
  refine ⟨ret_bool ?_, rfl⟩
  rw [← HV.out]
  by_cases h0 : z = 0 <;> simp [h0]
theorem ptr_nil (B : Nat) (W : World) : (binOp .eql 24 (.pointer (some ⟨B, 0, none⟩)) (.pointer none)).run Try.prog W = .ok (.bool false) W := by kernel_rfl
def Told (k : Nat) (w : World) (e : Ending) (w' : World) : Prop := e = .returned (.int .i64 (k : Nat)) ∧ ∃ q, w' = w.drewN q
theorem would_any (B c : Nat) (L : List Nat) (w : World) (hw : WinAt w B L) (hg : Good L) (hc : c < 2 ^ 64) :
    Calls Try.prog 10 #[.pointer (some ⟨B, 0, none⟩), .int .u64 c] w (Told (wouldL L c) w) := by
  obtain ⟨W, hok, hh⟩ := hw
  have ct := win_top hh
  have hcl := le64 c hc
  have htop : (topL L : Int) ≥ 0 := by omega
  by_cases h1 : most ≤ c
  · have e : wouldL L c = 10 := by unfold wouldL; rw [if_pos h1]
    rw [e]
    have h1i : (18446744073709543423 : Int) ≤ c := by unfold most at h1; omega
    clear hg h1 e hc hok hh
    go_enter Try.func10, Try.ntmps10
    go_wp2_with fail
    go_ret
    exact ⟨rfl, 0, rfl⟩
  · have h1i : ¬ (18446744073709543423 : Int) ≤ c := by unfold most at h1; omega
    by_cases h2 : topL L < c
    · have e : wouldL L c = 0 := by
        unfold wouldL; rw [if_neg h1, if_neg]
        rintro (hm | hm)
        · have := le_topL hm; omega
        · omega
      rw [e]
      have h2i : (topL L : Int) < c := by omega
      generalize topL L = t at *
      clear hg h1 h2 e hc hok hh
      go_enter Try.func10, Try.ntmps10
      go_wp2_with fail
      go_ret
      exact ⟨rfl, 0, rfl⟩
    · have h2i : ¬ (topL L : Int) < c := by omega
      have htm := good_top hg
      have hsub : IntKind.u64.wrap ((topL L : Int) - c) = ((topL L - c : Nat) : Int) := by
        unfold most at htm
        rw [wrap_u64 _ (by omega) (by omega)]; omega
      clear htm
      by_cases h3 : c + 2048 ≤ topL L
      · have e : wouldL L c = 9 := by
          unfold wouldL; rw [if_neg h1, if_pos (.inr h3)]
        rw [e]
        have h3i : (2048 : Int) ≤ ((topL L - c : Nat) : Int) := by omega
        generalize topL L - c = s at *
        generalize topL L = t at *
        clear hg h1 h2 h3 e hc hok hh
        go_enter Try.func10, Try.ntmps10
        go_wp2_with fail
        go_ret
        exact ⟨rfl, 0, rfl⟩
      · have h3i : ¬ (2048 : Int) ≤ ((topL L - c : Nat) : Int) := by omega
        have hb : bitW W (c % 2048) = decide (c ∈ L) := by
          have := has_iff hok (show c ≤ topL L by omega) (by omega)
          by_cases hm : c ∈ L
          · rw [this.2 hm, decide_eq_true hm]
          · rw [decide_eq_false hm]
            cases hx : bitW W (c % 2048) with
            | true => exact absurd (this.1 hx) hm
            | false => rfl
        have HHS : Hid (∀ w, WinHeap w B (topL L) W → Calls Try.prog 18 #[.pointer (some ⟨B, 0, none⟩), .int .u64 c] w fun e w' => e = .returned (.bool (decide (c ∈ L))) ∧ w' = w.drew) := Lib.hid (fun w h => by rw [← hb]; exact has_any B (topL L) c W w h hok.wd hc)
        have HW0 : Hid (WinHeap w B (topL L) W) := Lib.hid hh
        by_cases hm : c ∈ L
        · have e : wouldL L c = 9 := by
            unfold wouldL; rw [if_neg h1, if_pos (.inl hm)]
          rw [e]
          rw [decide_eq_true hm] at HHS
          generalize topL L - c = s at *
          generalize topL L = t at *
          clear hg h1 h2 h3 e hc hok hh hm hb
          go_enter Try.func10, Try.ntmps10
          go_wp2_with (first | (go_at_call 18; ((with_reducible refine (HHS.out _ HW0.out).mono ?_); rintro e w2 ⟨rfl, rfl⟩)) | fail)
          go_ret
          exact ⟨rfl, 1, rfl⟩
        · have e : wouldL L c = 0 := by
            unfold wouldL; rw [if_neg h1, if_neg]
            rintro (h | h)
            · exact hm h
            · exact h3 h
          rw [e]
          rw [decide_eq_false hm] at HHS
          generalize topL L - c = s at *
          generalize topL L = t at *
          clear hg h1 h2 h3 e hc hok hh hm hb
          go_enter Try.func10, Try.ntmps10
          go_wp2_with (first | (go_at_call 18; ((with_reducible refine (HHS.out _ HW0.out).mono ?_); rintro e w2 ⟨rfl, rfl⟩)) | fail)
          go_ret
          exact ⟨rfl, 1, rfl⟩
end Go.Proofs.Ytoodjdaadkbdfaa
