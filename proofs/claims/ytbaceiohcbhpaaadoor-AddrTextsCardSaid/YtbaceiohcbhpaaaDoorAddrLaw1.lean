import Derived.Test.YtbaceiohcbhpaaaDoorAddrP7
namespace Go.Proofs.YtbaceiohcbhpaaaDoor
set_option linter.unusedVariables false
set_option linter.unusedSimpArgs false
set_option maxRecDepth 100000
open Go.RowKit

theorem ex_plain4 : plainOf [10, 0, 0, 7] 24 = ([10, 0, 0, 0], 24, 0) := by kernel_rfl
theorem ex_pp4 : printPC [10, 0, 0, 0] 24 = ([49, 48, 46, 48, 46, 48, 46, 48, 47, 50, 52], 0) := by kernel_rfl
theorem bytes_lit4 (w : World) (x y z u : UInt8) : Bytes (w.alloc (.cells #[.int .u8 x.toNat, .int .u8 y.toNat, .int .u8 z.toNat, .int .u8 u.toNat] 5)) (.slice (some ⟨w.heap.size, 0, none⟩) 4 4) [x, y, z, u] := by
  have h := heap_alloc_new w (.cells #[.int .u8 x.toNat, .int .u8 y.toNat, .int .u8 z.toNat, .int .u8 u.toNat] 5)
  refine ⟨_, _, rfl, .inr ⟨_, 0, rfl, fun i hi => ?_⟩⟩
  rw [Nat.zero_add]
  match i, hi with
  | 0, _ => exact cell_of h 0 rfl
  | 1, _ => exact cell_of h 1 rfl
  | 2, _ => exact cell_of h 2 rfl
  | 3, _ => exact cell_of h 3 rfl
theorem ex_plain (w : World) : Calls Tryd.prog 18 #[.agg #[.slice (some ⟨w.heap.size, 0, none⟩) 4 4, .int .i64 24]] ((w.alloc (.cells #[.int .u8 10, .int .u8 0, .int .u8 0, .int .u8 7] 5))) fun e w' =>
    ∃ bd cp, e = .returned (.tuple #[.agg #[.slice bd 4 cp, .int .i64 24], .int .i64 0]) ∧ Bytes w' (.slice bd 4 cp) [10, 0, 0, 0] ∧ 4 ≤ cp ∧ cp ≤ maxLen ∧ Below w.heap.size w w' := by
  have hb : Bytes ((w.alloc (.cells #[.int .u8 10, .int .u8 0, .int .u8 0, .int .u8 7] 5))) (.slice (some ⟨w.heap.size, 0, none⟩) 4 4) [10, 0, 0, 7] := bytes_lit4 w 10 0 0 7
  have h2 := aplain_any [10, 0, 0, 7] _ 4 24 ((w.alloc (.cells #[.int .u8 10, .int .u8 0, .int .u8 0, .int .u8 7] 5))) hb (by simp) (by simp [maxLen]) (by simp)
  unfold PlainRet4 at h2
  rw [ex_plain4] at h2
  refine h2.mono ?_
  rintro e w' ⟨bd, cp, rfl, h3, h4, h5, h6⟩
  exact ⟨bd, cp, rfl, h3, h4, h5, (below_one _).trans (h6.mono (by simp))⟩
theorem ex_pp (ad : Option Addr) (cp : Nat) (w : World) (h : Bytes w (.slice ad 4 cp) [10, 0, 0, 0]) (hc : 4 ≤ cp) (hm : cp ≤ maxLen) : Calls Tryd.prog 13 #[.agg #[.slice ad 4 cp, .int .i64 24]] w fun e w' =>
    e = .returned (.tuple #[.string ⟨#[49, 48, 46, 48, 46, 48, 46, 48, 47, 50, 52]⟩, .int .i64 0]) ∧ Below w.heap.size w w' := by
  have h2 := app_any [10, 0, 0, 0] ad cp 24 w h hc hm (by simp)
  unfold StrCode at h2
  rw [ex_pp4] at h2
  exact h2
theorem awake4 (w : World) : Calls Tryd.prog 5 #[] w fun e w' => e = .returned (.bool true) ∧ Below w.heap.size w w' := by
  go_enter Tryd.func5, Tryd.ntmps5
  go_wp2_with (first | (go_at_call 18; ((with_reducible refine (ex_plain w).mono ?_); rintro e w1 ⟨bd, cp, rfl, hv, hc, hm, hb⟩; have HV := Lib.hid hv; have HC := Lib.hid hc; have HM := Lib.hid hm; have HB := Lib.hid hb; clear hv hc hm hb)) | (go_at_call 13; ((with_reducible refine (ex_pp _ _ _ (HV.out.below (below_one _)) HC.out HM.out).mono ?_); rintro e w2 ⟨rfl, hb2⟩)) | fail)
  go_ret
  exact ⟨rfl, Below.next (HB.out.alloc HB.out.size _) hb2⟩
end Go.Proofs.YtbaceiohcbhpaaaDoor
