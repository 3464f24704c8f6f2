import Derived.Test.YtelfcdfbhnkakaaTermLaw2
import Derived.Deep.RegionHeld3
namespace Go.Proofs.Ytelfcdfbhnkakaa
set_option linter.unusedVariables false
set_option linter.unusedSimpArgs false
set_option maxRecDepth 100000
open Go.RowKit

set_option maxHeartbeats 4000000 in
theorem termreads_c2 (s : ByteArray) (hsm : s.size ≤ maxLen) (h5 : ¬ 2000 < s.size) (k n : Nat) (b : List UInt8) (ps : List (List UInt8)) (hx : lookR s.data.toList = (k, n, ps)) (hb : bytesR s.data.toList = b) (hk : k = 3) (w : World) :
    Calls Try.prog 3 #[.string s] w fun e w' => e = .returned (.bool true) ∧ Below w.heap.size w w' := by
  have hps : ps.length ≤ maxLen := by
    have := lookR_len s.data.toList
    rw [hx] at this
    unfold maxLen; simp at this; omega
  have hrn := fun w => rnode_any s hsm w
  rw [node_eq, hx, hb] at hrn
  have hv := fun w => value_q s hsm w
  rw [hx] at hv
  have hby := fun w => bytes_any s hsm w
  rw [hx, hb] at hby
  have hpa := fun w => parts_any s hsm w
  rw [hx] at hpa
  have hkd := fun w => kind_any s hsm w
  rw [hx] at hkd
  have HRN : Hid (∀ w, Calls Try.prog 8 #[.string s] w fun e w' => ∃ ab cb ap cp, e = .returned (.agg #[.int .i64 k, .int .u64 n, .slice ab b.length cb, .slice ap ps.length cp]) ∧ Bytes w' (.slice ab b.length cb) b ∧ Strs w' (.slice ap ps.length cp) ps ∧ Below w.heap.size w w') := Lib.hid hrn
  have HKD : Hid (∀ w, Calls Try.prog 12 #[.string s] w fun e w' => e = .returned (.int .i64 k) ∧ Below w.heap.size w w') := Lib.hid hkd
  have HPA : Hid (∀ w, Calls Try.prog 11 #[.string s] w fun e w' => ∃ v, e = .returned v ∧ Strs w' v ps ∧ Below w.heap.size w w') := Lib.hid hpa
  have HM : Hid (k ≠ 0 → ∀ w vb vl, Bytes w vb b → Strs w vl ps → Calls Try.prog 15 #[.int .i64 k, .int .u64 n, vb, vl] w fun e w' => e = .returned (.string s) ∧ Below w.heap.size w w') := Lib.hid (make_back s k n b ps hx hb hsm hps)
  have HPS := Lib.hid hps
  clear hrn hkd hpa hx hb hps
  have HV : Hid (∀ w, Calls Try.prog 9 #[.string s] w fun e w' => e = .returned (.tuple #[.int .u64 n, .bool true]) ∧ Below w.heap.size w w') := Lib.hid (by rw [hk] at hv; exact hv)
  have HBY : Hid (∀ w, Calls Try.prog 10 #[.string s] w fun e w' => ∃ v, e = .returned (.tuple #[v, .bool false]) ∧ Bytes w' v b ∧ Below w.heap.size w w') := Lib.hid (by rw [hk] at hby; exact hby)
  have e0 : ((k : Int) == 0) = false := b_ne (by omega)
  have e2 : ((k : Int) == 2) = false := b_ne (by omega)
  have e3 : ((k : Int) == 3) = true := b_eq (by omega)
  have e4 : ((k : Int) == 4) = false := b_ne (by omega)
  have e8 : ((k : Int) == 8) = false := b_ne (by omega)
  have e10 : ((k : Int) == 10) = false := b_ne (by omega)
  have HM2 := Lib.hid (HM.out (by omega))
  clear hk hv hby
  iterate 1
    go_enter Try.func3, Try.ntmps3
    go_wp2_with (first | (go_at_call 7; ((with_reducible refine (aw2 _).mono ?_); rintro e w1 ⟨rfl, hb1⟩)) | (go_at_call 8; ((with_reducible refine (HRN.out _).mono ?_); rintro e w2 ⟨ab, cb, ap, cp, rfl, hvb2, hvp2, hb2⟩)) | (go_at_call 9; ((with_reducible refine (HV.out _).mono ?_); rintro e w3 ⟨rfl, hb3⟩)) | (go_at_call 10; ((with_reducible refine (HBY.out _).mono ?_); rintro e w4 ⟨v4, rfl, hv4, hb4⟩)) | (go_at_call 11; ((with_reducible refine (HPA.out _).mono ?_); rintro e w5 ⟨v5, rfl, hv5, hb5⟩)) | fail)
    have x3 := (hb3.block w2.heap.size (by simp)).trans (heap_alloc_new w2 _)
    have x4 := (hb4.block w2.heap.size (Array.getElem?_eq_some_iff.1 x3).1).trans x3
    have x5 := (hb5.block w2.heap.size (Array.getElem?_eq_some_iff.1 x4).1).trans x4
    have hB5 : Below w.heap.size w w5 := Below.next (Below.next (Below.next ((Below.next hb1 hb2).alloc (Below.next hb1 hb2).size _) hb3) hb4) hb5
    have HB5 := Lib.hid hB5
    have HY := Lib.hid ((((bytes_alloc hvb2 _).below hb3).below hb4).below hb5)
    have HY4 := Lib.hid (hv4.below hb5)
    have HS := Lib.hid ((((strs_alloc hvp2 _).below hb3).below hb4).below hb5)
    have HS5 := Lib.hid hv5
    clear hb1 hb2 hb3 hb4 hb5 hvb2 hvp2 hv4 hv5 x3 x4 hB5
    generalize w2.heap.size = B at *
    have c0 : w5.cell? ⟨B, 0, none⟩ = some (.int .i64 k) := cell_of x5 0 rfl
    have c1 : w5.cell? ⟨B, 1, none⟩ = some (.int .u64 n) := cell_of x5 1 rfl
    have c2 : w5.cell? ⟨B, 2, none⟩ = some (.slice ab b.length cb) := cell_of x5 2 rfl
    have c3 : w5.cell? ⟨B, 3, none⟩ = some (.slice ap ps.length cp) := cell_of x5 3 rfl
    have HX5 := Lib.hid x5
    clear x5
    refine wp_region_noPanic ?_
    first
    | (go_region_with (first | (go_at_call 12; ((with_reducible refine (HKD.out _).mono ?_); rintro e w6 ⟨rfl, hb6⟩; have x6 : w6.heap[B]? = some (.cells #[.int .i64 k, .int .u64 n, .slice ab b.length cb, .slice ap ps.length cp] 27) := (hb6.block B (Array.getElem?_eq_some_iff.1 HX5.out).1).trans HX5.out; have d0 : w6.cell? ⟨B, 0, none⟩ = some (.int .i64 k) := cell_of x6 0 rfl; have d1 : w6.cell? ⟨B, 1, none⟩ = some (.int .u64 n) := cell_of x6 1 rfl; have d2 : w6.cell? ⟨B, 2, none⟩ = some (.slice ab b.length cb) := cell_of x6 2 rfl; have d3 : w6.cell? ⟨B, 3, none⟩ = some (.slice ap ps.length cp) := cell_of x6 3 rfl; have HB6 := Lib.hid hb6; have HYA := Lib.hid (Bytes.below (w := w5.drew) HY.out hb6); have HYB := Lib.hid (Bytes.below (w := w5.drew) HY4.out hb6); have HSA := Lib.hid (Strs.below (w := w5.drew) HS.out hb6); have HSB := Lib.hid (Strs.below (w := w5.drew) HS5.out hb6); clear x6 hb6)) | (go_at_call 13; ((with_reducible refine (rsame2_self _ _ ps _ HSB.out HSA.out HPS.out).mono ?_); rintro e w7 ⟨rfl, q7, rfl⟩)) | (go_at_call 14; ((with_reducible refine (same_self _ _ b _ (bytes_drew HYB.out _) (bytes_drew HYA.out _)).mono ?_); rintro e w8 ⟨rfl, rfl⟩))))
    | fail
    all_goals
      refine NoPanic.normal ?_
      go_wp2_with (first | (go_at_call 15; ((with_reducible refine (HM2.out _ _ _ (bytes_drew HYB.out _) (strs_drew HSB.out _)).mono ?_); rintro e w9 ⟨rfl, hb9⟩)) | fail)
      go_ret
      exact ⟨rfl, Below.next (below_drewN (Below.next HB5.out (below_drew1 HB6.out)) _) hb9⟩
end Go.Proofs.Ytelfcdfbhnkakaa
