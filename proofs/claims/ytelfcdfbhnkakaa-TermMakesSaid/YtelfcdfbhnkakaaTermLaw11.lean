import Derived.Test.YtelfcdfbhnkakaaRef9
import Derived.Test.YtelfcdfbhnkakaaTermLaw2
namespace Go.Proofs.Ytelfcdfbhnkakaa
set_option linter.unusedVariables false
set_option linter.unusedSimpArgs false
set_option maxRecDepth 100000
open Go.RowKit

theorem str_nil_facts {T : List UInt8} (h : T ≠ []) : (strB T).toList.isEmpty = false ∧ ((strB T).toList == []) = false := by
  rw [toList_eq]
  show T.isEmpty = false ∧ (T == []) = false
  cases T with
  | nil => exact absurd rfl h
  | cons c r => exact ⟨rfl, rfl⟩
theorem nil_facts : (strB []).toList.isEmpty = true ∧ ((strB []).toList == []) = true := by
  rw [toList_eq]; exact ⟨rfl, rfl⟩
theorem make_nat {kind : Int} {n : Nat} {b : List UInt8} {l : List (List UInt8)} (h : makeR kind n b l ≠ []) : ∃ k : Nat, kind = k ∧ 1 ≤ k ∧ k ≤ 11 ∧ makeR kind n b l = makeK k n b l := by
  unfold makeR at h ⊢
  split
  · rename_i hk
    exact ⟨kind.toNat, by omega, by omega, by omega, rfl⟩
  · rename_i hk; rw [if_neg hk] at h; exact absurd rfl h
theorem sort_not6 {k : Nat} {l : List (List UInt8)} (h : k ≠ 6) : sortL k l = l := by unfold sortL; rw [if_neg fun h2 => h h2.1]

theorem termmakes_walk (kind : Int) (n : Nat) (hn : n ≤ top) (vb vl : Value) (b : List UInt8) (l : List (List UInt8)) (w : World) (hb : Bytes w vb b) (hl : Strs w vl l) (hbm : b.length ≤ maxLen) (hlm : l.length ≤ maxLen) (hsz : ∀ x ∈ l, x.length ≤ maxLen) :
    Calls Try.prog 4 #[.int .i64 kind, .int .u64 n, vb, vl] w fun e w' => e = .returned (.bool true) ∧ Below w.heap.size w w' := by
  have HLM := Lib.hid hlm
  have hS : ∀ w, Strs w vl l → Calls Try.prog 16 #[vl] w fun e w' => e = .returned (.int .i64 (sizeZ l)) ∧ w = w' := fun w h => size_any vl l w h hlm
  have HSI := Lib.hid hS
  have HBY := Lib.hid hb
  have HLS := Lib.hid hl
  obtain ⟨ab, cb, rfl, _⟩ := id hb
  obtain ⟨al, cl, rfl, _⟩ := id hl
  unfold maxLen at hbm hlm
  clear hb hl hS
  by_cases h1 : 1000 < b.length
  · have h1i : (1000 : Int) < b.length := by omega
    go_enter Try.func4, Try.ntmps4
    go_wp2_with (first | (go_at_call 7; ((with_reducible refine (aw2 _).mono ?_); rintro e w1 ⟨rfl, hb1⟩; have HB1 := Lib.hid hb1; clear hb1)) | fail)
    go_ret
    exact ⟨rfl, HB1.out⟩
  have h1i : (b.length : Int) ≤ 1000 := by omega
  by_cases h2 : 100 < l.length
  · have h2i : (100 : Int) < l.length := by omega
    go_enter Try.func4, Try.ntmps4
    go_wp2_with (first | (go_at_call 7; ((with_reducible refine (aw2 _).mono ?_); rintro e w1 ⟨rfl, hb1⟩; have HB1 := Lib.hid hb1; clear hb1)) | fail)
    go_ret
    exact ⟨rfl, HB1.out⟩
  have h2i : (l.length : Int) ≤ 100 := by omega
  by_cases h3 : 2000 < sizeZ l
  · generalize sizeZ l = z at *
    go_enter Try.func4, Try.ntmps4
    go_wp2_with (first | (go_at_call 7; ((with_reducible refine (aw2 _).mono ?_); rintro e w1 ⟨rfl, hb1⟩; have HB1 := Lib.hid hb1; clear hb1)) | (go_at_call 16; ((with_reducible refine (HSI.out _ (HLS.out.below HB1.out)).mono ?_); rintro e w' ⟨rfl, rfl⟩)) | fail)
    go_ret
    exact ⟨rfl, HB1.out⟩
  generalize sizeZ l = z at *
  obtain ⟨T, hT⟩ : ∃ T, makeR kind n b l = T := ⟨_, rfl⟩
  have hM : ∀ w vb vl, Bytes w vb b → Strs w vl l → Calls Try.prog 15 #[.int .i64 kind, .int .u64 n, vb, vl] w fun e w' => e = .returned (.string (strB T)) ∧ Below w.heap.size w w' := fun w vb vl h1 h2 => by rw [← hT]; exact make_any kind n hn vb vl b l w h1 h2 (by unfold maxLen; omega) (by unfold maxLen; omega)
  have hRM : ∀ w vb vl, Bytes w vb b → Strs w vl l → Calls Try.prog 17 #[.int .i64 kind, .int .u64 n, vb, vl] w fun e w' => e = .returned (.string (strB T)) ∧ Below w.heap.size w w' := fun w vb vl h1 h2 => by rw [← hT]; exact rmake_any kind n hn vb vl b l w h1 h2 (by omega) (by omega) hsz
  have HMK := Lib.hid hM
  have HRM := Lib.hid hRM
  have hxx : ((strB T).toList == (strB T).toList) = true := by simp
  clear hM hRM hsz
  by_cases hT0 : T = []
  · subst hT0
    obtain ⟨z1, z2⟩ := nil_facts
    clear hT
    go_enter Try.func4, Try.ntmps4
    go_wp2_with (first | (go_at_call 7; ((with_reducible refine (aw2 _).mono ?_); rintro e w1 ⟨rfl, hb1⟩; have HB1 := Lib.hid hb1; clear hb1)) | (go_at_call 16; ((with_reducible refine (HSI.out _ (HLS.out.below HB1.out)).mono ?_); rintro e w' ⟨rfl, rfl⟩)) | (go_at_call 15; ((with_reducible refine (HMK.out _ _ _ (HBY.out.below HB1.out) (HLS.out.below HB1.out)).mono ?_); rintro e w2 ⟨rfl, hb2⟩; have HB2 := Lib.hid (Below.next HB1.out hb2); clear hb2)) | (go_at_call 17; ((with_reducible refine (HRM.out _ _ _ (HBY.out.below HB2.out) (HLS.out.below HB2.out)).mono ?_); rintro e w3 ⟨rfl, hb3⟩; have HB3 := Lib.hid (Below.next HB2.out hb3); clear hb3)) | fail)
    go_ret
    exact ⟨rfl, HB3.out⟩
  obtain ⟨hn1, hn2⟩ := str_nil_facts hT0
  obtain ⟨k, rfl, hk1, hk2, hR⟩ := make_nat (by rw [hT]; exact hT0)
  have hmk : makeK k n b l = T := by rw [← hR, hT]
  have hhas := make_has (by rw [hmk]; exact hT0)
  rw [hmk] at hhas
  by_cases h6 : k = 6
  · have e6 : ((k : Int) == 6) = true := b_eq (by omega)
    clear hT hT0 hR hmk hhas h6
    go_enter Try.func4, Try.ntmps4
    go_wp2_with (first | (go_at_call 7; ((with_reducible refine (aw2 _).mono ?_); rintro e w1 ⟨rfl, hb1⟩; have HB1 := Lib.hid hb1; clear hb1)) | (go_at_call 16; ((with_reducible refine (HSI.out _ (HLS.out.below HB1.out)).mono ?_); rintro e w' ⟨rfl, rfl⟩)) | (go_at_call 15; ((with_reducible refine (HMK.out _ _ _ (HBY.out.below HB1.out) (HLS.out.below HB1.out)).mono ?_); rintro e w2 ⟨rfl, hb2⟩; have HB2 := Lib.hid (Below.next HB1.out hb2); clear hb2)) | (go_at_call 17; ((with_reducible refine (HRM.out _ _ _ (HBY.out.below HB2.out) (HLS.out.below HB2.out)).mono ?_); rintro e w3 ⟨rfl, hb3⟩; have HB3 := Lib.hid (Below.next HB2.out hb3); clear hb3)) | fail)
    go_ret
    exact ⟨rfl, HB3.out⟩
  · have e6 : ((k : Int) == 6) = false := b_ne (by omega)
    rw [sort_not6 h6] at hhas
    have hTl : (strB T).size ≤ maxLen := by
      have hlk : isL T = true := by unfold isL; rw [decide_eq_true_eq]; omega
      have := (isL_whole.1 hlk).1
      rw [strB_size]; unfold maxLen; omega
    have hkd : ∀ w, Calls Try.prog 12 #[.string (strB T)] w fun e w' => e = .returned (.int .i64 k) ∧ Below w.heap.size w w' := fun w => by
      have h := kind_any (strB T) hTl w
      rw [show (lookR (strB T).data.toList).1 = k from hhas.1] at h
      exact h
    have hpa : ∀ w, Calls Try.prog 11 #[.string (strB T)] w fun e w' => ∃ v, e = .returned v ∧ Strs w' v l ∧ Below w.heap.size w w' := fun w => by
      have h := parts_any (strB T) hTl w
      rw [show (lookR (strB T).data.toList).2.2 = l from hhas.2] at h
      exact h
    have HKD := Lib.hid hkd
    have HPA := Lib.hid hpa
    have ekk : ((k : Int) == k) = true := by simp
    clear hT hT0 hR hmk hhas h6 hTl hkd hpa
    go_enter Try.func4, Try.ntmps4
    go_wp2_with (first | (go_at_call 7; ((with_reducible refine (aw2 _).mono ?_); rintro e w1 ⟨rfl, hb1⟩; have HB1 := Lib.hid hb1; clear hb1)) | (go_at_call 16; ((with_reducible refine (HSI.out _ (HLS.out.below HB1.out)).mono ?_); rintro e w' ⟨rfl, rfl⟩)) | (go_at_call 15; ((with_reducible refine (HMK.out _ _ _ (HBY.out.below HB1.out) (HLS.out.below HB1.out)).mono ?_); rintro e w2 ⟨rfl, hb2⟩; have HB2 := Lib.hid (Below.next HB1.out hb2); clear hb2)) | (go_at_call 17; ((with_reducible refine (HRM.out _ _ _ (HBY.out.below HB2.out) (HLS.out.below HB2.out)).mono ?_); rintro e w3 ⟨rfl, hb3⟩; have HB3 := Lib.hid (Below.next HB2.out hb3); clear hb3)) | (go_at_call 12; ((with_reducible refine (HKD.out _).mono ?_); rintro e w4 ⟨rfl, hb4⟩; have HB4 := Lib.hid (Below.next HB3.out hb4); clear hb4)) | (go_at_call 11; ((with_reducible refine (HPA.out _).mono ?_); rintro e w5 ⟨v5, rfl, hv5, hb5⟩; have HV5 := Lib.hid hv5; have HB5 := Lib.hid (Below.next HB4.out hb5); clear hb5 hv5)) | (go_at_call 13; ((with_reducible refine (rsame2_self _ _ l _ HV5.out (HLS.out.below HB5.out) HLM.out).mono ?_); rintro e w6 ⟨rfl, q6, rfl⟩)) | fail)
    go_ret
    exact ⟨rfl, below_drewN HB5.out _⟩
end Go.Proofs.Ytelfcdfbhnkakaa
