/- The program's Print and PrintPrefix, by contract: the whole. -/
import Derived.Test.YtbaceiohcbhpaaaDoorAddrP6
namespace Go.Proofs.YtbaceiohcbhpaaaDoor
set_option linter.unusedVariables false
set_option linter.unusedSimpArgs false
set_option maxRecDepth 100000
open Go.RowKit

theorem aprint_any (a : List UInt8) (ad : Option Addr) (cp : Nat) (w : World) (ha : Bytes w (.slice ad a.length cp) a) (hac : a.length ≤ cp) (hcm : cp ≤ maxLen) (hal : a.length ≤ 1000) :
    Calls Tryd.prog 12 #[.slice ad a.length cp] w (StrCode w (printC a)) := by
  by_cases h4 : a.length = 4
  · exact aprint_short a ad cp w ha h4
  · by_cases h16 : a.length = 16
    · exact aprint_long a ad cp w ha h16
    · exact aprint_none a ad cp w hal h4 h16
theorem printC_ok {a : List UInt8} (h : a.length = 4 ∨ a.length = 16) : printC a = (printA a, 0) := by unfold printC; rw [if_pos h]
theorem printC_no {a : List UInt8} (h : ¬ (a.length = 4 ∨ a.length = 16)) : printC a = ([], 3) := by unfold printC; rw [if_neg h]
theorem printPC_ok {a : List UInt8} {bits : Int} (h : isPlainB a bits = true) : printPC a bits = (printA a ++ 47 :: decs bits.toNat, 0) := by
  unfold isPlainB at h
  rw [Bool.and_eq_true, beq_iff_eq] at h
  unfold printPC; rw [if_pos h]
theorem printPC_no {a : List UInt8} {bits : Int} (h : isPlainB a bits = false) : printPC a bits = ([], 3) := by
  unfold printPC
  rw [if_neg ?_]
  intro h2
  unfold isPlainB at h
  rw [h2.1, h2.2] at h
  simp at h
theorem sz47a : (⟨#[47]⟩ : ByteArray).size = 1 := rfl
theorem app47a (S : List UInt8) : strB S ++ ⟨#[47]⟩ = strB (S ++ [47]) := by rw [show (⟨#[47]⟩ : ByteArray) = strB [47] from rfl, strB_app]
theorem printA_len2 (a : List UInt8) (h : a.length ≤ 1000) : (printA a).length ≤ 30000 := by
  have := prt_len a.length a a.length
  unfold printA; omega
set_option maxHeartbeats 4000000 in
theorem app_any (a : List UInt8) (ad : Option Addr) (cp : Nat) (bits : Int) (w : World) (ha : Bytes w (.slice ad a.length cp) a) (hac : a.length ≤ cp) (hcm : cp ≤ maxLen) (hal : a.length ≤ 1000) :
    Calls Tryd.prog 13 #[.agg #[.slice ad a.length cp, .int .i64 bits]] w (StrCode w (printPC a bits)) := by
  have e0 := heap_alloc_new w (.cells #[.slice ad a.length cp, .int .i64 bits] 30)
  have c0 : (w.alloc (.cells #[.slice ad a.length cp, .int .i64 bits] 30)).cell? ⟨w.heap.size, 0, none⟩ = some (.slice ad a.length cp) := cell_of e0 0 rfl
  have c1 : (w.alloc (.cells #[.slice ad a.length cp, .int .i64 bits] 30)).cell? ⟨w.heap.size, 1, none⟩ = some (.int .i64 bits) := cell_of e0 1 rfl
  have HB0 : Hid (Below w.heap.size w (w.alloc (.cells #[.slice ad a.length cp, .int .i64 bits] 30))) := Lib.hid (below_one _)
  have HVA := Lib.hid ha
  clear e0 ha
  by_cases hl : a.length = 4 ∨ a.length = 16
  · have HPR : Hid (∀ w, Bytes w (.slice ad a.length cp) a → Calls Tryd.prog 12 #[.slice ad a.length cp] w fun e w' => e = .returned (.tuple #[.string (strB (printA a)), .int .i64 0]) ∧ Below w.heap.size w w') := Lib.hid (fun w h => by
      have := aprint_any a ad cp w h hac hcm hal
      rw [printC_ok hl] at this; exact this)
    obtain ⟨ip, hip⟩ : ∃ r, isPlainB a bits = r := ⟨_, rfl⟩
    have HIP : Hid (∀ w, Bytes w (.slice ad a.length cp) a → Calls Tryd.prog 25 #[.agg #[.slice ad a.length cp, .int .i64 bits]] w fun e w' => e = .returned (.bool ip) ∧ Below w.heap.size w w') := Lib.hid (fun w h => by
      have := aisplain_any a ad cp bits w h hac hcm hal
      rw [hip] at this; exact this)
    cases ip with
    | false =>
      have HR := Lib.hid (printPC_no hip)
      clear hl hip
      go_enter Tryd.func13, Tryd.ntmps13
      go_wp2_with (first | (go_at_call 12; ((with_reducible refine (HPR.out _ (HVA.out.below (below_one _))).mono ?_); rintro e w2 ⟨rfl, hb2⟩; have c0 := cell_keep4 c0 hb2; have c1 := cell_keep4 c1 hb2; have HB := Lib.hid (Below.next HB0.out hb2); clear hb2)) | (go_at_call 25; ((with_reducible refine (HIP.out _ (HVA.out.below HB.out)).mono ?_); rintro e w3 ⟨rfl, hb3⟩; have c0 := cell_keep4 c0 hb3; have c1 := cell_keep4 c1 hb3; have HB2 := Lib.hid (Below.next HB.out hb3); clear hb3)) | fail)
      go_ret2
      exact ⟨by rw [HR.out]; rfl, HB2.out⟩
    | true =>
      have HR := Lib.hid (printPC_ok hip)
      have hrt : rightP a.length bits = true := by unfold isPlainB at hip; rw [Bool.and_eq_true] at hip; exact hip.1
      obtain ⟨_, hb0, hb8⟩ := right_len hrt
      have hl1 := printA_len2 a hal
      have hl2 := decs_top bits.toNat (by unfold top; omega)
      obtain ⟨m, hm⟩ : ∃ m, bits.toNat = m := ⟨_, rfl⟩
      have hbm : bits = (m : Int) := by omega
      rw [hm] at HR hl2
      subst hbm
      have HNP : Hid (∀ w, Calls Tryd.prog 26 #[.int .u64 m] w fun e w' => e = .returned (.string (strB (decs m))) ∧ Below w.heap.size w w') := Lib.hid (fun w => print_any m (by unfold top; omega) w)
      have hmi : (m : Int) ≤ 8000 := by omega
      have hm0 : (0 : Int) ≤ m := by omega
      have HT : Hid ((strB (printA a) ++ ⟨#[47]⟩) ++ strB (decs m) = strB (printA a ++ 47 :: decs m)) := Lib.hid (by rw [app47a, strB_app]; simp)
      have hs1 := strB_size (printA a)
      have hs2 := strB_size (decs m)
      have hs3 := sz47a
      have hwm : IntKind.u64.wrap (m : Int) = (m : Int) := by simp only [IntKind.wrap, IntKind.bits, IntKind.signed]; simp; omega
      clear hl hip hrt hm hb0 hb8
      generalize printA a = P at *
      generalize decs m = D at *
      go_enter Tryd.func13, Tryd.ntmps13
      go_wp2_with (first | (go_at_call 12; ((with_reducible refine (HPR.out _ (HVA.out.below (below_one _))).mono ?_); rintro e w2 ⟨rfl, hb2⟩; have c0 := cell_keep4 c0 hb2; have c1 := cell_keep4 c1 hb2; have HB := Lib.hid (Below.next HB0.out hb2); clear hb2)) | (go_at_call 25; ((with_reducible refine (HIP.out _ (HVA.out.below HB.out)).mono ?_); rintro e w3 ⟨rfl, hb3⟩; have c0 := cell_keep4 c0 hb3; have c1 := cell_keep4 c1 hb3; have HB2 := Lib.hid (Below.next HB.out hb3); clear hb3)) | (go_at_call 26; ((with_reducible refine (HNP.out _).mono ?_); rintro e w4 ⟨rfl, hb4⟩; have HB3 := Lib.hid (Below.next HB2.out hb4); clear hb4)) | fail)
      go_ret2
      exact ⟨by rw [HR.out]; show Ending.returned (.tuple #[.string _, _]) = _; rw [HT.out]; rfl, HB3.out⟩
  · have HPR : Hid (∀ w, Bytes w (.slice ad a.length cp) a → Calls Tryd.prog 12 #[.slice ad a.length cp] w fun e w' => e = .returned (.tuple #[.string ⟨#[]⟩, .int .i64 3]) ∧ Below w.heap.size w w') := Lib.hid (fun w h => by
      have := aprint_any a ad cp w h hac hcm hal
      rw [printC_no hl] at this; exact this)
    have HR : Hid (printPC a bits = ([], 3)) := Lib.hid (printPC_no (by
      unfold isPlainB
      cases h : rightP a.length bits with
      | false => rfl
      | true => exact absurd (right_len h).1 hl))
    clear hl
    go_enter Tryd.func13, Tryd.ntmps13
    go_wp2_with (first | (go_at_call 12; ((with_reducible refine (HPR.out _ (HVA.out.below (below_one _))).mono ?_); rintro e w2 ⟨rfl, hb2⟩; have c0 := cell_keep4 c0 hb2; have c1 := cell_keep4 c1 hb2; have HB := Lib.hid (Below.next HB0.out hb2); clear hb2)) | fail)
    go_ret2
    exact ⟨by rw [HR.out]; rfl, HB.out⟩
end Go.Proofs.YtbaceiohcbhpaaaDoor
