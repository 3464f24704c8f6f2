import Derived.Test.YtbaceiohcbhpaaaDoorAddrLaw4
import Derived.Test.YtbaceiohcbhpaaaDoorAddr9
namespace Go.Proofs.YtbaceiohcbhpaaaDoor
set_option linter.unusedVariables false
set_option linter.unusedSimpArgs false
set_option maxRecDepth 100000
open Go.RowKit

theorem drop_head {S : List UInt8} (h : S.dropWhile (· != 47) ≠ []) : S.dropWhile (· != 47) = 47 :: (S.dropWhile (· != 47)).tail := by
  induction S with
  | nil => exact absurd rfl h
  | cons c S ih =>
    by_cases hc : (c != 47) = true
    · rw [List.dropWhile_cons_of_pos (p := fun x => x != 47) hc] at h ⊢
      exact ih h
    · rw [List.dropWhile_cons_of_neg (p := fun x => x != 47) hc]
      have : c = 47 := by simpa using hc
      rw [this]; rfl
/-- what is read is printed as it was -/
theorem refReadP_text {S a : List UInt8} {u : Nat} (h : refReadP S = some (a, u)) : printPC a u = (S, 0) ∧ (a.length = 4 ∨ a.length = 16) ∧ u ≤ 128 := by
  unfold refReadP at h
  by_cases hd : S.dropWhile (· != 47) = []
  · rw [if_pos hd] at h; cases h
  · rw [if_neg hd] at h
    obtain ⟨g, hg, h⟩ := Option.bind_eq_some_iff.1 h
    split at h
    · rename_i hc
      cases h
      obtain ⟨h1, h2, h3, h4⟩ := hc
      obtain ⟨k, k1, k2, k3⟩ := decs_rd _ h1
      have hl := refRead_len hg
      refine ⟨?_, hl.1, h2⟩
      unfold printPC
      rw [Int.toNat_natCast, if_pos ⟨h3, h4⟩, hl.2]
      have e : (rdVal (S.dropWhile (· != 47)).tail).toNat = k := by rw [k1]; rfl
      rw [e, k3, ← drop_head hd, List.takeWhile_append_dropWhile]
    · cases h
theorem refRead_text {S a : List UInt8} (h : refRead S = some a) : printC a = (S, 0) := by
  have hl := refRead_len h
  unfold printC
  rw [if_pos hl.1, hl.2]
theorem aread_x (s : ByteArray) (hs : s.size ≤ 900) {x : List UInt8 × Int} (hx : readC s.data.toList = x) (w : World) : Calls Tryd.prog 6 #[.string s] w (ReadRet w x) := by
  subst hx; exact aread_any s (by omega) w
theorem areadp_x (s : ByteArray) (hs : s.size ≤ 900) {x : List UInt8 × Int × Int} (hx : readPC s.data.toList = x) (w : World) : Calls Tryd.prog 8 #[.string s] w (ReadPRet w x) := by
  subst hx; exact areadp_any s (by omega) w
theorem rread4_x (s : ByteArray) (hs : s.size ≤ 900) {A : List UInt8} {okb : Bool} (h1 : (refRead s.data.toList).isSome = okb) (h2 : (refRead s.data.toList).getD [] = A) (w : World) : Calls Tryd.prog 7 #[.string s] w fun e w' => ∃ bd cq, e = .returned (.tuple #[.slice bd A.length cq, .bool okb]) ∧ Bytes w' (.slice bd A.length cq) A ∧ Below w.heap.size w w' := by
  have h := rread4_any s hs w
  unfold Read4Ret at h
  rw [h1, h2] at h
  refine h.mono ?_
  rintro e w' ⟨ad, n, cp, rfl, h3, hb⟩
  obtain ⟨a', c', e1, h4⟩ := id h3
  cases e1
  exact ⟨ad, cp, rfl, h3, hb⟩
theorem rreadp_x (s : ByteArray) (hs : s.size ≤ 900) {B : List UInt8} {m : Int} {isb : Bool} (h1 : (refReadP s.data.toList).isSome = isb) (h2 : ((refReadP s.data.toList).map (·.1)).getD [] = B) (h3 : ((((refReadP s.data.toList).map (·.2)).getD 0 : Nat) : Int) = m) (w : World) : Calls Tryd.prog 9 #[.string s] w fun e w' => ∃ bd cq, e = .returned (.tuple #[.agg #[.slice bd B.length cq, .int .i64 m], .bool isb]) ∧ Bytes w' (.slice bd B.length cq) B ∧ Below w.heap.size w w' := by
  have h := rreadp_any s hs w
  unfold ReadP4 at h
  rw [h1, h2, h3] at h
  refine h.mono ?_
  rintro e w' ⟨ad, n, cp, mm, rfl, h4, rfl, hb⟩
  obtain ⟨a', c', e1, h5⟩ := id h4
  cases e1
  exact ⟨ad, cp, rfl, h4, hb⟩
set_option maxHeartbeats 16000000 in
theorem addrtexts_walk (s : ByteArray) (hs : s.size ≤ maxLen) (w : World) : Calls Tryd.prog 3 #[.string s] w fun e w' => e = .returned (.bool true) ∧ Below w.heap.size w w' := by
  unfold maxLen at hs
  by_cases h1 : 200 < s.size
  · have h1i : (200 : Int) < s.size := by omega
    go_enter Tryd.func3, Tryd.ntmps3
    go_wp2_with (first | (go_at_call 5; ((with_reducible refine (awake4 _).mono ?_); rintro e w1 ⟨rfl, hb⟩; have HB := Lib.hid hb; clear hb)) | fail)
    go_ret
    exact ⟨rfl, HB.out⟩
  have h1i : (s.size : Int) ≤ 200 := by omega
  have hss : (s.toList == s.toList) = true := by simp
  obtain ⟨A, okb, ca, TA, ga, hA1, hA2, hA3, hA4, hAl, hA⟩ : ∃ (A : List UInt8) (okb : Bool) (ca : Int) (TA : ByteArray) (ga : Int), (refRead s.data.toList).isSome = okb ∧ (refRead s.data.toList).getD [] = A ∧ readC s.data.toList = (A, ca) ∧ (strB (printC A).1 = TA ∧ (printC A).2 = ga) ∧ A.length ≤ 16 ∧ ((okb = true ∧ ca = 0 ∧ ga = 0 ∧ TA = s) ∨ (okb = false ∧ ca = 3)) := by
    cases hx : refRead s.data.toList with
    | none => exact ⟨[], false, 3, _, _, rfl, rfl, by unfold readC; rw [hx], ⟨rfl, rfl⟩, by simp, .inr ⟨rfl, rfl⟩⟩
    | some a =>
      have ht := refRead_text hx
      have hl := (refRead_len hx).1
      exact ⟨a, true, 0, s, 0, rfl, rfl, by unfold readC; rw [hx], ⟨by rw [ht]; exact strB_self s, by rw [ht]⟩, by omega, .inl ⟨rfl, rfl, rfl, rfl⟩⟩
  obtain ⟨B, m, isb, cb, TB, gb, hB1, hB2, hB3, hB4, hB5, hBl, hB⟩ : ∃ (B : List UInt8) (m : Int) (isb : Bool) (cb : Int) (TB : ByteArray) (gb : Int), (refReadP s.data.toList).isSome = isb ∧ ((refReadP s.data.toList).map (·.1)).getD [] = B ∧ ((((refReadP s.data.toList).map (·.2)).getD 0 : Nat) : Int) = m ∧ readPC s.data.toList = (B, m, cb) ∧ (strB (printPC B m).1 = TB ∧ (printPC B m).2 = gb) ∧ B.length ≤ 16 ∧ ((isb = true ∧ cb = 0 ∧ gb = 0 ∧ TB = s) ∨ (isb = false ∧ cb = 3)) := by
    cases hx : refReadP s.data.toList with
    | none => exact ⟨[], 0, false, 3, _, _, rfl, rfl, rfl, by unfold readPC; rw [hx], ⟨rfl, rfl⟩, by simp, .inr ⟨rfl, rfl⟩⟩
    | some x =>
      obtain ⟨b, u⟩ := x
      obtain ⟨ht, hl, _⟩ := refReadP_text hx
      exact ⟨b, u, true, 0, s, 0, rfl, rfl, rfl, by unfold readPC; rw [hx], ⟨by rw [ht]; exact strB_self s, by rw [ht]⟩, by omega, .inl ⟨rfl, rfl, rfl, rfl⟩⟩
  have HRD : Hid (∀ w, Calls Tryd.prog 6 #[.string s] w fun e w' => ∃ ad cp, e = .returned (.tuple #[.slice ad A.length cp, .int .i64 ca]) ∧ Bytes w' (.slice ad A.length cp) A ∧ A.length ≤ cp ∧ cp ≤ maxLen ∧ Below w.heap.size w w') := Lib.hid (aread_x s (by omega) hA3)
  have HRR := Lib.hid (rread4_x s (by omega) hA1 hA2)
  have HRP : Hid (∀ w, Calls Tryd.prog 8 #[.string s] w fun e w' => ∃ ad cp, e = .returned (.tuple #[.agg #[.slice ad B.length cp, .int .i64 m], .int .i64 cb]) ∧ Bytes w' (.slice ad B.length cp) B ∧ B.length ≤ cp ∧ cp ≤ maxLen ∧ Below w.heap.size w w') := Lib.hid (areadp_x s (by omega) hB4)
  have HRQ := Lib.hid (rreadp_x s (by omega) hB1 hB2 hB3)
  have HPA : Hid (∀ w ad cp, Bytes w (.slice ad A.length cp) A → A.length ≤ cp → cp ≤ maxLen → Calls Tryd.prog 12 #[.slice ad A.length cp] w fun e w' => e = .returned (.tuple #[.string TA, .int .i64 ga]) ∧ Below w.heap.size w w') :=
    Lib.hid (fun w ad cp h1 h2 h3 => by rw [← hA4.1, ← hA4.2]; exact aprint_any A ad cp w h1 h2 h3 (by omega))
  have HPP : Hid (∀ w ad cp, Bytes w (.slice ad B.length cp) B → B.length ≤ cp → cp ≤ maxLen → Calls Tryd.prog 13 #[.agg #[.slice ad B.length cp, .int .i64 m]] w fun e w' => e = .returned (.tuple #[.string TB, .int .i64 gb]) ∧ Below w.heap.size w w') :=
    Lib.hid (fun w ad cp h1 h2 h3 => by rw [← hB5.1, ← hB5.2]; exact app_any B ad cp m w h1 h2 h3 (by omega))
  clear hA1 hA2 hA3 hA4 hB1 hB2 hB3 hB4 hB5 hs h1 hAl hBl
  rcases hA with ⟨rfl, rfl, rfl, rfl⟩ | ⟨rfl, rfl⟩
  · rcases hB with ⟨rfl, rfl, rfl, hTB⟩ | ⟨rfl, rfl⟩
    · subst hTB
      go_enter Tryd.func3, Tryd.ntmps3
      go_wp2_with (first | (go_at_call 5; ((with_reducible refine (awake4 _).mono ?_); rintro e w1 ⟨rfl, hb⟩; have HB := Lib.hid hb; clear hb)) | (go_at_call 6; ((with_reducible refine (HRD.out _).mono ?_); rintro e w2 ⟨ad, cp, rfl, hv, hac, hcm, hb⟩; have HVA := Lib.hid hv; have HAC := Lib.hid hac; have HCM := Lib.hid hcm; have HB := Lib.hid (Below.next HB.out hb); clear hb hv hac hcm)) | (go_at_call 7; ((with_reducible refine (HRR.out _).mono ?_); rintro e w3 ⟨bd, cq, rfl, hv, hb⟩; have HVA := Lib.hid (Bytes.below HVA.out hb); have HVB := Lib.hid hv; have HB := Lib.hid (Below.next HB.out hb); clear hb hv)) | (go_at_call 8; ((with_reducible refine (HRP.out _).mono ?_); rintro e w4 ⟨pd, pc, rfl, hv, hac, hcm, hb⟩; have HVA := Lib.hid (Bytes.below HVA.out hb); have HVB := Lib.hid (Bytes.below HVB.out hb); have HVP := Lib.hid hv; have HPC := Lib.hid hac; have HPM := Lib.hid hcm; have HB := Lib.hid (Below.next HB.out hb); clear hb hv hac hcm)) | (go_at_call 9; ((with_reducible refine (HRQ.out _).mono ?_); rintro e w5 ⟨qd, qc, rfl, hv, hb⟩; have p0 : w5.cell? ⟨w4.heap.size, 0, none⟩ = some (.slice pd B.length pc) := cell_keep4 (cell_of (heap_alloc_new w4 (.cells #[.slice pd B.length pc, .int .i64 m] 30)) 0 rfl) hb; have p1 : w5.cell? ⟨w4.heap.size, 1, none⟩ = some (.int .i64 m) := cell_keep4 (cell_of (heap_alloc_new w4 (.cells #[.slice pd B.length pc, .int .i64 m] 30)) 1 rfl) hb; have HVA := Lib.hid (Bytes.below (Bytes.below (Bytes.below HVA.out (below_one (.cells #[.slice pd B.length pc, .int .i64 m] 30))) hb) (below_one (.cells #[.slice qd B.length qc, .int .i64 m] 30))); have HVB := Lib.hid (Bytes.below (Bytes.below (Bytes.below HVB.out (below_one (.cells #[.slice pd B.length pc, .int .i64 m] 30))) hb) (below_one (.cells #[.slice qd B.length qc, .int .i64 m] 30))); have HVP := Lib.hid (Bytes.below (Bytes.below (Bytes.below HVP.out (below_one (.cells #[.slice pd B.length pc, .int .i64 m] 30))) hb) (below_one (.cells #[.slice qd B.length qc, .int .i64 m] 30))); have HVQ := Lib.hid (Bytes.below hv (below_one (.cells #[.slice qd B.length qc, .int .i64 m] 30))); have hb5 := Below.next (Below.next (HB.out.alloc HB.out.size (.cells #[.slice pd B.length pc, .int .i64 m] 30)) hb) (below_one (.cells #[.slice qd B.length qc, .int .i64 m] 30)); have HB := Lib.hid hb5; have c0 : (w5.alloc (.cells #[.slice qd B.length qc, .int .i64 m] 30)).cell? ⟨w4.heap.size, 0, none⟩ = some (.slice pd B.length pc) := cell_keep4 p0 (below_one (.cells #[.slice qd B.length qc, .int .i64 m] 30)); have c1 : (w5.alloc (.cells #[.slice qd B.length qc, .int .i64 m] 30)).cell? ⟨w4.heap.size, 1, none⟩ = some (.int .i64 m) := cell_keep4 p1 (below_one (.cells #[.slice qd B.length qc, .int .i64 m] 30)); clear hb hv hb5)) | (go_at_call 10; ((with_reducible refine (same1_v A _ _ _ HVA.out HVB.out).mono ?_); rintro e wm ⟨rfl, rfl⟩)) | (go_at_call 11; ((with_reducible refine (same4_v B B pd qd B.length rfl rfl pc qc m (r := true) (by simp) _ HVP.out HVQ.out).mono ?_); rintro e w6 ⟨rfl, hb⟩; have c0 := cell_keep4 c0 hb; have c1 := cell_keep4 c1 hb; have HVA := Lib.hid (Bytes.below HVA.out hb); have HVP := Lib.hid (Bytes.below HVP.out hb); have HB := Lib.hid (Below.next HB.out hb); clear hb)) | (go_at_call 12; ((with_reducible refine (HPA.out _ ad cp HVA.out HAC.out HCM.out).mono ?_); rintro e w7 ⟨rfl, hb⟩; have c0 := cell_keep4 c0 hb; have c1 := cell_keep4 c1 hb; have HVP := Lib.hid (Bytes.below HVP.out hb); have HB := Lib.hid (Below.next HB.out hb); clear hb)) | (go_at_call 13; ((with_reducible refine (HPP.out _ pd pc HVP.out HPC.out HPM.out).mono ?_); rintro e w8 ⟨rfl, hb⟩; have HB := Lib.hid (Below.next HB.out hb); clear hb)) | fail)
      go_ret
      exact ⟨rfl, HB.out⟩
    · go_enter Tryd.func3, Tryd.ntmps3
      go_wp2_with (first | (go_at_call 5; ((with_reducible refine (awake4 _).mono ?_); rintro e w1 ⟨rfl, hb⟩; have HB := Lib.hid hb; clear hb)) | (go_at_call 6; ((with_reducible refine (HRD.out _).mono ?_); rintro e w2 ⟨ad, cp, rfl, hv, hac, hcm, hb⟩; have HVA := Lib.hid hv; have HAC := Lib.hid hac; have HCM := Lib.hid hcm; have HB := Lib.hid (Below.next HB.out hb); clear hb hv hac hcm)) | (go_at_call 7; ((with_reducible refine (HRR.out _).mono ?_); rintro e w3 ⟨bd, cq, rfl, hv, hb⟩; have HVA := Lib.hid (Bytes.below HVA.out hb); have HVB := Lib.hid hv; have HB := Lib.hid (Below.next HB.out hb); clear hb hv)) | (go_at_call 8; ((with_reducible refine (HRP.out _).mono ?_); rintro e w4 ⟨pd, pc, rfl, hv, hac, hcm, hb⟩; have HVA := Lib.hid (Bytes.below HVA.out hb); have HVB := Lib.hid (Bytes.below HVB.out hb); have HVP := Lib.hid hv; have HPC := Lib.hid hac; have HPM := Lib.hid hcm; have HB := Lib.hid (Below.next HB.out hb); clear hb hv hac hcm)) | (go_at_call 9; ((with_reducible refine (HRQ.out _).mono ?_); rintro e w5 ⟨qd, qc, rfl, hv, hb⟩; have p0 : w5.cell? ⟨w4.heap.size, 0, none⟩ = some (.slice pd B.length pc) := cell_keep4 (cell_of (heap_alloc_new w4 (.cells #[.slice pd B.length pc, .int .i64 m] 30)) 0 rfl) hb; have p1 : w5.cell? ⟨w4.heap.size, 1, none⟩ = some (.int .i64 m) := cell_keep4 (cell_of (heap_alloc_new w4 (.cells #[.slice pd B.length pc, .int .i64 m] 30)) 1 rfl) hb; have HVA := Lib.hid (Bytes.below (Bytes.below (Bytes.below HVA.out (below_one (.cells #[.slice pd B.length pc, .int .i64 m] 30))) hb) (below_one (.cells #[.slice qd B.length qc, .int .i64 m] 30))); have HVB := Lib.hid (Bytes.below (Bytes.below (Bytes.below HVB.out (below_one (.cells #[.slice pd B.length pc, .int .i64 m] 30))) hb) (below_one (.cells #[.slice qd B.length qc, .int .i64 m] 30))); have HVP := Lib.hid (Bytes.below (Bytes.below (Bytes.below HVP.out (below_one (.cells #[.slice pd B.length pc, .int .i64 m] 30))) hb) (below_one (.cells #[.slice qd B.length qc, .int .i64 m] 30))); have HVQ := Lib.hid (Bytes.below hv (below_one (.cells #[.slice qd B.length qc, .int .i64 m] 30))); have hb5 := Below.next (Below.next (HB.out.alloc HB.out.size (.cells #[.slice pd B.length pc, .int .i64 m] 30)) hb) (below_one (.cells #[.slice qd B.length qc, .int .i64 m] 30)); have HB := Lib.hid hb5; have c0 : (w5.alloc (.cells #[.slice qd B.length qc, .int .i64 m] 30)).cell? ⟨w4.heap.size, 0, none⟩ = some (.slice pd B.length pc) := cell_keep4 p0 (below_one (.cells #[.slice qd B.length qc, .int .i64 m] 30)); have c1 : (w5.alloc (.cells #[.slice qd B.length qc, .int .i64 m] 30)).cell? ⟨w4.heap.size, 1, none⟩ = some (.int .i64 m) := cell_keep4 p1 (below_one (.cells #[.slice qd B.length qc, .int .i64 m] 30)); clear hb hv hb5)) | (go_at_call 10; ((with_reducible refine (same1_v A _ _ _ HVA.out HVB.out).mono ?_); rintro e wm ⟨rfl, rfl⟩)) | (go_at_call 11; ((with_reducible refine (same4_v B B pd qd B.length rfl rfl pc qc m (r := true) (by simp) _ HVP.out HVQ.out).mono ?_); rintro e w6 ⟨rfl, hb⟩; have c0 := cell_keep4 c0 hb; have c1 := cell_keep4 c1 hb; have HVA := Lib.hid (Bytes.below HVA.out hb); have HVP := Lib.hid (Bytes.below HVP.out hb); have HB := Lib.hid (Below.next HB.out hb); clear hb)) | (go_at_call 12; ((with_reducible refine (HPA.out _ ad cp HVA.out HAC.out HCM.out).mono ?_); rintro e w7 ⟨rfl, hb⟩; have c0 := cell_keep4 c0 hb; have c1 := cell_keep4 c1 hb; have HVP := Lib.hid (Bytes.below HVP.out hb); have HB := Lib.hid (Below.next HB.out hb); clear hb)) | (go_at_call 13; ((with_reducible refine (HPP.out _ pd pc HVP.out HPC.out HPM.out).mono ?_); rintro e w8 ⟨rfl, hb⟩; have HB := Lib.hid (Below.next HB.out hb); clear hb)) | fail)
      go_ret
      exact ⟨rfl, HB.out⟩
  · rcases hB with ⟨rfl, rfl, rfl, rfl⟩ | ⟨rfl, rfl⟩
    · go_enter Tryd.func3, Tryd.ntmps3
      go_wp2_with (first | (go_at_call 5; ((with_reducible refine (awake4 _).mono ?_); rintro e w1 ⟨rfl, hb⟩; have HB := Lib.hid hb; clear hb)) | (go_at_call 6; ((with_reducible refine (HRD.out _).mono ?_); rintro e w2 ⟨ad, cp, rfl, hv, hac, hcm, hb⟩; have HVA := Lib.hid hv; have HAC := Lib.hid hac; have HCM := Lib.hid hcm; have HB := Lib.hid (Below.next HB.out hb); clear hb hv hac hcm)) | (go_at_call 7; ((with_reducible refine (HRR.out _).mono ?_); rintro e w3 ⟨bd, cq, rfl, hv, hb⟩; have HVA := Lib.hid (Bytes.below HVA.out hb); have HVB := Lib.hid hv; have HB := Lib.hid (Below.next HB.out hb); clear hb hv)) | (go_at_call 8; ((with_reducible refine (HRP.out _).mono ?_); rintro e w4 ⟨pd, pc, rfl, hv, hac, hcm, hb⟩; have HVA := Lib.hid (Bytes.below HVA.out hb); have HVB := Lib.hid (Bytes.below HVB.out hb); have HVP := Lib.hid hv; have HPC := Lib.hid hac; have HPM := Lib.hid hcm; have HB := Lib.hid (Below.next HB.out hb); clear hb hv hac hcm)) | (go_at_call 9; ((with_reducible refine (HRQ.out _).mono ?_); rintro e w5 ⟨qd, qc, rfl, hv, hb⟩; have p0 : w5.cell? ⟨w4.heap.size, 0, none⟩ = some (.slice pd B.length pc) := cell_keep4 (cell_of (heap_alloc_new w4 (.cells #[.slice pd B.length pc, .int .i64 m] 30)) 0 rfl) hb; have p1 : w5.cell? ⟨w4.heap.size, 1, none⟩ = some (.int .i64 m) := cell_keep4 (cell_of (heap_alloc_new w4 (.cells #[.slice pd B.length pc, .int .i64 m] 30)) 1 rfl) hb; have HVA := Lib.hid (Bytes.below (Bytes.below (Bytes.below HVA.out (below_one (.cells #[.slice pd B.length pc, .int .i64 m] 30))) hb) (below_one (.cells #[.slice qd B.length qc, .int .i64 m] 30))); have HVB := Lib.hid (Bytes.below (Bytes.below (Bytes.below HVB.out (below_one (.cells #[.slice pd B.length pc, .int .i64 m] 30))) hb) (below_one (.cells #[.slice qd B.length qc, .int .i64 m] 30))); have HVP := Lib.hid (Bytes.below (Bytes.below (Bytes.below HVP.out (below_one (.cells #[.slice pd B.length pc, .int .i64 m] 30))) hb) (below_one (.cells #[.slice qd B.length qc, .int .i64 m] 30))); have HVQ := Lib.hid (Bytes.below hv (below_one (.cells #[.slice qd B.length qc, .int .i64 m] 30))); have hb5 := Below.next (Below.next (HB.out.alloc HB.out.size (.cells #[.slice pd B.length pc, .int .i64 m] 30)) hb) (below_one (.cells #[.slice qd B.length qc, .int .i64 m] 30)); have HB := Lib.hid hb5; have c0 : (w5.alloc (.cells #[.slice qd B.length qc, .int .i64 m] 30)).cell? ⟨w4.heap.size, 0, none⟩ = some (.slice pd B.length pc) := cell_keep4 p0 (below_one (.cells #[.slice qd B.length qc, .int .i64 m] 30)); have c1 : (w5.alloc (.cells #[.slice qd B.length qc, .int .i64 m] 30)).cell? ⟨w4.heap.size, 1, none⟩ = some (.int .i64 m) := cell_keep4 p1 (below_one (.cells #[.slice qd B.length qc, .int .i64 m] 30)); clear hb hv hb5)) | (go_at_call 10; ((with_reducible refine (same1_v A _ _ _ HVA.out HVB.out).mono ?_); rintro e wm ⟨rfl, rfl⟩)) | (go_at_call 11; ((with_reducible refine (same4_v B B pd qd B.length rfl rfl pc qc m (r := true) (by simp) _ HVP.out HVQ.out).mono ?_); rintro e w6 ⟨rfl, hb⟩; have c0 := cell_keep4 c0 hb; have c1 := cell_keep4 c1 hb; have HVA := Lib.hid (Bytes.below HVA.out hb); have HVP := Lib.hid (Bytes.below HVP.out hb); have HB := Lib.hid (Below.next HB.out hb); clear hb)) | (go_at_call 12; ((with_reducible refine (HPA.out _ ad cp HVA.out HAC.out HCM.out).mono ?_); rintro e w7 ⟨rfl, hb⟩; have c0 := cell_keep4 c0 hb; have c1 := cell_keep4 c1 hb; have HVP := Lib.hid (Bytes.below HVP.out hb); have HB := Lib.hid (Below.next HB.out hb); clear hb)) | (go_at_call 13; ((with_reducible refine (HPP.out _ pd pc HVP.out HPC.out HPM.out).mono ?_); rintro e w8 ⟨rfl, hb⟩; have HB := Lib.hid (Below.next HB.out hb); clear hb)) | fail)
      go_ret
      exact ⟨rfl, HB.out⟩
    · go_enter Tryd.func3, Tryd.ntmps3
      go_wp2_with (first | (go_at_call 5; ((with_reducible refine (awake4 _).mono ?_); rintro e w1 ⟨rfl, hb⟩; have HB := Lib.hid hb; clear hb)) | (go_at_call 6; ((with_reducible refine (HRD.out _).mono ?_); rintro e w2 ⟨ad, cp, rfl, hv, hac, hcm, hb⟩; have HVA := Lib.hid hv; have HAC := Lib.hid hac; have HCM := Lib.hid hcm; have HB := Lib.hid (Below.next HB.out hb); clear hb hv hac hcm)) | (go_at_call 7; ((with_reducible refine (HRR.out _).mono ?_); rintro e w3 ⟨bd, cq, rfl, hv, hb⟩; have HVA := Lib.hid (Bytes.below HVA.out hb); have HVB := Lib.hid hv; have HB := Lib.hid (Below.next HB.out hb); clear hb hv)) | (go_at_call 8; ((with_reducible refine (HRP.out _).mono ?_); rintro e w4 ⟨pd, pc, rfl, hv, hac, hcm, hb⟩; have HVA := Lib.hid (Bytes.below HVA.out hb); have HVB := Lib.hid (Bytes.below HVB.out hb); have HVP := Lib.hid hv; have HPC := Lib.hid hac; have HPM := Lib.hid hcm; have HB := Lib.hid (Below.next HB.out hb); clear hb hv hac hcm)) | (go_at_call 9; ((with_reducible refine (HRQ.out _).mono ?_); rintro e w5 ⟨qd, qc, rfl, hv, hb⟩; have p0 : w5.cell? ⟨w4.heap.size, 0, none⟩ = some (.slice pd B.length pc) := cell_keep4 (cell_of (heap_alloc_new w4 (.cells #[.slice pd B.length pc, .int .i64 m] 30)) 0 rfl) hb; have p1 : w5.cell? ⟨w4.heap.size, 1, none⟩ = some (.int .i64 m) := cell_keep4 (cell_of (heap_alloc_new w4 (.cells #[.slice pd B.length pc, .int .i64 m] 30)) 1 rfl) hb; have HVA := Lib.hid (Bytes.below (Bytes.below (Bytes.below HVA.out (below_one (.cells #[.slice pd B.length pc, .int .i64 m] 30))) hb) (below_one (.cells #[.slice qd B.length qc, .int .i64 m] 30))); have HVB := Lib.hid (Bytes.below (Bytes.below (Bytes.below HVB.out (below_one (.cells #[.slice pd B.length pc, .int .i64 m] 30))) hb) (below_one (.cells #[.slice qd B.length qc, .int .i64 m] 30))); have HVP := Lib.hid (Bytes.below (Bytes.below (Bytes.below HVP.out (below_one (.cells #[.slice pd B.length pc, .int .i64 m] 30))) hb) (below_one (.cells #[.slice qd B.length qc, .int .i64 m] 30))); have HVQ := Lib.hid (Bytes.below hv (below_one (.cells #[.slice qd B.length qc, .int .i64 m] 30))); have hb5 := Below.next (Below.next (HB.out.alloc HB.out.size (.cells #[.slice pd B.length pc, .int .i64 m] 30)) hb) (below_one (.cells #[.slice qd B.length qc, .int .i64 m] 30)); have HB := Lib.hid hb5; have c0 : (w5.alloc (.cells #[.slice qd B.length qc, .int .i64 m] 30)).cell? ⟨w4.heap.size, 0, none⟩ = some (.slice pd B.length pc) := cell_keep4 p0 (below_one (.cells #[.slice qd B.length qc, .int .i64 m] 30)); have c1 : (w5.alloc (.cells #[.slice qd B.length qc, .int .i64 m] 30)).cell? ⟨w4.heap.size, 1, none⟩ = some (.int .i64 m) := cell_keep4 p1 (below_one (.cells #[.slice qd B.length qc, .int .i64 m] 30)); clear hb hv hb5)) | (go_at_call 10; ((with_reducible refine (same1_v A _ _ _ HVA.out HVB.out).mono ?_); rintro e wm ⟨rfl, rfl⟩)) | (go_at_call 11; ((with_reducible refine (same4_v B B pd qd B.length rfl rfl pc qc m (r := true) (by simp) _ HVP.out HVQ.out).mono ?_); rintro e w6 ⟨rfl, hb⟩; have c0 := cell_keep4 c0 hb; have c1 := cell_keep4 c1 hb; have HVA := Lib.hid (Bytes.below HVA.out hb); have HVP := Lib.hid (Bytes.below HVP.out hb); have HB := Lib.hid (Below.next HB.out hb); clear hb)) | (go_at_call 12; ((with_reducible refine (HPA.out _ ad cp HVA.out HAC.out HCM.out).mono ?_); rintro e w7 ⟨rfl, hb⟩; have c0 := cell_keep4 c0 hb; have c1 := cell_keep4 c1 hb; have HVP := Lib.hid (Bytes.below HVP.out hb); have HB := Lib.hid (Below.next HB.out hb); clear hb)) | (go_at_call 13; ((with_reducible refine (HPP.out _ pd pc HVP.out HPC.out HPM.out).mono ?_); rintro e w8 ⟨rfl, hb⟩; have HB := Lib.hid (Below.next HB.out hb); clear hb)) | fail)
      go_ret
      exact ⟨rfl, HB.out⟩
end Go.Proofs.YtbaceiohcbhpaaaDoor
