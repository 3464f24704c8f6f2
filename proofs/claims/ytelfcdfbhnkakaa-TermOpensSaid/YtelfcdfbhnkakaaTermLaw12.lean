import Derived.Test.YtelfcdfbhnkakaaRef10
import Derived.Test.YtelfcdfbhnkakaaTermMath5
import Derived.Test.YtelfcdfbhnkakaaTermLaw11
namespace Go.Proofs.Ytelfcdfbhnkakaa
set_option linter.unusedVariables false
set_option linter.unusedSimpArgs false
set_option maxRecDepth 100000
open Go.RowKit

theorem ris_x (x : ByteArray) (hx : x.size ≤ maxLen) (r : Bool) (h : isL x.data.toList = r) (w : World) : Calls Try.prog 24 #[.string x] w fun e w' => e = .returned (.bool r) ∧ Below w.heap.size w w' := by
  have := ris_any x hx w
  rw [isT_isL, h] at this; exact this
theorem mpub_any (x : ByteArray) {P : List UInt8} (hP : makeR 5 0 [] [x.data.toList] = P) (w : World) (vl : Value) (h : Strs w vl [x.data.toList]) : Calls Try.prog 15 #[.int .i64 5, .int .u64 0, .slice none 0 0, vl] w fun e w' => e = .returned (.string (strB P)) ∧ Below w.heap.size w w' := by
  have := make_zero 5 (.slice none 0 0) vl [] [x.data.toList] w (bytes_nil _) h (by simp) (by simp [maxLen])
  rw [hP] at this; exact this
theorem agree_x (x : ByteArray) {Q A : List UInt8} (hQ : Q.length ≤ maxLen) (hA : agreeR x.data.toList (lookR Q) = A) (w : World) : Calls Try.prog 21 #[.string x, .string (strB Q)] w fun e w' => e = .returned (.string (strB A)) ∧ Below w.heap.size w w' := by
  have := agree_any x (strB Q) (by rw [strB_size]; exact hQ) w
  rw [show lookR (strB Q).data.toList = lookR Q from rfl, hA] at this; exact this
theorem ragree_x (x : ByteArray) (hx : x.size ≤ maxLen) {Q A : List UInt8} (hQ : Q.length ≤ maxLen) (hA : agreeR x.data.toList (lookR Q) = A) (w : World) : Calls Try.prog 22 #[.string x, .string (strB Q)] w fun e w' => e = .returned (.string (strB A)) ∧ Below w.heap.size w w' := by
  have := ragree_any x (strB Q) hx (by rw [strB_size]; exact hQ) w
  rw [show lookR (strB Q).data.toList = lookR Q from rfl, hA] at this; exact this
theorem rpub_x (x : ByteArray) (hx : x.size ≤ maxLen) {P : List UInt8} (hP : makeR 5 0 [] [x.data.toList] = P) (w : World) : Calls Try.prog 25 #[.string x] w fun e w' => e = .returned (.string (strB P)) ∧ Below w.heap.size w w' := by
  have := rpub_any x hx w
  rw [hP] at this; exact this
theorem look_nil : lookR [] = (0, 0, []) := rfl
theorem strs_eq (a b : List UInt8) : ((strB a).toList == (strB b).toList) = (a == b) := by rw [str_eq]; rfl
theorem raw_eq (a b : ByteArray) : (a.toList == b.toList) = (a.data.toList == b.data.toList) := by rw [toList_eq, toList_eq]

theorem agrees_none (x y z : ByteArray) (hx : x.size ≤ 1000) (hy : y.size ≤ 1000) (hz : z.size ≤ 1000) (bx cy : Bool) (hbx : isL x.data.toList = bx) (hby : isL y.data.toList = cy) (hn : (bx = false ∧ cy = false) ∨ (bx = false ∧ cy = true) ∨ (bx = true ∧ cy = false)) (w : World) : Calls Try.prog 6 #[.string x, .string y, .string z] w fun e w' => e = .returned (.bool true) ∧ Below w.heap.size w w' := by
  have hlx : x.data.toList.length ≤ 2000 := by simp; omega
  have hly : y.data.toList.length ≤ 2000 := by simp; omega
  obtain ⟨P, hP⟩ : ∃ P, makeR 5 0 [] [x.data.toList] = P := ⟨_, rfl⟩
  obtain ⟨Q, hQ⟩ : ∃ Q, makeR 5 0 [] [y.data.toList] = Q := ⟨_, rfl⟩
  have hPb : bx = false ∧ P = [] ∨ bx = true ∧ P ≠ [] := by
    cases bx with
    | false => rw [pub_no hbx] at hP; exact .inl ⟨rfl, hP.symm⟩
    | true => have h := pub_yes hbx hlx; rw [h.1] at hP; exact .inr ⟨rfl, by rw [← hP]; exact h.2.1⟩
  have hQb : (cy = false ∧ Q = [] ∨ cy = true ∧ Q ≠ []) ∧ Q.length ≤ maxLen ∧ agreeR x.data.toList (lookR Q) = [] := by
    cases cy with
    | false =>
      rw [pub_no hby] at hQ
      subst hQ
      exact ⟨.inl ⟨rfl, rfl⟩, by simp, rfl⟩
    | true =>
      have h := pub_yes hby hly
      rw [h.1] at hQ
      have hbf : bx = false := by rcases hn with h | h | h <;> simp_all
      refine ⟨.inr ⟨rfl, by rw [← hQ]; exact h.2.1⟩, by rw [← hQ]; have := h.2.2.2; unfold maxLen; omega, ?_⟩
      rw [← hQ, h.2.2.1]
      show makeR 6 0 [] [x.data.toList, y.data.toList] = []
      exact dh_no (.inl (by rw [hbx, hbf]))
  have HMX := Lib.hid (mpub_any x hP)
  have HMY := Lib.hid (mpub_any y hQ)
  have HIX := Lib.hid (ris_x x (by unfold maxLen; omega) bx hbx)
  have HIY := Lib.hid (ris_x y (by unfold maxLen; omega) cy hby)
  have HAXQ := Lib.hid (agree_x x hQb.2.1 hQb.2.2)
  have hQc := hQb.1
  have hxi : (x.size : Int) ≤ 1000 := by omega
  have hyi : (y.size : Int) ≤ 1000 := by omega
  have hzi : (z.size : Int) ≤ 1000 := by omega
  obtain ⟨n1, n2⟩ := nil_facts
  clear hP hQ hQb hbx hby hlx hly hx hy hz
  rcases hn with ⟨h1, h2⟩ | ⟨h1, h2⟩ | ⟨h1, h2⟩
  · subst h1 h2
    have hP0 : P = [] := by rcases hPb with h | h; exact h.2; exact absurd h.1 (by decide)
    have hQ0 : Q = [] := by rcases hQc with h | h; exact h.2; exact absurd h.1 (by decide)
    subst hP0 hQ0
    clear hPb hQc
    go_enter Try.func6, Try.ntmps6
    go_wp2_with (first | (go_at_call 7; ((with_reducible refine (aw2 _).mono ?_); rintro e w1 ⟨rfl, hb⟩; have HB := Lib.hid hb; clear hb)) | (go_at_call 15; ((with_reducible refine (HMX.out _ _ (strs_one _ x)).mono ?_); rintro e wn ⟨rfl, hb⟩; have HB := Lib.hid (Below.next (HB.out.alloc HB.out.size _) hb); clear hb)) | (go_at_call 15; ((with_reducible refine (HMY.out _ _ (strs_one _ y)).mono ?_); rintro e wn ⟨rfl, hb⟩; have HB := Lib.hid (Below.next (HB.out.alloc HB.out.size _) hb); clear hb)) | (go_at_call 24; ((with_reducible refine (HIX.out _).mono ?_); rintro e wn ⟨rfl, hb⟩; have HB := Lib.hid (Below.next HB.out hb); clear hb)) | (go_at_call 24; ((with_reducible refine (HIY.out _).mono ?_); rintro e wn ⟨rfl, hb⟩; have HB := Lib.hid (Below.next HB.out hb); clear hb)) | (go_at_call 21; ((with_reducible refine (HAXQ.out _).mono ?_); rintro e wn ⟨rfl, hb⟩; have HB := Lib.hid (Below.next HB.out hb); clear hb)) | fail)
    go_ret
    exact ⟨rfl, HB.out⟩
  · subst h1 h2
    have hP0 : P = [] := by rcases hPb with h | h; exact h.2; exact absurd h.1 (by decide)
    have hQ0 : Q ≠ [] := by rcases hQc with h | h; exact absurd h.1 (by decide); exact h.2
    obtain ⟨q1, q2⟩ := str_nil_facts hQ0
    subst hP0
    clear hPb hQc hQ0
    go_enter Try.func6, Try.ntmps6
    go_wp2_with (first | (go_at_call 7; ((with_reducible refine (aw2 _).mono ?_); rintro e w1 ⟨rfl, hb⟩; have HB := Lib.hid hb; clear hb)) | (go_at_call 15; ((with_reducible refine (HMX.out _ _ (strs_one _ x)).mono ?_); rintro e wn ⟨rfl, hb⟩; have HB := Lib.hid (Below.next (HB.out.alloc HB.out.size _) hb); clear hb)) | (go_at_call 15; ((with_reducible refine (HMY.out _ _ (strs_one _ y)).mono ?_); rintro e wn ⟨rfl, hb⟩; have HB := Lib.hid (Below.next (HB.out.alloc HB.out.size _) hb); clear hb)) | (go_at_call 24; ((with_reducible refine (HIX.out _).mono ?_); rintro e wn ⟨rfl, hb⟩; have HB := Lib.hid (Below.next HB.out hb); clear hb)) | (go_at_call 24; ((with_reducible refine (HIY.out _).mono ?_); rintro e wn ⟨rfl, hb⟩; have HB := Lib.hid (Below.next HB.out hb); clear hb)) | (go_at_call 21; ((with_reducible refine (HAXQ.out _).mono ?_); rintro e wn ⟨rfl, hb⟩; have HB := Lib.hid (Below.next HB.out hb); clear hb)) | fail)
    go_ret
    exact ⟨rfl, HB.out⟩
  · subst h1 h2
    have hQ0 : Q = [] := by rcases hQc with h | h; exact h.2; exact absurd h.1 (by decide)
    have hP0 : P ≠ [] := by rcases hPb with h | h; exact absurd h.1 (by decide); exact h.2
    obtain ⟨q1, q2⟩ := str_nil_facts hP0
    subst hQ0
    clear hPb hQc hP0
    go_enter Try.func6, Try.ntmps6
    go_wp2_with (first | (go_at_call 7; ((with_reducible refine (aw2 _).mono ?_); rintro e w1 ⟨rfl, hb⟩; have HB := Lib.hid hb; clear hb)) | (go_at_call 15; ((with_reducible refine (HMX.out _ _ (strs_one _ x)).mono ?_); rintro e wn ⟨rfl, hb⟩; have HB := Lib.hid (Below.next (HB.out.alloc HB.out.size _) hb); clear hb)) | (go_at_call 15; ((with_reducible refine (HMY.out _ _ (strs_one _ y)).mono ?_); rintro e wn ⟨rfl, hb⟩; have HB := Lib.hid (Below.next (HB.out.alloc HB.out.size _) hb); clear hb)) | (go_at_call 24; ((with_reducible refine (HIX.out _).mono ?_); rintro e wn ⟨rfl, hb⟩; have HB := Lib.hid (Below.next HB.out hb); clear hb)) | (go_at_call 24; ((with_reducible refine (HIY.out _).mono ?_); rintro e wn ⟨rfl, hb⟩; have HB := Lib.hid (Below.next HB.out hb); clear hb)) | (go_at_call 21; ((with_reducible refine (HAXQ.out _).mono ?_); rintro e wn ⟨rfl, hb⟩; have HB := Lib.hid (Below.next HB.out hb); clear hb)) | fail)
    go_ret
    exact ⟨rfl, HB.out⟩
theorem agrees_both (x y z : ByteArray) (hx : x.size ≤ 1000) (hy : y.size ≤ 1000) (hz : z.size ≤ 1000) (hbx : isL x.data.toList = true) (hby : isL y.data.toList = true) (w : World) : Calls Try.prog 6 #[.string x, .string y, .string z] w fun e w' => e = .returned (.bool true) ∧ Below w.heap.size w w' := by
  have hlx : x.data.toList.length ≤ 2000 := by simp; omega
  have hly : y.data.toList.length ≤ 2000 := by simp; omega
  have hlz : z.data.toList.length ≤ 2000 := by simp; omega
  obtain ⟨P, hP⟩ : ∃ P, makeR 5 0 [] [x.data.toList] = P := ⟨_, rfl⟩
  obtain ⟨Q, hQ⟩ : ∃ Q, makeR 5 0 [] [y.data.toList] = Q := ⟨_, rfl⟩
  obtain ⟨A, hA⟩ : ∃ A, makeR 6 0 [] [x.data.toList, y.data.toList] = A := ⟨_, rfl⟩
  have pP := pub_yes hbx hlx
  have pQ := pub_yes hby hly
  have pA := dh_yes hbx hby hlx hly
  have hA2 : makeR 6 0 [] [y.data.toList, x.data.toList] = A := by rw [(dh_yes hby hbx hly hlx).1, sort_comm, ← pA.1, hA]
  rw [← pP.1, hP] at pP
  rw [← pQ.1, hQ] at pQ
  rw [← pA.1, hA] at pA
  have hAQ : agreeR x.data.toList (lookR Q) = A := by rw [pQ.2.2.1]; exact hA
  have hAP : agreeR y.data.toList (lookR P) = A := by rw [pP.2.2.1]; exact hA2
  have hPl : P.length ≤ maxLen := by have := pP.2.2.2; unfold maxLen; omega
  have hQl : Q.length ≤ maxLen := by have := pQ.2.2.2; unfold maxLen; omega
  have HMX := Lib.hid (mpub_any x hP)
  have HMY := Lib.hid (mpub_any y hQ)
  have HIX := Lib.hid (ris_x x (by unfold maxLen; omega) true hbx)
  have HIY := Lib.hid (ris_x y (by unfold maxLen; omega) true hby)
  have HAXQ := Lib.hid (agree_x x hQl hAQ)
  have HAYP := Lib.hid (agree_x y hPl hAP)
  have HRP := Lib.hid (rpub_x y (by unfold maxLen; omega) hQ)
  have HRA := Lib.hid (ragree_x x (by unfold maxLen; omega) hQl hAQ)
  have hK : ∀ w, Calls Try.prog 12 #[.string (strB A)] w fun e w' => e = .returned (.int .i64 6) ∧ Below w.heap.size w w' := fun w => by
    have h := kind_any (strB A) (by rw [strB_size]; have := pA.2.2.2; unfold maxLen; omega) w
    rw [show lookR (strB A).data.toList = lookR A from rfl, pA.2.2.1] at h
    exact h
  have HKA := Lib.hid hK
  have hxi : (x.size : Int) ≤ 1000 := by omega
  have hyi : (y.size : Int) ≤ 1000 := by omega
  have hzi : (z.size : Int) ≤ 1000 := by omega
  have haa : ((strB A).toList == (strB A).toList) = true := by simp
  cases hbz : isL z.data.toList with
  | false =>
    have HIZ := Lib.hid (ris_x z (by unfold maxLen; omega) false hbz)
    clear hK hAQ hAP hPl hQl pP pQ pA hA hA2 hP hQ hbx hby hbz hlx hly hlz hx hy hz
    go_enter Try.func6, Try.ntmps6
    go_wp2_with (first | (go_at_call 7; ((with_reducible refine (aw2 _).mono ?_); rintro e w1 ⟨rfl, hb⟩; have HB := Lib.hid hb; clear hb)) | (go_at_call 15; ((with_reducible refine (HMX.out _ _ (strs_one _ x)).mono ?_); rintro e wn ⟨rfl, hb⟩; have HB := Lib.hid (Below.next (HB.out.alloc HB.out.size _) hb); clear hb)) | (go_at_call 15; ((with_reducible refine (HMY.out _ _ (strs_one _ y)).mono ?_); rintro e wn ⟨rfl, hb⟩; have HB := Lib.hid (Below.next (HB.out.alloc HB.out.size _) hb); clear hb)) | (go_at_call 24; ((with_reducible refine (HIX.out _).mono ?_); rintro e wn ⟨rfl, hb⟩; have HB := Lib.hid (Below.next HB.out hb); clear hb)) | (go_at_call 24; ((with_reducible refine (HIY.out _).mono ?_); rintro e wn ⟨rfl, hb⟩; have HB := Lib.hid (Below.next HB.out hb); clear hb)) | (go_at_call 24; ((with_reducible refine (HIZ.out _).mono ?_); rintro e wn ⟨rfl, hb⟩; have HB := Lib.hid (Below.next HB.out hb); clear hb)) | (go_at_call 21; ((with_reducible refine (HAXQ.out _).mono ?_); rintro e wn ⟨rfl, hb⟩; have HB := Lib.hid (Below.next HB.out hb); clear hb)) | (go_at_call 21; ((with_reducible refine (HAYP.out _).mono ?_); rintro e wn ⟨rfl, hb⟩; have HB := Lib.hid (Below.next HB.out hb); clear hb)) | (go_at_call 25; ((with_reducible refine (HRP.out _).mono ?_); rintro e wn ⟨rfl, hb⟩; have HB := Lib.hid (Below.next HB.out hb); clear hb)) | (go_at_call 22; ((with_reducible refine (HRA.out _).mono ?_); rintro e wn ⟨rfl, hb⟩; have HB := Lib.hid (Below.next HB.out hb); clear hb)) | (go_at_call 12; ((with_reducible refine (HKA.out _).mono ?_); rintro e wn ⟨rfl, hb⟩; have HB := Lib.hid (Below.next HB.out hb); clear hb)) | fail)
    go_ret
    exact ⟨rfl, HB.out⟩
  | true =>
    have HIZ := Lib.hid (ris_x z (by unfold maxLen; omega) true hbz)
    obtain ⟨R, hR⟩ : ∃ R, makeR 5 0 [] [z.data.toList] = R := ⟨_, rfl⟩
    obtain ⟨C, hC⟩ : ∃ C, makeR 6 0 [] [x.data.toList, z.data.toList] = C := ⟨_, rfl⟩
    have pR := pub_yes hbz hlz
    rw [← pR.1, hR] at pR
    have hAR : agreeR x.data.toList (lookR R) = C := by rw [pR.2.2.1]; exact hC
    have hRl : R.length ≤ maxLen := by have := pR.2.2.2; unfold maxLen; omega
    have HMZ := Lib.hid (mpub_any z hR)
    have HAXR := Lib.hid (agree_x x hRl hAR)
    have hcz : ((strB C).toList == (strB A).toList) = (z.toList == y.toList) := by
      rw [strs_eq, raw_eq]
      by_cases h : z.data.toList = y.data.toList
      · rw [h] at hC
        have : C = A := by rw [← hC, hA]
        rw [this, h]; simp
      · have h2 : C ≠ A := by
          intro e
          have pC := dh_yes hbx hbz hlx hlz
          rw [← pC.1, hC] at pC
          have h3 := pC.2.2.1
          rw [e, pA.2.2.1] at h3
          simp only [Prod.mk.injEq, true_and] at h3
          exact h (sort_inj h3.symm)
        rw [beq_eq_false_iff_ne.2 h2, beq_eq_false_iff_ne.2 h]
    clear hK hAQ hAP hPl hQl pP pQ pA hA hA2 hP hQ hbx hby hbz hlx hly hlz hR hC pR hAR hRl
    cases hzy : (z.toList == y.toList) with
    | false =>
      rw [hzy] at hcz
      clear hx hy hz
      go_enter Try.func6, Try.ntmps6
      go_wp2_with (first | (go_at_call 7; ((with_reducible refine (aw2 _).mono ?_); rintro e w1 ⟨rfl, hb⟩; have HB := Lib.hid hb; clear hb)) | (go_at_call 15; ((with_reducible refine (HMX.out _ _ (strs_one _ x)).mono ?_); rintro e wn ⟨rfl, hb⟩; have HB := Lib.hid (Below.next (HB.out.alloc HB.out.size _) hb); clear hb)) | (go_at_call 15; ((with_reducible refine (HMY.out _ _ (strs_one _ y)).mono ?_); rintro e wn ⟨rfl, hb⟩; have HB := Lib.hid (Below.next (HB.out.alloc HB.out.size _) hb); clear hb)) | (go_at_call 15; ((with_reducible refine (HMZ.out _ _ (strs_one _ z)).mono ?_); rintro e wn ⟨rfl, hb⟩; have HB := Lib.hid (Below.next (HB.out.alloc HB.out.size _) hb); clear hb)) | (go_at_call 24; ((with_reducible refine (HIX.out _).mono ?_); rintro e wn ⟨rfl, hb⟩; have HB := Lib.hid (Below.next HB.out hb); clear hb)) | (go_at_call 24; ((with_reducible refine (HIY.out _).mono ?_); rintro e wn ⟨rfl, hb⟩; have HB := Lib.hid (Below.next HB.out hb); clear hb)) | (go_at_call 24; ((with_reducible refine (HIZ.out _).mono ?_); rintro e wn ⟨rfl, hb⟩; have HB := Lib.hid (Below.next HB.out hb); clear hb)) | (go_at_call 21; ((with_reducible refine (HAXQ.out _).mono ?_); rintro e wn ⟨rfl, hb⟩; have HB := Lib.hid (Below.next HB.out hb); clear hb)) | (go_at_call 21; ((with_reducible refine (HAYP.out _).mono ?_); rintro e wn ⟨rfl, hb⟩; have HB := Lib.hid (Below.next HB.out hb); clear hb)) | (go_at_call 21; ((with_reducible refine (HAXR.out _).mono ?_); rintro e wn ⟨rfl, hb⟩; have HB := Lib.hid (Below.next HB.out hb); clear hb)) | (go_at_call 25; ((with_reducible refine (HRP.out _).mono ?_); rintro e wn ⟨rfl, hb⟩; have HB := Lib.hid (Below.next HB.out hb); clear hb)) | (go_at_call 22; ((with_reducible refine (HRA.out _).mono ?_); rintro e wn ⟨rfl, hb⟩; have HB := Lib.hid (Below.next HB.out hb); clear hb)) | (go_at_call 12; ((with_reducible refine (HKA.out _).mono ?_); rintro e wn ⟨rfl, hb⟩; have HB := Lib.hid (Below.next HB.out hb); clear hb)) | fail)
      go_ret
      exact ⟨rfl, HB.out⟩
    | true =>
      rw [hzy] at hcz
      clear hx hy hz
      go_enter Try.func6, Try.ntmps6
      go_wp2_with (first | (go_at_call 7; ((with_reducible refine (aw2 _).mono ?_); rintro e w1 ⟨rfl, hb⟩; have HB := Lib.hid hb; clear hb)) | (go_at_call 15; ((with_reducible refine (HMX.out _ _ (strs_one _ x)).mono ?_); rintro e wn ⟨rfl, hb⟩; have HB := Lib.hid (Below.next (HB.out.alloc HB.out.size _) hb); clear hb)) | (go_at_call 15; ((with_reducible refine (HMY.out _ _ (strs_one _ y)).mono ?_); rintro e wn ⟨rfl, hb⟩; have HB := Lib.hid (Below.next (HB.out.alloc HB.out.size _) hb); clear hb)) | (go_at_call 15; ((with_reducible refine (HMZ.out _ _ (strs_one _ z)).mono ?_); rintro e wn ⟨rfl, hb⟩; have HB := Lib.hid (Below.next (HB.out.alloc HB.out.size _) hb); clear hb)) | (go_at_call 24; ((with_reducible refine (HIX.out _).mono ?_); rintro e wn ⟨rfl, hb⟩; have HB := Lib.hid (Below.next HB.out hb); clear hb)) | (go_at_call 24; ((with_reducible refine (HIY.out _).mono ?_); rintro e wn ⟨rfl, hb⟩; have HB := Lib.hid (Below.next HB.out hb); clear hb)) | (go_at_call 24; ((with_reducible refine (HIZ.out _).mono ?_); rintro e wn ⟨rfl, hb⟩; have HB := Lib.hid (Below.next HB.out hb); clear hb)) | (go_at_call 21; ((with_reducible refine (HAXQ.out _).mono ?_); rintro e wn ⟨rfl, hb⟩; have HB := Lib.hid (Below.next HB.out hb); clear hb)) | (go_at_call 21; ((with_reducible refine (HAYP.out _).mono ?_); rintro e wn ⟨rfl, hb⟩; have HB := Lib.hid (Below.next HB.out hb); clear hb)) | (go_at_call 21; ((with_reducible refine (HAXR.out _).mono ?_); rintro e wn ⟨rfl, hb⟩; have HB := Lib.hid (Below.next HB.out hb); clear hb)) | (go_at_call 25; ((with_reducible refine (HRP.out _).mono ?_); rintro e wn ⟨rfl, hb⟩; have HB := Lib.hid (Below.next HB.out hb); clear hb)) | (go_at_call 22; ((with_reducible refine (HRA.out _).mono ?_); rintro e wn ⟨rfl, hb⟩; have HB := Lib.hid (Below.next HB.out hb); clear hb)) | (go_at_call 12; ((with_reducible refine (HKA.out _).mono ?_); rintro e wn ⟨rfl, hb⟩; have HB := Lib.hid (Below.next HB.out hb); clear hb)) | fail)
      go_ret
      exact ⟨rfl, HB.out⟩
theorem termagrees_walk (x y z : ByteArray) (hx : x.size ≤ maxLen) (hy : y.size ≤ maxLen) (hz : z.size ≤ maxLen) (w : World) : Calls Try.prog 6 #[.string x, .string y, .string z] w fun e w' => e = .returned (.bool true) ∧ Below w.heap.size w w' := by
  unfold maxLen at hx hy hz
  by_cases h1 : 1000 < x.size
  · have h1i : (1000 : Int) < x.size := by omega
    go_enter Try.func6, Try.ntmps6
    go_wp2_with (first | (go_at_call 7; ((with_reducible refine (aw2 _).mono ?_); rintro e w1 ⟨rfl, hb⟩; have HB := Lib.hid hb; clear hb)) | fail)
    go_ret
    exact ⟨rfl, HB.out⟩
  by_cases h2 : 1000 < y.size
  · have h1i : (x.size : Int) ≤ 1000 := by omega
    have h2i : (1000 : Int) < y.size := by omega
    go_enter Try.func6, Try.ntmps6
    go_wp2_with (first | (go_at_call 7; ((with_reducible refine (aw2 _).mono ?_); rintro e w1 ⟨rfl, hb⟩; have HB := Lib.hid hb; clear hb)) | fail)
    go_ret
    exact ⟨rfl, HB.out⟩
  by_cases h3 : 1000 < z.size
  · have h1i : (x.size : Int) ≤ 1000 := by omega
    have h2i : (y.size : Int) ≤ 1000 := by omega
    have h3i : (1000 : Int) < z.size := by omega
    go_enter Try.func6, Try.ntmps6
    go_wp2_with (first | (go_at_call 7; ((with_reducible refine (aw2 _).mono ?_); rintro e w1 ⟨rfl, hb⟩; have HB := Lib.hid hb; clear hb)) | fail)
    go_ret
    exact ⟨rfl, HB.out⟩
  cases hbx : isL x.data.toList with
  | false =>
    cases hby : isL y.data.toList with
    | false => exact agrees_none x y z (by omega) (by omega) (by omega) _ _ hbx hby (.inl ⟨rfl, rfl⟩) w
    | true => exact agrees_none x y z (by omega) (by omega) (by omega) _ _ hbx hby (.inr (.inl ⟨rfl, rfl⟩)) w
  | true =>
    cases hby : isL y.data.toList with
    | false => exact agrees_none x y z (by omega) (by omega) (by omega) _ _ hbx hby (.inr (.inr ⟨rfl, rfl⟩)) w
    | true => exact agrees_both x y z (by omega) (by omega) (by omega) hbx hby w
end Go.Proofs.Ytelfcdfbhnkakaa
