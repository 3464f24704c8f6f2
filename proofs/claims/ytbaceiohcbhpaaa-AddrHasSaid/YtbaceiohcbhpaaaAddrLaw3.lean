import Derived.Test.YtbaceiohcbhpaaaAddrLaw2
namespace Go.Proofs.Ytbaceiohcbhpaaa
set_option linter.unusedVariables false
set_option linter.unusedSimpArgs false
set_option maxRecDepth 100000
open Go.RowKit

theorem keepH_bit (c r j : Nat) (hj : j < r) (hr : r ≤ 8) : keepH c r / 2 ^ (7 - j) % 2 = c / 2 ^ (7 - j) % 2 := by
  unfold keepH
  obtain ⟨d, hd⟩ : ∃ d, 7 - j = (8 - r) + d := ⟨7 - j - (8 - r), by omega⟩
  rw [hd, Nat.pow_add, ← Nat.div_div_eq_div_mul, ← Nat.div_div_eq_div_mul, Nat.mul_div_cancel _ (Nat.pow_pos (by omega))]
theorem plain_bit {a : List UInt8} {k i : Nat} (hi : i < k) (hk : k ≤ 8 * a.length) : bitAt (plainS a k) i = bitAt a i := by
  unfold bitAt
  rw [plainS_get (by omega)]
  by_cases h : 8 ≤ k - 8 * (i / 8)
  · have : keepH (a.getD (i / 8) 0).toNat (k - 8 * (i / 8)) = (a.getD (i / 8) 0).toNat := by
      unfold keepH
      rw [show 8 - (k - 8 * (i / 8)) = 0 by omega]
      simp
    rw [this]
  · exact keepH_bit _ _ _ (by omega) (by omega)
theorem plain_has {a b : List UInt8} {m : Int} (hr : rightP a.length m = true) : hasP (plainS a m.toNat) m b = hasP a m b := by
  obtain ⟨h1, h2, h3⟩ := right_len hr
  unfold hasP
  rw [plainS_len]
  congr 2
  rw [Bool.eq_iff_iff, List.all_eq_true, List.all_eq_true]
  constructor
  · intro h i hi
    have := h i hi
    rw [plain_bit (List.mem_range.1 hi) (by omega)] at this; exact this
  · intro h i hi
    rw [plain_bit (List.mem_range.1 hi) (by omega)]; exact h i hi
theorem same4_self (l : List UInt8) (ad bd : Option Addr) (n : Nat) (hn : n = l.length) (cp cq : Nat) (m : Int) (w : World) (ha : Bytes w (.slice ad n cp) l) (hb : Bytes w (.slice bd n cq) l) :
    Calls Try.prog 11 #[.agg #[.slice ad n cp, .int .i64 m], .agg #[.slice bd n cq, .int .i64 m]] w fun e w' => e = .returned (.bool true) ∧ Below w.heap.size w w' := by
  subst hn
  have h := rsame4_any l l ad bd cp cq m m w ha hb
  have e : ((m == m) && (l == l)) = true := by simp
  rw [e] at h; exact h
theorem aplain_yes (a : List UInt8) (ad : Option Addr) (cp : Nat) (bits : Int) (hac : a.length ≤ cp) (hcm : cp ≤ maxLen) (hal : a.length ≤ 1000) (hr : rightP a.length bits = true) (w : World) (ha : Bytes w (.slice ad a.length cp) a) :
    Calls Try.prog 6 #[.agg #[.slice ad a.length cp, .int .i64 bits]] w fun e w' => ∃ qd qc, e = .returned (.tuple #[.agg #[.slice qd a.length qc, .int .i64 bits], .int .i64 0]) ∧ Bytes w' (.slice qd a.length qc) (plainS a bits.toNat) ∧ a.length ≤ qc ∧ qc ≤ maxLen ∧ Below w.heap.size w w' := by
  have h := aplain_any a ad cp bits w ha hac hcm hal
  have e : plainOf a bits = (plainS a bits.toNat, bits, 0) := by unfold plainOf; rw [if_pos hr]
  unfold PlainRet4 at h
  rw [e] at h
  simp only [plainS_len] at h
  exact h
theorem aplain_no (a : List UInt8) (ad : Option Addr) (cp : Nat) (bits : Int) (hac : a.length ≤ cp) (hcm : cp ≤ maxLen) (hal : a.length ≤ 1000) (hr : rightP a.length bits = false) (w : World) (ha : Bytes w (.slice ad a.length cp) a) :
    Calls Try.prog 6 #[.agg #[.slice ad a.length cp, .int .i64 bits]] w fun e w' => ∃ qd qc, e = .returned (.tuple #[.agg #[.slice qd 0 qc, .int .i64 0], .int .i64 3]) ∧ Below w.heap.size w w' := by
  have h := aplain_any a ad cp bits w ha hac hcm hal
  have e : plainOf a bits = ([], 0, 3) := by unfold plainOf; rw [if_neg (by simp [hr])]
  unfold PlainRet4 at h
  rw [e] at h
  refine h.mono ?_
  rintro e w' ⟨qd, qc, rfl, _, _, _, hb⟩
  exact ⟨qd, qc, rfl, hb⟩
theorem rplain_y (a : List UInt8) (ad : Option Addr) (cp : Nat) (bits : Int) (hal : a.length ≤ 1000) (hr : rightP a.length bits = true) (w : World) (ha : Bytes w (.slice ad a.length cp) a) :
    Calls Try.prog 12 #[.agg #[.slice ad a.length cp, .int .i64 bits]] w fun e w' => ∃ qd qc, e = .returned (.agg #[.slice qd a.length qc, .int .i64 bits]) ∧ Bytes w' (.slice qd a.length qc) (plainS a bits.toNat) ∧ Below w.heap.size w w' := by
  have h := rplain_v a ad cp bits w ha hal hr
  unfold PlainRet at h
  simp only [plainS_len] at h
  exact h

set_option maxHeartbeats 8000000 in
theorem addrhas_walk (a b : List UInt8) (ad bd : Option Addr) (cp cb : Nat) (m : Int) (w : World) (ha : Bytes w (.slice ad a.length cp) a) (hb : Bytes w (.slice bd b.length cb) b)
    (hac : a.length ≤ cp) (hcm : cp ≤ maxLen) (hbc : b.length ≤ cb) (hbm : cb ≤ maxLen) :
    Calls Try.prog 3 #[.agg #[.slice ad a.length cp, .int .i64 m], .slice bd b.length cb] w fun e w' => e = .returned (.bool true) ∧ Below w.heap.size w w' := by
  have hac2 : (a.length : Int) ≤ 9223372036854775807 := by unfold maxLen at hcm; omega
  have hbc2 : (b.length : Int) ≤ 9223372036854775807 := by unfold maxLen at hbm; omega
  have e0 := heap_alloc_new w (.cells #[.slice ad a.length cp, .int .i64 m] 24)
  have c0 : (w.alloc (.cells #[.slice ad a.length cp, .int .i64 m] 24)).cell? ⟨w.heap.size, 0, none⟩ = some (.slice ad a.length cp) := cell_of e0 0 rfl
  have c1 : (w.alloc (.cells #[.slice ad a.length cp, .int .i64 m] 24)).cell? ⟨w.heap.size, 1, none⟩ = some (.int .i64 m) := cell_of e0 1 rfl
  have HB : Hid (Below w.heap.size w (w.alloc (.cells #[.slice ad a.length cp, .int .i64 m] 24))) := Lib.hid (below_one _)
  have HVA := Lib.hid ha
  have HVB := Lib.hid hb
  clear e0 ha hb
  by_cases h1 : 40 < a.length
  · have h1i : (40 : Int) < a.length := by omega
    go_enter Try.func3, Try.ntmps3
    go_wp2_with (first | (go_at_call 5; ((with_reducible refine (awake4 _).mono ?_); rintro e wn ⟨rfl, hb⟩; have c0 := cell_keep4 c0 hb; have c1 := cell_keep4 c1 hb; have HB := Lib.hid (Below.next HB.out hb); clear hb)) | fail)
    go_ret
    exact ⟨rfl, HB.out⟩
  have h1i : (a.length : Int) ≤ 40 := by omega
  by_cases h2 : 40 < b.length
  · have h2i : (40 : Int) < b.length := by omega
    go_enter Try.func3, Try.ntmps3
    go_wp2_with (first | (go_at_call 5; ((with_reducible refine (awake4 _).mono ?_); rintro e wn ⟨rfl, hb⟩; have c0 := cell_keep4 c0 hb; have c1 := cell_keep4 c1 hb; have HB := Lib.hid (Below.next HB.out hb); clear hb)) | fail)
    go_ret
    exact ⟨rfl, HB.out⟩
  have h2i : (b.length : Int) ≤ 40 := by omega
  obtain ⟨h5, hh5⟩ : ∃ r, hasP a m b = r := ⟨_, rfl⟩
  have hAH : ∀ w, Bytes w (.slice ad a.length cp) a → Bytes w (.slice bd b.length cb) b → Calls Try.prog 9 #[.agg #[.slice ad a.length cp, .int .i64 m], .slice bd b.length cb] w fun e w' => e = .returned (.bool h5) ∧ Below w.heap.size w w' :=
    fun w h1 h2 => by rw [← hh5]; exact ahas_any a b ad bd cp cb m w h1 h2 hac hcm hbc hbm (by omega) (by omega)
  have hRH : ∀ w, Bytes w (.slice ad a.length cp) a → Bytes w (.slice bd b.length cb) b → Calls Try.prog 10 #[.agg #[.slice ad a.length cp, .int .i64 m], .slice bd b.length cb] w fun e w' => e = .returned (.bool h5) ∧ Below w.heap.size w w' :=
    fun w h1 h2 => by rw [← hh5]; exact rhas_any a b ad _ cp m w h1 h2 (by omega) (by omega)
  have HAH := Lib.hid hAH
  have HRH := Lib.hid hRH
  have hxx : (h5 == h5) = true := by simp
  have hxn : (h5 != h5) = false := by simp
  cases hr : rightP a.length m with
  | false =>
    have HAR := Lib.hid (aright_v ad a.length cp m (by omega) false hr)
    have HRR := Lib.hid (rright_v ad a.length cp m (by omega) false hr)
    have HPN := Lib.hid (fun w h => aplain_no a ad cp m hac hcm (by omega) hr w h)
    clear hr hh5 hAH hRH hac hcm hbc hbm hac2 hbc2
    go_enter Try.func3, Try.ntmps3
    go_wp2_with (first | (go_at_call 5; ((with_reducible refine (awake4 _).mono ?_); rintro e wn ⟨rfl, hb⟩; have c0 := cell_keep4 c0 hb; have c1 := cell_keep4 c1 hb; have HB := Lib.hid (Below.next HB.out hb); clear hb)) | (go_at_call 6; ((with_reducible refine (HPN.out _ (HVA.out.below HB.out)).mono ?_); rintro e wn ⟨qd, qc, rfl, hb⟩; have c0 := cell_keep4 c0 hb; have c1 := cell_keep4 c1 hb; have HB := Lib.hid (Below.next HB.out hb); clear hb)) | fail)
    have hq0 := heap_alloc_new wn (.cells #[.slice qd 0 qc, .int .i64 0] 24)
    have hnew := below_one (w := wn) (.cells #[.slice qd 0 qc, .int .i64 0] 24)
    have c0 := cell_keep4 c0 hnew; have c1 := cell_keep4 c1 hnew
    have c2 : (wn.alloc (.cells #[.slice qd 0 qc, .int .i64 0] 24)).cell? ⟨wn.heap.size, 0, none⟩ = some (.slice qd 0 qc) := cell_of hq0 0 rfl
    have c3 : (wn.alloc (.cells #[.slice qd 0 qc, .int .i64 0] 24)).cell? ⟨wn.heap.size, 1, none⟩ = some (.int .i64 0) := cell_of hq0 1 rfl
    have HB := Lib.hid (Below.next HB.out hnew)
    clear hnew hq0
    generalize wn.alloc (.cells #[.slice qd 0 qc, .int .i64 0] 24) = wv at *
    generalize wn.heap.size = B at *
    have HB : Hid (Below w.heap.size w wv.drew) := Lib.hid HB.out.drew
    have c0 : wv.drew.cell? ⟨w.heap.size, 0, none⟩ = some (.slice ad a.length cp) := c0
    have c1 : wv.drew.cell? ⟨w.heap.size, 1, none⟩ = some (.int .i64 m) := c1
    have c2 : wv.drew.cell? ⟨B, 0, none⟩ = some (.slice qd 0 qc) := c2
    have c3 : wv.drew.cell? ⟨B, 1, none⟩ = some (.int .i64 0) := c3
    go_region_held3 (fun W => W.cell? ⟨w.heap.size, 0, none⟩ = some (.slice ad a.length cp) ∧ W.cell? ⟨w.heap.size, 1, none⟩ = some (.int .i64 m) ∧ W.cell? ⟨B, 0, none⟩ = some (.slice qd 0 qc) ∧ W.cell? ⟨B, 1, none⟩ = some (.int .i64 0)) (exact ⟨c0, c1, c2, c3⟩)
      (first | ((go_at_call 7; (with_reducible refine (HAR.out _).mono ?_); rintro e wn ⟨rfl, hb⟩; have c2 := cell_keep4 c2 hb; have c3 := cell_keep4 c3 hb; have c0 := cell_keep4 c0 hb; have c1 := cell_keep4 c1 hb; have HB := Lib.hid (Below.next HB.out hb); clear hb)) | ((go_at_call 8; (with_reducible refine (HRR.out _).mono ?_); rintro e wn ⟨rfl, hb⟩; have c2 := cell_keep4 c2 hb; have c3 := cell_keep4 c3 hb; have c0 := cell_keep4 c0 hb; have c1 := cell_keep4 c1 hb; have HB := Lib.hid (Below.next HB.out hb); clear hb)) | ((go_at_call 9; (with_reducible refine (HAH.out _ (HVA.out.below HB.out) (HVB.out.below HB.out)).mono ?_); rintro e wn ⟨rfl, hb⟩; have c2 := cell_keep4 c2 hb; have c3 := cell_keep4 c3 hb; have c0 := cell_keep4 c0 hb; have c1 := cell_keep4 c1 hb; have HB := Lib.hid (Below.next HB.out hb); clear hb)) | ((go_at_call 10; (with_reducible refine (HRH.out _ (HVA.out.below HB.out) (HVB.out.below HB.out)).mono ?_); rintro e wn ⟨rfl, hb⟩; have c2 := cell_keep4 c2 hb; have c3 := cell_keep4 c3 hb; have c0 := cell_keep4 c0 hb; have c1 := cell_keep4 c1 hb; have HB := Lib.hid (Below.next HB.out hb); clear hb)))
    all_goals
      go_wp2_with (first | ((go_at_call 8; (with_reducible refine (HRR.out _).mono ?_); rintro e wn ⟨rfl, hb⟩; have c2 := cell_keep4 c2 hb; have c3 := cell_keep4 c3 hb; have c0 := cell_keep4 c0 hb; have c1 := cell_keep4 c1 hb; have HB := Lib.hid (Below.next HB.out hb); clear hb)) | fail)
      go_ret
      exact ⟨rfl, HB.out⟩
  | true =>
    have HAR := Lib.hid (aright_v ad a.length cp m (by omega) true hr)
    have HRR := Lib.hid (rright_v ad a.length cp m (by omega) true hr)
    have HPY := Lib.hid (fun w h => aplain_yes a ad cp m hac hcm (by omega) hr w h)
    have HRPL := Lib.hid (fun w h => rplain_y a ad cp m (by omega) hr w h)
    have HPL : Hid (a.length = (plainS a m.toNat).length) := Lib.hid (plainS_len a _).symm
    have hAQ : ∀ qd qc, a.length ≤ qc → qc ≤ maxLen → ∀ w, Bytes w (.slice qd a.length qc) (plainS a m.toNat) → Bytes w (.slice bd b.length cb) b → Calls Try.prog 9 #[.agg #[.slice qd a.length qc, .int .i64 m], .slice bd b.length cb] w fun e w' => e = .returned (.bool h5) ∧ Below w.heap.size w w' := fun qd qc h3 h4 w h1 h2 => by
      have h := ahas_any (plainS a m.toNat) b qd bd qc cb m w (by rw [plainS_len]; exact h1) h2 (by rw [plainS_len]; exact h3) h4 hbc hbm (by rw [plainS_len]; omega) (by omega)
      rw [plain_has hr, hh5, plainS_len] at h
      exact h
    have HAQ := Lib.hid hAQ
    clear hr hh5 hAH hRH hAQ hac hcm hbc hbm hac2 hbc2
    go_enter Try.func3, Try.ntmps3
    go_wp2_with (first | (go_at_call 5; ((with_reducible refine (awake4 _).mono ?_); rintro e wn ⟨rfl, hb⟩; have c0 := cell_keep4 c0 hb; have c1 := cell_keep4 c1 hb; have HB := Lib.hid (Below.next HB.out hb); clear hb)) | (go_at_call 6; ((with_reducible refine (HPY.out _ (HVA.out.below HB.out)).mono ?_); rintro e wn ⟨qd, qc, rfl, hvq, hqc, hqm, hb⟩; have HVQ := Lib.hid hvq; have HQC := Lib.hid hqc; have HQM := Lib.hid hqm; clear hvq hqc hqm; have c0 := cell_keep4 c0 hb; have c1 := cell_keep4 c1 hb; have HB := Lib.hid (Below.next HB.out hb); clear hb)) | fail)
    have hq0 := heap_alloc_new wn (.cells #[.slice qd a.length qc, .int .i64 m] 24)
    have hnew := below_one (w := wn) (.cells #[.slice qd a.length qc, .int .i64 m] 24)
    have c0 := cell_keep4 c0 hnew; have c1 := cell_keep4 c1 hnew
    have c2 : (wn.alloc (.cells #[.slice qd a.length qc, .int .i64 m] 24)).cell? ⟨wn.heap.size, 0, none⟩ = some (.slice qd a.length qc) := cell_of hq0 0 rfl
    have c3 : (wn.alloc (.cells #[.slice qd a.length qc, .int .i64 m] 24)).cell? ⟨wn.heap.size, 1, none⟩ = some (.int .i64 m) := cell_of hq0 1 rfl
    have HVQ := Lib.hid (HVQ.out.below hnew)
    have HB := Lib.hid (Below.next HB.out hnew)
    clear hnew hq0
    generalize wn.alloc (.cells #[.slice qd a.length qc, .int .i64 m] 24) = wv at *
    generalize wn.heap.size = B at *
    have HB : Hid (Below w.heap.size w wv.drew) := Lib.hid HB.out.drew
    have HVQ : Hid (Bytes wv.drew (.slice qd a.length qc) (plainS a m.toNat)) := Lib.hid HVQ.out
    have c0 : wv.drew.cell? ⟨w.heap.size, 0, none⟩ = some (.slice ad a.length cp) := c0
    have c1 : wv.drew.cell? ⟨w.heap.size, 1, none⟩ = some (.int .i64 m) := c1
    have c2 : wv.drew.cell? ⟨B, 0, none⟩ = some (.slice qd a.length qc) := c2
    have c3 : wv.drew.cell? ⟨B, 1, none⟩ = some (.int .i64 m) := c3
    go_region_held3 (fun W => W.cell? ⟨w.heap.size, 0, none⟩ = some (.slice ad a.length cp) ∧ W.cell? ⟨w.heap.size, 1, none⟩ = some (.int .i64 m) ∧ W.cell? ⟨B, 0, none⟩ = some (.slice qd a.length qc) ∧ W.cell? ⟨B, 1, none⟩ = some (.int .i64 m)) (exact ⟨c0, c1, c2, c3⟩)
      (first | ((go_at_call 7; (with_reducible refine (HAR.out _).mono ?_); rintro e wn ⟨rfl, hb⟩; have HVQ := Lib.hid (Bytes.below HVQ.out hb); have c2 := cell_keep4 c2 hb; have c3 := cell_keep4 c3 hb; have c0 := cell_keep4 c0 hb; have c1 := cell_keep4 c1 hb; have HB := Lib.hid (Below.next HB.out hb); clear hb)) | ((go_at_call 8; (with_reducible refine (HRR.out _).mono ?_); rintro e wn ⟨rfl, hb⟩; have HVQ := Lib.hid (Bytes.below HVQ.out hb); have c2 := cell_keep4 c2 hb; have c3 := cell_keep4 c3 hb; have c0 := cell_keep4 c0 hb; have c1 := cell_keep4 c1 hb; have HB := Lib.hid (Below.next HB.out hb); clear hb)) | ((go_at_call 9; (with_reducible refine (HAH.out _ (HVA.out.below HB.out) (HVB.out.below HB.out)).mono ?_); rintro e wn ⟨rfl, hb⟩; have HVQ := Lib.hid (Bytes.below HVQ.out hb); have c2 := cell_keep4 c2 hb; have c3 := cell_keep4 c3 hb; have c0 := cell_keep4 c0 hb; have c1 := cell_keep4 c1 hb; have HB := Lib.hid (Below.next HB.out hb); clear hb)) | ((go_at_call 10; (with_reducible refine (HRH.out _ (HVA.out.below HB.out) (HVB.out.below HB.out)).mono ?_); rintro e wn ⟨rfl, hb⟩; have HVQ := Lib.hid (Bytes.below HVQ.out hb); have c2 := cell_keep4 c2 hb; have c3 := cell_keep4 c3 hb; have c0 := cell_keep4 c0 hb; have c1 := cell_keep4 c1 hb; have HB := Lib.hid (Below.next HB.out hb); clear hb)))
    all_goals
      go_wp2_with (first | (go_at_call 8; ((with_reducible refine (HRR.out _).mono ?_); rintro e wn ⟨rfl, hb⟩; have HVQ := Lib.hid (Bytes.below HVQ.out hb); have c2 := cell_keep4 c2 hb; have c3 := cell_keep4 c3 hb; have c0 := cell_keep4 c0 hb; have c1 := cell_keep4 c1 hb; have HB := Lib.hid (Below.next HB.out hb); clear hb)) | fail)
      have HB : Hid (Below w.heap.size w wn.drew) := Lib.hid HB.out.drew
      have HVQ : Hid (Bytes wn.drew (.slice qd a.length qc) (plainS a m.toNat)) := Lib.hid HVQ.out
      have c0 : wn.drew.cell? ⟨w.heap.size, 0, none⟩ = some (.slice ad a.length cp) := c0
      have c1 : wn.drew.cell? ⟨w.heap.size, 1, none⟩ = some (.int .i64 m) := c1
      have c2 : wn.drew.cell? ⟨B, 0, none⟩ = some (.slice qd a.length qc) := c2
      have c3 : wn.drew.cell? ⟨B, 1, none⟩ = some (.int .i64 m) := c3
      go_region_held3 (fun W => W.cell? ⟨w.heap.size, 0, none⟩ = some (.slice ad a.length cp) ∧ W.cell? ⟨w.heap.size, 1, none⟩ = some (.int .i64 m) ∧ W.cell? ⟨B, 0, none⟩ = some (.slice qd a.length qc) ∧ W.cell? ⟨B, 1, none⟩ = some (.int .i64 m)) (exact ⟨c0, c1, c2, c3⟩)
        (first | ((go_at_call 12; (with_reducible refine (HRPL.out _ (HVA.out.below HB.out)).mono ?_); rintro e wn ⟨sd, sc, rfl, hvs, hb⟩; have HVS := Lib.hid hvs; clear hvs; have HVQ := Lib.hid (Bytes.below HVQ.out hb); have c2 := cell_keep4 c2 hb; have c3 := cell_keep4 c3 hb; have c0 := cell_keep4 c0 hb; have c1 := cell_keep4 c1 hb; have HB := Lib.hid (Below.next HB.out hb); clear hb)) | ((go_at_call 11; (with_reducible refine (same4_self (plainS a m.toNat) qd sd a.length HPL.out qc sc m _ HVQ.out HVS.out).mono ?_); rintro e wn ⟨rfl, hb⟩; have HVQ := Lib.hid (Bytes.below HVQ.out hb); have c2 := cell_keep4 c2 hb; have c3 := cell_keep4 c3 hb; have c0 := cell_keep4 c0 hb; have c1 := cell_keep4 c1 hb; have HB := Lib.hid (Below.next HB.out hb); clear hb)) | ((go_at_call 9; (with_reducible refine (HAH.out _ (HVA.out.below HB.out) (HVB.out.below HB.out)).mono ?_); rintro e wn ⟨rfl, hb⟩; have HVQ := Lib.hid (Bytes.below HVQ.out hb); have c2 := cell_keep4 c2 hb; have c3 := cell_keep4 c3 hb; have c0 := cell_keep4 c0 hb; have c1 := cell_keep4 c1 hb; have HB := Lib.hid (Below.next HB.out hb); clear hb)) | ((go_at_call 9; (with_reducible refine (HAQ.out qd qc HQC.out HQM.out _ HVQ.out (HVB.out.below HB.out)).mono ?_); rintro e wn ⟨rfl, hb⟩; have HVQ := Lib.hid (Bytes.below HVQ.out hb); have c2 := cell_keep4 c2 hb; have c3 := cell_keep4 c3 hb; have c0 := cell_keep4 c0 hb; have c1 := cell_keep4 c1 hb; have HB := Lib.hid (Below.next HB.out hb); clear hb)))
      all_goals
        go_wp2_with fail
        go_ret
        exact ⟨rfl, HB.out⟩
end Go.Proofs.Ytbaceiohcbhpaaa
