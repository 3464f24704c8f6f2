import Derived.Test.YtbaceiohcbhpaaaDoorAddrLaw2
namespace Go.Proofs.YtbaceiohcbhpaaaDoor
set_option linter.unusedVariables false
set_option linter.unusedSimpArgs false
set_option maxRecDepth 100000
open Go.RowKit

theorem keepH_bit (c r j : Nat) (hj : j < r) (hr : r ≤ 8) : keepH c r / 2 ^ (7 - j) % 2 = c / 2 ^ (7 - j) % 2 := by
  unfold keepH
  obtain ⟨d, hd⟩ : ∃ d, 7 - j = (8 - r) + d := ⟨7 - j - (8 - r), by omega⟩
  rw [hd, Nat.pow_add, ← Nat.div_div_eq_div_mul, ← Nat.div_div_eq_div_mul, Nat.mul_div_cancel _ (Nat.pow_pos (by omega))]
theorem plain_bit {a : List UInt8} {k i : Nat} (hi : i < k) (hk : k ≤ 8 * a.length) : bitAt (plainS a k) i = bitAt a i := by
  unfold bitAt
  rw [plainS_get (by omega)]
  by_cases h : 8 ≤ k - 8 * (i / 8)
  · have : keepH (a.getD (i / 8) 0).toNat (k - 8 * (i / 8)) = (a.getD (i / 8) 0).toNat := by
      unfold keepH
      rw [show 8 - (k - 8 * (i / 8)) = 0 by omega]
      simp
    rw [this]
  · exact keepH_bit _ _ _ (by omega) (by omega)
theorem plain_has {a b : List UInt8} {m : Int} (hr : rightP a.length m = true) : hasP (plainS a m.toNat) m b = hasP a m b := by
  obtain ⟨h1, h2, h3⟩ := right_len hr
  unfold hasP
  rw [plainS_len]
  congr 2
  rw [Bool.eq_iff_iff, List.all_eq_true, List.all_eq_true]
  constructor
  · intro h i hi
    have := h i hi
    rw [plain_bit (List.mem_range.1 hi) (by omega)] at this; exact this
  · intro h i hi
    rw [plain_bit (List.mem_range.1 hi) (by omega)]; exact h i hi
theorem same4_self (l : List UInt8) (ad bd : Option Addr) (n : Nat) (hn : n = l.length) (cp cq : Nat) (m : Int) (w : World) (ha : Bytes w (.slice ad n cp) l) (hb : Bytes w (.slice bd n cq) l) :
    Calls Tryd.prog 11 #[.agg #[.slice ad n cp, .int .i64 m], .agg #[.slice bd n cq, .int .i64 m]] w fun e w' => e = .returned (.bool true) ∧ Below w.heap.size w w' := by
  subst hn
  have h := rsame4_any l l ad bd cp cq m m w ha hb
  have e : ((m == m) && (l == l)) = true := by simp
  rw [e] at h; exact h
theorem aplain_yes (a : List UInt8) (ad : Option Addr) (cp : Nat) (bits : Int) (hac : a.length ≤ cp) (hcm : cp ≤ maxLen) (hal : a.length ≤ 1000) (hr : rightP a.length bits = true) (w : World) (ha : Bytes w (.slice ad a.length cp) a) :
    Calls Tryd.prog 18 #[.agg #[.slice ad a.length cp, .int .i64 bits]] w fun e w' => ∃ qd qc, e = .returned (.tuple #[.agg #[.slice qd a.length qc, .int .i64 bits], .int .i64 0]) ∧ Bytes w' (.slice qd a.length qc) (plainS a bits.toNat) ∧ a.length ≤ qc ∧ qc ≤ maxLen ∧ Below w.heap.size w w' := by
  have h := aplain_any a ad cp bits w ha hac hcm hal
  have e : plainOf a bits = (plainS a bits.toNat, bits, 0) := by unfold plainOf; rw [if_pos hr]
  unfold PlainRet4 at h
  rw [e] at h
  simp only [plainS_len] at h
  exact h
theorem aplain_no (a : List UInt8) (ad : Option Addr) (cp : Nat) (bits : Int) (hac : a.length ≤ cp) (hcm : cp ≤ maxLen) (hal : a.length ≤ 1000) (hr : rightP a.length bits = false) (w : World) (ha : Bytes w (.slice ad a.length cp) a) :
    Calls Tryd.prog 18 #[.agg #[.slice ad a.length cp, .int .i64 bits]] w fun e w' => ∃ qd qc, e = .returned (.tuple #[.agg #[.slice qd 0 qc, .int .i64 0], .int .i64 3]) ∧ Below w.heap.size w w' := by
  have h := aplain_any a ad cp bits w ha hac hcm hal
  have e : plainOf a bits = ([], 0, 3) := by unfold plainOf; rw [if_neg (by simp [hr])]
  unfold PlainRet4 at h
  rw [e] at h
  refine h.mono ?_
  rintro e w' ⟨qd, qc, rfl, _, _, _, hb⟩
  exact ⟨qd, qc, rfl, hb⟩
theorem rplain_y (a : List UInt8) (ad : Option Addr) (cp : Nat) (bits : Int) (hal : a.length ≤ 1000) (hr : rightP a.length bits = true) (w : World) (ha : Bytes w (.slice ad a.length cp) a) :
    Calls Tryd.prog 16 #[.agg #[.slice ad a.length cp, .int .i64 bits]] w fun e w' => ∃ qd qc, e = .returned (.agg #[.slice qd a.length qc, .int .i64 bits]) ∧ Bytes w' (.slice qd a.length qc) (plainS a bits.toNat) ∧ Below w.heap.size w w' := by
  have h := rplain_v a ad cp bits w ha hal hr
  unfold PlainRet at h
  simp only [plainS_len] at h
  exact h

end Go.Proofs.YtbaceiohcbhpaaaDoor
