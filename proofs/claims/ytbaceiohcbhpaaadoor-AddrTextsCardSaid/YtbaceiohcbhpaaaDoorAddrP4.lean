/- The program's Has and Within, by contract. -/
import Derived.Test.YtbaceiohcbhpaaaDoorAddrP3
namespace Go.Proofs.YtbaceiohcbhpaaaDoor
set_option linter.unusedVariables false
set_option linter.unusedSimpArgs false
set_option maxRecDepth 100000
open Go.RowKit Go.Shelf
attribute [local go_sem] Oper.semAt_some

/-! which bits of two bytes are the same -/
theorem keepH_eq {x y r : Nat} : keepH x r = keepH y r ↔ x / 2 ^ (8 - r) = y / 2 ^ (8 - r) := by
  unfold keepH
  constructor
  · intro h
    exact Nat.eq_of_mul_eq_mul_right (Nat.pow_pos (by omega)) h
  · intro h; rw [h]
theorem div_bits {x y : Nat} (hx : x < 256) (hy : y < 256) : ∀ r, r ≤ 8 → (x / 2 ^ (8 - r) = y / 2 ^ (8 - r) ↔ ∀ j, j < r → x / 2 ^ (7 - j) % 2 = y / 2 ^ (7 - j) % 2)
  | 0, _ => by
    constructor
    · intro _ j hj; omega
    · intro _; rw [Nat.div_eq_of_lt hx, Nat.div_eq_of_lt hy]
  | r + 1, hr => by
    have ih := div_bits hx hy r (by omega)
    have e1 : ∀ z, z / 2 ^ (8 - r) = z / 2 ^ (7 - r) / 2 := fun z => by rw [show 8 - r = (7 - r) + 1 by omega, Nat.pow_succ, Nat.div_div_eq_div_mul]
    rw [e1, e1] at ih
    rw [show 8 - (r + 1) = 7 - r by omega]
    constructor
    · intro h j hj
      by_cases hjr : j = r
      · subst hjr; rw [h]
      · exact ih.1 (by rw [h]) j (by omega)
    · intro h
      have h1 := ih.2 fun j hj => h j (by omega)
      have h2 := h r (by omega)
      omega
theorem keepH_bits {x y r : Nat} (hx : x < 256) (hy : y < 256) (hr : r ≤ 8) : keepH x r = keepH y r ↔ ∀ j, j < r → x / 2 ^ (7 - j) % 2 = y / 2 ^ (7 - j) % 2 := keepH_eq.trans (div_bits hx hy r hr)
/-- what is left of two bytes' difference, of which r bits count -/
def zInt (x y : UInt8) (r : Nat) : Int := bits BinOp.and IntKind.u8 (bits BinOp.xor IntKind.u8 (x.toNat : Int) (y.toNat : Int)) (maskN r : Nat)
theorem xor_nat (x y : UInt8) : bits BinOp.xor IntKind.u8 (x.toNat : Int) (y.toNat : Int) = (((x ^^^ y).toNat : Nat) : Int) := by
  have hx := UInt8.toNat_lt x
  have hy := UInt8.toNat_lt y
  have hz := UInt8.toNat_lt (x ^^^ y)
  have e : ∀ u : UInt8, (BitVec.ofInt 8 (u.toNat : Int)).toNat = u.toNat := fun u => by
    have := UInt8.toNat_lt u
    rw [BitVec.toNat_ofInt]
    omega
  have e2 : (BitVec.ofInt 8 (x.toNat : Int) ^^^ BitVec.ofInt 8 (y.toNat : Int)).toNat = (x ^^^ y).toNat := by
    rw [BitVec.toNat_xor, e, e, UInt8.toNat_xor]
  show IntKind.u8.wrap (((BitVec.ofInt 8 (x.toNat : Int) ^^^ BitVec.ofInt 8 (y.toNat : Int)).toNat : Nat) : Int) = _
  rw [e2, wrap_u8 _ (by omega) (by omega)]
theorem xor_zero {a b : Nat} (h : a ^^^ b = 0) : a = b := by
  have h1 : a ^^^ b ^^^ b = b := by rw [h, Nat.zero_xor]
  rw [Nat.xor_assoc, Nat.xor_self, Nat.xor_zero] at h1
  exact h1
theorem zInt_eq (x y : UInt8) (r : Nat) (hr : r ≤ 8) : (zInt x y r = 0) ↔ keepH x.toNat r = keepH y.toNat r := by
  unfold zInt
  rw [xor_nat, mask_keep _ _ hr, keepH_eq]
  unfold keepH
  rw [UInt8.toNat_xor]
  constructor
  · intro h
    have h1 : (x.toNat ^^^ y.toNat) / 2 ^ (8 - r) = 0 := by
      have h2 : (x.toNat ^^^ y.toNat) / 2 ^ (8 - r) * 2 ^ (8 - r) = 0 := by omega
      rcases Nat.mul_eq_zero.1 h2 with h3 | h3
      · exact h3
      · exact absurd h3 (Nat.ne_of_gt (Nat.pow_pos (by omega)))
    rw [← Nat.shiftRight_eq_div_pow, Nat.shiftRight_xor_distrib] at h1
    rw [← Nat.shiftRight_eq_div_pow, ← Nat.shiftRight_eq_div_pow]
    exact xor_zero h1
  · intro h
    have h1 : (x.toNat ^^^ y.toNat) / 2 ^ (8 - r) = 0 := by
      rw [← Nat.shiftRight_eq_div_pow, Nat.shiftRight_xor_distrib]
      rw [← Nat.shiftRight_eq_div_pow, ← Nat.shiftRight_eq_div_pow] at h
      rw [h]; exact Nat.xor_self _
    rw [h1]; simp
/-- the first bits of the pairs are the same -/
def okP (bits : Int) (l : List (UInt8 × UInt8)) : Prop := ∀ q, q < l.length → zInt (l.getD q (0, 0)).1 (l.getD q (0, 0)).2 (clampN (bits - 8 * q)) = 0
theorem okP_nil (bits : Int) : okP bits [] := fun q h => absurd h (by simp)
theorem okP_next {bits : Int} {l : List (UInt8 × UInt8)} {x : UInt8 × UInt8} (h : okP bits l) (hx : zInt x.1 x.2 (clampN (bits - 8 * l.length)) = 0) : okP bits (l ++ [x]) := by
  intro q hq
  rw [List.length_append, List.length_singleton] at hq
  by_cases he : q < l.length
  · have := h q he
    simp only [List.getD, List.getElem?_append_left he] at this ⊢
    exact this
  · obtain rfl : q = l.length := by omega
    simp only [List.getD, List.getElem?_concat_length, Option.getD_some]
    exact hx
theorem okP_bad {bits : Int} {l : List (UInt8 × UInt8)} {x : UInt8 × UInt8} (hx : zInt x.1 x.2 (clampN (bits - 8 * l.length)) ≠ 0) : ¬ okP bits (l ++ [x]) := by
  intro h
  have := h l.length (by simp)
  simp only [List.getD, List.getElem?_concat_length, Option.getD_some] at this
  exact hx this
theorem okP_take {bits : Int} {l : List (UInt8 × UInt8)} (h : okP bits l) (k : Nat) : okP bits (l.take k) := by
  intro q hq
  rw [List.length_take] at hq
  have := h q (by omega)
  simp only [List.getD, List.getElem?_take] at this ⊢
  rw [if_pos (by omega)]
  exact this
theorem okP_has {a b : List UInt8} {bits : Int} (hr : rightP a.length bits = true) (hl : a.length = b.length) : hasP a bits b = true ↔ okP bits (a.zip b) := by
  obtain ⟨hlen, hb0, hb8⟩ := right_len hr
  have hz : (a.zip b).length = a.length := by rw [List.length_zip]; omega
  have hget : ∀ q, q < a.length → (a.zip b).getD q (0, 0) = (a.getD q 0, b.getD q 0) := fun q hq => by
    have hqb : q < b.length := by omega
    have hqz : q < (a.zip b).length := by rw [hz]; exact hq
    simp [List.getD, List.getElem?_eq_getElem hq, List.getElem?_eq_getElem hqb, List.getElem?_eq_getElem hqz]
  have hk : ∀ q, q < a.length → (zInt (a.getD q 0) (b.getD q 0) (clampN (bits - 8 * q)) = 0 ↔ ∀ j, j < clampN (bits - 8 * q) → bitAt b (8 * q + j) = bitAt a (8 * q + j)) := fun q hq => by
    rw [zInt_eq _ _ _ (clampN_le _), keepH_bits (UInt8.toNat_lt _) (UInt8.toNat_lt _) (clampN_le _)]
    have hc := clampN_le (bits - 8 * q)
    constructor
    · intro h j hj
      have := h j hj
      unfold bitAt
      rw [show (8 * q + j) / 8 = q by omega, show (8 * q + j) % 8 = j by omega]
      exact this.symm
    · intro h j hj
      have := h j hj
      unfold bitAt at this
      rw [show (8 * q + j) / 8 = q by omega, show (8 * q + j) % 8 = j by omega] at this
      exact this.symm
  unfold hasP
  rw [hr, show (b.length == a.length) = true by simpa using hl.symm]
  simp only [Bool.true_and, List.all_eq_true, List.mem_range, beq_iff_eq]
  constructor
  · intro h q hq
    rw [hz] at hq
    rw [hget q hq]
    refine (hk q hq).2 fun j hj => h _ ?_
    unfold clampN at hj; omega
  · intro h i hi
    have hq : i / 8 < a.length := by omega
    have h1 := h (i / 8) (by rw [hz]; exact hq)
    rw [hget _ hq] at h1
    have h2 := (hk _ hq).1 h1 (i % 8) (by unfold clampN; omega)
    rw [show 8 * (i / 8) + i % 8 = i by omega] at h2
    exact h2
theorem within_eq (a b : List UInt8) (m n : Int) : withinP a m b n = (rightP a.length m && (decide (n ≤ m) && hasP b n a)) := by
  unfold withinP hasP
  cases rightP a.length m <;> cases rightP b.length n <;> cases h : (a.length == b.length) <;> cases decide (n ≤ m) <;> simp
end Go.Proofs.YtbaceiohcbhpaaaDoor
