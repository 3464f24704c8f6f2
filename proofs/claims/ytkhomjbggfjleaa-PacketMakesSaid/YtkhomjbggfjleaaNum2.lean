import Derived.Test.YtkhomjbggfjleaaNum1
namespace Go.Proofs.Ytkhomjbggfjleaa
set_option linter.unusedVariables false
set_option linter.unusedSimpArgs false
set_option maxRecDepth 100000
open Go.RowKit

theorem ret_rd {a b : Int} {c d : Int} (h : a = b) (h2 : c = d) : Ending.returned (.tuple #[.int .u64 a, .int .i64 c]) = .returned (.tuple #[.int .u64 b, .int .i64 d]) := by rw [h, h2]

theorem form_size0 (s : ByteArray) (h : s.size = 0) : formBad s.data.toList = true := by
  rw [size0 s h]; rfl
theorem form_48 (s : ByteArray) (h : 1 < s.size) (h2 : (s[0]).toNat = 48) : formBad s.data.toList = true := by
  have e : s[0] = 48 := UInt8.toNat_inj.mp h2
  have := head_of s (by omega)
  rw [e] at this
  simp only [formBad, this, beq_self_eq_true, Bool.true_and, Bool.or_eq_true, decide_eq_true_eq]
  left; right; simpa using h
theorem form_digs (s : ByteArray) (h : digs s.data.toList 10 = false) : formBad s.data.toList = true := by simp [formBad, h]
theorem form_good (s : ByteArray) (h : 0 < s.size) (h2 : s.size ≤ 1 ∨ (s[0]).toNat ≠ 48) (h3 : digs s.data.toList 10 = true) : formBad s.data.toList = false := by
  have hh := head_of s h
  have hne : s.data.toList ≠ [] := by intro hc; rw [hc] at hh; simp at hh
  simp only [formBad, h3, hh, Bool.not_true, Bool.or_false, Bool.or_eq_false_iff, Bool.and_eq_false_iff]
  refine ⟨by simpa using hne, ?_⟩
  rcases h2 with h2 | h2
  · right; simpa using h2
  · left
    have : s[0] ≠ 48 := fun hc => h2 (by rw [hc]; rfl)
    simpa using this
theorem digs_of_form {l : List UInt8} (h : formBad l = false) : digs l 10 = true := by
  simp only [formBad, Bool.or_eq_false_iff] at h; simpa using h.2
theorem val_of_form (s : ByteArray) (k : Nat) (h : k < s.size) (hf : formBad s.data.toList = false) : val (s[k]).toNat ≤ 9 ∧ val (s[k]).toNat = (s[k]).toNat - 48 ∧ 48 ≤ (s[k]).toNat ∧ (s[k]).toNat ≤ 57 := by
  have := digs_mem (digs_of_form hf) (mem_of s k h)
  have h2 := (val_dec _).mp this
  refine ⟨by omega, val_dec_eq _ h2, by omega, by omega⟩
theorem rd_long_at (s : ByteArray) (k : Nat) (h : k < s.size) (hf : formBad s.data.toList = false) (hl : (18446744073709551615 - val (s[k]).toNat) / 10 < (numOf (s.data.toList.take k) : Int)) :
    rdVal s.data.toList = 0 ∧ rdCode s.data.toList = 5 := by
  refine rd_long hf (Nat.lt_of_lt_of_le ?_ (numOf_take_le s.data.toList (k + 1)))
  rw [take_snoc s k h, numOf_snoc]
  obtain ⟨h1, h2, h3, h4⟩ := val_of_form s k h hf
  unfold top; omega
theorem num_next (s : ByteArray) (k : Nat) (h : k < s.size) (hf : formBad s.data.toList = false) (hl : (numOf (s.data.toList.take k) : Int) ≤ (18446744073709551615 - val (s[k]).toNat) / 10) :
    (numOf (s.data.toList.take k) : Int) * 10 + val (s[k]).toNat = (numOf (s.data.toList.take (k + 1)) : Int) ∧ numOf (s.data.toList.take (k + 1)) ≤ top := by
  rw [take_snoc s k h, numOf_snoc]
  obtain ⟨h1, h2, h3, h4⟩ := val_of_form s k h hf
  unfold top; omega

end Go.Proofs.Ytkhomjbggfjleaa
