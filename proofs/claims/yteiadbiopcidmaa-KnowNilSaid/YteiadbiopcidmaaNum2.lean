import Derived.Test.YteiadbiopcidmaaNum1
namespace Go.Proofs.Yteiadbiopcidmaa
set_option linter.unusedVariables false
set_option linter.unusedSimpArgs false
set_option maxRecDepth 100000
open Go.RowKit

theorem ret_rd {a b : Int} {c d : Int} (h : a = b) (h2 : c = d) : Ending.returned (.tuple #[.int .u64 a, .int .i64 c]) = .returned (.tuple #[.int .u64 b, .int .i64 d]) := by rw [h, h2]

theorem form_size0 (s : ByteArray) (h : s.size = 0) : formBad s.data.toList = true := by
  rw [size0 s h]; rfl
theorem form_48 (s : ByteArray) (h : 1 < s.size) (h2 : (s[0]).toNat = 48) : formBad s.data.toList = true := by
  have e : s[0] = 48 := UInt8.toNat_inj.mp h2
  have := head_of s (by omega)
  rw [e] at this
  simp only [formBad, this, beq_self_eq_true, Bool.true_and, Bool.or_eq_true, decide_eq_true_eq]
  left; right; simpa using h
theorem form_digs (s : ByteArray) (h : digs s.data.toList 10 = false) : formBad s.data.toList = true := by simp [formBad, h]
theorem form_good (s : ByteArray) (h : 0 < s.size) (h2 : s.size ≤ 1 ∨ (s[0]).toNat ≠ 48) (h3 : digs s.data.toList 10 = true) : formBad s.data.toList = false := by
  have hh := head_of s h
  have hne : s.data.toList ≠ [] := by intro hc; rw [hc] at hh; simp at hh
  simp only [formBad, h3, hh, Bool.not_true, Bool.or_false, Bool.or_eq_false_iff, Bool.and_eq_false_iff]
  refine ⟨by simpa using hne, ?_⟩
  rcases h2 with h2 | h2
  · right; simpa using h2
  · left
    have : s[0] ≠ 48 := fun hc => h2 (by rw [hc]; rfl)
    simpa using this
theorem digs_of_form {l : List UInt8} (h : formBad l = false) : digs l 10 = true := by
  simp only [formBad, Bool.or_eq_false_iff] at h; simpa using h.2
theorem val_of_form (s : ByteArray) (k : Nat) (h : k < s.size) (hf : formBad s.data.toList = false) : val (s[k]).toNat ≤ 9 ∧ val (s[k]).toNat = (s[k]).toNat - 48 ∧ 48 ≤ (s[k]).toNat ∧ (s[k]).toNat ≤ 57 := by
  have := digs_mem (digs_of_form hf) (mem_of s k h)
  have h2 := (val_dec _).mp this
  refine ⟨by omega, val_dec_eq _ h2, by omega, by omega⟩
theorem rd_long_at (s : ByteArray) (k : Nat) (h : k < s.size) (hf : formBad s.data.toList = false) (hl : (18446744073709551615 - val (s[k]).toNat) / 10 < (numOf (s.data.toList.take k) : Int)) :
    rdVal s.data.toList = 0 ∧ rdCode s.data.toList = 5 := by
  refine rd_long hf (Nat.lt_of_lt_of_le ?_ (numOf_take_le s.data.toList (k + 1)))
  rw [take_snoc s k h, numOf_snoc]
  obtain ⟨h1, h2, h3, h4⟩ := val_of_form s k h hf
  unfold top; omega
theorem num_next (s : ByteArray) (k : Nat) (h : k < s.size) (hf : formBad s.data.toList = false) (hl : (numOf (s.data.toList.take k) : Int) ≤ (18446744073709551615 - val (s[k]).toNat) / 10) :
    (numOf (s.data.toList.take k) : Int) * 10 + val (s[k]).toNat = (numOf (s.data.toList.take (k + 1)) : Int) ∧ numOf (s.data.toList.take (k + 1)) ≤ top := by
  rw [take_snoc s k h, numOf_snoc]
  obtain ⟨h1, h2, h3, h4⟩ := val_of_form s k h hf
  unfold top; omega

theorem read_any (s : ByteArray) (hs : s.size ≤ maxLen) (w : World) :
    Calls Try.prog 60 #[.string s] w fun e w' => e = .returned (.tuple #[.int .u64 (rdVal s.data.toList), .int .i64 (rdCode s.data.toList)]) ∧ w = w' := by
  have hsm := hs
  unfold maxLen at hs
  go_enter Try.func60, Try.ntmps60
  go_wp2
  refine wp_scope_goto 0 (fun n a' w' => w = w' ∧ ∃ k u : Nat, ∃ (u1 u6 u7 u8 u9 u10 u11 u12 u13 u14 u15 u16 u17 u18 u19 u20 u21 u22 u23 u24 u25 u26 u27 u28 u29 u30 u31 u32 u33 u34 u35 u36 u37 u38 u39 u40 u41 u42 u43 u44 : Value), a' = { tmps := #[.string s, u1, .int .u64 0, .int .i64 0, .int .u64 u, .int .i64 k, u6, u7, u8, u9, u10, u11, u12, u13, u14, u15, u16, u17, u18, u19, u20, u21, u22, u23, u24, u25, u26, u27, u28, u29, u30, u31, u32, u33, u34, u35, u36, u37, u38, u39, u40, u41, u42, u43, u44], defers := [] } ∧ k ≤ s.size ∧ n = s.size - k ∧ formBad s.data.toList = false ∧ u = numOf (s.data.toList.take k) ∧ u ≤ top) rfl ?_ ?_
  · intro R hpass hout
    by_cases h0 : s.size = 0
    · have HR := Lib.hid (rd_bad (form_size0 s h0))
      obtain rfl := size0 s h0
      go_wp2_with fail
      go_ret2
      exact ⟨ret_rd HR.out.1.symm HR.out.2.symm, rfl⟩
    · have hp : 0 < s.size := by omega
      have hb : (s[0]).toNat < 256 := UInt8.toNat_lt _
      have hne : s.toList.isEmpty = false := ne_of s hp
      by_cases hbad : 1 < s.size ∧ (s[0]).toNat = 48
      · obtain ⟨h1, h48⟩ := hbad
        have HR := Lib.hid (rd_bad (form_48 s h1 h48))
        go_wp2_with fail
        go_ret2
        exact ⟨ret_rd HR.out.1.symm HR.out.2.symm, rfl⟩
      · have hcase : (s[0]).toNat ≠ 48 ∨ (s[0].toNat = 48 ∧ s.size ≤ 1) := by omega
        have hgood : s.size ≤ 1 ∨ (s[0]).toNat ≠ 48 := by omega
        cases hd : digs s.data.toList 10 with
        | true =>
          have HF := Lib.hid (form_good s hp hgood hd)
          clear hbad hgood
          rcases hcase with h48 | ⟨h48, h1⟩
          all_goals
            go_wp2_with (first | (go_at_call 63; refine (digits_any s 10 hsm _).mono ?_; rintro e w' ⟨rfl, rfl⟩) | fail)
            go_step3
            go_step
            go_step
            exact hpass _ _ _ ⟨rfl, 0, 0, _, _, _, _, _, _, _, _, _, _, _, _, _, _, _, _, _, _, _, _, _, _, _, _, _, _, _, _, _, _, _, _, _, _, _, _, _, _, _, _, rfl, by omega, rfl, HF.out, rfl, by decide⟩
        | false =>
          have HR := Lib.hid (rd_bad (form_digs s hd))
          clear hbad hgood
          rcases hcase with h48 | ⟨h48, h1⟩
          all_goals
            go_wp2_with (first | (go_at_call 63; refine (digits_any s 10 hsm _).mono ?_; rintro e w' ⟨rfl, rfl⟩) | fail)
            refine nogoto_ret ?_
            go_ret2
            exact ⟨ret_rd HR.out.1.symm HR.out.2.symm, rfl⟩
  · intro n a' w' hrel J hJ
    obtain ⟨rfl, k, u, u1, u6, u7, u8, u9, u10, u11, u12, u13, u14, u15, u16, u17, u18, u19, u20, u21, u22, u23, u24, u25, u26, u27, u28, u29, u30, u31, u32, u33, u34, u35, u36, u37, u38, u39, u40, u41, u42, u43, u44, rfl, hk, rfl, hf, hu, ht⟩ := hrel
    have HF := Lib.hid hf
    have HU := Lib.hid hu
    have hut : (u : Int) ≤ 18446744073709551615 := by unfold top at ht; omega
    clear hf hu ht
    by_cases hlt : k < s.size
    · have hb : (s[k]).toNat < 256 := UInt8.toNat_lt _
      have hd0 : 0 ≤ val (s[k]).toNat := (val_bd _).1
      have hd9 : val (s[k]).toNat ≤ 9 := (val_of_form s k hlt HF.out).1
      by_cases hv : (18446744073709551615 - val (s[k]).toNat) / 10 < (u : Int)
      · have HR := Lib.hid (rd_long_at s k hlt HF.out (by rw [← HU.out]; exact hv))
        go_wp2_with (go_at_call 64; refine (value_any _ (by omega) (by omega) _).mono ?_; rintro e w' ⟨rfl, rfl⟩)
        refine jump_ret ?_
        go_ret2
        exact ⟨ret_rd HR.out.1.symm HR.out.2.symm, rfl⟩
      · have HN := Lib.hid (num_next s k hlt HF.out (by rw [← HU.out]; omega))
        go_wp2_with (go_at_call 64; refine (value_any _ (by omega) (by omega) _).mono ?_; rintro e w' ⟨rfl, rfl⟩)
        go_step3
        have e1 := HN.out.1
        rw [← HU.out] at e1
        rw [e1]
        exact jump_back (hJ (s.size - (k + 1)) _ _ (by omega) ⟨rfl, k + 1, numOf (s.data.toList.take (k + 1)), _, _, _, _, _, _, _, _, _, _, _, _, _, _, _, _, _, _, _, _, _, _, _, _, _, _, _, _, _, _, _, _, _, _, _, _, _, _, _, _, rfl, by omega, rfl, HF.out, rfl, HN.out.2⟩)
    · have HR := Lib.hid (rd_fine (l := s.data.toList) HF.out (by have h1 := HU.out; rw [take_all s k (by omega)] at h1; unfold top; omega))
      have HE : Hid ((u : Int) = numOf s.data.toList) := by have h1 := HU.out; rw [take_all s k (by omega)] at h1; exact congrArg Int.ofNat h1
      go_wp2
      refine jump_ret ?_
      go_ret2
      exact ⟨ret_rd (HE.out.trans HR.out.1.symm) HR.out.2.symm, rfl⟩
end Go.Proofs.Yteiadbiopcidmaa
