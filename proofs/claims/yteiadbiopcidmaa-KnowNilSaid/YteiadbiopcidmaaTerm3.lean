import Derived.Test.YteiadbiopcidmaaTerm2
namespace Go.Proofs.Yteiadbiopcidmaa
set_option linter.unusedVariables false
set_option linter.unusedSimpArgs false
set_option maxRecDepth 100000
open Go.RowKit

theorem drop_at (s : ByteArray) (q : Nat) (h : q < s.size) : s.data.toList.drop q = s[q] :: s.data.toList.drop (q + 1) := by
  rw [List.drop_eq_getElem_cons (by simpa using h)]; rfl
theorem drop_end (s : ByteArray) (q : Nat) (h : ¬ q < s.size) : s.data.toList.drop q = [] := List.drop_eq_nil_of_le (by simp; omega)
theorem byte_lt (s : ByteArray) (q : Nat) (h : q < s.size) : (byteAt s q).toNat.toUInt8 = s[q] := by
  rw [byteAt_lt h]; simp
theorem byte_ge (s : ByteArray) (q : Nat) (h : ¬ q < s.size) : (byteAt s q).toNat.toUInt8 = 0 := by
  rw [byteAt_ge h]; rfl

/-- a piece of the text -/
def sub (s : ByteArray) (p q : Nat) : ByteArray := ⟨((s.data.toList.drop p).take (q - p)).toArray⟩
theorem slice_str (s : ByteArray) (p q : Nat) (h1 : p ≤ q) (h2 : q ≤ s.size) : s.extract p q = sub s p q := by
  apply ByteArray.ext
  simp only [sub, ByteArray.data_extract]
  apply Array.toList_inj.1
  simp [Array.toList_extract, List.extract_eq_take_drop, List.drop_take]

theorem run_step {s : ByteArray} {p q : Nat} {P : UInt8 → Bool} (hpq : p ≤ q) (hq : q < s.size) (hP : P s[q] = true)
    (h : (s.data.toList.drop p).takeWhile P = (s.data.toList.drop p).take (q - p) ++ (s.data.toList.drop q).takeWhile P) :
    (s.data.toList.drop p).takeWhile P = (s.data.toList.drop p).take (q + 1 - p) ++ (s.data.toList.drop (q + 1)).takeWhile P := by
  rw [h, drop_at s q hq, List.takeWhile_cons_of_pos hP]
  rw [show q + 1 - p = (q - p) + 1 by omega, List.take_succ_eq_append_getElem (i := q - p) (by simp; omega), List.append_assoc]
  simp only [List.getElem_drop, show p + (q - p) = q by omega]
  rfl
theorem run_end {s : ByteArray} {p q : Nat} {P : UInt8 → Bool} (hpq : p ≤ q) (hqs : q ≤ s.size) (hP : ∀ h : q < s.size, P s[q] = false)
    (h : (s.data.toList.drop p).takeWhile P = (s.data.toList.drop p).take (q - p) ++ (s.data.toList.drop q).takeWhile P) :
    (s.data.toList.drop p).takeWhile P = (s.data.toList.drop p).take (q - p) ∧ ((s.data.toList.drop p).takeWhile P).length = q - p := by
  have e : (s.data.toList.drop q).takeWhile P = [] := by
    by_cases hq : q < s.size
    · rw [drop_at s q hq, List.takeWhile_cons_of_neg (by rw [hP hq]; decide)]
    · rw [drop_end s q hq]; rfl
  rw [e, List.append_nil] at h
  refine ⟨h, ?_⟩
  rw [h]; simp; omega

theorem run_any (set : ByteArray) (P : UInt8 → Bool) (hP : ∀ c : UInt8, decide (0 ≤ Lib.indexByte set.data.toList c) = P c) (hP0 : P 0 = false)
    (s : ByteArray) (p m d b : Nat) (pv : Value) (w : World) (hs : s.size ≤ maxLen) (hp : p ≤ s.size) (h : Rd w b s p m d pv) :
    Calls Try.prog 49 #[.pointer (some ⟨b, 0, none⟩), .string set] w fun e w' =>
      e = .returned (.string ⟨((s.data.toList.drop p).takeWhile P).toArray⟩) ∧ Rd w' b s (p + ((s.data.toList.drop p).takeWhile P).length) m d pv ∧ w.grownBy w' (some b) := by
  have hsm := hs
  unfold maxLen at hs
  have H := Lib.hid h
  have h1 := h.c1
  have HP := Lib.hid hP
  clear h hP
  go_enter Try.func49, Try.ntmps49
  go_wp2
  refine wp_scope_goto 0 (fun n a' w' => ∃ q : Nat, ∃ (u2 u3 u6 u7 u8 u9 u10 u11 u12 u13 u14 u15 u16 u17 u18 u19 u20 u21 u22 u23 u24 u25 u26 u27 u28 u29 u30 u31 : Value), a' = { tmps := #[.pointer (some ⟨b, 0, none⟩), .string set, u2, u3, .string ⟨#[]⟩, .int .i64 p, u6, u7, u8, u9, u10, u11, u12, u13, u14, u15, u16, u17, u18, u19, u20, u21, u22, u23, u24, u25, u26, u27, u28, u29, u30, u31], defers := [] } ∧ p ≤ q ∧ q ≤ s.size ∧ n = s.size - q ∧ Rd w' b s q m d pv ∧ w.grownBy w' (some b) ∧ (s.data.toList.drop p).takeWhile P = (s.data.toList.drop p).take (q - p) ++ (s.data.toList.drop q).takeWhile P) rfl ?_ ?_
  · intro R hpass hout
    go_wp2
    go_step3
    go_step
    go_step
    exact hpass _ _ _ ⟨p, _, _, _, _, _, _, _, _, _, _, _, _, _, _, _, _, _, _, _, _, _, _, _, _, _, _, _, _, rfl, Nat.le_refl _, hp, rfl, H.out, grown_refl _ _, by simp⟩
  · intro n a' w' hrel J hJ
    obtain ⟨q, u2, u3, u6, u7, u8, u9, u10, u11, u12, u13, u14, u15, u16, u17, u18, u19, u20, u21, u22, u23, u24, u25, u26, u27, u28, u29, u30, u31, rfl, hpq, hqs, rfl, hR, hG, hT⟩ := hrel
    have HR := Lib.hid hR
    have HG := Lib.hid hG
    have HT := Lib.hid hT
    have g0 := hR.c0; have g1 := hR.c1; have f1 := hR.f 1
    clear hR hG hT
    by_cases hlt : q < s.size ∧ P (byteAt s q).toNat.toUInt8 = true
    · obtain ⟨hq, hPq⟩ := hlt
      have hix : 0 ≤ Lib.indexByte set.data.toList (UInt8.ofNat (byteAt s q).toNat) := by have := HP.out (byteAt s q).toNat.toUInt8; rw [hPq] at this; exact of_decide_eq_true this
      have HQ : Hid (P s[q] = true) := Lib.hid (by rw [← byte_lt s q hq]; exact hPq)
      clear hPq
      go_wp2_with (first | (go_at_call 47; ((with_reducible refine (next_any s q b _ hsm (by omega) (by assumption) (by assumption)).mono ?_); rintro e w' ⟨rfl, n1, rfl⟩)) | (go_at_call 35; ((with_reducible refine (Try.strings_IndexByte set _ _).mono ?_); rintro e w' ⟨rfl, hw⟩; subst hw)) | fail)
      go_step3
      go_step
      refine jump_back (hJ (s.size - (q + 1)) _ _ (by omega) ⟨q + 1, _, _, _, _, _, _, _, _, _, _, _, _, _, _, _, _, _, _, _, _, _, _, _, _, _, _, _, _, rfl, by omega, by omega, rfl, (HR.out.drewN n1).set1 (q + 1), ?_, run_step hpq hq HQ.out HT.out⟩)
      exact grown_trans HG.out (grown_trans (grown_drewN _ n1 _) (grown_set _ _ _ _))
    · have hix : Lib.indexByte set.data.toList (UInt8.ofNat (byteAt s q).toNat) < 0 := by
        have hf : P (byteAt s q).toNat.toUInt8 = false := by
          by_cases hq : q < s.size
          · simpa [hq] using hlt
          · rw [byte_ge s q hq]; exact hP0
        have := HP.out (byteAt s q).toNat.toUInt8
        rw [hf] at this
        have h2 := of_decide_eq_false this
        exact Int.not_le.1 h2
      have HQ : Hid (∀ h : q < s.size, P s[q] = false) := Lib.hid (by
        intro hq
        rw [← byte_lt s q hq]; simpa [hq] using hlt)
      clear hlt
      go_wp2_with (first | (go_at_call 47; ((with_reducible refine (next_any s q b _ hsm (by omega) (by assumption) (by assumption)).mono ?_); rintro e w' ⟨rfl, n1, rfl⟩)) | (go_at_call 35; ((with_reducible refine (Try.strings_IndexByte set _ _).mono ?_); rintro e w' ⟨rfl, hw⟩; subst hw)) | fail)
      go_quiet (fail)
      go_wp2
      refine jump_ret ?_
      go_ret
      obtain ⟨e1, e2⟩ := run_end hpq hqs HQ.out HT.out
      refine ⟨ret_str ?_, ?_, ?_⟩
      · rw [slice_str s p q hpq hqs, sub, e1]
      · rw [e2, show p + (q - p) = q by omega]; exact (HR.out.drewN n1).drewN nq
      · exact grown_trans HG.out (grown_trans (grown_drewN _ n1 _) (grown_drewN _ nq _))

theorem isDig_set (c : UInt8) : decide (0 ≤ Lib.indexByte (⟨#[48, 49, 50, 51, 52, 53, 54, 55, 56, 57]⟩ : ByteArray).data.toList c) = isDig c := by
  rw [← UInt8.ofNat_toNat (x := c)]
  have h := UInt8.toNat_lt c
  generalize c.toNat = n at h
  have key : ∀ n : Fin 256, decide (0 ≤ Lib.indexByte (⟨#[48, 49, 50, 51, 52, 53, 54, 55, 56, 57]⟩ : ByteArray).data.toList (UInt8.ofNat n.val)) = isDig (UInt8.ofNat n.val) := by decide
  exact key ⟨n, h⟩
theorem isHex_set (c : UInt8) : decide (0 ≤ Lib.indexByte (⟨#[48, 49, 50, 51, 52, 53, 54, 55, 56, 57, 97, 98, 99, 100, 101, 102]⟩ : ByteArray).data.toList c) = isHex c := by
  rw [← UInt8.ofNat_toNat (x := c)]
  have h := UInt8.toNat_lt c
  generalize c.toNat = n at h
  have key : ∀ n : Fin 256, decide (0 ≤ Lib.indexByte (⟨#[48, 49, 50, 51, 52, 53, 54, 55, 56, 57, 97, 98, 99, 100, 101, 102]⟩ : ByteArray).data.toList (UInt8.ofNat n.val)) = isHex (UInt8.ofNat n.val) := by decide
  exact key ⟨n, h⟩
theorem kind_set (c : UInt8) : Lib.indexByte (⟨#[48, 97, 110, 120, 112, 100, 104, 107, 109, 115, 108]⟩ : ByteArray).data.toList c + 1 = kindOf c := by
  rw [← UInt8.ofNat_toNat (x := c)]
  have h := UInt8.toNat_lt c
  generalize c.toNat = n at h
  have key : ∀ n : Fin 256, Lib.indexByte (⟨#[48, 97, 110, 120, 112, 100, 104, 107, 109, 115, 108]⟩ : ByteArray).data.toList (UInt8.ofNat n.val) + 1 = kindOf (UInt8.ofNat n.val) := by decide
  exact key ⟨n, h⟩
end Go.Proofs.Yteiadbiopcidmaa
