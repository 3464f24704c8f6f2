/- Numbers and bytes as texts: plain functions on lists of bytes, and what follows from them. Nothing of the program. -/
import Derived.Lib.Hide
namespace Go.Proofs.Yteiadbiopcidmaa
set_option linter.unusedVariables false
set_option linter.unusedSimpArgs false

/-- What a sign stands for. -/
def val (r : Int) : Int := if 48 ≤ r ∧ r ≤ 57 then r - 48 else if 97 ≤ r ∧ r ≤ 102 then r - 97 + 10 else 16

theorem val_bd (r : Int) : 0 ≤ val r ∧ val r ≤ 16 := by unfold val; (repeat' split) <;> omega
theorem val_dec (r : Int) : val r < 10 ↔ 48 ≤ r ∧ r ≤ 57 := by unfold val; (repeat' split) <;> omega
theorem val_dec_eq (r : Int) (h : 48 ≤ r ∧ r ≤ 57) : val r = r - 48 := by unfold val; rw [if_pos h]

/-- All signs of a text are digits of that base. -/
def digs (l : List UInt8) (base : Int) : Bool := l.all fun c => decide (val c.toNat < base)
theorem digs_snoc (l : List UInt8) (c : UInt8) (base : Int) : digs (l ++ [c]) base = (digs l base && decide (val c.toNat < base)) := by simp [digs]
theorem digs_mem {l : List UInt8} {base : Int} (h : digs l base = true) {c : UInt8} (hc : c ∈ l) : val c.toNat < base := by
  simpa using (List.all_eq_true.mp h) c hc
theorem digs_no {l : List UInt8} {base : Int} {c : UInt8} (hc : c ∈ l) (h : base ≤ val c.toNat) : digs l base = false := by
  simp only [digs, List.all_eq_false]
  exact ⟨c, hc, by simp; omega⟩

/-- The number that a row of digits is. -/
def numOf (l : List UInt8) : Nat := l.foldl (fun u c => u * 10 + (c.toNat - 48)) 0
theorem numOf_snoc (l : List UInt8) (c : UInt8) : numOf (l ++ [c]) = numOf l * 10 + (c.toNat - 48) := by simp [numOf]
theorem foldl_ge (l : List UInt8) : ∀ u : Nat, u ≤ l.foldl (fun u c => u * 10 + (c.toNat - 48)) u := by
  induction l with
  | nil => intro u; exact Nat.le_refl _
  | cons c l ih => intro u; exact Nat.le_trans (show u ≤ u * 10 + (c.toNat - 48) by omega) (ih _)
theorem numOf_take_le (l : List UInt8) (k : Nat) : numOf (l.take k) ≤ numOf l := by
  conv => rhs; rw [← List.take_append_drop k l]
  unfold numOf
  rw [List.foldl_append]
  exact foldl_ge _ _

/-- A text that is no number's. -/
def formBad (l : List UInt8) : Bool := l.isEmpty || (l.head? == some 48 && decide (1 < l.length)) || !(digs l 10)

def top : Nat := 18446744073709551615

/-- What reading tells: the number and the code. -/
def rdVal (l : List UInt8) : Int := if formBad l then 0 else if top < numOf l then 0 else numOf l
def rdCode (l : List UInt8) : Int := if formBad l then 3 else if top < numOf l then 5 else 0

theorem rd_bad {l : List UInt8} (h : formBad l = true) : rdVal l = 0 ∧ rdCode l = 3 := by simp [rdVal, rdCode, h]
theorem rd_long {l : List UInt8} (h : formBad l = false) (h2 : top < numOf l) : rdVal l = 0 ∧ rdCode l = 5 := by simp [rdVal, rdCode, h, h2]
theorem rd_fine {l : List UInt8} (h : formBad l = false) (h2 : numOf l ≤ top) : rdVal l = numOf l ∧ rdCode l = 0 := by
  simp [rdVal, rdCode, h, Nat.not_lt.mpr h2]

/-- A number's digits. -/
def decs (u : Nat) : List UInt8 := if u < 10 then [UInt8.ofNat (48 + u)] else decs (u / 10) ++ [UInt8.ofNat (48 + u % 10)]

theorem toNat_ofNat {n : Nat} (h : n < 256) : (UInt8.ofNat n).toNat = n := by
  simp [UInt8.toNat_ofNat']; omega

theorem decs_small {u : Nat} (h : u < 10) : decs u = [UInt8.ofNat (48 + u)] := by rw [decs]; exact if_pos h
theorem decs_big {u : Nat} (h : ¬ u < 10) : decs u = decs (u / 10) ++ [UInt8.ofNat (48 + u % 10)] := by rw [decs]; exact if_neg h

theorem digs_dig (n : Nat) (h : n < 10) : digs [UInt8.ofNat (48 + n)] 10 = true := by
  simp only [digs, List.all_cons, List.all_nil, Bool.and_true, decide_eq_true_eq]
  rw [toNat_ofNat (by omega), val_dec]; omega

theorem decs_digs (u : Nat) : digs (decs u) 10 = true := by
  induction u using Nat.strongRecOn with
  | _ u ih =>
    by_cases h : u < 10
    · rw [decs_small h]; exact digs_dig u h
    · rw [decs_big h, digs_snoc, ih _ (by omega)]
      have := digs_dig (u % 10) (by omega)
      simp only [digs, List.all_cons, List.all_nil, Bool.and_true] at this
      simpa using this

theorem decs_num (u : Nat) : numOf (decs u) = u := by
  induction u using Nat.strongRecOn with
  | _ u ih =>
    by_cases h : u < 10
    · rw [decs_small h]
      simp only [numOf, List.foldl_cons, List.foldl_nil]
      rw [toNat_ofNat (by omega)]; omega
    · rw [decs_big h, numOf_snoc, ih _ (by omega), toNat_ofNat (by omega)]; omega

theorem decs_ne (u : Nat) : decs u ≠ [] := by rw [decs]; split <;> simp

theorem decs_head (u : Nat) (h : 0 < u) : (decs u).head? ≠ some 48 := by
  induction u using Nat.strongRecOn with
  | _ u ih =>
    by_cases h1 : u < 10
    · rw [decs_small h1]
      intro hc
      simp only [List.head?_cons, Option.some.injEq] at hc
      have : (UInt8.ofNat (48 + u)).toNat = (48 : UInt8).toNat := by rw [hc]
      rw [toNat_ofNat (by omega)] at this
      simp at this; omega
    · rw [decs_big h1, List.head?_append]
      have := ih (u / 10) (by omega) (by omega)
      cases hd : (decs (u / 10)).head? with
      | none => exact absurd (List.head?_eq_none_iff.mp hd) (decs_ne _)
      | some c => rw [hd] at this; simpa using this

theorem decs_form (u : Nat) : formBad (decs u) = false := by
  have h1 := decs_ne u
  have h2 := decs_digs u
  simp only [formBad, h2, Bool.not_true, Bool.or_false, Bool.or_eq_false_iff, Bool.and_eq_false_iff]
  refine ⟨by simpa using h1, ?_⟩
  by_cases h : u = 0
  · right; subst h; rw [decs_small (by omega)]; simp
  · left; simpa using decs_head u (by omega)

/-- What is printed is read. -/
theorem rd_decs (u : Nat) (h : u ≤ top) : rdVal (decs u) = u ∧ rdCode (decs u) = 0 := by
  have := rd_fine (decs_form u) (by rw [decs_num]; exact h)
  rw [decs_num] at this
  exact this

theorem dig_eq (c : UInt8) (h : val c.toNat < 10) : c = UInt8.ofNat (48 + (c.toNat - 48)) := by
  have := (val_dec _).mp h
  rw [show 48 + (c.toNat - 48) = c.toNat by omega]
  simp

/-- What is read is printed as it was. -/
theorem decs_numOf : ∀ n (l : List UInt8), l.length = n → l ≠ [] → digs l 10 = true → (l.head? = some 48 → l.length ≤ 1) → decs (numOf l) = l := by
  intro n
  induction n with
  | zero => intro l hl hne; simp at hl; exact absurd hl hne
  | succ n ih =>
    intro l hl hne hd hh
    obtain ⟨a, c, rfl⟩ : ∃ a c, l = a ++ [c] := ⟨l.dropLast, l.getLast hne, (List.dropLast_concat_getLast hne).symm⟩
    rw [digs_snoc, Bool.and_eq_true, decide_eq_true_eq] at hd
    have hc := (val_dec _).mp hd.2
    by_cases ha : a = []
    · subst ha
      have h10 : c.toNat - 48 < 10 := by omega
      simp only [List.nil_append, numOf, List.foldl_cons, List.foldl_nil]
      rw [show 0 * 10 + (c.toNat - 48) = c.toNat - 48 by omega, decs_small h10, ← dig_eq c hd.2]
    · have hla : a.length = n := by simpa using hl
      have hhead : a.head? = some 48 → a.length ≤ 1 := by
        intro h
        have := hh (by rw [List.head?_append, h]; rfl)
        simp at this
        exact absurd this ha
      have hnot : a.head? ≠ some 48 := by
        intro h
        have := hh (by rw [List.head?_append, h]; rfl)
        simp at this
        exact absurd this ha
      have e := ih a hla ha hd.1 hhead
      have hpos : 0 < numOf a := by
        rcases Nat.eq_zero_or_pos (numOf a) with h0 | h0
        · rw [h0, decs_small (by omega)] at e
          exact absurd (by rw [← e]; rfl) hnot
        · exact h0
      rw [numOf_snoc, decs_big (by omega)]
      rw [show (numOf a * 10 + (c.toNat - 48)) / 10 = numOf a by omega, show (numOf a * 10 + (c.toNat - 48)) % 10 = c.toNat - 48 by omega, e, ← dig_eq c hd.2]

theorem decs_rd (l : List UInt8) (h : rdCode l = 0) : ∃ u : Nat, rdVal l = u ∧ u ≤ top ∧ decs u = l := by
  unfold rdCode at h
  by_cases hf : formBad l
  · rw [if_pos hf] at h; omega
  · rw [if_neg hf] at h
    by_cases ht : top < numOf l
    · rw [if_pos ht] at h; omega
    · refine ⟨numOf l, by simp [rdVal, hf, ht], by omega, ?_⟩
      simp only [formBad, Bool.not_eq_true, Bool.or_eq_false_iff, Bool.and_eq_false_iff] at hf
      refine decs_numOf _ l rfl (by simpa using hf.1.1) (by simpa using hf.2) ?_
      intro hh
      rcases hf.1.2 with h1 | h1
      · simp [hh] at h1
      · simpa using h1

/-! bytes -/
def hexD (n : Nat) : UInt8 := UInt8.ofNat (if n < 10 then 48 + n else 87 + n)
def hexB (b : UInt8) : List UInt8 := [hexD (b.toNat / 16), hexD (b.toNat % 16)]
def hexOf (l : List UInt8) : List UInt8 := l.flatMap hexB
theorem hexOf_snoc (l : List UInt8) (b : UInt8) : hexOf (l ++ [b]) = hexOf l ++ hexB b := by simp [hexOf]
theorem hexOf_length (l : List UInt8) : (hexOf l).length = 2 * l.length := by
  induction l with
  | nil => rfl
  | cons b l ih => simp only [hexOf, List.flatMap_cons, List.length_append, List.length_cons] at *; simp only [hexB, List.length_cons, List.length_nil]; omega

/-- The byte that two signs are. -/
def two (c d : UInt8) : UInt8 := UInt8.ofNat ((val c.toNat).toNat * 16 + (val d.toNat).toNat)
def unhex : List UInt8 → List UInt8
  | c :: d :: l => two c d :: unhex l
  | _ => []
def hxBytes (l : List UInt8) : List UInt8 := if digs l 16 && l.length % 2 == 0 then unhex l else []
def hxCode (l : List UInt8) : Int := if digs l 16 then (if l.length % 2 = 1 then 4 else 0) else 3

theorem unhex_snoc2 : ∀ n (l : List UInt8) (c d : UInt8), l.length = 2 * n → unhex (l ++ [c, d]) = unhex l ++ [two c d] := by
  intro n
  induction n with
  | zero => intro l c d h; have : l = [] := by simpa using h
            subst this; rfl
  | succ n ih =>
    intro l c d h
    match l, h with
    | a :: b :: l, h =>
      have := ih l c d (by simp at h; omega)
      simp only [List.cons_append, unhex, this]

theorem hexD_val (n : Nat) (h : n < 16) : val (hexD n).toNat = n := by
  unfold hexD
  by_cases h1 : n < 10
  · rw [if_pos h1, toNat_ofNat (by omega)]; unfold val; rw [if_pos (by omega)]; omega
  · rw [if_neg h1, toNat_ofNat (by omega)]; unfold val; rw [if_neg (by omega), if_pos (by omega)]; omega

theorem two_hex (b : UInt8) : two (hexD (b.toNat / 16)) (hexD (b.toNat % 16)) = b := by
  have := UInt8.toNat_lt b
  unfold two
  rw [hexD_val _ (by omega), hexD_val _ (by omega)]
  simp only [Int.toNat_natCast]
  rw [show b.toNat / 16 * 16 + b.toNat % 16 = b.toNat by omega]
  simp

theorem unhex_hexOf (l : List UInt8) : unhex (hexOf l) = l := by
  induction l with
  | nil => rfl
  | cons b l ih =>
    show unhex (hexD (b.toNat / 16) :: hexD (b.toNat % 16) :: hexOf l) = _
    rw [unhex, two_hex, ih]

theorem hexOf_digs (l : List UInt8) : digs (hexOf l) 16 = true := by
  simp only [digs, List.all_eq_true, decide_eq_true_eq]
  intro c hc
  simp only [hexOf, List.mem_flatMap, hexB, List.mem_cons, List.not_mem_nil, or_false] at hc
  obtain ⟨b, _, hc⟩ := hc
  have := UInt8.toNat_lt b
  rcases hc with rfl | rfl
  · rw [hexD_val _ (by omega)]; omega
  · rw [hexD_val _ (by omega)]; omega

theorem hx_hexOf (l : List UInt8) : hxBytes (hexOf l) = l ∧ hxCode (hexOf l) = 0 := by
  have h1 := hexOf_digs l
  have h2 := hexOf_length l
  have h3 : (hexOf l).length % 2 = 0 := by omega
  exact ⟨by simp [hxBytes, h1, h3, unhex_hexOf], by simp [hxCode, h1, h3]⟩

theorem hexD_of (c : UInt8) (h : val c.toNat < 16) : hexD (val c.toNat).toNat = c := by
  have hc := UInt8.toNat_lt c
  unfold val at h ⊢
  by_cases h1 : (48 : Int) ≤ c.toNat ∧ (c.toNat : Int) ≤ 57
  · rw [if_pos h1]
    unfold hexD
    rw [if_pos (by omega), show 48 + ((c.toNat : Int) - 48).toNat = c.toNat by omega]; simp
  · rw [if_neg h1] at h ⊢
    by_cases h2 : (97 : Int) ≤ c.toNat ∧ (c.toNat : Int) ≤ 102
    · rw [if_pos h2]
      unfold hexD
      rw [if_neg (by omega), show 87 + ((c.toNat : Int) - 97 + 10).toNat = c.toNat by omega]; simp
    · rw [if_neg h2] at h; omega

theorem hexB_two (c d : UInt8) (hc : val c.toNat < 16) (hd : val d.toNat < 16) : hexB (two c d) = [c, d] := by
  have b1 := val_bd c.toNat
  have b2 := val_bd d.toNat
  have e : (two c d).toNat = (val c.toNat).toNat * 16 + (val d.toNat).toNat := by unfold two; rw [toNat_ofNat (by omega)]
  unfold hexB
  rw [e, show ((val c.toNat).toNat * 16 + (val d.toNat).toNat) / 16 = (val c.toNat).toNat by omega,
    show ((val c.toNat).toNat * 16 + (val d.toNat).toNat) % 16 = (val d.toNat).toNat by omega, hexD_of c hc, hexD_of d hd]

theorem hexOf_unhex : ∀ n (l : List UInt8), l.length = 2 * n → digs l 16 = true → hexOf (unhex l) = l := by
  intro n
  induction n with
  | zero => intro l h _; have : l = [] := by simpa using h
            subst this; rfl
  | succ n ih =>
    intro l h hd
    match l, h with
    | a :: b :: l, h =>
      have h' := ih l (by simp at h; omega) (by simp [digs] at hd ⊢; exact hd.2.2)
      simp only [digs, List.all_cons, Bool.and_eq_true, decide_eq_true_eq] at hd
      show hexB (two a b) ++ hexOf (unhex l) = _
      rw [hexB_two a b hd.1 hd.2.1, h']; rfl

theorem hexOf_hx (l : List UInt8) (h : hxCode l = 0) : hexOf (hxBytes l) = l := by
  unfold hxCode at h
  by_cases h1 : digs l 16
  · rw [if_pos h1] at h
    by_cases h2 : l.length % 2 = 1
    · rw [if_pos h2] at h; omega
    · have h3 : l.length % 2 = 0 := by omega
      simp only [hxBytes, h1, h3, Bool.true_and, beq_self_eq_true, if_true]
      exact hexOf_unhex (l.length / 2) l (by omega) h1
  · rw [if_neg h1] at h; omega
end Go.Proofs.Yteiadbiopcidmaa
