/- Texts of this seat, merged: Kit1, NumMath, Num1, Num2, Num3, Num5, Num6, Num7, Num8, Num9, Num10, Num4, NumSame, Kit2, Kit3. -/
import Derived.WalkKit
import Derived.Deep.LoopGhost
import Derived.Lib.Hide
import Derived.Lib.Strings
import Derived.Test.YtjbmcjppaadkgaaProg
import Derived.Deep.RegionHeld3
import Derived.Deep.AppendLies
import Derived.Deep.DrawnRows
import Derived.StillTail
import Derived.StillTactics
import Derived.OrdersIn
import Derived.TacticsIn
import Derived.CallsIn
import Derived.RangeFuncNested
import Derived.RangeFuncBound
import Derived.RangeFuncCalls
import Derived.RangeFuncLeaves
import Derived.Shelf.Abstract
import Derived.BigQuiet
namespace Go.Proofs.Ytjbmcjppaadkgaa
set_option linter.unusedVariables false
set_option linter.unusedSimpArgs false
open Go.RowKit

theorem ret_int {k : IntKind} {a b : Int} (h : a = b) : Ending.returned (.int k a) = .returned (.int k b) := by rw [h]

theorem ret_bool {a b : Bool} (h : a = b) : Ending.returned (.bool a) = .returned (.bool b) := by rw [h]
theorem ret_str {a b : ByteArray} (h : a = b) : Ending.returned (.string a) = .returned (.string b) := by rw [h]

theorem jump_back {l : Nat} {J : Act → World → Prop} {Q : Exit → Act → World → Prop} {a : Act} {w : World} (h : J a w) : Exit.jump l J Q (.goto l) a w := ⟨rfl, h⟩

theorem jump_ret {l : Nat} {J : Act → World → Prop} {Q : Exit → Act → World → Prop} {a : Act} {w : World} (h : Q .ret a w) : Exit.jump l J Q .ret a w := h
theorem nogoto_ret {Q : Exit → Act → World → Prop} {a : Act} {w : World} (h : Q .ret a w) : Exit.noGoto Q .ret a w := h
theorem jump_normal {l : Nat} {J : Act → World → Prop} {Q : Exit → Act → World → Prop} {a : Act} {w : World} (h : Q .normal a w) : Exit.jump l J Q .normal a w := h

/-- A scope whose code holds one label, to which the run jumps back. 'I n': what holds behind the label when at most n passes are to come. -/
theorem wp_scope_goto {P : Program} {a : Act} {w : World} {Q : Exit → Act → World → Prop} {c rest : Code} (l : Nat) (I : Nat → Act → World → Prop) (hf : findLabel c l = some (Code.skip.seq rest))
    (first : ∀ R : Exit → Act → World → Prop, (∀ n a' w', I n a' w' → rest.wp P R a' w') → (∀ e a' w', Exit.noGoto Q e a' w' → R e a' w') → c.wp P R a w)
    (pass : ∀ n a w, I n a w → ∀ J : Act → World → Prop, (∀ k a' w', k < n → I k a' w' → J a' w') → rest.wp P (Exit.jump l J Q) a w) :
    (Code.scope c).wp P Q a w := by
  have key : ∀ (J0 : Act → World → Prop), (∀ k a' w', I k a' w' → J0 a' w') → ∀ n a' w', I n a' w' → rest.wp P (Exit.jump l J0 Q) a' w' :=
    fun J0 h n a' w' hI => pass n a' w' hI J0 fun k a'' w'' _ h2 => h k a'' w'' h2
  refine wp_scope_jumps l (fun a w => ∃ n, I n a w) (fun a w => leastOf (fun n => I n a w)) hf ?_ ?_
  · refine first _ (key _ fun k _ _ h => ⟨k, h⟩) ?_
    intro e a' w' h
    cases e with
    | normal => exact h
    | exit id => exact h
    | goto l' => exact absurd h (by simp [Exit.noGoto])
    | ret => exact h
    | panic ch => exact h
    | outgrown => exact h
  · intro a' w' hI
    obtain ⟨hl, hmin⟩ := leastOf_spec hI
    refine wp_seq (wp_skip ?_)
    exact pass _ a' w' hl _ fun k a'' w'' hk hI' =>
      ⟨⟨k, hI'⟩, Nat.lt_of_le_of_lt ((leastOf_spec (p := fun n => I n a'' w'') ⟨k, hI'⟩).2 k hI') hk⟩

theorem take_snoc (s : ByteArray) (k : Nat) (h : k < s.size) : s.data.toList.take (k + 1) = s.data.toList.take k ++ [s[k]] := by
  rw [List.take_succ_eq_append_getElem (by simpa using h)]; rfl
theorem mem_of (s : ByteArray) (k : Nat) (h : k < s.size) : s[k] ∈ s.data.toList := by
  have : s.data.toList[k]'(by simpa using h) ∈ s.data.toList := List.getElem_mem _
  exact this
theorem take_all (s : ByteArray) (k : Nat) (h : s.size ≤ k) : s.data.toList.take k = s.data.toList :=
  List.take_of_length_le (by simpa using h)
theorem size0 (s : ByteArray) (h : s.size = 0) : s = ⟨#[]⟩ := (show s = ByteArray.empty by simpa using h).trans rfl
theorem beqf {a b : Int} (h : a ≠ b) : (a == b) = false := by simpa using h
theorem head_of (s : ByteArray) (h : 0 < s.size) : s.data.toList.head? = some s[0] := by
  obtain ⟨⟨l⟩⟩ := s
  cases l with
  | nil => exact absurd h (by decide)
  | cons c l => rfl
theorem toList_eq (s : ByteArray) : s.toList = s.data.toList := Lib.toList_data s
theorem ne_of (s : ByteArray) (h : 0 < s.size) : s.toList.isEmpty = false := by
  rw [toList_eq]
  have := head_of s h
  cases hl : s.data.toList with
  | nil => rw [hl] at this; simp at this
  | cons c l => rfl
/-! texts as lists of bytes; cells of a block -/
def strB (l : List UInt8) : ByteArray := ⟨l.toArray⟩
theorem cell_of {w : World} {b : Nat} {C : Array Value} {T : TypeId} {fz : Nat × Nat} (h : w.heap[b]? = some (.cells C T fz)) (i : Nat) {v : Value} (hi : C[i]? = some v) : w.cell? ⟨b, i, none⟩ = some v := by
  simp [World.cell?, h, hi]
theorem free_of {w : World} {b : Nat} {C : Array Value} {T : TypeId} (h : w.heap[b]? = some (.cells C T (0, 0))) (i : Nat) : w.frozen? ⟨b, i, none⟩ = false := by
  simp [World.frozen?, h]
theorem strB_size (l : List UInt8) : (strB l).size = l.length := by simp [strB, ByteArray.size]
theorem strB_app (a b : List UInt8) : strB a ++ strB b = strB (a ++ b) := by
  apply ByteArray.ext
  rw [ByteArray.data_append]
  simp [strB]
theorem strB_self (x : ByteArray) : strB x.data.toList = x := by
  apply ByteArray.ext
  simp [strB]
theorem str_eq (a : List UInt8) (b : ByteArray) : ((strB a).toList == b.toList) = (a == b.data.toList) := by
  rw [toList_eq, toList_eq]; rfl
end Go.Proofs.Ytjbmcjppaadkgaa

namespace Go.Proofs.Ytjbmcjppaadkgaa
set_option linter.unusedVariables false
set_option linter.unusedSimpArgs false

/-- What a sign stands for. -/
def val (r : Int) : Int := if 48 ≤ r ∧ r ≤ 57 then r - 48 else if 97 ≤ r ∧ r ≤ 102 then r - 97 + 10 else 16

theorem val_bd (r : Int) : 0 ≤ val r ∧ val r ≤ 16 := by unfold val; (repeat' split) <;> omega
theorem val_dec (r : Int) : val r < 10 ↔ 48 ≤ r ∧ r ≤ 57 := by unfold val; (repeat' split) <;> omega
theorem val_dec_eq (r : Int) (h : 48 ≤ r ∧ r ≤ 57) : val r = r - 48 := by unfold val; rw [if_pos h]

/-- All signs of a text are digits of that base. -/
def digs (l : List UInt8) (base : Int) : Bool := l.all fun c => decide (val c.toNat < base)
theorem digs_snoc (l : List UInt8) (c : UInt8) (base : Int) : digs (l ++ [c]) base = (digs l base && decide (val c.toNat < base)) := by simp [digs]
theorem digs_mem {l : List UInt8} {base : Int} (h : digs l base = true) {c : UInt8} (hc : c ∈ l) : val c.toNat < base := by
  simpa using (List.all_eq_true.mp h) c hc
theorem digs_no {l : List UInt8} {base : Int} {c : UInt8} (hc : c ∈ l) (h : base ≤ val c.toNat) : digs l base = false := by
  simp only [digs, List.all_eq_false]
  exact ⟨c, hc, by simp; omega⟩

/-- The number that a row of digits is. -/
def numOf (l : List UInt8) : Nat := l.foldl (fun u c => u * 10 + (c.toNat - 48)) 0
theorem numOf_snoc (l : List UInt8) (c : UInt8) : numOf (l ++ [c]) = numOf l * 10 + (c.toNat - 48) := by simp [numOf]
theorem foldl_ge (l : List UInt8) : ∀ u : Nat, u ≤ l.foldl (fun u c => u * 10 + (c.toNat - 48)) u := by
  induction l with
  | nil => intro u; exact Nat.le_refl _
  | cons c l ih => intro u; exact Nat.le_trans (show u ≤ u * 10 + (c.toNat - 48) by omega) (ih _)
theorem numOf_take_le (l : List UInt8) (k : Nat) : numOf (l.take k) ≤ numOf l := by
  conv => rhs; rw [← List.take_append_drop k l]
  unfold numOf
  rw [List.foldl_append]
  exact foldl_ge _ _

/-- A text that is no number's. -/
def formBad (l : List UInt8) : Bool := l.isEmpty || (l.head? == some 48 && decide (1 < l.length)) || !(digs l 10)

def top : Nat := 18446744073709551615

/-- What reading tells: the number and the code. -/
def rdVal (l : List UInt8) : Int := if formBad l then 0 else if top < numOf l then 0 else numOf l
def rdCode (l : List UInt8) : Int := if formBad l then 3 else if top < numOf l then 5 else 0

theorem rd_bad {l : List UInt8} (h : formBad l = true) : rdVal l = 0 ∧ rdCode l = 3 := by simp [rdVal, rdCode, h]
theorem rd_long {l : List UInt8} (h : formBad l = false) (h2 : top < numOf l) : rdVal l = 0 ∧ rdCode l = 5 := by simp [rdVal, rdCode, h, h2]
theorem rd_fine {l : List UInt8} (h : formBad l = false) (h2 : numOf l ≤ top) : rdVal l = numOf l ∧ rdCode l = 0 := by
  simp [rdVal, rdCode, h, Nat.not_lt.mpr h2]

/-- A number's digits. -/
def decs (u : Nat) : List UInt8 := if u < 10 then [UInt8.ofNat (48 + u)] else decs (u / 10) ++ [UInt8.ofNat (48 + u % 10)]

theorem toNat_ofNat {n : Nat} (h : n < 256) : (UInt8.ofNat n).toNat = n := by
  simp [UInt8.toNat_ofNat']; omega

theorem decs_small {u : Nat} (h : u < 10) : decs u = [UInt8.ofNat (48 + u)] := by rw [decs]; exact if_pos h
theorem decs_big {u : Nat} (h : ¬ u < 10) : decs u = decs (u / 10) ++ [UInt8.ofNat (48 + u % 10)] := by rw [decs]; exact if_neg h

theorem digs_dig (n : Nat) (h : n < 10) : digs [UInt8.ofNat (48 + n)] 10 = true := by
  simp only [digs, List.all_cons, List.all_nil, Bool.and_true, decide_eq_true_eq]
  rw [toNat_ofNat (by omega), val_dec]; omega

theorem decs_digs (u : Nat) : digs (decs u) 10 = true := by
  induction u using Nat.strongRecOn with
  | _ u ih =>
    by_cases h : u < 10
    · rw [decs_small h]; exact digs_dig u h
    · rw [decs_big h, digs_snoc, ih _ (by omega)]
      have := digs_dig (u % 10) (by omega)
      simp only [digs, List.all_cons, List.all_nil, Bool.and_true] at this
      simpa using this

theorem decs_num (u : Nat) : numOf (decs u) = u := by
  induction u using Nat.strongRecOn with
  | _ u ih =>
    by_cases h : u < 10
    · rw [decs_small h]
      simp only [numOf, List.foldl_cons, List.foldl_nil]
      rw [toNat_ofNat (by omega)]; omega
    · rw [decs_big h, numOf_snoc, ih _ (by omega), toNat_ofNat (by omega)]; omega

theorem decs_ne (u : Nat) : decs u ≠ [] := by rw [decs]; split <;> simp

theorem decs_head (u : Nat) (h : 0 < u) : (decs u).head? ≠ some 48 := by
  induction u using Nat.strongRecOn with
  | _ u ih =>
    by_cases h1 : u < 10
    · rw [decs_small h1]
      intro hc
      simp only [List.head?_cons, Option.some.injEq] at hc
      have : (UInt8.ofNat (48 + u)).toNat = (48 : UInt8).toNat := by rw [hc]
      rw [toNat_ofNat (by omega)] at this
      simp at this; omega
    · rw [decs_big h1, List.head?_append]
      have := ih (u / 10) (by omega) (by omega)
      cases hd : (decs (u / 10)).head? with
      | none => exact absurd (List.head?_eq_none_iff.mp hd) (decs_ne _)
      | some c => rw [hd] at this; simpa using this

theorem decs_form (u : Nat) : formBad (decs u) = false := by
  have h1 := decs_ne u
  have h2 := decs_digs u
  simp only [formBad, h2, Bool.not_true, Bool.or_false, Bool.or_eq_false_iff, Bool.and_eq_false_iff]
  refine ⟨by simpa using h1, ?_⟩
  by_cases h : u = 0
  · right; subst h; rw [decs_small (by omega)]; simp
  · left; simpa using decs_head u (by omega)

/-- What is printed is read. -/
theorem rd_decs (u : Nat) (h : u ≤ top) : rdVal (decs u) = u ∧ rdCode (decs u) = 0 := by
  have := rd_fine (decs_form u) (by rw [decs_num]; exact h)
  rw [decs_num] at this
  exact this

theorem dig_eq (c : UInt8) (h : val c.toNat < 10) : c = UInt8.ofNat (48 + (c.toNat - 48)) := by
  have := (val_dec _).mp h
  rw [show 48 + (c.toNat - 48) = c.toNat by omega]
  simp

/-- What is read is printed as it was. -/
theorem decs_numOf : ∀ n (l : List UInt8), l.length = n → l ≠ [] → digs l 10 = true → (l.head? = some 48 → l.length ≤ 1) → decs (numOf l) = l := by
  intro n
  induction n with
  | zero => intro l hl hne; simp at hl; exact absurd hl hne
  | succ n ih =>
    intro l hl hne hd hh
    obtain ⟨a, c, rfl⟩ : ∃ a c, l = a ++ [c] := ⟨l.dropLast, l.getLast hne, (List.dropLast_concat_getLast hne).symm⟩
    rw [digs_snoc, Bool.and_eq_true, decide_eq_true_eq] at hd
    have hc := (val_dec _).mp hd.2
    by_cases ha : a = []
    · subst ha
      have h10 : c.toNat - 48 < 10 := by omega
      simp only [List.nil_append, numOf, List.foldl_cons, List.foldl_nil]
      rw [show 0 * 10 + (c.toNat - 48) = c.toNat - 48 by omega, decs_small h10, ← dig_eq c hd.2]
    · have hla : a.length = n := by simpa using hl
      have hhead : a.head? = some 48 → a.length ≤ 1 := by
        intro h
        have := hh (by rw [List.head?_append, h]; rfl)
        simp at this
        exact absurd this ha
      have hnot : a.head? ≠ some 48 := by
        intro h
        have := hh (by rw [List.head?_append, h]; rfl)
        simp at this
        exact absurd this ha
      have e := ih a hla ha hd.1 hhead
      have hpos : 0 < numOf a := by
        rcases Nat.eq_zero_or_pos (numOf a) with h0 | h0
        · rw [h0, decs_small (by omega)] at e
          exact absurd (by rw [← e]; rfl) hnot
        · exact h0
      rw [numOf_snoc, decs_big (by omega)]
      rw [show (numOf a * 10 + (c.toNat - 48)) / 10 = numOf a by omega, show (numOf a * 10 + (c.toNat - 48)) % 10 = c.toNat - 48 by omega, e, ← dig_eq c hd.2]

theorem decs_rd (l : List UInt8) (h : rdCode l = 0) : ∃ u : Nat, rdVal l = u ∧ u ≤ top ∧ decs u = l := by
  unfold rdCode at h
  by_cases hf : formBad l
  · rw [if_pos hf] at h; omega
  · rw [if_neg hf] at h
    by_cases ht : top < numOf l
    · rw [if_pos ht] at h; omega
    · refine ⟨numOf l, by simp [rdVal, hf, ht], by omega, ?_⟩
      simp only [formBad, Bool.not_eq_true, Bool.or_eq_false_iff, Bool.and_eq_false_iff] at hf
      refine decs_numOf _ l rfl (by simpa using hf.1.1) (by simpa using hf.2) ?_
      intro hh
      rcases hf.1.2 with h1 | h1
      · simp [hh] at h1
      · simpa using h1

/-! bytes -/
def hexD (n : Nat) : UInt8 := UInt8.ofNat (if n < 10 then 48 + n else 87 + n)
def hexB (b : UInt8) : List UInt8 := [hexD (b.toNat / 16), hexD (b.toNat % 16)]
def hexOf (l : List UInt8) : List UInt8 := l.flatMap hexB
theorem hexOf_snoc (l : List UInt8) (b : UInt8) : hexOf (l ++ [b]) = hexOf l ++ hexB b := by simp [hexOf]
theorem hexOf_length (l : List UInt8) : (hexOf l).length = 2 * l.length := by
  induction l with
  | nil => rfl
  | cons b l ih => simp only [hexOf, List.flatMap_cons, List.length_append, List.length_cons] at *; simp only [hexB, List.length_cons, List.length_nil]; omega

/-- The byte that two signs are. -/
def two (c d : UInt8) : UInt8 := UInt8.ofNat ((val c.toNat).toNat * 16 + (val d.toNat).toNat)
def unhex : List UInt8 → List UInt8
  | c :: d :: l => two c d :: unhex l
  | _ => []
def hxBytes (l : List UInt8) : List UInt8 := if digs l 16 && l.length % 2 == 0 then unhex l else []
def hxCode (l : List UInt8) : Int := if digs l 16 then (if l.length % 2 = 1 then 4 else 0) else 3

theorem unhex_snoc2 : ∀ n (l : List UInt8) (c d : UInt8), l.length = 2 * n → unhex (l ++ [c, d]) = unhex l ++ [two c d] := by
  intro n
  induction n with
  | zero => intro l c d h; have : l = [] := by simpa using h
            subst this; rfl
  | succ n ih =>
    intro l c d h
    match l, h with
    | a :: b :: l, h =>
      have := ih l c d (by simp at h; omega)
      simp only [List.cons_append, unhex, this]

theorem hexD_val (n : Nat) (h : n < 16) : val (hexD n).toNat = n := by
  unfold hexD
  by_cases h1 : n < 10
  · rw [if_pos h1, toNat_ofNat (by omega)]; unfold val; rw [if_pos (by omega)]; omega
  · rw [if_neg h1, toNat_ofNat (by omega)]; unfold val; rw [if_neg (by omega), if_pos (by omega)]; omega

theorem two_hex (b : UInt8) : two (hexD (b.toNat / 16)) (hexD (b.toNat % 16)) = b := by
  have := UInt8.toNat_lt b
  unfold two
  rw [hexD_val _ (by omega), hexD_val _ (by omega)]
  simp only [Int.toNat_natCast]
  rw [show b.toNat / 16 * 16 + b.toNat % 16 = b.toNat by omega]
  simp

theorem unhex_hexOf (l : List UInt8) : unhex (hexOf l) = l := by
  induction l with
  | nil => rfl
  | cons b l ih =>
    show unhex (hexD (b.toNat / 16) :: hexD (b.toNat % 16) :: hexOf l) = _
    rw [unhex, two_hex, ih]

theorem hexOf_digs (l : List UInt8) : digs (hexOf l) 16 = true := by
  simp only [digs, List.all_eq_true, decide_eq_true_eq]
  intro c hc
  simp only [hexOf, List.mem_flatMap, hexB, List.mem_cons, List.not_mem_nil, or_false] at hc
  obtain ⟨b, _, hc⟩ := hc
  have := UInt8.toNat_lt b
  rcases hc with rfl | rfl
  · rw [hexD_val _ (by omega)]; omega
  · rw [hexD_val _ (by omega)]; omega

theorem hx_hexOf (l : List UInt8) : hxBytes (hexOf l) = l ∧ hxCode (hexOf l) = 0 := by
  have h1 := hexOf_digs l
  have h2 := hexOf_length l
  have h3 : (hexOf l).length % 2 = 0 := by omega
  exact ⟨by simp [hxBytes, h1, h3, unhex_hexOf], by simp [hxCode, h1, h3]⟩

theorem hexD_of (c : UInt8) (h : val c.toNat < 16) : hexD (val c.toNat).toNat = c := by
  have hc := UInt8.toNat_lt c
  unfold val at h ⊢
  by_cases h1 : (48 : Int) ≤ c.toNat ∧ (c.toNat : Int) ≤ 57
  · rw [if_pos h1]
    unfold hexD
    rw [if_pos (by omega), show 48 + ((c.toNat : Int) - 48).toNat = c.toNat by omega]; simp
  · rw [if_neg h1] at h ⊢
    by_cases h2 : (97 : Int) ≤ c.toNat ∧ (c.toNat : Int) ≤ 102
    · rw [if_pos h2]
      unfold hexD
      rw [if_neg (by omega), show 87 + ((c.toNat : Int) - 97 + 10).toNat = c.toNat by omega]; simp
    · rw [if_neg h2] at h; omega

theorem hexB_two (c d : UInt8) (hc : val c.toNat < 16) (hd : val d.toNat < 16) : hexB (two c d) = [c, d] := by
  have b1 := val_bd c.toNat
  have b2 := val_bd d.toNat
  have e : (two c d).toNat = (val c.toNat).toNat * 16 + (val d.toNat).toNat := by unfold two; rw [toNat_ofNat (by omega)]
  unfold hexB
  rw [e, show ((val c.toNat).toNat * 16 + (val d.toNat).toNat) / 16 = (val c.toNat).toNat by omega,
    show ((val c.toNat).toNat * 16 + (val d.toNat).toNat) % 16 = (val d.toNat).toNat by omega, hexD_of c hc, hexD_of d hd]

theorem hexOf_unhex : ∀ n (l : List UInt8), l.length = 2 * n → digs l 16 = true → hexOf (unhex l) = l := by
  intro n
  induction n with
  | zero => intro l h _; have : l = [] := by simpa using h
            subst this; rfl
  | succ n ih =>
    intro l h hd
    match l, h with
    | a :: b :: l, h =>
      have h' := ih l (by simp at h; omega) (by simp [digs] at hd ⊢; exact hd.2.2)
      simp only [digs, List.all_cons, Bool.and_eq_true, decide_eq_true_eq] at hd
      show hexB (two a b) ++ hexOf (unhex l) = _
      rw [hexB_two a b hd.1 hd.2.1, h']; rfl

theorem hexOf_hx (l : List UInt8) (h : hxCode l = 0) : hexOf (hxBytes l) = l := by
  unfold hxCode at h
  by_cases h1 : digs l 16
  · rw [if_pos h1] at h
    by_cases h2 : l.length % 2 = 1
    · rw [if_pos h2] at h; omega
    · have h3 : l.length % 2 = 0 := by omega
      simp only [hxBytes, h1, h3, Bool.true_and, beq_self_eq_true, if_true]
      exact hexOf_unhex (l.length / 2) l (by omega) h1
  · rw [if_neg h1] at h; omega
end Go.Proofs.Ytjbmcjppaadkgaa

namespace Go.Proofs.Ytjbmcjppaadkgaa
set_option linter.unusedVariables false
set_option linter.unusedSimpArgs false
set_option maxRecDepth 100000
open Go.RowKit

theorem value_any (r : Int) (h0 : 0 ≤ r) (h1 : r ≤ 255) (w : World) :
    Calls Try.prog 94 #[.int .i32 r] w fun e w' => e = .returned (.int .u64 (val r)) ∧ w = w' := by
  rcases (show (48 ≤ r ∧ r ≤ 57) ∨ (97 ≤ r ∧ r ≤ 102) ∨ r < 48 ∨ (57 < r ∧ r < 97) ∨ 102 < r from by omega) with h | h | h | h | h
  all_goals
    go_enter Try.func94, Try.ntmps94
    go_wp2
    go_ret
    exact ⟨ret_int (by unfold val; first | (rw [if_pos (by omega)]; done) | (rw [if_neg (by omega), if_pos (by omega)]; done) | (rw [if_neg (by omega), if_neg (by omega)]; done)), rfl⟩

theorem digits_any (s : ByteArray) (base : Int) (hs : s.size ≤ maxLen) (w : World) :
    Calls Try.prog 93 #[.string s, .int .u64 base] w fun e w' => e = .returned (.bool (digs s.data.toList base)) ∧ w = w' := by
  unfold maxLen at hs
  go_enter Try.func93, Try.ntmps93
  go_wp2
  refine wp_scope_goto 0 (fun n a' w' => w = w' ∧ ∃ k : Nat, ∃ (u2 u3 u6 u7 u8 u9 u10 u11 u12 u13 u14 u15 u16 u17 u18 : Value), a' = { tmps := #[.string s, .int .u64 base, u2, u3, .bool false, .int .i64 k, u6, u7, u8, u9, u10, u11, u12, u13, u14, u15, u16, u17, u18], defers := [] } ∧ k ≤ s.size ∧ n = s.size - k ∧ digs (s.data.toList.take k) base = true) rfl ?_ ?_
  · intro R hpass hout
    go_wp2
    go_step3
    go_step
    go_step
    exact hpass _ _ _ ⟨rfl, 0, _, _, _, _, _, _, _, _, _, _, _, _, _, _, _, rfl, by omega, rfl, rfl⟩
  · intro n a' w' hrel J hJ
    obtain ⟨rfl, k, u2, u3, u6, u7, u8, u9, u10, u11, u12, u13, u14, u15, u16, u17, u18, rfl, hk, rfl, hd⟩ := hrel
    by_cases hlt : k < s.size
    · have hb : (s[k]).toNat < 256 := UInt8.toNat_lt _
      have HD : Hid (digs (s.data.toList.take (k + 1)) base = decide (val (s[k]).toNat < base)) := by
        rw [take_snoc s k hlt, digs_snoc, hd]; rfl
      clear hd
      by_cases hv : base ≤ val (s[k]).toNat
      · go_wp2_with (go_at_call 94; refine (value_any _ (by omega) (by omega) _).mono ?_; rintro e w' ⟨rfl, rfl⟩)
        refine jump_ret ?_
        go_ret
        exact ⟨ret_bool (digs_no (mem_of s k hlt) hv).symm, rfl⟩
      · go_wp2_with (go_at_call 94; refine (value_any _ (by omega) (by omega) _).mono ?_; rintro e w' ⟨rfl, rfl⟩)
        go_step3
        refine jump_back (hJ (s.size - (k + 1)) _ _ (by omega) ⟨rfl, k + 1, _, _, _, _, _, _, _, _, _, _, _, _, _, _, _, rfl, by omega, rfl, ?_⟩)
        rw [HD.out]; simpa using hv
    · have HD := Lib.hid hd
      clear hd
      go_wp2
      refine jump_ret ?_
      go_ret
      exact ⟨ret_bool (by have := HD.out; rw [take_all s k (by omega)] at this; exact this.symm), rfl⟩
end Go.Proofs.Ytjbmcjppaadkgaa

namespace Go.Proofs.Ytjbmcjppaadkgaa
set_option linter.unusedVariables false
set_option linter.unusedSimpArgs false
set_option maxRecDepth 100000
open Go.RowKit

theorem ret_rd {a b : Int} {c d : Int} (h : a = b) (h2 : c = d) : Ending.returned (.tuple #[.int .u64 a, .int .i64 c]) = .returned (.tuple #[.int .u64 b, .int .i64 d]) := by rw [h, h2]

theorem form_size0 (s : ByteArray) (h : s.size = 0) : formBad s.data.toList = true := by
  rw [size0 s h]; rfl
theorem form_48 (s : ByteArray) (h : 1 < s.size) (h2 : (s[0]).toNat = 48) : formBad s.data.toList = true := by
  have e : s[0] = 48 := UInt8.toNat_inj.mp h2
  have := head_of s (by omega)
  rw [e] at this
  simp only [formBad, this, beq_self_eq_true, Bool.true_and, Bool.or_eq_true, decide_eq_true_eq]
  left; right; simpa using h
theorem form_digs (s : ByteArray) (h : digs s.data.toList 10 = false) : formBad s.data.toList = true := by simp [formBad, h]
theorem form_good (s : ByteArray) (h : 0 < s.size) (h2 : s.size ≤ 1 ∨ (s[0]).toNat ≠ 48) (h3 : digs s.data.toList 10 = true) : formBad s.data.toList = false := by
  have hh := head_of s h
  have hne : s.data.toList ≠ [] := by intro hc; rw [hc] at hh; simp at hh
  simp only [formBad, h3, hh, Bool.not_true, Bool.or_false, Bool.or_eq_false_iff, Bool.and_eq_false_iff]
  refine ⟨by simpa using hne, ?_⟩
  rcases h2 with h2 | h2
  · right; simpa using h2
  · left
    have : s[0] ≠ 48 := fun hc => h2 (by rw [hc]; rfl)
    simpa using this
theorem digs_of_form {l : List UInt8} (h : formBad l = false) : digs l 10 = true := by
  simp only [formBad, Bool.or_eq_false_iff] at h; simpa using h.2
theorem val_of_form (s : ByteArray) (k : Nat) (h : k < s.size) (hf : formBad s.data.toList = false) : val (s[k]).toNat ≤ 9 ∧ val (s[k]).toNat = (s[k]).toNat - 48 ∧ 48 ≤ (s[k]).toNat ∧ (s[k]).toNat ≤ 57 := by
  have := digs_mem (digs_of_form hf) (mem_of s k h)
  have h2 := (val_dec _).mp this
  refine ⟨by omega, val_dec_eq _ h2, by omega, by omega⟩
theorem rd_long_at (s : ByteArray) (k : Nat) (h : k < s.size) (hf : formBad s.data.toList = false) (hl : (18446744073709551615 - val (s[k]).toNat) / 10 < (numOf (s.data.toList.take k) : Int)) :
    rdVal s.data.toList = 0 ∧ rdCode s.data.toList = 5 := by
  refine rd_long hf (Nat.lt_of_lt_of_le ?_ (numOf_take_le s.data.toList (k + 1)))
  rw [take_snoc s k h, numOf_snoc]
  obtain ⟨h1, h2, h3, h4⟩ := val_of_form s k h hf
  unfold top; omega
theorem num_next (s : ByteArray) (k : Nat) (h : k < s.size) (hf : formBad s.data.toList = false) (hl : (numOf (s.data.toList.take k) : Int) ≤ (18446744073709551615 - val (s[k]).toNat) / 10) :
    (numOf (s.data.toList.take k) : Int) * 10 + val (s[k]).toNat = (numOf (s.data.toList.take (k + 1)) : Int) ∧ numOf (s.data.toList.take (k + 1)) ≤ top := by
  rw [take_snoc s k h, numOf_snoc]
  obtain ⟨h1, h2, h3, h4⟩ := val_of_form s k h hf
  unfold top; omega

theorem read_any (s : ByteArray) (hs : s.size ≤ maxLen) (w : World) :
    Calls Try.prog 89 #[.string s] w fun e w' => e = .returned (.tuple #[.int .u64 (rdVal s.data.toList), .int .i64 (rdCode s.data.toList)]) ∧ w = w' := by
  have hsm := hs
  unfold maxLen at hs
  go_enter Try.func89, Try.ntmps89
  go_wp2
  refine wp_scope_goto 0 (fun n a' w' => w = w' ∧ ∃ k u : Nat, ∃ (u1 u6 u7 u8 u9 u10 u11 u12 u13 u14 u15 u16 u17 u18 u19 u20 u21 u22 u23 u24 u25 u26 u27 u28 u29 u30 u31 u32 u33 u34 u35 u36 u37 u38 u39 u40 u41 u42 u43 u44 : Value), a' = { tmps := #[.string s, u1, .int .u64 0, .int .i64 0, .int .u64 u, .int .i64 k, u6, u7, u8, u9, u10, u11, u12, u13, u14, u15, u16, u17, u18, u19, u20, u21, u22, u23, u24, u25, u26, u27, u28, u29, u30, u31, u32, u33, u34, u35, u36, u37, u38, u39, u40, u41, u42, u43, u44], defers := [] } ∧ k ≤ s.size ∧ n = s.size - k ∧ formBad s.data.toList = false ∧ u = numOf (s.data.toList.take k) ∧ u ≤ top) rfl ?_ ?_
  · intro R hpass hout
    by_cases h0 : s.size = 0
    · have HR := Lib.hid (rd_bad (form_size0 s h0))
      obtain rfl := size0 s h0
      go_wp2_with fail
      go_ret2
      exact ⟨ret_rd HR.out.1.symm HR.out.2.symm, rfl⟩
    · have hp : 0 < s.size := by omega
      have hb : (s[0]).toNat < 256 := UInt8.toNat_lt _
      have hne : s.toList.isEmpty = false := ne_of s hp
      by_cases hbad : 1 < s.size ∧ (s[0]).toNat = 48
      · obtain ⟨h1, h48⟩ := hbad
        have HR := Lib.hid (rd_bad (form_48 s h1 h48))
        go_wp2_with fail
        go_ret2
        exact ⟨ret_rd HR.out.1.symm HR.out.2.symm, rfl⟩
      · have hcase : (s[0]).toNat ≠ 48 ∨ (s[0].toNat = 48 ∧ s.size ≤ 1) := by omega
        have hgood : s.size ≤ 1 ∨ (s[0]).toNat ≠ 48 := by omega
        cases hd : digs s.data.toList 10 with
        | true =>
          have HF := Lib.hid (form_good s hp hgood hd)
          clear hbad hgood
          rcases hcase with h48 | ⟨h48, h1⟩
          all_goals
            go_wp2_with (first | (go_at_call 93; refine (digits_any s 10 hsm _).mono ?_; rintro e w' ⟨rfl, rfl⟩) | fail)
            go_step3
            go_step
            go_step
            exact hpass _ _ _ ⟨rfl, 0, 0, _, _, _, _, _, _, _, _, _, _, _, _, _, _, _, _, _, _, _, _, _, _, _, _, _, _, _, _, _, _, _, _, _, _, _, _, _, _, _, _, rfl, by omega, rfl, HF.out, rfl, by decide⟩
        | false =>
          have HR := Lib.hid (rd_bad (form_digs s hd))
          clear hbad hgood
          rcases hcase with h48 | ⟨h48, h1⟩
          all_goals
            go_wp2_with (first | (go_at_call 93; refine (digits_any s 10 hsm _).mono ?_; rintro e w' ⟨rfl, rfl⟩) | fail)
            refine nogoto_ret ?_
            go_ret2
            exact ⟨ret_rd HR.out.1.symm HR.out.2.symm, rfl⟩
  · intro n a' w' hrel J hJ
    obtain ⟨rfl, k, u, u1, u6, u7, u8, u9, u10, u11, u12, u13, u14, u15, u16, u17, u18, u19, u20, u21, u22, u23, u24, u25, u26, u27, u28, u29, u30, u31, u32, u33, u34, u35, u36, u37, u38, u39, u40, u41, u42, u43, u44, rfl, hk, rfl, hf, hu, ht⟩ := hrel
    have HF := Lib.hid hf
    have HU := Lib.hid hu
    have hut : (u : Int) ≤ 18446744073709551615 := by unfold top at ht; omega
    clear hf hu ht
    by_cases hlt : k < s.size
    · have hb : (s[k]).toNat < 256 := UInt8.toNat_lt _
      have hd0 : 0 ≤ val (s[k]).toNat := (val_bd _).1
      have hd9 : val (s[k]).toNat ≤ 9 := (val_of_form s k hlt HF.out).1
      by_cases hv : (18446744073709551615 - val (s[k]).toNat) / 10 < (u : Int)
      · have HR := Lib.hid (rd_long_at s k hlt HF.out (by rw [← HU.out]; exact hv))
        go_wp2_with (go_at_call 94; refine (value_any _ (by omega) (by omega) _).mono ?_; rintro e w' ⟨rfl, rfl⟩)
        refine jump_ret ?_
        go_ret2
        exact ⟨ret_rd HR.out.1.symm HR.out.2.symm, rfl⟩
      · have HN := Lib.hid (num_next s k hlt HF.out (by rw [← HU.out]; omega))
        go_wp2_with (go_at_call 94; refine (value_any _ (by omega) (by omega) _).mono ?_; rintro e w' ⟨rfl, rfl⟩)
        go_step3
        have e1 := HN.out.1
        rw [← HU.out] at e1
        rw [e1]
        exact jump_back (hJ (s.size - (k + 1)) _ _ (by omega) ⟨rfl, k + 1, numOf (s.data.toList.take (k + 1)), _, _, _, _, _, _, _, _, _, _, _, _, _, _, _, _, _, _, _, _, _, _, _, _, _, _, _, _, _, _, _, _, _, _, _, _, _, _, _, _, rfl, by omega, rfl, HF.out, rfl, HN.out.2⟩)
    · have HR := Lib.hid (rd_fine (l := s.data.toList) HF.out (by have h1 := HU.out; rw [take_all s k (by omega)] at h1; unfold top; omega))
      have HE : Hid ((u : Int) = numOf s.data.toList) := by have h1 := HU.out; rw [take_all s k (by omega)] at h1; exact congrArg Int.ofNat h1
      go_wp2
      refine jump_ret ?_
      go_ret2
      exact ⟨ret_rd (HE.out.trans HR.out.1.symm) HR.out.2.symm, rfl⟩
end Go.Proofs.Ytjbmcjppaadkgaa

namespace Go.Proofs.Ytjbmcjppaadkgaa
set_option linter.unusedVariables false
set_option linter.unusedSimpArgs false
set_option maxRecDepth 100000
open Go.RowKit

def hexI (n : Int) : Int := if n < 10 then 48 + n else 87 + n
theorem hexI_bd (n : Int) (h0 : 0 ≤ n) (h1 : n ≤ 15) : 48 ≤ hexI n ∧ hexI n ≤ 102 := by unfold hexI; split <;> omega
theorem val_hexI (n : Int) (h0 : 0 ≤ n) (h1 : n ≤ 15) : val (hexI n) = n := by
  unfold hexI val; (repeat' split) <;> omega
theorem hexI_val (c : Int) (h : val c < 16) : hexI (val c) = c := by
  unfold hexI val at *; (repeat' split at *) <;> omega
theorem hexI_hexD (n : Nat) (h : n ≤ 15) : hexI n = (hexD n).toNat := by
  unfold hexI hexD
  by_cases h1 : n < 10
  · rw [if_pos (by omega), if_pos h1, toNat_ofNat (by omega)]; omega
  · rw [if_neg (by omega), if_neg h1, toNat_ofNat (by omega)]; omega

theorem digit_any (n : Int) (h0 : 0 ≤ n) (h1 : n ≤ 15) (w : World) :
    Calls Try.prog 73 #[.int .u8 n] w fun e w' => e = .returned (.int .u8 (hexI n)) ∧ w = w' := by
  by_cases h : n < 10
  all_goals
    go_enter Try.func73, Try.ntmps73
    go_wp2
    go_ret
    exact ⟨ret_int (by unfold hexI; first | (rw [if_pos (by omega)]; done) | (rw [if_neg (by omega)]; done)), rfl⟩

theorem rvalue_any (c : Int) (h0 : 0 ≤ c) (h1 : c ≤ 255) (w : World) :
    Calls Try.prog 83 #[.int .u8 c] w fun e w' => e = .returned (.int .u8 (val c)) ∧ w = w' := by
  have hv := val_bd c
  go_enter Try.func83, Try.ntmps83
  go_wp2
  go_loop [3] (fun n => ∃ k : Nat, (k : Int) ≤ val c ∧ n = .int .u8 k) (fun n => 16 - (intOf n).toNat)
  case atStart => exact ⟨0, by omega, rfl⟩
  case round =>
    obtain ⟨k, hk, rfl⟩ := hrel
    by_cases h16 : k < 16
    · have hb := hexI_bd k (by omega) (by omega)
      by_cases he : hexI k = c
      · have HV : Hid ((k : Int) = val c) := by have := val_hexI k (by omega) (by omega); rw [he] at this; exact this.symm
        go_wp2_with (go_at_call 73; refine (digit_any _ (by omega) (by omega) _).mono ?_; rintro e w' ⟨rfl, rfl⟩)
        go_ret
        exact ⟨ret_int HV.out, rfl⟩
      · have hlt : (k : Int) + 1 ≤ val c := by
          rcases Int.lt_or_eq_of_le hk with h | h
          · omega
          · exact absurd (by rw [h]; exact hexI_val c (by omega)) he
        have hbe : (hexI k == c) = false := by simpa using he
        go_wp2_with (go_at_call 73; refine (digit_any _ (by omega) (by omega) _).mono ?_; rintro e w' ⟨rfl, rfl⟩)
        go_round
        case rel => exact ⟨k + 1, by omega, by go_num⟩
        case measure => simp [intOf]; omega
    · have HV : Hid (16 = val c) := by have : val c ≤ 16 := hv.2; show (16 : Int) = val c; omega
      go_wp2
      go_ret
      exact ⟨ret_int HV.out, rfl⟩
end Go.Proofs.Ytjbmcjppaadkgaa

namespace Go.Proofs.Ytjbmcjppaadkgaa
set_option linter.unusedVariables false
set_option linter.unusedSimpArgs false
set_option maxRecDepth 100000
open Go.RowKit

theorem conv1 (wx : World) (x : Int) : (convert 28 9 (.slice (some ⟨wx.heap.size, 0, none⟩) 1 1)).run Try.prog (wx.alloc (.cells #[.int .u8 x] 5)) = .ok (.string (strOfNums [x])) (wx.alloc (.cells #[.int .u8 x] 5)) :=
  run_convert_bytes_arg _ _ _ Try.underlying28 Try.underlying5 _ _ _ _ [x] rfl (fun i hi => by
    have hi1 : i < 1 := hi
    obtain rfl : i = 0 := by omega
    exact World.cell?_alloc_mark wx _ _ _ 0) _ Try.underlying9

theorem decs_len : ∀ (n u : Nat), u < 10 ^ (n + 1) → (decs u).length ≤ n + 1 := by
  intro n
  induction n with
  | zero => intro u h; rw [decs_small (by omega)]; simp
  | succ n ih =>
    intro u h
    by_cases h1 : u < 10
    · rw [decs_small h1]; simp
    · rw [decs_big h1]
      have := ih (u / 10) (by rw [Nat.pow_succ] at h; omega)
      simp only [List.length_append, List.length_cons, List.length_nil]; omega
theorem decs_top (u : Nat) (h : u ≤ top) : (decs u).length ≤ 20 := decs_len 19 u (by unfold top at h; omega)

theorem ret_dec (m u : Nat) (s : ByteArray) (hm : m ≤ 9) (h : decs m ++ s.data.toList = decs u) : strOfNums [48 + (m : Int)] ++ s = ⟨(decs u).toArray⟩ := by
  rw [← h, decs_small (by omega)]
  obtain ⟨⟨l⟩⟩ := s
  apply ByteArray.ext
  rw [ByteArray.data_append]
  simp only [strOfNums, List.map_cons, List.map_nil, show (48 + (m : Int)).toNat = 48 + m by omega]
  simp
theorem dec_next (m u : Nat) (s : ByteArray) (hm : 9 < m) (h : decs m ++ s.data.toList = decs u) : decs (m / 10) ++ (strOfNums [48 + (m : Int) % 10] ++ s).data.toList = decs u := by
  rw [← h, decs_big (u := m) (by omega), ByteArray.data_append]
  simp only [strOfNums, List.map_cons, List.map_nil, show (48 + (m : Int) % 10).toNat = 48 + m % 10 by omega]
  simp

theorem rprint_any (u : Nat) (hu : u ≤ top) (w : World) :
    Calls Try.prog 59 #[.int .u64 u] w fun e w' => e = .returned (.string ⟨(decs u).toArray⟩) ∧ Below w.heap.size w w' := by
  have htop : (u : Int) ≤ 18446744073709551615 := by unfold top at hu; omega
  have hc := conv1
  go_enter Try.func59, Try.ntmps59
  go_wp2_with fail
  go_loopw [0, 3] (fun v t wr => ∃ (m : Nat) (s : ByteArray), v = .int .u64 m ∧ t = .string s ∧ Below w.heap.size w wr ∧ m ≤ u ∧ decs m ++ s.data.toList = decs u) (fun v _ _ => (intOf v).toNat)
  case atStart => exact ⟨u, _, rfl, rfl, Below.refl _ _, Nat.le_refl _, by simp⟩
  case round =>
    obtain ⟨m, s, rfl, rfl, hbel, hmu, hd⟩ := hrel
    have hsz : s.size ≤ 20 := by
      have := congrArg List.length hd
      rw [List.length_append] at this
      have h2 := decs_top u hu
      simp only [Array.length_toList, ByteArray.size_data] at this; omega
    have HD := Lib.hid hd
    have HB := Lib.hid hbel
    clear hd hbel
    by_cases h9 : 9 < m
    · have hn : ¬ 9223372036854775807 < (strOfNums [48 + (m : Int) % 10]).size + s.size := by rw [strOfNums_size]; simp; omega
      go_wp2_with fail
      go_roundw
      case rel => exact ⟨m / 10, _, by go_num, rfl, HB.out.alloc HB.out.size _, by omega, dec_next m u s h9 HD.out⟩
      case measure => simp [intOf]; omega
    · have hn : ¬ 9223372036854775807 < (strOfNums [48 + (m : Int)]).size + s.size := by rw [strOfNums_size]; simp; omega
      go_wp2_with fail
      go_ret
      exact ⟨ret_str (ret_dec m u s (by omega) HD.out), HB.out.alloc HB.out.size _⟩
end Go.Proofs.Ytjbmcjppaadkgaa

namespace Go.Proofs.Ytjbmcjppaadkgaa
set_option linter.unusedVariables false
set_option linter.unusedSimpArgs false
set_option maxRecDepth 100000
open Go.RowKit

theorem hexdigit_at (j : Nat) (hj : j < 16) (h : j < (⟨#[48, 49, 50, 51, 52, 53, 54, 55, 56, 57, 97, 98, 99, 100, 101, 102]⟩ : ByteArray).size) : ((⟨#[48, 49, 50, 51, 52, 53, 54, 55, 56, 57, 97, 98, 99, 100, 101, 102]⟩ : ByteArray)[j]'h).toNat = (hexD j).toNat := by
  have key : ∀ i : Fin 16, ∀ h', ((⟨#[48, 49, 50, 51, 52, 53, 54, 55, 56, 57, 97, 98, 99, 100, 101, 102]⟩ : ByteArray)[i.val]'h').toNat = (hexD i.val).toNat := by decide +kernel
  exact key ⟨j, hj⟩ h

theorem decs_step (m u : Nat) (L : List UInt8) (h : ¬ m < 10) (hd : decs m ++ L = decs u) : decs (m / 10) ++ (hexD (m % 10) :: L) = decs u := by
  rw [← hd, decs_big h]
  have e : hexD (m % 10) = UInt8.ofNat (48 + m % 10) := by unfold hexD; rw [if_pos (by omega)]
  rw [e]; simp
theorem decs_last (m u : Nat) (L : List UInt8) (h : m < 10) (hd : decs m ++ L = decs u) : hexD (m % 10) :: L = decs u := by
  rw [← hd, decs_small h]
  have e : hexD (m % 10) = UInt8.ofNat (48 + m) := by unfold hexD; rw [if_pos (by omega), Nat.mod_eq_of_lt h]
  rw [e]; rfl

theorem arr20 : Try.prog.arrayLen 110 = 20 := by kernel_rfl
theorem add_at (b o j : Nat) : (⟨b, o, none⟩ : Addr).add j = ⟨b, o + j, none⟩ := by unfold Addr.add; split <;> simp_all
theorem slice20 (b k : Nat) (hk : k < 20) (wx : World) : (Instr.sliceAt 110 (.pointer (some ⟨b, 0, none⟩)) (some (.int .i64 k)) none none).run Try.prog wx = .ok (.slice (some ⟨b, k, none⟩) (20 - k) (20 - k)) wx := by
  rw [run_sliceAt_array_l wx 110 ⟨b, 0, none⟩ (by rw [arr20]; kernel_rfl) .i64 k (by omega) (by rw [arr20]; omega)]
  have hs : (sizeOf (Try.prog.elem 110)).run Try.prog wx = .ok 1 wx := by kernel_rfl
  rw [hs, arr20]
  simp only [Result.andThen, slicedAt, Int.toNat_natCast]
  rw [if_neg (by omega), add_at]
  simp
theorem conv20 (wx : World) (C : Array Value) (k : Nat) (l : List UInt8) (hk : l.length = 20 - k) (h : C.toList.drop k = l.map (fun b => Value.int .u8 b.toNat)) :
    (convert 28 9 (.slice (some ⟨wx.heap.size, k, none⟩) (20 - k) (20 - k))).run Try.prog (wx.alloc (.cells C 110)) = .ok (.string ⟨l.toArray⟩) (wx.alloc (.cells C 110)) := by
  rw [← hk]
  refine run_convert_bytes_back _ _ _ _ _ _ l Try.underlying28 Try.underlying5 Try.underlying9 fun j hj => ?_
  rw [add_at, World.cell?_alloc_mark]
  have h1 := congrArg (fun x => x[j]?) h
  simp only [List.getElem?_drop, List.getElem?_map, List.getElem?_eq_getElem hj, Option.map_some] at h1
  simpa using h1

theorem drop_set (C : Array Value) (k : Nat) (v : Value) (L : List Value) (hk : k < C.size) (h : C.toList.drop (k + 1) = L) : (C.setIfInBounds k v).toList.drop k = v :: L := by
  rw [Array.toList_setIfInBounds, ← h, List.drop_set]
  rw [if_neg (by omega), Nat.sub_self]
  rw [List.drop_eq_getElem_cons (by simpa using hk)]
  rfl

set_option maxRecDepth 100000 in
theorem print_any (u : Nat) (hu : u ≤ top) (w : World) :
    Calls Try.prog 67 #[.int .u64 u] w fun e w' => e = .returned (.string ⟨(decs u).toArray⟩) ∧ Below w.heap.size w w' := by
  have htop : (u : Int) ≤ 18446744073709551615 := by unfold top at hu; omega
  go_enter Try.func67, Try.ntmps67
  go_wp2_with fail
  refine wp_scope_goto 0 (fun n a' w' => ∃ (C : Array Value) (m i : Nat) (L : List UInt8), ∃ (u1 u5 u6 u7 u8 u9 u10 u11 u12 u13 u14 u15 u16 u17 u18 : Value), a' = { tmps := #[.int .u64 m, u1, .string ⟨#[]⟩, .pointer (some ⟨w.heap.size, 0, none⟩), .int .i64 i, u5, u6, u7, u8, u9, u10, u11, u12, u13, u14, u15, u16, u17, u18], defers := [] } ∧ w' = w.alloc (.cells C 110) ∧ m = n ∧ m ≤ u ∧ C.size = 20 ∧ i + L.length = 20 ∧ decs m ++ L = decs u ∧ C.toList.drop i = L.map (fun b => Value.int .u8 b.toNat)) rfl ?_ ?_
  · intro R hpass hout
    go_wp2
    go_step3
    go_step
    go_step
    exact hpass u _ _ ⟨_, u, 20, [], _, _, _, _, _, _, _, _, _, _, _, _, _, _, _, rfl, rfl, rfl, Nat.le_refl _, rfl, rfl, by simp, rfl⟩
  · intro n a' w' hrel J hJ
    obtain ⟨C, m, i, L, u1, u5, u6, u7, u8, u9, u10, u11, u12, u13, u14, u15, u16, u17, u18, rfl, rfl, hn, hmu, hC, hi, hd, hL⟩ := hrel
    subst hn
    have hix := fun h => hexdigit_at (m % 10) (by omega) h
    have hlen : 0 < (decs m).length ∧ (decs m).length + L.length ≤ 20 := by
      have := congrArg List.length hd
      rw [List.length_append] at this
      have h2 := decs_top u hu
      have h3 : 0 < (decs m).length := List.length_pos_iff.mpr (decs_ne m)
      omega
    obtain ⟨k, rfl⟩ : ∃ k, i = k + 1 := ⟨i - 1, by omega⟩
    have hk : k < 20 := by omega
    have HL : Hid (L.length + (k + 1) = 20) := Lib.hid (by omega)
    have H : Hid ((C.setIfInBounds k (.int .u8 (hexD (m % 10)).toNat)).toList.drop k = (hexD (m % 10) :: L).map (fun b => Value.int .u8 b.toNat)) := Lib.hid (drop_set C k _ _ (by omega) hL)
    have HD := Lib.hid hd
    have HC := Lib.hid hC
    have hcell : (w.alloc (.cells C 110)).cell? ⟨w.heap.size, k, none⟩ = some (C.getD k undef) := by
      rw [World.cell?_alloc_mark]; rw [Array.getElem?_eq_getElem (by omega)]; simp [Array.getD, show k < C.size by omega]
    clear hL hd hi hC hlen
    have hsl := slice20 w.heap.size k hk
    have hcv := conv20 w _ k _ (by have := HL.out; simp; omega) H.out
    by_cases h10 : 0 < (m : Int) / 10
    · go_wp2_with fail
      go_step3
      go_step
      refine jump_back (hJ (m / 10) _ _ (by omega) ⟨C.setIfInBounds k (.int .u8 (hexD (m % 10)).toNat), m / 10, k, hexD (m % 10) :: L, _, _, _, _, _, _, _, _, _, _, _, _, _, _, _, rfl, rfl, rfl, by omega, ?_, ?_, decs_step m u L (by omega) HD.out, H.out⟩)
      · rw [Array.size_setIfInBounds]; exact HC.out
      · have := HL.out; simp; omega
    · go_wp2_with fail
      refine jump_ret ?_
      go_ret
      exact ⟨ret_str (by rw [decs_last m u L (by omega) HD.out]), (Below.refl _ _).alloc (Nat.le_refl _) _⟩
end Go.Proofs.Ytjbmcjppaadkgaa

namespace Go.Proofs.Ytjbmcjppaadkgaa
set_option linter.unusedVariables false
set_option linter.unusedSimpArgs false
set_option maxRecDepth 100000
open Go.RowKit
attribute [local go_sem ↓] Go.wp_at_zero Go.wp_at_succ

/-- A slice that reads as the bytes l. -/
def Bytes (w : World) (v : Value) (l : List UInt8) : Prop :=
  ∃ a cap, v = .slice a l.length cap ∧ (l = [] ∨ ∃ b off, a = some ⟨b, off, none⟩ ∧ ∀ i, i < l.length → w.cell? ⟨b, off + i, none⟩ = some (.int .u8 (l.getD i 0).toNat))

theorem Bytes.below {w w' : World} {v : Value} {l : List UInt8} (h : Bytes w v l) (hb : Below w.heap.size w w') : Bytes w' v l := by
  obtain ⟨a, cap, hv, h⟩ := h
  refine ⟨a, cap, hv, ?_⟩
  rcases h with h | ⟨b, off, ha, hc⟩
  · exact .inl h
  · exact .inr ⟨b, off, ha, fun i hi => (hb.cell (p := ⟨b, off + i, none⟩) (World.block_lt_of_cell? w _ (hc i hi))).trans (hc i hi)⟩

theorem Try.info5 : (Try.prog.info? 5).map (fun i => (i.zero, i.size, i.bytes)) = some (some (.int .u8 0), 1, 1) := by kernel_rfl

def cellsOf (l : List UInt8) : List Value := l.map fun b => Value.int .u8 b.toNat

theorem hex_round (u : UInt8) : u.toNat / 16 < 16 ∧ u.toNat % 16 < 16 := by have := UInt8.toNat_lt u; omega

theorem and15 (u : UInt8) : bits BinOp.and IntKind.u8 (u.toNat : Int) 15 = (u.toNat : Int) % 16 := by
  have key : ∀ i : Fin 256, bits BinOp.and IntKind.u8 (i.val : Int) 15 = (i.val : Int) % 16 := by decide +kernel
  exact key ⟨u.toNat, UInt8.toNat_lt u⟩

theorem hexdigit_int (i : Int) (j : Nat) (hj : j < 16) (e : i = j) (h : i.toNat < (⟨#[48, 49, 50, 51, 52, 53, 54, 55, 56, 57, 97, 98, 99, 100, 101, 102]⟩ : ByteArray).size) : ((⟨#[48, 49, 50, 51, 52, 53, 54, 55, 56, 57, 97, 98, 99, 100, 101, 102]⟩ : ByteArray)[i.toNat]'h).toNat = (hexD j).toNat := by
  subst e
  exact hexdigit_at j hj h

theorem hex_rel {l : List UInt8} {k : Nat} {u : UInt8} {w wr w1 : World} {o : Obj} {v v' : Value} {n : Nat} (hlt : k < l.length) (hu : u = l.getD k 0) (hB : Below w.heap.size w wr)
    (ho : ∀ g, v.ownBlock = some g → w.heap.size ≤ g)
    (h : w1.ownsRow w.heap.size 5 1 v' n (cellsOf (hexOf (l.take k)) ++ cellsOf (hexB u))) (hg : (wr.alloc o).drew.grownBy w1 v.ownBlock) :
    w1.ownsRow w.heap.size 5 1 v' n (cellsOf (hexOf (l.take (k + 1)))) ∧ Below w.heap.size w w1 := by
  refine ⟨?_, ((hB.alloc hB.size o).drew).grown hg (by have := hB.size; show w.heap.size ≤ (wr.alloc o).heap.size; simp; omega) (fun g hg => ho g hg)⟩
  have e : cellsOf (hexOf (l.take (k + 1))) = cellsOf (hexOf (l.take k)) ++ cellsOf (hexB u) := by
    rw [List.take_succ_eq_append_getElem hlt, hexOf_snoc, hu]
    simp [cellsOf, List.getD, List.getElem?_eq_getElem hlt]
  rw [e]; exact h

/-- What an owned row of bytes is as a text. -/
theorem hex_end {w : World} {base : Nat} {v : Value} {L : List UInt8} (h : w.ownsRow base 5 1 v L.length (cellsOf L)) :
    (v = .slice none 0 0 ∧ L = []) ∨ ∃ g cap, v = .slice (some ⟨g, 0, none⟩) L.length cap ∧ (convert 28 9 (.slice (some ⟨g, 0, none⟩) L.length cap)).run Try.prog w = .ok (.string ⟨L.toArray⟩) w := by
  rcases h.2 with ⟨hv, hn⟩ | ⟨g, cap, cur, hv, _⟩
  · exact .inl ⟨hv, List.length_eq_zero_iff.mp hn⟩
  · refine .inr ⟨g, cap, hv, ?_⟩
    refine run_convert_bytes_back _ _ _ _ _ _ L Try.underlying28 Try.underlying5 Try.underlying9 fun j hj => ?_
    refine h.cells (g := g) (by rw [hv]; rfl) j _ ?_
    simp [cellsOf, List.getElem?_eq_getElem hj]

theorem hex_any (v : Value) (l : List UInt8) (w : World) (hv : Bytes w v l) (hlen : l.length ≤ 1000000) :
    Calls Try.prog 68 #[v] w fun e w' => e = .returned (.string ⟨(hexOf l).toArray⟩) ∧ Below w.heap.size w w' := by
  obtain ⟨a, cap, rfl, hv⟩ := hv
  obtain ⟨i0, hi0, hz0, hz1, hz2⟩ := info_parts Try.info5
  go_enter Try.func68, Try.ntmps68
  go_wp2_with fail
  refine wp_scope_goto 0 (fun n a' w' => ∃ (v : Value) (k : Nat), ∃ (u1 u5 u6 u7 u8 u9 u10 u11 u12 u13 u14 u15 u16 u17 u18 u19 u20 u21 u22 u23 u24 u25 u26 u27 : Value), a' = { tmps := #[.slice a l.length cap, u1, .string ⟨#[]⟩, v, .int .i64 k, u5, u6, u7, u8, u9, u10, u11, u12, u13, u14, u15, u16, u17, u18, u19, u20, u21, u22, u23, u24, u25, u26, u27], defers := [] } ∧ k ≤ l.length ∧ n = l.length - k ∧ w'.ownsRow w.heap.size 5 1 v (2 * k) (cellsOf (hexOf (l.take k))) ∧ Below w.heap.size w w') rfl ?_ ?_
  · intro R hpass hout
    go_wp2
    go_step3
    go_step
    go_step
    exact hpass _ _ _ ⟨_, 0, _, _, _, _, _, _, _, _, _, _, _, _, _, _, _, _, _, _, _, _, _, _, _, _, rfl, by omega, rfl, World.ownsRow_nil _ _ _ _, Below.refl _ _⟩
  · intro n a' wr hrel J hJ
    obtain ⟨v, k, u1, u5, u6, u7, u8, u9, u10, u11, u12, u13, u14, u15, u16, u17, u18, u19, u20, u21, u22, u23, u24, u25, u26, u27, rfl, hk, rfl, hown, hbel⟩ := hrel
    by_cases hlt : k < l.length
    · obtain ⟨b, off, rfl, hc⟩ : ∃ b off, a = some ⟨b, off, none⟩ ∧ ∀ i, i < l.length → w.cell? ⟨b, off + i, none⟩ = some (.int .u8 (l.getD i 0).toNat) := by
        rcases hv with rfl | h
        · exact absurd hlt (by simp)
        · exact h
      obtain ⟨u, hu⟩ : ∃ u, u = l.getD k 0 := ⟨_, rfl⟩
      have hbw : wr.heap.size ≥ w.heap.size := hbel.size
      have HF : Hid (some b ≠ v.ownBlock) := Lib.hid (fun h => by have := (hown.lt b h.symm).1; have := World.block_lt_of_cell? w _ (hc k hlt); simp at this; omega)
      have hbl := World.block_lt_of_cell? w _ (hc k hlt)
      have hcell : wr.cell? ⟨b, off + k, none⟩ = some (.int .u8 u.toNat) := by rw [hu]; exact (hbel.cell (p := ⟨b, off + k, none⟩) hbl).trans (hc k hlt)
      have HU := Lib.hid hu
      have HO := Lib.hid hown
      have HB := Lib.hid hbel
      clear hu hown hbel hc hv
      have hk0 : (0 : Int) ≤ (k : Int) := Int.natCast_nonneg _
      have hk1 : (k : Int) < (l.length : Int) := by omega
      have hub := UInt8.toNat_lt u
      have hx1 : (0 : Int) ≤ (u.toNat : Int) / 16 := by omega
      have hx2 : (u.toNat : Int) / 16 < 16 := by omega
      have hx3 : (0 : Int) ≤ (u.toNat : Int) % 16 := by omega
      have hx4 : (u.toNat : Int) % 16 < 16 := by omega
      have hand := and15 u
      have hiA : ∀ h, ((⟨#[48, 49, 50, 51, 52, 53, 54, 55, 56, 57, 97, 98, 99, 100, 101, 102]⟩ : ByteArray)[((u.toNat : Int) / 16).toNat]'h).toNat = (hexD (u.toNat / 16)).toNat := fun h => hexdigit_int _ _ (by omega) (by omega) h
      have hiB : ∀ h, ((⟨#[48, 49, 50, 51, 52, 53, 54, 55, 56, 57, 97, 98, 99, 100, 101, 102]⟩ : ByteArray)[((u.toNat : Int) % 16).toNat]'h).toNat = (hexD (u.toNat % 16)).toNat := fun h => hexdigit_int _ _ (by omega) (by omega) h
      go_wp2_with fail
      go_region_held3 (fun w' => w'.cell? ⟨b, off + k, none⟩ = some (.int .u8 u.toNat)) (first | go_keep | (rw [hgrow.cell_far ⟨b, off + k, none⟩ (by simp; omega) HF.out]; go_keep))
        ((refine step_append_lies _ (by rfl) _ _ _ (by rfl) w.heap.size 5 i0 _ 1 1 Try.underlying28 hi0 hz0 hz1 hz2 rfl (by omega) v (2 * k) _ (by rfl) ((HO.out.alloc _).drew) ⟨wr.heap.size, 0, none⟩ 2 2 (cellsOf (hexB u)) (by rfl) (by rfl) (World.news_of_block (cs := #[.int .u8 (hexD (u.toNat / 16)).toNat, .int .u8 (hexD (u.toNat % 16)).toNat]) (t := 5) (fr := (0, 0)) (heap_alloc_new wr _)) (by simp [cellsOf, hexB, Value.oneCell']) (by omega) (by unfold maxLen; omega) (by omega) (by have := HB.out.size; simp; omega) (wr.heap.size + 1) (by simp) ?_; intro gg cp w1 hown1 hgrow hat hlt1))
      all_goals
        have R := hex_rel hlt HU.out HB.out (fun g hg => (HO.out.lt g hg).1) hown1 hgrow
        clear hown1 hgrow
        go_wp2_with fail
        first | go_step3 | skip
        exact jump_back (hJ (l.length - (k + 1)) _ _ (by omega) ⟨_, k + 1, _, _, _, _, _, _, _, _, _, _, _, _, _, _, _, _, _, _, _, _, _, _, _, _, rfl, by omega, rfl, R.1, R.2⟩)
    · have HB := Lib.hid hbel
      have hkl : k = l.length := by omega
      have hend := hex_end (w := wr) (base := w.heap.size) (v := v) (L := hexOf l) (by rw [hkl, List.take_length] at hown; rw [hexOf_length]; exact hown)
      clear hown hbel
      rcases hend with ⟨rfl, hn⟩ | ⟨g, cp, rfl, hcv⟩
      · have hcv := run_convert_bytes_nil (P := Try.prog) wr 28 5 Try.underlying28 Try.underlying5 0 0 9 Try.underlying9
        have HN := Lib.hid hn
        clear hn hkl
        go_wp2_with fail
        refine jump_ret ?_
        go_ret
        exact ⟨ret_str (by rw [HN.out]; rfl), HB.out⟩
      · clear hkl
        go_wp2_with fail
        refine jump_ret ?_
        go_ret
        exact ⟨rfl, HB.out⟩
end Go.Proofs.Ytjbmcjppaadkgaa

namespace Go.Proofs.Ytjbmcjppaadkgaa
set_option linter.unusedVariables false
set_option linter.unusedSimpArgs false
set_option maxRecDepth 100000
open Go.RowKit
attribute [local go_sem ↓] Go.wp_at_zero Go.wp_at_succ

theorem conv2 (wx : World) (x y : Int) : (convert 28 9 (.slice (some ⟨wx.heap.size, 0, none⟩) 2 2)).run Try.prog (wx.alloc (.cells #[.int .u8 x, .int .u8 y] 5)).drew = .ok (.string (strOfNums [x, y])) (wx.alloc (.cells #[.int .u8 x, .int .u8 y] 5)).drew :=
  run_convert_bytes_arg _ _ _ Try.underlying28 Try.underlying5 _ _ _ _ [x, y] rfl (fun i hi => by
    have hi1 : i < 2 := hi
    show (wx.alloc (.cells #[.int .u8 x, .int .u8 y] 5)).cell? _ = _
    rw [Nat.zero_add, World.cell?_alloc_mark]
    match i, hi1 with
    | 0, _ => rfl
    | 1, _ => rfl) _ Try.underlying9

theorem rhex_rel {l : List UInt8} {k : Nat} {u : UInt8} {s : ByteArray} (hlt : k < l.length) (hu : u = l.getD k 0) (hs : s.data.toList = hexOf (l.take k)) :
    (s ++ strOfNums [hexI ((u.toNat : Int) / 16), hexI ((u.toNat : Int) % 16)]).data.toList = hexOf (l.take (k + 1)) := by
  rw [List.take_succ_eq_append_getElem hlt, hexOf_snoc, ByteArray.data_append, Array.toList_append, hs, strOfNums_data]
  have hb := UInt8.toNat_lt u
  have e : l[k] = u := by rw [hu]; simp [List.getD, List.getElem?_eq_getElem hlt]
  rw [e]
  have h1 := hexI_hexD (u.toNat / 16) (by omega)
  have h2 := hexI_hexD (u.toNat % 16) (by omega)
  simp only [List.map_cons, List.map_nil, hexB]
  rw [show (u.toNat : Int) / 16 = ((u.toNat / 16 : Nat) : Int) by omega, show (u.toNat : Int) % 16 = ((u.toNat % 16 : Nat) : Int) by omega, h1, h2]
  simp

theorem wrap_q (u : UInt8) : IntKind.u8.wrap ((u.toNat : Int) / 16) = (u.toNat : Int) / 16 := by
  have := UInt8.toNat_lt u
  simp [IntKind.wrap, IntKind.bits, IntKind.signed]; omega
theorem wrap_r (u : UInt8) : IntKind.u8.wrap ((u.toNat : Int) % 16) = (u.toNat : Int) % 16 := by
  simp [IntKind.wrap, IntKind.bits, IntKind.signed]; omega
theorem tmod_q (u : UInt8) : (u.toNat : Int).tmod 16 = (u.toNat : Int) % 16 := Int.tmod_eq_emod_of_nonneg (by omega)

theorem rhex_any (v : Value) (l : List UInt8) (w : World) (hv : Bytes w v l) (hlen : l.length ≤ 1000000) :
    Calls Try.prog 60 #[v] w fun e w' => e = .returned (.string ⟨(hexOf l).toArray⟩) ∧ Below w.heap.size w w' := by
  obtain ⟨a, cap, rfl, hv⟩ := hv
  go_enter Try.func60, Try.ntmps60
  go_wp2_with fail
  go_loopw [3, 4] (fun t i wr => ∃ (s : ByteArray) (k : Nat), t = .string s ∧ i = .int .i64 k ∧ k ≤ l.length ∧ Below w.heap.size w wr ∧ s.data.toList = hexOf (l.take k)) (fun _ i _ => l.length - (intOf i).toNat)
  case atStart => exact ⟨_, 0, rfl, rfl, Nat.zero_le _, Below.refl _ _, rfl⟩
  case round =>
    obtain ⟨s, k, rfl, rfl, hk, hbel, hs⟩ := hrel
    by_cases hlt : k < l.length
    · obtain ⟨b, off, rfl, hc⟩ : ∃ b off, a = some ⟨b, off, none⟩ ∧ ∀ i, i < l.length → w.cell? ⟨b, off + i, none⟩ = some (.int .u8 (l.getD i 0).toNat) := by
        rcases hv with rfl | h
        · exact absurd hlt (by simp)
        · exact h
      obtain ⟨u, hu⟩ : ∃ u, u = l.getD k 0 := ⟨_, rfl⟩
      have hbl := World.block_lt_of_cell? w _ (hc k hlt)
      have hcell : wr.cell? ⟨b, off + k, none⟩ = some (.int .u8 u.toNat) := by rw [hu]; exact (hbel.cell (p := ⟨b, off + k, none⟩) hbl).trans (hc k hlt)
      have hsz : s.size ≤ 2 * k := by
        have := congrArg List.length hs
        rw [hexOf_length, List.length_take] at this
        simp only [Array.length_toList, ByteArray.size_data] at this; omega
      have HU := Lib.hid hu
      have HS := Lib.hid hs
      have HB := Lib.hid hbel
      clear hu hbel hc hv hs
      have hk0 : (0 : Int) ≤ (k : Int) := Int.natCast_nonneg _
      have hk1 : (k : Int) < (l.length : Int) := by omega
      have hub := UInt8.toNat_lt u
      have hx1 : (0 : Int) ≤ (u.toNat : Int) / 16 := by omega
      have hx2 : (u.toNat : Int) / 16 < 16 := by omega
      have hx3 : (0 : Int) ≤ (u.toNat : Int) % 16 := by omega
      have hx4 : (u.toNat : Int) % 16 < 16 := by omega
      have hc2 := conv2 wr
      have HDg : Hid (_ ∧ _) := Lib.hid ⟨digit_any ((u.toNat : Int) / 16) (by omega) (by omega), digit_any ((u.toNat : Int) % 16) (by omega) (by omega)⟩
      have hn : ¬ 9223372036854775807 < s.size + (strOfNums [hexI ((u.toNat : Int) / 16), hexI ((u.toNat : Int) % 16)]).size := by rw [strOfNums_size]; simp; omega
      have hw1 := wrap_q u
      have hw2 := tmod_q u
      have hw3 := wrap_r u
      go_wp2_with fail
      refine wp_region_noPanic ?_
      go_region_held (fun w' => w'.cell? ⟨b, off + k, none⟩ = some (.int .u8 u.toNat)) (go_keep)
        (first | (go_at_call 73; first | ((with_reducible refine (HDg.out.1 _).mono ?_); rintro e w' ⟨rfl, rfl⟩) | ((with_reducible refine (HDg.out.2 _).mono ?_); rintro e w' ⟨rfl, rfl⟩)))
      all_goals
        refine NoPanic.normal ?_
        go_wp2_with fail
        go_roundw
        case rel => exact ⟨_, k + 1, rfl, by go_num, by omega, (HB.out.alloc HB.out.size _).drew, rhex_rel hlt HU.out HS.out⟩
        case measure => simp [intOf]; omega
    · have HB := Lib.hid hbel
      have HS : Hid (s = ⟨(hexOf l).toArray⟩) := Lib.hid (by
        rw [show k = l.length by omega, List.take_length] at hs
        obtain ⟨⟨d⟩⟩ := s
        have : d = hexOf l := hs
        rw [this])
      clear hs hbel
      go_wp2_with fail
      go_ret
      exact ⟨ret_str HS.out, HB.out⟩
end Go.Proofs.Ytjbmcjppaadkgaa

namespace Go.Proofs.Ytjbmcjppaadkgaa
set_option linter.unusedVariables false
set_option linter.unusedSimpArgs false
set_option maxRecDepth 100000
open Go.RowKit
attribute [local go_sem ↓] Go.wp_at_zero Go.wp_at_succ

def HexRet (w : World) (l : List UInt8) (e : Ending) (w' : World) : Prop :=
  ∃ v, e = .returned (.tuple #[v, .int .i64 (hxCode l)]) ∧ Bytes w' v (hxBytes l) ∧ Below w.heap.size w w'

theorem bytes_nil (w : World) : Bytes w (.slice none 0 0) [] := ⟨none, 0, rfl, .inl rfl⟩

theorem bytes_own {w : World} {base : Nat} {v : Value} {n : Nat} {L : List UInt8} (h : w.ownsRow base 5 1 v n (cellsOf L)) : Bytes w v L := by
  have hl : n = L.length := by have := h.1; simp [cellsOf] at this; omega
  rcases h.2 with ⟨hv, hn⟩ | ⟨g, cap, cur, hv, _⟩
  · obtain rfl : L = [] := List.length_eq_zero_iff.mp (by omega)
    exact ⟨none, 0, hv, .inl rfl⟩
  · refine ⟨some ⟨g, 0, none⟩, cap, by rw [hv, hl], .inr ⟨g, 0, rfl, fun i hi => ?_⟩⟩
    have := h.cells (g := g) (by rw [hv]; rfl) i (Value.int .u8 (L.getD i 0).toNat) (by simp [cellsOf, List.getElem?_eq_getElem hi, List.getD])
    rw [add_at] at this
    exact this

theorem unhex_len : ∀ n (l : List UInt8), l.length = 2 * n → (unhex l).length = n := by
  intro n
  induction n with
  | zero => intro l h; have : l = [] := by simpa using h
            subst this; rfl
  | succ n ih =>
    intro l h
    match l, h with
    | a :: b :: l, h => simp only [unhex, List.length_cons]; rw [ih l (by simp at h; omega)]

theorem take_two (s : ByteArray) (k : Nat) (h : k + 1 < s.size) : s.data.toList.take (k + 2) = s.data.toList.take k ++ [s[k], s[k + 1]] := by
  rw [show k + 2 = k + 1 + 1 by omega, take_snoc s (k + 1) h, take_snoc s k (by omega)]; simp
theorem unhex_next (s : ByteArray) (k : Nat) (c d : UInt8) (h : k + 1 < s.size) (he : k % 2 = 0) (hc : s[k] = c) (hd : s[k + 1] = d) : unhex (s.data.toList.take (k + 2)) = unhex (s.data.toList.take k) ++ [two c d] := by
  rw [take_two s k h, hc, hd]
  exact unhex_snoc2 (k / 2) _ _ _ (by rw [List.length_take]; have : s.data.toList.length = s.size := by simp
                                      omega)

theorem or16 (a b : Int) (ha : 0 ≤ a) (ha2 : a < 16) (hb : 0 ≤ b) (hb2 : b < 16) : bits BinOp.or IntKind.u64 (a * 16) b = a * 16 + b := by
  have key : ∀ i j : Fin 16, bits BinOp.or IntKind.u64 ((i.val : Int) * 16) (j.val : Int) = (i.val : Int) * 16 + j.val := by decide +kernel
  have := key ⟨a.toNat, by omega⟩ ⟨b.toNat, by omega⟩
  rw [show ((⟨a.toNat, by omega⟩ : Fin 16).val : Int) = a by simp; omega, show ((⟨b.toNat, by omega⟩ : Fin 16).val : Int) = b by simp; omega] at this
  exact this
theorem wrap_u64 (a : Int) (h0 : 0 ≤ a) (h : a < 18446744073709551616) : IntKind.u64.wrap a = a := by
  simp only [IntKind.wrap, IntKind.bits, IntKind.signed]; simp; omega
theorem wrap_u8 (a : Int) (h0 : 0 ≤ a) (h : a < 256) : IntKind.u8.wrap a = a := by
  simp only [IntKind.wrap, IntKind.bits, IntKind.signed]; simp; omega
theorem wrap_i64 (a : Int) (h0 : 0 ≤ a) (h : a < 9223372036854775808) : IntKind.i64.wrap a = a := by
  simp only [IntKind.wrap, IntKind.bits, IntKind.signed]; simp; omega
theorem wrap_i32 (a : Int) (h0 : 0 ≤ a) (h : a < 2147483648) : IntKind.i32.wrap a = a := by
  simp only [IntKind.wrap, IntKind.bits, IntKind.signed]; simp; omega

theorem two_val (c d : UInt8) (hc : val c.toNat < 16) (hd : val d.toNat < 16) : ((two c d).toNat : Int) = val c.toNat * 16 + val d.toNat := by
  have b1 := val_bd c.toNat
  have b2 := val_bd d.toNat
  unfold two
  rw [toNat_ofNat (by omega)]; omega

theorem readhex_rel {L L2 : List UInt8} {b : UInt8} {x : Int} {w wr w1 : World} {o : Obj} {v v' : Value} {n : Nat} (hn : L2 = L ++ [b]) (hb : (b.toNat : Int) = x) (hB : Below w.heap.size w wr)
    (ho : ∀ g, v.ownBlock = some g → w.heap.size ≤ g)
    (h : w1.ownsRow w.heap.size 5 1 v' n (cellsOf L ++ [.int .u8 x])) (hg : (wr.alloc o).drew.grownBy w1 v.ownBlock) :
    w1.ownsRow w.heap.size 5 1 v' n (cellsOf L2) ∧ Below w.heap.size w w1 := by
  refine ⟨?_, ((hB.alloc hB.size o).drew).grown hg (by have := hB.size; show w.heap.size ≤ (wr.alloc o).heap.size; simp; omega) (fun g hg => ho g hg)⟩
  have e : cellsOf L2 = cellsOf L ++ [.int .u8 x] := by rw [hn, ← hb]; simp [cellsOf]
  rw [e]; exact h

end Go.Proofs.Ytjbmcjppaadkgaa

namespace Go.Proofs.Ytjbmcjppaadkgaa
set_option linter.unusedVariables false
set_option linter.unusedSimpArgs false
set_option maxRecDepth 100000
open Go.RowKit
attribute [local go_sem ↓] Go.wp_at_zero Go.wp_at_succ

theorem digs16_next (s : ByteArray) (k : Nat) (h : k < s.size) (hd : digs (s.data.toList.take k) 16 = true) (h1 : val (s[k]).toNat < 16) : digs (s.data.toList.take (k + 1)) 16 = true := by
  rw [take_snoc s k h, digs_snoc, hd, Bool.true_and, decide_eq_true_eq]; exact h1

theorem rreadhex_any (s : ByteArray) (hs : s.size ≤ 1000000) (w : World) :
    Calls Try.prog 74 #[.string s] w (HexRet w s.data.toList) := by
  obtain ⟨i0, hi0, hz0, hz1, hz2⟩ := info_parts Try.info5
  have hlen : s.data.toList.length = s.size := by simp
  have HL := Lib.hid hlen
  clear hlen
  go_enter Try.func74, Try.ntmps74
  go_wp2_with fail
  go_loop [4] (fun i => ∃ k : Nat, i = .int .i64 k ∧ k ≤ s.size ∧ digs (s.data.toList.take k) 16 = true) (fun i => s.size - (intOf i).toNat)
  case atStart => exact ⟨0, rfl, by omega, rfl⟩
  case round =>
    obtain ⟨k, rfl, hk, hd⟩ := hrel
    have HD := Lib.hid hd
    clear hd
    by_cases hlt : k < s.size
    · have hb : (s[k]).toNat < 256 := UInt8.toNat_lt _
      have hv := val_bd (s[k]).toNat
      by_cases hx : val (s[k]).toNat = 16
      · have HX := Lib.hid hx
        have HC : Hid (hxCode s.data.toList = 3 ∧ hxBytes s.data.toList = []) := Lib.hid (by
          have := digs_no (mem_of s k hlt) (show 16 ≤ val (s[k]).toNat by omega)
          simp [hxCode, hxBytes, this])
        have hxb : (val (s[k]).toNat == 16) = true := by simpa using hx
        clear hx
        go_wp2_with (go_at_call 83; (with_reducible refine (rvalue_any _ (by omega) (by omega) _).mono ?_); rintro e w' ⟨rfl, rfl⟩)
        go_ret2
        exact ⟨_, by rw [HC.out.1]; rfl, by rw [HC.out.2]; exact bytes_nil _, Below.refl _ _⟩
      · have HN := Lib.hid (digs16_next s k hlt HD.out (by omega))
        have hxb : (val (s[k]).toNat == 16) = false := beqf hx
        clear hx
        go_wp2_with (go_at_call 83; (with_reducible refine (rvalue_any _ (by omega) (by omega) _).mono ?_); rintro e w' ⟨rfl, rfl⟩)
        go_round
        case rel => exact ⟨k + 1, by go_num, by omega, HN.out⟩
        case measure => simp [intOf]; omega
    · have hd := HD.out
      rw [take_all s k (by omega)] at hd
      by_cases h2 : s.size % 2 = 1
      · have HC : Hid (hxCode s.data.toList = 4 ∧ hxBytes s.data.toList = []) := Lib.hid (by simp [hxCode, hxBytes, hd, HL.out, h2])
        have hr : (s.size : Int) % 2 = 1 := by omega
        clear hd
        go_wp2_with fail
        go_ret2
        exact ⟨_, by rw [HC.out.1]; rfl, by rw [HC.out.2]; exact bytes_nil _, Below.refl _ _⟩
      · have HD2 := Lib.hid hd
        have hr : ((s.size : Int) % 2 == 1) = false := beqf (by omega)
        clear hd
        go_wp2_with fail
        go_loopw [5, 6] (fun v i wr => ∃ m : Nat, i = .int .i64 m ∧ m ≤ s.size ∧ m % 2 = 0 ∧ wr.ownsRow w.heap.size 5 1 v (m / 2) (cellsOf (unhex (s.data.toList.take m))) ∧ Below w.heap.size w wr) (fun _ i _ => s.size - (intOf i).toNat)
        case atStart => exact ⟨0, rfl, by omega, rfl, World.ownsRow_made w #[] 0 (Nat.le_refl _) (by decide) rfl, (Below.refl _ _).alloc (Nat.le_refl _) _⟩
        case round =>
          obtain ⟨m, rfl, hm, hme, hown, hbel⟩ := hrel
          have HE := Lib.hid hme
          have HO := Lib.hid hown
          have HB := Lib.hid hbel
          have hbw : wr.heap.size ≥ w.heap.size := hbel.size
          by_cases hlm : m < s.size
          · have hm1 : m + 1 < s.size := by omega
            obtain ⟨c, hc⟩ : ∃ c, s[m] = c := ⟨_, rfl⟩
            obtain ⟨d, hdd⟩ : ∃ d, s[m + 1] = d := ⟨_, rfl⟩
            have hcb : c.toNat < 256 := UInt8.toNat_lt _
            have hdb : d.toNat < 256 := UInt8.toNat_lt _
            have hv1 := val_bd c.toNat
            have hv2 := val_bd d.toNat
            have hv3 : val c.toNat < 16 := digs_mem HD2.out (by rw [← hc]; exact mem_of s m hlm)
            have hv4 : val d.toNat < 16 := digs_mem HD2.out (by rw [← hdd]; exact mem_of s (m + 1) hm1)
            have HN := Lib.hid (unhex_next s m c d hm1 hme hc hdd)
            have HT := Lib.hid (two_val c d hv3 hv4)
            have HCs : Hid (_ ∧ _) := Lib.hid ⟨rvalue_any c.toNat (by omega) (by omega), rvalue_any d.toNat (by omega) (by omega)⟩
            clear hown hbel hme
            have hk0 : (0 : Int) ≤ (m : Int) := Int.natCast_nonneg _
            have hk1 : (m : Int) < (s.size : Int) := by omega
            have hk2 : (0 : Int) ≤ (m : Int) + 1 := by omega
            have hk3 : (m : Int) + 1 < (s.size : Int) := by omega
            have hw1 := wrap_i64 ((m : Int) + 1) (by omega) (by omega)
            have hw4 := wrap_u8 (16 * val c.toNat) (by omega) (by omega)
            have hw6 := wrap_u8 (16 * val c.toNat + val d.toNat) (by omega) (by omega)
            have ht1 : ∀ h, s[((m : Int) + 1).toNat]'h = d := fun h => by simp only [show ((m : Int) + 1).toNat = m + 1 by omega]; exact hdd
            go_wp2_with fail
            go_region_held3 (fun _ => True) (trivial)
              (first | (go_at_call 83; first | ((with_reducible refine (HCs.out.1 _).mono ?_); rintro e w' ⟨rfl, rfl⟩) | ((with_reducible refine (HCs.out.2 _).mono ?_); rintro e w' ⟨rfl, rfl⟩)) | (refine step_append_lies _ (by rfl) _ _ _ (by rfl) w.heap.size 5 i0 _ 1 1 Try.underlying28 hi0 hz0 hz1 hz2 rfl (by omega) u5 (m / 2) _ (by rfl) ((HO.out.alloc _).drew) ⟨wr.heap.size, 0, none⟩ 1 1 [.int .u8 (16 * val c.toNat + val d.toNat)] (by rfl) (by rfl) (World.news_of_block (cs := #[.int .u8 (16 * val c.toNat + val d.toNat)]) (t := 5) (fr := (0, 0)) (heap_alloc_new wr _)) (by simp [Value.oneCell']) (by omega) (by unfold maxLen; omega) (by omega) (by have := HB.out.size; simp; omega) (wr.heap.size + 1) (by simp) ?_; intro gg cp w1 hown1 hgrow hat hlt2))
            all_goals
              have R := readhex_rel HN.out (by rw [HT.out, Int.mul_comm]) HB.out (fun g hg => (HO.out.lt g hg).1) hown1 hgrow
              clear hown1 hgrow
              go_wp2_with fail
              go_roundw
              case rel => exact ⟨m + 2, by go_num, by omega, by have := HE.out; omega, by rw [show (m + 2) / 2 = m / 2 + 1 by omega]; exact R.1, R.2⟩
              case measure => simp [intOf]; omega
          · have HV := Lib.hid (bytes_own (by rw [take_all s m (by omega)] at hown; exact hown))
            have HC : Hid (hxCode s.data.toList = 0 ∧ hxBytes s.data.toList = unhex s.data.toList) := Lib.hid (by have h1 := HL.out; have h2 := HD2.out; have h3 : s.size % 2 = 0 := (by omega); simp [hxCode, hxBytes, h1, h2, h3])
            clear hown hbel hme
            go_wp2_with fail
            go_ret2
            exact ⟨_, by rw [HC.out.1]; rfl, by rw [HC.out.2]; exact HV.out, HB.out⟩
end Go.Proofs.Ytjbmcjppaadkgaa

namespace Go.Proofs.Ytjbmcjppaadkgaa
set_option linter.unusedVariables false
set_option linter.unusedSimpArgs false
set_option maxRecDepth 100000
open Go.RowKit

theorem digs_take_one (s : ByteArray) (k : Nat) (h : k < s.size) (hd : digs (s.data.toList.take k) 10 = true) (h1 : 48 ≤ (s[k]).toNat) (h2 : (s[k]).toNat ≤ 57) : digs (s.data.toList.take (k + 1)) 10 = true := by
  rw [take_snoc s k h, digs_snoc, hd, Bool.true_and, decide_eq_true_eq, val_dec]; omega
theorem digs_bad (s : ByteArray) (k : Nat) (h : k < s.size) (hb : (s[k]).toNat < 48 ∨ 57 < (s[k]).toNat) : digs s.data.toList 10 = false := by
  refine digs_no (mem_of s k h) ?_
  have := val_dec (s[k]).toNat
  omega

theorem rread_any (s : ByteArray) (hs : s.size ≤ maxLen) (w : World) :
    Calls Try.prog 65 #[.string s] w fun e w' => e = .returned (.tuple #[.int .u64 (rdVal s.data.toList), .int .i64 (rdCode s.data.toList)]) ∧ w = w' := by
  unfold maxLen at hs
  by_cases h0 : s.size = 0
  · have HR := Lib.hid (rd_bad (form_size0 s h0))
    obtain rfl := size0 s h0
    go_enter Try.func65, Try.ntmps65
    go_wp2_with fail
    go_ret2
    exact ⟨ret_rd HR.out.1.symm HR.out.2.symm, rfl⟩
  · have hp : 0 < s.size := by omega
    have hb0 : (s[0]).toNat < 256 := UInt8.toNat_lt _
    by_cases hbad : 1 < s.size ∧ (s[0]).toNat = 48
    · obtain ⟨h1, h48⟩ := hbad
      have HR := Lib.hid (rd_bad (form_48 s h1 h48))
      go_enter Try.func65, Try.ntmps65
      go_wp2_with fail
      go_ret2
      exact ⟨ret_rd HR.out.1.symm HR.out.2.symm, rfl⟩
    · have hcase : s.size ≤ 1 ∨ (1 < s.size ∧ (s[0]).toNat ≠ 48) := by omega
      have hgood := Lib.hid (show s.size ≤ 1 ∨ (s[0]).toNat ≠ 48 by omega)
      clear hbad
      have h0f : ((s.size : Int) == 0) = false := beqf (by omega)
      have hcase : s.size ≤ 1 ∨ (1 < s.size ∧ (((s[0]).toNat : Int) == 48) = false) := hcase.imp id fun h => ⟨h.1, beqf (by omega)⟩
      rcases hcase with h48 | ⟨h1, h48⟩
      all_goals
        go_enter Try.func65, Try.ntmps65
        go_wp2_with fail
        go_loop [4] (fun i => ∃ k : Nat, k ≤ s.size ∧ i = .int .i64 k ∧ digs (s.data.toList.take k) 10 = true) (fun i => s.size - (intOf i).toNat)
        case atStart => exact ⟨0, by omega, rfl, rfl⟩
        case round =>
          obtain ⟨k, hk, rfl, hd⟩ := hrel
          have HD := Lib.hid hd
          clear hd
          by_cases hlt : k < s.size
          · have hb : (s[k]).toNat < 256 := UInt8.toNat_lt _
            by_cases hx : (s[k]).toNat < 48 ∨ 57 < (s[k]).toNat
            · have HR := Lib.hid (rd_bad (form_digs s (digs_bad s k hlt hx)))
              rcases hx with hx | hx
              all_goals
                go_wp2_with fail
                go_ret2
                exact ⟨ret_rd HR.out.1.symm HR.out.2.symm, rfl⟩
            · have hx1 : 48 ≤ (s[k]).toNat := by omega
              have hx2 : (s[k]).toNat ≤ 57 := by omega
              have HD2 := Lib.hid (digs_take_one s k hlt HD.out hx1 hx2)
              clear hx
              go_wp2_with fail
              go_round
              case rel => exact ⟨k + 1, by omega, by go_num, HD2.out⟩
              case measure => simp [intOf]; omega
          · have HF := Lib.hid (form_good s hp hgood.out (by have := HD.out; rw [take_all s k (by omega)] at this; exact this))
            go_wp2_with fail
            go_loop [5, 6] (fun v i => ∃ m u : Nat, m ≤ s.size ∧ i = .int .i64 m ∧ v = .int .u64 u ∧ u = numOf (s.data.toList.take m) ∧ u ≤ top) (fun _ i => s.size - (intOf i).toNat)
            case atStart => exact ⟨0, 0, by omega, rfl, rfl, rfl, by decide⟩
            case round =>
              obtain ⟨m, u, hm, rfl, rfl, hu, ht⟩ := hrel
              have HU := Lib.hid hu
              have hut : (u : Int) ≤ 18446744073709551615 := by unfold top at ht; omega
              clear hu ht
              by_cases hlm : m < s.size
              · obtain ⟨_, hve, hv48, hv57⟩ := val_of_form s m hlm HF.out
                have HV := Lib.hid hve
                clear hve
                have hb : (s[m]).toNat < 256 := UInt8.toNat_lt _
                by_cases hv : (18446744073709551615 - (((s[m]).toNat : Int) - 48)) / 10 < (u : Int)
                · have HR := Lib.hid (rd_long_at s m hlm HF.out (by rw [← HU.out, HV.out]; exact hv))
                  go_wp2_with fail
                  go_ret2
                  exact ⟨ret_rd HR.out.1.symm HR.out.2.symm, rfl⟩
                · have HN := Lib.hid (num_next s m hlm HF.out (by rw [← HU.out, HV.out]; omega))
                  go_wp2_with fail
                  go_round
                  case rel => exact ⟨m + 1, numOf (s.data.toList.take (m + 1)), by omega, by go_num, by have := HN.out.1; rw [← HU.out, HV.out] at this; rw [← this, Int.mul_comm], rfl, HN.out.2⟩
                  case measure => simp [intOf]; omega
              · have HR := Lib.hid (rd_fine (l := s.data.toList) HF.out (by have h1 := HU.out; rw [take_all s m (by omega)] at h1; unfold top; omega))
                have HE : Hid ((u : Int) = numOf s.data.toList) := by have h1 := HU.out; rw [take_all s m (by omega)] at h1; exact congrArg Int.ofNat h1
                go_wp2_with fail
                go_ret2
                exact ⟨ret_rd (HE.out.trans HR.out.1.symm) HR.out.2.symm, rfl⟩
end Go.Proofs.Ytjbmcjppaadkgaa

namespace Go.Proofs.Ytjbmcjppaadkgaa
set_option linter.unusedVariables false
set_option linter.unusedSimpArgs false
set_option maxRecDepth 100000
open Go.RowKit

theorem bytes_conv {w : World} {v : Value} {l : List UInt8} (h : Bytes w v l) : ∃ a cap, v = .slice a l.length cap ∧ (convert 28 9 (.slice a l.length cap)).run Try.prog w = .ok (.string ⟨l.toArray⟩) w := by
  obtain ⟨a, cap, hv, h⟩ := h
  refine ⟨a, cap, hv, ?_⟩
  rcases h with rfl | ⟨b, off, rfl, hc⟩
  · rw [run_convert_bytes_string w _ _ _ a _ cap Try.underlying28 Try.underlying5 Try.underlying9]
    cases a with
    | none => rfl
    | some a => exact run_bytesToString w a 0 cap [] (by rfl)
  · refine run_convert_bytes_back _ _ _ _ _ _ l Try.underlying28 Try.underlying5 Try.underlying9 fun j hj => ?_
    rw [add_at, hc j hj]
    simp [List.getD, List.getElem?_eq_getElem hj]

theorem Below.next {w a b : World} (h : Below w.heap.size w a) (k : Below a.heap.size a b) : Below w.heap.size w b := h.trans (k.mono h.size)
theorem below3 {w a b c : World} (h1 : Below w.heap.size w a) (h2 : Below a.heap.size a b) (h3 : Below b.heap.size b c) : Below w.heap.size w c := Below.next (Below.next h1 h2) h3
theorem below4 {w a b c d : World} (h1 : Below w.heap.size w a) (h2 : Below a.heap.size a b) (h3 : Below b.heap.size b c) (h4 : Below c.heap.size c d) : Below w.heap.size w d := Below.next (below3 h1 h2 h3) h4
theorem below5 {w a b c d e : World} (h1 : Below w.heap.size w a) (h2 : Below a.heap.size a b) (h3 : Below b.heap.size b c) (h4 : Below c.heap.size c d) (h5 : Below d.heap.size d e) : Below w.heap.size w e := Below.next (below4 h1 h2 h3 h4) h5

end Go.Proofs.Ytjbmcjppaadkgaa

namespace Go.Proofs.Ytjbmcjppaadkgaa
set_option linter.unusedVariables false
set_option linter.unusedSimpArgs false
section
variable {F : Fence} {m : Nat} {P : Program} {ops : Array Oper} {md : Region.Mode} {w : World}

/-- the fence lets everything by, and a plain contract is one inside it -/
structure OpenF (F : Fence) (P : Program) : Prop where
  fn : ∀ f, F.fn f
  depth : F.depth = none
  calls : ∀ n f args w R, Calls P f args w R → CallsIn F n P f args w R
theorem openF_wide (P : Program) : OpenF Fence.wide P := ⟨fun _ => trivial, rfl, fun n f args w R h => callsIn_wide.2 h⟩
theorem openF_round (l : Nat) (P : Program) : OpenF (Fence.wide.inRound l) P := ⟨fun _ => trivial, rfl, fun n f args w R h => callsIn_wide.2 h⟩

theorem wpIn_of_still {o : Oper} {a : Act} {K : Act → Prop} {K' : Act → World → Prop} {Q' : Exit → Act → World → Prop} (hF : OpenF F P) (hd : ∀ c, o.op ≠ .defer c) (h : ∀ a, K a → K' a w) (hh : o.still P a w K) : o.wpIn F m P a w K' Q' := by
  refine ⟨fun f _ => hF.fn f, ?_⟩
  rw [Oper.semAt_eq _ _ _ hd]
  unfold Oper.still at hh
  generalize (execOp a.eval o).run P w = r at *
  cases r with
  | ok n w' =>
    cases n <;> simp only [Oper.stillUpon] at hh <;> simp only [Oper.uponIn]
    case enter f args =>
      obtain ⟨rfl, v, hc, hn⟩ := hh
      refine ⟨(fun h => by rw [hF.depth] at h; cases h), hF.calls _ _ _ _ _ (hc.mono fun e w'' ⟨he, hw⟩ => by subst he; subst hw; exact h _ hn)⟩
    all_goals (obtain ⟨rfl, h2⟩ := hh; exact h _ h2)
  | halt x w' => simp only [Oper.stillUpon] at hh
theorem wpOpIn_of_stOp {i : Nat} {a : Act} {K : Act → Prop} {K' : Act → World → Prop} {Q' : Exit → Act → World → Prop} (hF : OpenF F P) (hd : ∀ o, ops[i]? = some o → ∀ c, o.op ≠ .defer c) (h : ∀ a, K a → K' a w) (hh : stOp P ops w i K a) : wpOpIn F m P ops Q' i K' a w := by
  unfold stOp at hh
  unfold wpOpIn
  split
  · rename_i ho; simp only [ho] at hh; exact h _ hh
  · rename_i o ho
    simp only [ho] at hh
    split
    · rename_i hw; simp only [hw, if_true] at hh; exact wpIn_of_still hF (hd o ho) h hh
    · rename_i hw; simp only [hw] at hh; exact ⟨fun f _ => hF.fn f, h _ hh⟩
theorem wpAnyIn_of_head {n g : Nat} {L : Array Bool → Act → Prop} {Q' : Exit → Act → World → Prop} (hF : OpenF F P) (hd : ∀ (i : Nat) o, ops[i]? = some o → ∀ c, o.op ≠ .defer c) (hL : ∀ listed a, L listed a → wpAnyIn F m P md ops Q' g listed a w) :
    ∀ (f : Nat) (listed : Array Bool) (a : Act), wpAnyL P md ops w n L f listed a → wpAnyIn F m P md ops Q' (f + g) listed a w
  | 0, listed, a, h => by rw [Nat.zero_add]; exact hL _ _ h
  | f + 1, listed, a, h => by
    rw [show f + 1 + g = (f + g) + 1 by omega]
    exact ⟨fun h0 => absurd h0 h.1, fun i hi => wpOpIn_of_stOp hF (hd i) (fun a' h' => wpAnyIn_of_head hF hd hL f _ a' h') (h.2 i hi).2⟩
theorem wpAnyIn_of_seq {Q' : Exit → Act → World → Prop} : ∀ (l : List Oper) (k : Nat) (listed : Array Bool) (a : Act) (w : World), (∀ j, l[j]? = ops[k + j]?) →
    Region.seqB md ops l.length k listed = true → wpListIn F m P ops Q' l a w → wpAnyIn F m P md ops Q' l.length listed a w
  | [], _, _, _, _, _, hB, h => ⟨by simpa [Region.seqB] using hB, h⟩
  | o :: l, k, listed, a, w, hl, hB, h => by
    have h0 : ops[k]? = some o := by simpa using (hl 0).symm
    simp only [List.length_cons, Region.seqB, Bool.and_eq_true, decide_eq_true_eq] at hB
    refine ⟨fun h1 => (by rw [hB.1] at h1; cases h1), fun i hi => ?_⟩
    rw [hB.1] at hi
    have hik : i = k := by simpa using hi
    subst hik
    have hw : wpOpIn F m P ops Q' i (wpListIn F m P ops Q' l) a w := by unfold wpOpIn; simp only [h0]; exact h
    exact wpOpIn_mono (fun a' w' h' => wpAnyIn_of_seq l (i + 1) _ a' w' (fun j => by have := hl (j + 1); simpa [Nat.add_assoc, Nat.add_comm 1 j] using this) hB.2 h') hw
def noDefer (o : Oper) : Bool := match o.op with
  | .defer _ => false
  | _ => true
theorem noDefer_spec {o : Oper} (h : noDefer o = true) : ∀ c, o.op ≠ .defer c := fun c hc => by unfold noDefer at h; rw [hc] at h; cases h
theorem wpIn_region_still_tail {id : Nat} {Q : Exit → Act → World → Prop} {a : Act} {w : World} {l : List Oper} (n : Nat) (hF : OpenF F P) (hm : P.follows .mixedOrders = true) (hB : (Region.lexTailB .any l.toArray n && l.all noDefer) = true)
    (h : wpStill P l.toArray { w with drawn := w.drawn + 1 } (fun a' => wpListIn F m P l.toArray Q (l.drop n) a' { w with drawn := w.drawn + 1 }) (l.take n) a) : (Code.region id l.toArray true).wpIn F m P Q a w := by
  rw [Bool.and_eq_true] at hB
  obtain ⟨hB, hnd⟩ := hB
  have hd : ∀ (i : Nat) o, l.toArray[i]? = some o → ∀ c, o.op ≠ .defer c := fun i o ho => noDefer_spec (List.all_eq_true.1 hnd o (List.mem_of_getElem? (by simpa using ho)))
  simp only [Region.lexTailB, Bool.and_eq_true, decide_eq_true_eq] at hB
  obtain ⟨⟨⟨⟨hsel, hn⟩, hs⟩, hc⟩, hlex⟩ := hB
  have hn' : n < l.length := by simpa using hn
  have htl : (l.take n).length = n := by simp; omega
  have hdl : (l.drop n).length = l.toArray.size - n := by simp
  have inv0 : HeadInv .any l.toArray n (Array.replicate l.toArray.size false) :=
    ⟨by simp, fun j oj _ hl => (by rw [getD_replicate_false] at hl; cases hl), fun t _ ht => getD_in (by simpa using ht) (getD_replicate_false _ _)⟩
  have H := wpAnyL_lex (md := .any) (g := l.toArray.size - n) hsel hs hc hn (l.take n) 0 _ a (fun j hj => by
    have hj' : j < n := by rw [htl] at hj; exact hj
    simp [hj']) (by simpa using htl) inv0 (by rw [htl]; exact hlex) h
  refine wpIn_region_any hm ?_
  have := wpAnyIn_of_head (Q' := Q) (g := l.toArray.size - n) hF hd (fun listed a' hL => by
    have := wpAnyIn_of_seq (F := F) (m := m) (md := .any) (Q' := Q) (l.drop n) n listed a' { w with drawn := w.drawn + 1 } (fun j => by simp [List.getElem?_drop]) (by rw [hdl]; exact hL.1) hL.2
    rwa [hdl] at this) _ _ _ H
  rw [htl, show n + (l.toArray.size - n) = l.toArray.size by omega] at this
  exact this
end
end Go.Proofs.Ytjbmcjppaadkgaa

namespace Go.Proofs.Ytjbmcjppaadkgaa
set_option linter.unusedVariables false
set_option linter.unusedSimpArgs false
open Go.RowKit Go.Shelf
theorem calls_of_wp_marks {P : Program} {f : FuncId} {fn : Func} {c : Code} {args : Array Value} {w : World} {R : Ending → World → Prop} (hf : P.funcs[f]? = some fn) (hb : fn.body = some c)
    (h : c.wp P (bodyPostM Fence.wide 9 P fn R) { tmps := args ++ Array.replicate (fn.ntmps - args.size) undef, defers := [] } w) : Calls P f args w R :=
  callsIn_wide.1 (callsIn_of_wp_marks hf hb trivial (wpIn_wide.2 h) rfl)
theorem postM_ret {F : Fence} {n : Nat} {P : Program} {fn : Func} {R : Ending → World → Prop} {a : Act} {w : World} {v : Value} (hr : (results fn a.tmps).run P w = .ok v w) (hd : a.defers = []) (h : R (.returned v) w) : bodyPostM F n P fn R .ret a w := by
  show LeavesInM F n P fn a.tmps R a.defers .returning w
  rw [hd]
  exact ⟨v, hr, h⟩
theorem postM_mark {F : Fence} {n : Nat} {P : Program} {fn : Func} {R : Ending → World → Prop} {a : Act} {w : World} {v : Value} {D : Nat} (hK : w.heap[D]? = some (.deferred (some []))) (hd : a.defers = [{ target := .collected D, args := #[] }])
    (hr : (results fn a.tmps).run P (w.putObj D (.deferred none)) = .ok v (w.putObj D (.deferred none))) (h : R (.returned v) (w.putObj D (.deferred none))) : bodyPostM F n P fn R .ret a w := by
  show LeavesInM F n P fn a.tmps R a.defers .returning w
  rw [hd]
  exact ⟨by simp, .inl ⟨_, _, rfl, run_takeDeferred hK, v, hr, h⟩⟩
theorem mark_cell {w : World} {D : Nat} {o : Obj} {p : Addr} {v : Value} (hK : w.heap[D]? = some (.deferred (some []))) (hc : w.cell? p = some v) : (w.putObj D (.deferred none)).cell? p = some v :=
  cell_kept hc (grownBy_putObj' _ D (.deferred none)) (fun r e => by cases e; exact ⟨_, hK, rfl⟩)
theorem mark_below {n₀ : Nat} {w W : World} {D : Nat} (hB : Below n₀ w W) (hD : n₀ ≤ D) (hK : W.heap[D]? = some (.deferred (some []))) : Below n₀ w (W.putObj D (.deferred none)) :=
  hB.grown (grownBy_putObj' W D _) (by have := (Array.getElem?_eq_some_iff.1 hK).1; omega) (fun k e => by cases e; omega)
/-- what a round keeps: all that lay below n₀, and two boxes -/
def KpB (n₀ Ba Bb : Nat) (A B : World) : Prop := Below n₀ A B ∧ B.cell? ⟨Ba, 0, none⟩ = A.cell? ⟨Ba, 0, none⟩ ∧ B.cell? ⟨Bb, 0, none⟩ = A.cell? ⟨Bb, 0, none⟩
theorem kpB_refl (n₀ Ba Bb : Nat) (A : World) : KpB n₀ Ba Bb A A := ⟨Below.refl _ _, rfl, rfl⟩
theorem kpB_t {n₀ Ba Bb : Nat} {A B C : World} (h : KpB n₀ Ba Bb A B) (k : KpB n₀ Ba Bb B C) : KpB n₀ Ba Bb A C := ⟨h.1.trans k.1, k.2.1.trans h.2.1, k.2.2.trans h.2.2⟩
theorem kpB_b {n₀ Ba Bb : Nat} {w : World} (hn : n₀ ≤ w.heap.size) (ha : Ba < w.heap.size) (hb : Bb < w.heap.size) (W : World) (l : Nat) (o o' : Obj) (hl : w.heap.size ≤ l) (h : W.heap[l]? = some o) (h1 : o.isCells = false) (h2 : o.isWalk = false) : KpB n₀ Ba Bb W (W.putObj l o') :=
  ⟨belowK_b hn W l o o' hl h h1 h2, World.cell?_of_block (World.putObj_heap_other (by show Ba ≠ l; omega)), World.cell?_of_block (World.putObj_heap_other (by show Bb ≠ l; omega))⟩
theorem kpB_drew {n₀ Ba Bb : Nat} (A : World) : KpB n₀ Ba Bb A A.drew := ⟨(Below.refl _ _).drew, rfl, rfl⟩
theorem kpB_drewN {n₀ Ba Bb : Nat} (A : World) (n : Nat) : KpB n₀ Ba Bb A (A.drewN n) := ⟨⟨rfl, rfl, rfl, Nat.le_refl _, fun _ _ => rfl⟩, rfl, rfl⟩
theorem kpB_below {n₀ Ba Bb n : Nat} {A B : World} (h : Below n A B) (hn : n₀ ≤ n) (ha : Ba < n) (hb : Bb < n) : KpB n₀ Ba Bb A B := ⟨h.mono hn, h.cell (p := ⟨Ba, 0, none⟩) ha, h.cell (p := ⟨Bb, 0, none⟩) hb⟩
theorem kpB_set {n₀ Ba Bb b i : Nat} {A : World} {v : Value} (hb : n₀ ≤ b) (h1 : Ba ≠ b) (h2 : Bb ≠ b) : KpB n₀ Ba Bb A (A.setCell ⟨b, i, none⟩ v) :=
  ⟨(Below.refl _ _).setCell (p := ⟨b, i, none⟩) hb v, by simp [World.cell?, World.setCell, Array.getElem?_modify, h1.symm], by simp [World.cell?, World.setCell, Array.getElem?_modify, h2.symm]⟩
theorem abides_drew {β : Type} {B : Nat} {J : β → World → Prop} (h : AbidesFrom B J) {s : β} {W : World} (hs : J s W) (n : Nat) : J s (W.drewN n) :=
  h s W _ none hs ⟨rfl, rfl, rfl, Nat.le_refl _, fun _ _ _ => rfl⟩ (fun r e => by cases e)
/-- append at a step of a region that draws, inside a fence -/
theorem stepIn_append_lies {F : Fence} {mm : Nat} {P : Program} {ops : Array Oper} {o : Oper} {a : Act} {w : World} {K : Act → World → Prop} {Q : Exit → Act → World → Prop} {E : Prop} (hF : OpenF F P) (hgd : o.guard = none) (s x : Operand) (t : TypeId)
    (ho : o.op = .call { callee := .builtin .append, args := #[s, x], argTypes := #[t, t] })
    (base : Nat) (e : TypeId) (i : TypeInfo) (z : Value) (size bytes : Nat) (ht : P.underlying t = some (.slice e)) (hi : P.info? e = some i) (hz : i.zero = some z)
    (hsize : i.size = size) (hby : i.bytes = bytes) (hzs : z.cells.size = size) (hsz : 0 < size)
    (v : Value) (n : Nat) (xs : List Value) (hs : a.eval s = v) (hown : w.ownsRow base e size v n xs)
    (ad : Addr) (m c : Nat) (news : List Value) (hx : a.eval x = .slice (some ad) m c) (hl : news.length = m * size) (hnews : ∀ j u, news[j]? = some u → w.cell? (ad.add j) = some u) (h1 : ∀ u ∈ news, u.oneCell' = true)
    (hm : 0 < m) (h63 : n + m ≤ maxLen) (hbytes : (n + m) * bytes ≤ 140737488355328) (hbase : base ≤ w.heap.size) (H : Nat) (hH : w.heap.size = H)
    (h : ∀ g cap w', w'.ownsRow base e size (.slice (some ⟨g, 0, none⟩) (n + m) cap) (n + m) (xs ++ news) → w.grownBy w' v.ownBlock → (v.ownBlock = some g ∨ g = H) → g < w'.heap.size → K (a.put o.dst (.slice (some ⟨g, 0, none⟩) (n + m) cap)) w') :
    if Region.wanted o (yielded ops a.tmps) = true then Oper.wpIn F mm P o a w K Q else E := by
  have hw : Region.wanted o (yielded ops a.tmps) = true := by simp [Region.wanted, hgd]
  rw [if_pos hw]
  obtain ⟨g, cap, w', hr, h2, h3, h4, h5⟩ := run_append_lies (P := P) w t o.type base e i z size bytes ht hi hz hsize hby hzs hsz v n xs hown ad m c news hl hnews h1 hm h63 hbytes hbase H hH
  refine ⟨fun f _ => hF.fn f, ?_⟩
  rw [Oper.semAt_eq _ _ _ (fun c hc => by rw [ho] at hc; cases hc)]
  unfold execOp
  simp only [ho, resolve, invoke, builtin, Sem.run_bind, Sem.run_pure, Result.andThen_ok, List.map_toArray, List.map_cons, List.map_nil, hs, hx, hr]
  exact h g cap w' h2 h3 h4 h5
end Go.Proofs.Ytjbmcjppaadkgaa
