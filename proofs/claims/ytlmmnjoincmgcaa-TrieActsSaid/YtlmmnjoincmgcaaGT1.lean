/- Texts of this seat, merged: Kit1, NumMath, Num1, Num2, Num3, Num5, Num6, Num7, Num8, Num9, Num10, Num4, NumSame, Addr1, Addr2, Addr3, Addr4, Addr5, Kit2, Kit3. -/
import Derived.WalkKit
import Derived.Deep.LoopGhost
import Derived.Lib.Hide
import Derived.Lib.Strings
import Derived.Test.YtlmmnjoincmgcaaProg
import Derived.Deep.RegionHeld3
import Derived.Deep.AppendLies
import Derived.Deep.DrawnRows
import Derived.Deep.QuietTactic
import Derived.BigQuiet
import Derived.WalkLawsBesides
import Derived.StillTailTactics
import Derived.OwnWalk
import Derived.StillTail
import Derived.StillTactics
import Derived.OrdersIn
import Derived.TacticsIn
import Derived.CallsIn
import Derived.RangeFuncNested
import Derived.RangeFuncBound
import Derived.RangeFuncCalls
import Derived.RangeFuncLeaves
import Derived.Shelf.Abstract
namespace Go.Proofs.Ytlmmnjoincmgcaa
set_option linter.unusedVariables false
set_option linter.unusedSimpArgs false
open Go.RowKit

theorem ret_int {k : IntKind} {a b : Int} (h : a = b) : Ending.returned (.int k a) = .returned (.int k b) := by rw [h]

theorem ret_bool {a b : Bool} (h : a = b) : Ending.returned (.bool a) = .returned (.bool b) := by rw [h]
theorem ret_str {a b : ByteArray} (h : a = b) : Ending.returned (.string a) = .returned (.string b) := by rw [h]

theorem jump_back {l : Nat} {J : Act → World → Prop} {Q : Exit → Act → World → Prop} {a : Act} {w : World} (h : J a w) : Exit.jump l J Q (.goto l) a w := ⟨rfl, h⟩

theorem jump_ret {l : Nat} {J : Act → World → Prop} {Q : Exit → Act → World → Prop} {a : Act} {w : World} (h : Q .ret a w) : Exit.jump l J Q .ret a w := h
theorem nogoto_ret {Q : Exit → Act → World → Prop} {a : Act} {w : World} (h : Q .ret a w) : Exit.noGoto Q .ret a w := h
theorem jump_normal {l : Nat} {J : Act → World → Prop} {Q : Exit → Act → World → Prop} {a : Act} {w : World} (h : Q .normal a w) : Exit.jump l J Q .normal a w := h

/-- A scope whose code holds one label, to which the run jumps back. 'I n': what holds behind the label when at most n passes are to come. -/
theorem wp_scope_goto {P : Program} {a : Act} {w : World} {Q : Exit → Act → World → Prop} {c rest : Code} (l : Nat) (I : Nat → Act → World → Prop) (hf : findLabel c l = some (Code.skip.seq rest))
    (first : ∀ R : Exit → Act → World → Prop, (∀ n a' w', I n a' w' → rest.wp P R a' w') → (∀ e a' w', Exit.noGoto Q e a' w' → R e a' w') → c.wp P R a w)
    (pass : ∀ n a w, I n a w → ∀ J : Act → World → Prop, (∀ k a' w', k < n → I k a' w' → J a' w') → rest.wp P (Exit.jump l J Q) a w) :
    (Code.scope c).wp P Q a w := by
  have key : ∀ (J0 : Act → World → Prop), (∀ k a' w', I k a' w' → J0 a' w') → ∀ n a' w', I n a' w' → rest.wp P (Exit.jump l J0 Q) a' w' :=
    fun J0 h n a' w' hI => pass n a' w' hI J0 fun k a'' w'' _ h2 => h k a'' w'' h2
  refine wp_scope_jumps l (fun a w => ∃ n, I n a w) (fun a w => leastOf (fun n => I n a w)) hf ?_ ?_
  · refine first _ (key _ fun k _ _ h => ⟨k, h⟩) ?_
    intro e a' w' h
    cases e with
    | normal => exact h
    | exit id => exact h
    | goto l' => exact absurd h (by simp [Exit.noGoto])
    | ret => exact h
    | panic ch => exact h
    | outgrown => exact h
  · intro a' w' hI
    obtain ⟨hl, hmin⟩ := leastOf_spec hI
    refine wp_seq (wp_skip ?_)
    exact pass _ a' w' hl _ fun k a'' w'' hk hI' =>
      ⟨⟨k, hI'⟩, Nat.lt_of_le_of_lt ((leastOf_spec (p := fun n => I n a'' w'') ⟨k, hI'⟩).2 k hI') hk⟩

theorem take_snoc (s : ByteArray) (k : Nat) (h : k < s.size) : s.data.toList.take (k + 1) = s.data.toList.take k ++ [s[k]] := by
  rw [List.take_succ_eq_append_getElem (by simpa using h)]; rfl
theorem mem_of (s : ByteArray) (k : Nat) (h : k < s.size) : s[k] ∈ s.data.toList := by
  have : s.data.toList[k]'(by simpa using h) ∈ s.data.toList := List.getElem_mem _
  exact this
theorem take_all (s : ByteArray) (k : Nat) (h : s.size ≤ k) : s.data.toList.take k = s.data.toList :=
  List.take_of_length_le (by simpa using h)
theorem size0 (s : ByteArray) (h : s.size = 0) : s = ⟨#[]⟩ := (show s = ByteArray.empty by simpa using h).trans rfl
theorem beqf {a b : Int} (h : a ≠ b) : (a == b) = false := by simpa using h
theorem head_of (s : ByteArray) (h : 0 < s.size) : s.data.toList.head? = some s[0] := by
  obtain ⟨⟨l⟩⟩ := s
  cases l with
  | nil => exact absurd h (by decide)
  | cons c l => rfl
theorem toList_eq (s : ByteArray) : s.toList = s.data.toList := Lib.toList_data s
theorem ne_of (s : ByteArray) (h : 0 < s.size) : s.toList.isEmpty = false := by
  rw [toList_eq]
  have := head_of s h
  cases hl : s.data.toList with
  | nil => rw [hl] at this; simp at this
  | cons c l => rfl
/-! texts as lists of bytes; cells of a block -/
def strB (l : List UInt8) : ByteArray := ⟨l.toArray⟩
theorem cell_of {w : World} {b : Nat} {C : Array Value} {T : TypeId} {fz : Nat × Nat} (h : w.heap[b]? = some (.cells C T fz)) (i : Nat) {v : Value} (hi : C[i]? = some v) : w.cell? ⟨b, i, none⟩ = some v := by
  simp [World.cell?, h, hi]
theorem free_of {w : World} {b : Nat} {C : Array Value} {T : TypeId} (h : w.heap[b]? = some (.cells C T (0, 0))) (i : Nat) : w.frozen? ⟨b, i, none⟩ = false := by
  simp [World.frozen?, h]
theorem strB_size (l : List UInt8) : (strB l).size = l.length := by simp [strB, ByteArray.size]
theorem strB_app (a b : List UInt8) : strB a ++ strB b = strB (a ++ b) := by
  apply ByteArray.ext
  rw [ByteArray.data_append]
  simp [strB]
theorem strB_self (x : ByteArray) : strB x.data.toList = x := by
  apply ByteArray.ext
  simp [strB]
theorem str_eq (a : List UInt8) (b : ByteArray) : ((strB a).toList == b.toList) = (a == b.data.toList) := by
  rw [toList_eq, toList_eq]; rfl
end Go.Proofs.Ytlmmnjoincmgcaa

namespace Go.Proofs.Ytlmmnjoincmgcaa
set_option linter.unusedVariables false
set_option linter.unusedSimpArgs false

/-- What a sign stands for. -/
def val (r : Int) : Int := if 48 ≤ r ∧ r ≤ 57 then r - 48 else if 97 ≤ r ∧ r ≤ 102 then r - 97 + 10 else 16

theorem val_bd (r : Int) : 0 ≤ val r ∧ val r ≤ 16 := by unfold val; (repeat' split) <;> omega
theorem val_dec (r : Int) : val r < 10 ↔ 48 ≤ r ∧ r ≤ 57 := by unfold val; (repeat' split) <;> omega
theorem val_dec_eq (r : Int) (h : 48 ≤ r ∧ r ≤ 57) : val r = r - 48 := by unfold val; rw [if_pos h]

/-- All signs of a text are digits of that base. -/
def digs (l : List UInt8) (base : Int) : Bool := l.all fun c => decide (val c.toNat < base)
theorem digs_snoc (l : List UInt8) (c : UInt8) (base : Int) : digs (l ++ [c]) base = (digs l base && decide (val c.toNat < base)) := by simp [digs]
theorem digs_mem {l : List UInt8} {base : Int} (h : digs l base = true) {c : UInt8} (hc : c ∈ l) : val c.toNat < base := by
  simpa using (List.all_eq_true.mp h) c hc
theorem digs_no {l : List UInt8} {base : Int} {c : UInt8} (hc : c ∈ l) (h : base ≤ val c.toNat) : digs l base = false := by
  simp only [digs, List.all_eq_false]
  exact ⟨c, hc, by simp; omega⟩

/-- The number that a row of digits is. -/
def numOf (l : List UInt8) : Nat := l.foldl (fun u c => u * 10 + (c.toNat - 48)) 0
theorem numOf_snoc (l : List UInt8) (c : UInt8) : numOf (l ++ [c]) = numOf l * 10 + (c.toNat - 48) := by simp [numOf]
theorem foldl_ge (l : List UInt8) : ∀ u : Nat, u ≤ l.foldl (fun u c => u * 10 + (c.toNat - 48)) u := by
  induction l with
  | nil => intro u; exact Nat.le_refl _
  | cons c l ih => intro u; exact Nat.le_trans (show u ≤ u * 10 + (c.toNat - 48) by omega) (ih _)
theorem numOf_take_le (l : List UInt8) (k : Nat) : numOf (l.take k) ≤ numOf l := by
  conv => rhs; rw [← List.take_append_drop k l]
  unfold numOf
  rw [List.foldl_append]
  exact foldl_ge _ _

/-- A text that is no number's. -/
def formBad (l : List UInt8) : Bool := l.isEmpty || (l.head? == some 48 && decide (1 < l.length)) || !(digs l 10)

def top : Nat := 18446744073709551615

/-- What reading tells: the number and the code. -/
def rdVal (l : List UInt8) : Int := if formBad l then 0 else if top < numOf l then 0 else numOf l
def rdCode (l : List UInt8) : Int := if formBad l then 3 else if top < numOf l then 5 else 0

theorem rd_bad {l : List UInt8} (h : formBad l = true) : rdVal l = 0 ∧ rdCode l = 3 := by simp [rdVal, rdCode, h]
theorem rd_long {l : List UInt8} (h : formBad l = false) (h2 : top < numOf l) : rdVal l = 0 ∧ rdCode l = 5 := by simp [rdVal, rdCode, h, h2]
theorem rd_fine {l : List UInt8} (h : formBad l = false) (h2 : numOf l ≤ top) : rdVal l = numOf l ∧ rdCode l = 0 := by
  simp [rdVal, rdCode, h, Nat.not_lt.mpr h2]

/-- A number's digits. -/
def decs (u : Nat) : List UInt8 := if u < 10 then [UInt8.ofNat (48 + u)] else decs (u / 10) ++ [UInt8.ofNat (48 + u % 10)]

theorem toNat_ofNat {n : Nat} (h : n < 256) : (UInt8.ofNat n).toNat = n := by
  simp [UInt8.toNat_ofNat']; omega

theorem decs_small {u : Nat} (h : u < 10) : decs u = [UInt8.ofNat (48 + u)] := by rw [decs]; exact if_pos h
theorem decs_big {u : Nat} (h : ¬ u < 10) : decs u = decs (u / 10) ++ [UInt8.ofNat (48 + u % 10)] := by rw [decs]; exact if_neg h

theorem digs_dig (n : Nat) (h : n < 10) : digs [UInt8.ofNat (48 + n)] 10 = true := by
  simp only [digs, List.all_cons, List.all_nil, Bool.and_true, decide_eq_true_eq]
  rw [toNat_ofNat (by omega), val_dec]; omega

theorem decs_digs (u : Nat) : digs (decs u) 10 = true := by
  induction u using Nat.strongRecOn with
  | _ u ih =>
    by_cases h : u < 10
    · rw [decs_small h]; exact digs_dig u h
    · rw [decs_big h, digs_snoc, ih _ (by omega)]
      have := digs_dig (u % 10) (by omega)
      simp only [digs, List.all_cons, List.all_nil, Bool.and_true] at this
      simpa using this

theorem decs_num (u : Nat) : numOf (decs u) = u := by
  induction u using Nat.strongRecOn with
  | _ u ih =>
    by_cases h : u < 10
    · rw [decs_small h]
      simp only [numOf, List.foldl_cons, List.foldl_nil]
      rw [toNat_ofNat (by omega)]; omega
    · rw [decs_big h, numOf_snoc, ih _ (by omega), toNat_ofNat (by omega)]; omega

theorem decs_ne (u : Nat) : decs u ≠ [] := by rw [decs]; split <;> simp

theorem decs_head (u : Nat) (h : 0 < u) : (decs u).head? ≠ some 48 := by
  induction u using Nat.strongRecOn with
  | _ u ih =>
    by_cases h1 : u < 10
    · rw [decs_small h1]
      intro hc
      simp only [List.head?_cons, Option.some.injEq] at hc
      have : (UInt8.ofNat (48 + u)).toNat = (48 : UInt8).toNat := by rw [hc]
      rw [toNat_ofNat (by omega)] at this
      simp at this; omega
    · rw [decs_big h1, List.head?_append]
      have := ih (u / 10) (by omega) (by omega)
      cases hd : (decs (u / 10)).head? with
      | none => exact absurd (List.head?_eq_none_iff.mp hd) (decs_ne _)
      | some c => rw [hd] at this; simpa using this

theorem decs_form (u : Nat) : formBad (decs u) = false := by
  have h1 := decs_ne u
  have h2 := decs_digs u
  simp only [formBad, h2, Bool.not_true, Bool.or_false, Bool.or_eq_false_iff, Bool.and_eq_false_iff]
  refine ⟨by simpa using h1, ?_⟩
  by_cases h : u = 0
  · right; subst h; rw [decs_small (by omega)]; simp
  · left; simpa using decs_head u (by omega)

/-- What is printed is read. -/
theorem rd_decs (u : Nat) (h : u ≤ top) : rdVal (decs u) = u ∧ rdCode (decs u) = 0 := by
  have := rd_fine (decs_form u) (by rw [decs_num]; exact h)
  rw [decs_num] at this
  exact this

theorem dig_eq (c : UInt8) (h : val c.toNat < 10) : c = UInt8.ofNat (48 + (c.toNat - 48)) := by
  have := (val_dec _).mp h
  rw [show 48 + (c.toNat - 48) = c.toNat by omega]
  simp

/-- What is read is printed as it was. -/
theorem decs_numOf : ∀ n (l : List UInt8), l.length = n → l ≠ [] → digs l 10 = true → (l.head? = some 48 → l.length ≤ 1) → decs (numOf l) = l := by
  intro n
  induction n with
  | zero => intro l hl hne; simp at hl; exact absurd hl hne
  | succ n ih =>
    intro l hl hne hd hh
    obtain ⟨a, c, rfl⟩ : ∃ a c, l = a ++ [c] := ⟨l.dropLast, l.getLast hne, (List.dropLast_concat_getLast hne).symm⟩
    rw [digs_snoc, Bool.and_eq_true, decide_eq_true_eq] at hd
    have hc := (val_dec _).mp hd.2
    by_cases ha : a = []
    · subst ha
      have h10 : c.toNat - 48 < 10 := by omega
      simp only [List.nil_append, numOf, List.foldl_cons, List.foldl_nil]
      rw [show 0 * 10 + (c.toNat - 48) = c.toNat - 48 by omega, decs_small h10, ← dig_eq c hd.2]
    · have hla : a.length = n := by simpa using hl
      have hhead : a.head? = some 48 → a.length ≤ 1 := by
        intro h
        have := hh (by rw [List.head?_append, h]; rfl)
        simp at this
        exact absurd this ha
      have hnot : a.head? ≠ some 48 := by
        intro h
        have := hh (by rw [List.head?_append, h]; rfl)
        simp at this
        exact absurd this ha
      have e := ih a hla ha hd.1 hhead
      have hpos : 0 < numOf a := by
        rcases Nat.eq_zero_or_pos (numOf a) with h0 | h0
        · rw [h0, decs_small (by omega)] at e
          exact absurd (by rw [← e]; rfl) hnot
        · exact h0
      rw [numOf_snoc, decs_big (by omega)]
      rw [show (numOf a * 10 + (c.toNat - 48)) / 10 = numOf a by omega, show (numOf a * 10 + (c.toNat - 48)) % 10 = c.toNat - 48 by omega, e, ← dig_eq c hd.2]

theorem decs_rd (l : List UInt8) (h : rdCode l = 0) : ∃ u : Nat, rdVal l = u ∧ u ≤ top ∧ decs u = l := by
  unfold rdCode at h
  by_cases hf : formBad l
  · rw [if_pos hf] at h; omega
  · rw [if_neg hf] at h
    by_cases ht : top < numOf l
    · rw [if_pos ht] at h; omega
    · refine ⟨numOf l, by simp [rdVal, hf, ht], by omega, ?_⟩
      simp only [formBad, Bool.not_eq_true, Bool.or_eq_false_iff, Bool.and_eq_false_iff] at hf
      refine decs_numOf _ l rfl (by simpa using hf.1.1) (by simpa using hf.2) ?_
      intro hh
      rcases hf.1.2 with h1 | h1
      · simp [hh] at h1
      · simpa using h1

/-! bytes -/
def hexD (n : Nat) : UInt8 := UInt8.ofNat (if n < 10 then 48 + n else 87 + n)
def hexB (b : UInt8) : List UInt8 := [hexD (b.toNat / 16), hexD (b.toNat % 16)]
def hexOf (l : List UInt8) : List UInt8 := l.flatMap hexB
theorem hexOf_snoc (l : List UInt8) (b : UInt8) : hexOf (l ++ [b]) = hexOf l ++ hexB b := by simp [hexOf]
theorem hexOf_length (l : List UInt8) : (hexOf l).length = 2 * l.length := by
  induction l with
  | nil => rfl
  | cons b l ih => simp only [hexOf, List.flatMap_cons, List.length_append, List.length_cons] at *; simp only [hexB, List.length_cons, List.length_nil]; omega

/-- The byte that two signs are. -/
def two (c d : UInt8) : UInt8 := UInt8.ofNat ((val c.toNat).toNat * 16 + (val d.toNat).toNat)
def unhex : List UInt8 → List UInt8
  | c :: d :: l => two c d :: unhex l
  | _ => []
def hxBytes (l : List UInt8) : List UInt8 := if digs l 16 && l.length % 2 == 0 then unhex l else []
def hxCode (l : List UInt8) : Int := if digs l 16 then (if l.length % 2 = 1 then 4 else 0) else 3

theorem unhex_snoc2 : ∀ n (l : List UInt8) (c d : UInt8), l.length = 2 * n → unhex (l ++ [c, d]) = unhex l ++ [two c d] := by
  intro n
  induction n with
  | zero => intro l c d h; have : l = [] := by simpa using h
            subst this; rfl
  | succ n ih =>
    intro l c d h
    match l, h with
    | a :: b :: l, h =>
      have := ih l c d (by simp at h; omega)
      simp only [List.cons_append, unhex, this]

theorem hexD_val (n : Nat) (h : n < 16) : val (hexD n).toNat = n := by
  unfold hexD
  by_cases h1 : n < 10
  · rw [if_pos h1, toNat_ofNat (by omega)]; unfold val; rw [if_pos (by omega)]; omega
  · rw [if_neg h1, toNat_ofNat (by omega)]; unfold val; rw [if_neg (by omega), if_pos (by omega)]; omega

theorem two_hex (b : UInt8) : two (hexD (b.toNat / 16)) (hexD (b.toNat % 16)) = b := by
  have := UInt8.toNat_lt b
  unfold two
  rw [hexD_val _ (by omega), hexD_val _ (by omega)]
  simp only [Int.toNat_natCast]
  rw [show b.toNat / 16 * 16 + b.toNat % 16 = b.toNat by omega]
  simp

theorem unhex_hexOf (l : List UInt8) : unhex (hexOf l) = l := by
  induction l with
  | nil => rfl
  | cons b l ih =>
    show unhex (hexD (b.toNat / 16) :: hexD (b.toNat % 16) :: hexOf l) = _
    rw [unhex, two_hex, ih]

theorem hexOf_digs (l : List UInt8) : digs (hexOf l) 16 = true := by
  simp only [digs, List.all_eq_true, decide_eq_true_eq]
  intro c hc
  simp only [hexOf, List.mem_flatMap, hexB, List.mem_cons, List.not_mem_nil, or_false] at hc
  obtain ⟨b, _, hc⟩ := hc
  have := UInt8.toNat_lt b
  rcases hc with rfl | rfl
  · rw [hexD_val _ (by omega)]; omega
  · rw [hexD_val _ (by omega)]; omega

theorem hx_hexOf (l : List UInt8) : hxBytes (hexOf l) = l ∧ hxCode (hexOf l) = 0 := by
  have h1 := hexOf_digs l
  have h2 := hexOf_length l
  have h3 : (hexOf l).length % 2 = 0 := by omega
  exact ⟨by simp [hxBytes, h1, h3, unhex_hexOf], by simp [hxCode, h1, h3]⟩

theorem hexD_of (c : UInt8) (h : val c.toNat < 16) : hexD (val c.toNat).toNat = c := by
  have hc := UInt8.toNat_lt c
  unfold val at h ⊢
  by_cases h1 : (48 : Int) ≤ c.toNat ∧ (c.toNat : Int) ≤ 57
  · rw [if_pos h1]
    unfold hexD
    rw [if_pos (by omega), show 48 + ((c.toNat : Int) - 48).toNat = c.toNat by omega]; simp
  · rw [if_neg h1] at h ⊢
    by_cases h2 : (97 : Int) ≤ c.toNat ∧ (c.toNat : Int) ≤ 102
    · rw [if_pos h2]
      unfold hexD
      rw [if_neg (by omega), show 87 + ((c.toNat : Int) - 97 + 10).toNat = c.toNat by omega]; simp
    · rw [if_neg h2] at h; omega

theorem hexB_two (c d : UInt8) (hc : val c.toNat < 16) (hd : val d.toNat < 16) : hexB (two c d) = [c, d] := by
  have b1 := val_bd c.toNat
  have b2 := val_bd d.toNat
  have e : (two c d).toNat = (val c.toNat).toNat * 16 + (val d.toNat).toNat := by unfold two; rw [toNat_ofNat (by omega)]
  unfold hexB
  rw [e, show ((val c.toNat).toNat * 16 + (val d.toNat).toNat) / 16 = (val c.toNat).toNat by omega,
    show ((val c.toNat).toNat * 16 + (val d.toNat).toNat) % 16 = (val d.toNat).toNat by omega, hexD_of c hc, hexD_of d hd]

theorem hexOf_unhex : ∀ n (l : List UInt8), l.length = 2 * n → digs l 16 = true → hexOf (unhex l) = l := by
  intro n
  induction n with
  | zero => intro l h _; have : l = [] := by simpa using h
            subst this; rfl
  | succ n ih =>
    intro l h hd
    match l, h with
    | a :: b :: l, h =>
      have h' := ih l (by simp at h; omega) (by simp [digs] at hd ⊢; exact hd.2.2)
      simp only [digs, List.all_cons, Bool.and_eq_true, decide_eq_true_eq] at hd
      show hexB (two a b) ++ hexOf (unhex l) = _
      rw [hexB_two a b hd.1 hd.2.1, h']; rfl

theorem hexOf_hx (l : List UInt8) (h : hxCode l = 0) : hexOf (hxBytes l) = l := by
  unfold hxCode at h
  by_cases h1 : digs l 16
  · rw [if_pos h1] at h
    by_cases h2 : l.length % 2 = 1
    · rw [if_pos h2] at h; omega
    · have h3 : l.length % 2 = 0 := by omega
      simp only [hxBytes, h1, h3, Bool.true_and, beq_self_eq_true, if_true]
      exact hexOf_unhex (l.length / 2) l (by omega) h1
  · rw [if_neg h1] at h; omega
end Go.Proofs.Ytlmmnjoincmgcaa

namespace Go.Proofs.Ytlmmnjoincmgcaa
set_option linter.unusedVariables false
set_option linter.unusedSimpArgs false
set_option maxRecDepth 100000
open Go.RowKit

end Go.Proofs.Ytlmmnjoincmgcaa

namespace Go.Proofs.Ytlmmnjoincmgcaa
set_option linter.unusedVariables false
set_option linter.unusedSimpArgs false
set_option maxRecDepth 100000
open Go.RowKit

theorem ret_rd {a b : Int} {c d : Int} (h : a = b) (h2 : c = d) : Ending.returned (.tuple #[.int .u64 a, .int .i64 c]) = .returned (.tuple #[.int .u64 b, .int .i64 d]) := by rw [h, h2]

theorem form_size0 (s : ByteArray) (h : s.size = 0) : formBad s.data.toList = true := by
  rw [size0 s h]; rfl
theorem form_48 (s : ByteArray) (h : 1 < s.size) (h2 : (s[0]).toNat = 48) : formBad s.data.toList = true := by
  have e : s[0] = 48 := UInt8.toNat_inj.mp h2
  have := head_of s (by omega)
  rw [e] at this
  simp only [formBad, this, beq_self_eq_true, Bool.true_and, Bool.or_eq_true, decide_eq_true_eq]
  left; right; simpa using h
theorem form_digs (s : ByteArray) (h : digs s.data.toList 10 = false) : formBad s.data.toList = true := by simp [formBad, h]
theorem form_good (s : ByteArray) (h : 0 < s.size) (h2 : s.size ≤ 1 ∨ (s[0]).toNat ≠ 48) (h3 : digs s.data.toList 10 = true) : formBad s.data.toList = false := by
  have hh := head_of s h
  have hne : s.data.toList ≠ [] := by intro hc; rw [hc] at hh; simp at hh
  simp only [formBad, h3, hh, Bool.not_true, Bool.or_false, Bool.or_eq_false_iff, Bool.and_eq_false_iff]
  refine ⟨by simpa using hne, ?_⟩
  rcases h2 with h2 | h2
  · right; simpa using h2
  · left
    have : s[0] ≠ 48 := fun hc => h2 (by rw [hc]; rfl)
    simpa using this
theorem digs_of_form {l : List UInt8} (h : formBad l = false) : digs l 10 = true := by
  simp only [formBad, Bool.or_eq_false_iff] at h; simpa using h.2
theorem val_of_form (s : ByteArray) (k : Nat) (h : k < s.size) (hf : formBad s.data.toList = false) : val (s[k]).toNat ≤ 9 ∧ val (s[k]).toNat = (s[k]).toNat - 48 ∧ 48 ≤ (s[k]).toNat ∧ (s[k]).toNat ≤ 57 := by
  have := digs_mem (digs_of_form hf) (mem_of s k h)
  have h2 := (val_dec _).mp this
  refine ⟨by omega, val_dec_eq _ h2, by omega, by omega⟩
theorem rd_long_at (s : ByteArray) (k : Nat) (h : k < s.size) (hf : formBad s.data.toList = false) (hl : (18446744073709551615 - val (s[k]).toNat) / 10 < (numOf (s.data.toList.take k) : Int)) :
    rdVal s.data.toList = 0 ∧ rdCode s.data.toList = 5 := by
  refine rd_long hf (Nat.lt_of_lt_of_le ?_ (numOf_take_le s.data.toList (k + 1)))
  rw [take_snoc s k h, numOf_snoc]
  obtain ⟨h1, h2, h3, h4⟩ := val_of_form s k h hf
  unfold top; omega
theorem num_next (s : ByteArray) (k : Nat) (h : k < s.size) (hf : formBad s.data.toList = false) (hl : (numOf (s.data.toList.take k) : Int) ≤ (18446744073709551615 - val (s[k]).toNat) / 10) :
    (numOf (s.data.toList.take k) : Int) * 10 + val (s[k]).toNat = (numOf (s.data.toList.take (k + 1)) : Int) ∧ numOf (s.data.toList.take (k + 1)) ≤ top := by
  rw [take_snoc s k h, numOf_snoc]
  obtain ⟨h1, h2, h3, h4⟩ := val_of_form s k h hf
  unfold top; omega

end Go.Proofs.Ytlmmnjoincmgcaa

namespace Go.Proofs.Ytlmmnjoincmgcaa
set_option linter.unusedVariables false
set_option linter.unusedSimpArgs false
set_option maxRecDepth 100000
open Go.RowKit

def hexI (n : Int) : Int := if n < 10 then 48 + n else 87 + n
theorem hexI_bd (n : Int) (h0 : 0 ≤ n) (h1 : n ≤ 15) : 48 ≤ hexI n ∧ hexI n ≤ 102 := by unfold hexI; split <;> omega
theorem val_hexI (n : Int) (h0 : 0 ≤ n) (h1 : n ≤ 15) : val (hexI n) = n := by
  unfold hexI val; (repeat' split) <;> omega
theorem hexI_val (c : Int) (h : val c < 16) : hexI (val c) = c := by
  unfold hexI val at *; (repeat' split at *) <;> omega
theorem hexI_hexD (n : Nat) (h : n ≤ 15) : hexI n = (hexD n).toNat := by
  unfold hexI hexD
  by_cases h1 : n < 10
  · rw [if_pos (by omega), if_pos h1, toNat_ofNat (by omega)]; omega
  · rw [if_neg (by omega), if_neg h1, toNat_ofNat (by omega)]; omega

end Go.Proofs.Ytlmmnjoincmgcaa

namespace Go.Proofs.Ytlmmnjoincmgcaa
set_option linter.unusedVariables false
set_option linter.unusedSimpArgs false
set_option maxRecDepth 100000
open Go.RowKit

theorem conv1 (wx : World) (x : Int) : (convert 23 9 (.slice (some ⟨wx.heap.size, 0, none⟩) 1 1)).run Try.prog (wx.alloc (.cells #[.int .u8 x] 5)) = .ok (.string (strOfNums [x])) (wx.alloc (.cells #[.int .u8 x] 5)) :=
  run_convert_bytes_arg _ _ _ Try.underlying23 Try.underlying5 _ _ _ _ [x] rfl (fun i hi => by
    have hi1 : i < 1 := hi
    obtain rfl : i = 0 := by omega
    exact World.cell?_alloc_mark wx _ _ _ 0) _ Try.underlying9

theorem decs_len : ∀ (n u : Nat), u < 10 ^ (n + 1) → (decs u).length ≤ n + 1 := by
  intro n
  induction n with
  | zero => intro u h; rw [decs_small (by omega)]; simp
  | succ n ih =>
    intro u h
    by_cases h1 : u < 10
    · rw [decs_small h1]; simp
    · rw [decs_big h1]
      have := ih (u / 10) (by rw [Nat.pow_succ] at h; omega)
      simp only [List.length_append, List.length_cons, List.length_nil]; omega
theorem decs_top (u : Nat) (h : u ≤ top) : (decs u).length ≤ 20 := decs_len 19 u (by unfold top at h; omega)

theorem ret_dec (m u : Nat) (s : ByteArray) (hm : m ≤ 9) (h : decs m ++ s.data.toList = decs u) : strOfNums [48 + (m : Int)] ++ s = ⟨(decs u).toArray⟩ := by
  rw [← h, decs_small (by omega)]
  obtain ⟨⟨l⟩⟩ := s
  apply ByteArray.ext
  rw [ByteArray.data_append]
  simp only [strOfNums, List.map_cons, List.map_nil, show (48 + (m : Int)).toNat = 48 + m by omega]
  simp
theorem dec_next (m u : Nat) (s : ByteArray) (hm : 9 < m) (h : decs m ++ s.data.toList = decs u) : decs (m / 10) ++ (strOfNums [48 + (m : Int) % 10] ++ s).data.toList = decs u := by
  rw [← h, decs_big (u := m) (by omega), ByteArray.data_append]
  simp only [strOfNums, List.map_cons, List.map_nil, show (48 + (m : Int) % 10).toNat = 48 + m % 10 by omega]
  simp

end Go.Proofs.Ytlmmnjoincmgcaa

namespace Go.Proofs.Ytlmmnjoincmgcaa
set_option linter.unusedVariables false
set_option linter.unusedSimpArgs false
set_option maxRecDepth 100000
open Go.RowKit

theorem hexdigit_at (j : Nat) (hj : j < 16) (h : j < (⟨#[48, 49, 50, 51, 52, 53, 54, 55, 56, 57, 97, 98, 99, 100, 101, 102]⟩ : ByteArray).size) : ((⟨#[48, 49, 50, 51, 52, 53, 54, 55, 56, 57, 97, 98, 99, 100, 101, 102]⟩ : ByteArray)[j]'h).toNat = (hexD j).toNat := by
  have key : ∀ i : Fin 16, ∀ h', ((⟨#[48, 49, 50, 51, 52, 53, 54, 55, 56, 57, 97, 98, 99, 100, 101, 102]⟩ : ByteArray)[i.val]'h').toNat = (hexD i.val).toNat := by decide +kernel
  exact key ⟨j, hj⟩ h

theorem decs_step (m u : Nat) (L : List UInt8) (h : ¬ m < 10) (hd : decs m ++ L = decs u) : decs (m / 10) ++ (hexD (m % 10) :: L) = decs u := by
  rw [← hd, decs_big h]
  have e : hexD (m % 10) = UInt8.ofNat (48 + m % 10) := by unfold hexD; rw [if_pos (by omega)]
  rw [e]; simp
theorem decs_last (m u : Nat) (L : List UInt8) (h : m < 10) (hd : decs m ++ L = decs u) : hexD (m % 10) :: L = decs u := by
  rw [← hd, decs_small h]
  have e : hexD (m % 10) = UInt8.ofNat (48 + m) := by unfold hexD; rw [if_pos (by omega), Nat.mod_eq_of_lt h]
  rw [e]; rfl

theorem add_at (b o j : Nat) : (⟨b, o, none⟩ : Addr).add j = ⟨b, o + j, none⟩ := by unfold Addr.add; split <;> simp_all
theorem drop_set (C : Array Value) (k : Nat) (v : Value) (L : List Value) (hk : k < C.size) (h : C.toList.drop (k + 1) = L) : (C.setIfInBounds k v).toList.drop k = v :: L := by
  rw [Array.toList_setIfInBounds, ← h, List.drop_set]
  rw [if_neg (by omega), Nat.sub_self]
  rw [List.drop_eq_getElem_cons (by simpa using hk)]
  rfl

end Go.Proofs.Ytlmmnjoincmgcaa

namespace Go.Proofs.Ytlmmnjoincmgcaa
set_option linter.unusedVariables false
set_option linter.unusedSimpArgs false
set_option maxRecDepth 100000
open Go.RowKit
attribute [local go_sem ↓] Go.wp_at_zero Go.wp_at_succ

/-- A slice that reads as the bytes l. -/
def Bytes (w : World) (v : Value) (l : List UInt8) : Prop :=
  ∃ a cap, v = .slice a l.length cap ∧ (l = [] ∨ ∃ b off, a = some ⟨b, off, none⟩ ∧ ∀ i, i < l.length → w.cell? ⟨b, off + i, none⟩ = some (.int .u8 (l.getD i 0).toNat))

theorem Bytes.below {w w' : World} {v : Value} {l : List UInt8} (h : Bytes w v l) (hb : Below w.heap.size w w') : Bytes w' v l := by
  obtain ⟨a, cap, hv, h⟩ := h
  refine ⟨a, cap, hv, ?_⟩
  rcases h with h | ⟨b, off, ha, hc⟩
  · exact .inl h
  · exact .inr ⟨b, off, ha, fun i hi => (hb.cell (p := ⟨b, off + i, none⟩) (World.block_lt_of_cell? w _ (hc i hi))).trans (hc i hi)⟩

theorem Try.info5 : (Try.prog.info? 5).map (fun i => (i.zero, i.size, i.bytes)) = some (some (.int .u8 0), 1, 1) := by kernel_rfl

def cellsOf (l : List UInt8) : List Value := l.map fun b => Value.int .u8 b.toNat

theorem hex_round (u : UInt8) : u.toNat / 16 < 16 ∧ u.toNat % 16 < 16 := by have := UInt8.toNat_lt u; omega

theorem and15 (u : UInt8) : bits BinOp.and IntKind.u8 (u.toNat : Int) 15 = (u.toNat : Int) % 16 := by
  have key : ∀ i : Fin 256, bits BinOp.and IntKind.u8 (i.val : Int) 15 = (i.val : Int) % 16 := by decide +kernel
  exact key ⟨u.toNat, UInt8.toNat_lt u⟩

theorem hexdigit_int (i : Int) (j : Nat) (hj : j < 16) (e : i = j) (h : i.toNat < (⟨#[48, 49, 50, 51, 52, 53, 54, 55, 56, 57, 97, 98, 99, 100, 101, 102]⟩ : ByteArray).size) : ((⟨#[48, 49, 50, 51, 52, 53, 54, 55, 56, 57, 97, 98, 99, 100, 101, 102]⟩ : ByteArray)[i.toNat]'h).toNat = (hexD j).toNat := by
  subst e
  exact hexdigit_at j hj h

theorem hex_rel {l : List UInt8} {k : Nat} {u : UInt8} {w wr w1 : World} {o : Obj} {v v' : Value} {n : Nat} (hlt : k < l.length) (hu : u = l.getD k 0) (hB : Below w.heap.size w wr)
    (ho : ∀ g, v.ownBlock = some g → w.heap.size ≤ g)
    (h : w1.ownsRow w.heap.size 5 1 v' n (cellsOf (hexOf (l.take k)) ++ cellsOf (hexB u))) (hg : (wr.alloc o).drew.grownBy w1 v.ownBlock) :
    w1.ownsRow w.heap.size 5 1 v' n (cellsOf (hexOf (l.take (k + 1)))) ∧ Below w.heap.size w w1 := by
  refine ⟨?_, ((hB.alloc hB.size o).drew).grown hg (by have := hB.size; show w.heap.size ≤ (wr.alloc o).heap.size; simp; omega) (fun g hg => ho g hg)⟩
  have e : cellsOf (hexOf (l.take (k + 1))) = cellsOf (hexOf (l.take k)) ++ cellsOf (hexB u) := by
    rw [List.take_succ_eq_append_getElem hlt, hexOf_snoc, hu]
    simp [cellsOf, List.getD, List.getElem?_eq_getElem hlt]
  rw [e]; exact h

/-- What an owned row of bytes is as a text. -/
theorem hex_end {w : World} {base : Nat} {v : Value} {L : List UInt8} (h : w.ownsRow base 5 1 v L.length (cellsOf L)) :
    (v = .slice none 0 0 ∧ L = []) ∨ ∃ g cap, v = .slice (some ⟨g, 0, none⟩) L.length cap ∧ (convert 23 9 (.slice (some ⟨g, 0, none⟩) L.length cap)).run Try.prog w = .ok (.string ⟨L.toArray⟩) w := by
  rcases h.2 with ⟨hv, hn⟩ | ⟨g, cap, cur, hv, _⟩
  · exact .inl ⟨hv, List.length_eq_zero_iff.mp hn⟩
  · refine .inr ⟨g, cap, hv, ?_⟩
    refine run_convert_bytes_back _ _ _ _ _ _ L Try.underlying23 Try.underlying5 Try.underlying9 fun j hj => ?_
    refine h.cells (g := g) (by rw [hv]; rfl) j _ ?_
    simp [cellsOf, List.getElem?_eq_getElem hj]

end Go.Proofs.Ytlmmnjoincmgcaa

namespace Go.Proofs.Ytlmmnjoincmgcaa
set_option linter.unusedVariables false
set_option linter.unusedSimpArgs false
set_option maxRecDepth 100000
open Go.RowKit
attribute [local go_sem ↓] Go.wp_at_zero Go.wp_at_succ

theorem conv2 (wx : World) (x y : Int) : (convert 23 9 (.slice (some ⟨wx.heap.size, 0, none⟩) 2 2)).run Try.prog (wx.alloc (.cells #[.int .u8 x, .int .u8 y] 5)).drew = .ok (.string (strOfNums [x, y])) (wx.alloc (.cells #[.int .u8 x, .int .u8 y] 5)).drew :=
  run_convert_bytes_arg _ _ _ Try.underlying23 Try.underlying5 _ _ _ _ [x, y] rfl (fun i hi => by
    have hi1 : i < 2 := hi
    show (wx.alloc (.cells #[.int .u8 x, .int .u8 y] 5)).cell? _ = _
    rw [Nat.zero_add, World.cell?_alloc_mark]
    match i, hi1 with
    | 0, _ => rfl
    | 1, _ => rfl) _ Try.underlying9

theorem rhex_rel {l : List UInt8} {k : Nat} {u : UInt8} {s : ByteArray} (hlt : k < l.length) (hu : u = l.getD k 0) (hs : s.data.toList = hexOf (l.take k)) :
    (s ++ strOfNums [hexI ((u.toNat : Int) / 16), hexI ((u.toNat : Int) % 16)]).data.toList = hexOf (l.take (k + 1)) := by
  rw [List.take_succ_eq_append_getElem hlt, hexOf_snoc, ByteArray.data_append, Array.toList_append, hs, strOfNums_data]
  have hb := UInt8.toNat_lt u
  have e : l[k] = u := by rw [hu]; simp [List.getD, List.getElem?_eq_getElem hlt]
  rw [e]
  have h1 := hexI_hexD (u.toNat / 16) (by omega)
  have h2 := hexI_hexD (u.toNat % 16) (by omega)
  simp only [List.map_cons, List.map_nil, hexB]
  rw [show (u.toNat : Int) / 16 = ((u.toNat / 16 : Nat) : Int) by omega, show (u.toNat : Int) % 16 = ((u.toNat % 16 : Nat) : Int) by omega, h1, h2]
  simp

theorem wrap_q (u : UInt8) : IntKind.u8.wrap ((u.toNat : Int) / 16) = (u.toNat : Int) / 16 := by
  have := UInt8.toNat_lt u
  simp [IntKind.wrap, IntKind.bits, IntKind.signed]; omega
theorem wrap_r (u : UInt8) : IntKind.u8.wrap ((u.toNat : Int) % 16) = (u.toNat : Int) % 16 := by
  simp [IntKind.wrap, IntKind.bits, IntKind.signed]; omega
theorem tmod_q (u : UInt8) : (u.toNat : Int).tmod 16 = (u.toNat : Int) % 16 := Int.tmod_eq_emod_of_nonneg (by omega)

end Go.Proofs.Ytlmmnjoincmgcaa

namespace Go.Proofs.Ytlmmnjoincmgcaa
set_option linter.unusedVariables false
set_option linter.unusedSimpArgs false
set_option maxRecDepth 100000
open Go.RowKit
attribute [local go_sem ↓] Go.wp_at_zero Go.wp_at_succ

def HexRet (w : World) (l : List UInt8) (e : Ending) (w' : World) : Prop :=
  ∃ v, e = .returned (.tuple #[v, .int .i64 (hxCode l)]) ∧ Bytes w' v (hxBytes l) ∧ Below w.heap.size w w'

theorem bytes_nil (w : World) : Bytes w (.slice none 0 0) [] := ⟨none, 0, rfl, .inl rfl⟩

theorem bytes_own {w : World} {base : Nat} {v : Value} {n : Nat} {L : List UInt8} (h : w.ownsRow base 5 1 v n (cellsOf L)) : Bytes w v L := by
  have hl : n = L.length := by have := h.1; simp [cellsOf] at this; omega
  rcases h.2 with ⟨hv, hn⟩ | ⟨g, cap, cur, hv, _⟩
  · obtain rfl : L = [] := List.length_eq_zero_iff.mp (by omega)
    exact ⟨none, 0, hv, .inl rfl⟩
  · refine ⟨some ⟨g, 0, none⟩, cap, by rw [hv, hl], .inr ⟨g, 0, rfl, fun i hi => ?_⟩⟩
    have := h.cells (g := g) (by rw [hv]; rfl) i (Value.int .u8 (L.getD i 0).toNat) (by simp [cellsOf, List.getElem?_eq_getElem hi, List.getD])
    rw [add_at] at this
    exact this

theorem unhex_len : ∀ n (l : List UInt8), l.length = 2 * n → (unhex l).length = n := by
  intro n
  induction n with
  | zero => intro l h; have : l = [] := by simpa using h
            subst this; rfl
  | succ n ih =>
    intro l h
    match l, h with
    | a :: b :: l, h => simp only [unhex, List.length_cons]; rw [ih l (by simp at h; omega)]

theorem take_two (s : ByteArray) (k : Nat) (h : k + 1 < s.size) : s.data.toList.take (k + 2) = s.data.toList.take k ++ [s[k], s[k + 1]] := by
  rw [show k + 2 = k + 1 + 1 by omega, take_snoc s (k + 1) h, take_snoc s k (by omega)]; simp
theorem unhex_next (s : ByteArray) (k : Nat) (c d : UInt8) (h : k + 1 < s.size) (he : k % 2 = 0) (hc : s[k] = c) (hd : s[k + 1] = d) : unhex (s.data.toList.take (k + 2)) = unhex (s.data.toList.take k) ++ [two c d] := by
  rw [take_two s k h, hc, hd]
  exact unhex_snoc2 (k / 2) _ _ _ (by rw [List.length_take]; have : s.data.toList.length = s.size := by simp
                                      omega)

theorem or16 (a b : Int) (ha : 0 ≤ a) (ha2 : a < 16) (hb : 0 ≤ b) (hb2 : b < 16) : bits BinOp.or IntKind.u64 (a * 16) b = a * 16 + b := by
  have key : ∀ i j : Fin 16, bits BinOp.or IntKind.u64 ((i.val : Int) * 16) (j.val : Int) = (i.val : Int) * 16 + j.val := by decide +kernel
  have := key ⟨a.toNat, by omega⟩ ⟨b.toNat, by omega⟩
  rw [show ((⟨a.toNat, by omega⟩ : Fin 16).val : Int) = a by simp; omega, show ((⟨b.toNat, by omega⟩ : Fin 16).val : Int) = b by simp; omega] at this
  exact this
theorem wrap_u64 (a : Int) (h0 : 0 ≤ a) (h : a < 18446744073709551616) : IntKind.u64.wrap a = a := by
  simp only [IntKind.wrap, IntKind.bits, IntKind.signed]; simp; omega
theorem wrap_u8 (a : Int) (h0 : 0 ≤ a) (h : a < 256) : IntKind.u8.wrap a = a := by
  simp only [IntKind.wrap, IntKind.bits, IntKind.signed]; simp; omega
theorem wrap_i64 (a : Int) (h0 : 0 ≤ a) (h : a < 9223372036854775808) : IntKind.i64.wrap a = a := by
  simp only [IntKind.wrap, IntKind.bits, IntKind.signed]; simp; omega
theorem wrap_i32 (a : Int) (h0 : 0 ≤ a) (h : a < 2147483648) : IntKind.i32.wrap a = a := by
  simp only [IntKind.wrap, IntKind.bits, IntKind.signed]; simp; omega

theorem two_val (c d : UInt8) (hc : val c.toNat < 16) (hd : val d.toNat < 16) : ((two c d).toNat : Int) = val c.toNat * 16 + val d.toNat := by
  have b1 := val_bd c.toNat
  have b2 := val_bd d.toNat
  unfold two
  rw [toNat_ofNat (by omega)]; omega

theorem readhex_rel {L L2 : List UInt8} {b : UInt8} {x : Int} {w wr w1 : World} {o : Obj} {v v' : Value} {n : Nat} (hn : L2 = L ++ [b]) (hb : (b.toNat : Int) = x) (hB : Below w.heap.size w wr)
    (ho : ∀ g, v.ownBlock = some g → w.heap.size ≤ g)
    (h : w1.ownsRow w.heap.size 5 1 v' n (cellsOf L ++ [.int .u8 x])) (hg : (wr.alloc o).drew.grownBy w1 v.ownBlock) :
    w1.ownsRow w.heap.size 5 1 v' n (cellsOf L2) ∧ Below w.heap.size w w1 := by
  refine ⟨?_, ((hB.alloc hB.size o).drew).grown hg (by have := hB.size; show w.heap.size ≤ (wr.alloc o).heap.size; simp; omega) (fun g hg => ho g hg)⟩
  have e : cellsOf L2 = cellsOf L ++ [.int .u8 x] := by rw [hn, ← hb]; simp [cellsOf]
  rw [e]; exact h

end Go.Proofs.Ytlmmnjoincmgcaa

namespace Go.Proofs.Ytlmmnjoincmgcaa
set_option linter.unusedVariables false
set_option linter.unusedSimpArgs false
set_option maxRecDepth 100000
open Go.RowKit
attribute [local go_sem ↓] Go.wp_at_zero Go.wp_at_succ

theorem digs16_next (s : ByteArray) (k : Nat) (h : k < s.size) (hd : digs (s.data.toList.take k) 16 = true) (h1 : val (s[k]).toNat < 16) : digs (s.data.toList.take (k + 1)) 16 = true := by
  rw [take_snoc s k h, digs_snoc, hd, Bool.true_and, decide_eq_true_eq]; exact h1

end Go.Proofs.Ytlmmnjoincmgcaa

namespace Go.Proofs.Ytlmmnjoincmgcaa
set_option linter.unusedVariables false
set_option linter.unusedSimpArgs false
set_option maxRecDepth 100000
open Go.RowKit

theorem digs_take_one (s : ByteArray) (k : Nat) (h : k < s.size) (hd : digs (s.data.toList.take k) 10 = true) (h1 : 48 ≤ (s[k]).toNat) (h2 : (s[k]).toNat ≤ 57) : digs (s.data.toList.take (k + 1)) 10 = true := by
  rw [take_snoc s k h, digs_snoc, hd, Bool.true_and, decide_eq_true_eq, val_dec]; omega
theorem digs_bad (s : ByteArray) (k : Nat) (h : k < s.size) (hb : (s[k]).toNat < 48 ∨ 57 < (s[k]).toNat) : digs s.data.toList 10 = false := by
  refine digs_no (mem_of s k h) ?_
  have := val_dec (s[k]).toNat
  omega

end Go.Proofs.Ytlmmnjoincmgcaa

namespace Go.Proofs.Ytlmmnjoincmgcaa
set_option linter.unusedVariables false
set_option linter.unusedSimpArgs false
set_option maxRecDepth 100000
open Go.RowKit

theorem bytes_conv {w : World} {v : Value} {l : List UInt8} (h : Bytes w v l) : ∃ a cap, v = .slice a l.length cap ∧ (convert 23 9 (.slice a l.length cap)).run Try.prog w = .ok (.string ⟨l.toArray⟩) w := by
  obtain ⟨a, cap, hv, h⟩ := h
  refine ⟨a, cap, hv, ?_⟩
  rcases h with rfl | ⟨b, off, rfl, hc⟩
  · rw [run_convert_bytes_string w _ _ _ a _ cap Try.underlying23 Try.underlying5 Try.underlying9]
    cases a with
    | none => rfl
    | some a => exact run_bytesToString w a 0 cap [] (by rfl)
  · refine run_convert_bytes_back _ _ _ _ _ _ l Try.underlying23 Try.underlying5 Try.underlying9 fun j hj => ?_
    rw [add_at, hc j hj]
    simp [List.getD, List.getElem?_eq_getElem hj]

theorem same_any (va vb : Value) (la lb : List UInt8) (w : World) (ha : Bytes w va la) (hb : Bytes w vb lb) :
    Calls Try.prog 40 #[va, vb] w fun e w' => e = .returned (.bool (la == lb)) ∧ w = w' := by
  obtain ⟨a, c1, rfl, h1⟩ := bytes_conv ha
  obtain ⟨b, c2, rfl, h2⟩ := bytes_conv hb
  clear ha hb
  go_enter Try.func40, Try.ntmps40
  go_wp2_with fail
  go_ret
  exact ⟨rfl, rfl⟩

theorem Below.next {w a b : World} (h : Below w.heap.size w a) (k : Below a.heap.size a b) : Below w.heap.size w b := h.trans (k.mono h.size)
theorem below3 {w a b c : World} (h1 : Below w.heap.size w a) (h2 : Below a.heap.size a b) (h3 : Below b.heap.size b c) : Below w.heap.size w c := Below.next (Below.next h1 h2) h3
theorem below4 {w a b c d : World} (h1 : Below w.heap.size w a) (h2 : Below a.heap.size a b) (h3 : Below b.heap.size b c) (h4 : Below c.heap.size c d) : Below w.heap.size w d := Below.next (below3 h1 h2 h3) h4
theorem below5 {w a b c d e : World} (h1 : Below w.heap.size w a) (h2 : Below a.heap.size a b) (h3 : Below b.heap.size b c) (h4 : Below c.heap.size c d) (h5 : Below d.heap.size d e) : Below w.heap.size w e := Below.next (below4 h1 h2 h3 h4) h5

end Go.Proofs.Ytlmmnjoincmgcaa

namespace Go.Proofs.Ytlmmnjoincmgcaa
set_option linter.unusedVariables false
set_option linter.unusedSimpArgs false
set_option maxRecDepth 100000
open Go.RowKit

def bitAt (a : List UInt8) (i : Nat) : Nat := (a.getD (i / 8) 0).toNat / 2 ^ (7 - i % 8) % 2
def rightP (n : Nat) (bits : Int) : Bool := (n == 4 || n == 16) && (decide (0 ≤ bits) && decide (bits ≤ 8 * n))
def hasP (a : List UInt8) (bits : Int) (b : List UInt8) : Bool := rightP a.length bits && (b.length == a.length && (List.range bits.toNat).all fun i => bitAt b i == bitAt a i)
theorem beq_i {b c : Int} (h : b = c) : (b == c) = true := by simp [h]
theorem bne_i {b c : Int} (h : b ≠ c) : (b == c) = false := beqf h
theorem bneq_i {b c : Int} (h : b = c) : (b != c) = false := by simp [h]
theorem bnne_i {b c : Int} (h : b ≠ c) : (b != c) = true := by simpa using h
theorem tmod_cast (x s : Nat) : ((x : Int) / 2 ^ s).tmod 2 = ((x / 2 ^ s % 2 : Nat) : Int) := by
  have e : ((x : Int) / 2 ^ s) = ((x / 2 ^ s : Nat) : Int) := by simp
  rw [e, Int.tmod_eq_emod_of_nonneg (Int.natCast_nonneg _)]
  simp
theorem bytes_cell {w : World} {a : Option Addr} {l : List UInt8} {cap : Nat} (h : Bytes w (.slice a l.length cap) l) (h0 : 0 < l.length) : ∃ b off, a = some ⟨b, off, none⟩ ∧ ∀ i, i < l.length → w.cell? ⟨b, off + i, none⟩ = some (.int .u8 (l.getD i 0).toNat) := by
  obtain ⟨a', cap', e, h⟩ := h
  injection e with e1 e2 e3
  subst e1
  rcases h with h | ⟨b, off, rfl, h⟩
  · rw [h] at h0; simp at h0
  · exact ⟨b, off, rfl, h⟩
theorem rbit_any (v : Value) (l : List UInt8) (i : Nat) (w : World) (hv : Bytes w v l) (hi : i / 8 < l.length) (hl : l.length ≤ 100000) :
    Calls Try.prog 23 #[v, .int .i64 i] w fun e w' => e = .returned (.int .u8 (bitAt l i)) ∧ w' = w := by
  obtain ⟨a, cap, rfl, _⟩ := id hv
  obtain ⟨b, off, rfl, hc⟩ := bytes_cell hv (by omega)
  have c1 := hc (i / 8) hi
  have hx : (l.getD (i / 8) 0).toNat < 256 := UInt8.toNat_lt _
  unfold bitAt
  generalize (l.getD (i / 8) 0).toNat = x at *
  have hi0 : (0 : Int) ≤ i := by omega
  have hi1 : (0 : Int) ≤ (i : Int) / 8 := by omega
  have hi2 : (i : Int) / 8 < l.length := by omega
  have hi3 : (i : Int) ≤ 1000000 := by omega
  have hr0 : (0 : Int) ≤ (i : Int) % 8 := by omega
  have hr1 : (i : Int) % 8 ≤ 7 := by omega
  clear hv hc
  go_enter Try.func23, Try.ntmps23
  go_wp2_with fail
  go_ret
  exact ⟨ret_int (tmod_cast x _), rfl⟩
def RightRet (w : World) (r : Bool) (e : Ending) (w' : World) : Prop := e = .returned (.bool r) ∧ Below w.heap.size w w'
theorem right_ret {w : World} {r r' : Bool} (h : r' = r) (o : Obj) : RightRet w r (.returned (.bool r')) (w.alloc o) := ⟨by rw [h], (Below.refl _ _).alloc (Nat.le_refl _) _⟩
theorem rright_any (ad : Option Addr) (n cp : Nat) (bits : Int) (hn : n ≤ 100000) (w : World) :
    Calls Try.prog 7 #[.agg #[.slice ad n cp, .int .i64 bits]] w (RightRet w (rightP n bits)) := by
  have hni : (n : Int) ≤ 100000 := by omega
  have hni0 : (0 : Int) ≤ n := by omega
  have hcase : (n ≠ 4 ∧ n ≠ 16) ∨ (n = 4 ∨ n = 16) := by omega
  rcases hcase with ⟨h4, h16⟩ | hr
  · have HR : Hid (rightP n bits = false) := Lib.hid (by unfold rightP; simp [h4, h16])
    have e4 : ((n : Int) == 4) = false := bne_i (by omega)
    have e16 : ((n : Int) == 16) = false := bne_i (by omega)
    clear h4 h16
    go_enter Try.func7, Try.ntmps7
    go_wp2_with fail
    go_ret
    exact right_ret (by first | (rw [HR.out]; done) | (rw [HR.out]; exact decide_eq_false (by omega)) | (rw [HR.out]; exact decide_eq_true (by omega))) _
  · have hb : (((n : Int) == 4) = true) ∨ (((n : Int) == 4) = false ∧ ((n : Int) == 16) = true) := by
      rcases hr with h | h
      · left; exact beq_i (by omega)
      · right; exact ⟨bne_i (by omega), beq_i (by omega)⟩
    by_cases h0 : 0 ≤ bits
    · by_cases h1 : bits ≤ 8 * n
      · have HR : Hid (rightP n bits = true) := Lib.hid (by unfold rightP; rcases hr with h | h <;> simp [h, h0] <;> (rw [h] at h1; simpa using h1))
        clear hr
        rcases hb with e4 | ⟨e4, e16⟩
        all_goals
          go_enter Try.func7, Try.ntmps7
          go_wp2_with fail
          go_ret
          exact right_ret (by first | (rw [HR.out]; done) | (rw [HR.out]; exact decide_eq_false (by omega)) | (rw [HR.out]; exact decide_eq_true (by omega))) _
      · have HR : Hid (rightP n bits = false) := Lib.hid (by unfold rightP; rw [show decide (bits ≤ 8 * (n : Int)) = false from decide_eq_false h1]; simp)
        have h2 : 8 * (n : Int) < bits := by omega
        clear hr h1
        rcases hb with e4 | ⟨e4, e16⟩
        all_goals
          go_enter Try.func7, Try.ntmps7
          go_wp2_with fail
          go_ret
          exact right_ret (by first | (rw [HR.out]; done) | (rw [HR.out]; exact decide_eq_false (by omega)) | (rw [HR.out]; exact decide_eq_true (by omega))) _
    · have HR : Hid (rightP n bits = false) := Lib.hid (by unfold rightP; rw [show decide (0 ≤ bits) = false from decide_eq_false h0]; simp)
      have h2 : bits < 0 := by omega
      clear hr h0
      rcases hb with e4 | ⟨e4, e16⟩
      all_goals
        go_enter Try.func7, Try.ntmps7
        go_wp2_with fail
        go_ret
        exact right_ret (by first | (rw [HR.out]; done) | (rw [HR.out]; exact decide_eq_false (by omega)) | (rw [HR.out]; exact decide_eq_true (by omega))) _
end Go.Proofs.Ytlmmnjoincmgcaa

namespace Go.Proofs.Ytlmmnjoincmgcaa
set_option linter.unusedVariables false
set_option linter.unusedSimpArgs false
set_option maxRecDepth 100000
open Go.RowKit

theorem below_one {w : World} (o : Obj) : Below w.heap.size w (w.alloc o) := (Below.refl _ _).alloc (Nat.le_refl _) _
theorem below_dr {B : Nat} {w a : World} (h : Below B w a) (n : Nat) : Below B w (a.drewN n) := ⟨h.os, h.tape, h.output, h.size, h.block⟩
theorem all_next_bit {a b : List UInt8} {k : Nat} (h : ((List.range k).all fun i => bitAt b i == bitAt a i) = true) (he : bitAt b k = bitAt a k) : ((List.range (k + 1)).all fun i => bitAt b i == bitAt a i) = true := by
  rw [List.range_succ, List.all_append, h]
  simp [he]
theorem all_bad_bit {a b : List UInt8} {k m : Nat} (hk : k < m) (he : bitAt b k ≠ bitAt a k) : ((List.range m).all fun i => bitAt b i == bitAt a i) = false := by
  rw [List.all_eq_false]
  exact ⟨k, List.mem_range.2 hk, by simpa using he⟩
theorem right_len {n : Nat} {bits : Int} (h : rightP n bits = true) : (n = 4 ∨ n = 16) ∧ 0 ≤ bits ∧ bits ≤ 8 * n := by
  unfold rightP at h
  simp only [Bool.and_eq_true, Bool.or_eq_true, beq_iff_eq, decide_eq_true_eq] at h
  exact ⟨h.1, h.2.1, h.2.2⟩
theorem rright_v (ad : Option Addr) (n cp : Nat) (bits : Int) (hn : n ≤ 100000) (r : Bool) (hr : rightP n bits = r) (w : World) :
    Calls Try.prog 7 #[.agg #[.slice ad n cp, .int .i64 bits]] w fun e w' => e = .returned (.bool r) ∧ Below w.heap.size w w' := by
  subst hr; exact rright_any ad n cp bits hn w
theorem rbit_v (v : Value) (l : List UInt8) (i : Nat) (w : World) (hv : Bytes w v l) (hi : i / 8 < l.length) (hl : l.length ≤ 100000) (x : Nat) (hx : bitAt l i = x) :
    Calls Try.prog 23 #[v, .int .i64 i] w fun e w' => e = .returned (.int .u8 x) ∧ w' = w := by
  subst hx; exact rbit_any v l i w hv hi hl
def HasW (w wr : World) (ad : Option Addr) (n cp : Nat) (bits : Int) : Prop := wr.cell? ⟨w.heap.size, 0, none⟩ = some (.slice ad n cp) ∧ wr.cell? ⟨w.heap.size, 1, none⟩ = some (.int .i64 bits) ∧ Below w.heap.size w wr
theorem hasw_drew {w wr : World} {ad : Option Addr} {n cp : Nat} {bits : Int} (h : HasW w wr ad n cp bits) (m : Nat) : HasW w (wr.drewN m) ad n cp bits := ⟨h.1, h.2.1, below_dr h.2.2 m⟩
theorem rhas_any (a b : List UInt8) (ad : Option Addr) (vb : Value) (cp : Nat) (bits : Int) (w : World) (ha : Bytes w (.slice ad a.length cp) a) (hb : Bytes w vb b) (hal : a.length ≤ 100000) (hbl : b.length ≤ 100000) :
    Calls Try.prog 31 #[.agg #[.slice ad a.length cp, .int .i64 bits], vb] w (RightRet w (hasP a bits b)) := by
  have HVA0 := Lib.hid ha
  have HVB0 := Lib.hid hb
  obtain ⟨bd, cb, rfl, _⟩ := id hb
  have HAL := Lib.hid hal
  have HBL := Lib.hid hbl
  have hali : (a.length : Int) ≤ 100000 := by omega
  have hbli : (b.length : Int) ≤ 100000 := by omega
  clear ha hb
  cases hr : rightP a.length bits with
  | false =>
    have HR : Hid (hasP a bits b = false) := Lib.hid (by unfold hasP; rw [hr]; rfl)
    have HRI := Lib.hid (rright_v ad a.length cp bits hal false hr)
    clear hr hal hbl
    go_enter Try.func31, Try.ntmps31
    go_wp2_with (first | (go_at_call 7; ((with_reducible refine (HRI.out _).mono ?_); rintro e w2 ⟨rfl, hb2⟩; have hbx := (hb2.block _ (Array.getElem?_eq_some_iff.1 (heap_alloc_new w (.cells #[.slice ad a.length cp, .int .i64 bits] 29))).1).trans (heap_alloc_new w (.cells #[.slice ad a.length cp, .int .i64 bits] 29)); have HB := Lib.hid ((below_one (.cells #[.slice ad a.length cp, .int .i64 bits] 29)).trans (hb2.mono (by simp))); have HX := Lib.hid hbx; have c0 : w2.cell? ⟨w.heap.size, 0, none⟩ = some (.slice ad a.length cp) := cell_of hbx 0 rfl; have c1 : w2.cell? ⟨w.heap.size, 1, none⟩ = some (.int .i64 bits) := cell_of hbx 1 rfl; clear hb2 hbx)) | fail)
    go_ret
    exact ⟨ret_bool HR.out.symm, HB.out⟩
  | true =>
    have HRI := Lib.hid (rright_v ad a.length cp bits hal true hr)
    obtain ⟨hlen4, hb0, hb8⟩ := right_len hr
    by_cases hlen : b.length = a.length
    · have hne : ((b.length : Int) != a.length) = false := bneq_i (by omega)
      have HRR : Hid (hasP a bits b = (List.range bits.toNat).all fun i => bitAt b i == bitAt a i) := Lib.hid (by unfold hasP; rw [hr]; simp [hlen])
      have HLEN := Lib.hid hlen
      have HL4 := Lib.hid hlen4
      clear hr hlen hlen4 hal hbl
      go_enter Try.func31, Try.ntmps31
      go_wp2_with (first | (go_at_call 7; ((with_reducible refine (HRI.out _).mono ?_); rintro e w2 ⟨rfl, hb2⟩; have hbx := (hb2.block _ (Array.getElem?_eq_some_iff.1 (heap_alloc_new w (.cells #[.slice ad a.length cp, .int .i64 bits] 29))).1).trans (heap_alloc_new w (.cells #[.slice ad a.length cp, .int .i64 bits] 29)); have HB := Lib.hid ((below_one (.cells #[.slice ad a.length cp, .int .i64 bits] 29)).trans (hb2.mono (by simp))); have HX := Lib.hid hbx; have c0 : w2.cell? ⟨w.heap.size, 0, none⟩ = some (.slice ad a.length cp) := cell_of hbx 0 rfl; have c1 : w2.cell? ⟨w.heap.size, 1, none⟩ = some (.int .i64 bits) := cell_of hbx 1 rfl; clear hb2 hbx)) | fail)
      go_loopw [5] (fun i wr => ∃ k : Nat, i = .int .i64 k ∧ (k : Int) ≤ bits ∧ HasW w wr ad a.length cp bits ∧ ((List.range k).all fun i => bitAt b i == bitAt a i) = true) (fun i _ => bits.toNat - (intOf i).toNat)
      case atStart => exact ⟨0, rfl, by omega, ⟨c0, c1, HB.out⟩, rfl⟩
      case round =>
        obtain ⟨k, rfl, hk, ⟨d0, d1, hbw⟩, hall⟩ := hrel
        clear c0 c1
        have HW : Hid (HasW w wr ad a.length cp bits) := Lib.hid ⟨d0, d1, hbw⟩
        clear hbw
        have HALL := Lib.hid hall
        clear hall
        by_cases hlt : (k : Int) < bits
        · have HKA : Hid (k / 8 < a.length) := Lib.hid (by omega)
          have HKB : Hid (k / 8 < b.length) := Lib.hid (by rw [HLEN.out]; omega)
          obtain ⟨x, hx⟩ : ∃ x, bitAt b k = x := ⟨_, rfl⟩
          obtain ⟨y, hy⟩ : ∃ y, bitAt a k = y := ⟨_, rfl⟩
          have HXB := Lib.hid hx
          have HXA := Lib.hid hy
          have HVA : Hid (∀ n, Bytes (wr.drewN n) (.slice ad a.length cp) a) := Lib.hid (fun n => HVA0.out.below (below_dr HW.out.2.2 _))
          have HVB : Hid (∀ n, Bytes (wr.drewN n) (.slice bd b.length cb) b) := Lib.hid (fun n => HVB0.out.below (below_dr HW.out.2.2 _))
          by_cases hxy : x = y
          · have HN := Lib.hid (all_next_bit HALL.out (by rw [hx, hy, hxy]))
            have exy : ((x : Int) != y) = false := bneq_i (by omega)
            clear hx hy hxy
            go_wp2_with fail
            go_quiet (first | (go_at_call 23; with_reducible refine Calls.quiet_of_same (rbit_v _ _ k _ (HVB.out _) HKB.out HBL.out x HXB.out)) | (go_at_call 23; with_reducible refine Calls.quiet_of_same (rbit_v _ _ k _ (HVA.out _) HKA.out HAL.out y HXA.out)))
            go_wp2
            go_roundw
            case rel => exact ⟨k + 1, by go_num, by omega, hasw_drew HW.out _, HN.out⟩
            case measure => simp [intOf]; omega
          · have HN : Hid (hasP a bits b = false) := Lib.hid (by rw [HRR.out]; exact all_bad_bit (k := k) (by omega) (by rw [hx, hy]; exact hxy))
            have exy : ((x : Int) != y) = true := bnne_i (by omega)
            clear hx hy hxy
            go_wp2_with fail
            go_quiet (first | (go_at_call 23; with_reducible refine Calls.quiet_of_same (rbit_v _ _ k _ (HVB.out _) HKB.out HBL.out x HXB.out)) | (go_at_call 23; with_reducible refine Calls.quiet_of_same (rbit_v _ _ k _ (HVA.out _) HKA.out HAL.out y HXA.out)))
            go_wp2
            go_ret
            exact ⟨ret_bool HN.out.symm, below_dr HW.out.2.2 _⟩
        · have HN : Hid (hasP a bits b = true) := Lib.hid (by rw [HRR.out, show bits.toNat = k by omega]; exact HALL.out)
          go_wp2_with fail
          go_ret
          exact ⟨ret_bool HN.out.symm, HW.out.2.2⟩
    · have hne : ((b.length : Int) != a.length) = true := bnne_i (by omega)
      have HR : Hid (hasP a bits b = false) := Lib.hid (by unfold hasP; rw [show (b.length == a.length) = false by simpa using hlen]; simp)
      clear hr hlen hlen4 hal hbl
      go_enter Try.func31, Try.ntmps31
      go_wp2_with (first | (go_at_call 7; ((with_reducible refine (HRI.out _).mono ?_); rintro e w2 ⟨rfl, hb2⟩; have hbx := (hb2.block _ (Array.getElem?_eq_some_iff.1 (heap_alloc_new w (.cells #[.slice ad a.length cp, .int .i64 bits] 29))).1).trans (heap_alloc_new w (.cells #[.slice ad a.length cp, .int .i64 bits] 29)); have HB := Lib.hid ((below_one (.cells #[.slice ad a.length cp, .int .i64 bits] 29)).trans (hb2.mono (by simp))); have HX := Lib.hid hbx; have c0 : w2.cell? ⟨w.heap.size, 0, none⟩ = some (.slice ad a.length cp) := cell_of hbx 0 rfl; have c1 : w2.cell? ⟨w.heap.size, 1, none⟩ = some (.int .i64 bits) := cell_of hbx 1 rfl; clear hb2 hbx)) | fail)
      go_ret
      exact ⟨ret_bool HR.out.symm, HB.out⟩
end Go.Proofs.Ytlmmnjoincmgcaa

namespace Go.Proofs.Ytlmmnjoincmgcaa
set_option linter.unusedVariables false
set_option linter.unusedSimpArgs false
set_option maxRecDepth 100000
open Go.RowKit

def keepH (c r : Nat) : Nat := c / 2 ^ (8 - r) * 2 ^ (8 - r)
theorem keepH_le (c r : Nat) : keepH c r ≤ c := Nat.div_mul_le_self c _
theorem keepH_next {c r : Nat} (hr : r < 8) : keepH c (r + 1) = keepH c r + c / 2 ^ (7 - r) % 2 * 2 ^ (7 - r) := by
  unfold keepH
  rw [show 8 - (r + 1) = 7 - r by omega, show 8 - r = (7 - r) + 1 by omega]
  obtain ⟨m, hm⟩ : ∃ m, 2 ^ (7 - r) = m := ⟨_, rfl⟩
  have hm0 : 0 < m := by rw [← hm]; exact Nat.pow_pos (by omega)
  rw [Nat.pow_succ, hm]
  rw [← Nat.div_div_eq_div_mul]
  have h1 : c / m = c / m / 2 * 2 + c / m % 2 := by omega
  conv => lhs; rw [h1]
  rw [Nat.add_mul, Nat.mul_assoc, Nat.mul_comm 2 m]
def plainS (a : List UInt8) (i : Nat) : List UInt8 := (List.range a.length).map fun q => UInt8.ofNat (keepH (a.getD q 0).toNat (i - 8 * q))
theorem plainS_len (a : List UInt8) (i : Nat) : (plainS a i).length = a.length := by simp [plainS]
theorem plainS_get {a : List UInt8} {i q : Nat} (hq : q < a.length) : ((plainS a i).getD q 0).toNat = keepH (a.getD q 0).toNat (i - 8 * q) := by
  have h1 := keepH_le (a.getD q 0).toNat (i - 8 * q)
  have h2 := UInt8.toNat_lt (a.getD q 0)
  unfold plainS
  simp only [List.getD, List.getElem?_map, List.getElem?_range hq]
  simp only [Option.map_some, Option.getD_some]
  simp only [List.getD] at h1 h2
  rw [UInt8.toNat_ofNat', Nat.mod_eq_of_lt (by omega)]
theorem plainS_zero (a : List UInt8) : plainS a 0 = List.replicate a.length 0 := by
  apply List.ext_getElem
  · simp [plainS]
  · intro q h1 h2
    simp [plainS]
    unfold keepH
    have h2 := UInt8.toNat_lt (a[q]?.getD 0)
    simp
theorem plainS_next {a : List UInt8} {i : Nat} (hi : i < 8 * a.length) : plainS a (i + 1) = (plainS a i).set (i / 8) (UInt8.ofNat (((plainS a i).getD (i / 8) 0).toNat + bitAt a i * 2 ^ (7 - i % 8))) := by
  have hq0 : i / 8 < a.length := by omega
  apply List.ext_getElem
  · simp [plainS]
  · intro q h1 h2
    have hq : q < a.length := by rw [plainS_len] at h1; exact h1
    by_cases he : q = i / 8
    · subst he
      rw [List.getElem_set_self]
      rw [plainS_get hq0]
      unfold bitAt
      rw [show i - 8 * (i / 8) = i % 8 by omega, ← keepH_next (by omega)]
      simp [plainS]
      rw [show i + 1 - 8 * (i / 8) = i % 8 + 1 by omega]
    · rw [List.getElem_set_ne (fun h => he h.symm)]
      simp only [plainS, List.getElem_map, List.getElem_range]
      congr 1
      by_cases hlt : q < i / 8
      · unfold keepH
        rw [show 8 - (i + 1 - 8 * q) = 0 by omega, show 8 - (i - 8 * q) = 0 by omega]
      · rw [show i + 1 - 8 * q = 0 by omega, show i - 8 * q = 0 by omega]
theorem cells_set (l : List UInt8) (q : Nat) (y : UInt8) : (cellsOf l).toArray.setIfInBounds q (.int .u8 y.toNat) = (cellsOf (l.set q y)).toArray := by
  unfold cellsOf
  simp [List.map_set]
theorem cells_at {l : List UInt8} {q : Nat} (h : q < l.length) : (cellsOf l).toArray[q]? = some (.int .u8 (l.getD q 0).toNat) := by
  unfold cellsOf
  simp [List.getElem?_eq_getElem h, List.getD]
theorem own_block {w : World} {base B n : Nat} {e : TypeId} {xs : List Value} (h : w.ownsRow base e 1 (.slice (some ⟨B, 0, none⟩) n n) n xs) : w.heap[B]? = some (.cells xs.toArray e (0, 0)) := by
  rcases h.2 with ⟨h1, _⟩ | ⟨g, cap, cur, h1, _, hg, _, _, hsz, htk⟩
  · cases h1
  · injection h1 with h2 h3 h4
    injection h2 with h5
    injection h5 with h6
    subst h6; subst h4
    rw [List.take_of_length_le (by rw [Array.length_toList]; omega)] at htk
    rw [hg, ← htk]
theorem set_block {w : World} {b i : Nat} {C : Array Value} {T : TypeId} {v : Value} (h : w.heap[b]? = some (.cells C T (0, 0))) : (w.setCell ⟨b, i, none⟩ v).heap[b]? = some (.cells (C.setIfInBounds i v) T (0, 0)) := by
  simp [World.setCell, Array.getElem?_modify, h]
theorem bytes_block {w : World} {B : Nat} {L : List UInt8} {T : TypeId} {cp : Nat} (h : w.heap[B]? = some (.cells (cellsOf L).toArray T (0, 0))) : Bytes w (.slice (some ⟨B, 0, none⟩) L.length cp) L := by
  refine ⟨_, _, rfl, .inr ⟨B, 0, rfl, fun i hi => ?_⟩⟩
  rw [Nat.zero_add]
  exact cell_of h i (cells_at hi)
theorem made_zero (n : Nat) : (madeCells (Value.cells (.int .u8 0)) (n * 1)).toList = cellsOf (List.replicate n 0) := by
  apply List.ext_getElem
  · simp [size_madeCells, cellsOf]
  · intro q h1 h2
    simp [madeCells, Value.cells, cellsOf]
    rw [Nat.mod_one]
    rfl
def PlainW (w wr : World) (a : List UInt8) (ad : Option Addr) (cp : Nat) (bits : Int) (k : Nat) : Prop :=
  wr.heap[w.heap.size]? = some (.cells #[.slice ad a.length cp, .int .i64 bits] 29 (0, 0)) ∧ wr.heap[w.heap.size + 1]? = some (.cells #[.slice none 0 0, .int .i64 0] 29 (0, 0)) ∧
  wr.heap[w.heap.size + 2]? = some (.cells (cellsOf (plainS a k)).toArray 5 (0, 0)) ∧ Below w.heap.size w wr
theorem plain_start {w w3 : World} {a : List UInt8} {ad : Option Addr} {cp : Nat} {bits : Int} {base : Nat}
    (hown : w3.ownsRow base 5 1 (.slice (some ⟨((w.alloc (.cells #[.slice ad a.length cp, .int .i64 bits] 29)).alloc (.cells #[.slice none 0 0, .int .i64 0] 29)).heap.size, 0, none⟩) a.length a.length) a.length (madeCells (Value.cells (.int .u8 0)) (a.length * 1)).toList)
    (hgrow : ((w.alloc (.cells #[.slice ad a.length cp, .int .i64 bits] 29)).alloc (.cells #[.slice none 0 0, .int .i64 0] 29)).grownBy w3 none) : PlainW w w3 a ad cp bits 0 := by
  have e0 := heap_alloc_new w (.cells #[.slice ad a.length cp, .int .i64 bits] 29)
  have e1 := heap_alloc_new (w.alloc (.cells #[.slice ad a.length cp, .int .i64 bits] 29)) (.cells #[.slice none 0 0, .int .i64 0] 29)
  have s1 : (w.alloc (.cells #[.slice ad a.length cp, .int .i64 bits] 29)).heap.size = w.heap.size + 1 := by simp
  have s2 : ((w.alloc (.cells #[.slice ad a.length cp, .int .i64 bits] 29)).alloc (.cells #[.slice none 0 0, .int .i64 0] 29)).heap.size = w.heap.size + 2 := by simp
  have b2 := own_block hown
  rw [s2] at b2
  rw [s1] at e1
  have k0 := (below_one (w := w.alloc (.cells #[.slice ad a.length cp, .int .i64 bits] 29)) (.cells #[.slice none 0 0, .int .i64 0] 29)).block w.heap.size (by rw [s1]; omega)
  refine ⟨?_, ?_, ?_, ?_⟩
  · rw [hgrow.block _ (by rw [s2]; omega) (by simp), k0]; exact e0
  · rw [hgrow.block _ (by rw [s2]; omega) (by simp)]; exact e1
  · rw [b2, made_zero, plainS_zero]
  · exact (((Below.refl _ _).alloc (Nat.le_refl _) _).alloc (by simp) _).grown hgrow (by rw [s2]; omega) (fun k hk => by cases hk)
theorem plain_bd {a : List UInt8} {k : Nat} (hk : k < 8 * a.length) : ((plainS a k).getD (k / 8) 0).toNat + bitAt a k * 2 ^ (7 - k % 8) < 256 := by
  have h1 := plainS_get (a := a) (i := k) (q := k / 8) (by omega)
  have h2 := keepH_le (a.getD (k / 8) 0).toNat (k % 8 + 1)
  rw [keepH_next (by omega)] at h2
  have h3 := UInt8.toNat_lt (a.getD (k / 8) 0)
  rw [h1, show k - 8 * (k / 8) = k % 8 by omega]
  unfold bitAt
  omega
theorem plain_step {w wr : World} {a : List UInt8} {ad : Option Addr} {cp : Nat} {bits : Int} {k x y : Nat} (h : PlainW w wr a ad cp bits k) (hn : plainS a (k + 1) = (plainS a k).set (k / 8) (UInt8.ofNat (y + x * 2 ^ (7 - k % 8)))) (hy : y + x * 2 ^ (7 - k % 8) < 256) {v : Int} (hv : v = ((y + x * 2 ^ (7 - k % 8) : Nat) : Int)) :
    PlainW w (wr.setCell ⟨w.heap.size + 1 + 1, k / 8, none⟩ (.int .u8 v)).drew a ad cp bits (k + 1) := by
  subst hv
  have hs : ∀ j v, j ≠ w.heap.size + 1 + 1 → (wr.setCell ⟨w.heap.size + 1 + 1, k / 8, none⟩ v).drew.heap[j]? = wr.heap[j]? := fun j v hj => by
    show (wr.setCell ⟨w.heap.size + 1 + 1, k / 8, none⟩ v).heap[j]? = wr.heap[j]?
    simp [World.setCell, Array.getElem?_modify, hj.symm]
  refine ⟨by rw [hs _ _ (by omega)]; exact h.1, by rw [hs _ _ (by omega)]; exact h.2.1, ?_, ((h.2.2.2).setCell (by simp; omega) _).drew⟩
  have hb : wr.heap[w.heap.size + 1 + 1]? = some (.cells (cellsOf (plainS a k)).toArray 5 (0, 0)) := h.2.2.1
  have h2 := set_block (i := k / 8) (v := .int .u8 ((y + x * 2 ^ (7 - k % 8) : Nat) : Int)) hb
  have e : ((y + x * 2 ^ (7 - k % 8) : Nat) : Int) = ((UInt8.ofNat (y + x * 2 ^ (7 - k % 8))).toNat : Int) := by
    rw [UInt8.toNat_ofNat', Nat.mod_eq_of_lt hy]
  rw [e, cells_set, ← hn] at h2
  rw [e]
  exact h2
theorem plain_results (W : World) (b : Nat) (ad : Option Addr) (n cp : Nat) (bits : Int) (h : W.heap[b]? = some (.cells #[.slice ad n cp, .int .i64 bits] 29 (0, 0))) (T : Array Value) (h2 : T.getD 2 undef = .pointer (some ⟨b, 0, none⟩)) :
    (results Try.f10 T).run Try.prog W = .ok (.agg #[.slice ad n cp, .int .i64 bits]) W := by
  have c0 := cell_of h 0 rfl; have c1 := cell_of h 1 rfl
  have e2 : T[2]?.getD undef = .pointer (some ⟨b, 0, none⟩) := by simpa using h2
  simp [results, Try.results10, go_sem, e2, c0, c1]
theorem plain_end {w wr : World} {a : List UInt8} {ad : Option Addr} {cp : Nat} {bits : Int} {k : Nat} (h : PlainW w wr a ad cp bits k) (v0 v1 : Value) :
    ((wr.setCell ⟨w.heap.size + 1, 0, none⟩ v0).setCell ⟨w.heap.size + 1, 1, none⟩ v1).heap[w.heap.size + 1]? = some (.cells #[v0, v1] 29 (0, 0)) ∧
    Bytes ((wr.setCell ⟨w.heap.size + 1, 0, none⟩ v0).setCell ⟨w.heap.size + 1, 1, none⟩ v1) (.slice (some ⟨w.heap.size + 1 + 1, 0, none⟩) (plainS a k).length (plainS a k).length) (plainS a k) ∧
    Below w.heap.size w ((wr.setCell ⟨w.heap.size + 1, 0, none⟩ v0).setCell ⟨w.heap.size + 1, 1, none⟩ v1) := by
  refine ⟨?_, ?_, ((h.2.2.2).setCell (by simp) _).setCell (by simp) _⟩
  · have e1 := set_block (i := 0) (v := v0) h.2.1
    have e2 := set_block (i := 1) (v := v1) e1
    exact e2
  · refine bytes_block (T := 5) ?_
    have : ∀ i v (W : World), (W.setCell ⟨w.heap.size + 1, i, none⟩ v).heap[w.heap.size + 1 + 1]? = W.heap[w.heap.size + 1 + 1]? := fun i v W => by
      simp [World.setCell, Array.getElem?_modify]
    rw [this, this]
    exact h.2.2.1
def PlainRet (w : World) (L : List UInt8) (bits : Int) (e : Ending) (w' : World) : Prop := ∃ ad cp, e = .returned (.agg #[.slice ad L.length cp, .int .i64 bits]) ∧ Bytes w' (.slice ad L.length cp) L ∧ Below w.heap.size w w'
theorem rplain_any (a : List UInt8) (ad : Option Addr) (cp : Nat) (bits : Int) (w : World) (ha : Bytes w (.slice ad a.length cp) a) (hal : a.length ≤ 100000) (hb0 : 0 ≤ bits) (hb8 : bits ≤ 8 * a.length) :
    Calls Try.prog 10 #[.agg #[.slice ad a.length cp, .int .i64 bits]] w (PlainRet w (plainS a bits.toNat) bits) := by
  obtain ⟨i0, hi0, hz0, hz1, hz2⟩ := info_parts Try.info5
  have hali : (a.length : Int) ≤ 100000 := by omega
  have HVA := Lib.hid ha
  clear ha
  go_enter Try.func10, Try.ntmps10
  go_wp2_with (first | (at_make; (refine wpList_make_full _ rfl _ _ 23 rfl (w.heap.size + 2) 5 i0 _ 1 Try.underlying23 hi0 hz0 hz1 .i64 .i64 _ _ a.length rfl rfl rfl rfl (by rw [hz2]; omega) (by unfold maxLen; omega) (by simp) ?_; intro w3 hown hgrow)) | fail)
  have hst : PlainW w w3 a ad cp bits 0 := plain_start hown hgrow
  have HST := Lib.hid hst
  clear hown hgrow hi0 hz0 hz1 hz2 hst
  go_loopw [4] (fun i wr => ∃ k : Nat, i = .int .i64 k ∧ (k : Int) ≤ bits ∧ PlainW w wr a ad cp bits k) (fun i _ => bits.toNat - (intOf i).toNat)
  case atStart => exact ⟨0, rfl, by omega, HST.out⟩
  case round =>
    obtain ⟨k, rfl, hk, hpw⟩ := hrel
    have HPW := Lib.hid hpw
    have d0 : wr.cell? ⟨w.heap.size, 0, none⟩ = some (.slice ad a.length cp) := cell_of hpw.1 0 rfl
    have d1 : wr.cell? ⟨w.heap.size, 1, none⟩ = some (.int .i64 bits) := cell_of hpw.1 1 rfl
    by_cases hlt : (k : Int) < bits
    · have hka : k / 8 < a.length := by omega
      have c1 : wr.cell? ⟨w.heap.size + 1 + 1, k / 8, none⟩ = some (.int .u8 ((plainS a k).getD (k / 8) 0).toNat) := cell_of hpw.2.2.1 _ (cells_at (by rw [plainS_len]; exact hka))
      have f1 : wr.frozen? ⟨w.heap.size + 1 + 1, k / 8, none⟩ = false := free_of hpw.2.2.1 _
      have hy : ((plainS a k).getD (k / 8) 0).toNat + bitAt a k * 2 ^ (7 - k % 8) < 256 := plain_bd (by omega)
      have HN := Lib.hid (plainS_next (a := a) (i := k) (by omega))
      obtain ⟨x, hx⟩ : ∃ x, bitAt a k = x := ⟨_, rfl⟩
      have hx2 : x ≤ 1 := by rw [← hx]; unfold bitAt; omega
      rw [hx] at hy HN
      obtain ⟨y, hyy⟩ : ∃ y, ((plainS a k).getD (k / 8) 0).toNat = y := ⟨_, rfl⟩
      rw [hyy] at hy c1 HN
      have HXA := Lib.hid hx
      have HKA := Lib.hid hka
      have HAL := Lib.hid hal
      have HVB : Hid (Bytes wr (.slice ad a.length cp) a) := Lib.hid (HVA.out.below hpw.2.2.2)
      have HY := Lib.hid hy
      have hi0 : (0 : Int) ≤ k := by omega
      have hi1 : (0 : Int) ≤ (k : Int) / 8 := by omega
      have hi2 : (k : Int) / 8 < a.length := by omega
      have hi3 : (k : Int) ≤ 1000000 := by omega
      have hr0 : (0 : Int) ≤ (k : Int) % 8 := by omega
      have hr1 : (k : Int) % 8 ≤ 7 := by omega
      have HK1 : Hid (((k + 1 : Nat) : Int) ≤ bits) := Lib.hid (by omega)
      have HMS : Hid (bits.toNat - (intOf (.int .i64 ((k : Int) + 1))).toNat < bits.toNat - (intOf (.int .i64 (k : Int))).toNat) := Lib.hid (by simp [intOf]; omega)
      clear hpw hx hyy hka hal hy
      have hw1 := wrap_i64 ((k : Int) / 8) (by omega) (by omega)
      have ht1 : ((k : Int) / 8).toNat = k / 8 := by omega
      have hw2 := wrap_i64 ((k : Int) % 8) (by omega) (by omega)
      have hw3 := wrap_i64 (7 - (k : Int) % 8) (by omega) (by omega)
      have hm : (k : Int).tmod 8 = (k : Int) % 8 := Int.tmod_eq_emod_of_nonneg hi0
      have ht3 : (7 - (k : Int) % 8).toNat = 7 - k % 8 := by omega
      have hp : x * 2 ^ (7 - k % 8) < 256 := by have := HY.out; omega
      have he2 : (x : Int) * 2 ^ (7 - k % 8) = ((x * 2 ^ (7 - k % 8) : Nat) : Int) := by simp
      have hw4 : IntKind.u8.wrap ((x : Int) * 2 ^ (7 - k % 8)) = ((x * 2 ^ (7 - k % 8) : Nat) : Int) := by rw [he2, wrap_u8 _ (by omega) (by omega)]
      clear he2
      have HV : Hid (((y : Int) + (x : Int) * 2 ^ (7 - k % 8)) % 256 = ((y + x * 2 ^ (7 - k % 8) : Nat) : Int)) := Lib.hid (by
        have e3 : (y : Int) + (x : Int) * 2 ^ (7 - k % 8) = ((y + x * 2 ^ (7 - k % 8) : Nat) : Int) := by simp
        rw [e3, Int.emod_eq_of_lt (by omega) (by have := HY.out; omega)])
      have hw5 : IntKind.u8.wrap ((y : Int) + ((x * 2 ^ (7 - k % 8) : Nat) : Int)) = ((y + x * 2 ^ (7 - k % 8) : Nat) : Int) := by
        rw [wrap_u8 _ (by omega) (by have := HY.out; omega)]
        simp
      clear hp
      go_wp2_with fail
      refine wp_region_still_tail 18 (by kernel_rfl) (by kernel_rfl) ?_
      simp only [List.take_succ_cons, List.take_zero, List.drop_succ_cons, List.drop_zero]
      repeat still_step
      still_call (rbit_v _ _ k wr.drew HVB.out HKA.out HAL.out x HXA.out)
      repeat still_step
      try refine wpStill_nil ?_
      clear hw1 ht1 hw2 hw3 ht3 hm hw4 hw5
      change wpList _ _ _ _ _ wr.drew
      go_wp2_with fail
      go_roundw
      case rel => exact ⟨k + 1, by go_num, HK1.out, plain_step HPW.out HN.out HY.out HV.out⟩
      case measure => exact HMS.out
    · have HPB : Hid (bits.toNat = k) := Lib.hid (by omega)
      have d2 : wr.cell? ⟨w.heap.size + 1, 0, none⟩ = some (.slice none 0 0) := cell_of hpw.2.1 0 rfl
      have d3 : wr.cell? ⟨w.heap.size + 1, 1, none⟩ = some (.int .i64 0) := cell_of hpw.2.1 1 rfl
      have g2 := fun i => free_of hpw.2.1 i
      clear hpw
      go_wp2_with fail
      have HE := plain_end HPW.out (.slice (some ⟨w.heap.size + 1 + 1, 0, none⟩) a.length a.length) (.int .i64 bits)
      rw [plainS_len] at HE
      refine bodyPost_ret (plain_results _ _ _ _ _ _ HE.1 _ rfl) rfl ⟨some ⟨w.heap.size + 1 + 1, 0, none⟩, a.length, ?_, ?_, HE.2.2⟩
      · rw [plainS_len]
      · rw [HPB.out, plainS_len]; exact HE.2.1
end Go.Proofs.Ytlmmnjoincmgcaa

namespace Go.Proofs.Ytlmmnjoincmgcaa
set_option linter.unusedVariables false
set_option linter.unusedSimpArgs false
set_option maxRecDepth 100000
open Go.RowKit

def prtP (n : Nat) (a : List UInt8) (k : Nat) : List UInt8 :=
  if n = 4 then (if 0 < k then [46] else []) ++ decs (a.getD k 0).toNat else (if 0 < k ∧ k % 2 = 0 then [58] else []) ++ hexOf [a.getD k 0]
def prt (n : Nat) (a : List UInt8) : Nat → List UInt8
  | 0 => []
  | k + 1 => prt n a k ++ prtP n a k
def printA (a : List UInt8) : List UInt8 := prt a.length a a.length
theorem prtP_len (n : Nat) (a : List UInt8) (k : Nat) : (prtP n a k).length ≤ 30 := by
  unfold prtP
  generalize a.getD k 0 = c
  have h := UInt8.toNat_lt c
  have h2 := decs_top c.toNat (by unfold top; omega)
  split
  · split <;> simp <;> omega
  · split <;> simp [hexOf_length]
theorem prt_len (n : Nat) (a : List UInt8) (k : Nat) : (prt n a k).length ≤ 30 * k := by
  induction k with
  | zero => simp [prt]
  | succ k ih =>
    have := prtP_len n a k
    simp [prt]; omega
theorem sz46 : (⟨#[46]⟩ : ByteArray).size = 1 := rfl
theorem sz58 : (⟨#[58]⟩ : ByteArray).size = 1 := rfl
theorem app46 (S : List UInt8) : strB S ++ ⟨#[46]⟩ = strB (S ++ [46]) := by rw [show (⟨#[46]⟩ : ByteArray) = strB [46] from rfl, strB_app]
theorem app58 (S : List UInt8) : strB S ++ ⟨#[58]⟩ = strB (S ++ [58]) := by rw [show (⟨#[58]⟩ : ByteArray) = strB [58] from rfl, strB_app]
theorem bytes_at {w : World} {bb off k : Nat} {c : UInt8} {cp : Nat} (h : w.cell? ⟨bb, off + k, none⟩ = some (.int .u8 c.toNat)) : Bytes w (.slice (some ⟨bb, off + k, none⟩) 1 cp) [c] := by
  refine ⟨_, _, rfl, .inr ⟨bb, off + k, rfl, fun i hi => ?_⟩⟩
  match i, hi with
  | 0, _ => exact h
end Go.Proofs.Ytlmmnjoincmgcaa

namespace Go.Proofs.Ytlmmnjoincmgcaa
set_option linter.unusedVariables false
set_option linter.unusedSimpArgs false
set_option maxRecDepth 100000
open Go.RowKit

theorem same_c (va vb : Value) (la lb : List UInt8) (r : Bool) (hr : (la == lb) = r) (w : World) (ha : Bytes w va la) (hb : Bytes w vb lb) : Calls Try.prog 40 #[va, vb] w fun e w' => e = .returned (.bool r) ∧ w = w' := by
  subst hr; exact same_any va vb la lb w ha hb
theorem rsame4_any (a b : List UInt8) (ad bd : Option Addr) (cp cq : Nat) (m n : Int) (w : World) (ha : Bytes w (.slice ad a.length cp) a) (hb : Bytes w (.slice bd b.length cq) b) :
    Calls Try.prog 24 #[.agg #[.slice ad a.length cp, .int .i64 m], .agg #[.slice bd b.length cq, .int .i64 n]] w (RightRet w ((m == n) && (a == b))) := by
  have HVA : Hid (Bytes ((w.alloc (.cells #[.slice ad a.length cp, .int .i64 m] 29)).alloc (.cells #[.slice bd b.length cq, .int .i64 n] 29)) (.slice ad a.length cp) a) := Lib.hid (ha.below (((Below.refl _ _).alloc (Nat.le_refl _) _).alloc (by simp) _))
  have HVB : Hid (Bytes ((w.alloc (.cells #[.slice ad a.length cp, .int .i64 m] 29)).alloc (.cells #[.slice bd b.length cq, .int .i64 n] 29)) (.slice bd b.length cq) b) := Lib.hid (hb.below (((Below.refl _ _).alloc (Nat.le_refl _) _).alloc (by simp) _))
  obtain ⟨r, hr⟩ : ∃ r, (a == b) = r := ⟨_, rfl⟩
  have HSM := Lib.hid (fun w h1 h2 => same_c (.slice ad a.length cp) (.slice bd b.length cq) a b r hr w h1 h2)
  rw [hr]
  clear ha hb hr
  cases hmn : (m == n) with
  | false =>
    go_enter Try.func24, Try.ntmps24
    go_wp2_with (first | (go_at_call 40; ((with_reducible refine (HSM.out _ HVA.out HVB.out).mono ?_); rintro e w3 ⟨rfl, rfl⟩)) | fail)
    go_ret
    exact ⟨rfl, ((Below.refl _ _).alloc (Nat.le_refl _) _).alloc (by simp) _⟩
  | true =>
    go_enter Try.func24, Try.ntmps24
    go_wp2_with (first | (go_at_call 40; ((with_reducible refine (HSM.out _ HVA.out HVB.out).mono ?_); rintro e w3 ⟨rfl, rfl⟩)) | fail)
    go_ret
    exact ⟨ret_bool (by simp), ((Below.refl _ _).alloc (Nat.le_refl _) _).alloc (by simp) _⟩
theorem app47 (S : List UInt8) : strB S ++ ⟨#[47]⟩ = strB (S ++ [47]) := by rw [show (⟨#[47]⟩ : ByteArray) = strB [47] from rfl, strB_app]
theorem sz47 : (⟨#[47]⟩ : ByteArray).size = 1 := rfl
theorem printA_len (a : List UInt8) (h : a.length ≤ 1000) : (printA a).length ≤ 30000 := by
  have := prt_len a.length a a.length
  unfold printA; omega
theorem cell_keep4 {w w' : World} {b i : Nat} {v : Value} (h : w.cell? ⟨b, i, none⟩ = some v) (hb : Below w.heap.size w w') : w'.cell? ⟨b, i, none⟩ = some v :=
  (hb.cell (p := ⟨b, i, none⟩) (World.block_lt_of_cell? w _ h)).trans h
end Go.Proofs.Ytlmmnjoincmgcaa

namespace Go.Proofs.Ytlmmnjoincmgcaa
set_option linter.unusedVariables false
set_option linter.unusedSimpArgs false
section
variable {F : Fence} {m : Nat} {P : Program} {ops : Array Oper} {md : Region.Mode} {w : World}

/-- the fence lets everything by, and a plain contract is one inside it -/
structure OpenF (F : Fence) (P : Program) : Prop where
  fn : ∀ f, F.fn f
  depth : F.depth = none
  calls : ∀ n f args w R, Calls P f args w R → CallsIn F n P f args w R
theorem openF_wide (P : Program) : OpenF Fence.wide P := ⟨fun _ => trivial, rfl, fun n f args w R h => callsIn_wide.2 h⟩
theorem openF_round (l : Nat) (P : Program) : OpenF (Fence.wide.inRound l) P := ⟨fun _ => trivial, rfl, fun n f args w R h => callsIn_wide.2 h⟩

theorem wpIn_of_still {o : Oper} {a : Act} {K : Act → Prop} {K' : Act → World → Prop} {Q' : Exit → Act → World → Prop} (hF : OpenF F P) (hd : ∀ c, o.op ≠ .defer c) (h : ∀ a, K a → K' a w) (hh : o.still P a w K) : o.wpIn F m P a w K' Q' := by
  refine ⟨fun f _ => hF.fn f, ?_⟩
  rw [Oper.semAt_eq _ _ _ hd]
  unfold Oper.still at hh
  generalize (execOp a.eval o).run P w = r at *
  cases r with
  | ok n w' =>
    cases n <;> simp only [Oper.stillUpon] at hh <;> simp only [Oper.uponIn]
    case enter f args =>
      obtain ⟨rfl, v, hc, hn⟩ := hh
      refine ⟨(fun h => by rw [hF.depth] at h; cases h), hF.calls _ _ _ _ _ (hc.mono fun e w'' ⟨he, hw⟩ => by subst he; subst hw; exact h _ hn)⟩
    all_goals (obtain ⟨rfl, h2⟩ := hh; exact h _ h2)
  | halt x w' => simp only [Oper.stillUpon] at hh
theorem wpOpIn_of_stOp {i : Nat} {a : Act} {K : Act → Prop} {K' : Act → World → Prop} {Q' : Exit → Act → World → Prop} (hF : OpenF F P) (hd : ∀ o, ops[i]? = some o → ∀ c, o.op ≠ .defer c) (h : ∀ a, K a → K' a w) (hh : stOp P ops w i K a) : wpOpIn F m P ops Q' i K' a w := by
  unfold stOp at hh
  unfold wpOpIn
  split
  · rename_i ho; simp only [ho] at hh; exact h _ hh
  · rename_i o ho
    simp only [ho] at hh
    split
    · rename_i hw; simp only [hw, if_true] at hh; exact wpIn_of_still hF (hd o ho) h hh
    · rename_i hw; simp only [hw] at hh; exact ⟨fun f _ => hF.fn f, h _ hh⟩
theorem wpAnyIn_of_head {n g : Nat} {L : Array Bool → Act → Prop} {Q' : Exit → Act → World → Prop} (hF : OpenF F P) (hd : ∀ (i : Nat) o, ops[i]? = some o → ∀ c, o.op ≠ .defer c) (hL : ∀ listed a, L listed a → wpAnyIn F m P md ops Q' g listed a w) :
    ∀ (f : Nat) (listed : Array Bool) (a : Act), wpAnyL P md ops w n L f listed a → wpAnyIn F m P md ops Q' (f + g) listed a w
  | 0, listed, a, h => by rw [Nat.zero_add]; exact hL _ _ h
  | f + 1, listed, a, h => by
    rw [show f + 1 + g = (f + g) + 1 by omega]
    exact ⟨fun h0 => absurd h0 h.1, fun i hi => wpOpIn_of_stOp hF (hd i) (fun a' h' => wpAnyIn_of_head hF hd hL f _ a' h') (h.2 i hi).2⟩
theorem wpAnyIn_of_seq {Q' : Exit → Act → World → Prop} : ∀ (l : List Oper) (k : Nat) (listed : Array Bool) (a : Act) (w : World), (∀ j, l[j]? = ops[k + j]?) →
    Region.seqB md ops l.length k listed = true → wpListIn F m P ops Q' l a w → wpAnyIn F m P md ops Q' l.length listed a w
  | [], _, _, _, _, _, hB, h => ⟨by simpa [Region.seqB] using hB, h⟩
  | o :: l, k, listed, a, w, hl, hB, h => by
    have h0 : ops[k]? = some o := by simpa using (hl 0).symm
    simp only [List.length_cons, Region.seqB, Bool.and_eq_true, decide_eq_true_eq] at hB
    refine ⟨fun h1 => (by rw [hB.1] at h1; cases h1), fun i hi => ?_⟩
    rw [hB.1] at hi
    have hik : i = k := by simpa using hi
    subst hik
    have hw : wpOpIn F m P ops Q' i (wpListIn F m P ops Q' l) a w := by unfold wpOpIn; simp only [h0]; exact h
    exact wpOpIn_mono (fun a' w' h' => wpAnyIn_of_seq l (i + 1) _ a' w' (fun j => by have := hl (j + 1); simpa [Nat.add_assoc, Nat.add_comm 1 j] using this) hB.2 h') hw
def noDefer (o : Oper) : Bool := match o.op with
  | .defer _ => false
  | _ => true
theorem noDefer_spec {o : Oper} (h : noDefer o = true) : ∀ c, o.op ≠ .defer c := fun c hc => by unfold noDefer at h; rw [hc] at h; cases h
theorem wpIn_region_still_tail {id : Nat} {Q : Exit → Act → World → Prop} {a : Act} {w : World} {l : List Oper} (n : Nat) (hF : OpenF F P) (hm : P.follows .mixedOrders = true) (hB : (Region.lexTailB .any l.toArray n && l.all noDefer) = true)
    (h : wpStill P l.toArray { w with drawn := w.drawn + 1 } (fun a' => wpListIn F m P l.toArray Q (l.drop n) a' { w with drawn := w.drawn + 1 }) (l.take n) a) : (Code.region id l.toArray true).wpIn F m P Q a w := by
  rw [Bool.and_eq_true] at hB
  obtain ⟨hB, hnd⟩ := hB
  have hd : ∀ (i : Nat) o, l.toArray[i]? = some o → ∀ c, o.op ≠ .defer c := fun i o ho => noDefer_spec (List.all_eq_true.1 hnd o (List.mem_of_getElem? (by simpa using ho)))
  simp only [Region.lexTailB, Bool.and_eq_true, decide_eq_true_eq] at hB
  obtain ⟨⟨⟨⟨hsel, hn⟩, hs⟩, hc⟩, hlex⟩ := hB
  have hn' : n < l.length := by simpa using hn
  have htl : (l.take n).length = n := by simp; omega
  have hdl : (l.drop n).length = l.toArray.size - n := by simp
  have inv0 : HeadInv .any l.toArray n (Array.replicate l.toArray.size false) :=
    ⟨by simp, fun j oj _ hl => (by rw [getD_replicate_false] at hl; cases hl), fun t _ ht => getD_in (by simpa using ht) (getD_replicate_false _ _)⟩
  have H := wpAnyL_lex (md := .any) (g := l.toArray.size - n) hsel hs hc hn (l.take n) 0 _ a (fun j hj => by
    have hj' : j < n := by rw [htl] at hj; exact hj
    simp [hj']) (by simpa using htl) inv0 (by rw [htl]; exact hlex) h
  refine wpIn_region_any hm ?_
  have := wpAnyIn_of_head (Q' := Q) (g := l.toArray.size - n) hF hd (fun listed a' hL => by
    have := wpAnyIn_of_seq (F := F) (m := m) (md := .any) (Q' := Q) (l.drop n) n listed a' { w with drawn := w.drawn + 1 } (fun j => by simp [List.getElem?_drop]) (by rw [hdl]; exact hL.1) hL.2
    rwa [hdl] at this) _ _ _ H
  rw [htl, show n + (l.toArray.size - n) = l.toArray.size by omega] at this
  exact this
end
end Go.Proofs.Ytlmmnjoincmgcaa

namespace Go.Proofs.Ytlmmnjoincmgcaa
set_option linter.unusedVariables false
set_option linter.unusedSimpArgs false
open Go.RowKit Go.Shelf
theorem calls_of_wp_marks {P : Program} {f : FuncId} {fn : Func} {c : Code} {args : Array Value} {w : World} {R : Ending → World → Prop} (hf : P.funcs[f]? = some fn) (hb : fn.body = some c)
    (h : c.wp P (bodyPostM Fence.wide 9 P fn R) { tmps := args ++ Array.replicate (fn.ntmps - args.size) undef, defers := [] } w) : Calls P f args w R :=
  callsIn_wide.1 (callsIn_of_wp_marks hf hb trivial (wpIn_wide.2 h) rfl)
theorem postM_ret {F : Fence} {n : Nat} {P : Program} {fn : Func} {R : Ending → World → Prop} {a : Act} {w : World} {v : Value} (hr : (results fn a.tmps).run P w = .ok v w) (hd : a.defers = []) (h : R (.returned v) w) : bodyPostM F n P fn R .ret a w := by
  show LeavesInM F n P fn a.tmps R a.defers .returning w
  rw [hd]
  exact ⟨v, hr, h⟩
theorem postM_mark {F : Fence} {n : Nat} {P : Program} {fn : Func} {R : Ending → World → Prop} {a : Act} {w : World} {v : Value} {D : Nat} (hK : w.heap[D]? = some (.deferred (some []))) (hd : a.defers = [{ target := .collected D, args := #[] }])
    (hr : (results fn a.tmps).run P (w.putObj D (.deferred none)) = .ok v (w.putObj D (.deferred none))) (h : R (.returned v) (w.putObj D (.deferred none))) : bodyPostM F n P fn R .ret a w := by
  show LeavesInM F n P fn a.tmps R a.defers .returning w
  rw [hd]
  exact ⟨by simp, .inl ⟨_, _, rfl, run_takeDeferred hK, v, hr, h⟩⟩
theorem mark_cell {w : World} {D : Nat} {o : Obj} {p : Addr} {v : Value} (hK : w.heap[D]? = some (.deferred (some []))) (hc : w.cell? p = some v) : (w.putObj D (.deferred none)).cell? p = some v :=
  cell_kept hc (grownBy_putObj' _ D (.deferred none)) (fun r e => by cases e; exact ⟨_, hK, rfl⟩)
theorem mark_below {n₀ : Nat} {w W : World} {D : Nat} (hB : Below n₀ w W) (hD : n₀ ≤ D) (hK : W.heap[D]? = some (.deferred (some []))) : Below n₀ w (W.putObj D (.deferred none)) :=
  hB.grown (grownBy_putObj' W D _) (by have := (Array.getElem?_eq_some_iff.1 hK).1; omega) (fun k e => by cases e; omega)
/-- what a round keeps: all that lay below n₀, and two boxes -/
def KpB (n₀ Ba Bb : Nat) (A B : World) : Prop := Below n₀ A B ∧ B.cell? ⟨Ba, 0, none⟩ = A.cell? ⟨Ba, 0, none⟩ ∧ B.cell? ⟨Bb, 0, none⟩ = A.cell? ⟨Bb, 0, none⟩
theorem kpB_refl (n₀ Ba Bb : Nat) (A : World) : KpB n₀ Ba Bb A A := ⟨Below.refl _ _, rfl, rfl⟩
theorem kpB_t {n₀ Ba Bb : Nat} {A B C : World} (h : KpB n₀ Ba Bb A B) (k : KpB n₀ Ba Bb B C) : KpB n₀ Ba Bb A C := ⟨h.1.trans k.1, k.2.1.trans h.2.1, k.2.2.trans h.2.2⟩
theorem kpB_b {n₀ Ba Bb : Nat} {w : World} (hn : n₀ ≤ w.heap.size) (ha : Ba < w.heap.size) (hb : Bb < w.heap.size) (W : World) (l : Nat) (o o' : Obj) (hl : w.heap.size ≤ l) (h : W.heap[l]? = some o) (h1 : o.isCells = false) (h2 : o.isWalk = false) : KpB n₀ Ba Bb W (W.putObj l o') :=
  ⟨belowK_b hn W l o o' hl h h1 h2, World.cell?_of_block (World.putObj_heap_other (by show Ba ≠ l; omega)), World.cell?_of_block (World.putObj_heap_other (by show Bb ≠ l; omega))⟩
theorem kpB_drew {n₀ Ba Bb : Nat} (A : World) : KpB n₀ Ba Bb A A.drew := ⟨(Below.refl _ _).drew, rfl, rfl⟩
theorem kpB_drewN {n₀ Ba Bb : Nat} (A : World) (n : Nat) : KpB n₀ Ba Bb A (A.drewN n) := ⟨⟨rfl, rfl, rfl, Nat.le_refl _, fun _ _ => rfl⟩, rfl, rfl⟩
theorem kpB_below {n₀ Ba Bb n : Nat} {A B : World} (h : Below n A B) (hn : n₀ ≤ n) (ha : Ba < n) (hb : Bb < n) : KpB n₀ Ba Bb A B := ⟨h.mono hn, h.cell (p := ⟨Ba, 0, none⟩) ha, h.cell (p := ⟨Bb, 0, none⟩) hb⟩
theorem kpB_set {n₀ Ba Bb b i : Nat} {A : World} {v : Value} (hb : n₀ ≤ b) (h1 : Ba ≠ b) (h2 : Bb ≠ b) : KpB n₀ Ba Bb A (A.setCell ⟨b, i, none⟩ v) :=
  ⟨(Below.refl _ _).setCell (p := ⟨b, i, none⟩) hb v, by simp [World.cell?, World.setCell, Array.getElem?_modify, h1.symm], by simp [World.cell?, World.setCell, Array.getElem?_modify, h2.symm]⟩
theorem abides_drew {β : Type} {B : Nat} {J : β → World → Prop} (h : AbidesFrom B J) {s : β} {W : World} (hs : J s W) (n : Nat) : J s (W.drewN n) :=
  h s W _ none hs ⟨rfl, rfl, rfl, Nat.le_refl _, fun _ _ _ => rfl⟩ (fun r e => by cases e)
/-- append at a step of a region that draws, inside a fence -/
theorem stepIn_append_lies {F : Fence} {mm : Nat} {P : Program} {ops : Array Oper} {o : Oper} {a : Act} {w : World} {K : Act → World → Prop} {Q : Exit → Act → World → Prop} {E : Prop} (hF : OpenF F P) (hgd : o.guard = none) (s x : Operand) (t : TypeId)
    (ho : o.op = .call { callee := .builtin .append, args := #[s, x], argTypes := #[t, t] })
    (base : Nat) (e : TypeId) (i : TypeInfo) (z : Value) (size bytes : Nat) (ht : P.underlying t = some (.slice e)) (hi : P.info? e = some i) (hz : i.zero = some z)
    (hsize : i.size = size) (hby : i.bytes = bytes) (hzs : z.cells.size = size) (hsz : 0 < size)
    (v : Value) (n : Nat) (xs : List Value) (hs : a.eval s = v) (hown : w.ownsRow base e size v n xs)
    (ad : Addr) (m c : Nat) (news : List Value) (hx : a.eval x = .slice (some ad) m c) (hl : news.length = m * size) (hnews : ∀ j u, news[j]? = some u → w.cell? (ad.add j) = some u) (h1 : ∀ u ∈ news, u.oneCell' = true)
    (hm : 0 < m) (h63 : n + m ≤ maxLen) (hbytes : (n + m) * bytes ≤ 140737488355328) (hbase : base ≤ w.heap.size) (H : Nat) (hH : w.heap.size = H)
    (h : ∀ g cap w', w'.ownsRow base e size (.slice (some ⟨g, 0, none⟩) (n + m) cap) (n + m) (xs ++ news) → w.grownBy w' v.ownBlock → (v.ownBlock = some g ∨ g = H) → g < w'.heap.size → K (a.put o.dst (.slice (some ⟨g, 0, none⟩) (n + m) cap)) w') :
    if Region.wanted o (yielded ops a.tmps) = true then Oper.wpIn F mm P o a w K Q else E := by
  have hw : Region.wanted o (yielded ops a.tmps) = true := by simp [Region.wanted, hgd]
  rw [if_pos hw]
  obtain ⟨g, cap, w', hr, h2, h3, h4, h5⟩ := run_append_lies (P := P) w t o.type base e i z size bytes ht hi hz hsize hby hzs hsz v n xs hown ad m c news hl hnews h1 hm h63 hbytes hbase H hH
  refine ⟨fun f _ => hF.fn f, ?_⟩
  rw [Oper.semAt_eq _ _ _ (fun c hc => by rw [ho] at hc; cases hc)]
  unfold execOp
  simp only [ho, resolve, invoke, builtin, Sem.run_bind, Sem.run_pure, Result.andThen_ok, List.map_toArray, List.map_cons, List.map_nil, hs, hx, hr]
  exact h g cap w' h2 h3 h4 h5
end Go.Proofs.Ytlmmnjoincmgcaa
