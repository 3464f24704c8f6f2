/- Our own small laws: a scope with one label to which the run jumps back, its relation bearing a number that each pass lowers. -/
import Derived.WalkKit
import Derived.Deep.LoopGhost
import Derived.Lib.Hide
import Derived.Lib.Strings
namespace Go.Proofs.Ytoodjdaadkbdfaa
set_option linter.unusedVariables false
set_option linter.unusedSimpArgs false
open Go.RowKit

theorem ret_int {k : IntKind} {a b : Int} (h : a = b) : Ending.returned (.int k a) = .returned (.int k b) := by rw [h]

theorem ret_bool {a b : Bool} (h : a = b) : Ending.returned (.bool a) = .returned (.bool b) := by rw [h]
theorem ret_str {a b : ByteArray} (h : a = b) : Ending.returned (.string a) = .returned (.string b) := by rw [h]

theorem jump_back {l : Nat} {J : Act → World → Prop} {Q : Exit → Act → World → Prop} {a : Act} {w : World} (h : J a w) : Exit.jump l J Q (.goto l) a w := ⟨rfl, h⟩

theorem jump_ret {l : Nat} {J : Act → World → Prop} {Q : Exit → Act → World → Prop} {a : Act} {w : World} (h : Q .ret a w) : Exit.jump l J Q .ret a w := h
theorem nogoto_ret {Q : Exit → Act → World → Prop} {a : Act} {w : World} (h : Q .ret a w) : Exit.noGoto Q .ret a w := h
theorem jump_normal {l : Nat} {J : Act → World → Prop} {Q : Exit → Act → World → Prop} {a : Act} {w : World} (h : Q .normal a w) : Exit.jump l J Q .normal a w := h

/-- A scope whose code holds one label, to which the run jumps back. 'I n': what holds behind the label when at most n passes are to come. -/
theorem wp_scope_goto {P : Program} {a : Act} {w : World} {Q : Exit → Act → World → Prop} {c rest : Code} (l : Nat) (I : Nat → Act → World → Prop) (hf : findLabel c l = some (Code.skip.seq rest))
    (first : ∀ R : Exit → Act → World → Prop, (∀ n a' w', I n a' w' → rest.wp P R a' w') → (∀ e a' w', Exit.noGoto Q e a' w' → R e a' w') → c.wp P R a w)
    (pass : ∀ n a w, I n a w → ∀ J : Act → World → Prop, (∀ k a' w', k < n → I k a' w' → J a' w') → rest.wp P (Exit.jump l J Q) a w) :
    (Code.scope c).wp P Q a w := by
  have key : ∀ (J0 : Act → World → Prop), (∀ k a' w', I k a' w' → J0 a' w') → ∀ n a' w', I n a' w' → rest.wp P (Exit.jump l J0 Q) a' w' :=
    fun J0 h n a' w' hI => pass n a' w' hI J0 fun k a'' w'' _ h2 => h k a'' w'' h2
  refine wp_scope_jumps l (fun a w => ∃ n, I n a w) (fun a w => leastOf (fun n => I n a w)) hf ?_ ?_
  · refine first _ (key _ fun k _ _ h => ⟨k, h⟩) ?_
    intro e a' w' h
    cases e with
    | normal => exact h
    | exit id => exact h
    | goto l' => exact absurd h (by simp [Exit.noGoto])
    | ret => exact h
    | panic ch => exact h
    | outgrown => exact h
  · intro a' w' hI
    obtain ⟨hl, hmin⟩ := leastOf_spec hI
    refine wp_seq (wp_skip ?_)
    exact pass _ a' w' hl _ fun k a'' w'' hk hI' =>
      ⟨⟨k, hI'⟩, Nat.lt_of_le_of_lt ((leastOf_spec (p := fun n => I n a'' w'') ⟨k, hI'⟩).2 k hI') hk⟩

theorem take_snoc (s : ByteArray) (k : Nat) (h : k < s.size) : s.data.toList.take (k + 1) = s.data.toList.take k ++ [s[k]] := by
  rw [List.take_succ_eq_append_getElem (by simpa using h)]; rfl
theorem mem_of (s : ByteArray) (k : Nat) (h : k < s.size) : s[k] ∈ s.data.toList := by
  have : s.data.toList[k]'(by simpa using h) ∈ s.data.toList := List.getElem_mem _
  exact this
theorem take_all (s : ByteArray) (k : Nat) (h : s.size ≤ k) : s.data.toList.take k = s.data.toList :=
  List.take_of_length_le (by simpa using h)
theorem size0 (s : ByteArray) (h : s.size = 0) : s = ⟨#[]⟩ := (show s = ByteArray.empty by simpa using h).trans rfl
theorem beqf {a b : Int} (h : a ≠ b) : (a == b) = false := by simpa using h
theorem head_of (s : ByteArray) (h : 0 < s.size) : s.data.toList.head? = some s[0] := by
  obtain ⟨⟨l⟩⟩ := s
  cases l with
  | nil => exact absurd h (by decide)
  | cons c l => rfl
theorem toList_eq (s : ByteArray) : s.toList = s.data.toList := Lib.toList_data s
theorem ne_of (s : ByteArray) (h : 0 < s.size) : s.toList.isEmpty = false := by
  rw [toList_eq]
  have := head_of s h
  cases hl : s.data.toList with
  | nil => rw [hl] at this; simp at this
  | cons c l => rfl
/-! texts as lists of bytes; cells of a block -/
def strB (l : List UInt8) : ByteArray := ⟨l.toArray⟩
theorem cell_of {w : World} {b : Nat} {C : Array Value} {T : TypeId} {fz : Nat × Nat} (h : w.heap[b]? = some (.cells C T fz)) (i : Nat) {v : Value} (hi : C[i]? = some v) : w.cell? ⟨b, i, none⟩ = some v := by
  simp [World.cell?, h, hi]
theorem free_of {w : World} {b : Nat} {C : Array Value} {T : TypeId} (h : w.heap[b]? = some (.cells C T (0, 0))) (i : Nat) : w.frozen? ⟨b, i, none⟩ = false := by
  simp [World.frozen?, h]
theorem strB_size (l : List UInt8) : (strB l).size = l.length := by simp [strB, ByteArray.size]
theorem strB_app (a b : List UInt8) : strB a ++ strB b = strB (a ++ b) := by
  apply ByteArray.ext
  rw [ByteArray.data_append]
  simp [strB]
theorem strB_self (x : ByteArray) : strB x.data.toList = x := by
  apply ByteArray.ext
  simp [strB]
theorem str_eq (a : List UInt8) (b : ByteArray) : ((strB a).toList == b.toList) = (a == b.data.toList) := by
  rw [toList_eq, toList_eq]; rfl
end Go.Proofs.Ytoodjdaadkbdfaa
