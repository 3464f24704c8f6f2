import Derived.Test.YtbaceiohcbhpaaaDoorAddr6
import Derived.Deep.LoopGhost
namespace Go.Proofs.YtbaceiohcbhpaaaDoor
set_option linter.unusedVariables false
set_option linter.unusedSimpArgs false
set_option maxRecDepth 100000
open Go.RowKit

def piece (S : List UInt8) (q k : Nat) : List UInt8 := (S.drop q).take (k - q)
theorem ext_piece (s : ByteArray) (q k : Nat) : s.extract q k = strB (piece s.data.toList q k) := by
  have h := strB_self (s.extract q k)
  rw [← h, Lib.extract_data]; rfl
theorem piece_len {S : List UInt8} {q k : Nat} (h : k ≤ S.length) : (piece S q k).length = k - q := by
  unfold piece; rw [List.length_take, List.length_drop]; omega
/-- what is done up to a place -/
def RInv (six : Bool) (S : List UInt8) (k q : Nat) (O : List UInt8) : Prop :=
  q ≤ k ∧ O.length ≤ q ∧ (k = S.length + 1 → guessAll six (splitP S) = some O) ∧
  (k ≤ S.length → guessAll six (splitP S) = (guessAll six (splitP (S.drop q))).bind (fun y => some (O ++ y)) ∧ NoSep (piece S q k))
theorem rinv_start (six : Bool) (S : List UInt8) : RInv six S 0 0 [] := by
  refine ⟨Nat.le_refl _, Nat.le_refl _, (fun h => by omega), fun _ => ⟨?_, ?_⟩⟩
  · rw [List.drop_zero]
    cases guessAll six (splitP S) with
    | none => rfl
    | some y => rfl
  · intro c hc; simp [piece] at hc
theorem piece_next {S : List UInt8} {q k : Nat} (hq : q ≤ k) (hk : k < S.length) : piece S q (k + 1) = piece S q k ++ [S.getD k 0] := by
  unfold piece
  rw [show k + 1 - q = (k - q) + 1 by omega, List.take_add_one]
  congr 1
  rw [List.getElem?_drop, show q + (k - q) = k by omega, List.getElem?_eq_getElem hk]
  simp [List.getD, List.getElem?_eq_getElem hk]
theorem rinv_on {six : Bool} {S : List UInt8} {k q : Nat} {O : List UInt8} (h : RInv six S k q O) (hk : k < S.length) (h1 : S.getD k 0 ≠ 46) (h2 : S.getD k 0 ≠ 58) : RInv six S (k + 1) q O := by
  obtain ⟨a, b, c, d⟩ := h
  refine ⟨by omega, b, (fun h => by omega), fun _ => ⟨(d (by omega)).1, ?_⟩⟩
  rw [piece_next a hk]
  intro x hx
  rcases List.mem_append.1 hx with hx | hx
  · exact (d (by omega)).2 x hx
  · rw [List.mem_singleton.1 hx]; exact ⟨h1, h2⟩
theorem drop_cut {S : List UInt8} {q k : Nat} (hq : q ≤ k) (hk : k < S.length) : S.drop q = piece S q k ++ S.getD k 0 :: S.drop (k + 1) := by
  have h1 := (List.take_append_drop (k - q) (S.drop q)).symm
  rw [List.drop_drop, show q + (k - q) = k by omega, List.drop_eq_getElem_cons hk] at h1
  simp only [List.getD, List.getElem?_eq_getElem hk]
  exact h1
/-- the piece that ends here -/
theorem rinv_cut {six : Bool} {S : List UInt8} {k q : Nat} {O : List UInt8} (h : RInv six S k q O) (hk : k ≤ S.length) (hs : k = S.length ∨ (k < S.length ∧ (S.getD k 0 = 46 ∨ S.getD k 0 = 58))) :
    (guessOne six (piece S q k) = none → guessAll six (splitP S) = none) ∧ (∀ x, guessOne six (piece S q k) = some x → x.length ≤ k + 1 - q → RInv six S (k + 1) (k + 1) (O ++ x)) := by
  obtain ⟨a, b, c, d⟩ := h
  obtain ⟨d1, d2⟩ := d hk
  rcases hs with he | ⟨hlt, hc⟩
  · have hp : piece S q k = S.drop q := by unfold piece; rw [List.take_of_length_le (by rw [List.length_drop]; omega)]
    rw [hp] at d2 ⊢
    rw [split_one d2] at d1
    simp only [guessAll] at d1
    constructor
    · intro h; rw [d1, h]; rfl
    · intro x hx hxl
      rw [hx] at d1
      refine ⟨Nat.le_refl _, by simp; omega, fun _ => by rw [d1]; simp, fun h => by omega⟩
  · rw [drop_cut a hlt, split_cons hc d2] at d1
    simp only [guessAll] at d1
    constructor
    · intro h; rw [d1, h]; rfl
    · intro x hx hxl
      rw [hx] at d1
      refine ⟨Nat.le_refl _, by simp; omega, fun h => by omega, fun _ => ⟨?_, ?_⟩⟩
      · rw [d1]
        simp only [Option.bind_some]
        cases guessAll six (splitP (S.drop (k + 1))) with
        | none => rfl
        | some y => simp
      · intro c hc; simp [piece] at hc
theorem rread_c (s : ByteArray) (P : List UInt8) (hP : P.length ≤ 1000) (hs : s = strB P) (w : World) :
    Calls Tryd.prog 22 #[.string s] w fun e w' => e = .returned (.tuple #[.int .u64 (rdVal P), .int .i64 (rdCode P)]) ∧ w = w' := by
  subst hs
  exact rread_any (strB P) (by rw [strB_size]; unfold maxLen; omega) w
theorem rreadhex_c (s : ByteArray) (P : List UInt8) (hP : P.length ≤ 1000) (hs : s = strB P) (w : World) : Calls Tryd.prog 21 #[.string s] w (HexRet2 w P) := by
  subst hs
  exact rreadhex2_any (strB P) (by rw [strB_size]; omega) w
end Go.Proofs.YtbaceiohcbhpaaaDoor
