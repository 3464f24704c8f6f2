import Derived.Test.YtbaceiohcbhpaaaAddr3
namespace Go.Proofs.Ytbaceiohcbhpaaa
set_option linter.unusedVariables false
set_option linter.unusedSimpArgs false
set_option maxRecDepth 100000
open Go.RowKit

def prtP (n : Nat) (a : List UInt8) (k : Nat) : List UInt8 :=
  if n = 4 then (if 0 < k then [46] else []) ++ decs (a.getD k 0).toNat else (if 0 < k ∧ k % 2 = 0 then [58] else []) ++ hexOf [a.getD k 0]
def prt (n : Nat) (a : List UInt8) : Nat → List UInt8
  | 0 => []
  | k + 1 => prt n a k ++ prtP n a k
def printA (a : List UInt8) : List UInt8 := prt a.length a a.length
theorem prtP_len (n : Nat) (a : List UInt8) (k : Nat) : (prtP n a k).length ≤ 30 := by
  unfold prtP
  generalize a.getD k 0 = c
  have h := UInt8.toNat_lt c
  have h2 := decs_top c.toNat (by unfold top; omega)
  split
  · split <;> simp <;> omega
  · split <;> simp [hexOf_length]
theorem prt_len (n : Nat) (a : List UInt8) (k : Nat) : (prt n a k).length ≤ 30 * k := by
  induction k with
  | zero => simp [prt]
  | succ k ih =>
    have := prtP_len n a k
    simp [prt]; omega
theorem sz46 : (⟨#[46]⟩ : ByteArray).size = 1 := rfl
theorem sz58 : (⟨#[58]⟩ : ByteArray).size = 1 := rfl
theorem app46 (S : List UInt8) : strB S ++ ⟨#[46]⟩ = strB (S ++ [46]) := by rw [show (⟨#[46]⟩ : ByteArray) = strB [46] from rfl, strB_app]
theorem app58 (S : List UInt8) : strB S ++ ⟨#[58]⟩ = strB (S ++ [58]) := by rw [show (⟨#[58]⟩ : ByteArray) = strB [58] from rfl, strB_app]
theorem bytes_at {w : World} {bb off k : Nat} {c : UInt8} {cp : Nat} (h : w.cell? ⟨bb, off + k, none⟩ = some (.int .u8 c.toNat)) : Bytes w (.slice (some ⟨bb, off + k, none⟩) 1 cp) [c] := by
  refine ⟨_, _, rfl, .inr ⟨bb, off + k, rfl, fun i hi => ?_⟩⟩
  match i, hi with
  | 0, _ => exact h
end Go.Proofs.Ytbaceiohcbhpaaa
