import Derived.Test.YtbaceiohcbhpaaaDoorAddrLaw1
namespace Go.Proofs.YtbaceiohcbhpaaaDoor
set_option linter.unusedVariables false
set_option linter.unusedSimpArgs false
set_option maxRecDepth 100000
open Go.RowKit

theorem len_ne_beq {a b : List UInt8} (h : a.length ≠ b.length) : ((a.length : Int) == b.length) = false := bne_i (by omega)
theorem within_no {a b : List UInt8} {m n : Int} {r1 r2 : Bool} (h1 : rightP a.length m = r1) (h2 : rightP b.length n = r2) (h : r1 = false ∨ r2 = false ∨ a.length ≠ b.length ∨ m < n ∨ hasP b n a = false) : withinP a m b n = false := by
  unfold withinP
  rw [h1, h2]
  rcases h with h | h | h | h | h
  · simp [h]
  · simp [h]
  · simp [h]
  · have : decide (n ≤ m) = false := decide_eq_false (by omega)
    rw [this]; simp
  · rw [h]; simp
end Go.Proofs.YtbaceiohcbhpaaaDoor
