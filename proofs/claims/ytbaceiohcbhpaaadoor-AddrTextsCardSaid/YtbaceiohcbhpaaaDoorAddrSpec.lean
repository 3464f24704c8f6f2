import Derived.Test.YtbaceiohcbhpaaaDoorAddr5
namespace Go.Proofs.YtbaceiohcbhpaaaDoor
set_option linter.unusedVariables false
set_option linter.unusedSimpArgs false
set_option maxRecDepth 100000
open Go.RowKit

def withinP (a : List UInt8) (m : Int) (b : List UInt8) (n : Int) : Bool := rightP a.length m && (rightP b.length n && (a.length == b.length && (decide (n ≤ m) && hasP b n a)))
/-- Plain's answer: the plain prefix and Fine, or nothing and Form -/
def plainOf (a : List UInt8) (bits : Int) : List UInt8 × Int × Int := if rightP a.length bits then (plainS a bits.toNat, bits, 0) else ([], 0, 3)
def PlainRet4 (w : World) (a : List UInt8) (bits : Int) (e : Ending) (w' : World) : Prop :=
  ∃ ad cp, e = .returned (.tuple #[.agg #[.slice ad (plainOf a bits).1.length cp, .int .i64 (plainOf a bits).2.1], .int .i64 (plainOf a bits).2.2]) ∧ Bytes w' (.slice ad (plainOf a bits).1.length cp) (plainOf a bits).1 ∧ (plainOf a bits).1.length ≤ cp ∧ cp ≤ maxLen ∧ Below w.heap.size w w'
def StrCode (w : World) (x : List UInt8 × Int) (e : Ending) (w' : World) : Prop := e = .returned (.tuple #[.string (strB x.1), .int .i64 x.2]) ∧ Below w.heap.size w w'
def printC (a : List UInt8) : List UInt8 × Int := if a.length = 4 ∨ a.length = 16 then (printA a, 0) else ([], 3)
def printPC (a : List UInt8) (bits : Int) : List UInt8 × Int := if rightP a.length bits = true ∧ plainS a bits.toNat = a then (printA a ++ 47 :: decs bits.toNat, 0) else ([], 3)
theorem within_has {a b c : List UInt8} {m n : Int} (h : withinP a m b n = true) (hp : hasP a m c = true) : hasP b n c = true := by
  unfold withinP at h
  simp only [Bool.and_eq_true, decide_eq_true_eq, beq_iff_eq] at h
  obtain ⟨h1, h2, h3, h4, h5⟩ := h
  unfold hasP at h5 hp ⊢
  simp only [Bool.and_eq_true, beq_iff_eq, List.all_eq_true, List.mem_range] at h5 hp ⊢
  refine ⟨h2, by omega, fun i hi => ?_⟩
  rw [hp.2.2 i (by omega), h5.2.2 i hi]
theorem rplain_v (a : List UInt8) (ad : Option Addr) (cp : Nat) (bits : Int) (w : World) (ha : Bytes w (.slice ad a.length cp) a) (hal : a.length ≤ 1000) (hr : rightP a.length bits = true) :
    Calls Tryd.prog 16 #[.agg #[.slice ad a.length cp, .int .i64 bits]] w (PlainRet w (plainS a bits.toNat) bits) :=
  rplain_any a ad cp bits w ha (by omega) (right_len hr).2.1 (right_len hr).2.2
theorem strs4_eq (a b : List UInt8) : ((strB a).toList == (strB b).toList) = (a == b) := by rw [str_eq]; rfl
/-! a prefix that came in, in its variable -/
def PBox (w : World) (B : Nat) (ad : Option Addr) (n cp : Nat) (bits : Int) : Prop := w.cell? ⟨B, 0, none⟩ = some (.slice ad n cp) ∧ w.cell? ⟨B, 1, none⟩ = some (.int .i64 bits)
end Go.Proofs.YtbaceiohcbhpaaaDoor
