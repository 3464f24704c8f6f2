import Derived.Test.YtbaceiohcbhpaaaDoorAddr1
import Derived.Deep.LoopGhost
namespace Go.Proofs.YtbaceiohcbhpaaaDoor
set_option linter.unusedVariables false
set_option linter.unusedSimpArgs false
set_option maxRecDepth 100000
open Go.RowKit

theorem below_one {w : World} (o : Obj) : Below w.heap.size w (w.alloc o) := (Below.refl _ _).alloc (Nat.le_refl _) _
theorem below_dr {B : Nat} {w a : World} (h : Below B w a) (n : Nat) : Below B w (a.drewN n) := ⟨h.os, h.tape, h.output, h.size, h.block⟩
theorem all_next_bit {a b : List UInt8} {k : Nat} (h : ((List.range k).all fun i => bitAt b i == bitAt a i) = true) (he : bitAt b k = bitAt a k) : ((List.range (k + 1)).all fun i => bitAt b i == bitAt a i) = true := by
  rw [List.range_succ, List.all_append, h]
  simp [he]
theorem all_bad_bit {a b : List UInt8} {k m : Nat} (hk : k < m) (he : bitAt b k ≠ bitAt a k) : ((List.range m).all fun i => bitAt b i == bitAt a i) = false := by
  rw [List.all_eq_false]
  exact ⟨k, List.mem_range.2 hk, by simpa using he⟩
theorem right_len {n : Nat} {bits : Int} (h : rightP n bits = true) : (n = 4 ∨ n = 16) ∧ 0 ≤ bits ∧ bits ≤ 8 * n := by
  unfold rightP at h
  simp only [Bool.and_eq_true, Bool.or_eq_true, beq_iff_eq, decide_eq_true_eq] at h
  exact ⟨h.1, h.2.1, h.2.2⟩
theorem rright_v (ad : Option Addr) (n cp : Nat) (bits : Int) (hn : n ≤ 100000) (r : Bool) (hr : rightP n bits = r) (w : World) :
    Calls Tryd.prog 15 #[.agg #[.slice ad n cp, .int .i64 bits]] w fun e w' => e = .returned (.bool r) ∧ Below w.heap.size w w' := by
  subst hr; exact rright_any ad n cp bits hn w
theorem rbit_v (v : Value) (l : List UInt8) (i : Nat) (w : World) (hv : Bytes w v l) (hi : i / 8 < l.length) (hl : l.length ≤ 100000) (x : Nat) (hx : bitAt l i = x) :
    Calls Tryd.prog 32 #[v, .int .i64 i] w fun e w' => e = .returned (.int .u8 x) ∧ w' = w := by
  subst hx; exact rbit_any v l i w hv hi hl
def HasW (w wr : World) (ad : Option Addr) (n cp : Nat) (bits : Int) : Prop := wr.cell? ⟨w.heap.size, 0, none⟩ = some (.slice ad n cp) ∧ wr.cell? ⟨w.heap.size, 1, none⟩ = some (.int .i64 bits) ∧ Below w.heap.size w wr
theorem hasw_drew {w wr : World} {ad : Option Addr} {n cp : Nat} {bits : Int} (h : HasW w wr ad n cp bits) (m : Nat) : HasW w (wr.drewN m) ad n cp bits := ⟨h.1, h.2.1, below_dr h.2.2 m⟩
end Go.Proofs.YtbaceiohcbhpaaaDoor
