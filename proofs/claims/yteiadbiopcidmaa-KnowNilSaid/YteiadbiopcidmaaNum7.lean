import Derived.Test.YteiadbiopcidmaaNum6
import Derived.Deep.RegionHeld3
import Derived.Deep.AppendLies
import Derived.Deep.DrawnRows
namespace Go.Proofs.Yteiadbiopcidmaa
set_option linter.unusedVariables false
set_option linter.unusedSimpArgs false
set_option maxRecDepth 100000
open Go.RowKit
attribute [local go_sem ↓] Go.wp_at_zero Go.wp_at_succ

/-- A slice that reads as the bytes l. -/
def Bytes (w : World) (v : Value) (l : List UInt8) : Prop :=
  ∃ a cap, v = .slice a l.length cap ∧ (l = [] ∨ ∃ b off, a = some ⟨b, off, none⟩ ∧ ∀ i, i < l.length → w.cell? ⟨b, off + i, none⟩ = some (.int .u8 (l.getD i 0).toNat))

theorem Bytes.below {w w' : World} {v : Value} {l : List UInt8} (h : Bytes w v l) (hb : Below w.heap.size w w') : Bytes w' v l := by
  obtain ⟨a, cap, hv, h⟩ := h
  refine ⟨a, cap, hv, ?_⟩
  rcases h with h | ⟨b, off, ha, hc⟩
  · exact .inl h
  · exact .inr ⟨b, off, ha, fun i hi => (hb.cell (p := ⟨b, off + i, none⟩) (World.block_lt_of_cell? w _ (hc i hi))).trans (hc i hi)⟩

theorem Try.info5 : (Try.prog.info? 5).map (fun i => (i.zero, i.size, i.bytes)) = some (some (.int .u8 0), 1, 1) := by kernel_rfl

def cellsOf (l : List UInt8) : List Value := l.map fun b => Value.int .u8 b.toNat

theorem hex_round (u : UInt8) : u.toNat / 16 < 16 ∧ u.toNat % 16 < 16 := by have := UInt8.toNat_lt u; omega

theorem and15 (u : UInt8) : bits BinOp.and IntKind.u8 (u.toNat : Int) 15 = (u.toNat : Int) % 16 := by
  have key : ∀ i : Fin 256, bits BinOp.and IntKind.u8 (i.val : Int) 15 = (i.val : Int) % 16 := by decide +kernel
  exact key ⟨u.toNat, UInt8.toNat_lt u⟩

theorem hexdigit_int (i : Int) (j : Nat) (hj : j < 16) (e : i = j) (h : i.toNat < (⟨#[48, 49, 50, 51, 52, 53, 54, 55, 56, 57, 97, 98, 99, 100, 101, 102]⟩ : ByteArray).size) : ((⟨#[48, 49, 50, 51, 52, 53, 54, 55, 56, 57, 97, 98, 99, 100, 101, 102]⟩ : ByteArray)[i.toNat]'h).toNat = (hexD j).toNat := by
  subst e
  exact hexdigit_at j hj h

theorem hex_rel {l : List UInt8} {k : Nat} {u : UInt8} {w wr w1 : World} {o : Obj} {v v' : Value} {n : Nat} (hlt : k < l.length) (hu : u = l.getD k 0) (hB : Below w.heap.size w wr)
    (ho : ∀ g, v.ownBlock = some g → w.heap.size ≤ g)
    (h : w1.ownsRow w.heap.size 5 1 v' n (cellsOf (hexOf (l.take k)) ++ cellsOf (hexB u))) (hg : (wr.alloc o).drew.grownBy w1 v.ownBlock) :
    w1.ownsRow w.heap.size 5 1 v' n (cellsOf (hexOf (l.take (k + 1)))) ∧ Below w.heap.size w w1 := by
  refine ⟨?_, ((hB.alloc hB.size o).drew).grown hg (by have := hB.size; show w.heap.size ≤ (wr.alloc o).heap.size; simp; omega) (fun g hg => ho g hg)⟩
  have e : cellsOf (hexOf (l.take (k + 1))) = cellsOf (hexOf (l.take k)) ++ cellsOf (hexB u) := by
    rw [List.take_succ_eq_append_getElem hlt, hexOf_snoc, hu]
    simp [cellsOf, List.getD, List.getElem?_eq_getElem hlt]
  rw [e]; exact h

end Go.Proofs.Yteiadbiopcidmaa
