/- The program's iterator pairs, and Has and Within, by contract. -/
import Derived.Test.YtbaceiohcbhpaaaDoorAddrP2
import Derived.Test.YtbaceiohcbhpaaaDoorKit3
import Derived.Shelf.RegionOpen
import Derived.OwnWalkIn
import Derived.TacticsInMore
import Derived.LoopNIn
import Derived.LoopIn
import Derived.Test.YtbaceiohcbhpaaaDoorKit2
import Derived.StillTailTactics
namespace Go.Proofs.YtbaceiohcbhpaaaDoor
set_option linter.unusedVariables false
set_option linter.unusedSimpArgs false
set_option maxRecDepth 100000
open Go.RowKit Go.Shelf
attribute [local go_sem] Oper.semAt_some

abbrev encP (x : UInt8 × UInt8) : Array Value := #[.int .u8 x.1.toNat, .int .u8 x.2.toNat]
/-- a row of bytes in a block below n₀ -/
def RowAt (n₀ : Nat) (w : World) (bk off : Nat) (l : List UInt8) : Prop := bk < n₀ ∧ ∀ i, i < l.length → w.cell? ⟨bk, off + i, none⟩ = some (.int .u8 (l.getD i 0).toNat)
theorem RowAt.below {n₀ : Nat} {w W : World} {bk off : Nat} {l : List UInt8} (h : RowAt n₀ w bk off l) (hb : Below n₀ w W) : RowAt n₀ W bk off l := ⟨h.1, fun i hi => (hb.cell (p := ⟨bk, off + i, none⟩) h.1).trans (h.2 i hi)⟩
theorem take_zip_next {a b : List UInt8} {k : Nat} (hk : k < a.length) (hl : a.length = b.length) : (a.zip b).take (k + 1) = (a.zip b).take k ++ [(a.getD k 0, b.getD k 0)] := by
  rw [List.take_succ_eq_append_getElem (by simp; omega)]
  congr 2
  have hkb : k < b.length := by omega
  simp [List.getD, List.getElem?_eq_getElem hk, List.getElem?_eq_getElem hkb]
end Go.Proofs.YtbaceiohcbhpaaaDoor
