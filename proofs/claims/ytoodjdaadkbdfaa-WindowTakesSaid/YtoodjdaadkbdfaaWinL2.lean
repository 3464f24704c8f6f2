/- Windows: a window beside the list of what was taken: what is kept while other things change. -/
import Derived.Test.YtoodjdaadkbdfaaWinL1
namespace Go.Proofs.Ytoodjdaadkbdfaa
set_option linter.unusedVariables false
set_option linter.unusedSimpArgs false
set_option maxRecDepth 100000
open Go.RowKit
/-- a box with the reference's window in it -/
structure BoxAt (w : World) (M : Nat) (L : List Nat) (a : Option Addr) (cap : Nat) : Prop where
  box : w.heap[M]? = some (.cells #[.slice a L.length cap] 27 (0, 0))
  row : U64s w (.slice a L.length cap) L
  typ : RowT w a
theorem lt_of_heap {w : World} {k : Nat} {o : Obj} (h : w.heap[k]? = some o) : k < w.heap.size := (Array.getElem?_eq_some_iff.1 h).1
theorem ne_of_typ {w : World} {j k : Nat} {c d : Array Value} {s t : TypeId} {f g : Nat × Nat} (hj : w.heap[j]? = some (.cells c s f)) (hk : w.heap[k]? = some (.cells d t g)) (hne : s ≠ t) : j ≠ k := by
  intro e
  subst e
  rw [hj] at hk
  injection hk with h
  injection h with _ h2 _
  exact hne h2
theorem RowT.below {w w' : World} {a : Option Addr} (h : RowT w a) (hb : Below w.heap.size w w') : RowT w' a := by
  intro b off x e
  obtain ⟨cur, fz, hc⟩ := h b off x e
  exact ⟨cur, fz, (hb.block b (lt_of_heap hc)).trans hc⟩
theorem RowT.grown {w w' : World} {a : Option Addr} {k : Nat} {c : Array Value} {t : TypeId} {f : Nat × Nat} (h : RowT w a) (hg : w.grownBy w' (some k)) (hk : w.heap[k]? = some (.cells c t f)) (ht : t ≠ 30) : RowT w' a := by
  intro b off x e
  obtain ⟨cur, fz, hc⟩ := h b off x e
  exact ⟨cur, fz, grown_block hg hc (fun e => ne_of_typ hk hc ht (by cases e; rfl))⟩
theorem U64s.grown {w w' : World} {a : Option Addr} {L : List Nat} {n cap k : Nat} {c : Array Value} {t : TypeId} {f : Nat × Nat} (h : U64s w (.slice a n cap) L) (hr : RowT w a) (hg : w.grownBy w' (some k)) (hk : w.heap[k]? = some (.cells c t f)) (ht : t ≠ 30) : U64s w' (.slice a n cap) L := by
  obtain ⟨a', cap', e, h1, h2, h3, h4⟩ := h
  refine ⟨a', cap', e, h1, h2, h3, ?_⟩
  injection e with e1 e2 e3
  subst e1
  rcases h4 with h4 | ⟨b, off, rfl, hc⟩
  · exact .inl h4
  · refine .inr ⟨b, off, rfl, fun i hi => ?_⟩
    obtain ⟨cur, fz, hcur⟩ := hr b off none rfl
    have hne : b ≠ k := fun e => ne_of_typ hk hcur ht e.symm
    exact (World.cell?_of_block (hg.block b (lt_of_heap hcur) (fun e => hne (by cases e; rfl)))).trans (hc i hi)
theorem BoxAt.below {w w' : World} {M : Nat} {L : List Nat} {a : Option Addr} {cap : Nat} (h : BoxAt w M L a cap) (hb : Below w.heap.size w w') : BoxAt w' M L a cap :=
  ⟨(hb.block M (lt_of_heap h.box)).trans h.box, h.row.below hb, h.typ.below hb⟩
theorem BoxAt.grown {w w' : World} {M k : Nat} {L : List Nat} {a : Option Addr} {cap : Nat} {c : Array Value} {t : TypeId} {f : Nat × Nat} (h : BoxAt w M L a cap) (hg : w.grownBy w' (some k)) (hk : w.heap[k]? = some (.cells c t f)) (ht : t ≠ 30) (hne : M ≠ k) : BoxAt w' M L a cap :=
  ⟨grown_block hg h.box (fun e => hne (by cases e; rfl)), h.row.grown h.typ hg hk ht, h.typ.grown hg hk ht⟩
theorem WinAt.heap {w : World} {B : Nat} {L : List Nat} (h : WinAt w B L) : ∃ c, w.heap[B]? = some (.cells c 41 (0, 0)) := by
  obtain ⟨W, _, h⟩ := h
  exact ⟨_, h⟩
theorem BoxAt.win {w w' : World} {M B : Nat} {L L2 : List Nat} {a : Option Addr} {cap : Nat} (h : BoxAt w M L a cap) (hg : w.grownBy w' (some B)) (hw : WinAt w B L2) : BoxAt w' M L a cap := by
  obtain ⟨c, hc⟩ := hw.heap
  exact h.grown hg hc (by decide) (fun e => ne_of_typ h.box hc (by decide) e)
theorem WinAt.grown {w w' : World} {B k : Nat} {L : List Nat} (h : WinAt w B L) (hg : w.grownBy w' (some k)) (hne : B ≠ k) : WinAt w' B L := by
  obtain ⟨W, h1, h2⟩ := h
  exact ⟨W, h1, grown_block hg h2 (fun e => hne (by cases e; rfl))⟩
theorem box_ne_win {w : World} {M B : Nat} {L L2 : List Nat} {a : Option Addr} {cap : Nat} (h : BoxAt w M L a cap) (hw : WinAt w B L2) : B ≠ M := by
  obtain ⟨c, hc⟩ := hw.heap
  exact fun e => ne_of_typ h.box hc (by decide) e.symm
/-- a new list in the box -/
theorem BoxAt.set {w : World} {M : Nat} {L L2 : List Nat} {a a2 : Option Addr} {cap cap2 n : Nat} (h : BoxAt w M L a cap) (hn : n = L2.length) (hr : U64s w (.slice a2 n cap2) L2) (ht : RowT w a2) : BoxAt (w.setCell ⟨M, 0, none⟩ (.slice a2 n cap2)) M L2 a2 cap2 := by
  subst hn
  exact ⟨heap_set (i := 0) h.box, hr.grown ht (grown_set _ _ _ _) h.box (by decide), ht.grown (grown_set _ _ _ _) h.box (by decide)⟩
theorem box_nil {w : World} {M : Nat} (h : w.heap[M]? = some (.cells #[.slice none 0 0] 27 (0, 0))) : BoxAt w M [] none 0 :=
  ⟨h, u64s_nil w, fun b off x e => by cases e⟩
theorem BoxAt.drew {w : World} {M : Nat} {L : List Nat} {a : Option Addr} {cap : Nat} (h : BoxAt w M L a cap) (n : Nat) : BoxAt (w.drewN n) M L a cap := h.below ⟨rfl, rfl, rfl, Nat.le_refl _, fun _ _ => rfl⟩
theorem below_drewN {n : Nat} {w a : World} (h : Below n w a) (k : Nat) : Below n w (a.drewN k) := ⟨h.os, h.tape, h.output, h.size, h.block⟩
theorem below_self (w : World) (k : Nat) : Below w.heap.size w (w.drewN k) := below_drewN (Below.refl _ _) k
end Go.Proofs.Ytoodjdaadkbdfaa
