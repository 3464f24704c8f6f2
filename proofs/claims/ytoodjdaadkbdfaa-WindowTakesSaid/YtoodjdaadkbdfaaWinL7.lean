/- Windows: the law WindowTakes: what holds all along. -/
import Derived.Test.YtoodjdaadkbdfaaWinL2
import Derived.Test.YtoodjdaadkbdfaaWinL4
namespace Go.Proofs.Ytoodjdaadkbdfaa
set_option linter.unusedVariables false
set_option linter.unusedSimpArgs false
set_option maxRecDepth 100000
open Go.RowKit
/-- a window and its list (in a box); and another window that was cloned, or none, and its list -/
structure TkInv (w wr : World) (B M X : Nat) (o : Value) (Lw Lb : List Nat) (a : Option Addr) (cap : Nat) : Prop where
  bel : Below w.heap.size w wr
  win : WinAt wr B Lw
  good : Good Lw
  box : BoxAt wr M Lb a cap
  old : ∃ Lo a2 cap2, BoxAt wr X Lo a2 cap2 ∧ Good Lo ∧ Lo.length ≤ 300 ∧ (o = .pointer none ∨ ∃ D, o = .pointer (some ⟨D, 0, none⟩) ∧ w.heap.size ≤ D ∧ D ≠ B ∧ WinAt wr D Lo)
theorem TkInv.below {w wr w' : World} {B M X : Nat} {o : Value} {Lw Lb : List Nat} {a : Option Addr} {cap : Nat} (h : TkInv w wr B M X o Lw Lb a cap) (hb : Below wr.heap.size wr w') : TkInv w w' B M X o Lw Lb a cap := by
  obtain ⟨h1, h2, h3, h4, Lo, a2, cap2, h5, h6, h7, h8⟩ := h
  refine ⟨Below.next h1 hb, h2.below hb, h3, h4.below hb, Lo, a2, cap2, h5.below hb, h6, h7, ?_⟩
  rcases h8 with h8 | ⟨D, e, hD, hne, hw⟩
  · exact .inl h8
  · exact .inr ⟨D, e, hD, hne, hw.below hb⟩
theorem TkInv.take {w wr w' : World} {B M X : Nat} {o : Value} {Lw Lw2 Lb : List Nat} {a : Option Addr} {cap : Nat} (h : TkInv w wr B M X o Lw Lb a cap) (hB : w.heap.size ≤ B) (hg : wr.grownBy w' (some B)) (hw2 : WinAt w' B Lw2) (hg2 : Good Lw2) : TkInv w w' B M X o Lw2 Lb a cap := by
  obtain ⟨h1, h2, h3, h4, Lo, a2, cap2, h5, h6, h7, h8⟩ := h
  refine ⟨Below.win h1 hg hB, hw2, hg2, h4.win hg h2, Lo, a2, cap2, h5.win hg h2, h6, h7, ?_⟩
  rcases h8 with h8 | ⟨D, e, hD, hne, hw⟩
  · exact .inl h8
  · exact .inr ⟨D, e, hD, hne, hw.grown hg hne⟩
theorem WinAt.set {w : World} {B M : Nat} {L L2 : List Nat} {a : Option Addr} {cap : Nat} {v : Value} (h : WinAt w B L) (hb : BoxAt w M L2 a cap) : WinAt (w.setCell ⟨M, 0, none⟩ v) B L := h.grown (grown_set _ _ _ _) (box_ne_win hb h)
theorem BoxAt.other {w : World} {M X : Nat} {L L2 : List Nat} {a a2 : Option Addr} {cap cap2 : Nat} {v : Value} (h : BoxAt w X L a cap) (hb : BoxAt w M L2 a2 cap2) (hne : X ≠ M) : BoxAt (w.setCell ⟨M, 0, none⟩ v) X L a cap := h.grown (grown_set _ _ _ _) hb.box (by decide) hne
theorem TkInv.put {w wr : World} {B M X : Nat} {o : Value} {Lw Lb Lb2 : List Nat} {a a2 : Option Addr} {cap cap2 n : Nat} (h : TkInv w wr B M X o Lw Lb a cap) (hM : w.heap.size ≤ M) (hX : X ≠ M) (hn : n = Lb2.length) (hr : U64s wr (.slice a2 n cap2) Lb2) (ht : RowT wr a2) : TkInv w (wr.setCell ⟨M, 0, none⟩ (.slice a2 n cap2)) B M X o Lw Lb2 a2 cap2 := by
  obtain ⟨h1, h2, h3, h4, Lo, a3, cap3, h5, h6, h7, h8⟩ := h
  refine ⟨h1.setCell (p := ⟨M, 0, none⟩) hM _, h2.set h4, h3, h4.set hn hr ht, Lo, a3, cap3, h5.other h4 hX, h6, h7, ?_⟩
  rcases h8 with h8 | ⟨D, e, hD, hne, hw⟩
  · exact .inl h8
  · exact .inr ⟨D, e, hD, hne, hw.set h4⟩
/-- the window that was cloned, with its list -/
theorem TkInv.clone {w wr : World} {B M X D : Nat} {o : Value} {L : List Nat} {a : Option Addr} {cap : Nat} (h : TkInv w wr B M X o L L a cap) (hX : w.heap.size ≤ X) (hne : M ≠ X) (hl : L.length ≤ 300) (hD : w.heap.size ≤ D) (hDB : D ≠ B) (hw : WinAt wr D L) : TkInv w (wr.setCell ⟨X, 0, none⟩ (.slice a L.length cap)) B M X (.pointer (some ⟨D, 0, none⟩)) L L a cap := by
  obtain ⟨h1, h2, h3, h4, Lo, a3, cap3, h5, h6, h7, h8⟩ := h
  exact ⟨h1.setCell (p := ⟨X, 0, none⟩) hX _, h2.set h5, h3, h4.other h5 hne, L, a, cap, h5.set rfl h4.row h4.typ, h3, hl, .inr ⟨D, rfl, hD, hDB, hw.set h5⟩⟩
theorem TkInv.swap {w wr : World} {B M X D : Nat} {L : List Nat} {a : Option Addr} {cap : Nat} (h : TkInv w wr B M X (.pointer (some ⟨D, 0, none⟩)) L L a cap) (hl : L.length ≤ 300) (hB : w.heap.size ≤ B) : w.heap.size ≤ D ∧ ∃ Lo a2 cap2, Lo.length ≤ 300 ∧ TkInv w wr D X M (.pointer (some ⟨B, 0, none⟩)) Lo Lo a2 cap2 := by
  obtain ⟨h1, h2, h3, h4, Lo, a2, cap2, h5, h6, h7, h8⟩ := h
  rcases h8 with h8 | ⟨D', e, hD, hne, hw⟩
  · cases h8
  · cases e
    exact ⟨hD, Lo, a2, cap2, h7, h1, hw, h6, h5, L, a, cap, h4, h3, hl, .inr ⟨B, rfl, hB, fun e => hne e.symm, h2⟩⟩
theorem TkInv.m0 {w wr : World} {B M X : Nat} {o : Value} {Lw Lb : List Nat} {a : Option Addr} {cap : Nat} (h : TkInv w wr B M X o Lw Lb a cap) : wr.cell? ⟨M, 0, none⟩ = some (.slice a Lb.length cap) := cell_of h.box.box 0 rfl
theorem TkInv.f0 {w wr : World} {B M X : Nat} {o : Value} {Lw Lb : List Nat} {a : Option Addr} {cap : Nat} (h : TkInv w wr B M X o Lw Lb a cap) : wr.frozen? ⟨M, 0, none⟩ = false := free_of h.box.box 0
theorem TkInv.x0 {w wr : World} {B M X : Nat} {o : Value} {Lw Lb : List Nat} {a : Option Addr} {cap : Nat} (h : TkInv w wr B M X o Lw Lb a cap) : ∃ v, wr.cell? ⟨X, 0, none⟩ = some v := by
  obtain ⟨Lo, a2, cap2, h5, _⟩ := h.old
  exact ⟨_, cell_of h5.box 0 rfl⟩
theorem TkInv.g0 {w wr : World} {B M X : Nat} {o : Value} {Lw Lb : List Nat} {a : Option Addr} {cap : Nat} (h : TkInv w wr B M X o Lw Lb a cap) : wr.frozen? ⟨X, 0, none⟩ = false := by
  obtain ⟨Lo, a2, cap2, h5, _⟩ := h.old
  exact free_of h5.box 0
end Go.Proofs.Ytoodjdaadkbdfaa
