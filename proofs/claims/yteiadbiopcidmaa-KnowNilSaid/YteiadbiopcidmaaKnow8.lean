/- know: what is kept; pub and ways, by contract. -/
import Derived.Test.YteiadbiopcidmaaKnow7
namespace Go.Proofs.Yteiadbiopcidmaa
set_option linter.unusedVariables false
set_option linter.unusedSimpArgs false
set_option maxRecDepth 100000
open Go.RowKit

/-- all blocks but some are as they were -/
structure Kept (S : Nat → Prop) (w w' : World) : Prop where
  os : w'.os = w.os
  tape : w'.tape = w.tape
  output : w'.output = w.output
  size : w.heap.size ≤ w'.heap.size
  block : ∀ k, k < w.heap.size → ¬ S k → w'.heap[k]? = w.heap[k]?
theorem Kept.of_grown {w w' : World} {row : Option Nat} (h : w.grownBy w' row) : Kept (fun k => row = some k) w w' :=
  ⟨h.os, h.tape, h.output, h.size, fun k hk hne => h.block k hk (fun e => hne e.symm)⟩
theorem Kept.trans {S T U : Nat → Prop} {a b c : World} (h : Kept S a b) (h2 : Kept T b c) (hu : ∀ k, k < a.heap.size → S k ∨ T k → U k) : Kept U a c :=
  ⟨h2.os.trans h.os, h2.tape.trans h.tape, h2.output.trans h.output, Nat.le_trans h.size h2.size, fun k hk hn => (h2.block k (Nat.lt_of_lt_of_le hk h.size) (fun e => hn (hu k hk (.inr e)))).trans (h.block k hk (fun e => hn (hu k hk (.inl e))))⟩
theorem Kept.grown {S : Nat → Prop} {a b c : World} (h : Kept S a b) (h2 : b.grownBy c none) : Kept S a c :=
  h.trans (Kept.of_grown h2) (fun k _ hk => hk.elim id (fun e => by cases e))
theorem Kept.mono {S U : Nat → Prop} {a b : World} (h : Kept S a b) (hu : ∀ k, k < a.heap.size → S k → U k) : Kept U a b :=
  ⟨h.os, h.tape, h.output, h.size, fun k hk hn => h.block k hk (fun e => hn (hu k hk e))⟩
theorem Kept.at {S : Nat → Prop} {a b : World} (h : Kept S a b) {k : Nat} {o : Obj} (hk : a.heap[k]? = some o) (hs : ¬ S k) : b.heap[k]? = some o :=
  (h.block k (Array.getElem?_eq_some_iff.1 hk).1 hs).trans hk
theorem PtrRow.keep {ok S : Nat → Prop} {w w' : World} {v : Value} {bs : List Nat} (h : PtrRow w v bs) (hf : rowOk ok v bs) (hg : Kept S w w') (hr : ∀ k, ok k → ¬ S k) : PtrRow w' v bs := by
  obtain ⟨a, cap, rfl, h1, h2, h3⟩ := h
  by_cases h0 : bs = []
  · exact ⟨a, cap, rfl, h1, h2, .inl h0⟩
  · refine ⟨a, cap, rfl, h1, h2, .inr ?_⟩
    rcases h3 with h3 | ⟨g, off, rfl, hc⟩
    · exact absurd h3 h0
    · refine ⟨g, off, rfl, fun i hi => ?_⟩
      have hb := hf h0 _ _ _ rfl
      have h4 := hc i hi
      rw [← h4]
      exact World.cell?_of_block (hg.block g (World.block_lt_of_cell? w _ h4) (hr g hb))
mutual
theorem PieceAt.keep {ok S : Nat → Prop} {w w' : World} (hg : Kept S w w') (hr : ∀ k, ok k → ¬ S k) : ∀ {t : Tm} {B : Nat}, PieceAt ok w t B → PieceAt ok w' t B
  | .mk k t ps, B, h => by
    unfold PieceAt at h ⊢
    obtain ⟨h0, v, bs, h1, h2, h3, h4⟩ := h
    exact ⟨h0, v, bs, hg.at h1 (hr B h0), h2.keep h3 hg hr, h3, PiecesAt.keep hg hr h4⟩
theorem PiecesAt.keep {ok S : Nat → Prop} {w w' : World} (hg : Kept S w w') (hr : ∀ k, ok k → ¬ S k) : ∀ {ts : List Tm} {bs : List Nat}, PiecesAt ok w ts bs → PiecesAt ok w' ts bs
  | [], bs, h => by unfold PiecesAt at h ⊢; exact h
  | t :: ts, bs, h => by
    unfold PiecesAt at h ⊢
    obtain ⟨b, r, e, h1, h2⟩ := h
    exact ⟨b, r, e, PieceAt.keep hg hr h1, PiecesAt.keep hg hr h2⟩
end
theorem PieceAt.wide {ok ok' : Nat → Prop} {w : World} (hk : ∀ k, ok k → ok' k) {t : Tm} {B : Nat} (h : PieceAt ok w t B) : PieceAt ok' w t B := h.inHeap fun k h1 _ => hk k h1
theorem PiecesAt.wide {ok ok' : Nat → Prop} {w : World} (hk : ∀ k, ok k → ok' k) {ts : List Tm} {bs : List Nat} (h : PiecesAt ok w ts bs) : PiecesAt ok' w ts bs := h.inHeap fun k h1 _ => hk k h1
theorem PieceAt.lt {ok : Nat → Prop} {w : World} {t : Tm} {B : Nat} (h : PieceAt ok w t B) : B < w.heap.size := by
  obtain ⟨k, x, ps⟩ := t
  unfold PieceAt at h
  obtain ⟨_, v, bs, h1, _⟩ := h
  exact (Array.getElem?_eq_some_iff.1 h1).1
theorem PiecesAt.two {ok : Nat → Prop} {w : World} {t1 t2 : Tm} {B1 B2 : Nat} (h1 : PieceAt ok w t1 B1) (h2 : PieceAt ok w t2 B2) : PiecesAt ok w [t1, t2] [B1, B2] := by
  unfold PiecesAt; refine ⟨B1, [B2], rfl, h1, ?_⟩
  unfold PiecesAt; refine ⟨B2, [], rfl, h2, ?_⟩
  unfold PiecesAt; rfl
theorem PiecesAt.one {ok : Nat → Prop} {w : World} {t1 : Tm} {B1 : Nat} (h1 : PieceAt ok w t1 B1) : PiecesAt ok w [t1] [B1] := by
  unfold PiecesAt; refine ⟨B1, [], rfl, h1, ?_⟩
  unfold PiecesAt; rfl
/-- what is new may be used, too -/
def OrNew (ok : Nat → Prop) (b : Nat) : Nat → Prop := fun k => ok k ∨ b ≤ k
def pubT (t : Tm) : Tm := .mk 5 [] [t]
theorem kpub_any (tm : Tm) (B : Nat) (ok : Nat → Prop) (w : World) (h : PieceAt ok w tm B) :
    Calls Try.prog 34 #[ptrV B] w fun e w' => ∃ Bp, e = .returned (ptrV Bp) ∧ PieceAt (OrNew ok w.heap.size) w' (pubT tm) Bp ∧ w.grownBy w' none := by
  have H := Lib.hid h
  clear h
  unfold ptrV
  go_enter Try.func34, Try.ntmps34
  go_wp2
  go_ret
  refine ⟨_, rfl, ?_, grown_trans (World.grownBy_alloc w _ none) (World.grownBy_alloc _ _ none)⟩
  have hg := grown_trans (World.grownBy_alloc w (.cells #[.pointer (some ⟨B, 0, none⟩)] 33) none) (World.grownBy_alloc _ (.cells #[.int .i64 5, .string ⟨#[]⟩, .slice (some ⟨w.heap.size, 0, none⟩) 1 1] 64) none)
  unfold pubT PieceAt
  refine ⟨.inr (by simp), .slice (some ⟨w.heap.size, 0, none⟩) 1 1, [B], ?_, ⟨_, 1, rfl, Nat.le_refl _, by decide, .inr ⟨w.heap.size, 0, rfl, fun i hi => ?_⟩⟩, ?_, PiecesAt.one ((H.out.kept hg (fun r e => by cases e)).wide (fun k hk => .inl hk))⟩
  · have h2 := heap_alloc_new (w.alloc (.cells #[.pointer (some ⟨B, 0, none⟩)] 33)) (.cells #[.int .i64 5, .string (strB []), .slice (some ⟨w.heap.size, 0, none⟩) 1 1] 64)
    rw [show (w.alloc (.cells #[.pointer (some ⟨B, 0, none⟩)] 33)).heap.size = w.heap.size + 1 by simp] at h2
    exact h2
  · have : i = 0 := by simpa using hi
    subst this
    exact (World.cell?_of_block (Below.heap_alloc _ _ _ (by simp))).trans (cell_of (heap_alloc_new w _) 0 rfl)
  · intro _ a n c e
    cases e
    exact .inr (Nat.le_refl _)
end Go.Proofs.Yteiadbiopcidmaa
