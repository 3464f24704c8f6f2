/- know: what is within a Seal whose key can't be made. -/
import Derived.Test.YteiadbiopcidmaaKnow15
namespace Go.Proofs.Yteiadbiopcidmaa
set_option linter.unusedVariables false
set_option linter.unusedSimpArgs false
set_option maxRecDepth 100000
open Go.RowKit

theorem two_cells {ok : Nat → Prop} {w : World} {k B : Nat} {t : List UInt8} {x y : Tm} {r : List Tm} (h : PieceAt ok w (.mk k t (x :: y :: r)) B) :
    ∃ g off n c b0 b1, ok B ∧ ok g ∧ 2 ≤ n ∧ n ≤ c ∧ c ≤ maxLen ∧ w.cell? ⟨B, 0, none⟩ = some (.int .i64 k) ∧ w.cell? ⟨B, 2, none⟩ = some (.slice (some ⟨g, off, none⟩) n c) ∧ w.cell? ⟨g, off, none⟩ = some (.pointer (some ⟨b0, 0, none⟩)) ∧ w.cell? ⟨g, off + 1, none⟩ = some (.pointer (some ⟨b1, 0, none⟩)) ∧ PieceAt ok w x b0 ∧ PieceAt ok w y b1 := by
  unfold PieceAt at h
  obtain ⟨h0, v, bs, hb, hr, hro, hp⟩ := h
  unfold PiecesAt at hp
  obtain ⟨b0, r0, rfl, hp0, hp⟩ := hp
  unfold PiecesAt at hp
  obtain ⟨b1, r1, rfl, hp1, hp⟩ := hp
  obtain ⟨a, cap, rfl, hc1, hc2, hr | ⟨g, off, rfl, hr⟩⟩ := hr
  · cases hr
  · exact ⟨g, off, _, cap, b0, b1, h0, hro (by simp) _ _ _ rfl, by simp, hc1, hc2, cell_of hb 0 rfl, cell_of hb 2 rfl, hr 0 (by simp), hr 1 (by simp), hp0, hp1⟩
def Sealed (w : World) (S : Nat → Prop) (X : Nat → World → Prop) (b1 : Nat) (e : Ending) (W : World) : Prop :=
  e = .returned (.slice none 0 0) ∧ ∃ C wv v W0, Kept S w W0 ∧ X C W0 ∧ SpotIs W0 C false wv (.slice none 0 0) ∧ Kept (fun k => k = C) W0 W ∧ SpotIs W C false wv v ∧ W.ownsRow W0.heap.size 33 1 v 1 [ptrV b1]
set_option maxHeartbeats 8000000 in
theorem kwithin_seal (S : Nat → Prop) (X : Nat → World → Prop) (t : List UInt8) (x y : Tm) (r : List Tm) (B K : Nat) (ok : Nat → Prop) (w : World) (h : PieceAt ok w (.mk 10 t (x :: y :: r)) B) (hok : ∀ k, ok k → ¬ S k)
    (hspot : ∀ b0, PieceAt ok w x b0 → Calls Try.prog 14 #[.pointer (some ⟨K, 0, none⟩), .pointer (some ⟨b0, 0, none⟩)] w fun e W => ∃ C wv, e = .returned (ptrV C) ∧ Kept S w W ∧ X C W ∧ SpotIs W C false wv (.slice none 0 0)) :
    Calls Try.prog 20 #[.pointer (some ⟨K, 0, none⟩), .pointer (some ⟨B, 0, none⟩)] w fun e W => ∃ b1, PieceAt ok w y b1 ∧ Sealed w S X b1 e W := by
  obtain ⟨g, off, n, c, b0, b1, hB, hg, hn, hc1, hc2, g0, g2, d0, d1, hp0, hp1⟩ := two_cells h
  obtain ⟨i0, hi0, hz0, hz1, hz2⟩ := info_parts Try.infoPc
  have HSP := Lib.hid (hspot b0 hp0)
  have HNB := Lib.hid (hok B hB)
  have HNG := Lib.hid (hok g hg)
  have HP1 := Lib.hid hp1
  have hn0 : (0 : Int) < (n : Nat) := by omega
  have hn1 : (1 : Int) < (n : Nat) := by omega
  unfold maxLen at hc2
  clear h hok hspot hp0 hp1 hB hg
  go_enter Try.func20, Try.ntmps20
  go_wp2_with (first | (go_at_call 14; ((with_reducible refine HSP.out.mono ?_); rintro e w2 ⟨C, wv, rfl, hkp, hx, hsp⟩; unfold ptrV; have c2 := (World.cell?_of_block (hkp.block B (World.block_lt_of_cell? w _ g2) (HNB.out))).trans g2; have c1 := (World.cell?_of_block (a := ⟨g, off + 1, none⟩) (hkp.block g (World.block_lt_of_cell? w _ d1) (HNG.out))).trans d1; have s0 : w2.cell? ⟨C, 0, none⟩ = some (.bool false) := cell_of hsp 0 rfl; have s2 : w2.cell? ⟨C, 2, none⟩ = some (.slice none 0 0) := cell_of hsp 2 rfl; have HKP := Lib.hid hkp; have HX := Lib.hid hx; have HSPT := Lib.hid hsp; clear hkp hx hsp)) | fail)
  have e1 : (w2.drew.alloc (.cells #[.pointer (some ⟨b1, 0, none⟩)] 33)) = (w2.alloc (.cells #[.pointer (some ⟨b1, 0, none⟩)] 33)).drew := rfl
  have a2 : ∀ o, (w2.alloc o).cell? ⟨C, 2, none⟩ = some (.slice none 0 0) := fun o => cell_of (keep_alloc HSPT.out o) 2 rfl
  clear e1
  go_region_law (first | (refine step_append_lies _ (by rfl) _ _ _ (by rfl) w2.heap.size 33 i0 _ 1 8 Try.underlying40 hi0 hz0 hz1 hz2 rfl (by omega) (.slice none 0 0) 0 [] (by rfl) (World.ownsRow_nil _ _ _ _) ⟨w2.heap.size, 0, none⟩ 1 1 [ptrV b1] (by rfl) (by rfl) (World.news_of_block (cs := #[ptrV b1]) (t := 33) (fr := (0, 0)) (heap_alloc_new w2 _)) (by simp [Value.oneCell', ptrV]) (by omega) (by unfold maxLen; omega) (by omega) (by simp) (w2.heap.size + 1) (by simp) ?_; intro g7 cp w7 hown hgrow hat hlt7; have hs7 : SpotIs w7 C false wv (.slice none 0 0) := keep_far (a := (w2.alloc (.cells #[.pointer (some ⟨b1, 0, none⟩)] 33)).drew) (keep_alloc (w := w2) HSPT.out (.cells #[.pointer (some ⟨b1, 0, none⟩)] 33)) hgrow (fun e => by cases e); have y2 : w7.cell? ⟨C, 2, none⟩ = some (.slice none 0 0) := cell_of hs7 2 rfl; have yf : w7.frozen? ⟨C, 2, none⟩ = false := free_of hs7 2; have HS7 := Lib.hid hs7; have HOWN := Lib.hid hown; have HGROW := Lib.hid hgrow; have HAT := Lib.hid hat; clear hs7 hown hgrow hat hlt7) | fail)
  all_goals
    have hlC : C < w2.heap.size := (Array.getElem?_eq_some_iff.1 HSPT.out).1
    have hg7 : g7 ≠ C := by
      rcases HAT.out with h | h
      · cases h
      · omega
    go_wp2
    go_ret
    have k1 : w2.grownBy (w2.alloc (.cells #[.pointer (some ⟨b1, 0, none⟩)] 33)).drew none := grown_trans (World.grownBy_alloc w2 _ none) (grown_drewN _ 1 none)
    have k2 : Kept (fun k => k = C) w2 w7 := Kept.mono (Kept.of_grown (grown_trans k1 HGROW.out)) (fun k _ e => by cases e)
    have k3 := k2.trans (Kept.of_grown (grown_set w7 C 2 (.slice (some ⟨g7, 0, none⟩) 1 cp))) (U := fun k => k = C) (fun k _ hk => hk.elim id (fun e => by cases e; rfl))
    exact ⟨b1, HP1.out, rfl, C, wv, _, w2, HKP.out, HX.out, HSPT.out, k3, heap_set (i := 2) HS7.out, World.ownsRow.kept HOWN.out (grown_set _ _ _ _) (.inr (fun e => hg7 (by simpa [Value.ownBlock] using e)))⟩
end Go.Proofs.Yteiadbiopcidmaa
