/- know: all ways to make a term, by contract. -/
import Derived.Test.YteiadbiopcidmaaKnow8
namespace Go.Proofs.Yteiadbiopcidmaa
set_option linter.unusedVariables false
set_option linter.unusedSimpArgs false
set_option maxRecDepth 100000
open Go.RowKit

def waysOf : Tm → List (List Tm)
  | .mk k _ ps => if k = 2 then [] else if k = 6 then (match ps with | [x, y] => [[x, pubT y], [y, pubT x]] | _ => []) else [ps]
theorem waysOf_mk (k : Nat) (t : List UInt8) (ps : List Tm) : waysOf (.mk k t ps) = if k = 2 then [] else if k = 6 then (match ps with | [x, y] => [[x, pubT y], [y, pubT x]] | _ => []) else [ps] := rfl
def WayAt (ok : Nat → Prop) (w : World) (v : Value) (ts : List Tm) : Prop := ∃ bs, PtrRow w v bs ∧ rowOk ok v bs ∧ PiecesAt ok w ts bs
def WaysAt (ok : Nat → Prop) (w : World) (v : Value) (wss : List (List Tm)) : Prop :=
  ∃ a c, v = .slice a wss.length c ∧ wss.length ≤ c ∧ c ≤ maxLen ∧ (wss = [] ∨ ∃ g, a = some ⟨g, 0, none⟩ ∧ ok g ∧ ∀ i ts, wss[i]? = some ts → ∃ vi, w.cell? ⟨g, i, none⟩ = some vi ∧ WayAt ok w vi ts)
theorem WayAt.keep {ok S : Nat → Prop} {w w' : World} {v : Value} {ts : List Tm} (h : WayAt ok w v ts) (hg : Kept S w w') (hr : ∀ k, ok k → ¬ S k) : WayAt ok w' v ts := by
  obtain ⟨bs, h1, h2, h3⟩ := h
  exact ⟨bs, h1.keep h2 hg hr, h2, h3.keep hg hr⟩
theorem WaysAt.keep {ok S : Nat → Prop} {w w' : World} {v : Value} {wss : List (List Tm)} (h : WaysAt ok w v wss) (hg : Kept S w w') (hr : ∀ k, ok k → ¬ S k) : WaysAt ok w' v wss := by
  obtain ⟨a, c, e, h1, h2, h3⟩ := h
  refine ⟨a, c, e, h1, h2, h3.imp id ?_⟩
  rintro ⟨g, rfl, hgo, hc⟩
  refine ⟨g, rfl, hgo, fun i ts hi => ?_⟩
  obtain ⟨vi, h4, h5⟩ := hc i ts hi
  exact ⟨vi, (World.cell?_of_block (hg.block g (World.block_lt_of_cell? w _ h4) (hr g hgo))).trans h4, h5.keep hg hr⟩
theorem two_row {w : World} {g b0 b1 : Nat} {T : TypeId} (h : w.heap[g]? = some (.cells #[.pointer (some ⟨b0, 0, none⟩), .pointer (some ⟨b1, 0, none⟩)] T (0, 0))) : PtrRow w (.slice (some ⟨g, 0, none⟩) 2 2) [b0, b1] := by
  refine ⟨_, 2, rfl, Nat.le_refl _, by decide, .inr ⟨g, 0, rfl, fun i hi => ?_⟩⟩
  have hi2 : i = 0 ∨ i = 1 := by simp at hi; omega
  rcases hi2 with rfl | rfl
  · exact cell_of h 0 rfl
  · exact cell_of h 1 rfl
def WaysOK (ok : Nat → Prop) (w : World) (wss : List (List Tm)) (e : Ending) (w' : World) : Prop := ∃ v, e = .returned v ∧ WaysAt (OrNew ok w.heap.size) w' v wss ∧ w.grownBy w' none
theorem kways_any (tm : Tm) (hd : tm.kind = 6 → tm.parts.length = 2) (B : Nat) (ok : Nat → Prop) (w : World) (h : PieceAt ok w tm B) :
    Calls Try.prog 22 #[ptrV B] w (WaysOK ok w (waysOf tm)) := by
  obtain ⟨k, t, ps⟩ := tm
  unfold PieceAt at h
  obtain ⟨_, v, bs, hb, hr, hro, hp⟩ := h
  have hlt : B < w.heap.size := (Array.getElem?_eq_some_iff.1 hb).1
  have g0 : w.cell? ⟨B, 0, none⟩ = some (.int .i64 k) := cell_of hb 0 rfl
  have g2 : w.cell? ⟨B, 2, none⟩ = some v := cell_of hb 2 rfl
  simp only [Tm.kind, Tm.parts] at hd
  rw [waysOf_mk]
  unfold ptrV
  by_cases h2 : k = 2
  · subst h2
    rw [if_pos rfl]
    clear hb hr hro hp hd
    go_enter Try.func22, Try.ntmps22
    go_wp2
    go_ret
    exact ⟨_, rfl, ⟨none, 0, rfl, Nat.le_refl _, Nat.zero_le _, .inl rfl⟩, grown_refl _ _⟩
  · have hk2 : ((k : Int) == 2) = false := beqf (by omega)
    rw [if_neg h2]
    by_cases h6 : k = 6
    · subst h6
      rw [if_pos rfl]
      have hlen := hd rfl
      match ps, hlen with
      | [x, y], _ =>
        unfold PiecesAt at hp
        obtain ⟨b0, r, rfl, hp0, hp⟩ := hp
        unfold PiecesAt at hp
        obtain ⟨b1, r, rfl, hp1, hp⟩ := hp
        unfold PiecesAt at hp
        subst hp
        obtain ⟨a, cap, rfl, hc1, hc2, hr | ⟨g, off, rfl, hr⟩⟩ := hr
        · cases hr
        · have c0 := hr 0 (by simp)
          have c1 := hr 1 (by simp)
          simp only [List.length_cons, List.length_nil, Nat.zero_add, Nat.reduceAdd, Nat.add_zero, List.getD_cons_zero, List.getD_cons_succ] at c0 c1 g2 hc1
          have HP0 := Lib.hid hp0
          have HP1 := Lib.hid hp1
          have HPB1 : Hid (∀ w, PieceAt ok w y b1 → Calls Try.prog 34 #[.pointer (some ⟨b1, 0, none⟩)] w fun e w' => ∃ Bp, e = .returned (.pointer (some ⟨Bp, 0, none⟩)) ∧ PieceAt (OrNew ok w.heap.size) w' (pubT y) Bp ∧ w.grownBy w' none) := Lib.hid (fun w h => kpub_any y b1 ok w h)
          have HPB2 : Hid (∀ w, PieceAt ok w x b0 → Calls Try.prog 34 #[.pointer (some ⟨b0, 0, none⟩)] w fun e w' => ∃ Bp, e = .returned (.pointer (some ⟨Bp, 0, none⟩)) ∧ PieceAt (OrNew ok w.heap.size) w' (pubT x) Bp ∧ w.grownBy w' none) := Lib.hid (fun w h => kpub_any x b0 ok w h)
          clear hb hr hro hd hp0 hp1 hlen
          go_enter Try.func22, Try.ntmps22
          go_wp2
          go_quiet (fail)
          go_wp2_with (first | (go_at_call 34; ((with_reducible refine (HPB2.out _ (HP0.out.keep HK2.out (fun k _ e => e))).mono ?_); rintro e w3 ⟨bp2, rfl, hq2, hg3⟩; have HQ2 := Lib.hid hq2; have HG3 := Lib.hid hg3; clear hq2 hg3)) | (go_at_call 34; ((with_reducible refine (HPB1.out (w.drewN nq) (HP1.out.kept (grown_drewN w nq none) (fun r e => by cases e))).mono ?_); rintro e w2 ⟨bp1, rfl, hq1, hg2⟩; have HQ1 := Lib.hid hq1; have HG2 := Lib.hid hg2; have HK2 : Hid (Kept (fun _ => False) w (w2.alloc (.cells #[.pointer (some ⟨b0, 0, none⟩), .pointer (some ⟨bp1, 0, none⟩)] 33))) := Lib.hid (Kept.mono (Kept.of_grown (grown_trans (grown_trans (grown_drewN w nq none) hg2) (World.grownBy_alloc _ _ none))) (fun k _ e => by cases e)); clear hq1 hg2)) | fail)
          go_ret
          have hg12 : w.grownBy w2 none := grown_trans (grown_drewN w nq none) HG2.out
          have hg1W : w2.grownBy (w2.alloc (.cells #[.pointer (some ⟨b0, 0, none⟩), .pointer (some ⟨bp1, 0, none⟩)] 33)) none := World.grownBy_alloc _ _ none
          have hg3 := HG3.out
          have hgW := grown_trans (World.grownBy_alloc w3 (.cells #[.pointer (some ⟨b1, 0, none⟩), .pointer (some ⟨bp2, 0, none⟩)] 33) none) (World.grownBy_alloc _ (.cells #[.slice (some ⟨w2.heap.size, 0, none⟩) 2 2, .slice (some ⟨w3.heap.size, 0, none⟩) 2 2] 40) none)
          have hgA := grown_trans (grown_trans hg12 hg1W) (grown_trans hg3 hgW)
          have s12 := hg12.size
          have s13 := grown_trans hg12 (grown_trans hg1W hg3)
          have B1 := keep_far (heap_alloc_new w2 (.cells #[.pointer (some ⟨b0, 0, none⟩), .pointer (some ⟨bp1, 0, none⟩)] 33)) (grown_trans hg3 hgW) (fun e => by cases e)
          have B2 := keep_far (heap_alloc_new w3 (.cells #[.pointer (some ⟨b1, 0, none⟩), .pointer (some ⟨bp2, 0, none⟩)] 33)) (World.grownBy_alloc _ (.cells #[.slice (some ⟨w2.heap.size, 0, none⟩) 2 2, .slice (some ⟨w3.heap.size, 0, none⟩) 2 2] 40) none) (fun e => by cases e)
          have B3 := heap_alloc_new (w3.alloc (.cells #[.pointer (some ⟨b1, 0, none⟩), .pointer (some ⟨bp2, 0, none⟩)] 33)) (.cells #[.slice (some ⟨w2.heap.size, 0, none⟩) 2 2, .slice (some ⟨w3.heap.size, 0, none⟩) 2 2] 40)
          rw [show (w3.alloc (.cells #[.pointer (some ⟨b1, 0, none⟩), .pointer (some ⟨bp2, 0, none⟩)] 33)).heap.size = w3.heap.size + 1 by simp] at B3
          have px := (HP0.out.kept hgA (fun r e => by cases e)).wide (ok' := OrNew ok w.heap.size) (fun k hk => .inl hk)
          have py := (HP1.out.kept hgA (fun r e => by cases e)).wide (ok' := OrNew ok w.heap.size) (fun k hk => .inl hk)
          have qy : PieceAt (OrNew ok w.heap.size) _ (pubT y) bp1 := HQ1.out.kept (grown_trans hg1W (grown_trans hg3 hgW)) (fun r e => by cases e)
          have qx := (HQ2.out.kept hgW (fun r e => by cases e)).wide (ok' := OrNew ok w.heap.size) (fun k hk => hk.elim .inl (fun h => .inr (Nat.le_trans (grown_trans hg12 hg1W).size h)))
          refine ⟨_, rfl, ⟨_, 2, rfl, Nat.le_refl _, by decide, .inr ⟨w3.heap.size + 1, rfl, .inr (Nat.le_trans s13.size (Nat.le_succ _)), fun i ts hi => ?_⟩⟩, hgA⟩
          have hi2 : i = 0 ∨ i = 1 := by
            have := (List.getElem?_eq_some_iff.1 hi).1
            simp at this; omega
          rcases hi2 with rfl | rfl
          · cases hi
            exact ⟨_, cell_of B3 0 rfl, [b0, bp1], two_row B1, fun _ a n c e => by cases e; exact .inr s12, PiecesAt.two px qy⟩
          · cases hi
            exact ⟨_, cell_of B3 1 rfl, [b1, bp2], two_row B2, fun _ a n c e => by cases e; exact .inr s13.size, PiecesAt.two py qx⟩
    · have hk6 : ((k : Int) == 6) = false := beqf (by omega)
      rw [if_neg h6]
      obtain ⟨pa, pn, pc, rfl⟩ : ∃ a n c, v = .slice a n c := by
        obtain ⟨a, cap, e, _⟩ := hr
        exact ⟨a, _, cap, e⟩
      have HR := Lib.hid hr
      have HRO := Lib.hid hro
      have HP := Lib.hid hp
      clear hb hr hro hp hd
      go_enter Try.func22, Try.ntmps22
      go_wp2
      go_ret
      have hg := World.grownBy_alloc w (.cells #[.slice pa pn pc] 40) none
      refine ⟨_, rfl, ⟨_, 1, rfl, Nat.le_refl _, by decide, .inr ⟨_, rfl, .inr (Nat.le_refl _), fun i ts hi => ?_⟩⟩, hg⟩
      have h0 : i = 0 := by
        have := (List.getElem?_eq_some_iff.1 hi).1
        simpa using this
      subst h0
      cases hi
      exact ⟨.slice pa pn pc, cell_of (heap_alloc_new w _) 0 rfl, bs, HR.out.kept HRO.out hg (fun r e => by cases e), fun h0 a n c e => .inl (HRO.out h0 a n c e), (HP.out.kept hg (fun r e => by cases e)).wide (fun k hk => .inl hk)⟩
end Go.Proofs.Yteiadbiopcidmaa
