/- know: spots that are made anew: of what is had, of an Atom that isn't, of what needs nothing. -/
import Derived.Test.YteiadbiopcidmaaKnow22
namespace Go.Proofs.Yteiadbiopcidmaa
set_option linter.unusedVariables false
set_option linter.unusedSimpArgs false
set_option maxRecDepth 100000
open Go.RowKit

/-- a new spot, for which nothing waits -/
def Spotted (w : World) (sm : Nat) (Sp : List (Name × Nat)) (x : Name) (m : Bool) (e : Ending) (W : World) : Prop :=
  ∃ Bn, e = .returned (ptrV Bn) ∧ Kept (fun k => k = sm) w W ∧ w.heap.size ≤ Bn ∧ SpotIs W Bn m (.slice none 0 0) (.slice none 0 0) ∧ MapIs ptrV W sm (Sp ++ [(x, Bn)])
theorem kspot_hads (tm : Tm) (h5 : tm.kind = 5 → tm.parts ≠ []) (h6 : tm.kind = 6 → tm.parts.length = 2) (B : Nat) (ok : Nat → Prop) (w : World) (h : PieceAt ok w tm B) (K hm sm : Nat) (Hd : List (Name × Bool)) (Sp : List (Name × Nat)) (hk : KnowIs w K (.map (some hm)) (.map (some sm))) (hh : MapIs Value.bool w hm Hd) (hs : MapIs ptrV w sm Sp) (hl : lookL Sp (nameOf tm) = none) (hoks : ∀ k, ok k → k ≠ sm) (hl2 : lookL Hd (nameOf tm) = some true) : Calls Try.prog 14 #[.pointer (some ⟨K, 0, none⟩), .pointer (some ⟨B, 0, none⟩)] w (Spotted w sm Sp (nameOf tm) true) := by
  refine (kspot_new true (fun _ _ _ _ => True) tm h5 B ok w h K hm sm Hd Sp hk hh hs hl hl2 h6 hoks (fun h => by cases h) (fun h => by cases h)).mono ?_
  rintro e W ⟨Bn, rfl, hn⟩
  rw [if_pos rfl] at hn
  exact ⟨Bn, rfl, hn.1, hn.2.1, hn.2.2.1, hn.2.2.2⟩
theorem kspot_leaf (tm : Tm) (h5 : tm.kind = 5 → tm.parts ≠ []) (h6 : tm.kind = 6 → tm.parts.length = 2) (B : Nat) (ok : Nat → Prop) (w : World) (h : PieceAt ok w tm B) (K hm sm : Nat) (Hd : List (Name × Bool)) (Sp : List (Name × Nat)) (hk : KnowIs w K (.map (some hm)) (.map (some sm))) (hh : MapIs Value.bool w hm Hd) (hs : MapIs ptrV w sm Sp) (hl : lookL Sp (nameOf tm) = none) (hoks : ∀ k, ok k → k ≠ sm) (hl2 : lookL Hd (nameOf tm) = none) (hw : waysOf tm = []) : Calls Try.prog 14 #[.pointer (some ⟨K, 0, none⟩), .pointer (some ⟨B, 0, none⟩)] w (Spotted w sm Sp (nameOf tm) false) := by
  refine (kspot_new false (fun Bn v i W2 => Kept (fun k => k = sm) w W2 ∧ w.heap.size ≤ Bn ∧ SpotIs W2 Bn false (.slice none 0 0) (.slice none 0 0) ∧ MapIs ptrV W2 sm (Sp ++ [(nameOf tm, Bn)])) tm h5 B ok w h K hm sm Hd Sp hk hh hs hl (by simpa using hl2) h6 hoks ?_ ?_).mono ?_
  · intro _ Bn W0 W v hn hg _
    exact ⟨hn.1.grown hg, hn.2.1, keep_far hn.2.2.1 hg (fun e => by cases e), MapIs.keep hn.2.2.2 hg (fun e => by cases e)⟩
  · intro _ Bn v i ts W hi _
    rw [hw] at hi; cases hi
  · rintro e W ⟨Bn, rfl, hn⟩
    rw [if_neg (by decide)] at hn
    obtain ⟨v, h1, h2, h3, h4⟩ := hn
    exact ⟨Bn, rfl, h1, h2, h3, h4⟩
theorem kept_new {S : Nat → Prop} {w W : World} {b i : Nat} {v : Value} (h : Kept S w W) (hb : w.heap.size ≤ b) : Kept S w (W.setCell ⟨b, i, none⟩ v) :=
  h.trans (Kept.of_grown (grown_set W b i v)) (fun k hk e => e.elim id (fun e => by cases e; omega))
theorem map_set {α : Type} {f : α → Value} {W : World} {b i m : Nat} {v : Value} {L : List (Name × α)} {C : Array Value} {T : TypeId} (h : MapIs f W m L) (hb : W.heap[b]? = some (.cells C T (0, 0))) : MapIs f (W.setCell ⟨b, i, none⟩ v) m L :=
  (heap_set_other (fun e => cells_map hb h e.symm)).trans h
/-- a way on which there is nothing -/
theorem way_none {ok : Nat → Prop} {W : World} {vi : Value} (h : WayAt ok W vi []) : ∃ pa pc, vi = .slice pa 0 pc ∧ pc ≤ maxLen := by
  obtain ⟨bs, ⟨a, cap, rfl, _, hc, _⟩, _, hp⟩ := h
  unfold PiecesAt at hp
  subst hp
  exact ⟨a, cap, rfl, hc⟩
set_option maxHeartbeats 1000000 in
theorem kspot_zero (tm : Tm) (h5 : tm.kind = 5 → tm.parts ≠ []) (h6 : tm.kind = 6 → tm.parts.length = 2) (B : Nat) (ok : Nat → Prop) (w : World) (h : PieceAt ok w tm B) (K hm sm : Nat) (Hd : List (Name × Bool)) (Sp : List (Name × Nat)) (hk : KnowIs w K (.map (some hm)) (.map (some sm))) (hh : MapIs Value.bool w hm Hd) (hs : MapIs ptrV w sm Sp) (hl : lookL Sp (nameOf tm) = none) (hoks : ∀ k, ok k → k ≠ sm) (hl2 : lookL Hd (nameOf tm) = none) (hw : waysOf tm = [[]]) : Calls Try.prog 14 #[.pointer (some ⟨K, 0, none⟩), .pointer (some ⟨B, 0, none⟩)] w (Spotted w sm Sp (nameOf tm) true) := by
  refine (kspot_new false (fun Bn v i W2 => Kept (fun k => k = sm) w W2 ∧ w.heap.size ≤ Bn ∧ SpotIs W2 Bn (decide (0 < i)) (.slice none 0 0) (.slice none 0 0) ∧ MapIs ptrV W2 sm (Sp ++ [(nameOf tm, Bn)]) ∧ (i = 0 → ∃ g c pa pc, v = .slice (some ⟨g, 0, none⟩) 1 c ∧ W2.cell? ⟨g, 0, none⟩ = some (.slice pa 0 pc) ∧ pc ≤ maxLen)) tm h5 B ok w h K hm sm Hd Sp hk hh hs hl (by simpa using hl2) h6 hoks ?_ ?_).mono ?_
  · intro _ Bn W0 W v hn hg hwa
    refine ⟨hn.1.grown hg, hn.2.1, keep_far hn.2.2.1 hg (fun e => by cases e), MapIs.keep hn.2.2.2 hg (fun e => by cases e), fun _ => ?_⟩
    rw [hw] at hwa
    obtain ⟨a, c, rfl, _, _, h0 | ⟨g, rfl, _, hc⟩⟩ := hwa
    · cases h0
    · obtain ⟨vi, hvi, hway⟩ := hc 0 [] rfl
      obtain ⟨pa, pc, rfl, hpc⟩ := way_none hway
      exact ⟨g, c, pa, pc, rfl, hvi, hpc⟩
  · intro _ Bn v i ts W hi hJ
    rw [hw] at hi ⊢
    obtain ⟨h1, h2, h3, h4, h5'⟩ := hJ
    have hi0 : i = 0 := by
      have := (List.getElem?_eq_some_iff.1 hi).1
      simpa using this
    subst hi0
    cases hi
    obtain ⟨g, c, pa, pc, rfl, hcell, hpc⟩ := h5' rfl
    refine ⟨g, c, pa, 0, pc, rfl, hcell, ?_⟩
    refine (kstep_any (fun St i c W2 => i = 0 ∧ c = 0 ∧ StepIs W2 St 0 Bn ∧ Kept (fun k => k = sm) w W2 ∧ SpotIs W2 Bn false (.slice none 0 0) (.slice none 0 0) ∧ MapIs ptrV W2 sm (Sp ++ [(nameOf tm, Bn)])) K Bn pa pc [] W ?_ ?_ ?_ (by decide)).mono ?_
    · intro St W2 hg hst _
      exact ⟨rfl, rfl, hst, h1.grown hg, keep_far h3 hg (fun e => by cases e), MapIs.keep h4 hg (fun e => by cases e)⟩
    · rintro St i c W2 ⟨rfl, rfl, hst, _, hsp, _⟩
      exact ⟨hst, Nat.le_refl _, ⟨pa, pc, rfl, Nat.zero_le _, hpc, .inl rfl⟩, _, _, _, hsp⟩
    · intro St i c W2 hi
      cases hi
    · rintro e W2 ⟨hx, St, c, W0, ⟨_, rfl, _, k1, k2, k3⟩, ⟨_, rfl⟩ | ⟨h0, _⟩⟩
      · exact ⟨hx, kept_new k1 h2, h2, heap_set (i := 0) k2, map_set k3 k2, fun h => by cases h⟩
      · exact absurd rfl h0
  · rintro e W ⟨Bn, rfl, hn⟩
    rw [if_neg (by decide), hw] at hn
    obtain ⟨v, h1, h2, h3, h4, _⟩ := hn
    exact ⟨Bn, rfl, h1, h2, h3, h4⟩
set_option linter.unusedVariables false
set_option linter.unusedSimpArgs false
set_option maxRecDepth 100000
open Go.RowKit
theorem map_map {w : World} {a b : Nat} {L : List (Name × Bool)} {M : List (Name × Nat)} (h : MapIs Value.bool w a L) (h2 : MapIs ptrV w b M) (hn : L ≠ [] ∨ M ≠ []) : a ≠ b ∨ (a = b ∧ True) := by
  by_cases e : a = b
  · exact .inr ⟨e, trivial⟩
  · exact .inl e
/-- on the one way there are x and z -/
def TwoWay (ok2 : Nat → Prop) (W : World) (pa : Option Addr) (pc bx bz : Nat) (x z : Tm) : Prop :=
  PtrRow W (.slice pa 2 pc) [bx, bz] ∧ rowOk ok2 (.slice pa 2 pc) [bx, bz] ∧ PieceAt ok2 W x bx ∧ PieceAt ok2 W z bz
theorem TwoWay.keep {ok2 S : Nat → Prop} {W W2 : World} {pa : Option Addr} {pc bx bz : Nat} {x z : Tm} (h : TwoWay ok2 W pa pc bx bz x z) (hk : Kept S W W2) (hr : ∀ k, ok2 k → ¬ S k) : TwoWay ok2 W2 pa pc bx bz x z :=
  ⟨h.1.keep h.2.1 hk hr, h.2.1, h.2.2.1.keep hk hr, h.2.2.2.keep hk hr⟩
theorem way_two {ok : Nat → Prop} {W : World} {vi : Value} {x z : Tm} (h : WayAt ok W vi [x, z]) : ∃ pa pc bx bz, vi = .slice pa 2 pc ∧ TwoWay (fun k => ok k ∧ k < W.heap.size) W pa pc bx bz x z := by
  obtain ⟨bs, h1, h2, hp⟩ := h
  unfold PiecesAt at hp
  obtain ⟨bx, r, rfl, hx, hp⟩ := hp
  unfold PiecesAt at hp
  obtain ⟨bz, r2, rfl, hz, hp⟩ := hp
  unfold PiecesAt at hp
  subst hp
  obtain ⟨a, cap, rfl, hc1, hc2, h0 | ⟨g, off, rfl, hc⟩⟩ := h1
  · cases h0
  · refine ⟨_, cap, bx, bz, rfl, ⟨_, _, rfl, hc1, hc2, .inr ⟨g, off, rfl, hc⟩⟩, ?_, hx.inHeap (fun k h1 h2 => ⟨h1, h2⟩), hz.inHeap (fun k h1 h2 => ⟨h1, h2⟩)⟩
    intro hne a n c e
    cases e
    exact ⟨h2 hne _ _ _ rfl, World.block_lt_of_cell? W _ (hc 0 (by simp))⟩
/-- what is known behind the spot of such a term -/
def KeyAt (w : World) (sm : Nat) (Sp : List (Name × Nat)) (nm nx nz : Name) (Bn : Nat) (W : World) : Prop :=
  ∃ A Z st gw cw, w.heap.size ≤ A ∧ w.heap.size ≤ st ∧ Kept (fun k => k = sm) w W ∧ w.heap.size ≤ Bn ∧ SpotIs W Bn false (.slice none 0 0) (.slice none 0 0) ∧ SpotIs W A false (.slice (some ⟨gw, 0, none⟩) 1 cw) (.slice none 0 0) ∧ StepIs W st 1 Bn ∧ W.ownsRow 0 79 1 (.slice (some ⟨gw, 0, none⟩) 1 cw) 1 [ptrV st] ∧ MapIs ptrV W sm (((Sp ++ [(nm, Bn)]) ++ [(nx, A)]) ++ [(nz, Z)])
theorem row_map {W : World} {m n : Nat} {T : TypeId} {xs : List Value} {v : Value} {α : Type} {f : α → Value} {L : List (Name × α)} (h : MapIs f W m L) (h2 : W.ownsRow 0 T 1 v n xs) : v.ownBlock ≠ some m := by
  intro e
  rcases h2.2 with ⟨rfl, _⟩ | ⟨g, cap, cur, rfl, _, hg, _⟩
  · cases e
  · cases e
    unfold MapIs at h
    rw [h] at hg
    cases hg
theorem own_one {w : World} {v : Value} {T : TypeId} {u : Value} (h : w.ownsRow 0 T 1 v 1 [u]) : ∃ g c, v = .slice (some ⟨g, 0, none⟩) 1 c := by
  rcases h.2 with ⟨_, h1⟩ | ⟨g, c, cur, h1, _⟩
  · cases h1
  · exact ⟨g, c, h1⟩
/-- the step at work: behind i of its two pieces -/
def KeyI (w W0 : World) (sm : Nat) (Sp : List (Name × Nat)) (nm nx nz : Name) (Bn : Nat) (ok2 : Nat → Prop) (pa : Option Addr) (pc bx bz : Nat) (x z : Tm) (St i c : Nat) (W : World) : Prop :=
  StepIs W St c Bn ∧ W0.heap.size ≤ St ∧ Kept (fun k => k = sm) w W ∧ W0.heap.size ≤ W.heap.size ∧ SpotIs W Bn false (.slice none 0 0) (.slice none 0 0) ∧ TwoWay ok2 W pa pc bx bz x z ∧
  ((i = 0 ∧ c = 0 ∧ MapIs ptrV W sm (Sp ++ [(nm, Bn)])) ∨
   (1 ≤ i ∧ c = 1 ∧ ∃ A gw cw, W0.heap.size ≤ A ∧ SpotIs W A false (.slice (some ⟨gw, 0, none⟩) 1 cw) (.slice none 0 0) ∧ W.ownsRow 0 79 1 (.slice (some ⟨gw, 0, none⟩) 1 cw) 1 [ptrV St] ∧
     ((i = 1 ∧ MapIs ptrV W sm ((Sp ++ [(nm, Bn)]) ++ [(nx, A)])) ∨ (i = 2 ∧ ∃ Z, MapIs ptrV W sm (((Sp ++ [(nm, Bn)]) ++ [(nx, A)]) ++ [(nz, Z)])))))
set_option maxHeartbeats 4000000 in
theorem kspot_key (tm : Tm) (h5 : tm.kind = 5 → tm.parts ≠ []) (h6 : tm.kind = 6 → tm.parts.length = 2) (B : Nat) (ok : Nat → Prop) (w : World) (h : PieceAt ok w tm B) (K hm sm : Nat) (Hd : List (Name × Bool)) (Sp : List (Name × Nat)) (hk : KnowIs w K (.map (some hm)) (.map (some sm))) (hh : MapIs Value.bool w hm Hd) (hs : MapIs ptrV w sm Sp) (hl : lookL Sp (nameOf tm) = none) (hoks : ∀ k, ok k → k ≠ sm) (hl2 : lookL Hd (nameOf tm) = none) (hsh : hm ≠ sm) (x z : Tm) (hw : waysOf tm = [[x, z]])
    (x5 : x.kind = 5 → x.parts ≠ []) (x6 : x.kind = 6 → x.parts.length = 2) (xw : waysOf x = []) (xl : ∀ C, lookL (Sp ++ [(nameOf tm, C)]) (nameOf x) = none) (xh : lookL Hd (nameOf x) = none)
    (z5 : z.kind = 5 → z.parts ≠ []) (z6 : z.kind = 6 → z.parts.length = 2) (zw : waysOf z = [[]]) (zl : ∀ C A, lookL ((Sp ++ [(nameOf tm, C)]) ++ [(nameOf x, A)]) (nameOf z) = none) (zh : lookL Hd (nameOf z) = none) :
    Calls Try.prog 14 #[.pointer (some ⟨K, 0, none⟩), .pointer (some ⟨B, 0, none⟩)] w fun e W => ∃ Bn, e = .returned (ptrV Bn) ∧ KeyAt w sm Sp (nameOf tm) (nameOf x) (nameOf z) Bn W := by
  have hKs : K ≠ sm := know_map hk hs
  refine (kspot_new false (fun Bn v i W2 => (i = 0 ∧ Kept (fun k => k = sm) w W2 ∧ w.heap.size ≤ Bn ∧ SpotIs W2 Bn false (.slice none 0 0) (.slice none 0 0) ∧ MapIs ptrV W2 sm (Sp ++ [(nameOf tm, Bn)]) ∧ ∃ g c pa pc bx bz, v = .slice (some ⟨g, 0, none⟩) 1 c ∧ W2.cell? ⟨g, 0, none⟩ = some (.slice pa 2 pc) ∧ TwoWay (fun k => k ≠ sm ∧ k < W2.heap.size) W2 pa pc bx bz x z) ∨ (i = 1 ∧ KeyAt w sm Sp (nameOf tm) (nameOf x) (nameOf z) Bn W2)) tm h5 B ok w h K hm sm Hd Sp hk hh hs hl (by simpa using hl2) h6 hoks ?_ ?_).mono ?_
  · intro _ Bn W0 W v hn hg hwa
    refine .inl ⟨rfl, hn.1.grown hg, hn.2.1, keep_far hn.2.2.1 hg (fun e => by cases e), MapIs.keep hn.2.2.2 hg (fun e => by cases e), ?_⟩
    rw [hw] at hwa
    obtain ⟨a, c, rfl, _, _, h0 | ⟨g, rfl, _, hc⟩⟩ := hwa
    · cases h0
    · obtain ⟨vi, hvi, hway⟩ := hc 0 [x, z] rfl
      obtain ⟨pa, pc, bx, bz, rfl, ht⟩ := way_two hway
      have hsmlt : sm < W0.heap.size := (Array.getElem?_eq_some_iff.1 hn.2.2.2).1
      have hok : ∀ k, OrNew ok W0.heap.size k → k ≠ sm := fun k hk' e => by
        rw [e] at hk'
        rcases hk' with h | h
        · exact hoks _ h rfl
        · omega
      refine ⟨g, c, pa, pc, bx, bz, rfl, hvi, ht.1, ?_, ht.2.2.1.inHeap (fun k h1 h2 => ⟨hok k h1.1, h2⟩), ht.2.2.2.inHeap (fun k h1 h2 => ⟨hok k h1.1, h2⟩)⟩
      intro hne a n c e
      have := ht.2.1 hne a n c e
      exact ⟨hok _ this.1, this.2⟩
  · intro _ Bn v i ts W hi hJ
    rw [hw] at hi ⊢
    have hi0 : i = 0 := by
      have := (List.getElem?_eq_some_iff.1 hi).1
      simpa using this
    subst hi0
    cases hi
    rcases hJ with ⟨_, h1, h2, h3, h4, g, c, pa, pc, bx, bz, rfl, hcell, htw⟩ | ⟨h0, _⟩
    · refine ⟨g, c, pa, 2, pc, rfl, hcell, ?_⟩
      have hBlt : Bn < W.heap.size := (Array.getElem?_eq_some_iff.1 h3).1
      refine (kstep_any (KeyI w W sm Sp (nameOf tm) (nameOf x) (nameOf z) Bn (fun k => k ≠ sm ∧ k < W.heap.size) pa pc bx bz x z) K Bn pa pc [bx, bz] W ?_ ?_ ?_ (by simp)).mono ?_
      · intro St W2 hg hst hge
        exact ⟨hst, hge, h1.grown hg, hg.size, keep_far h3 hg (fun e => by cases e), htw.keep (Kept.of_grown hg) (fun k _ e => by cases e), .inl ⟨rfl, rfl, MapIs.keep h4 hg (fun e => by cases e)⟩⟩
      · rintro St i c W2 ⟨hst, _, _, _, hsp, ht, hcase⟩
        refine ⟨hst, ?_, ht.1, _, _, _, hsp⟩
        rcases hcase with ⟨rfl, rfl, _⟩ | ⟨hi, rfl, _⟩
        · exact Nat.le_refl _
        · exact hi
      · intro St i c W2 hi hI
        obtain ⟨hst, hge, hkp, hsz, hsp, ht, hcase⟩ := hI
        have hk2 : KnowIs W2 K (.map (some hm)) (.map (some sm)) := hkp.at hk hKs
        have hh2 : MapIs Value.bool W2 hm Hd := hkp.at hh hsh
        rcases hcase with ⟨rfl, rfl, hmp⟩ | ⟨hi1, rfl, A, gw, cw, hAW, hA, hrow, ⟨rfl, hmp⟩ | ⟨rfl, _⟩⟩
        · -- the Atom
          refine (kspot_leaf x x5 x6 bx _ W2 ht.2.2.1 K hm sm Hd _ hk2 hh2 hmp (xl Bn) (fun k hk => hk.1) xh xw).mono ?_
          rintro e W3 ⟨A, rfl, k3, hA3, hsA, hmp3⟩
          have hneS : St ≠ sm := cells_map hst hmp
          have hneB : Bn ≠ sm := cells_map hsp hmp
          refine ⟨A, false, _, _, 0, [], rfl, k3.at hst hneS, hsA, World.ownsRow_nil _ _ _ _, by decide, fun h => (by cases h), fun _ W4 hwt => ?_⟩
          obtain ⟨v, k4, hst4, hA4, hrow4, _⟩ := hwt
          obtain ⟨gw, cw, rfl⟩ := own_one hrow4
          have k5 : Kept (fun k => k = sm ∨ k = St ∨ k = A) W2 W4 := k3.trans k4 (fun k _ e => by
            rcases e with e | e | e | e
            · exact .inl e
            · exact .inr (.inl e)
            · exact .inr (.inr e)
            · cases e)
          have hAge : W.heap.size ≤ A := Nat.le_trans hsz hA3
          have hwW : w.heap.size ≤ W.heap.size := h1.size
          refine ⟨hst4, hge, hkp.trans k5 (fun k hk e => ?_), Nat.le_trans hsz (Nat.le_trans k3.size k4.size), k5.at hsp ?_, ht.keep k5 (fun k hk e => ?_), .inr ⟨Nat.le_refl _, rfl, A, gw, cw, hAge, hA4, hrow4, .inl ⟨rfl, ?_⟩⟩⟩
          · rcases e with e | e | e | e
            · exact e
            · exact e
            · omega
            · omega
          · rintro (e | e | e)
            · exact hneB e
            · omega
            · omega
          · rcases e with e | e | e
            · exact hk.1 e
            · have := hk.2; omega
            · have := hk.2; omega
          · refine k4.at hmp3 ?_
            rintro (e | e | e)
            · exact hneS e.symm
            · exact cells_map hsA hmp3 e.symm
            · cases e
        · -- what needs nothing
          refine (kspot_zero z z5 z6 bz _ W2 ht.2.2.2 K hm sm Hd _ hk2 hh2 hmp (zl Bn A) (fun k hk => hk.1) zh zw).mono ?_
          rintro e W3 ⟨Z, rfl, k3, hZ3, hsZ, hmp3⟩
          have hneS : St ≠ sm := cells_map hst hmp
          have hneB : Bn ≠ sm := cells_map hsp hmp
          have hneA : A ≠ sm := cells_map hA hmp
          refine ⟨Z, true, _, _, 0, [], rfl, k3.at hst hneS, hsZ, World.ownsRow_nil _ _ _ _, by decide, fun _ => ?_, fun h => by cases h⟩
          refine ⟨k3.at hst hneS, hge, hkp.trans k3 (fun k _ e => e.elim id id), Nat.le_trans hsz k3.size, k3.at hsp hneB, ht.keep k3 (fun k hk e => hk.1 e), .inr ⟨by omega, rfl, A, gw, cw, hAW, k3.at hA hneA, own_keep hrow k3 (fun k e e2 => row_map hmp hrow (by rw [e]; subst e2; rfl)), .inr ⟨rfl, Z, hmp3⟩⟩⟩
        · simp at hi
      · rintro e W2 ⟨hx, St, c, W0, hI, hc⟩
        obtain ⟨hst, hge, hkp, hsz, hsp, ht, hcase⟩ := hI
        rcases hcase with ⟨h0, _⟩ | ⟨_, rfl, A, gw, cw, hAW, hA, hrow, ⟨h0, _⟩ | ⟨_, Z, hmp⟩⟩
        · cases h0
        · cases h0
        · rcases hc with ⟨h0, _⟩ | ⟨_, rfl⟩
          · cases h0
          · exact ⟨hx, .inr ⟨rfl, A, Z, St, gw, cw, Nat.le_trans h1.size hAW, Nat.le_trans h1.size hge, hkp, h2, hsp, hA, hst, hrow, hmp⟩⟩
    · cases h0
  · rintro e W ⟨Bn, rfl, hn⟩
    rw [if_neg (by decide), hw] at hn
    obtain ⟨v, ⟨h0, _⟩ | ⟨_, hkey⟩⟩ := hn
    · cases h0
    · exact ⟨Bn, rfl, hkey⟩
end Go.Proofs.Yteiadbiopcidmaa
