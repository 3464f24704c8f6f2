/- know: the spot of a Pub of what is had. -/
import Derived.Test.YteiadbiopcidmaaKnow27
namespace Go.Proofs.Yteiadbiopcidmaa
set_option linter.unusedVariables false
set_option linter.unusedSimpArgs false
set_option maxRecDepth 100000
open Go.RowKit
def OneWay (ok2 : Nat → Prop) (W : World) (pa : Option Addr) (pc bx : Nat) (x : Tm) : Prop :=
  PtrRow W (.slice pa 1 pc) [bx] ∧ rowOk ok2 (.slice pa 1 pc) [bx] ∧ PieceAt ok2 W x bx
theorem OneWay.keep {ok2 S : Nat → Prop} {W W2 : World} {pa : Option Addr} {pc bx : Nat} {x : Tm} (h : OneWay ok2 W pa pc bx x) (hk : Kept S W W2) (hr : ∀ k, ok2 k → ¬ S k) : OneWay ok2 W2 pa pc bx x :=
  ⟨h.1.keep h.2.1 hk hr, h.2.1, h.2.2.keep hk hr⟩
theorem way_one {ok : Nat → Prop} {W : World} {vi : Value} {x : Tm} (h : WayAt ok W vi [x]) : ∃ pa pc bx, vi = .slice pa 1 pc ∧ OneWay (fun k => ok k ∧ k < W.heap.size) W pa pc bx x := by
  obtain ⟨bs, h1, h2, hp⟩ := h
  unfold PiecesAt at hp
  obtain ⟨bx, r, rfl, hx, hp⟩ := hp
  unfold PiecesAt at hp
  subst hp
  obtain ⟨a, cap, rfl, hc1, hc2, h0 | ⟨g, off, rfl, hc⟩⟩ := h1
  · cases h0
  · refine ⟨_, cap, bx, rfl, ⟨_, _, rfl, hc1, hc2, .inr ⟨g, off, rfl, hc⟩⟩, ?_, hx.inHeap (fun k h1 h2 => ⟨h1, h2⟩)⟩
    intro hne a n c e
    cases e
    exact ⟨h2 hne _ _ _ rfl, World.block_lt_of_cell? W _ (hc 0 (by simp))⟩
theorem made_ne {W : World} {a b : Nat} {v v2 s s2 : Value} (h : SpotIs W a true v s) (h2 : SpotIs W b false v2 s2) : a ≠ b := by
  intro e; subst e
  unfold SpotIs at h h2
  rw [h] at h2
  have := Option.some.inj h2
  simp at this
/-- behind the spot of a Pub of what is had -/
def PubAt (w : World) (sm : Nat) (Sp : List (Name × Nat)) (nm ny : Name) (Bn : Nat) (W : World) : Prop :=
  ∃ Q, Kept (fun k => k = sm) w W ∧ w.heap.size ≤ Bn ∧ w.heap.size ≤ Q ∧ SpotIs W Bn true (.slice none 0 0) (.slice none 0 0) ∧ SpotIs W Q true (.slice none 0 0) (.slice none 0 0) ∧ MapIs ptrV W sm ((Sp ++ [(nm, Bn)]) ++ [(ny, Q)])
def PubI (w W0 : World) (sm : Nat) (Sp : List (Name × Nat)) (nm ny : Name) (Bn : Nat) (ok2 : Nat → Prop) (pa : Option Addr) (pc bx : Nat) (y : Tm) (St i c : Nat) (W : World) : Prop :=
  c = 0 ∧ StepIs W St 0 Bn ∧ W0.heap.size ≤ St ∧ Kept (fun k => k = sm) w W ∧ SpotIs W Bn false (.slice none 0 0) (.slice none 0 0) ∧ OneWay ok2 W pa pc bx y ∧
  ((i = 0 ∧ MapIs ptrV W sm (Sp ++ [(nm, Bn)])) ∨ (i = 1 ∧ ∃ Q, w.heap.size ≤ Q ∧ SpotIs W Q true (.slice none 0 0) (.slice none 0 0) ∧ MapIs ptrV W sm ((Sp ++ [(nm, Bn)]) ++ [(ny, Q)])))
set_option maxHeartbeats 4000000 in
theorem kspot_pub (tm : Tm) (h5 : tm.kind = 5 → tm.parts ≠ []) (h6 : tm.kind = 6 → tm.parts.length = 2) (B : Nat) (ok : Nat → Prop) (w : World) (h : PieceAt ok w tm B) (K hm sm : Nat) (Hd : List (Name × Bool)) (Sp : List (Name × Nat)) (hk : KnowIs w K (.map (some hm)) (.map (some sm))) (hh : MapIs Value.bool w hm Hd) (hs : MapIs ptrV w sm Sp) (hl : lookL Sp (nameOf tm) = none) (hoks : ∀ k, ok k → k ≠ sm) (hl2 : lookL Hd (nameOf tm) = none) (hsh : hm ≠ sm) (y : Tm) (hw : waysOf tm = [[y]])
    (y5 : y.kind = 5 → y.parts ≠ []) (y6 : y.kind = 6 → y.parts.length = 2) (yl : ∀ C, lookL (Sp ++ [(nameOf tm, C)]) (nameOf y) = none) (yh : lookL Hd (nameOf y) = some true) :
    Calls Try.prog 14 #[.pointer (some ⟨K, 0, none⟩), .pointer (some ⟨B, 0, none⟩)] w fun e W => ∃ Bn, e = .returned (ptrV Bn) ∧ PubAt w sm Sp (nameOf tm) (nameOf y) Bn W := by
  have hKs : K ≠ sm := know_map hk hs
  refine (kspot_new false (fun Bn v i W2 => (i = 0 ∧ Kept (fun k => k = sm) w W2 ∧ w.heap.size ≤ Bn ∧ SpotIs W2 Bn false (.slice none 0 0) (.slice none 0 0) ∧ MapIs ptrV W2 sm (Sp ++ [(nameOf tm, Bn)]) ∧ ∃ g c pa pc bx, v = .slice (some ⟨g, 0, none⟩) 1 c ∧ W2.cell? ⟨g, 0, none⟩ = some (.slice pa 1 pc) ∧ OneWay (fun k => k ≠ sm ∧ k < W2.heap.size) W2 pa pc bx y) ∨ (i = 1 ∧ PubAt w sm Sp (nameOf tm) (nameOf y) Bn W2)) tm h5 B ok w h K hm sm Hd Sp hk hh hs hl (by simpa using hl2) h6 hoks ?_ ?_).mono ?_
  · intro _ Bn W0 W v hn hg hwa
    refine .inl ⟨rfl, hn.1.grown hg, hn.2.1, keep_far hn.2.2.1 hg (fun e => by cases e), MapIs.keep hn.2.2.2 hg (fun e => by cases e), ?_⟩
    rw [hw] at hwa
    obtain ⟨a, c, rfl, _, _, h0 | ⟨g, rfl, _, hc⟩⟩ := hwa
    · cases h0
    · obtain ⟨vi, hvi, hway⟩ := hc 0 [y] rfl
      obtain ⟨pa, pc, bx, rfl, ht⟩ := way_one hway
      have hsmlt : sm < W0.heap.size := (Array.getElem?_eq_some_iff.1 hn.2.2.2).1
      have hok : ∀ k, OrNew ok W0.heap.size k → k ≠ sm := fun k hk' e => by
        rw [e] at hk'
        rcases hk' with h | h
        · exact hoks _ h rfl
        · omega
      refine ⟨g, c, pa, pc, bx, rfl, hvi, ht.1, ?_, ht.2.2.inHeap (fun k h1 h2 => ⟨hok k h1.1, h2⟩)⟩
      intro hne a n c e
      have := ht.2.1 hne a n c e
      exact ⟨hok _ this.1, this.2⟩
  · intro _ Bn v i ts W hi hJ
    rw [hw] at hi ⊢
    have hi0 : i = 0 := by
      have := (List.getElem?_eq_some_iff.1 hi).1
      simpa using this
    subst hi0
    cases hi
    rcases hJ with ⟨_, h1, h2, h3, h4, g, c, pa, pc, bx, rfl, hcell, htw⟩ | ⟨h0, _⟩
    · refine ⟨g, c, pa, 1, pc, rfl, hcell, ?_⟩
      refine (kstep_any (PubI w W sm Sp (nameOf tm) (nameOf y) Bn (fun k => k ≠ sm ∧ k < W.heap.size) pa pc bx y) K Bn pa pc [bx] W ?_ ?_ ?_ (by simp)).mono ?_
      · intro St W2 hg hst hge
        exact ⟨rfl, hst, hge, h1.grown hg, keep_far h3 hg (fun e => by cases e), htw.keep (Kept.of_grown hg) (fun k _ e => by cases e), .inl ⟨rfl, MapIs.keep h4 hg (fun e => by cases e)⟩⟩
      · rintro St i c W2 ⟨rfl, hst, _, _, hsp, ht, hcase⟩
        exact ⟨hst, Nat.zero_le _, ht.1, _, _, _, hsp⟩
      · intro St i c W2 hi hI
        obtain ⟨rfl, hst, hge, hkp, hsp, ht, hcase⟩ := hI
        have hk2 : KnowIs W2 K (.map (some hm)) (.map (some sm)) := hkp.at hk hKs
        have hh2 : MapIs Value.bool W2 hm Hd := hkp.at hh hsh
        rcases hcase with ⟨rfl, hmp⟩ | ⟨rfl, _⟩
        · refine (kspot_hads y y5 y6 bx _ W2 ht.2.2 K hm sm Hd _ hk2 hh2 hmp (yl Bn) (fun k hk => hk.1) yh).mono ?_
          rintro e W3 ⟨Q, rfl, k3, hQ3, hsQ, hmp3⟩
          have hneS : St ≠ sm := cells_map hst hmp
          have hneB : Bn ≠ sm := cells_map hsp hmp
          refine ⟨Q, true, _, _, 0, [], rfl, k3.at hst hneS, hsQ, World.ownsRow_nil _ _ _ _, by decide, fun _ => ?_, fun h => by cases h⟩
          exact ⟨rfl, k3.at hst hneS, hge, hkp.trans k3 (fun k _ e => e.elim id id), k3.at hsp hneB, ht.keep k3 (fun k hk e => hk.1 e), .inr ⟨rfl, Q, Nat.le_trans hkp.size hQ3, hsQ, hmp3⟩⟩
        · simp at hi
      · rintro e W2 ⟨hx, St, c, W0, ⟨rfl, hst, hge, hkp, hsp, ht, hcase⟩, hc⟩
        rcases hcase with ⟨h0, _⟩ | ⟨_, Q, hQ, hsQ, hmp⟩
        · cases h0
        · rcases hc with ⟨_, rfl⟩ | ⟨h0, _⟩
          · exact ⟨hx, .inr ⟨rfl, Q, kept_new hkp h2, h2, hQ, heap_set (i := 0) hsp, (heap_set_other (made_ne hsQ hsp)).trans hsQ, map_set hmp hsp⟩⟩
          · exact absurd rfl h0
    · cases h0
  · rintro e W ⟨Bn, rfl, hn⟩
    rw [if_neg (by decide), hw] at hn
    obtain ⟨v, ⟨h0, _⟩ | ⟨_, hpub⟩⟩ := hn
    · cases h0
    · exact ⟨Bn, rfl, hpub⟩
set_option linter.unusedVariables false
set_option linter.unusedSimpArgs false
set_option maxRecDepth 100000
open Go.RowKit
def dOk (sm M : Nat) : Nat → Prop := fun k => k ≠ sm ∧ k < M
/-- the two ways of the Dh -/
def Rest (sm M : Nat) (W : World) (g : Nat) (pa : Option Addr) (pc bx bz : Nat) (qa : Option Addr) (qc by' bw : Nat) : Prop :=
  dOk sm M g ∧ W.cell? ⟨g, 1, none⟩ = some (.slice qa 2 qc) ∧ TwoWay (dOk sm M) W pa pc bx bz tA1 (pubT tA2) ∧ TwoWay (dOk sm M) W qa qc by' bw tA2 (pubT tA1)
theorem Rest.keep {S : Nat → Prop} {sm M : Nat} {W W2 : World} {g : Nat} {pa : Option Addr} {pc bx bz : Nat} {qa : Option Addr} {qc by' bw : Nat} (h : Rest sm M W g pa pc bx bz qa qc by' bw) (hk : Kept S W W2) (hr : ∀ k, dOk sm M k → ¬ S k) : Rest sm M W2 g pa pc bx bz qa qc by' bw :=
  ⟨h.1, (World.cell?_of_block (a := ⟨g, 1, none⟩) (hk.block g (World.block_lt_of_cell? W _ h.2.1) (hr g h.1))).trans h.2.1, h.2.2.1.keep hk hr, h.2.2.2.keep hk hr⟩
def nD : Name := nameOf tD
def nA : Name := nameOf tA1
def nP : Name := nameOf (pubT tA2)
def nQ : Name := nameOf tA2
def L1 (Bn : Nat) : List (Name × Nat) := [] ++ [(nD, Bn)]
def L2 (Bn A : Nat) : List (Name × Nat) := L1 Bn ++ [(nA, A)]
def L4 (Bn A P Q : Nat) : List (Name × Nat) := (L2 Bn A ++ [(nP, P)]) ++ [(nQ, Q)]
def DJ (w : World) (sm : Nat) (Bn : Nat) (v : Value) (i : Nat) (W : World) : Prop :=
  Kept (fun k => k = sm) w W ∧ w.heap.size ≤ Bn ∧
  ((i = 2 ∧ SpotIs W Bn true (.slice none 0 0) (.slice none 0 0)) ∨
   (SpotIs W Bn false (.slice none 0 0) (.slice none 0 0) ∧ ∃ M g c pa pc bx bz qa qc by' bw, v = .slice (some ⟨g, 0, none⟩) 2 c ∧ w.heap.size ≤ M ∧ Bn < M ∧ M ≤ W.heap.size ∧ Rest sm M W g pa pc bx bz qa qc by' bw ∧
     ((i = 0 ∧ W.cell? ⟨g, 0, none⟩ = some (.slice pa 2 pc) ∧ MapIs ptrV W sm (L1 Bn)) ∨ (i = 1 ∧ ∃ A P Q, MapIs ptrV W sm (L4 Bn A P Q) ∧ SpotIs W Q true (.slice none 0 0) (.slice none 0 0)))))
def D1 (w : World) (sm M : Nat) (Bn : Nat) (g : Nat) (pa : Option Addr) (pc bx bz : Nat) (qa : Option Addr) (qc by' bw : Nat) (St i c : Nat) (W : World) : Prop :=
  StepIs W St c Bn ∧ M ≤ St ∧ Kept (fun k => k = sm) w W ∧ M ≤ W.heap.size ∧ SpotIs W Bn false (.slice none 0 0) (.slice none 0 0) ∧ Rest sm M W g pa pc bx bz qa qc by' bw ∧
  ((i = 0 ∧ c = 0 ∧ MapIs ptrV W sm (L1 Bn)) ∨ (i = 1 ∧ c = 1 ∧ ∃ A, MapIs ptrV W sm (L2 Bn A)) ∨ (i = 2 ∧ c = 1 ∧ ∃ A P Q, MapIs ptrV W sm (L4 Bn A P Q) ∧ SpotIs W Q true (.slice none 0 0) (.slice none 0 0)))
def D2 (w : World) (sm M : Nat) (Bn A P Q : Nat) (g : Nat) (pa : Option Addr) (pc bx bz : Nat) (qa : Option Addr) (qc by' bw : Nat) (St i c : Nat) (W : World) : Prop :=
  c = 0 ∧ StepIs W St 0 Bn ∧ M ≤ St ∧ Kept (fun k => k = sm) w W ∧ SpotIs W Bn false (.slice none 0 0) (.slice none 0 0) ∧ Rest sm M W g pa pc bx bz qa qc by' bw ∧
  ((i ≤ 1 ∧ MapIs ptrV W sm (L4 Bn A P Q) ∧ SpotIs W Q true (.slice none 0 0) (.slice none 0 0)) ∨ i = 2)
set_option maxHeartbeats 4000000 in
theorem kspot_d (B : Nat) (ok : Nat → Prop) (w : World) (h : PieceAt ok w tD B) (K hm sm : Nat) (hk : KnowIs w K (.map (some hm)) (.map (some sm))) (hh : MapIs Value.bool w hm HdJ) (hs : MapIs ptrV w sm []) (hoks : ∀ k, ok k → k ≠ sm) (hsh : hm ≠ sm) :
    Calls Try.prog 14 #[.pointer (some ⟨K, 0, none⟩), .pointer (some ⟨B, 0, none⟩)] w fun e W => ∃ Bn, e = .returned (ptrV Bn) ∧ Kept (fun k => k = sm) w W ∧ SpotIs W Bn true (.slice none 0 0) (.slice none 0 0) := by
  have hKs : K ≠ sm := know_map hk hs
  have hw : waysOf tD = [[tA1, pubT tA2], [tA2, pubT tA1]] := rfl
  refine (kspot_new false (DJ w sm) tD (fun h => by cases h) B ok w h K hm sm HdJ [] hk hh hs rfl rfl (fun _ => rfl) hoks ?_ ?_).mono ?_
  · intro _ Bn W0 W v hn hg hwa
    refine ⟨hn.1.grown hg, hn.2.1, .inr ⟨keep_far hn.2.2.1 hg (fun e => by cases e), ?_⟩⟩
    rw [hw] at hwa
    obtain ⟨a, c, rfl, _, _, h0 | ⟨g, rfl, hgo, hc⟩⟩ := hwa
    · cases h0
    · obtain ⟨v0, hv0, hway0⟩ := hc 0 [tA1, pubT tA2] rfl
      obtain ⟨v1, hv1, hway1⟩ := hc 1 [tA2, pubT tA1] rfl
      obtain ⟨pa, pc, bx, bz, rfl, ht0⟩ := way_two hway0
      obtain ⟨qa, qc, by', bw, rfl, ht1⟩ := way_two hway1
      have hsmlt : sm < W0.heap.size := (Array.getElem?_eq_some_iff.1 hn.2.2.2).1
      have hok : ∀ k, OrNew ok W0.heap.size k → k ≠ sm := fun k hk' e => by
        rw [e] at hk'
        rcases hk' with h | h
        · exact hoks _ h rfl
        · omega
      have hBlt : Bn < W.heap.size := Nat.lt_of_lt_of_le (Array.getElem?_eq_some_iff.1 hn.2.2.1).1 hg.size
      have hall : ∀ k, (OrNew ok W0.heap.size k ∧ k < W.heap.size) → dOk sm W.heap.size k := fun k h => ⟨hok k h.1, h.2⟩
      refine ⟨W.heap.size, g, c, pa, pc, bx, bz, qa, qc, by', bw, rfl, Nat.le_trans hn.1.size hg.size, hBlt, Nat.le_refl _, ⟨⟨hok g hgo, World.block_lt_of_cell? W _ hv0⟩, hv1, ⟨ht0.1, ?_, ht0.2.2.1.inHeap (fun k h1 _ => hall k h1), ht0.2.2.2.inHeap (fun k h1 _ => hall k h1)⟩, ⟨ht1.1, ?_, ht1.2.2.1.inHeap (fun k h1 _ => hall k h1), ht1.2.2.2.inHeap (fun k h1 _ => hall k h1)⟩⟩, .inl ⟨rfl, hv0, MapIs.keep hn.2.2.2 hg (fun e => by cases e)⟩⟩
      · intro hne a n c e; exact hall _ (ht0.2.1 hne a n c e)
      · intro hne a n c e; exact hall _ (ht1.2.1 hne a n c e)
  · intro _ Bn v i ts W hi hJ
    rw [hw] at hi ⊢
    obtain ⟨h1, h2, ⟨h0, _⟩ | ⟨h3, M, g, c, pa, pc, bx, bz, qa, qc, by', bw, rfl, hM, hBM, hMW, hrest, hcase⟩⟩ := hJ
    · subst h0
      cases hi
    have hwM := hM
    rcases hcase with ⟨rfl, hcell, hmp0⟩ | ⟨rfl, A, P, Q, hmp0, hsQ0⟩
    · cases hi
      refine ⟨g, c, pa, 2, pc, rfl, hcell, ?_⟩
      refine (kstep_any (D1 w sm M Bn g pa pc bx bz qa qc by' bw) K Bn pa pc [bx, bz] W ?_ ?_ ?_ (by simp)).mono ?_
      · intro St W2 hg hst hge
        exact ⟨hst, Nat.le_trans hMW hge, h1.grown hg, Nat.le_trans hMW hg.size, keep_far h3 hg (fun e => by cases e), hrest.keep (Kept.of_grown hg) (fun k _ e => by cases e), .inl ⟨rfl, rfl, MapIs.keep hmp0 hg (fun e => by cases e)⟩⟩
      · rintro St i c W2 ⟨hst, _, _, _, hsp, ht, hcase⟩
        refine ⟨hst, ?_, ht.2.2.1.1, _, _, _, hsp⟩
        rcases hcase with ⟨rfl, rfl, _⟩ | ⟨rfl, rfl, _⟩ | ⟨rfl, rfl, _⟩ <;> omega
      · intro St i c W2 hi hI
        obtain ⟨hst, hge, hkp, hsz, hsp, ht, hcase⟩ := hI
        have hk2 : KnowIs W2 K (.map (some hm)) (.map (some sm)) := hkp.at hk hKs
        have hh2 : MapIs Value.bool W2 hm HdJ := hkp.at hh hsh
        rcases hcase with ⟨rfl, rfl, hmp⟩ | ⟨rfl, rfl, A, hmp⟩ | ⟨rfl, _⟩
        · refine (kspot_leaf tA1 (fun h => by cases h) (fun h => by cases h) bx _ W2 ht.2.2.1.2.2.1 K hm sm HdJ _ hk2 hh2 hmp rfl (fun k hk => hk.1) rfl rfl).mono ?_
          rintro e W3 ⟨A, rfl, k3, hA3, hsA, hmp3⟩
          have hneS : St ≠ sm := cells_map hst hmp
          have hneB : Bn ≠ sm := cells_map hsp hmp
          refine ⟨A, false, _, _, 0, [], rfl, k3.at hst hneS, hsA, World.ownsRow_nil _ _ _ _, by decide, fun h => (by cases h), fun _ W4 hwt => ?_⟩
          obtain ⟨v, k4, hst4, hA4, hrow4, _⟩ := hwt
          have k5 : Kept (fun k => k = sm ∨ k = St ∨ k = A) W2 W4 := k3.trans k4 (fun k _ e => by
            rcases e with e | e | e | e
            · exact .inl e
            · exact .inr (.inl e)
            · exact .inr (.inr e)
            · cases e)
          refine ⟨hst4, hge, hkp.trans k5 (fun k hk e => ?_), Nat.le_trans hsz (Nat.le_trans k3.size k4.size), k5.at hsp ?_, ht.keep k5 (fun k hk e => ?_), .inr (.inl ⟨rfl, rfl, A, ?_⟩)⟩
          · rcases e with e | e | e | e
            · exact e
            · exact e
            · omega
            · omega
          · rintro (e | e | e)
            · exact hneB e
            · omega
            · omega
          · rcases e with e | e | e
            · exact hk.1 e
            · have := hk.2; omega
            · have := hk.2; omega
          · refine k4.at hmp3 ?_
            rintro (e | e | e)
            · exact hneS e.symm
            · exact cells_map hsA hmp3 e.symm
            · cases e
        · refine (kspot_pub (pubT tA2) (fun _ h => by cases h) (fun h => by cases h) bz _ W2 ht.2.2.1.2.2.2 K hm sm HdJ _ hk2 hh2 hmp rfl (fun k hk => hk.1) rfl hsh tA2 rfl (fun h => by cases h) (fun h => by cases h) (fun C => rfl) rfl).mono ?_
          rintro e W3 ⟨P, rfl, Q, k3, hP3, hQ3, hsP, hsQ, hmp3⟩
          have hneS : St ≠ sm := cells_map hst hmp
          have hneB : Bn ≠ sm := cells_map hsp hmp
          refine ⟨P, true, _, _, 0, [], rfl, k3.at hst hneS, hsP, World.ownsRow_nil _ _ _ _, by decide, fun _ => ?_, fun h => by cases h⟩
          exact ⟨k3.at hst hneS, hge, hkp.trans k3 (fun k _ e => e.elim id id), Nat.le_trans hsz k3.size, k3.at hsp hneB, ht.keep k3 (fun k hk e => hk.1 e), .inr (.inr ⟨rfl, rfl, A, P, Q, hmp3, hsQ⟩)⟩
        · simp at hi
      · rintro e W2 ⟨hx, St, c, W0, ⟨hst, hge, hkp, hsz, hsp, ht, hcase⟩, hc⟩
        rcases hcase with ⟨h0, _⟩ | ⟨h0, _⟩ | ⟨_, rfl, A, P, Q, hmp, hsQ⟩
        · cases h0
        · cases h0
        · rcases hc with ⟨h0, _⟩ | ⟨_, rfl⟩
          · cases h0
          · exact ⟨hx, hkp, h2, .inr ⟨hsp, M, g, _, pa, pc, bx, bz, qa, qc, by', bw, rfl, hM, hBM, hsz, ht, .inr ⟨rfl, A, P, Q, hmp, hsQ⟩⟩⟩
    · cases hi
      refine ⟨g, c, qa, 2, qc, rfl, hrest.2.1, ?_⟩
      refine (kstep_any (D2 w sm M Bn A P Q g pa pc bx bz qa qc by' bw) K Bn qa qc [by', bw] W ?_ ?_ ?_ (by simp)).mono ?_
      · intro St W2 hg hst hge
        exact ⟨rfl, hst, Nat.le_trans hMW hge, h1.grown hg, keep_far h3 hg (fun e => by cases e), hrest.keep (Kept.of_grown hg) (fun k _ e => by cases e), .inl ⟨Nat.zero_le _, MapIs.keep hmp0 hg (fun e => by cases e), keep_far hsQ0 hg (fun e => by cases e)⟩⟩
      · rintro St i c W2 ⟨rfl, hst, _, _, hsp, ht, _⟩
        exact ⟨hst, Nat.zero_le _, ht.2.2.2.1, _, _, _, hsp⟩
      · intro St i c W2 hi hI
        obtain ⟨rfl, hst, hge, hkp, hsp, ht, ⟨hi1, hmp, hsQ⟩ | rfl⟩ := hI
        · have hk2 : KnowIs W2 K (.map (some hm)) (.map (some sm)) := hkp.at hk hKs
          have hh2 : MapIs Value.bool W2 hm HdJ := hkp.at hh hsh
          have hneS : St ≠ sm := cells_map hst hmp
          have hneB : Bn ≠ sm := cells_map hsp hmp
          have hc : i = 0 ∨ i = 1 := by omega
          rcases hc with rfl | rfl
          · refine (kspot_found tA2 (fun h => by cases h) by' _ W2 ht.2.2.2.2.2.1 K _ sm _ hk2 hmp Q rfl).mono ?_
            rintro e W3 ⟨rfl, hg3⟩
            have k3 : Kept (fun k => k = sm) W2 W3 := Kept.mono (Kept.of_grown hg3) (fun k _ e => by cases e)
            refine ⟨Q, true, _, _, 0, [], rfl, k3.at hst hneS, keep_far hsQ hg3 (fun e => by cases e), World.ownsRow_nil _ _ _ _, by decide, fun _ => ?_, fun h => by cases h⟩
            exact ⟨rfl, k3.at hst hneS, hge, hkp.grown hg3, k3.at hsp hneB, ht.keep k3 (fun k hk e => hk.1 e), .inl ⟨Nat.le_refl _, MapIs.keep hmp hg3 (fun e => by cases e), keep_far hsQ hg3 (fun e => by cases e)⟩⟩
          · refine (kspot_hads (pubT tA1) (fun _ h => by cases h) (fun h => by cases h) bw _ W2 ht.2.2.2.2.2.2 K hm sm HdJ _ hk2 hh2 hmp rfl (fun k hk => hk.1) rfl).mono ?_
            rintro e W3 ⟨R, rfl, k3, hR3, hsR, hmp3⟩
            refine ⟨R, true, _, _, 0, [], rfl, k3.at hst hneS, hsR, World.ownsRow_nil _ _ _ _, by decide, fun _ => ?_, fun h => by cases h⟩
            exact ⟨rfl, k3.at hst hneS, hge, hkp.trans k3 (fun k _ e => e.elim id id), k3.at hsp hneB, ht.keep k3 (fun k hk e => hk.1 e), .inr rfl⟩
        · simp at hi
      · rintro e W2 ⟨hx, St, c, W0, ⟨rfl, hst, hge, hkp, hsp, ht, _⟩, ⟨_, rfl⟩ | ⟨h0, _⟩⟩
        · exact ⟨hx, kept_new hkp h2, h2, .inl ⟨rfl, heap_set (i := 0) hsp⟩⟩
        · exact absurd rfl h0
  · rintro e W ⟨Bn, rfl, hn⟩
    rw [if_neg (by decide), hw] at hn
    obtain ⟨v, hkp, _, ⟨_, hsp⟩ | ⟨_, M, g, c, pa, pc, bx, bz, qa, qc, by', bw, _, _, _, _, _, ⟨h0, _⟩ | ⟨h0, _⟩⟩⟩ := hn
    · exact ⟨Bn, rfl, hkp, hsp⟩
    · cases h0
    · cases h0
theorem kcan_d (t : ByteArray) (ht : t.data.toList = xD) (K hm : Nat) (sv : Value) (w : World) (hk : KnowIs w K (.map (some hm)) sv) (hh : MapIs Value.bool w hm HdJ) :
    Calls Try.prog 6 #[.pointer (some ⟨K, 0, none⟩), .string t] w fun e W => e = .returned (.bool true) ∧ Below w.heap.size w W := by
  have hsz : t.size = 8 := by have := congrArg List.length ht; simpa [xD] using this
  refine kcan_any t (by omega) 6 (by rw [ht]; exact look_xD) (by decide) tD 30 [] (by rw [ht]; exact read_xD) K (some hm) sv w hk true fun W Ka sm n B hA => ?_
  have hmlt : hm < w.heap.size := (Array.getElem?_eq_some_iff.1 hh).1
  refine (kspot_d B (Fr n) W hA.piece Ka hm sm hA.know (hh.below hA.below) hA.map (fun k hk e => by have := hA.smLt.2; unfold Fr at hk; omega) (by have := hA.smLt.1; omega)).mono ?_
  rintro e W' ⟨Bn, rfl, hkp, hsp⟩
  exact ⟨Bn, _, _, rfl, hsp, below_kept hA.below hkp hA.below.size (fun k e => by have := hA.smLt.1; omega)⟩
set_option linter.unusedVariables false
set_option linter.unusedSimpArgs false
set_option maxRecDepth 100000
open Go.RowKit
theorem kcan_a2 (t : ByteArray) (ht : t.data.toList = xA2) (K hm : Nat) (sv : Value) (w : World) (hk : KnowIs w K (.map (some hm)) sv) (hh : MapIs Value.bool w hm HdK) :
    Calls Try.prog 6 #[.pointer (some ⟨K, 0, none⟩), .string t] w fun e W => e = .returned (.bool true) ∧ Below w.heap.size w W := by
  have hsz : t.size = 2 := by have := congrArg List.length ht; simpa [xA2] using this
  exact kcan_had t (by omega) 2 (by rw [ht]; exact look_xA2) (by decide) tA2 30 [] (by rw [ht]; exact read_xA2) (fun h => by cases h) (fun h => by cases h) K hm HdK sv w hk hh rfl
theorem kcan_a1 (t : ByteArray) (ht : t.data.toList = xA1) (K hm : Nat) (sv : Value) (w : World) (hk : KnowIs w K (.map (some hm)) sv) (hh : MapIs Value.bool w hm HdJ) :
    Calls Try.prog 6 #[.pointer (some ⟨K, 0, none⟩), .string t] w fun e W => e = .returned (.bool false) ∧ Below w.heap.size w W := by
  have hsz : t.size = 2 := by have := congrArg List.length ht; simpa [xA1] using this
  exact kcan_atom t (by omega) (by rw [ht]; exact look_xA1) [97, 49] 30 [] (by rw [ht]; exact read_xA1) K hm HdJ sv w hk hh rfl
theorem know_low {n : Nat} {w w' : World} {K : Nat} {hv sv : Value} (h : KnowIs w K hv sv) (hb : Below n w w') (hn : K < n) : KnowIs w' K hv sv := (hb.block K hn).trans h
theorem map_low {α : Type} {f : α → Value} {n : Nat} {w w' : World} {m : Nat} {L : List (Name × α)} (h : MapIs f w m L) (hb : Below n w w') (hn : m < n) : MapIs f w' m L := (hb.block m hn).trans h
theorem know_lt {w : World} {K : Nat} {hv sv : Value} (h : KnowIs w K hv sv) : K < w.heap.size := (Array.getElem?_eq_some_iff.1 h).1
theorem map_lt {α : Type} {f : α → Value} {w : World} {m : Nat} {L : List (Name × α)} (h : MapIs f w m L) : m < w.heap.size := (Array.getElem?_eq_some_iff.1 h).1
/-- one who has this, and another one's block -/
def Has1 (w W : World) (K : Nat) (Hd : List (Name × Bool)) : Prop := ∃ hm sm, KnowIs W K (.map (some hm)) (.map (some sm)) ∧ MapIs Value.bool W hm Hd
theorem Has1.below {w W W2 : World} {K n : Nat} {Hd : List (Name × Bool)} (h : Has1 w W K Hd) (hb : Below n W W2) (hn : W.heap.size ≤ n) : Has1 w W2 K Hd := by
  obtain ⟨hm, sm, h1, h2⟩ := h
  exact ⟨hm, sm, know_low h1 hb (Nat.lt_of_lt_of_le (know_lt h1) hn), map_low h2 hb (Nat.lt_of_lt_of_le (map_lt h2) hn)⟩
set_option maxHeartbeats 2000000 in
theorem awake3 (w : World) : Calls Try.prog 4 #[] w fun e w' => e = .returned (.bool true) ∧ Below w.heap.size w w' := by
  go_enter Try.func4, Try.ntmps4
  go_wp2_with (first | (go_at_call 10; ((with_reducible refine (knew_any w).mono ?_); rintro e w1 ⟨rfl, hk, hg⟩; have HK : Hid (KnowIs (w1.alloc (.cells #[.string ⟨#[115, 40, 49, 44, 107, 40, 49, 44, 97, 49, 44, 48, 41, 44, 97, 50, 44, 48, 41]⟩, .string ⟨#[97, 49]⟩] 9)) w.heap.size (.map none) (.map none)) := Lib.hid (keep_alloc hk (.cells #[.string ⟨#[115, 40, 49, 44, 107, 40, 49, 44, 97, 49, 44, 48, 41, 44, 97, 50, 44, 48, 41]⟩, .string ⟨#[97, 49]⟩] 9)); have HR : Hid (RowIs (w1.alloc (.cells #[.string ⟨#[115, 40, 49, 44, 107, 40, 49, 44, 97, 49, 44, 48, 41, 44, 97, 50, 44, 48, 41]⟩, .string ⟨#[97, 49]⟩] 9)) w1.heap.size xS xA1) := Lib.hid (heap_alloc_new w1 (.cells #[.string ⟨#[115, 40, 49, 44, 107, 40, 49, 44, 97, 49, 44, 48, 41, 44, 97, 50, 44, 48, 41]⟩, .string ⟨#[97, 49]⟩] 9)); have HB := Lib.hid (Below.next (below_of_grown hg) ((Below.refl w1.heap.size w1).alloc (Nat.le_refl _) (.cells #[.string ⟨#[115, 40, 49, 44, 107, 40, 49, 44, 97, 49, 44, 48, 41, 44, 97, 50, 44, 48, 41]⟩, .string ⟨#[97, 49]⟩] 9))); clear hk hg)) | (go_at_call 5; ((with_reducible refine (kadd_k _ _ _ HK.out HR.out).mono ?_); rintro e w2 ⟨rfl, hb, hm, sm, hk, hh⟩; have H1 : Hid (Has1 w w2 w.heap.size HdK) := Lib.hid ⟨hm, sm, hk, hh⟩; have HB := Lib.hid (HB.out.trans hb); clear hb hk hh)) | (go_at_call 10; ((with_reducible refine (knew_any w2).mono ?_); rintro e w3 ⟨rfl, hk, hg⟩; have HK : Hid (KnowIs (w3.alloc (.cells #[.string ⟨#[112, 40, 97, 49, 41]⟩, .string ⟨#[97, 50]⟩] 9)) w2.heap.size (.map none) (.map none)) := Lib.hid (keep_alloc hk (.cells #[.string ⟨#[112, 40, 97, 49, 41]⟩, .string ⟨#[97, 50]⟩] 9)); have HR : Hid (RowIs (w3.alloc (.cells #[.string ⟨#[112, 40, 97, 49, 41]⟩, .string ⟨#[97, 50]⟩] 9)) w3.heap.size xP1 xA2) := Lib.hid (heap_alloc_new w3 (.cells #[.string ⟨#[112, 40, 97, 49, 41]⟩, .string ⟨#[97, 50]⟩] 9)); have hb := Below.next (below_of_grown hg) ((Below.refl w3.heap.size w3).alloc (Nat.le_refl _) (.cells #[.string ⟨#[112, 40, 97, 49, 41]⟩, .string ⟨#[97, 50]⟩] 9)); have H2 : Hid (Below w2.heap.size w2 (w3.alloc (.cells #[.string ⟨#[112, 40, 97, 49, 41]⟩, .string ⟨#[97, 50]⟩] 9))) := Lib.hid hb; clear hk hg hb)) | (go_at_call 5; ((with_reducible refine (kadd_j _ _ _ HK.out HR.out).mono ?_); rintro e w4 ⟨rfl, hb, hm, sm, hk, hh⟩; have H3 : Hid (Has1 w w4 w2.heap.size HdJ) := Lib.hid ⟨hm, sm, hk, hh⟩; have hb2 := H2.out.trans hb; have H1 := Lib.hid (Has1.below H1.out hb2 (Nat.le_refl _)); have HB := Lib.hid (Below.next HB.out hb2); clear hb hk hh hb2)) | (go_at_call 6; (obtain ⟨m1, s1, e1, e2⟩ := H1.out; (with_reducible refine (kcan_a2 ⟨#[97, 50]⟩ rfl w.heap.size m1 _ _ e1 e2).mono ?_); rintro e w5 ⟨rfl, hb⟩; clear e1 e2; have H1 := Lib.hid (Has1.below H1.out hb (Nat.le_refl _)); have H3 := Lib.hid (Has1.below H3.out hb (Nat.le_refl _)); have HB := Lib.hid (Below.next HB.out hb); clear hb)) | (go_at_call 6; (obtain ⟨m1, s1, e1, e2⟩ := H3.out; (with_reducible refine (kcan_d ⟨#[100, 40, 97, 49, 44, 97, 50, 41]⟩ rfl w2.heap.size m1 _ _ e1 e2).mono ?_); rintro e w5 ⟨rfl, hb⟩; clear e1 e2; have H1 := Lib.hid (Has1.below H1.out hb (Nat.le_refl _)); have H3 := Lib.hid (Has1.below H3.out hb (Nat.le_refl _)); have HB := Lib.hid (Below.next HB.out hb); clear hb)) | (go_at_call 6; (obtain ⟨m1, s1, e1, e2⟩ := H3.out; (with_reducible refine (kcan_a1 ⟨#[97, 49]⟩ rfl w2.heap.size m1 _ _ e1 e2).mono ?_); rintro e w5 ⟨rfl, hb⟩; clear e1 e2; have H1 := Lib.hid (Has1.below H1.out hb (Nat.le_refl _)); have H3 := Lib.hid (Has1.below H3.out hb (Nat.le_refl _)); have HB := Lib.hid (Below.next HB.out hb); clear hb)) | fail)
  go_ret
  exact ⟨rfl, HB.out⟩
set_option maxHeartbeats 2000000 in
theorem knownil_walk (t : ByteArray) (w : World) : Calls Try.prog 3 #[.string t] w fun e w' => e = .returned (.bool true) ∧ Below w.heap.size w w' := by
  by_cases h : 400 < t.size
  · have hi : (400 : Int) < t.size := by omega
    go_enter Try.func3, Try.ntmps3
    go_wp2_with (first | (go_at_call 4; ((with_reducible refine (awake3 _).mono ?_); rintro e w1 ⟨rfl, hb⟩; have HB := Lib.hid hb; clear hb)) | fail)
    go_ret
    exact ⟨rfl, HB.out⟩
  · have hi : (t.size : Int) ≤ 400 := by omega
    have HSZ : Hid (t.size ≤ 65536) := Lib.hid (by omega)
    clear h
    go_enter Try.func3, Try.ntmps3
    go_wp2_with (first | (go_at_call 4; ((with_reducible refine (awake3 _).mono ?_); rintro e w1 ⟨rfl, hb⟩; have HB := Lib.hid (hb.alloc hb.size (.cells #[.string t] 9)); clear hb)) | (go_at_call 5; ((with_reducible refine (kadd_nil _ _).mono ?_); rintro e w2 ⟨rfl, hw⟩; subst hw)) | (go_at_call 6; ((with_reducible refine (kcan_nil _ _).mono ?_); rintro e w3 ⟨rfl, hw⟩; subst hw)) | (go_at_call 7; ((with_reducible refine (khas_nil _ _).mono ?_); rintro e w4 ⟨rfl, hg⟩; have HB := Lib.hid (Below.next HB.out (below_of_grown hg)); clear hg)) | (go_at_call 8; ((with_reducible refine (klen_nil _).mono ?_); rintro e w5 ⟨rfl, hw⟩; subst hw)) | (go_at_call 9; ((with_reducible refine (katoms_nil _).mono ?_); rintro e w6 ⟨rfl, hw⟩; subst hw)) | (go_at_call 10; ((with_reducible refine (knew_any _).mono ?_); rintro e w7 ⟨rfl, hk, hg⟩; have HK := Lib.hid hk; have HB := Lib.hid (Below.next HB.out (below_of_grown hg)); clear hk hg)) | (go_at_call 7; ((with_reducible refine (khas_new t HSZ.out _ _ HK.out).mono ?_); rintro e w8 ⟨rfl, hb⟩; have HB := Lib.hid (Below.next HB.out hb); clear hb)) | fail)
    go_ret
    exact ⟨rfl, HB.out⟩
end Go.Proofs.Yteiadbiopcidmaa
