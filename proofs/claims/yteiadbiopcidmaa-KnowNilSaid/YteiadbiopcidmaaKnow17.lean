/- know: reach of a spot for which one step waits, by which a Seal opens. -/
import Derived.Test.YteiadbiopcidmaaKnow16
namespace Go.Proofs.Yteiadbiopcidmaa
set_option linter.unusedVariables false
set_option linter.unusedSimpArgs false
set_option maxRecDepth 100000
open Go.RowKit

theorem Try.infoSp : (Try.prog.info? 43).map (fun i => (i.zero, i.size, i.bytes)) = some (some (.pointer none), 1, 8) := by kernel_rfl
/-- A is waited for by st alone, which is K's; b2 is sealed by K -/
structure Chain (w : World) (A st Kb gw cw gs cs b2 : Nat) (c : Nat) (mA : Bool) : Prop where
  a : SpotIs w A mA (.slice (some ⟨gw, 0, none⟩) 1 cw) (.slice none 0 0)
  s : StepIs w st c Kb
  k : SpotIs w Kb false (.slice none 0 0) (.slice (some ⟨gs, 0, none⟩) 1 cs)
  wr : w.ownsRow 0 79 1 (.slice (some ⟨gw, 0, none⟩) 1 cw) 1 [ptrV st]
  sr : w.ownsRow 0 33 1 (.slice (some ⟨gs, 0, none⟩) 1 cs) 1 [ptrV b2]
theorem own_cell {w : World} {B g c : Nat} {e : TypeId} {u : Value} (h : w.ownsRow B e 1 (.slice (some ⟨g, 0, none⟩) 1 c) 1 [u]) : w.cell? ⟨g, 0, none⟩ = some u := by
  rcases h.2 with ⟨e1, _⟩ | ⟨g', cap, cur, e1, _, hg, _, _, _, htk⟩
  · cases e1
  · cases e1
    refine cell_of hg 0 ?_
    have : (cur.toList.take (1 * 1))[0]? = some u := by rw [htk]; rfl
    rw [List.getElem?_take] at this
    split at this
    · simpa using this
    · cases this
theorem spot_ne {w : World} {A B : Nat} {m m2 : Bool} {v v2 s s2 : Value} (h : SpotIs w A m v s) (h2 : SpotIs w B m2 v2 s2) (hv : v ≠ v2) : A ≠ B := by
  intro e; subst e
  unfold SpotIs at h h2
  rw [h] at h2
  have := Option.some.inj h2
  simp at this
  exact hv this.2.1
theorem own_keep {w w' : World} {B size n : Nat} {e : TypeId} {v : Value} {xs : List Value} {S : Nat → Prop} (h : w.ownsRow B e size v n xs) (hk : Kept S w w') (hs : ∀ k, v.ownBlock = some k → ¬ S k) : w'.ownsRow B e size v n xs := by
  refine ⟨h.1, ?_⟩
  rcases h.2 with h2 | ⟨g, cap, cur, rfl, hB, hg, h3⟩
  · exact .inl h2
  · exact .inr ⟨g, cap, cur, rfl, hB, hk.at hg (hs g rfl), h3⟩
theorem piece_row {W : World} {C n : Nat} {T : TypeId} {cs : Array Value} {xs : List Value} {pv : Value} (h : W.heap[C]? = some (.cells cs T (0, 0))) (hT : T ≠ 33) (h2 : W.ownsRow 0 33 1 pv n xs) : pv.ownBlock ≠ some C := by
  intro e
  rcases h2.2 with ⟨rfl, _⟩ | ⟨g, cap, cur, rfl, _, hg, _⟩
  · cases e
  · cases e
    rw [h] at hg
    have := Option.some.inj hg
    simp at this
    exact hT this.2
theorem own_cell0 {w : World} {B g c : Nat} {e : TypeId} {u : Value} (h : w.ownsRow B e 1 (.slice (some ⟨g, 0, none⟩) 1 c) 1 [u]) : ∀ j x, [u][j]? = some x → w.cell? ((⟨g, 0, none⟩ : Addr).add j) = some x := by
  intro j x hj
  have h0 : j = 0 := by
    have := (List.getElem?_eq_some_iff.1 hj).1
    simpa using this
  subst h0
  cases hj
  exact own_cell h
theorem news_at (W : World) (N : Nat) (hN : W.heap.size = N) (b : Nat) (T : TypeId) : ∀ j u, [ptrV b][j]? = some u → (W.alloc (.cells #[.pointer (some ⟨b, 0, none⟩)] T)).cell? ((⟨N, 0, none⟩ : Addr).add j) = some u := by
  have h := World.news_of_block (cs := #[ptrV b]) (t := T) (fr := (0, 0)) (heap_alloc_new W (.cells #[ptrV b] T))
  rw [hN] at h
  exact h
theorem own_empty {W : World} {N b : Nat} {T : TypeId} (h : W.heap[N]? = some (.cells #[.pointer (some ⟨b, 0, none⟩)] T (0, 0))) : W.ownsRow N T 1 (.slice (some ⟨N, 0, none⟩) 0 1) 0 [] :=
  ⟨rfl, .inr ⟨N, 1, _, rfl, Nat.le_refl _, h, Nat.zero_le _, by decide, rfl, rfl⟩⟩
set_option maxHeartbeats 8000000 in
theorem kreach_two (w : World) (A st Kb gw cw gs cs b2 : Nat) (h : Chain w A st Kb gw cw gs cs b2 1 false) :
    Calls Try.prog 19 #[.pointer (some ⟨A, 0, none⟩)] w fun e W => ∃ g c, e = .returned (.slice (some ⟨g, 0, none⟩) 1 c) ∧ W.ownsRow w.heap.size 33 1 (.slice (some ⟨g, 0, none⟩) 1 c) 1 [ptrV b2] ∧ SpotIs W A true (.slice none 0 0) (.slice none 0 0) ∧ SpotIs W Kb true (.slice none 0 0) (.slice none 0 0) ∧ Kept (fun k => k = A ∨ k = st ∨ k = Kb) w W := by
  have H := Lib.hid h
  obtain ⟨i0, hi0, hz0, hz1, hz2⟩ := info_parts Try.infoSp
  obtain ⟨ip, hp0, hpz, hp1, hp2⟩ := info_parts Try.infoPc
  clear h
  go_enter Try.func19, Try.ntmps19
  go_wp2
  refine wp_scope_goto 0 (fun n a' wr => ∃ (v3 : Value) (g ln c : Nat), a'.defers = [] ∧ a'.tmps.size = 76 ∧ a'.tmps.getD 3 undef = v3 ∧ a'.tmps.getD 4 undef = .slice (some ⟨g, 0, none⟩) ln c ∧
    ((n = 2 ∧ v3 = .slice none 0 0 ∧ g = w.heap.size ∧ ln = 1 ∧ c = 1 ∧ wr = w.alloc (.cells #[.pointer (some ⟨A, 0, none⟩)] 43)) ∨
     (n = 1 ∧ v3 = .slice none 0 0 ∧ ln = 1 ∧ wr.ownsRow w.heap.size 43 1 (.slice (some ⟨g, 0, none⟩) 1 c) 1 [ptrV Kb] ∧ SpotIs wr A true (.slice none 0 0) (.slice none 0 0) ∧ Kept (fun k => k = A ∨ k = st) w wr) ∨
     (n = 0 ∧ ln = 0 ∧ ∃ go co, v3 = .slice (some ⟨go, 0, none⟩) 1 co ∧ wr.ownsRow w.heap.size 33 1 v3 1 [ptrV b2] ∧ SpotIs wr A true (.slice none 0 0) (.slice none 0 0) ∧ SpotIs wr Kb true (.slice none 0 0) (.slice none 0 0) ∧ Kept (fun k => k = A ∨ k = st ∨ k = Kb) w wr))) rfl ?_ ?_
  · intro R2 hpass hout
    go_wp2
    go_step3
    go_step
    go_step
    exact hpass 2 _ _ ⟨.slice none 0 0, w.heap.size, 1, 1, rfl, rfl, rfl, rfl, .inl ⟨rfl, rfl, rfl, rfl, rfl, rfl⟩⟩
  · intro n a' wr hrel J hJ
    obtain ⟨v3, g, ln, c, hfd, hfs, hf3, hf4, hcase⟩ := hrel
    obtain ⟨T, DD⟩ := a'
    obtain rfl : DD = [] := hfd
    obtain ⟨u, hu⟩ : ∃ u : Nat → Value, T = #[u 0, u 1, u 2, u 3, u 4, u 5, u 6, u 7, u 8, u 9, u 10, u 11, u 12, u 13, u 14, u 15, u 16, u 17, u 18, u 19, u 20, u 21, u 22, u 23, u 24, u 25, u 26, u 27, u 28, u 29, u 30, u 31, u 32, u 33, u 34, u 35, u 36, u 37, u 38, u 39, u 40, u 41, u 42, u 43, u 44, u 45, u 46, u 47, u 48, u 49, u 50, u 51, u 52, u 53, u 54, u 55, u 56, u 57, u 58, u 59, u 60, u 61, u 62, u 63, u 64, u 65, u 66, u 67, u 68, u 69, u 70, u 71, u 72, u 73, u 74, u 75] := ⟨fun i => T.getD i undef, lit_eq T 76 hfs⟩
    subst hu
    have he3 : u 3 = v3 := hf3
    have he4 : u 4 = .slice (some ⟨g, 0, none⟩) ln c := hf4
    clear hfs hf3 hf4
    rw [he3, he4]
    clear he3 he4
    have HJ := Lib.hid hJ
    clear hJ
    rcases hcase with ⟨rfl, rfl, rfl, rfl, rfl, rfl⟩ | ⟨rfl, rfl, rfl, hown, hA, hkp⟩ | ⟨rfl, rfl, go, co, rfl, hown, hA, hK, hkp⟩
    · have c0 : (w.alloc (.cells #[.pointer (some ⟨A, 0, none⟩)] 43)).cell? ⟨w.heap.size, 0, none⟩ = some (.pointer (some ⟨A, 0, none⟩)) := cell_of (heap_alloc_new w _) 0 rfl
      have hA0 : SpotIs (w.alloc (.cells #[.pointer (some ⟨A, 0, none⟩)] 43)) A false (.slice (some ⟨gw, 0, none⟩) 1 cw) (.slice none 0 0) := keep_alloc H.out.a _
      have hA1 : SpotIs (((w.alloc (.cells #[.pointer (some ⟨A, 0, none⟩)] 43)).setCell ⟨A, 0, none⟩ (.bool true))) A true (.slice (some ⟨gw, 0, none⟩) 1 cw) (.slice none 0 0) := heap_set (i := 0) hA0
      have hneS : st ≠ A := step_ne H.out.s H.out.a
      have hS1 : StepIs (((w.alloc (.cells #[.pointer (some ⟨A, 0, none⟩)] 43)).setCell ⟨A, 0, none⟩ (.bool true))) st 1 Kb := (heap_set_other hneS).trans (keep_alloc H.out.s _)
      have a0 : (w.alloc (.cells #[.pointer (some ⟨A, 0, none⟩)] 43)).cell? ⟨A, 0, none⟩ = some (.bool false) := cell_of hA0 0 rfl
      have af : (w.alloc (.cells #[.pointer (some ⟨A, 0, none⟩)] 43)).frozen? ⟨A, 0, none⟩ = false := free_of hA0 0
      have a1 : (((w.alloc (.cells #[.pointer (some ⟨A, 0, none⟩)] 43)).setCell ⟨A, 0, none⟩ (.bool true))).cell? ⟨A, 1, none⟩ = some (.slice (some ⟨gw, 0, none⟩) 1 cw) := cell_of hA1 1 rfl
      have a2 : (((w.alloc (.cells #[.pointer (some ⟨A, 0, none⟩)] 43)).setCell ⟨A, 0, none⟩ (.bool true))).cell? ⟨A, 2, none⟩ = some (.slice none 0 0) := cell_of hA1 2 rfl
      have HA1 := Lib.hid hA1
      have HS1 := Lib.hid hS1
      clear hA0 hA1 hS1
      go_wp2_with (first | (at_builtin; (refine wpList_append_own_none rfl _ _ 40 rfl 0 33 _ 1 Try.underlying40 hp0 (.slice none 0 0) 0 [] rfl (World.ownsRow_nil _ _ _ _) rfl ?_)) | fail)
      have HW := Lib.hid (heap_alloc_new w (.cells #[.pointer (some ⟨A, 0, none⟩)] 43))
      have hAlt : A < w.heap.size := (Array.getElem?_eq_some_iff.1 H.out.a).1
      have hSlt : st < w.heap.size := (Array.getElem?_eq_some_iff.1 H.out.s).1
      have w1r : (((w.alloc (.cells #[.pointer (some ⟨A, 0, none⟩)] 43)).setCell ⟨A, 0, none⟩ (.bool true))).cell? ⟨gw, 0, none⟩ = some (.pointer (some ⟨st, 0, none⟩)) := own_cell (World.ownsRow.kept (World.ownsRow.alloc H.out.wr _) (grown_set _ A 0 (.bool true)) (.inr (fun e => spot_row (keep_alloc H.out.a _) (World.ownsRow.alloc H.out.wr (.cells #[.pointer (some ⟨A, 0, none⟩)] 43)) e)))
      have s0 : (((w.alloc (.cells #[.pointer (some ⟨A, 0, none⟩)] 43)).setCell ⟨A, 0, none⟩ (.bool true))).cell? ⟨st, 0, none⟩ = some (.int .i64 1) := cell_of HS1.out 0 rfl
      have sf : (((w.alloc (.cells #[.pointer (some ⟨A, 0, none⟩)] 43)).setCell ⟨A, 0, none⟩ (.bool true))).frozen? ⟨st, 0, none⟩ = false := free_of HS1.out 0
      have s1 : (((((w.alloc (.cells #[.pointer (some ⟨A, 0, none⟩)] 43)).setCell ⟨A, 0, none⟩ (.bool true))).setCell ⟨st, 0, none⟩ (.int .i64 0))).cell? ⟨st, 1, none⟩ = some (.pointer (some ⟨Kb, 0, none⟩)) := cell_of (show StepIs (((((w.alloc (.cells #[.pointer (some ⟨A, 0, none⟩)] 43)).setCell ⟨A, 0, none⟩ (.bool true))).setCell ⟨st, 0, none⟩ (.int .i64 0))) st 0 Kb from heap_set (i := 0) HS1.out) 1 rfl
      have HOE : Hid ((((((w.alloc (.cells #[.pointer (some ⟨A, 0, none⟩)] 43)).setCell ⟨A, 0, none⟩ (.bool true))).setCell ⟨st, 0, none⟩ (.int .i64 0))).ownsRow w.heap.size 43 1 (.slice (some ⟨w.heap.size, 0, none⟩) 0 1) 0 []) := Lib.hid (own_empty ((heap_set_other (by omega)).trans ((heap_set_other (by omega)).trans HW.out)))
      have HA2 : Hid (SpotIs (((((w.alloc (.cells #[.pointer (some ⟨A, 0, none⟩)] 43)).setCell ⟨A, 0, none⟩ (.bool true))).setCell ⟨st, 0, none⟩ (.int .i64 0))) A true (.slice (some ⟨gw, 0, none⟩) 1 cw) (.slice none 0 0)) := Lib.hid ((heap_set_other (fun e => hneS e.symm)).trans HA1.out)
      have HAL := Lib.hid hAlt
      have HSL := Lib.hid hSlt
      clear c0 a0 af hAlt hSlt
      go_loopw [4, 46] (fun more i wr => (i = .int .i64 0 ∧ more = .slice (some ⟨w.heap.size, 0, none⟩) 0 1 ∧ wr = ((w.alloc (.cells #[.pointer (some ⟨A, 0, none⟩)] 43)).setCell ⟨A, 0, none⟩ (.bool true))) ∨ (i = .int .i64 1 ∧ ∃ g c, more = .slice (some ⟨g, 0, none⟩) 1 c ∧ wr.ownsRow w.heap.size 43 1 more 1 [ptrV Kb] ∧ SpotIs wr A true (.slice (some ⟨gw, 0, none⟩) 1 cw) (.slice none 0 0) ∧ Kept (fun k => k = A ∨ k = st) w wr)) (fun _ i _ => 1 - (intOf i).toNat)
      case atStart => exact .inl ⟨rfl, rfl, rfl⟩
      case round =>
        rcases hrel with ⟨rfl, rfl, rfl⟩ | ⟨rfl, g, c, rfl, hown, hA, hkp⟩
        · go_wp2_with (first | (at_builtin; (refine wpList_append_lies _ rfl _ _ 78 rfl w.heap.size 43 i0 _ 1 8 Try.underlying78 hi0 hz0 hz1 hz2 rfl (by decide) (.slice (some ⟨w.heap.size, 0, none⟩) 0 1) 0 [] rfl (World.ownsRow.alloc (w := ((((w.alloc (.cells #[.pointer (some ⟨A, 0, none⟩)] 43)).setCell ⟨A, 0, none⟩ (.bool true))).setCell ⟨st, 0, none⟩ (.int .i64 0))) HOE.out _) ⟨w.heap.size + 1, 0, none⟩ 1 1 [ptrV Kb] rfl rfl (news_at (((((w.alloc (.cells #[.pointer (some ⟨A, 0, none⟩)] 43)).setCell ⟨A, 0, none⟩ (.bool true))).setCell ⟨st, 0, none⟩ (.int .i64 0))) _ (by simp) Kb _) (by simp [Value.oneCell', ptrV]) (by decide) (by decide) (by decide) (by simp; omega) _ rfl ?_); intro g7 cp w7 hown hgrow hat hlt7; have HOWN := Lib.hid hown; have HGROW := Lib.hid hgrow; have HAT := Lib.hid hat; clear hown hgrow hat hlt7) | fail)
          have hA7 : SpotIs w7 A true (.slice (some ⟨gw, 0, none⟩) 1 cw) (.slice none 0 0) := keep_far (keep_alloc HA2.out (.cells #[.pointer (some ⟨Kb, 0, none⟩)] 43)) HGROW.out (fun e => by have := HAL.out; simp [Value.ownBlock] at e; omega)
          have k1 : Kept (fun k => k = A) w (((w.alloc (.cells #[.pointer (some ⟨A, 0, none⟩)] 43)).setCell ⟨A, 0, none⟩ (.bool true))) := (Kept.of_grown (World.grownBy_alloc w (.cells #[.pointer (some ⟨A, 0, none⟩)] 43) none)).trans (Kept.of_grown (grown_set _ A 0 (.bool true))) (fun k _ hk => hk.elim (fun e => by cases e) (fun e => by cases e; rfl))
          have k2 : Kept (fun k => k = A ∨ k = st) w (((((w.alloc (.cells #[.pointer (some ⟨A, 0, none⟩)] 43)).setCell ⟨A, 0, none⟩ (.bool true))).setCell ⟨st, 0, none⟩ (.int .i64 0))) := k1.trans (Kept.of_grown (grown_set _ st 0 (.int .i64 0))) (fun k _ hk => hk.elim .inl (fun e => .inr (by cases e; rfl)))
          have k3 := (k2.grown (World.grownBy_alloc _ (.cells #[.pointer (some ⟨Kb, 0, none⟩)] 43) none)).trans (Kept.of_grown HGROW.out) (U := fun k => k = A ∨ k = st) (fun k hk e => e.elim id (fun e => by simp [Value.ownBlock] at e; omega))
          exact ⟨.inr ⟨rfl, g7, cp, rfl, HOWN.out, hA7, k3⟩, by simp [intOf]⟩
        · have HO := Lib.hid hown
          have HA3 := Lib.hid hA
          have HK3 := Lib.hid hkp
          have z1 : wr.cell? ⟨A, 1, none⟩ = some (.slice (some ⟨gw, 0, none⟩) 1 cw) := cell_of hA 1 rfl
          have z2 : wr.cell? ⟨A, 2, none⟩ = some (.slice none 0 0) := cell_of hA 2 rfl
          have zf : ∀ i, wr.frozen? ⟨A, i, none⟩ = false := fun i => free_of hA i
          clear hown hA hkp
          go_wp2
          have hgA : g ≠ A := by
            have h1 : w.heap.size ≤ g := (own_ge HO.out rfl).1
            have h2 := HAL.out
            omega
          have k4 : Kept (fun k => k = A) wr ((wr.setCell ⟨A, 1, none⟩ (.slice none 0 0)).setCell ⟨A, 2, none⟩ (.slice none 0 0)) := (Kept.of_grown (grown_set _ A 1 _)).trans (Kept.of_grown (grown_set _ A 2 _)) (fun k _ hk => hk.elim (fun e => by cases e; rfl) (fun e => by cases e; rfl))
          first | go_step3 | skip
          exact jump_back (HJ.out 1 _ _ (by omega) ⟨.slice none 0 0, g, 1, c, rfl, rfl, rfl, rfl, .inr (.inl ⟨rfl, rfl, rfl, own_keep HO.out k4 (fun k e e2 => hgA (by have e3 : k = A := e2; simp [Value.ownBlock] at e; omega)), heap_set (i := 2) (heap_set (i := 1) HA3.out), HK3.out.trans k4 (fun k _ e => e.elim id .inl)⟩)⟩)
    · have hKA : Kb ≠ A := fun e => spot_ne H.out.a H.out.k (by simp) e.symm
      have hKS : Kb ≠ st := fun e => step_ne H.out.s H.out.k e.symm
      have hsK : ∀ k, k = A ∨ k = st → k ≠ Kb := fun k hk e => by subst e; exact hk.elim hKA hKS
      have hK : SpotIs wr Kb false (.slice none 0 0) (.slice (some ⟨gs, 0, none⟩) 1 cs) := hkp.at H.out.k (fun e => hsK _ e rfl)
      have hsr : wr.ownsRow 0 33 1 (.slice (some ⟨gs, 0, none⟩) 1 cs) 1 [ptrV b2] := own_keep H.out.sr hkp (fun k e e2 => by
        rcases e2 with e2 | e2
        · subst e2; exact piece_row H.out.a (by decide) H.out.sr e
        · subst e2; exact piece_row H.out.s (by decide) H.out.sr e)
      have hK1 : SpotIs (wr.setCell ⟨Kb, 0, none⟩ (.bool true)) Kb true (.slice none 0 0) (.slice (some ⟨gs, 0, none⟩) 1 cs) := heap_set (i := 0) hK
      have hA1 : SpotIs (wr.setCell ⟨Kb, 0, none⟩ (.bool true)) A true (.slice none 0 0) (.slice none 0 0) := (heap_set_other (fun e => hKA e.symm)).trans hA
      have hsr1 : (wr.setCell ⟨Kb, 0, none⟩ (.bool true)).ownsRow 0 33 1 (.slice (some ⟨gs, 0, none⟩) 1 cs) 1 [ptrV b2] := World.ownsRow.kept hsr (grown_set _ _ _ _) (.inr (piece_row hK (by decide) hsr))
      have c0 : wr.cell? ⟨g, 0, none⟩ = some (.pointer (some ⟨Kb, 0, none⟩)) := own_cell hown
      have a0 : wr.cell? ⟨Kb, 0, none⟩ = some (.bool false) := cell_of hK 0 rfl
      have af : wr.frozen? ⟨Kb, 0, none⟩ = false := free_of hK 0
      have a1 : (wr.setCell ⟨Kb, 0, none⟩ (.bool true)).cell? ⟨Kb, 1, none⟩ = some (.slice none 0 0) := cell_of hK1 1 rfl
      have a2 : (wr.setCell ⟨Kb, 0, none⟩ (.bool true)).cell? ⟨Kb, 2, none⟩ = some (.slice (some ⟨gs, 0, none⟩) 1 cs) := cell_of hK1 2 rfl
      have hgl : w.heap.size ≤ g := (own_ge hown rfl).1
      have hgK : g ≠ Kb := by
        have := (Array.getElem?_eq_some_iff.1 H.out.k).1
        omega
      have HO := Lib.hid hown
      have HK1 := Lib.hid hK1
      have HA1 := Lib.hid hA1
      have HSR := Lib.hid hsr1
      have HKP := Lib.hid hkp
      have HLE : Hid (w.heap.size ≤ (wr.setCell ⟨Kb, 0, none⟩ (.bool true)).heap.size) := Lib.hid (by simp; exact hkp.size)
      have HKL : Hid (Kb < w.heap.size ∧ A < w.heap.size) := Lib.hid ⟨(Array.getElem?_eq_some_iff.1 H.out.k).1, (Array.getElem?_eq_some_iff.1 H.out.a).1⟩
      clear hown hA hkp hK hsr hK1 hA1 hsr1 hgl hsK hKS
      go_wp2_with (first | (at_builtin; (refine wpList_append_lies _ rfl _ _ 40 rfl w.heap.size 33 ip _ 1 8 Try.underlying40 hp0 hpz hp1 hp2 rfl (by decide) (.slice none 0 0) 0 [] rfl (World.ownsRow_nil _ _ _ _) ⟨gs, 0, none⟩ 1 cs [ptrV b2] rfl rfl (own_cell0 HSR.out) (by simp [Value.oneCell', ptrV]) (by decide) (by decide) (by decide) HLE.out _ rfl ?_); intro g7 cp w7 hown hgrow hat hlt7; have HOWN := Lib.hid hown; have HGROW := Lib.hid hgrow; have hk7 := keep_far HK1.out hgrow (fun e => by cases e); have y1 : w7.cell? ⟨Kb, 1, none⟩ = some (.slice none 0 0) := cell_of hk7 1 rfl; have y2 : w7.cell? ⟨Kb, 2, none⟩ = some (.slice (some ⟨gs, 0, none⟩) 1 cs) := cell_of hk7 2 rfl; have yf : ∀ i, w7.frozen? ⟨Kb, i, none⟩ = false := fun i => free_of hk7 i; have HK7 := Lib.hid hk7; have HA7 := Lib.hid (keep_far HA1.out hgrow (fun e => by cases e)); clear hown hgrow hat hlt7 hk7) | fail)
      go_loopw [4, 46] (fun more i wr => i = .int .i64 0 ∧ more = .slice (some ⟨g, 0, none⟩) 0 c ∧ wr = w7) (fun _ _ _ => 1)
      case atStart => exact ⟨rfl, rfl, rfl⟩
      case round =>
        obtain ⟨rfl, rfl, rfl⟩ := hrel
        go_wp2
        have hg7 : g7 ≠ Kb := by
          have h1 : w.heap.size ≤ g7 := (own_ge HOWN.out rfl).1
          have h2 := HKL.out.1
          omega
        have k1 : Kept (fun k => k = A ∨ k = st ∨ k = Kb) w _ := HKP.out.trans (Kept.of_grown (grown_set _ Kb 0 (.bool true))) (fun k _ hk => hk.elim (fun e => e.elim .inl (fun e => .inr (.inl e))) (fun e => .inr (.inr (by cases e; rfl))))
        have k2 := k1.grown HGROW.out
        have k5 : Kept (fun k => k = Kb) wr ((wr.setCell ⟨Kb, 1, none⟩ (.slice none 0 0)).setCell ⟨Kb, 2, none⟩ (.slice none 0 0)) := (Kept.of_grown (grown_set _ Kb 1 _)).trans (Kept.of_grown (grown_set _ Kb 2 _)) (fun k _ hk => hk.elim (fun e => by cases e; rfl) (fun e => by cases e; rfl))
        first | go_step3 | skip
        exact jump_back (HJ.out 0 _ _ (by omega) ⟨.slice (some ⟨g7, 0, none⟩) 1 cp, g, 0, c, rfl, rfl, rfl, rfl, .inr (.inr ⟨rfl, rfl, g7, cp, rfl, own_keep HOWN.out k5 (fun k e e2 => hg7 (by have e3 : k = Kb := e2; simp [Value.ownBlock] at e; omega)), (heap_set_other (fun e => hKA e.symm)).trans ((heap_set_other (fun e => hKA e.symm)).trans HA7.out), heap_set (i := 2) (heap_set (i := 1) HK7.out), k2.trans k5 (fun k _ e => e.elim id (fun e => .inr (.inr e)))⟩)⟩)
    · have HO := Lib.hid hown
      have HA := Lib.hid hA
      have HK := Lib.hid hK
      have HKP := Lib.hid hkp
      clear hown hA hK hkp
      go_wp2
      refine jump_ret ?_
      go_ret
      exact ⟨go, co, rfl, HO.out, HA.out, HK.out, HKP.out⟩
end Go.Proofs.Yteiadbiopcidmaa
