/- know: grow of the first term of all, by which nothing opens. -/
import Derived.Test.YteiadbiopcidmaaKnow23
namespace Go.Proofs.Yteiadbiopcidmaa
set_option linter.unusedVariables false
set_option linter.unusedSimpArgs false
set_option maxRecDepth 100000
open Go.RowKit
theorem fresh_is {w : World} {K B : Nat} {ok : Nat → Prop} {tm : Tm} {hm sm N0 : Nat} (hhm : hm = w.heap.size) (hsm : sm = w.heap.size + 1) (hN0 : N0 = w.heap.size) (hk : KnowIs w K (.map none) (.map none)) (hp : PieceAt ok w tm B) (hok : ∀ k, ok k → k ≠ K) :
    KnowIs ((((((w.alloc (.map #[] 0)).alloc (.map #[] 0))).setCell ⟨K, 0, none⟩ (.map (some hm))).setCell ⟨K, 1, none⟩ (.map (some sm)))) K (.map (some hm)) (.map (some sm)) ∧ MapIs Value.bool ((((((w.alloc (.map #[] 0)).alloc (.map #[] 0))).setCell ⟨K, 0, none⟩ (.map (some hm))).setCell ⟨K, 1, none⟩ (.map (some sm)))) hm [] ∧ MapIs ptrV ((((((w.alloc (.map #[] 0)).alloc (.map #[] 0))).setCell ⟨K, 0, none⟩ (.map (some hm))).setCell ⟨K, 1, none⟩ (.map (some sm)))) sm [] ∧ PieceAt (fun k => k ≠ K ∧ k < N0) ((((((w.alloc (.map #[] 0)).alloc (.map #[] 0))).setCell ⟨K, 0, none⟩ (.map (some hm))).setCell ⟨K, 1, none⟩ (.map (some sm)))) tm B ∧ Kept (fun k => k = K) w ((((((w.alloc (.map #[] 0)).alloc (.map #[] 0))).setCell ⟨K, 0, none⟩ (.map (some hm))).setCell ⟨K, 1, none⟩ (.map (some sm)))) ∧ ((((((w.alloc (.map #[] 0)).alloc (.map #[] 0))).setCell ⟨K, 0, none⟩ (.map (some hm))).setCell ⟨K, 1, none⟩ (.map (some sm)))).heap.size = w.heap.size + 1 + 1 := by
  have hKlt : K < w.heap.size := (Array.getElem?_eq_some_iff.1 hk).1
  have hk2 : KnowIs (((w.alloc (.map #[] 0)).alloc (.map #[] 0))) K (.map none) (.map none) := keep_alloc (keep_alloc hk _) _
  have s1 : (w.alloc (.map #[] 0)).heap.size = w.heap.size + 1 := by simp
  have hm1 : (((w.alloc (.map #[] 0)).alloc (.map #[] 0))).heap[hm]? = some (.map #[] 0) := by rw [hhm]; exact keep_alloc (heap_alloc_new w _) _
  have hm2 : (((w.alloc (.map #[] 0)).alloc (.map #[] 0))).heap[sm]? = some (.map #[] 0) := by
    rw [hsm]
    have := heap_alloc_new (w.alloc (.map #[] 0)) (.map #[] 0)
    rw [s1] at this; exact this
  have k0 : Kept (fun _ => False) w (((w.alloc (.map #[] 0)).alloc (.map #[] 0))) := Kept.mono (Kept.of_grown (grown_trans (World.grownBy_alloc w (.map #[] 0) none) (World.grownBy_alloc _ (.map #[] 0) none))) (fun k _ e => by cases e)
  have k1 : Kept (fun k => k = K) w ((((((w.alloc (.map #[] 0)).alloc (.map #[] 0))).setCell ⟨K, 0, none⟩ (.map (some hm))).setCell ⟨K, 1, none⟩ (.map (some sm)))) := (k0.trans (Kept.of_grown (grown_set _ K 0 _)) (U := fun k => k = K) (fun k _ e => e.elim False.elim (fun e => by cases e; rfl))).trans (Kept.of_grown (grown_set _ K 1 _)) (fun k _ e => e.elim id (fun e => by cases e; rfl))
  refine ⟨heap_set (i := 1) (heap_set (i := 0) hk2), (heap_set_other (by omega)).trans ((heap_set_other (by omega)).trans hm1), (heap_set_other (by omega)).trans ((heap_set_other (by omega)).trans hm2), (hp.inHeap (fun k h1 h2 => ⟨hok k h1, by rw [hN0]; exact h2⟩)).keep k1 (fun k h e => h.1 e), k1, by simp⟩
set_option maxHeartbeats 8000000 in
theorem kgrow_fresh (R : World → Prop) (tm : Tm) (h5 : tm.kind = 5 → tm.parts ≠ []) (B : Nat) (ok : Nat → Prop) (w : World) (K : Nat)
    (hk : KnowIs w K (.map none) (.map none)) (hp : PieceAt ok w tm B) (hok : ∀ k, ok k → k ≠ K)
    (hm sm N0 : Nat) (hhm : hm = w.heap.size) (hsm : sm = w.heap.size + 1) (hN0 : N0 = w.heap.size)
    (hwith : ∀ W0 g W, Kept (fun k => k = K) w W0 → w.heap.size + 1 + 1 ≤ g → PutIs W0 K hm sm [] [] (fun k => k ≠ K ∧ k < N0) tm B g 1 W → Calls Try.prog 20 #[.pointer (some ⟨K, 0, none⟩), .pointer (some ⟨B, 0, none⟩)] W fun e W' => e = .returned (.slice none 0 0) ∧ R W' ∧ ∃ cur, W'.heap[g]? = some (.cells cur 33 (0, 0)) ∧ cur.size = 1) :
    Calls Try.prog 12 #[.pointer (some ⟨K, 0, none⟩), .pointer (some ⟨B, 0, none⟩)] w fun e W => (∃ x, e = .returned x) ∧ R W := by
  obtain ⟨ip, hp0, hpz, hp1, hp2⟩ := info_parts Try.infoPc
  obtain ⟨nv, hnv⟩ : ∃ nv, nameV (nameOf tm) = nv := ⟨_, rfl⟩
  have HNM : Hid (∀ w, PieceAt (fun k => k ≠ K ∧ k < N0) w tm B → Calls Try.prog 15 #[.pointer (some ⟨B, 0, none⟩)] w fun e w' => e = .returned nv ∧ w.grownBy w' none) := Lib.hid (fun w h => by
    have := kname_any tm h5 B _ w h
    rw [hnv] at this; exact this)
  have HLH : Hid (∀ w, MapIs Value.bool w hm [] → (Instr.lookup 35 (.map (some hm)) nv false).run Try.prog w = .ok (.bool false) w) := Lib.hid (fun w h => by
    rw [← hnv]
    exact look_out Value.bool w hm _ _ Try.underlying35 [] (nameOf tm) (.bool false) false (zero_bool w) h rfl)
  have HLS : Hid (∀ w, MapIs ptrV w sm [] → (Instr.lookup 36 (.map (some sm)) nv false).run Try.prog w = .ok (.pointer none) w) := Lib.hid (fun w h => by
    rw [← hnv]; exact look_out ptrV w sm _ _ Try.underlying36 [] (nameOf tm) _ false (zero_spot w) h rfl)
  have HPUT : Hid (∀ w, MapIs Value.bool w hm [] → ∃ w', (Instr.mapUpdate 35 (.map (some hm)) nv (.bool true)).run Try.prog w = .ok () w' ∧ MapIs Value.bool w' hm ([] ++ [(nameOf tm, true)]) ∧ w.grownBy w' (some hm)) := Lib.hid (fun w h => by
    rw [← hnv]; exact put_new Value.bool w hm _ _ Try.underlying35 [] (nameOf tm) true h rfl)
  obtain ⟨f1, f2, f3, f4, f5, f6⟩ := fresh_is hhm hsm hN0 hk hp hok
  have HWI := Lib.hid hwith
  have HHM : Hid (hm = w.heap.size ∧ sm = w.heap.size + 1) := Lib.hid ⟨hhm, hsm⟩
  have HSH : Hid (sm ≠ hm) := Lib.hid (by omega)
  have HOK : Hid (∀ k, (k ≠ K ∧ k < N0) → k ≠ hm) := Lib.hid (fun k h e => by have := h.2; omega)
  have hKlt : K < w.heap.size := (Array.getElem?_eq_some_iff.1 hk).1
  have i0 : w.cell? ⟨K, 0, none⟩ = some (.map none) := cell_of hk 0 rfl
  have hmk1 : (Instr.makeMap 35 none).run Try.prog w = .ok (.map (some hm)) (w.alloc (.map #[] 0)) := by rw [hhm]; exact run_makeMap _ _
  have hmk2 : (Instr.makeMap 36 none).run Try.prog (w.alloc (.map #[] 0)) = .ok (.map (some sm)) ((w.alloc (.map #[] 0)).alloc (.map #[] 0)) := by
    rw [hsm]
    have := run_makeMap (P := Try.prog) 36 (w.alloc (.map #[] 0))
    rw [show (w.alloc (.map #[] 0)).heap.size = w.heap.size + 1 by simp] at this; exact this
  have hk2 : KnowIs (((w.alloc (.map #[] 0)).alloc (.map #[] 0))) K (.map none) (.map none) := keep_alloc (keep_alloc hk _) _
  have hk3 : KnowIs ((((w.alloc (.map #[] 0)).alloc (.map #[] 0))).setCell ⟨K, 0, none⟩ (.map (some hm))) K (.map (some hm)) (.map none) := heap_set (i := 0) hk2
  have j0 : (((w.alloc (.map #[] 0)).alloc (.map #[] 0))).cell? ⟨K, 0, none⟩ = some (.map none) := cell_of hk2 0 rfl
  have jf : (((w.alloc (.map #[] 0)).alloc (.map #[] 0))).frozen? ⟨K, 0, none⟩ = false := free_of hk2 0
  have j1 : ((((w.alloc (.map #[] 0)).alloc (.map #[] 0))).setCell ⟨K, 0, none⟩ (.map (some hm))).cell? ⟨K, 1, none⟩ = some (.map none) := cell_of hk3 1 rfl
  have jg : ((((w.alloc (.map #[] 0)).alloc (.map #[] 0))).setCell ⟨K, 0, none⟩ (.map (some hm))).frozen? ⟨K, 1, none⟩ = false := free_of hk3 1
  have HGI : Hid (GrowIs (((((((w.alloc (.map #[] 0)).alloc (.map #[] 0))).setCell ⟨K, 0, none⟩ (.map (some hm))).setCell ⟨K, 1, none⟩ (.map (some sm)))).alloc (.cells #[.pointer (some ⟨B, 0, none⟩)] 33)) K hm sm [] [] (fun k => k ≠ K ∧ k < N0) tm B (w.heap.size + 1 + 1) 1) := Lib.hid ⟨keep_alloc f1 _, keep_alloc f2 _, keep_alloc f3 _, f4.kept (World.grownBy_alloc _ (.cells #[.pointer (some ⟨B, 0, none⟩)] 33) none) (fun r e => by cases e), ⟨_, (by have := heap_alloc_new ((((((w.alloc (.map #[] 0)).alloc (.map #[] 0))).setCell ⟨K, 0, none⟩ (.map (some hm))).setCell ⟨K, 1, none⟩ (.map (some sm)))) (.cells #[.pointer (some ⟨B, 0, none⟩)] 33); rw [f6] at this; exact this), rfl, by decide, rfl⟩⟩
  have HGK : Hid (Kept (fun k => k = K) w (((((((w.alloc (.map #[] 0)).alloc (.map #[] 0))).setCell ⟨K, 0, none⟩ (.map (some hm))).setCell ⟨K, 1, none⟩ (.map (some sm)))).alloc (.cells #[.pointer (some ⟨B, 0, none⟩)] 33))) := Lib.hid (f5.grown (World.grownBy_alloc _ (.cells #[.pointer (some ⟨B, 0, none⟩)] 33) none))
  clear hk hp hok hwith hnv h5 f1 f2 f3 f4 f5 f6 hk2 hk3 hhm hsm hN0 hKlt
  have hq := eql_map_nn
  go_enter Try.func12, Try.ntmps12
  go_wp2
  refine wp_scope_goto 0 (fun n a' wr => n ≤ 1 ∧ a'.defers = [] ∧ a'.tmps.size = 62 ∧ a'.tmps.getD 0 undef = .pointer (some ⟨K, 0, none⟩) ∧ a'.tmps.getD 4 undef = .slice (some ⟨w.heap.size + 1 + 1, 0, none⟩) n 1 ∧ ((n = 1 ∧ wr = ((((((w.alloc (.map #[] 0)).alloc (.map #[] 0))).setCell ⟨K, 0, none⟩ (.map (some hm))).setCell ⟨K, 1, none⟩ (.map (some sm)))).alloc (.cells #[.pointer (some ⟨B, 0, none⟩)] 33)) ∨ (n = 0 ∧ R wr))) rfl ?_ ?_
  · intro R2 hpass hout
    go_wp2
    first | go_step3 | skip
    first | go_step | skip
    first | go_step | skip
    exact hpass 1 _ _ ⟨Nat.le_refl _, rfl, rfl, rfl, rfl, .inl ⟨rfl, rfl⟩⟩
  · intro n a' wr hrel J hJ
    obtain ⟨hn, hfd, hfs, hf0, hf4, hcase⟩ := hrel
    obtain ⟨T, DD⟩ := a'
    obtain rfl : DD = [] := hfd
    obtain ⟨u, hu⟩ : ∃ u : Nat → Value, T = #[u 0, u 1, u 2, u 3, u 4, u 5, u 6, u 7, u 8, u 9, u 10, u 11, u 12, u 13, u 14, u 15, u 16, u 17, u 18, u 19, u 20, u 21, u 22, u 23, u 24, u 25, u 26, u 27, u 28, u 29, u 30, u 31, u 32, u 33, u 34, u 35, u 36, u 37, u 38, u 39, u 40, u 41, u 42, u 43, u 44, u 45, u 46, u 47, u 48, u 49, u 50, u 51, u 52, u 53, u 54, u 55, u 56, u 57, u 58, u 59, u 60, u 61] := ⟨fun i => T.getD i undef, lit_eq T 62 hfs⟩
    subst hu
    have he0 : u 0 = .pointer (some ⟨K, 0, none⟩) := hf0
    have he4 : u 4 = .slice (some ⟨w.heap.size + 1 + 1, 0, none⟩) n 1 := hf4
    clear hfs hf0 hf4
    rw [he0, he4]
    clear he0 he4
    have HJ := Lib.hid hJ
    clear hJ
    rcases hcase with ⟨rfl, rfl⟩ | ⟨rfl, hR⟩
    · have HK := Lib.hid HGI.out.k
      have HH := Lib.hid HGI.out.h
      have HST : Hid ((((((((w.alloc (.map #[] 0)).alloc (.map #[] 0))).setCell ⟨K, 0, none⟩ (.map (some hm))).setCell ⟨K, 1, none⟩ (.map (some sm)))).alloc (.cells #[.pointer (some ⟨B, 0, none⟩)] 33)).cell? ⟨w.heap.size + 1 + 1, 0, none⟩ = some (.pointer (some ⟨B, 0, none⟩))) := Lib.hid HGI.out.st.cell
      have hst := HST.out
      have i0 : (((((((w.alloc (.map #[] 0)).alloc (.map #[] 0))).setCell ⟨K, 0, none⟩ (.map (some hm))).setCell ⟨K, 1, none⟩ (.map (some sm)))).alloc (.cells #[.pointer (some ⟨B, 0, none⟩)] 33)).cell? ⟨K, 0, none⟩ = some (.map (some hm)) := cell_of HGI.out.k 0 rfl
      have HPD : Hid (PieceAt (fun k => k ≠ K ∧ k < N0) (((((((w.alloc (.map #[] 0)).alloc (.map #[] 0))).setCell ⟨K, 0, none⟩ (.map (some hm))).setCell ⟨K, 1, none⟩ (.map (some sm)))).alloc (.cells #[.pointer (some ⟨B, 0, none⟩)] 33)).drew tm B) := Lib.hid (HGI.out.p.kept (grown_drewN _ 1 none) (fun r e => by cases e))
      obtain ⟨g, hgg⟩ : ∃ g, g = w.heap.size + 1 + 1 := ⟨_, rfl⟩
      have HGG := Lib.hid hgg
      rw [← hgg] at HGI hst ⊢
      generalize ((((((w.alloc (.map #[] 0)).alloc (.map #[] 0))).setCell ⟨K, 0, none⟩ (.map (some hm))).setCell ⟨K, 1, none⟩ (.map (some sm)))).alloc (.cells #[.pointer (some ⟨B, 0, none⟩)] 33) = wr at *
      clear hgg
      go_wp2
      refine wp_cut (fun a' W1 => a'.defers = [] ∧ a'.tmps.size = 62 ∧ a'.tmps.getD 0 undef = .pointer (some ⟨K, 0, none⟩) ∧ a'.tmps.getD 1 undef = .pointer (some ⟨B, 0, none⟩) ∧ a'.tmps.getD 4 undef = .slice (some ⟨g, 0, none⟩) 0 1 ∧ a'.tmps.getD 40 undef = .bool false ∧ wr.grownBy W1 none) ?_ ?_
      rotate_left
      · intro J5 K5 hJ5 hK5
        refine wp_region_noPanic ?_
        first
        | (go_region_with ((go_at_call 15; ((with_reducible refine (HNM.out wr.drew HPD.out).mono ?_); rintro e w2 ⟨rfl, hg2⟩; have hg := grown_trans (grown_drewN wr 1 none) hg2; have hk2 := KnowIs.keep HK.out hg (fun e => by cases e); have j0 : w2.cell? ⟨K, 0, none⟩ = some (.map (some hm)) := cell_of hk2 0 rfl; have hl2 := HLH.out w2 (MapIs.keep HH.out hg (fun e => by cases e)); have HG2 := Lib.hid hg; clear hg2 hk2 hg))))
        | fail
        all_goals
          refine NoPanic.normal ?_
          exact hK5 _ _ (Met.intro (hJ5 _ _ ⟨rfl, rfl, rfl, rfl, rfl, rfl, HG2.out⟩))
      intro a' W1 hrel
      obtain ⟨hfd, hfs, hf0, hf1, hf4, hf40, hg1⟩ := hrel
      obtain ⟨T, DD⟩ := a'
      obtain rfl : DD = [] := hfd
      obtain ⟨u, hu⟩ : ∃ u : Nat → Value, T = #[u 0, u 1, u 2, u 3, u 4, u 5, u 6, u 7, u 8, u 9, u 10, u 11, u 12, u 13, u 14, u 15, u 16, u 17, u 18, u 19, u 20, u 21, u 22, u 23, u 24, u 25, u 26, u 27, u 28, u 29, u 30, u 31, u 32, u 33, u 34, u 35, u 36, u 37, u 38, u 39, u 40, u 41, u 42, u 43, u 44, u 45, u 46, u 47, u 48, u 49, u 50, u 51, u 52, u 53, u 54, u 55, u 56, u 57, u 58, u 59, u 60, u 61] := ⟨fun i => T.getD i undef, lit_eq T 62 hfs⟩
      subst hu
      have he0 : u 0 = .pointer (some ⟨K, 0, none⟩) := hf0
      have he1 : u 1 = .pointer (some ⟨B, 0, none⟩) := hf1
      have he4 : u 4 = .slice (some ⟨g, 0, none⟩) 0 1 := hf4
      have he40 : u 40 = .bool false := hf40
      clear hfs hf0 hf1 hf4 hf40
      rw [he0, he1, he4, he40]
      clear he0 he1 he4 he40
      have HG1 := Lib.hid hg1
      have hk1 := KnowIs.keep HK.out hg1 (fun e => by cases e)
      have k0 : W1.cell? ⟨K, 0, none⟩ = some (.map (some hm)) := cell_of hk1 0 rfl
      have HPD : Hid (PieceAt (fun k => k ≠ K ∧ k < N0) W1.drew tm B) := Lib.hid (HGI.out.p.kept (grown_trans hg1 (grown_drewN W1 1 none)) (fun r e => by cases e))
      clear hg1 hk1 i0 hst
      go_wp2
      refine wp_cut (fun a' W2 => a'.defers = [] ∧ a'.tmps.size = 62 ∧ a'.tmps.getD 0 undef = .pointer (some ⟨K, 0, none⟩) ∧ a'.tmps.getD 1 undef = .pointer (some ⟨B, 0, none⟩) ∧ a'.tmps.getD 4 undef = .slice (some ⟨g, 0, none⟩) 0 1 ∧ PutIs wr K hm sm [] [] (fun k => k ≠ K ∧ k < N0) tm B g 1 W2) ?_ ?_
      rotate_left
      · intro J5 K5 hJ5 hK5
        refine wp_region_noPanic ?_
        first
        | (go_region_with ((go_at_call 15; ((with_reducible refine (HNM.out W1.drew HPD.out).mono ?_); rintro e w3 ⟨rfl, hg3⟩; have hg := grown_trans (grown_trans HG1.out (grown_drewN W1 1 none)) hg3; have hk3 := KnowIs.keep HK.out hg (fun e => by cases e); have j0 : w3.cell? ⟨K, 0, none⟩ = some (.map (some hm)) := cell_of hk3 0 rfl; obtain ⟨w9, hput, hm9, hg9⟩ := HPUT.out w3 (MapIs.keep HH.out hg (fun e => by cases e)); have HG3 := Lib.hid hg; have HM9 := Lib.hid hm9; have HG9 := Lib.hid hg9; clear hg3 hk3 hm9 hg9 hg))))
        | fail
        all_goals
          refine NoPanic.normal ?_
          exact hK5 _ _ (Met.intro (hJ5 _ _ ⟨rfl, rfl, rfl, rfl, rfl, put_is HGI.out HSH.out HOK.out ((Kept.of_grown HG3.out).trans (Kept.of_grown HG9.out) (fun k _ hk => hk.elim (fun e => by cases e) (fun e => by cases e; rfl))) HM9.out⟩))
      intro a' W2 hrel
      obtain ⟨hfd, hfs, hf0, hf1, hf4, hput⟩ := hrel
      obtain ⟨T, DD⟩ := a'
      obtain rfl : DD = [] := hfd
      obtain ⟨u, hu⟩ : ∃ u : Nat → Value, T = #[u 0, u 1, u 2, u 3, u 4, u 5, u 6, u 7, u 8, u 9, u 10, u 11, u 12, u 13, u 14, u 15, u 16, u 17, u 18, u 19, u 20, u 21, u 22, u 23, u 24, u 25, u 26, u 27, u 28, u 29, u 30, u 31, u 32, u 33, u 34, u 35, u 36, u 37, u 38, u 39, u 40, u 41, u 42, u 43, u 44, u 45, u 46, u 47, u 48, u 49, u 50, u 51, u 52, u 53, u 54, u 55, u 56, u 57, u 58, u 59, u 60, u 61] := ⟨fun i => T.getD i undef, lit_eq T 62 hfs⟩
      subst hu
      have he0 : u 0 = .pointer (some ⟨K, 0, none⟩) := hf0
      have he1 : u 1 = .pointer (some ⟨B, 0, none⟩) := hf1
      have he4 : u 4 = .slice (some ⟨g, 0, none⟩) 0 1 := hf4
      clear hfs hf0 hf1 hf4
      rw [he0, he1, he4]
      clear he0 he1 he4
      have HPI := Lib.hid hput
      have HK2 := Lib.hid hput.k
      have HS2 := Lib.hid hput.s
      have k1 : W2.cell? ⟨K, 1, none⟩ = some (.map (some sm)) := cell_of hput.k 1 rfl
      have HPD : Hid (PieceAt (fun k => k ≠ K ∧ k < N0) W2.drew tm B) := Lib.hid (hput.p.kept (grown_drewN W2 1 none) (fun r e => by cases e))
      clear hput k0
      go_wp2
      refine wp_cut (fun a' W5 => a'.defers = [] ∧ a'.tmps.size = 62 ∧ a'.tmps.getD 0 undef = .pointer (some ⟨K, 0, none⟩) ∧ a'.tmps.getD 1 undef = .pointer (some ⟨B, 0, none⟩) ∧ a'.tmps.getD 4 undef = .slice (some ⟨g, 0, none⟩) 0 1 ∧ PutIs wr K hm sm [] [] (fun k => k ≠ K ∧ k < N0) tm B g 1 W5) ?_ ?_
      rotate_left
      · intro J5 K5 hJ5 hK5
        refine wp_region_noPanic ?_
        go_region_law (first | ((refine step_append_none (by rfl) _ _ 40 (by rfl) 0 33 ip 1 Try.underlying40 hp0 (.slice (some ⟨g, 0, none⟩) 0 1) 0 [] (by rfl) (HROW.out) (by rfl) ?_)) | (go_simp; (first | ((go_at_call 15; ((with_reducible refine (HNM.out W2.drew HPD.out).mono ?_); rintro e w4 ⟨rfl, hg4⟩; have hg := grown_trans (grown_drewN W2 1 none) hg4; have hk4 := KnowIs.keep HK2.out hg (fun e => by cases e); have j1 : w4.cell? ⟨K, 1, none⟩ = some (.map (some sm)) := cell_of hk4 1 rfl; have hl4 := HLS.out w4 (MapIs.keep HS2.out hg (fun e => by cases e)); have HG4 := Lib.hid hg; clear hg4 hk4 hg))) | ((go_at_call 19; ((with_reducible refine (kreach_nil _).mono ?_); rintro e w5 ⟨rfl, hg5⟩; have HG5 := Lib.hid (grown_trans HG4.out hg5); have HROW := Lib.hid ((PutIs.grown HPI.out HG5.out).st.row); clear hg5))))) | (first | ((go_at_call 15; ((with_reducible refine (HNM.out W2.drew HPD.out).mono ?_); rintro e w4 ⟨rfl, hg4⟩; have hg := grown_trans (grown_drewN W2 1 none) hg4; have hk4 := KnowIs.keep HK2.out hg (fun e => by cases e); have j1 : w4.cell? ⟨K, 1, none⟩ = some (.map (some sm)) := cell_of hk4 1 rfl; have hl4 := HLS.out w4 (MapIs.keep HS2.out hg (fun e => by cases e)); have HG4 := Lib.hid hg; clear hg4 hk4 hg))) | ((go_at_call 19; ((with_reducible refine (kreach_nil _).mono ?_); rintro e w5 ⟨rfl, hg5⟩; have HG5 := Lib.hid (grown_trans HG4.out hg5); have HROW := Lib.hid ((PutIs.grown HPI.out HG5.out).st.row); clear hg5)))))
        all_goals
          refine NoPanic.normal ?_
          exact hK5 _ _ (Met.intro (hJ5 _ _ ⟨rfl, rfl, rfl, rfl, rfl, PutIs.grown HPI.out HG5.out⟩))
      intro a' W5 hrel
      obtain ⟨hfd, hfs, hf0, hf1, hf4, hput⟩ := hrel
      obtain ⟨T, DD⟩ := a'
      obtain rfl : DD = [] := hfd
      obtain ⟨u, hu⟩ : ∃ u : Nat → Value, T = #[u 0, u 1, u 2, u 3, u 4, u 5, u 6, u 7, u 8, u 9, u 10, u 11, u 12, u 13, u 14, u 15, u 16, u 17, u 18, u 19, u 20, u 21, u 22, u 23, u 24, u 25, u 26, u 27, u 28, u 29, u 30, u 31, u 32, u 33, u 34, u 35, u 36, u 37, u 38, u 39, u 40, u 41, u 42, u 43, u 44, u 45, u 46, u 47, u 48, u 49, u 50, u 51, u 52, u 53, u 54, u 55, u 56, u 57, u 58, u 59, u 60, u 61] := ⟨fun i => T.getD i undef, lit_eq T 62 hfs⟩
      subst hu
      have he0 : u 0 = .pointer (some ⟨K, 0, none⟩) := hf0
      have he1 : u 1 = .pointer (some ⟨B, 0, none⟩) := hf1
      have he4 : u 4 = .slice (some ⟨g, 0, none⟩) 0 1 := hf4
      clear hfs hf0 hf1 hf4
      rw [he0, he1, he4]
      clear he0 he1 he4
      have HPI := Lib.hid hput
      have hge : w.heap.size + 1 + 1 ≤ g := by have := HGG.out; omega
      have HW5 := Lib.hid (HWI.out wr g W5 HGK.out hge hput)
      clear hput k1
      go_wp2_with (first | (go_at_call 20; ((with_reducible refine HW5.out.mono ?_); rintro e w6 ⟨rfl, hR, cur, hst6, hcs⟩; have HR6 := Lib.hid hR; have HROW6 := Lib.hid (row_zero (c := 1) hst6 hcs (by decide)); clear hR hst6 hcs)) | (at_builtin; refine wpList_append_own_none rfl _ _ 40 rfl 0 33 ip 1 Try.underlying40 hp0 (.slice (some ⟨g, 0, none⟩) 0 1) 0 [] rfl HROW6.out rfl ?_) | fail)
      have e := HGG.out
      subst e
      first | go_step3 | skip
      exact jump_back (HJ.out 0 _ _ (by omega) ⟨Nat.zero_le _, rfl, rfl, rfl, rfl, .inr ⟨rfl, HR6.out⟩⟩)
    · go_wp2
      refine jump_ret ?_
      exact bodyPost_ret (results_none rfl _ _ _) rfl ⟨⟨_, rfl⟩, hR⟩
end Go.Proofs.Yteiadbiopcidmaa
