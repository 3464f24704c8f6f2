/- know: a new spot. -/
import Derived.Test.YteiadbiopcidmaaKnow10
import Derived.Deep.Cut
namespace Go.Proofs.Yteiadbiopcidmaa
set_option linter.unusedVariables false
set_option linter.unusedSimpArgs false
set_option maxRecDepth 100000
open Go.RowKit

def NewSpot (w : World) (sm : Nat) (Sp : List (Name × Nat)) (x : Name) (md : Bool) (Bn : Nat) (W : World) : Prop :=
  Kept (fun k => k = sm) w W ∧ w.heap.size ≤ Bn ∧ SpotIs W Bn md (.slice none 0 0) (.slice none 0 0) ∧ MapIs ptrV W sm (Sp ++ [(x, Bn)])
set_option maxHeartbeats 8000000 in
theorem kspot_new (md : Bool) (J : Nat → Value → Nat → World → Prop) (tm : Tm) (h5 : tm.kind = 5 → tm.parts ≠ []) (B : Nat) (ok : Nat → Prop) (w : World) (h : PieceAt ok w tm B) (K hm sm : Nat) (Hd : List (Name × Bool)) (Sp : List (Name × Nat)) (hk : KnowIs w K (.map (some hm)) (.map (some sm))) (hh : MapIs Value.bool w hm Hd) (hs : MapIs ptrV w sm Sp)
    (hl : lookL Sp (nameOf tm) = none) (hl2 : lookL Hd (nameOf tm) = if md then some true else none) (h6 : tm.kind = 6 → tm.parts.length = 2) (hoks : ∀ k, ok k → k ≠ sm)
    (hstart : md = false → ∀ Bn W0 W v, NewSpot w sm Sp (nameOf tm) false Bn W0 → W0.grownBy W none → WaysAt (OrNew ok W0.heap.size) W v (waysOf tm) → J Bn v 0 W)
    (hstep : md = false → ∀ Bn v i ts W, (waysOf tm)[i]? = some ts → J Bn v i W → ∃ g c pa pn pc, v = .slice (some ⟨g, 0, none⟩) (waysOf tm).length c ∧ W.cell? ⟨g, i, none⟩ = some (.slice pa pn pc) ∧
      Calls Try.prog 23 #[.pointer (some ⟨K, 0, none⟩), .pointer (some ⟨Bn, 0, none⟩), .slice pa pn pc] W fun e W' => (∃ x, e = .returned x) ∧ J Bn v (i + 1) W') :
    Calls Try.prog 14 #[.pointer (some ⟨K, 0, none⟩), .pointer (some ⟨B, 0, none⟩)] w fun e w' => ∃ Bn, e = .returned (ptrV Bn) ∧ if md then NewSpot w sm Sp (nameOf tm) true Bn w' else ∃ v, J Bn v (waysOf tm).length w' := by
  obtain ⟨nv, hnv⟩ : ∃ nv, nameV (nameOf tm) = nv := ⟨_, rfl⟩
  have HNM : Hid (∀ w, PieceAt ok w tm B → Calls Try.prog 15 #[.pointer (some ⟨B, 0, none⟩)] w fun e w' => e = .returned nv ∧ w.grownBy w' none) := Lib.hid (fun w h => by
    have := kname_any tm h5 B ok w h
    rw [hnv] at this; exact this)
  have HLK : Hid (∀ w, MapIs ptrV w sm Sp → (Instr.lookup 36 (.map (some sm)) nv true).run Try.prog w = .ok (.tuple #[.pointer none, .bool false]) w) := Lib.hid (fun w h => by
    rw [← hnv]; exact look_out ptrV w sm _ _ Try.underlying36 Sp (nameOf tm) _ true (zero_spot w) h hl)
  have HLH : Hid (∀ w, MapIs Value.bool w hm Hd → (Instr.lookup 35 (.map (some hm)) nv false).run Try.prog w = .ok (.bool md) w) := Lib.hid (fun w h => by
    rw [← hnv]
    cases md with
    | true => exact look_in Value.bool w hm _ _ Try.underlying35 Hd (nameOf tm) true false h hl2
    | false => exact look_out Value.bool w hm _ _ Try.underlying35 Hd (nameOf tm) (.bool false) false (zero_bool w) h hl2)
  have HPUT : Hid (∀ w Bn, MapIs ptrV w sm Sp → ∃ w', (Instr.mapUpdate 36 (.map (some sm)) nv (.pointer (some ⟨Bn, 0, none⟩))).run Try.prog w = .ok () w' ∧ MapIs ptrV w' sm (Sp ++ [(nameOf tm, Bn)]) ∧ w.grownBy w' (some sm)) := Lib.hid (fun w Bn h => by
    rw [← hnv]; exact put_new ptrV w sm _ _ Try.underlying36 Sp (nameOf tm) Bn h hl)
  have HPD : Hid (PieceAt ok w.drew tm B) := Lib.hid (h.kept (grown_drewN w 1 none) (fun r e => by cases e))
  have HP := Lib.hid h
  have HK := Lib.hid hk
  have HH := Lib.hid hh
  have HS := Lib.hid hs
  have hsmlt : sm < w.heap.size := (Array.getElem?_eq_some_iff.1 hs).1
  have i0 : w.cell? ⟨K, 0, none⟩ = some (.map (some hm)) := cell_of hk 0 rfl
  have i1 : w.cell? ⟨K, 1, none⟩ = some (.map (some sm)) := cell_of hk 1 rfl
  have HWY : Hid (∀ w ok, PieceAt ok w tm B → Calls Try.prog 22 #[.pointer (some ⟨B, 0, none⟩)] w (WaysOK ok w (waysOf tm))) := Lib.hid (fun w ok h => kways_any tm h6 B ok w h)
  have HST := Lib.hid hstart
  have HSP := Lib.hid hstep
  have HOK := Lib.hid hoks
  clear h hk hs hh hl hl2 hnv h5 h6 hstart hstep hoks
  go_enter Try.func14, Try.ntmps14
  go_wp2
  refine wp_cut (fun a' W1 => a'.defers = [] ∧ a'.tmps.size = 56 ∧ a'.tmps.getD 0 undef = .pointer (some ⟨K, 0, none⟩) ∧ a'.tmps.getD 1 undef = .pointer (some ⟨B, 0, none⟩) ∧ a'.tmps.getD 6 undef = .bool false ∧ w.grownBy W1 none) ?_ ?_
  rotate_left
  · intro J5 K5 hJ5 hK5
    refine wp_region_noPanic ?_
    first
    | (go_region_with ((go_at_call 15; ((with_reducible refine (HNM.out w.drew HPD.out).mono ?_); rintro e w2 ⟨rfl, hg2⟩; have hk2 := KnowIs.keep HK.out (grown_trans (grown_drewN w 1 none) hg2) (fun e => by cases e); have j0 : w2.cell? ⟨K, 0, none⟩ = some (.map (some hm)) := cell_of hk2 0 rfl; have j1 : w2.cell? ⟨K, 1, none⟩ = some (.map (some sm)) := cell_of hk2 1 rfl; have hl2 := HLK.out w2 (MapIs.keep HS.out (grown_trans (grown_drewN w 1 none) hg2) (fun e => by cases e)); have HG2 := Lib.hid (grown_trans (grown_drewN w 1 none) hg2); clear hg2 hk2))))
    | fail
    all_goals
      refine NoPanic.normal ?_
      exact hK5 _ _ (Met.intro (hJ5 _ _ ⟨rfl, rfl, rfl, rfl, rfl, HG2.out⟩))
  intro a' W1 hrel
  obtain ⟨hfd, hfs, hf0, hf1, hf6, hg1⟩ := hrel
  obtain ⟨T, DD⟩ := a'
  obtain rfl : DD = [] := hfd
  obtain ⟨u, hu⟩ : ∃ u : Nat → Value, T = #[u 0, u 1, u 2, u 3, u 4, u 5, u 6, u 7, u 8, u 9, u 10, u 11, u 12, u 13, u 14, u 15, u 16, u 17, u 18, u 19, u 20, u 21, u 22, u 23, u 24, u 25, u 26, u 27, u 28, u 29, u 30, u 31, u 32, u 33, u 34, u 35, u 36, u 37, u 38, u 39, u 40, u 41, u 42, u 43, u 44, u 45, u 46, u 47, u 48, u 49, u 50, u 51, u 52, u 53, u 54, u 55] := ⟨fun i => T.getD i undef, lit_eq T 56 hfs⟩
  subst hu
  have he0 : u 0 = .pointer (some ⟨K, 0, none⟩) := hf0
  have he1 : u 1 = .pointer (some ⟨B, 0, none⟩) := hf1
  have he6 : u 6 = .bool false := hf6
  clear hfs hf0 hf1 hf6
  rw [he0, he1, he6]
  clear he0 he1 he6
  have HG1 := Lib.hid hg1
  have hk1 := KnowIs.keep HK.out hg1 (fun e => by cases e)
  have HPD : Hid (PieceAt ok W1.drew tm B) := Lib.hid ((HP.out.kept hg1 (fun r e => by cases e)).kept (grown_drewN W1 1 none) (fun r e => by cases e))
  have k0 : W1.cell? ⟨K, 0, none⟩ = some (.map (some hm)) := cell_of hk1 0 rfl
  have k1 : W1.cell? ⟨K, 1, none⟩ = some (.map (some sm)) := cell_of hk1 1 rfl
  clear hg1 hk1 i0 i1
  go_wp2
  refine wp_cut (fun a' W2 => ∃ Bn, a'.defers = [] ∧ a'.tmps.size = 56 ∧ a'.tmps.getD 0 undef = .pointer (some ⟨K, 0, none⟩) ∧ a'.tmps.getD 1 undef = .pointer (some ⟨B, 0, none⟩) ∧ a'.tmps.getD 7 undef = .pointer (some ⟨Bn, 0, none⟩) ∧ w.grownBy W2 none ∧ w.heap.size ≤ Bn ∧ SpotIs W2 Bn md (.slice none 0 0) (.slice none 0 0)) ?_ ?_
  rotate_left
  · intro J5 K5 hJ5 hK5
    refine wp_region_noPanic ?_
    first
    | (go_region_with ((go_at_call 15; ((with_reducible refine (HNM.out W1.drew HPD.out).mono ?_); rintro e w2 ⟨rfl, hg2⟩; have hk2 := KnowIs.keep HK.out (grown_trans (grown_trans HG1.out (grown_drewN W1 1 none)) hg2) (fun e => by cases e); have j0 : w2.cell? ⟨K, 0, none⟩ = some (.map (some hm)) := cell_of hk2 0 rfl; have j1 : w2.cell? ⟨K, 1, none⟩ = some (.map (some sm)) := cell_of hk2 1 rfl; have hl2 := HLH.out w2 (MapIs.keep HH.out (grown_trans (grown_trans HG1.out (grown_drewN W1 1 none)) hg2) (fun e => by cases e)); have HG2 := Lib.hid (grown_trans (grown_trans HG1.out (grown_drewN W1 1 none)) hg2); clear hg2 hk2))))
    | fail
    all_goals
      refine NoPanic.normal ?_
      exact hK5 _ _ (Met.intro (hJ5 _ _ ⟨_, rfl, rfl, rfl, rfl, rfl, grown_trans HG2.out (World.grownBy_alloc _ _ none), HG2.out.size, heap_alloc_new w2 _⟩))
  intro a' W2 hrel
  obtain ⟨Bn, hfd, hfs, hf0, hf1, hf7, hg2, hBn, hsp⟩ := hrel
  obtain ⟨T, DD⟩ := a'
  obtain rfl : DD = [] := hfd
  obtain ⟨u, hu⟩ : ∃ u : Nat → Value, T = #[u 0, u 1, u 2, u 3, u 4, u 5, u 6, u 7, u 8, u 9, u 10, u 11, u 12, u 13, u 14, u 15, u 16, u 17, u 18, u 19, u 20, u 21, u 22, u 23, u 24, u 25, u 26, u 27, u 28, u 29, u 30, u 31, u 32, u 33, u 34, u 35, u 36, u 37, u 38, u 39, u 40, u 41, u 42, u 43, u 44, u 45, u 46, u 47, u 48, u 49, u 50, u 51, u 52, u 53, u 54, u 55] := ⟨fun i => T.getD i undef, lit_eq T 56 hfs⟩
  subst hu
  have he0 : u 0 = .pointer (some ⟨K, 0, none⟩) := hf0
  have he1 : u 1 = .pointer (some ⟨B, 0, none⟩) := hf1
  have he7 : u 7 = .pointer (some ⟨Bn, 0, none⟩) := hf7
  clear hfs hf0 hf1 hf7
  rw [he0, he1, he7]
  clear he0 he1 he7
  have HG2 := Lib.hid hg2
  have HSPT := Lib.hid hsp
  have hk2 := KnowIs.keep HK.out hg2 (fun e => by cases e)
  have HPD : Hid (PieceAt ok W2.drew tm B) := Lib.hid ((HP.out.kept hg2 (fun r e => by cases e)).kept (grown_drewN W2 1 none) (fun r e => by cases e))
  have m0 : W2.cell? ⟨K, 0, none⟩ = some (.map (some hm)) := cell_of hk2 0 rfl
  have m1 : W2.cell? ⟨K, 1, none⟩ = some (.map (some sm)) := cell_of hk2 1 rfl
  clear hg2 hk2 hsp k0 k1
  go_wp2
  refine wp_cut (fun a' W3 => a'.defers = [] ∧ a'.tmps.size = 56 ∧ a'.tmps.getD 0 undef = .pointer (some ⟨K, 0, none⟩) ∧ a'.tmps.getD 1 undef = .pointer (some ⟨B, 0, none⟩) ∧ a'.tmps.getD 7 undef = .pointer (some ⟨Bn, 0, none⟩) ∧ NewSpot w sm Sp (nameOf tm) md Bn W3) ?_ ?_
  rotate_left
  · intro J5 K5 hJ5 hK5
    refine wp_region_noPanic ?_
    first
    | (go_region_with ((go_at_call 15; ((with_reducible refine (HNM.out W2.drew HPD.out).mono ?_); rintro e w3 ⟨rfl, hg3⟩; have hk3 := KnowIs.keep HK.out (grown_trans (grown_trans HG2.out (grown_drewN W2 1 none)) hg3) (fun e => by cases e); have j0 : w3.cell? ⟨K, 0, none⟩ = some (.map (some hm)) := cell_of hk3 0 rfl; have j1 : w3.cell? ⟨K, 1, none⟩ = some (.map (some sm)) := cell_of hk3 1 rfl; obtain ⟨w9, hput, hm9, hg9⟩ := HPUT.out w3 Bn (MapIs.keep HS.out (grown_trans (grown_trans HG2.out (grown_drewN W2 1 none)) hg3) (fun e => by cases e)); have HG3 := Lib.hid (grown_trans (grown_drewN W2 1 none) hg3); have HM9 := Lib.hid hm9; have HG9 := Lib.hid hg9; clear hg3 hk3 hm9 hg9))))
    | fail
    all_goals
      refine NoPanic.normal ?_
      refine hK5 _ _ (Met.intro (hJ5 _ _ ⟨rfl, rfl, rfl, rfl, rfl, ?_⟩))
      refine ⟨(Kept.of_grown (grown_trans HG2.out HG3.out)).trans (Kept.of_grown HG9.out) (fun k _ hk => hk.elim (fun e => by cases e) (fun e => by cases e; rfl)), hBn, ?_, HM9.out⟩
      exact keep_far (keep_far HSPT.out HG3.out (fun e => by cases e)) HG9.out (fun e => by cases e; omega)
  intro a' W3 hrel
  obtain ⟨hfd, hfs, hf0, hf1, hf7, hnew⟩ := hrel
  obtain ⟨T, DD⟩ := a'
  obtain rfl : DD = [] := hfd
  obtain ⟨u, hu⟩ : ∃ u : Nat → Value, T = #[u 0, u 1, u 2, u 3, u 4, u 5, u 6, u 7, u 8, u 9, u 10, u 11, u 12, u 13, u 14, u 15, u 16, u 17, u 18, u 19, u 20, u 21, u 22, u 23, u 24, u 25, u 26, u 27, u 28, u 29, u 30, u 31, u 32, u 33, u 34, u 35, u 36, u 37, u 38, u 39, u 40, u 41, u 42, u 43, u 44, u 45, u 46, u 47, u 48, u 49, u 50, u 51, u 52, u 53, u 54, u 55] := ⟨fun i => T.getD i undef, lit_eq T 56 hfs⟩
  subst hu
  have he0 : u 0 = .pointer (some ⟨K, 0, none⟩) := hf0
  have he1 : u 1 = .pointer (some ⟨B, 0, none⟩) := hf1
  have he7 : u 7 = .pointer (some ⟨Bn, 0, none⟩) := hf7
  clear hfs hf0 hf1 hf7
  rw [he0, he1, he7]
  clear he0 he1 he7
  have HNEW := Lib.hid hnew
  have n0 : W3.cell? ⟨Bn, 0, none⟩ = some (.bool md) := cell_of hnew.2.2.1 0 rfl
  clear hnew m0 m1
  cases md with
  | true =>
    go_wp2
    go_ret
    exact ⟨Bn, rfl, HNEW.out⟩
  | false =>
    obtain ⟨n, hn⟩ : ∃ n, (waysOf tm).length = n := ⟨_, rfl⟩
    have HSP2 := HSP.out rfl Bn
    have HST2 := Lib.hid (HST.out rfl Bn W3)
    have HN : Hid (∀ k, k < n → ∃ ts, (waysOf tm)[k]? = some ts) := Lib.hid (fun k hk => ⟨_, List.getElem?_eq_getElem (by omega)⟩)
    have HP3 : Hid (PieceAt ok W3 tm B) := Lib.hid (HP.out.keep HNEW.out.1 HOK.out)
    rw [hn] at HSP2
    have HLN := Lib.hid hn
    have HSP3 := Lib.hid HSP2
    clear HSP HST hn HSP2
    go_wp2_with (first | (go_at_call 22; ((with_reducible refine (HWY.out W3 ok HP3.out).mono ?_); rintro e W4 ⟨v, rfl, hwa, hg4⟩; obtain ⟨wa, wc, rfl, hw1, hw2, hw3⟩ := hwa; have HJ0 := Lib.hid (HST2.out W4 _ HNEW.out hg4 ⟨wa, wc, rfl, hw1, hw2, hw3⟩); rw [HLN.out] at hw1 HJ0 ⊢; clear hw3 hg4; unfold maxLen at hw2)) | fail)
    go_loopw [46] (fun i wr => ∃ k : Nat, i = .int .i64 k ∧ k ≤ n ∧ J Bn (.slice wa n wc) k wr) (fun i _ => n - (intOf i).toNat)
    case atStart => exact ⟨0, rfl, Nat.zero_le _, HJ0.out⟩
    case round =>
      obtain ⟨k, rfl, hk, hj⟩ := hrel
      by_cases hlt : k < n
      · obtain ⟨ts, hts⟩ := HN.out k hlt
        obtain ⟨g, c, pa, pn, pc, e, hc, hcall⟩ := HSP3.out _ k ts wr hts hj
        cases e
        have HC := Lib.hid hcall
        have hk0 : (0 : Int) ≤ k := by omega
        have hk1 : (k : Int) < n := by omega
        clear hts hj hcall
        go_wp2_with (first | (go_at_call 23; ((with_reducible refine HC.out.mono ?_); rintro e w5 ⟨⟨x, rfl⟩, hj5⟩)) | fail)
        go_roundw
        case rel => exact ⟨k + 1, by go_num, by omega, hj5⟩
        case measure => simp [intOf]; omega
      · have e : k = n := by omega
        subst e
        have HJK := Lib.hid hj
        clear hj
        go_wp2
        go_ret
        exact ⟨Bn, rfl, _, by rw [HLN.out]; exact HJK.out⟩
end Go.Proofs.Yteiadbiopcidmaa
