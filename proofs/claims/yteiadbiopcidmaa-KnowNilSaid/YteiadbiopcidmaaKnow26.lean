/- know: grow of a term by which one other opens. -/
import Derived.Test.YteiadbiopcidmaaKnow25
namespace Go.Proofs.Yteiadbiopcidmaa
set_option linter.unusedVariables false
set_option linter.unusedSimpArgs false
set_option maxRecDepth 100000
open Go.RowKit
theorem chain_hm {w W : World} {A st Kb gw cw gs cs b2 c hm : Nat} {m : Bool} {Hd : List (Name × Bool)} (h : Chain w A st Kb gw cw gs cs b2 c m) (hh : MapIs Value.bool w hm Hd) (hk : Kept (fun k => k = hm) w W) : Chain W A st Kb gw cw gs cs b2 c m :=
  ⟨hk.at h.a (cells_map h.a hh), hk.at h.s (cells_map h.s hh), hk.at h.k (cells_map h.k hh), own_keep h.wr hk (fun k e e2 => row_map hh h.wr (by rw [e, e2])), own_keep h.sr hk (fun k e e2 => row_map hh h.sr (by rw [e, e2]))⟩
theorem stack_of_row {w : World} {g c b : Nat} (h : w.ownsRow 0 33 1 (.slice (some ⟨g, 0, none⟩) 1 c) 1 [ptrV b]) : StackAt w g c b := by
  rcases h.2 with ⟨e1, _⟩ | ⟨g', cap, cur, e1, _, hg, h1, h2, h3, htk⟩
  · cases e1
  · cases e1
    refine ⟨cur, hg, by simpa using h3, h2, ?_⟩
    have : (cur.toList.take (1 * 1))[0]? = some (ptrV b) := by rw [htk]; rfl
    rw [List.getElem?_take] at this
    split at this
    · simpa using this
    · cases this
theorem StackAt.row1 {w : World} {g c b : Nat} (h : StackAt w g c b) (hc : 1 ≤ c) : w.ownsRow 0 33 1 (.slice (some ⟨g, 0, none⟩) 1 c) 1 [ptrV b] := by
  obtain ⟨cur, h1, h2, h3, h4⟩ := h
  refine ⟨rfl, .inr ⟨g, c, cur, rfl, Nat.zero_le _, h1, hc, h3, by simpa using h2, ?_⟩⟩
  obtain ⟨l⟩ := cur
  cases l with
  | nil => simp at h4
  | cons x r => simp at h4; subst h4; rfl
theorem StackAt.pos {w : World} {g c b : Nat} (h : StackAt w g c b) : 1 ≤ c := by
  obtain ⟨cur, _, h2, _, h4⟩ := h
  have := (Array.getElem?_eq_some_iff.1 h4).1
  omega
def S4 (hm A st Kb : Nat) : Nat → Prop := fun k => k = hm ∨ k = A ∨ k = st ∨ k = Kb
theorem know_stack {w : World} {K g c b : Nat} {hv sv : Value} (h : KnowIs w K hv sv) (h2 : StackAt w g c b) : K ≠ g := by
  intro e; subst e
  obtain ⟨cur, h1, _⟩ := h2
  unfold KnowIs at h
  rw [h] at h1
  have := Option.some.inj h1
  simp at this
/-- behind reach and append -/
theorem two_after {w wr W2 w4 w5 w7 : World} {K hm sm A st Kb gw cw gs cs b2 B g g7 cp : Nat} {Hd : List (Name × Bool)} {Sp : List (Name × Nat)} {ok ok2 : Nat → Prop} {tm1 tm2 : Tm}
    (hgk : Kept (fun _ => False) w wr) (hh : MapIs Value.bool w hm Hd) (hs : MapIs ptrV w sm Sp) (hk : KnowIs w K (.map (some hm)) (.map (some sm))) (hch : Chain w A st Kb gw cw gs cs b2 1 false) (hsh : sm ≠ hm)
    (hp2 : PieceAt ok2 w tm2 b2) (hok2 : ∀ k, ok2 k → ¬ S4 hm A st Kb k ∧ k < w.heap.size) (hp1 : PieceAt ok w tm1 B) (hok : ∀ k, ok k → ¬ S4 hm A st Kb k ∧ k < w.heap.size)
    (hput : PutIs wr K hm sm Hd Sp ok tm1 B g 1 W2) (hg4 : W2.grownBy w4 none) (hk5 : Kept (fun k => k = A ∨ k = st ∨ k = Kb) w4 w5) (hgw : w.heap.size ≤ g)
    (hgrow : w5.grownBy w7 (some g)) (hrow : w7.ownsRow 0 33 1 (.slice (some ⟨g7, 0, none⟩) 1 cp) 1 [ptrV b2]) (hat : some g = some g7 ∨ g7 = w5.heap.size) :
    GrowIs w7 K hm sm (Hd ++ [(nameOf tm1, true)]) Sp ok2 tm2 b2 g7 cp ∧ PieceAt ok w7 tm1 B ∧ w.heap.size ≤ g7 ∧ Kept (S4 hm A st Kb) w w7 := by
  have k4 : Kept (fun k => k = hm) w w4 := (hgk.trans hput.kept (U := fun k => k = hm) (fun k _ e => e.elim False.elim id)).grown hg4
  have k5 : Kept (S4 hm A st Kb) w w5 := k4.trans hk5 (fun k _ e => e.elim .inl .inr)
  have k7 : Kept (S4 hm A st Kb) w w7 := k5.trans (Kept.of_grown hgrow) (fun k hk e => e.elim id (fun e => by cases e; omega))
  have hAh : A ≠ hm := cells_map hch.a hh
  have hput4 := hput.grown hg4
  have hch4 := chain_hm hch hh k4
  have st5 : StackAt w5 g 1 B := by
    obtain ⟨cur, h1, h2⟩ := hput4.st
    refine ⟨cur, hk5.at h1 ?_, h2⟩
    rintro (e | e | e)
    · subst e; have := hch4.a; unfold SpotIs at this; rw [this] at h1; have := Option.some.inj h1; simp at this
    · subst e; have := hch4.s; unfold StepIs at this; rw [this] at h1; have := Option.some.inj h1; simp at this
    · subst e; have := hch4.k; unfold SpotIs at this; rw [this] at h1; have := Option.some.inj h1; simp at this
  have hmlt : ∀ {x : Nat}, x < w.heap.size → x ≠ g := fun h e => by omega
  have m5 : MapIs Value.bool w5 hm (Hd ++ [(nameOf tm1, true)]) := hk5.at hput4.h (by
    rintro (e | e | e)
    · exact cells_map hch4.a hput4.h e.symm
    · exact cells_map hch4.s hput4.h e.symm
    · exact cells_map hch4.k hput4.h e.symm)
  have n5 : MapIs ptrV w5 sm Sp := hk5.at hput4.s (by
    rintro (e | e | e)
    · exact cells_map hch4.a hput4.s e.symm
    · exact cells_map hch4.s hput4.s e.symm
    · exact cells_map hch4.k hput4.s e.symm)
  have q5 : KnowIs w5 K (.map (some hm)) (.map (some sm)) := hk5.at hput4.k (by
    rintro (e | e | e)
    · subst e; have h1 := hput4.k; have h2 := hch4.a; unfold KnowIs at h1; unfold SpotIs at h2; rw [h1] at h2; have := Option.some.inj h2; simp at this
    · subst e; have h1 := hput4.k; have h2 := hch4.s; unfold KnowIs at h1; unfold StepIs at h2; rw [h1] at h2; have := Option.some.inj h2; simp at this
    · subst e; have h1 := hput4.k; have h2 := hch4.k; unfold KnowIs at h1; unfold SpotIs at h2; rw [h1] at h2; have := Option.some.inj h2; simp at this)
  refine ⟨⟨KnowIs.keep q5 hgrow (fun e => know_stack q5 st5 (by cases e; rfl)), MapIs.keep m5 hgrow (fun e => ?_), MapIs.keep n5 hgrow (fun e => ?_), hp2.keep k7 (fun k h => (hok2 k h).1), stack_of_row hrow⟩, hp1.keep k7 (fun k h => (hok k h).1), ?_, k7⟩
  · obtain ⟨cur, h1, _⟩ := st5
    cases e
    exact cells_map h1 m5 rfl
  · obtain ⟨cur, h1, _⟩ := st5
    cases e
    exact cells_map h1 n5 rfl
  · rcases hat with h | h
    · cases h; exact hgw
    · rw [h]; exact k5.size
set_option maxHeartbeats 16000000 in
theorem kgrow_two (tm1 tm2 : Tm) (h51 : tm1.kind = 5 → tm1.parts ≠ []) (h52 : tm2.kind = 5 → tm2.parts ≠ []) (hn1 : tm1.kind ≠ 10 ∧ tm1.kind ≠ 11) (hn2 : tm2.kind ≠ 10 ∧ tm2.kind ≠ 11) (B b2 : Nat) (ok ok2 : Nat → Prop) (w : World) (K hm sm : Nat) (Hd : List (Name × Bool)) (Sp : List (Name × Nat)) (A st Kb gw cw gs cs : Nat)
    (hk : KnowIs w K (.map (some hm)) (.map (some sm))) (hh : MapIs Value.bool w hm Hd) (hs : MapIs ptrV w sm Sp) (hp : PieceAt ok w tm1 B) (hp2' : PieceAt ok2 w tm2 b2) (hsh : sm ≠ hm) (hok : ∀ k, ok k → ¬ S4 hm A st Kb k ∧ k < w.heap.size) (hok2 : ∀ k, ok2 k → ¬ S4 hm A st Kb k ∧ k < w.heap.size)
    (hl : lookL Hd (nameOf tm1) = none) (hlA : lookL Sp (nameOf tm1) = some A) (hl2 : lookL (Hd ++ [(nameOf tm1, true)]) (nameOf tm2) = none) (hls2 : lookL Sp (nameOf tm2) = none)
    (hch : Chain w A st Kb gw cw gs cs b2 1 false) :
    Calls Try.prog 12 #[.pointer (some ⟨K, 0, none⟩), .pointer (some ⟨B, 0, none⟩)] w fun e W => (∃ x, e = .returned x) ∧ KnowIs W K (.map (some hm)) (.map (some sm)) ∧ MapIs Value.bool W hm ((Hd ++ [(nameOf tm1, true)]) ++ [(nameOf tm2, true)]) ∧ Kept (S4 hm A st Kb) w W := by
  obtain ⟨ip, hp0, hpz, hp1, hp2⟩ := info_parts Try.infoPc
  obtain ⟨nv, hnv⟩ : ∃ nv, nameV (nameOf tm1) = nv := ⟨_, rfl⟩
  obtain ⟨nu, hnu⟩ : ∃ nv, nameV (nameOf tm2) = nv := ⟨_, rfl⟩
  have HNM : Hid (∀ w, PieceAt ok w tm1 B → Calls Try.prog 15 #[.pointer (some ⟨B, 0, none⟩)] w fun e w' => e = .returned nv ∧ w.grownBy w' none) := Lib.hid (fun w h => by
    have := kname_any tm1 h51 B ok w h
    rw [hnv] at this; exact this)
  have HNN : Hid (∀ w, PieceAt ok2 w tm2 b2 → Calls Try.prog 15 #[.pointer (some ⟨b2, 0, none⟩)] w fun e w' => e = .returned nu ∧ w.grownBy w' none) := Lib.hid (fun w h => by
    have := kname_any tm2 h52 b2 ok2 w h
    rw [hnu] at this; exact this)
  have HLH : Hid (∀ w, MapIs Value.bool w hm Hd → (Instr.lookup 35 (.map (some hm)) nv false).run Try.prog w = .ok (.bool false) w) := Lib.hid (fun w h => by
    rw [← hnv]
    exact look_out Value.bool w hm _ _ Try.underlying35 Hd (nameOf tm1) (.bool false) false (zero_bool w) h hl)
  have HMH : Hid (∀ w, MapIs Value.bool w hm (Hd ++ [(nameOf tm1, true)]) → (Instr.lookup 35 (.map (some hm)) nu false).run Try.prog w = .ok (.bool false) w) := Lib.hid (fun w h => by
    rw [← hnu]
    exact look_out Value.bool w hm _ _ Try.underlying35 _ (nameOf tm2) (.bool false) false (zero_bool w) h hl2)
  have HLS : Hid (∀ w, MapIs ptrV w sm Sp → (Instr.lookup 36 (.map (some sm)) nv false).run Try.prog w = .ok (.pointer (some ⟨A, 0, none⟩)) w) := Lib.hid (fun w h => by
    rw [← hnv]; exact look_in ptrV w sm _ _ Try.underlying36 Sp (nameOf tm1) A false h hlA)
  have HMS : Hid (∀ w, MapIs ptrV w sm Sp → (Instr.lookup 36 (.map (some sm)) nu false).run Try.prog w = .ok (.pointer none) w) := Lib.hid (fun w h => by
    rw [← hnu]; exact look_out ptrV w sm _ _ Try.underlying36 Sp (nameOf tm2) _ false (zero_spot w) h hls2)
  have HPUT : Hid (∀ w, MapIs Value.bool w hm Hd → ∃ w', (Instr.mapUpdate 35 (.map (some hm)) nv (.bool true)).run Try.prog w = .ok () w' ∧ MapIs Value.bool w' hm (Hd ++ [(nameOf tm1, true)]) ∧ w.grownBy w' (some hm)) := Lib.hid (fun w h => by
    rw [← hnv]; exact put_new Value.bool w hm _ _ Try.underlying35 Hd (nameOf tm1) true h hl)
  have HQUT : Hid (∀ w, MapIs Value.bool w hm (Hd ++ [(nameOf tm1, true)]) → ∃ w', (Instr.mapUpdate 35 (.map (some hm)) nu (.bool true)).run Try.prog w = .ok () w' ∧ MapIs Value.bool w' hm ((Hd ++ [(nameOf tm1, true)]) ++ [(nameOf tm2, true)]) ∧ w.grownBy w' (some hm)) := Lib.hid (fun w h => by
    rw [← hnu]; exact put_new Value.bool w hm _ _ Try.underlying35 _ (nameOf tm2) true h hl2)
  have HSH := Lib.hid hsh
  have HOK1 := Lib.hid hok
  have HOK2 := Lib.hid hok2
  have HOK : Hid (∀ k, ok k → k ≠ hm) := Lib.hid (fun k h e => (hok k h).1 (.inl e))
  have HOL : Hid (∀ k, ok2 k → k ≠ hm) := Lib.hid (fun k h e => (hok2 k h).1 (.inl e))
  have HH0 := Lib.hid hh
  have HS0 := Lib.hid hs
  have HK0 := Lib.hid hk
  have HCH0 := Lib.hid hch
  have HP1 := Lib.hid hp
  have HP2 := Lib.hid hp2'
  have HN1 := Lib.hid hn1
  have HN2 := Lib.hid hn2
  have HCH : Hid (∀ W, Kept (fun k => k = hm) w W → Chain W A st Kb gw cw gs cs b2 1 false) := Lib.hid (fun W h => chain_hm hch hh h)
  have i0 : w.cell? ⟨K, 0, none⟩ = some (.map (some hm)) := cell_of hk 0 rfl
  have HGI0 : Hid (GrowIs (w.alloc (.cells #[.pointer (some ⟨B, 0, none⟩)] 33)) K hm sm Hd Sp ok tm1 B w.heap.size 1) := Lib.hid ⟨keep_alloc hk _, keep_alloc hh _, keep_alloc hs _, hp.kept (World.grownBy_alloc w _ none) (fun r e => by cases e), ⟨_, heap_alloc_new w _, rfl, by decide, rfl⟩⟩
  have HGK0 : Hid (Kept (fun _ => False) w (w.alloc (.cells #[.pointer (some ⟨B, 0, none⟩)] 33))) := Lib.hid (Kept.mono (Kept.of_grown (World.grownBy_alloc w (.cells #[.pointer (some ⟨B, 0, none⟩)] 33) none)) (fun k _ e => by cases e))
  clear hk hh hs hp hp2' hsh hok hok2 hl hlA hl2 hls2 hch hnv hnu h51 h52 hn1 hn2
  have hq : ∀ W : World, (binOp BinOp.eql 35 (.map (some hm)) (.map none)).run Try.prog W = .ok (.bool false) W := fun W => eql_map_nil W hm
  go_enter Try.func12, Try.ntmps12
  go_wp2
  refine wp_scope_goto 0 (fun n a' wr => ∃ (g ln c : Nat), a'.defers = [] ∧ a'.tmps.size = 62 ∧ a'.tmps.getD 0 undef = .pointer (some ⟨K, 0, none⟩) ∧ a'.tmps.getD 4 undef = .slice (some ⟨g, 0, none⟩) ln c ∧ w.heap.size ≤ g ∧
    ((n = 2 ∧ ln = 1 ∧ c = 1 ∧ g = w.heap.size ∧ wr = w.alloc (.cells #[.pointer (some ⟨B, 0, none⟩)] 33)) ∨
     (n = 1 ∧ ln = 1 ∧ GrowIs wr K hm sm (Hd ++ [(nameOf tm1, true)]) Sp ok2 tm2 b2 g c ∧ Kept (S4 hm A st Kb) w wr) ∨
     (n = 0 ∧ ln = 0 ∧ KnowIs wr K (.map (some hm)) (.map (some sm)) ∧ MapIs Value.bool wr hm ((Hd ++ [(nameOf tm1, true)]) ++ [(nameOf tm2, true)]) ∧ Kept (S4 hm A st Kb) w wr))) rfl ?_ ?_
  · intro R2 hpass hout
    go_wp2
    first | go_step3 | skip
    first | go_step | skip
    first | go_step | skip
    exact hpass 2 _ _ ⟨w.heap.size, 1, 1, rfl, rfl, rfl, rfl, Nat.le_refl _, .inl ⟨rfl, rfl, rfl, rfl, rfl⟩⟩
  · intro n a' wr hrel J hJ
    obtain ⟨g, ln, c, hfd, hfs, hf0, hf4, hge, hcase⟩ := hrel
    obtain ⟨T, DD⟩ := a'
    obtain rfl : DD = [] := hfd
    obtain ⟨u, hu⟩ : ∃ u : Nat → Value, T = #[u 0, u 1, u 2, u 3, u 4, u 5, u 6, u 7, u 8, u 9, u 10, u 11, u 12, u 13, u 14, u 15, u 16, u 17, u 18, u 19, u 20, u 21, u 22, u 23, u 24, u 25, u 26, u 27, u 28, u 29, u 30, u 31, u 32, u 33, u 34, u 35, u 36, u 37, u 38, u 39, u 40, u 41, u 42, u 43, u 44, u 45, u 46, u 47, u 48, u 49, u 50, u 51, u 52, u 53, u 54, u 55, u 56, u 57, u 58, u 59, u 60, u 61] := ⟨fun i => T.getD i undef, lit_eq T 62 hfs⟩
    subst hu
    have he0 : u 0 = .pointer (some ⟨K, 0, none⟩) := hf0
    have he4 : u 4 = .slice (some ⟨g, 0, none⟩) ln c := hf4
    clear hfs hf0 hf4
    rw [he0, he4]
    clear he0 he4
    have HJ := Lib.hid hJ
    have HGE := Lib.hid hge
    clear hJ hge
    rcases hcase with ⟨rfl, rfl, rfl, hgg, rfl⟩ | ⟨rfl, rfl, hgi, hkp⟩ | ⟨rfl, rfl, hR⟩
    · rw [← hgg] at HGI0
      have HGI := HGI0
      have HGK := HGK0
      have HK := Lib.hid HGI.out.k
      have HH := Lib.hid HGI.out.h
      have hst : (w.alloc (.cells #[.pointer (some ⟨B, 0, none⟩)] 33)).cell? ⟨g, 0, none⟩ = some (.pointer (some ⟨B, 0, none⟩)) := HGI.out.st.cell
      have i0 : (w.alloc (.cells #[.pointer (some ⟨B, 0, none⟩)] 33)).cell? ⟨K, 0, none⟩ = some (.map (some hm)) := cell_of HGI.out.k 0 rfl
      have HPD : Hid (PieceAt ok (w.alloc (.cells #[.pointer (some ⟨B, 0, none⟩)] 33)).drew tm1 B) := Lib.hid (HGI.out.p.kept (grown_drewN _ 1 none) (fun r e => by cases e))
      clear HGI0 HGK0
      generalize w.alloc (.cells #[.pointer (some ⟨B, 0, none⟩)] 33) = wr at *
      clear hgg
      go_wp2
      refine wp_cut (fun a' W1 => a'.defers = [] ∧ a'.tmps.size = 62 ∧ a'.tmps.getD 0 undef = .pointer (some ⟨K, 0, none⟩) ∧ a'.tmps.getD 1 undef = .pointer (some ⟨B, 0, none⟩) ∧ a'.tmps.getD 4 undef = .slice (some ⟨g, 0, none⟩) 0 1 ∧ a'.tmps.getD 40 undef = .bool false ∧ wr.grownBy W1 none) ?_ ?_
      rotate_left
      · intro J5 K5 hJ5 hK5
        refine wp_region_noPanic ?_
        first
        | (go_region_with ((go_at_call 15; ((with_reducible refine (HNM.out wr.drew HPD.out).mono ?_); rintro e w2 ⟨rfl, hg2⟩; have hg := grown_trans (grown_drewN wr 1 none) hg2; have hk2 := KnowIs.keep HK.out hg (fun e => by cases e); have j0 : w2.cell? ⟨K, 0, none⟩ = some (.map (some hm)) := cell_of hk2 0 rfl; have hl2 := HLH.out w2 (MapIs.keep HH.out hg (fun e => by cases e)); have HG2 := Lib.hid hg; clear hg2 hk2 hg))))
        | fail
        all_goals
          refine NoPanic.normal ?_
          exact hK5 _ _ (Met.intro (hJ5 _ _ ⟨rfl, rfl, rfl, rfl, rfl, rfl, HG2.out⟩))
      intro a' W1 hrel
      obtain ⟨hfd, hfs, hf0, hf1, hf4, hf40, hg1⟩ := hrel
      obtain ⟨T, DD⟩ := a'
      obtain rfl : DD = [] := hfd
      obtain ⟨u, hu⟩ : ∃ u : Nat → Value, T = #[u 0, u 1, u 2, u 3, u 4, u 5, u 6, u 7, u 8, u 9, u 10, u 11, u 12, u 13, u 14, u 15, u 16, u 17, u 18, u 19, u 20, u 21, u 22, u 23, u 24, u 25, u 26, u 27, u 28, u 29, u 30, u 31, u 32, u 33, u 34, u 35, u 36, u 37, u 38, u 39, u 40, u 41, u 42, u 43, u 44, u 45, u 46, u 47, u 48, u 49, u 50, u 51, u 52, u 53, u 54, u 55, u 56, u 57, u 58, u 59, u 60, u 61] := ⟨fun i => T.getD i undef, lit_eq T 62 hfs⟩
      subst hu
      have he0 : u 0 = .pointer (some ⟨K, 0, none⟩) := hf0
      have he1 : u 1 = .pointer (some ⟨B, 0, none⟩) := hf1
      have he4 : u 4 = .slice (some ⟨g, 0, none⟩) 0 1 := hf4
      have he40 : u 40 = .bool false := hf40
      clear hfs hf0 hf1 hf4 hf40
      rw [he0, he1, he4, he40]
      clear he0 he1 he4 he40
      have HG1 := Lib.hid hg1
      have hk1 := KnowIs.keep HK.out hg1 (fun e => by cases e)
      have k0 : W1.cell? ⟨K, 0, none⟩ = some (.map (some hm)) := cell_of hk1 0 rfl
      have HPD : Hid (PieceAt ok W1.drew tm1 B) := Lib.hid (HGI.out.p.kept (grown_trans hg1 (grown_drewN W1 1 none)) (fun r e => by cases e))
      clear hg1 hk1 i0 hst
      go_wp2
      refine wp_cut (fun a' W2 => a'.defers = [] ∧ a'.tmps.size = 62 ∧ a'.tmps.getD 0 undef = .pointer (some ⟨K, 0, none⟩) ∧ a'.tmps.getD 1 undef = .pointer (some ⟨B, 0, none⟩) ∧ a'.tmps.getD 4 undef = .slice (some ⟨g, 0, none⟩) 0 1 ∧ PutIs wr K hm sm Hd Sp ok tm1 B g 1 W2) ?_ ?_
      rotate_left
      · intro J5 K5 hJ5 hK5
        refine wp_region_noPanic ?_
        first
        | (go_region_with ((go_at_call 15; ((with_reducible refine (HNM.out W1.drew HPD.out).mono ?_); rintro e w3 ⟨rfl, hg3⟩; have hg := grown_trans (grown_trans HG1.out (grown_drewN W1 1 none)) hg3; have hk3 := KnowIs.keep HK.out hg (fun e => by cases e); have j0 : w3.cell? ⟨K, 0, none⟩ = some (.map (some hm)) := cell_of hk3 0 rfl; obtain ⟨w9, hput, hm9, hg9⟩ := HPUT.out w3 (MapIs.keep HH.out hg (fun e => by cases e)); have HG3 := Lib.hid hg; have HM9 := Lib.hid hm9; have HG9 := Lib.hid hg9; clear hg3 hk3 hm9 hg9 hg))))
        | fail
        all_goals
          refine NoPanic.normal ?_
          exact hK5 _ _ (Met.intro (hJ5 _ _ ⟨rfl, rfl, rfl, rfl, rfl, put_is HGI.out HSH.out HOK.out ((Kept.of_grown HG3.out).trans (Kept.of_grown HG9.out) (fun k _ hk => hk.elim (fun e => by cases e) (fun e => by cases e; rfl))) HM9.out⟩))
      intro a' W2 hrel
      obtain ⟨hfd, hfs, hf0, hf1, hf4, hput⟩ := hrel
      obtain ⟨T, DD⟩ := a'
      obtain rfl : DD = [] := hfd
      obtain ⟨u, hu⟩ : ∃ u : Nat → Value, T = #[u 0, u 1, u 2, u 3, u 4, u 5, u 6, u 7, u 8, u 9, u 10, u 11, u 12, u 13, u 14, u 15, u 16, u 17, u 18, u 19, u 20, u 21, u 22, u 23, u 24, u 25, u 26, u 27, u 28, u 29, u 30, u 31, u 32, u 33, u 34, u 35, u 36, u 37, u 38, u 39, u 40, u 41, u 42, u 43, u 44, u 45, u 46, u 47, u 48, u 49, u 50, u 51, u 52, u 53, u 54, u 55, u 56, u 57, u 58, u 59, u 60, u 61] := ⟨fun i => T.getD i undef, lit_eq T 62 hfs⟩
      subst hu
      have he0 : u 0 = .pointer (some ⟨K, 0, none⟩) := hf0
      have he1 : u 1 = .pointer (some ⟨B, 0, none⟩) := hf1
      have he4 : u 4 = .slice (some ⟨g, 0, none⟩) 0 1 := hf4
      clear hfs hf0 hf1 hf4
      rw [he0, he1, he4]
      clear he0 he1 he4
      have HPI := Lib.hid hput
      have HK2 := Lib.hid hput.k
      have HS2 := Lib.hid hput.s
      have k1 : W2.cell? ⟨K, 1, none⟩ = some (.map (some sm)) := cell_of hput.k 1 rfl
      have HPD : Hid (PieceAt ok W2.drew tm1 B) := Lib.hid (hput.p.kept (grown_drewN W2 1 none) (fun r e => by cases e))
      clear hput k0
      go_wp2
      have HK4 : Hid (Kept (fun k => k = hm) w W2) := Lib.hid (HGK.out.trans HPI.out.kept (U := fun k => k = hm) (fun k _ e => e.elim False.elim id))
      have HST5 : Hid (∀ w4 w5, W2.grownBy w4 none → Kept (fun k => k = A ∨ k = st ∨ k = Kb) w4 w5 → w5.ownsRow 0 33 1 (.slice (some ⟨g, 0, none⟩) 0 1) 0 []) := Lib.hid (fun w4 w5 h4 h5 => by
        have hch4 := HCH.out w4 (HK4.out.grown h4)
        obtain ⟨cur, h1, h2, h3, _⟩ := (HPI.out.grown h4).st
        refine row_zero (h5.at h1 ?_) h2 h3
        rintro (e | e | e)
        · subst e; have := hch4.a; unfold SpotIs at this; rw [this] at h1; have := Option.some.inj h1; simp at this
        · subst e; have := hch4.s; unfold StepIs at this; rw [this] at h1; have := Option.some.inj h1; simp at this
        · subst e; have := hch4.k; unfold SpotIs at this; rw [this] at h1; have := Option.some.inj h1; simp at this)
      refine wp_cut (fun a' W7 => ∃ g7 cp, a'.defers = [] ∧ a'.tmps.size = 62 ∧ a'.tmps.getD 0 undef = .pointer (some ⟨K, 0, none⟩) ∧ a'.tmps.getD 1 undef = .pointer (some ⟨B, 0, none⟩) ∧ a'.tmps.getD 4 undef = .slice (some ⟨g7, 0, none⟩) 1 cp ∧ GrowIs W7 K hm sm (Hd ++ [(nameOf tm1, true)]) Sp ok2 tm2 b2 g7 cp ∧ PieceAt ok W7 tm1 B ∧ w.heap.size ≤ g7 ∧ Kept (S4 hm A st Kb) w W7) ?_ ?_
      rotate_left
      · intro J5 K5 hJ5 hK5
        refine wp_region_noPanic ?_
        go_region_law (first | ((refine step_append_lies _ (by rfl) _ _ _ (by rfl) 0 33 ip _ 1 8 Try.underlying40 hp0 hpz hp1 hp2 rfl (by decide) (.slice (some ⟨g, 0, none⟩) 0 1) 0 [] (by rfl) (HROW.out) ⟨go, 0, none⟩ 1 co [ptrV b2] (by rfl) (by rfl) (own_cell0 HRW5.out) (by simp [Value.oneCell', ptrV]) (by decide) (by decide) (by decide) (Nat.zero_le _) w5.heap.size (by rfl) ?_; intro g7 cp w7 hown hgrow hat hlt7; have HA7 := Lib.hid (two_after HGK.out HH0.out HS0.out HK0.out HCH0.out HSH.out HP2.out HOK2.out HP1.out HOK1.out HPI.out HG4.out HK5.out HGE.out hgrow hown (by simpa [Value.ownBlock] using hat)); clear hown hgrow hat hlt7)) | (go_simp; (first | ((go_at_call 15; ((with_reducible refine (HNM.out W2.drew HPD.out).mono ?_); rintro e w4 ⟨rfl, hg4⟩; have hg := grown_trans (grown_drewN W2 1 none) hg4; have hk4 := KnowIs.keep HK2.out hg (fun e => by cases e); have j1 : w4.cell? ⟨K, 1, none⟩ = some (.map (some sm)) := cell_of hk4 1 rfl; have hl4 := HLS.out w4 (MapIs.keep HS2.out hg (fun e => by cases e)); have HG4 := Lib.hid hg; clear hg4 hk4 hg))) | ((go_at_call 19; ((with_reducible refine (kreach_two _ A st Kb gw cw gs cs b2 (HCH.out _ (HK4.out.grown HG4.out))).mono ?_); rintro e w5 ⟨go, co, rfl, hrow5, _, _, hk5⟩; have HK5 := Lib.hid hk5; have HRW5 := Lib.hid hrow5; clear hk5 hrow5; have HROW : Hid (w5.ownsRow 0 33 1 (.slice (some ⟨g, 0, none⟩) 0 1) 0 []) := Lib.hid (HST5.out _ _ HG4.out HK5.out); have hH : w5.heap.size = w5.heap.size := rfl))))) | (first | ((go_at_call 15; ((with_reducible refine (HNM.out W2.drew HPD.out).mono ?_); rintro e w4 ⟨rfl, hg4⟩; have hg := grown_trans (grown_drewN W2 1 none) hg4; have hk4 := KnowIs.keep HK2.out hg (fun e => by cases e); have j1 : w4.cell? ⟨K, 1, none⟩ = some (.map (some sm)) := cell_of hk4 1 rfl; have hl4 := HLS.out w4 (MapIs.keep HS2.out hg (fun e => by cases e)); have HG4 := Lib.hid hg; clear hg4 hk4 hg))) | ((go_at_call 19; ((with_reducible refine (kreach_two _ A st Kb gw cw gs cs b2 (HCH.out _ (HK4.out.grown HG4.out))).mono ?_); rintro e w5 ⟨go, co, rfl, hrow5, _, _, hk5⟩; have HK5 := Lib.hid hk5; have HRW5 := Lib.hid hrow5; clear hk5 hrow5; have HROW : Hid (w5.ownsRow 0 33 1 (.slice (some ⟨g, 0, none⟩) 0 1) 0 []) := Lib.hid (HST5.out _ _ HG4.out HK5.out); have hH : w5.heap.size = w5.heap.size := rfl)))))
        all_goals
          refine NoPanic.normal ?_
          exact hK5 _ _ (Met.intro (hJ5 _ _ ⟨_, _, rfl, rfl, rfl, rfl, rfl, HA7.out⟩))
      intro a' W7 hrel
      obtain ⟨g7, cp, hfd, hfs, hf0, hf1, hf4, hgi7, hp7, hge7, hk7⟩ := hrel
      obtain ⟨T, DD⟩ := a'
      obtain rfl : DD = [] := hfd
      obtain ⟨u, hu⟩ : ∃ u : Nat → Value, T = #[u 0, u 1, u 2, u 3, u 4, u 5, u 6, u 7, u 8, u 9, u 10, u 11, u 12, u 13, u 14, u 15, u 16, u 17, u 18, u 19, u 20, u 21, u 22, u 23, u 24, u 25, u 26, u 27, u 28, u 29, u 30, u 31, u 32, u 33, u 34, u 35, u 36, u 37, u 38, u 39, u 40, u 41, u 42, u 43, u 44, u 45, u 46, u 47, u 48, u 49, u 50, u 51, u 52, u 53, u 54, u 55, u 56, u 57, u 58, u 59, u 60, u 61] := ⟨fun i => T.getD i undef, lit_eq T 62 hfs⟩
      subst hu
      have he0 : u 0 = .pointer (some ⟨K, 0, none⟩) := hf0
      have he1 : u 1 = .pointer (some ⟨B, 0, none⟩) := hf1
      have he4 : u 4 = .slice (some ⟨g7, 0, none⟩) 1 cp := hf4
      clear hfs hf0 hf1 hf4
      rw [he0, he1, he4]
      clear he0 he1 he4
      have HGI7 := Lib.hid hgi7
      have HPW := Lib.hid hp7
      have HROW7 := Lib.hid (hgi7.st.row1 hgi7.st.pos)
      have HGE7 := Lib.hid hge7
      have HK7 := Lib.hid hk7
      clear hgi7 hp7 hge7 hk7 k1
      go_wp2_with (first | (go_at_call 20; ((with_reducible refine (kwithin_other tm1 HN1.out.1 HN1.out.2 B _ _ HPW.out _).mono ?_); rintro e w8 ⟨rfl, hw8⟩; subst hw8)) | (at_builtin; refine wpList_append_own_none rfl _ _ 40 rfl 0 33 ip 1 Try.underlying40 hp0 (.slice (some ⟨g7, 0, none⟩) 1 cp) 1 [ptrV b2] rfl HROW7.out rfl ?_) | fail)
      first | go_step3 | skip
      exact jump_back (HJ.out 1 _ _ (by omega) ⟨g7, 1, cp, rfl, rfl, rfl, rfl, HGE7.out, .inr (.inl ⟨rfl, rfl, HGI7.out, HK7.out⟩)⟩)
    · have HGI := Lib.hid hgi
      have HKP := Lib.hid hkp
      have HK := Lib.hid hgi.k
      have HH := Lib.hid hgi.h
      have hst : wr.cell? ⟨g, 0, none⟩ = some (.pointer (some ⟨b2, 0, none⟩)) := hgi.st.cell
      have i0 : wr.cell? ⟨K, 0, none⟩ = some (.map (some hm)) := cell_of hgi.k 0 rfl
      have HPD : Hid (PieceAt ok2 wr.drew tm2 b2) := Lib.hid (hgi.p.kept (grown_drewN _ 1 none) (fun r e => by cases e))
      have hcp : 1 ≤ c := hgi.st.pos
      have hcm : c ≤ maxLen := by obtain ⟨_, _, _, h, _⟩ := hgi.st; exact h
      have hci : (c : Int) ≤ 9223372036854775807 := by unfold maxLen at hcm; omega
      have hci0 : (0 : Int) ≤ c := by omega
      have hcz : ¬ c = 0 := by omega
      clear hgi hkp hcm HGI0 HGK0
      go_wp2
      refine wp_cut (fun a' W1 => a'.defers = [] ∧ a'.tmps.size = 62 ∧ a'.tmps.getD 0 undef = .pointer (some ⟨K, 0, none⟩) ∧ a'.tmps.getD 1 undef = .pointer (some ⟨b2, 0, none⟩) ∧ a'.tmps.getD 4 undef = .slice (some ⟨g, 0, none⟩) 0 c ∧ a'.tmps.getD 40 undef = .bool false ∧ wr.grownBy W1 none) ?_ ?_
      rotate_left
      · intro J5 K5 hJ5 hK5
        refine wp_region_noPanic ?_
        first
        | (go_region_with ((go_at_call 15; ((with_reducible refine (HNN.out wr.drew HPD.out).mono ?_); rintro e w2 ⟨rfl, hg2⟩; have hg := grown_trans (grown_drewN wr 1 none) hg2; have hk2 := KnowIs.keep HK.out hg (fun e => by cases e); have j0 : w2.cell? ⟨K, 0, none⟩ = some (.map (some hm)) := cell_of hk2 0 rfl; have hl2 := HMH.out w2 (MapIs.keep HH.out hg (fun e => by cases e)); have HG2 := Lib.hid hg; clear hg2 hk2 hg))))
        | fail
        all_goals
          refine NoPanic.normal ?_
          exact hK5 _ _ (Met.intro (hJ5 _ _ ⟨rfl, rfl, rfl, rfl, rfl, rfl, HG2.out⟩))
      intro a' W1 hrel
      obtain ⟨hfd, hfs, hf0, hf1, hf4, hf40, hg1⟩ := hrel
      obtain ⟨T, DD⟩ := a'
      obtain rfl : DD = [] := hfd
      obtain ⟨u, hu⟩ : ∃ u : Nat → Value, T = #[u 0, u 1, u 2, u 3, u 4, u 5, u 6, u 7, u 8, u 9, u 10, u 11, u 12, u 13, u 14, u 15, u 16, u 17, u 18, u 19, u 20, u 21, u 22, u 23, u 24, u 25, u 26, u 27, u 28, u 29, u 30, u 31, u 32, u 33, u 34, u 35, u 36, u 37, u 38, u 39, u 40, u 41, u 42, u 43, u 44, u 45, u 46, u 47, u 48, u 49, u 50, u 51, u 52, u 53, u 54, u 55, u 56, u 57, u 58, u 59, u 60, u 61] := ⟨fun i => T.getD i undef, lit_eq T 62 hfs⟩
      subst hu
      have he0 : u 0 = .pointer (some ⟨K, 0, none⟩) := hf0
      have he1 : u 1 = .pointer (some ⟨b2, 0, none⟩) := hf1
      have he4 : u 4 = .slice (some ⟨g, 0, none⟩) 0 c := hf4
      have he40 : u 40 = .bool false := hf40
      clear hfs hf0 hf1 hf4 hf40
      rw [he0, he1, he4, he40]
      clear he0 he1 he4 he40
      have HG1 := Lib.hid hg1
      have hk1 := KnowIs.keep HK.out hg1 (fun e => by cases e)
      have k0 : W1.cell? ⟨K, 0, none⟩ = some (.map (some hm)) := cell_of hk1 0 rfl
      have HPD : Hid (PieceAt ok2 W1.drew tm2 b2) := Lib.hid (HGI.out.p.kept (grown_trans hg1 (grown_drewN W1 1 none)) (fun r e => by cases e))
      clear hg1 hk1 i0 hst
      go_wp2
      refine wp_cut (fun a' W2 => a'.defers = [] ∧ a'.tmps.size = 62 ∧ a'.tmps.getD 0 undef = .pointer (some ⟨K, 0, none⟩) ∧ a'.tmps.getD 1 undef = .pointer (some ⟨b2, 0, none⟩) ∧ a'.tmps.getD 4 undef = .slice (some ⟨g, 0, none⟩) 0 c ∧ PutIs wr K hm sm (Hd ++ [(nameOf tm1, true)]) Sp ok2 tm2 b2 g c W2) ?_ ?_
      rotate_left
      · intro J5 K5 hJ5 hK5
        refine wp_region_noPanic ?_
        first
        | (go_region_with ((go_at_call 15; ((with_reducible refine (HNN.out W1.drew HPD.out).mono ?_); rintro e w3 ⟨rfl, hg3⟩; have hg := grown_trans (grown_trans HG1.out (grown_drewN W1 1 none)) hg3; have hk3 := KnowIs.keep HK.out hg (fun e => by cases e); have j0 : w3.cell? ⟨K, 0, none⟩ = some (.map (some hm)) := cell_of hk3 0 rfl; obtain ⟨w9, hput, hm9, hg9⟩ := HQUT.out w3 (MapIs.keep HH.out hg (fun e => by cases e)); have HG3 := Lib.hid hg; have HM9 := Lib.hid hm9; have HG9 := Lib.hid hg9; clear hg3 hk3 hm9 hg9 hg))))
        | fail
        all_goals
          refine NoPanic.normal ?_
          exact hK5 _ _ (Met.intro (hJ5 _ _ ⟨rfl, rfl, rfl, rfl, rfl, put_is HGI.out HSH.out HOL.out ((Kept.of_grown HG3.out).trans (Kept.of_grown HG9.out) (fun k _ hk => hk.elim (fun e => by cases e) (fun e => by cases e; rfl))) HM9.out⟩))
      intro a' W2 hrel
      obtain ⟨hfd, hfs, hf0, hf1, hf4, hput⟩ := hrel
      obtain ⟨T, DD⟩ := a'
      obtain rfl : DD = [] := hfd
      obtain ⟨u, hu⟩ : ∃ u : Nat → Value, T = #[u 0, u 1, u 2, u 3, u 4, u 5, u 6, u 7, u 8, u 9, u 10, u 11, u 12, u 13, u 14, u 15, u 16, u 17, u 18, u 19, u 20, u 21, u 22, u 23, u 24, u 25, u 26, u 27, u 28, u 29, u 30, u 31, u 32, u 33, u 34, u 35, u 36, u 37, u 38, u 39, u 40, u 41, u 42, u 43, u 44, u 45, u 46, u 47, u 48, u 49, u 50, u 51, u 52, u 53, u 54, u 55, u 56, u 57, u 58, u 59, u 60, u 61] := ⟨fun i => T.getD i undef, lit_eq T 62 hfs⟩
      subst hu
      have he0 : u 0 = .pointer (some ⟨K, 0, none⟩) := hf0
      have he1 : u 1 = .pointer (some ⟨b2, 0, none⟩) := hf1
      have he4 : u 4 = .slice (some ⟨g, 0, none⟩) 0 c := hf4
      clear hfs hf0 hf1 hf4
      rw [he0, he1, he4]
      clear he0 he1 he4
      have HPI := Lib.hid hput
      have HK2 := Lib.hid hput.k
      have HS2 := Lib.hid hput.s
      have k1 : W2.cell? ⟨K, 1, none⟩ = some (.map (some sm)) := cell_of hput.k 1 rfl
      have HPD : Hid (PieceAt ok2 W2.drew tm2 b2) := Lib.hid (hput.p.kept (grown_drewN W2 1 none) (fun r e => by cases e))
      clear hput k0
      go_wp2
      refine wp_cut (fun a' W5 => a'.defers = [] ∧ a'.tmps.size = 62 ∧ a'.tmps.getD 0 undef = .pointer (some ⟨K, 0, none⟩) ∧ a'.tmps.getD 1 undef = .pointer (some ⟨b2, 0, none⟩) ∧ a'.tmps.getD 4 undef = .slice (some ⟨g, 0, none⟩) 0 c ∧ PutIs wr K hm sm (Hd ++ [(nameOf tm1, true)]) Sp ok2 tm2 b2 g c W5) ?_ ?_
      rotate_left
      · intro J5 K5 hJ5 hK5
        refine wp_region_noPanic ?_
        go_region_law (first | ((refine step_append_none (by rfl) _ _ 40 (by rfl) 0 33 ip 1 Try.underlying40 hp0 (.slice (some ⟨g, 0, none⟩) 0 c) 0 [] (by rfl) (HROW.out) (by rfl) ?_)) | (go_simp; (first | ((go_at_call 15; ((with_reducible refine (HNN.out W2.drew HPD.out).mono ?_); rintro e w4 ⟨rfl, hg4⟩; have hg := grown_trans (grown_drewN W2 1 none) hg4; have hk4 := KnowIs.keep HK2.out hg (fun e => by cases e); have j1 : w4.cell? ⟨K, 1, none⟩ = some (.map (some sm)) := cell_of hk4 1 rfl; have hl4 := HMS.out w4 (MapIs.keep HS2.out hg (fun e => by cases e)); have HG4 := Lib.hid hg; clear hg4 hk4 hg))) | ((go_at_call 19; ((with_reducible refine (kreach_nil _).mono ?_); rintro e w5 ⟨rfl, hg5⟩; have HG5 := Lib.hid (grown_trans HG4.out hg5); have HROW := Lib.hid ((PutIs.grown HPI.out HG5.out).st.row); clear hg5))))) | (first | ((go_at_call 15; ((with_reducible refine (HNN.out W2.drew HPD.out).mono ?_); rintro e w4 ⟨rfl, hg4⟩; have hg := grown_trans (grown_drewN W2 1 none) hg4; have hk4 := KnowIs.keep HK2.out hg (fun e => by cases e); have j1 : w4.cell? ⟨K, 1, none⟩ = some (.map (some sm)) := cell_of hk4 1 rfl; have hl4 := HMS.out w4 (MapIs.keep HS2.out hg (fun e => by cases e)); have HG4 := Lib.hid hg; clear hg4 hk4 hg))) | ((go_at_call 19; ((with_reducible refine (kreach_nil _).mono ?_); rintro e w5 ⟨rfl, hg5⟩; have HG5 := Lib.hid (grown_trans HG4.out hg5); have HROW := Lib.hid ((PutIs.grown HPI.out HG5.out).st.row); clear hg5)))))
        all_goals
          refine NoPanic.normal ?_
          exact hK5 _ _ (Met.intro (hJ5 _ _ ⟨rfl, rfl, rfl, rfl, rfl, PutIs.grown HPI.out HG5.out⟩))
      intro a' W5 hrel
      obtain ⟨hfd, hfs, hf0, hf1, hf4, hput⟩ := hrel
      obtain ⟨T, DD⟩ := a'
      obtain rfl : DD = [] := hfd
      obtain ⟨u, hu⟩ : ∃ u : Nat → Value, T = #[u 0, u 1, u 2, u 3, u 4, u 5, u 6, u 7, u 8, u 9, u 10, u 11, u 12, u 13, u 14, u 15, u 16, u 17, u 18, u 19, u 20, u 21, u 22, u 23, u 24, u 25, u 26, u 27, u 28, u 29, u 30, u 31, u 32, u 33, u 34, u 35, u 36, u 37, u 38, u 39, u 40, u 41, u 42, u 43, u 44, u 45, u 46, u 47, u 48, u 49, u 50, u 51, u 52, u 53, u 54, u 55, u 56, u 57, u 58, u 59, u 60, u 61] := ⟨fun i => T.getD i undef, lit_eq T 62 hfs⟩
      subst hu
      have he0 : u 0 = .pointer (some ⟨K, 0, none⟩) := hf0
      have he1 : u 1 = .pointer (some ⟨b2, 0, none⟩) := hf1
      have he4 : u 4 = .slice (some ⟨g, 0, none⟩) 0 c := hf4
      clear hfs hf0 hf1 hf4
      rw [he0, he1, he4]
      clear he0 he1 he4
      have HPI := Lib.hid hput
      have HPW := Lib.hid hput.p
      have HROW7 := Lib.hid hput.st.row
      clear hput k1
      go_wp2_with (first | (go_at_call 20; ((with_reducible refine (kwithin_other tm2 HN2.out.1 HN2.out.2 b2 _ _ HPW.out _).mono ?_); rintro e w8 ⟨rfl, hw8⟩; subst hw8)) | (at_builtin; refine wpList_append_own_none rfl _ _ 40 rfl 0 33 ip 1 Try.underlying40 hp0 (.slice (some ⟨g, 0, none⟩) 0 c) 0 [] rfl HROW7.out rfl ?_) | fail)
      first | go_step3 | skip
      exact jump_back (HJ.out 0 _ _ (by omega) ⟨g, 0, c, rfl, rfl, rfl, rfl, HGE.out, .inr (.inr ⟨rfl, rfl, HPI.out.k, HPI.out.h, HKP.out.trans HPI.out.kept (fun k _ e => e.elim id .inl)⟩)⟩)
    · go_wp2
      refine jump_ret ?_
      exact bodyPost_ret (results_none rfl _ _ _) rfl ⟨⟨_, rfl⟩, hR⟩
end Go.Proofs.Yteiadbiopcidmaa
