/- know's reader: what stands in brackets, by contract. -/
import Derived.Test.YteiadbiopcidmaaKnow3
namespace Go.Proofs.Yteiadbiopcidmaa
set_option linter.unusedVariables false
set_option linter.unusedSimpArgs false
set_option maxRecDepth 100000
open Go.RowKit

theorem Try.infoPc : (Try.prog.info? 33).map (fun i => (i.zero, i.size, i.bytes)) = some (some (.pointer none), 1, 8) := by kernel_rfl
def ptrV (b : Nat) : Value := .pointer (some ⟨b, 0, none⟩)
/-- what the pieces of a row that still grows may lie in -/
def Apart (b : Nat) (v : Value) : Nat → Prop := fun k => b ≤ k ∧ v.ownBlock ≠ some k
theorem own_ge {w : World} {B b : Nat} {e : TypeId} {size : Nat} {v : Value} {n : Nat} {xs : List Value} (h : w.ownsRow B e size v n xs) (hb : v.ownBlock = some b) : B ≤ b ∧ b < w.heap.size := by
  rcases h.2 with ⟨rfl, _⟩ | ⟨g, cap, cur, rfl, hB, hg, _⟩
  · cases hb
  · cases hb; exact ⟨hB, (Array.getElem?_eq_some_iff.1 hg).1⟩
theorem ptr_own {w : World} {B : Nat} {e : TypeId} {v : Value} {bs : List Nat} (h : w.ownsRow B e 1 v bs.length (bs.map ptrV)) : PtrRow w v bs := by
  rcases h.2 with ⟨rfl, hn⟩ | ⟨g, cap, cur, rfl, hB, hg, hcap, hmx, hsz, htk⟩
  · have : bs = [] := List.length_eq_zero_iff.1 hn
    subst this; exact ptr_nil w
  · refine ⟨_, cap, rfl, hcap, hmx, .inr ⟨g, 0, rfl, fun i hi => ?_⟩⟩
    rw [Nat.zero_add]
    refine cell_of hg i ?_
    have h1 : (bs.map ptrV)[i]? = some (ptrV (bs.getD i 0)) := by simp [List.getElem?_map, List.getElem?_eq_getElem hi]
    rw [← htk, List.getElem?_take] at h1
    split at h1
    · simpa [ptrV] using h1
    · cases h1
theorem app_pieces {b g n c : Nat} {v : Value} {w3 w3' w4 : World} {ts : List Tm} {bs : List Nat} (h : PiecesAt (Apart b v) w3 ts bs) (hg1 : w3.grownBy w3' none) (hg : w3'.grownBy w4 v.ownBlock) (hat : v.ownBlock = some g ∨ g = w3'.heap.size) :
    PiecesAt (Apart b (.slice (some ⟨g, 0, none⟩) n c)) w4 ts bs := by
  have h1 : PiecesAt (fun k => Apart b v k ∧ k < w3'.heap.size) w3' ts bs := (h.kept hg1 (fun r e => by cases e)).inHeap (fun k hk hl => ⟨hk, hl⟩)
  have h2 := h1.kept hg (fun r e hk => hk.1.2 e)
  refine h2.inHeap (fun k hk _ => ⟨hk.1.1, fun e => ?_⟩)
  have e2 : g = k := by simpa [Value.ownBlock] using e
  rcases hat with h3 | h3
  · exact hk.1.2 (by rw [h3, e2])
  · have := hk.2; omega
def IRel (w : World) (R : Nat) (s : ByteArray) (ps : List Tm) (rest : List UInt8) (f q : Nat) (acc : List Tm) (v : Value) (bs : List Nat) (wr : World) : Prop :=
  q ≤ s.size ∧ kLoop f acc (s.data.toList.drop q) = some (ps, rest) ∧ RK wr R s q ∧ w.grownBy wr (some R) ∧ wr.ownsRow w.heap.size 33 1 v bs.length (bs.map ptrV) ∧ PiecesAt (Apart w.heap.size v) wr acc bs ∧ bs.length ≤ q
theorem loop_cases {s : ByteArray} {ps : List Tm} {rest : List UInt8} {n q : Nat} {acc : List Tm} (hq : q ≤ s.size) (h : kLoop n acc (s.data.toList.drop q) = some (ps, rest)) :
    ∃ f, n = f + 1 ∧ q < s.size ∧ ((byteAt s (q + 1) = 41 ∧ ps = acc ∧ rest = s.data.toList.drop (q + 2) ∧ q + 1 < s.size) ∨
      ∃ tm r2, byteAt s (q + 1) ≠ 41 ∧ kPieceS (kLoop f) (s.data.toList.drop (q + 1)) = some (tm, r2) ∧ q + 1 ≤ posOf s r2 ∧ posOf s r2 ≤ s.size ∧ r2 = s.data.toList.drop (posOf s r2) ∧
        ((byteAt s (posOf s r2) = 44 ∧ kLoop f (acc ++ [tm]) (s.data.toList.drop (posOf s r2)) = some (ps, rest)) ∨ (byteAt s (posOf s r2) = 41 ∧ ps = acc ++ [tm] ∧ rest = s.data.toList.drop (posOf s r2 + 1) ∧ posOf s r2 < s.size))) := by
  cases n with
  | zero => cases h
  | succ f =>
    by_cases hlt : q < s.size
    · refine ⟨f, rfl, hlt, ?_⟩
      rw [drop_at s q hlt] at h
      simp only [kLoop] at h
      have lt_of : ∀ p c, c ≠ 0 → byteAt s p = c → p < s.size := fun p c hc e => by
        by_cases hp : p < s.size
        · exact hp
        · rw [byteAt_ge hp] at e; omega
      split at h
      · rename_i h41
        left
        have hb := (head_byte s (q + 1) 41 (by decide)).1 h41
        have h2 := lt_of _ _ (by decide) hb
        cases h
        exact ⟨hb, rfl, by rw [List.tail_drop], h2⟩
      · rename_i h41
        right
        cases hx : kPieceS (kLoop f) (s.data.toList.drop (q + 1)) with
        | none => rw [hx] at h; cases h
        | some x =>
          obtain ⟨tm, r2⟩ := x
          rw [hx] at h
          simp only [Option.bind_some] at h
          obtain ⟨h1, h2, h3⟩ := suf_pos (p := q + 1) (by omega) (kPieceS_suf (kLoop_suf f) hx).1
          refine ⟨tm, r2, fun e => h41 ((head_byte s (q + 1) 41 (by decide)).2 e), rfl, h1, h2, h3, ?_⟩
          obtain ⟨p2, hp2⟩ : ∃ p, posOf s r2 = p := ⟨_, rfl⟩
          rw [hp2] at h3 ⊢
          subst h3
          split at h
          · rename_i h44
            exact .inl ⟨(head_byte s p2 44 (by decide)).1 h44, h⟩
          · split at h
            · rename_i h41b
              cases h
              have hb := (head_byte s p2 41 (by decide)).1 h41b
              exact .inr ⟨hb, rfl, by rw [List.tail_drop], lt_of _ _ (by decide) hb⟩
            · cases h
    · rw [drop_end s q hlt] at h; cases h
theorem inside_end {w W : World} {R : Nat} {s : ByteArray} {ps : List Tm} {rest : List UInt8} {q : Nat} {v : Value} {bs : List Nat} (hq : q ≤ s.size) (hr : rest = s.data.toList.drop q) (hR : RK W R s q) (hG : w.grownBy W (some R)) (hO : W.ownsRow w.heap.size 33 1 v bs.length (bs.map ptrV)) (hP : PiecesAt (Apart w.heap.size v) W ps bs) :
    InsideOK w R s ps rest (.returned v) W := by
  obtain ⟨a, cap, rfl⟩ := own_any hO
  refine ⟨a, _, cap, bs, rfl, ptr_own hO, ?_, hP.inHeap (fun k hk _ => hk.1), ?_, hG⟩
  · intro _ a' n c e
    cases e
    exact (own_ge hO rfl).1
  · rw [hr, posOf_drop s q hq]; exact hR
theorem new_apart {w wr : World} {v : Value} {n k0 : Nat} {xs : List Value} {e : TypeId} (h : wr.ownsRow w.heap.size e 1 v n xs) (hs : w.heap.size ≤ wr.heap.size) (hk : wr.heap.size ≤ k0) {m : Nat} : ∀ k, Fr k0 k → k < m → Apart w.heap.size v k :=
  fun k h1 _ => ⟨by unfold Fr at h1; omega, fun e2 => by have := (own_ge h e2).2; unfold Fr at h1; omega⟩
set_option maxHeartbeats 8000000 in
theorem kinside_any (s : ByteArray) (hs : s.size ≤ 1000000) (R : Nat) (F : Nat) (ih : ∀ f, f < F → ∀ l tm r2, kPieceS (kLoop f) l = some (tm, r2) → ∀ p w, p ≤ s.size → s.data.toList.drop p = l → RK w R s p → Calls Try.prog 21 #[.pointer (some ⟨R, 0, none⟩)] w (PieceOK w R s tm r2))
    (ps : List Tm) (rest : List UInt8) (p : Nat) (w : World) (hp : p ≤ s.size) (hL : kLoop F [] (s.data.toList.drop p) = some (ps, rest)) (h : RK w R s p) :
    Calls Try.prog 33 #[.pointer (some ⟨R, 0, none⟩)] w (InsideOK w R s ps rest) := by
  have hRlt := h.lt
  have HL0 : Hid (IRel w R s ps rest F p [] (.slice none 0 0) [] w) := Lib.hid ⟨hp, hL, h, grown_refl _ _, World.ownsRow_nil _ _ _ _, by unfold PiecesAt; rfl, Nat.zero_le _⟩
  have HIH := Lib.hid ih
  obtain ⟨i0, hi0, hz0, hz1, hz2⟩ := info_parts Try.infoPc
  clear hL h ih
  go_enter Try.func33, Try.ntmps33
  go_wp2
  refine wp_scope_goto 0 (fun n a' wr => ∃ (q : Nat) (acc : List Tm) (v : Value) (bs : List Nat), a'.defers = [] ∧ a'.tmps.size = 30 ∧ a'.tmps.getD 0 undef = .pointer (some ⟨R, 0, none⟩) ∧ a'.tmps.getD 3 undef = v ∧ n ≤ F ∧ IRel w R s ps rest n q acc v bs wr) rfl ?_ ?_
  · intro R2 hpass hout
    go_wp2
    go_step3
    go_step
    go_step
    exact hpass _ _ _ ⟨p, [], .slice none 0 0, [], rfl, rfl, rfl, rfl, Nat.le_refl _, HL0.out⟩
  · intro n a' wr hrel J hJ
    obtain ⟨q, acc, v, bs, hfd, hfs, hf0, hf3, hnF, hL⟩ := hrel
    obtain ⟨T, DD⟩ := a'
    obtain rfl : DD = [] := hfd
    obtain ⟨u, hu⟩ : ∃ u : Nat → Value, T = #[u 0, u 1, u 2, u 3, u 4, u 5, u 6, u 7, u 8, u 9, u 10, u 11, u 12, u 13, u 14, u 15, u 16, u 17, u 18, u 19, u 20, u 21, u 22, u 23, u 24, u 25, u 26, u 27, u 28, u 29] := ⟨fun i => T.getD i undef, lit_eq T 30 hfs⟩
    subst hu
    have he0 : u 0 = .pointer (some ⟨R, 0, none⟩) := hf0
    have he3 : u 3 = v := hf3
    clear hfs hf0 hf3
    rw [he0, he3]
    clear he0 he3
    have HJ := Lib.hid hJ
    clear hJ
    obtain ⟨hqs, hlp, hR, hG, hO, hPS, hbq⟩ := hL
    obtain ⟨f, rfl, hlt, hcase⟩ := loop_cases hqs hlp
    have HRs : Hid (RK (wr.setCell ⟨R, 1, none⟩ (.int .i64 ((q : Int) + 1))) R s (q + 1)) := Lib.hid (hR.set (q + 1))
    have g0 := hR.c0
    have g1 := hR.c1
    have f1 : wr.frozen? ⟨R, 1, none⟩ = false := free_of hR 1
    have HO := Lib.hid hO
    have HG := Lib.hid hG
    have HPS := Lib.hid hPS
    clear hR hO hG hPS hlp
    rcases hcase with ⟨hb, he, hr, h2⟩ | ⟨tm, r2, hb, hx, hq1, hq2, hr2, hcase⟩
    · have HN : Hid (∀ w, RK w R s (q + 1) → Calls Try.prog 32 #[.pointer (some ⟨R, 0, none⟩)] w fun e w' => e = .returned (.int .u8 41) ∧ ∃ n, w' = w.drewN n) := Lib.hid (fun w h => by
        have := knext_any s (q + 1) R w (by unfold maxLen; omega) (by omega) h
        rw [hb] at this; exact this)
      have HE := Lib.hid he
      have HRR := Lib.hid hr
      clear hb he hr
      go_wp2_with (first | (go_at_call 32; ((with_reducible refine (HN.out _ (HRs.out.drewN n1)).mono ?_); rintro e w2 ⟨rfl, n2, rfl⟩)) | (go_at_call 32; ((with_reducible refine (HN.out _ HRs.out).mono ?_); rintro e w2 ⟨rfl, n1, rfl⟩)) | fail)
      refine jump_ret ?_
      go_ret
      have e1 := HE.out
      subst e1
      have hgr : wr.grownBy (((wr.setCell ⟨R, 1, none⟩ (.int .i64 ((q : Int) + 1))).drewN (n1 + n2)).setCell ⟨R, 1, none⟩ (.int .i64 ((q : Int) + 1 + 1))) (some R) := grown_trans (grown_trans (grown_set _ _ _ _) (grown_drewN _ _ _)) (grown_set _ _ _ _)
      exact inside_end (q := q + 2) (by omega) HRR.out ((HRs.out.drewN (n1 + n2)).set (q + 2)) (grown_trans HG.out hgr) (World.ownsRow.kept HO.out hgr (.inr (own_ne HO.out hRlt))) (PiecesAt.kept hgr (fun r e h => by cases e; have := h.1; omega) HPS.out)
    · obtain ⟨x, hxb⟩ : ∃ x, byteAt s (q + 1) = x := ⟨_, rfl⟩
      rw [hxb] at hb
      have hx41 : (x == 41) = false := beqf hb
      have HN : Hid (∀ w, RK w R s (q + 1) → Calls Try.prog 32 #[.pointer (some ⟨R, 0, none⟩)] w fun e w' => e = .returned (.int .u8 x) ∧ ∃ n, w' = w.drewN n) := Lib.hid (fun w h => by
        have := knext_any s (q + 1) R w (by unfold maxLen; omega) (by omega) h
        rw [hxb] at this; exact this)
      have HPC : Hid (∀ w, RK w R s (q + 1) → Calls Try.prog 21 #[.pointer (some ⟨R, 0, none⟩)] w (PieceOK w R s tm r2)) := Lib.hid (fun w h => HIH.out f (by omega) _ tm r2 hx (q + 1) w (by omega) rfl h)
      obtain ⟨q2, hq2e⟩ : ∃ q2, posOf s r2 = q2 := ⟨_, rfl⟩
      have HQ2 := Lib.hid hq2e
      rw [hq2e] at hq1 hq2 hr2 hcase
      rcases hcase with ⟨hb2, hk⟩ | ⟨hb2, he, hr, h2⟩
      all_goals
        have HN2 : Hid (∀ w, RK w R s q2 → Calls Try.prog 32 #[.pointer (some ⟨R, 0, none⟩)] w fun e w' => e = .returned (.int .u8 (byteAt s q2)) ∧ ∃ n, w' = w.drewN n) := Lib.hid (fun w h => knext_any s q2 R w (by unfold maxLen; omega) hq2 h)
        rw [hb2] at HN2
      · have HK := Lib.hid hk
        clear hb hxb hb2 hx hr2 hk hq2e
        go_wp2_with (first | (go_at_call 32; ((with_reducible refine (HN2.out _ HR4.out).mono ?_); rintro e w2 ⟨rfl, n2, rfl⟩)) | (go_at_call 32; ((with_reducible refine (HN.out _ HRs.out).mono ?_); rintro e w2 ⟨rfl, n1, rfl⟩)) | (go_at_call 21; ((with_reducible refine (HPC.out _ (HRs.out.drewN n1)).mono ?_); rintro e w3 ⟨B, rfl, hpc, hr3, hg3⟩; have hszs : wr.heap.size ≤ ((wr.setCell ⟨R, 1, none⟩ (.int .i64 ((q : Int) + 1))).drewN n1).heap.size := (by simp); have hgr : wr.grownBy w3 (some R) := grown_trans (grown_trans (grown_set _ _ _ _) (grown_drewN _ n1 _)) hg3; have HO3 := Lib.hid (World.ownsRow.kept HO.out hgr (.inr (own_ne HO.out hRlt))); have HG3 := Lib.hid (grown_trans HG.out hgr); have HPA3 : Hid (PiecesAt (Apart w.heap.size v) w3 (acc ++ [tm]) (bs ++ [B])) := Lib.hid (PiecesAt.snoc (PiecesAt.kept hgr (fun r e h => by cases e; have := h.1; omega) HPS.out) (hpc.inHeap (new_apart HO.out HG.out.size hszs))); have HR3 : Hid (RK w3 R s q2) := Lib.hid (by rw [HQ2.out] at hr3; exact hr3); have hsz3 := HG3.out.size; clear hpc hr3 hg3 hgr hszs)) | (at_builtin; (refine wpList_append_lies _ rfl _ _ 40 rfl w.heap.size 33 i0 _ 1 8 Try.underlying40 hi0 hz0 hz1 hz2 rfl (by decide) v bs.length (bs.map ptrV) rfl (World.ownsRow.alloc HO3.out _) ⟨w3.heap.size, 0, none⟩ 1 1 [ptrV B] rfl rfl (World.news_of_block (cs := #[ptrV B]) (t := 33) (fr := (0, 0)) (heap_alloc_new w3 _)) (by simp [Value.oneCell', ptrV]) (by decide) (by unfold maxLen; omega) (by omega) (by simp; omega) _ rfl ?_); intro g cp w4 hown hgrow hat hlt4; have HO4 : Hid (w4.ownsRow w.heap.size 33 1 (.slice (some ⟨g, 0, none⟩) (bs.length + 1) cp) (bs ++ [B]).length ((bs ++ [B]).map ptrV)) := Lib.hid (by rw [List.length_append, List.map_append]; exact hown); have HP4 : Hid (PiecesAt (Apart w.heap.size (.slice (some ⟨g, 0, none⟩) (bs.length + 1) cp)) w4 (acc ++ [tm]) (bs ++ [B])) := Lib.hid (app_pieces HPA3.out (World.grownBy_alloc _ _ _) hgrow hat); have HR4 : Hid (RK w4 R s q2) := Lib.hid (RK.grown (ptr_at HR3.out) hgrow (fun e => own_ne HO3.out hRlt e.symm)); have HG4 : Hid (w.grownBy w4 (some R)) := Lib.hid (grown_far (grown_alloc HG3.out _) hgrow (fun k e => (own_ge HO3.out e).1)); have y0 := HR4.out.c0; have y1 := HR4.out.c1; have yf : w4.frozen? ⟨R, 1, none⟩ = false := free_of HR4.out 1; clear hown hgrow hat hlt4) | fail)
        go_step3
        go_step
        refine jump_back (HJ.out f _ _ (by omega) ⟨q2, acc ++ [tm], _, bs ++ [B], rfl, rfl, rfl, rfl, by omega, hq2, HK.out, HR4.out.drewN n2, grown_trans HG4.out (grown_drewN _ n2 _), World.ownsRow.kept HO4.out (grown_drewN _ n2 (some R)) (.inr (own_ne HO4.out hRlt)), PiecesAt.kept (grown_drewN _ n2 none) (fun r e => by cases e) HP4.out, by simp; omega⟩)
      · have HE := Lib.hid he
        have HRR := Lib.hid hr
        clear hb hxb hb2 hx hr2 hq2e he hr
        go_wp2_with (first | (go_at_call 32; ((with_reducible refine (HN2.out _ HR4.out).mono ?_); rintro e w2 ⟨rfl, n2, rfl⟩)) | (go_at_call 32; ((with_reducible refine (HN.out _ HRs.out).mono ?_); rintro e w2 ⟨rfl, n1, rfl⟩)) | (go_at_call 21; ((with_reducible refine (HPC.out _ (HRs.out.drewN n1)).mono ?_); rintro e w3 ⟨B, rfl, hpc, hr3, hg3⟩; have hszs : wr.heap.size ≤ ((wr.setCell ⟨R, 1, none⟩ (.int .i64 ((q : Int) + 1))).drewN n1).heap.size := (by simp); have hgr : wr.grownBy w3 (some R) := grown_trans (grown_trans (grown_set _ _ _ _) (grown_drewN _ n1 _)) hg3; have HO3 := Lib.hid (World.ownsRow.kept HO.out hgr (.inr (own_ne HO.out hRlt))); have HG3 := Lib.hid (grown_trans HG.out hgr); have HPA3 : Hid (PiecesAt (Apart w.heap.size v) w3 (acc ++ [tm]) (bs ++ [B])) := Lib.hid (PiecesAt.snoc (PiecesAt.kept hgr (fun r e h => by cases e; have := h.1; omega) HPS.out) (hpc.inHeap (new_apart HO.out HG.out.size hszs))); have HR3 : Hid (RK w3 R s q2) := Lib.hid (by rw [HQ2.out] at hr3; exact hr3); have hsz3 := HG3.out.size; clear hpc hr3 hg3 hgr hszs)) | (at_builtin; (refine wpList_append_lies _ rfl _ _ 40 rfl w.heap.size 33 i0 _ 1 8 Try.underlying40 hi0 hz0 hz1 hz2 rfl (by decide) v bs.length (bs.map ptrV) rfl (World.ownsRow.alloc HO3.out _) ⟨w3.heap.size, 0, none⟩ 1 1 [ptrV B] rfl rfl (World.news_of_block (cs := #[ptrV B]) (t := 33) (fr := (0, 0)) (heap_alloc_new w3 _)) (by simp [Value.oneCell', ptrV]) (by decide) (by unfold maxLen; omega) (by omega) (by simp; omega) _ rfl ?_); intro g cp w4 hown hgrow hat hlt4; have HO4 : Hid (w4.ownsRow w.heap.size 33 1 (.slice (some ⟨g, 0, none⟩) (bs.length + 1) cp) (bs ++ [B]).length ((bs ++ [B]).map ptrV)) := Lib.hid (by rw [List.length_append, List.map_append]; exact hown); have HP4 : Hid (PiecesAt (Apart w.heap.size (.slice (some ⟨g, 0, none⟩) (bs.length + 1) cp)) w4 (acc ++ [tm]) (bs ++ [B])) := Lib.hid (app_pieces HPA3.out (World.grownBy_alloc _ _ _) hgrow hat); have HR4 : Hid (RK w4 R s q2) := Lib.hid (RK.grown (ptr_at HR3.out) hgrow (fun e => own_ne HO3.out hRlt e.symm)); have HG4 : Hid (w.grownBy w4 (some R)) := Lib.hid (grown_far (grown_alloc HG3.out _) hgrow (fun k e => (own_ge HO3.out e).1)); have y0 := HR4.out.c0; have y1 := HR4.out.c1; have yf : w4.frozen? ⟨R, 1, none⟩ = false := free_of HR4.out 1; clear hown hgrow hat hlt4) | fail)
        refine jump_ret ?_
        go_ret
        have e1 := HE.out
        subst e1
        have hgr : w4.grownBy ((w4.drewN n2).setCell ⟨R, 1, none⟩ (.int .i64 ((q2 : Int) + 1))) (some R) := grown_trans (grown_drewN _ _ _) (grown_set _ _ _ _)
        exact inside_end (q := q2 + 1) (by omega) HRR.out ((HR4.out.drewN n2).set (q2 + 1)) (grown_trans HG4.out hgr) (World.ownsRow.kept HO4.out hgr (.inr (own_ne HO4.out hRlt))) (PiecesAt.kept hgr (fun r e h => by cases e; have := h.1; omega) HP4.out)
end Go.Proofs.Yteiadbiopcidmaa
