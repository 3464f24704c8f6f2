/- know: a step. -/
import Derived.Test.YteiadbiopcidmaaKnow11
namespace Go.Proofs.Yteiadbiopcidmaa
set_option linter.unusedVariables false
set_option linter.unusedSimpArgs false
set_option maxRecDepth 100000
open Go.RowKit

theorem Try.infoSt : (Try.prog.info? 79).map (fun i => (i.zero, i.size, i.bytes)) = some (some (.pointer none), 1, 8) := by kernel_rfl
/-- behind a step's being kept with a spot that isn't made -/
def Waits (W W2 : World) (St C : Nat) (c : Nat) (To : Nat) (wv sv : Value) (n : Nat) (xs : List Value) : Prop :=
  ∃ v, Kept (fun k => k = St ∨ k = C ∨ wv.ownBlock = some k) W W2 ∧ StepIs W2 St ((c + 1 : Nat) : Int) To ∧ SpotIs W2 C false v sv ∧ W2.ownsRow 0 79 1 v (n + 1) (xs ++ [ptrV St]) ∧ (∀ k, v.ownBlock = some k → wv.ownBlock = some k ∨ W.heap.size ≤ k)
/-- what a spot tells a step -/
def Told (I : Nat → Nat → Nat → World → Prop) (St i c To : Nat) (e : Ending) (W : World) : Prop :=
  ∃ C m wv sv n xs, e = .returned (ptrV C) ∧ StepIs W St c To ∧ SpotIs W C m wv sv ∧ W.ownsRow 0 79 1 wv n xs ∧ n ≤ 1000000 ∧ (m = true → I St (i + 1) c W) ∧
    (m = false → ∀ W2, Waits W W2 St C c To wv sv n xs → I St (i + 1) (c + 1) W2)
theorem step_ne {W : World} {St C : Nat} {c : Int} {To : Nat} {m : Bool} {wv sv : Value} (h : StepIs W St c To) (h2 : SpotIs W C m wv sv) : St ≠ C := by
  intro e; subst e
  unfold StepIs at h; unfold SpotIs at h2
  rw [h] at h2
  have := Option.some.inj h2
  simp at this
theorem step_row {W : World} {St : Nat} {c : Int} {To n : Nat} {xs : List Value} {wv : Value} (h : StepIs W St c To) (h2 : W.ownsRow 0 79 1 wv n xs) : wv.ownBlock ≠ some St := by
  intro e
  rcases h2.2 with ⟨rfl, _⟩ | ⟨g, cap, cur, rfl, _, hg, _⟩
  · cases e
  · cases e
    unfold StepIs at h
    rw [h] at hg
    have := Option.some.inj hg
    simp at this
theorem spot_row {W : World} {C n : Nat} {m : Bool} {xs : List Value} {wv wv' sv : Value} (h : SpotIs W C m wv' sv) (h2 : W.ownsRow 0 79 1 wv n xs) : wv.ownBlock ≠ some C := by
  intro e
  rcases h2.2 with ⟨rfl, _⟩ | ⟨g, cap, cur, rfl, _, hg, _⟩
  · cases e
  · cases e
    unfold SpotIs at h
    rw [h] at hg
    have := Option.some.inj hg
    simp at this
theorem news_set (w5 : World) (a : Addr) (v : Value) (b : Nat) : ∀ j u, [ptrV b][j]? = some u → ((w5.setCell a v).alloc (.cells #[.pointer (some ⟨b, 0, none⟩)] 79)).cell? ((⟨w5.heap.size, 0, none⟩ : Addr).add j) = some u := by
  have h := World.news_of_block (cs := #[ptrV b]) (t := 79) (fr := (0, 0)) (heap_alloc_new (w5.setCell a v) (.cells #[ptrV b] 79))
  rw [show (w5.setCell a v).heap.size = w5.heap.size by simp] at h
  exact h
theorem waits_mk {w5 w7 : World} {St C c To g cp nw H : Nat} {xs : List Value} {wv sv : Value} (hst : StepIs w5 St c To) (hsp : SpotIs w5 C false wv sv) (how : w5.ownsRow 0 79 1 wv nw xs)
    (hown : w7.ownsRow 0 79 1 (.slice (some ⟨g, 0, none⟩) (nw + 1) cp) (nw + 1) (xs ++ [ptrV St])) (hgrow : ((w5.setCell ⟨St, 0, none⟩ (.int .i64 ((c : Int) + 1))).alloc (.cells #[.pointer (some ⟨St, 0, none⟩)] 79)).grownBy w7 wv.ownBlock)
    (hat : wv.ownBlock = some g ∨ g = H) (hH : H = ((w5.setCell ⟨St, 0, none⟩ (.int .i64 ((c : Int) + 1))).alloc (.cells #[.pointer (some ⟨St, 0, none⟩)] 79)).heap.size) :
    SpotIs w7 C false wv sv ∧ Waits w5 (w7.setCell ⟨C, 1, none⟩ (.slice (some ⟨g, 0, none⟩) (nw + 1) cp)) St C c To wv sv nw xs := by
  have hne := step_ne hst hsp
  have h1 : StepIs (w5.setCell ⟨St, 0, none⟩ (.int .i64 ((c : Int) + 1))) St ((c + 1 : Nat) : Int) To := heap_set (i := 0) hst
  have h2 : SpotIs (w5.setCell ⟨St, 0, none⟩ (.int .i64 ((c : Int) + 1))) C false wv sv := (heap_set_other (fun e => hne e.symm)).trans hsp
  have hlt : C < w5.heap.size := (Array.getElem?_eq_some_iff.1 hsp).1
  have h3 : SpotIs w7 C false wv sv := keep_far (keep_alloc h2 _) hgrow (fun e => spot_row hsp how e.symm)
  have h4 : StepIs w7 St ((c + 1 : Nat) : Int) To := keep_far (keep_alloc h1 _) hgrow (fun e => step_row hst how e.symm)
  have hgC : g ≠ C := by
    rcases hat with h | h
    · intro e; subst e; exact spot_row hsp how h
    · rw [h, hH]; simp; omega
  refine ⟨h3, .slice (some ⟨g, 0, none⟩) (nw + 1) cp, ?_, (heap_set_other hne).trans h4, heap_set (i := 1) h3, World.ownsRow.kept hown (grown_set _ _ _ _) (.inr (fun e => hgC (by simpa [Value.ownBlock] using e))), ?_⟩
  · have k1 : Kept (fun k => some St = some k) w5 (w5.setCell ⟨St, 0, none⟩ (.int .i64 ((c : Int) + 1))) := Kept.of_grown (grown_set _ _ _ _)
    have k2 := k1.grown (World.grownBy_alloc _ (.cells #[.pointer (some ⟨St, 0, none⟩)] 79) none)
    have k3 : Kept (fun k => k = St ∨ k = C ∨ wv.ownBlock = some k) w5 w7 := k2.trans (Kept.of_grown hgrow) (fun k _ hk => hk.elim (fun e => .inl (by cases e; rfl)) (fun e => .inr (.inr e)))
    exact k3.trans (Kept.of_grown (grown_set w7 C 1 _)) (fun k _ hk => hk.elim id (fun e => .inr (.inl (by cases e; rfl))))
  · intro k e
    have e2 : g = k := by simpa [Value.ownBlock] using e
    subst e2
    rcases hat with h | h
    · exact .inl h
    · right; rw [h, hH]; simp
set_option maxHeartbeats 8000000 in
theorem kstep_any (I : Nat → Nat → Nat → World → Prop) (K To : Nat) (pa : Option Addr) (pc : Nat) (bs : List Nat) (w : World)
    (hstart : ∀ St W, w.grownBy W none → StepIs W St 0 To → w.heap.size ≤ St → I St 0 0 W)
    (hfacts : ∀ St i c W, I St i c W → StepIs W St c To ∧ c ≤ i ∧ PtrRow W (.slice pa bs.length pc) bs ∧ ∃ m wv sv, SpotIs W To m wv sv)
    (hspot : ∀ St i c W, i < bs.length → I St i c W → Calls Try.prog 14 #[.pointer (some ⟨K, 0, none⟩), .pointer (some ⟨bs.getD i 0, 0, none⟩)] W (Told I St i c To))
    (hbs : bs.length ≤ 100000) :
    Calls Try.prog 23 #[.pointer (some ⟨K, 0, none⟩), .pointer (some ⟨To, 0, none⟩), .slice pa bs.length pc] w fun e W => (∃ x, e = .returned x) ∧ ∃ St c W0, I St bs.length c W0 ∧ ((c = 0 ∧ W = W0.setCell ⟨To, 0, none⟩ (.bool true)) ∨ (c ≠ 0 ∧ W = W0)) := by
  obtain ⟨n, hn⟩ : ∃ n, bs.length = n := ⟨_, rfl⟩
  obtain ⟨i0, hi0, hz0, hz1, hz2⟩ := info_parts Try.infoSt
  have HST := Lib.hid hstart
  have HF := Lib.hid hfacts
  have HSP := Lib.hid hspot
  have HBN := Lib.hid hn
  rw [hn] at hbs ⊢
  clear hstart hfacts hspot hn
  go_enter Try.func23, Try.ntmps23
  go_wp2
  go_loopw [15] (fun i wr => ∃ (k c : Nat), i = .int .i64 k ∧ k ≤ n ∧ I w.heap.size k c wr) (fun i _ => n - (intOf i).toNat)
  case atStart => exact ⟨0, 0, rfl, Nat.zero_le _, HST.out _ _ (World.grownBy_alloc w _ none) (heap_alloc_new w _) (Nat.le_refl _)⟩
  case round =>
    obtain ⟨k, c, rfl, hk, hj⟩ := hrel
    obtain ⟨f1, f2, f3, m, twv, tsv, f4⟩ := HF.out _ k c wr hj
    by_cases hlt : k < n
    · obtain ⟨a, cap, e, p1, p2, p3⟩ := f3
      cases e
      rcases p3 with p3 | ⟨g, off, rfl, p3⟩
      · exfalso; have := HBN.out; rw [p3] at this; simp at this; omega
      · have hc := p3 k (by have := HBN.out; omega)
        have HC := Lib.hid (HSP.out _ k c wr (by have := HBN.out; omega) hj)
        obtain ⟨b, hb⟩ : ∃ b, bs.getD k 0 = b := ⟨_, rfl⟩
        rw [hb] at hc HC
        have hk0 : (0 : Int) ≤ k := by omega
        have hk1 : (k : Int) < n := by omega
        clear p1 p2 p3 f1 f4 hj hb
        go_wp2_with (first | (go_at_call 14; ((with_reducible refine HC.out.mono ?_); rintro e w5 ⟨C, m5, wv, sv, nw, xs, rfl, hst, hsp, how, hnw, hI1, hI0⟩; unfold ptrV; have s0 : w5.cell? ⟨w.heap.size, 0, none⟩ = some (.int .i64 c) := cell_of hst 0 rfl; have sf : w5.frozen? ⟨w.heap.size, 0, none⟩ = false := free_of hst 0; have d0 : w5.cell? ⟨C, 0, none⟩ = some (.bool m5) := cell_of hsp 0 rfl; have d1 : w5.cell? ⟨C, 1, none⟩ = some wv := cell_of hsp 1 rfl; have hne := step_ne hst hsp; have hne2 : C ≠ w.heap.size := fun e => hne e.symm; have HI1 := Lib.hid hI1; have HI0 := Lib.hid hI0; have HSPT := Lib.hid hsp; have HST5 := Lib.hid hst; have HOW := Lib.hid how; have HRW := Lib.hid (step_row hst how); clear hst hsp hI1 hI0 how; cases m5)) | (at_builtin; (refine wpList_append_lies _ rfl _ _ 39 rfl 0 79 i0 _ 1 8 Try.underlying39 hi0 hz0 hz1 hz2 rfl (by decide) wv nw xs rfl (World.ownsRow.alloc (w := (w5.setCell ⟨w.heap.size, 0, none⟩ (.int .i64 ((c : Int) + 1)))) (World.ownsRow.kept HOW.out (grown_set _ _ _ _) (.inr HRW.out)) _) ⟨w5.heap.size, 0, none⟩ 1 1 [ptrV w.heap.size] rfl rfl (news_set w5 _ _ _) (by simp [Value.oneCell', ptrV]) (by decide) (by unfold maxLen; omega) (by omega) (Nat.zero_le _) _ rfl ?_); intro g7 cp w7 hown hgrow hat hlt7; have HW := Lib.hid (waits_mk HST5.out HSPT.out HOW.out hown hgrow hat rfl); have y1 : w7.cell? ⟨C, 1, none⟩ = some wv := cell_of HW.out.1 1 rfl; have yf : w7.frozen? ⟨C, 1, none⟩ = false := free_of HW.out.1 1; clear hown hgrow hat hlt7) | fail)
        · exact ⟨⟨k + 1, c + 1, by go_num, by omega, HI0.out (by simp) _ HW.out.2⟩, by simp [intOf]; omega⟩
        · exact ⟨⟨k + 1, c, by go_num, by omega, HI1.out (by simp)⟩, by simp [intOf]; omega⟩
    · have e : k = n := by omega
      subst e
      have HJ := Lib.hid hj
      have s0 : wr.cell? ⟨w.heap.size, 0, none⟩ = some (.int .i64 c) := cell_of f1 0 rfl
      have t0 : wr.cell? ⟨To, 0, none⟩ = some (.bool m) := cell_of f4 0 rfl
      have tf : wr.frozen? ⟨To, 0, none⟩ = false := free_of f4 0
      clear f1 f2 f3 f4 hj
      by_cases hc0 : c = 0
      · subst hc0
        go_wp2
        refine bodyPost_end (results_none rfl _ _ _) rfl ?_
        exact ⟨⟨_, rfl⟩, _, 0, wr, HJ.out, .inl ⟨rfl, rfl⟩⟩
      · have hcb : ((c : Int) == 0) = false := beqf (by omega)
        go_wp2
        refine bodyPost_end (results_none rfl _ _ _) rfl ?_
        exact ⟨⟨_, rfl⟩, _, c, wr, HJ.out, .inr ⟨hc0, rfl⟩⟩
end Go.Proofs.Yteiadbiopcidmaa
