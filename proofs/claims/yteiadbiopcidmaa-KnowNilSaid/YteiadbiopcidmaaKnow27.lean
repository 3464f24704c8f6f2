/- know: the first example's grow of the Seal. -/
import Derived.Test.YteiadbiopcidmaaKnow26
namespace Go.Proofs.Yteiadbiopcidmaa
set_option linter.unusedVariables false
set_option linter.unusedSimpArgs false
set_option maxRecDepth 100000
open Go.RowKit
def tK1 : Tm := .mk 8 [107, 40, 49, 44, 97, 49, 44, 48, 41] [.mk 2 [97, 49] [], .mk 1 [48] []]
def tZ0 : Tm := .mk 1 [48] []
/-- what stands when the Seal is had -/
def St1 (K N : Nat) (W : World) : Prop :=
  ∃ hm sm A Z C st gw cw gs cs b2, N ≤ hm ∧ N ≤ A ∧ N ≤ st ∧ N ≤ C ∧ sm ≠ hm ∧ KnowIs W K (.map (some hm)) (.map (some sm)) ∧ MapIs Value.bool W hm ([] ++ [(nameOf tS, true)]) ∧ MapIs ptrV W sm ((([] ++ [(nameOf tK1, C)]) ++ [(nameOf tA1, A)]) ++ [(nameOf tZ0, Z)]) ∧
    Chain W A st C gw cw gs cs b2 1 false ∧ PieceAt (fun k => k < N) W tA2 b2
theorem row_low {w : World} {b c : Nat} {e : TypeId} {v : Value} {n : Nat} {xs : List Value} (h : w.ownsRow b e 1 v n xs) (hc : c ≤ b) : w.ownsRow c e 1 v n xs := by
  refine ⟨h.1, ?_⟩
  rcases h.2 with h | ⟨g, cp, cur, h1, h2, h3⟩
  · exact .inl h
  · exact .inr ⟨g, cp, cur, h1, Nat.le_trans hc h2, h3⟩
theorem cells_ne {w : World} {a b : Nat} {C D : Array Value} {T U : TypeId} (h : w.heap[a]? = some (.cells C T (0, 0))) (h2 : w.heap[b]? = some (.cells D U (0, 0))) (hT : T ≠ U) : a ≠ b := by
  intro e; subst e
  rw [h] at h2
  have := Option.some.inj h2
  simp at this
  exact hT this.2
theorem spot_eq {w : World} {a : Nat} {m m2 : Bool} {v v2 s s2 : Value} (h : SpotIs w a m v s) (h2 : SpotIs w a m2 v2 s2) : v = v2 := by
  unfold SpotIs at h h2
  rw [h] at h2
  have := Option.some.inj h2
  simp at this
  exact this.2.1
set_option maxHeartbeats 2000000 in
theorem within_S (K hm sm N0 g B : Nat) (w W0 W : World) (hhm : hm = w.heap.size) (hsm : sm = w.heap.size + 1) (hN0 : N0 = w.heap.size) (hk0 : Kept (fun k => k = K) w W0) (hg : w.heap.size + 1 + 1 ≤ g) (h : PutIs W0 K hm sm [] [] (fun k => k ≠ K ∧ k < N0) tS B g 1 W) :
    Calls Try.prog 20 #[.pointer (some ⟨K, 0, none⟩), .pointer (some ⟨B, 0, none⟩)] W fun e W' => e = .returned (.slice none 0 0) ∧ (St1 K N0 W' ∧ Kept (fun k => k = K) w W') ∧ ∃ cur, W'.heap[g]? = some (.cells cur 33 (0, 0)) ∧ cur.size = 1 := by
  have hwW0 := hk0.size
  have hW0W := h.kept.size
  have kW : Kept (fun k => k = K) w W := hk0.trans h.kept (fun k hk e => e.elim id (fun e => by omega))
  refine (kwithin_seal (fun k => k = sm) (fun C W' => KeyAt W sm [] (nameOf tK1) (nameOf tA1) (nameOf tZ0) C W') _ tK1 tA2 [tZ0] B K _ W h.p (fun k hk e => by have := hk.2; omega) ?_).mono ?_
  · intro b0 hb0
    refine (kspot_key tK1 (fun h => by cases h) (fun h => by cases h) b0 _ W hb0 K hm sm _ [] h.k h.h h.s rfl (fun k hk e => by have := hk.2; omega) (by rfl) (by omega) tA1 tZ0 rfl (fun h => by cases h) (fun h => by cases h) rfl (fun C => rfl) rfl (fun h => by cases h) (fun h => by cases h) rfl (fun C A => rfl) rfl).mono ?_
    rintro e W' ⟨Bn, rfl, hkey⟩
    have hk2 := hkey
    obtain ⟨A, Z, st, gw, cw, _, _, k1, _, hsp, _⟩ := hk2
    exact ⟨Bn, _, rfl, k1, hkey, hsp⟩
  · rintro e W' ⟨b1, hp1, rfl, C, wv, v, W1, k1, hkey, hsp1, k2, hsp2, hrow⟩
    obtain ⟨A, Z, st, gw, cw, hA1, hst1, k3, hC1, hspC, hspA, hstp, hrw, hmp⟩ := hkey
    obtain rfl := spot_eq hsp1 hspC
    obtain ⟨gs, cs, rfl⟩ := own_one (row_low hrow (Nat.zero_le _))
    have hAC : A ≠ C := fun e => spot_ne hspA hspC (by simp) e
    have hSC : st ≠ C := fun e => step_ne hstp hspC e
    have k13 : Kept (fun k => k = sm ∨ k = C) W W' := k1.trans k2 (fun k _ e => e)
    have hKs : K ≠ sm := know_map h.k h.s
    have hKlt : K < W.heap.size := (Array.getElem?_eq_some_iff.1 h.k).1
    have hstW : ∃ cur, W.heap[g]? = some (.cells cur 33 (0, 0)) ∧ cur.size = 1 := by
      obtain ⟨cur, h1, h2, _⟩ := h.st; exact ⟨cur, h1, h2⟩
    have hglt : g < W.heap.size := by obtain ⟨cur, h1, _⟩ := hstW; exact (Array.getElem?_eq_some_iff.1 h1).1
    refine ⟨rfl, ⟨⟨hm, sm, A, Z, C, st, gw, cw, gs, cs, b1, by omega, by omega, by omega, by omega, by omega, k13.at h.k ?_, k13.at h.h ?_, k2.at hmp ?_, ⟨k2.at hspA hAC, k2.at hstp hSC, hsp2, ?_, row_low hrow (Nat.zero_le _)⟩, ?_⟩, ?_⟩, ?_⟩
    · rintro (e | e)
      · exact hKs e
      · omega
    · rintro (e | e)
      · omega
      · omega
    · intro e
      exact cells_map hspC hmp e.symm
    · exact own_keep hrw k2 (fun k e e2 => spot_row hspC hrw (by rw [e, e2]))
    · refine (hp1.inHeap (ok' := fun k => k < N0) (fun k h1 _ => h1.2)).keep k13 (fun k hk e => ?_)
      rcases e with e | e
      · omega
      · omega
    · exact kW.trans k13 (fun k hk e => by
        rcases e with e | e | e
        · exact e
        · omega
        · omega)
    · obtain ⟨cur, h1, h2⟩ := hstW
      refine ⟨cur, k13.at h1 ?_, h2⟩
      rintro (e | e)
      · omega
      · omega
set_option linter.unusedVariables false
set_option linter.unusedSimpArgs false
set_option maxRecDepth 100000
open Go.RowKit
def RowIs (W : World) (P : Nat) (x y : List UInt8) : Prop := W.heap[P]? = some (.cells #[strV x, strV y] 9 (0, 0))
theorem row_strs {W : World} {P : Nat} {x y : List UInt8} (h : RowIs W P x y) : Strs W (.slice (some ⟨P, 0, none⟩) [x, y].length 2) [x, y] := by
  refine ⟨_, 2, rfl, fun h => (by cases h), .inr ⟨P, 0, rfl, fun i hi => ?_⟩⟩
  rw [Nat.zero_add]
  have hi2 : i < 2 := hi
  have hc : i = 0 ∨ i = 1 := by omega
  rcases hc with rfl | rfl
  · exact cell_of h 0 rfl
  · exact cell_of h 1 rfl
theorem chain_gr {w W : World} {A st Kb gw cw gs cs b2 c hm : Nat} {m : Bool} {Hd : List (Name × Bool)} (h : Chain w A st Kb gw cw gs cs b2 c m) (hh : MapIs Value.bool w hm Hd) (hg : w.grownBy W none) : Chain W A st Kb gw cw gs cs b2 c m :=
  chain_hm h hh (Kept.mono (Kept.of_grown hg) (fun k _ e => by cases e))
def HdK : List (Name × Bool) := (([] ++ [(nameOf tS, true)]) ++ [(nameOf tA1, true)]) ++ [(nameOf tA2, true)]
def GK (w : World) (K P : Nat) (i : Nat) (W : World) : Prop :=
  RowIs W P xS xA1 ∧ Below K w W ∧ ((i = 0 ∧ KnowIs W K (.map none) (.map none)) ∨ (i = 1 ∧ ∃ N, K < N ∧ N ≤ W.heap.size ∧ St1 K N W) ∨ (i = 2 ∧ ∃ hm sm, KnowIs W K (.map (some hm)) (.map (some sm)) ∧ MapIs Value.bool W hm HdK))
theorem kadd_k (K P : Nat) (w : World) (hk : KnowIs w K (.map none) (.map none)) (hr : RowIs w P xS xA1) :
    Calls Try.prog 5 #[.pointer (some ⟨K, 0, none⟩), .slice (some ⟨P, 0, none⟩) 2 2] w fun e W => e = .returned (.int .i64 0) ∧ Below K w W ∧ ∃ hm sm, KnowIs W K (.map (some hm)) (.map (some sm)) ∧ MapIs Value.bool W hm HdK := by
  have hKlt : K < w.heap.size := (Array.getElem?_eq_some_iff.1 hk).1
  refine (kadd_any (GK w K P) K (some ⟨P, 0, none⟩) 2 [xS, xA1] [tS, tA1] w (row_strs hr) (by decide) ?_ ?_ ?_ ?_ ?_).mono ?_
  · intro t ht
    simp at ht
    rcases ht with rfl | rfl <;> decide
  · intro i t hi
    have hi2 : i < 2 := (List.getElem?_eq_some_iff.1 hi).1
    have hc : i = 0 ∨ i = 1 := by omega
    rcases hc with rfl | rfl
    · cases hi; exact ⟨by rw [look_xS]; decide, tS, 30, [], rfl, read_xS⟩
    · cases hi; exact ⟨by rw [look_xA1]; decide, tA1, 30, [], rfl, read_xA1⟩
  · intro W hb
    exact ⟨(hb.block P (Array.getElem?_eq_some_iff.1 hr).1).trans hr, hb.mono (Nat.le_of_lt hKlt), .inl ⟨rfl, (hb.block K hKlt).trans hk⟩⟩
  · intro i W h
    exact row_strs h.1
  · intro i tm W W2 B htm hi hG hp hg
    obtain ⟨hrow, hbel, hcase⟩ := hG
    have hrow2 : RowIs W2 P xS xA1 := keep_far hrow hg (fun e => by cases e)
    have hbel2 : Below K w W2 := below_kept hbel (Kept.of_grown hg) (Nat.le_trans (Nat.le_of_lt hKlt) hbel.size) (fun k e => by cases e)
    rcases hcase with ⟨rfl, hkw⟩ | ⟨rfl, N, hKN, hNW, hst⟩ | ⟨rfl, _⟩
    · cases htm
      have hk2 : KnowIs W2 K (.map none) (.map none) := KnowIs.keep hkw hg (fun e => by cases e)
      have hKW : K < W.heap.size := (Array.getElem?_eq_some_iff.1 hkw).1
      refine (kgrow_fresh (fun W' => St1 K W2.heap.size W' ∧ Kept (fun k => k = K) W2 W') tS (fun h => by cases h) B (Fr W.heap.size) W2 K hk2 hp (fun k hk e => by unfold Fr at hk; omega) W2.heap.size (W2.heap.size + 1) W2.heap.size rfl rfl rfl (fun W0 g W' h0 hge h => within_S K _ _ _ g B W2 W0 W' rfl rfl rfl h0 hge h)).mono ?_
      rintro e W3 ⟨hx, hs1, hk3⟩
      have hPK : P ≠ K := cells_ne hrow2 hk2 (by decide)
      exact ⟨hx, hk3.at hrow2 hPK, below_kept hbel2 hk3 (Nat.le_trans (Nat.le_of_lt hKW) hg.size) (fun k e => by omega), .inr (.inl ⟨rfl, W2.heap.size, Nat.lt_of_lt_of_le hKW hg.size, hk3.size, hs1⟩)⟩
    · cases htm
      obtain ⟨hm, sm, A, Z, C, st, gw, cw, gs, cs, b2, n1, n2, n3, n4, hsh, hkw, hh, hs, hch, hp2⟩ := hst
      have hmW : hm < W.heap.size := (Array.getElem?_eq_some_iff.1 hh).1
      have hAW : A < W.heap.size := (Array.getElem?_eq_some_iff.1 hch.a).1
      have hsW : st < W.heap.size := (Array.getElem?_eq_some_iff.1 hch.s).1
      have hCW : C < W.heap.size := (Array.getElem?_eq_some_iff.1 hch.k).1
      have hch2 := chain_gr hch hh hg
      have hh2 : MapIs Value.bool W2 hm _ := MapIs.keep hh hg (fun e => by cases e)
      have hWW := hg.size
      refine (kgrow_two tA1 tA2 (fun h => by cases h) (fun h => by cases h) (by decide) (by decide) B b2 (fun k => W.heap.size ≤ k ∧ k < W2.heap.size) (fun k => k < N) W2 K hm sm _ _ A st C gw cw gs cs (KnowIs.keep hkw hg (fun e => by cases e)) hh2 (MapIs.keep hs hg (fun e => by cases e)) (hp.inHeap (fun k h1 h2 => ⟨h1, h2⟩)) (hp2.kept hg (fun r e => by cases e)) hsh ?_ ?_ rfl rfl rfl rfl hch2).mono ?_
      · rintro k ⟨h1, h2⟩
        refine ⟨?_, h2⟩
        rintro (e | e | e | e) <;> omega
      · intro k h1
        refine ⟨?_, by omega⟩
        rintro (e | e | e | e) <;> omega
      · rintro e W3 ⟨hx, hk3, hm3, hkp⟩
        refine ⟨hx, hkp.at hrow2 ?_, below_kept hbel2 hkp (by omega) ?_, .inr (.inr ⟨rfl, hm, sm, hk3, hm3⟩)⟩
        · rintro (e | e | e | e)
          · exact cells_map hrow2 hh2 e
          · exact cells_ne hrow2 hch2.a (by decide) e
          · exact cells_ne hrow2 hch2.s (by decide) e
          · exact cells_ne hrow2 hch2.k (by decide) e
        · rintro k (e | e | e | e) <;> omega
    · simp at hi
  · rintro e W ⟨he, _, hb, ⟨h, _⟩ | ⟨h, _⟩ | ⟨_, h⟩⟩
    · cases h
    · cases h
    · exact ⟨he, hb, h⟩
def HdJ : List (Name × Bool) := ([] ++ [(nameOf tP1, true)]) ++ [(nameOf tA2, true)]
def GJ (w : World) (K P : Nat) (i : Nat) (W : World) : Prop :=
  RowIs W P xP1 xA2 ∧ Below K w W ∧ ((i = 0 ∧ KnowIs W K (.map none) (.map none)) ∨ (i = 1 ∧ ∃ hm sm, K < hm ∧ sm ≠ hm ∧ KnowIs W K (.map (some hm)) (.map (some sm)) ∧ MapIs Value.bool W hm ([] ++ [(nameOf tP1, true)]) ∧ MapIs ptrV W sm []) ∨ (i = 2 ∧ ∃ hm sm, KnowIs W K (.map (some hm)) (.map (some sm)) ∧ MapIs Value.bool W hm HdJ))
theorem kadd_j (K P : Nat) (w : World) (hk : KnowIs w K (.map none) (.map none)) (hr : RowIs w P xP1 xA2) :
    Calls Try.prog 5 #[.pointer (some ⟨K, 0, none⟩), .slice (some ⟨P, 0, none⟩) 2 2] w fun e W => e = .returned (.int .i64 0) ∧ Below K w W ∧ ∃ hm sm, KnowIs W K (.map (some hm)) (.map (some sm)) ∧ MapIs Value.bool W hm HdJ := by
  have hKlt : K < w.heap.size := (Array.getElem?_eq_some_iff.1 hk).1
  refine (kadd_any (GJ w K P) K (some ⟨P, 0, none⟩) 2 [xP1, xA2] [tP1, tA2] w (row_strs hr) (by decide) ?_ ?_ ?_ ?_ ?_).mono ?_
  · intro t ht
    simp at ht
    rcases ht with rfl | rfl <;> decide
  · intro i t hi
    have hi2 : i < 2 := (List.getElem?_eq_some_iff.1 hi).1
    have hc : i = 0 ∨ i = 1 := by omega
    rcases hc with rfl | rfl
    · cases hi; exact ⟨by rw [look_xP1]; decide, tP1, 30, [], rfl, read_xP1⟩
    · cases hi; exact ⟨by rw [look_xA2]; decide, tA2, 30, [], rfl, read_xA2⟩
  · intro W hb
    exact ⟨(hb.block P (Array.getElem?_eq_some_iff.1 hr).1).trans hr, hb.mono (Nat.le_of_lt hKlt), .inl ⟨rfl, (hb.block K hKlt).trans hk⟩⟩
  · intro i W h
    exact row_strs h.1
  · intro i tm W W2 B htm hi hG hp hg
    obtain ⟨hrow, hbel, hcase⟩ := hG
    have hrow2 : RowIs W2 P xP1 xA2 := keep_far hrow hg (fun e => by cases e)
    have hbel2 : Below K w W2 := below_kept hbel (Kept.of_grown hg) (Nat.le_trans (Nat.le_of_lt hKlt) hbel.size) (fun k e => by cases e)
    have hWW := hg.size
    rcases hcase with ⟨rfl, hkw⟩ | ⟨rfl, hm, sm, hKm, hsh, hkw, hh, hs⟩ | ⟨rfl, _⟩
    · cases htm
      have hk2 : KnowIs W2 K (.map none) (.map none) := KnowIs.keep hkw hg (fun e => by cases e)
      have hKW : K < W.heap.size := (Array.getElem?_eq_some_iff.1 hkw).1
      have hPK : P ≠ K := cells_ne hrow2 hk2 (by decide)
      refine (kgrow_fresh (fun W' => (KnowIs W' K (.map (some W2.heap.size)) (.map (some (W2.heap.size + 1))) ∧ MapIs Value.bool W' W2.heap.size ([] ++ [(nameOf tP1, true)]) ∧ MapIs ptrV W' (W2.heap.size + 1) []) ∧ Kept (fun k => k = K) W2 W') tP1 (fun _ h => by cases h) B (Fr W.heap.size) W2 K hk2 hp (fun k hk e => by unfold Fr at hk; omega) W2.heap.size (W2.heap.size + 1) W2.heap.size rfl rfl rfl (fun W0 g W' h0 hge h => ?_)).mono ?_
      · refine (kwithin_other tP1 (by decide) (by decide) B _ W' h.p _).mono ?_
        rintro e W'' ⟨rfl, rfl⟩
        refine ⟨rfl, ⟨⟨h.k, h.h, h.s⟩, h0.trans h.kept (fun k hk e => e.elim id (fun e => by omega))⟩, ?_⟩
        obtain ⟨cur, h1, h2, _⟩ := h.st
        exact ⟨cur, h1, h2⟩
      · rintro e W3 ⟨hx, ⟨s1, s2, s3⟩, hk3⟩
        exact ⟨hx, hk3.at hrow2 hPK, below_kept hbel2 hk3 (by omega) (fun k e => by omega), .inr (.inl ⟨rfl, _, _, by omega, by omega, s1, s2, s3⟩)⟩
    · cases htm
      have hmW : hm < W.heap.size := (Array.getElem?_eq_some_iff.1 hh).1
      have hh2 : MapIs Value.bool W2 hm _ := MapIs.keep hh hg (fun e => by cases e)
      refine (kgrow_one (fun W' => (KnowIs W' K (.map (some hm)) (.map (some sm)) ∧ MapIs Value.bool W' hm HdJ) ∧ Kept (fun k => k = hm) W2 W') tA2 (fun h => by cases h) B (Fr W.heap.size) W2 K hm sm _ _ (KnowIs.keep hkw hg (fun e => by cases e)) hh2 (MapIs.keep hs hg (fun e => by cases e)) hp hsh (fun k hk e => by unfold Fr at hk; omega) rfl rfl (fun W0 g W' h0 hge h => ?_)).mono ?_
      · refine (kwithin_other tA2 (by decide) (by decide) B _ W' h.p _).mono ?_
        rintro e W'' ⟨rfl, rfl⟩
        refine ⟨rfl, ⟨⟨h.k, h.h⟩, h0.trans h.kept (fun k hk e => e.elim False.elim id)⟩, ?_⟩
        obtain ⟨cur, h1, h2, _⟩ := h.st
        exact ⟨cur, h1, h2⟩
      · rintro e W3 ⟨hx, ⟨s1, s2⟩, hk3⟩
        exact ⟨hx, hk3.at hrow2 (cells_map hrow2 hh2), below_kept hbel2 hk3 (by omega) (fun k e => by omega), .inr (.inr ⟨rfl, hm, sm, s1, s2⟩)⟩
    · simp at hi
  · rintro e W ⟨he, _, hb, ⟨h, _⟩ | ⟨h, _⟩ | ⟨_, h⟩⟩
    · cases h
    · cases h
    · exact ⟨he, hb, h⟩
end Go.Proofs.Yteiadbiopcidmaa
