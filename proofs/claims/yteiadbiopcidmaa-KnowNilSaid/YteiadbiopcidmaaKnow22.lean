/- know: grow of a term that isn't had, by which nothing opens. -/
import Derived.Test.YteiadbiopcidmaaKnow20
import Derived.Laws.AppendOwnNone
namespace Go.Proofs.Yteiadbiopcidmaa
set_option linter.unusedVariables false
set_option linter.unusedSimpArgs false
set_option maxRecDepth 100000
open Go.RowKit

theorem step_append_none {P : Program} {ops : Array Oper} {o : Oper} {a : Act} {w : World} {K : Act → World → Prop} {Q : Exit → Act → World → Prop} {E : Prop} (hgd : o.guard = none) (s x : Operand) (t : TypeId)
    (ho : o.op = .call { callee := .builtin .append, args := #[s, x], argTypes := #[t, t] })
    (base : Nat) (e : TypeId) (i : TypeInfo) (size : Nat) (ht : P.underlying t = some (.slice e)) (hi : P.info? e = some i)
    (v : Value) (n : Nat) (xs : List Value) (hs : a.eval s = v) (hown : w.ownsRow base e size v n xs) (hx : a.eval x = .slice none 0 0)
    (h : K (a.put o.dst v) w) : if Region.wanted o (yielded ops a.tmps) = true then Oper.wp P o a w K Q else E := by
  have hw : Region.wanted o (yielded ops a.tmps) = true := by simp [Region.wanted, hgd]
  rw [if_pos hw]
  have hrun := run_append_owned_none (P := P) (w := w) base t o.type e i size ht hi v n xs hown
  unfold Oper.wp
  simp [execOp, ho, resolve, invoke, builtin, hs, hx, hrun, Result.andThen]
  exact h
theorem eql_map_nil (w : World) (m : Nat) : (binOp BinOp.eql 35 (.map (some m)) (.map none)).run Try.prog w = .ok (.bool false) w := by kernel_rfl
theorem eql_map_nn (w : World) : (binOp BinOp.eql 35 (.map none) (.map none)).run Try.prog w = .ok (.bool true) w := by kernel_rfl
theorem know_map {w : World} {K m : Nat} {hv sv : Value} {α : Type} {f : α → Value} {L : List (Name × α)} (h : KnowIs w K hv sv) (h2 : MapIs f w m L) : K ≠ m := by
  intro e; subst e
  unfold KnowIs at h; unfold MapIs at h2
  rw [h] at h2
  cases h2
theorem row_zero {w : World} {g c : Nat} {T : TypeId} {cur : Array Value} (h : w.heap[g]? = some (.cells cur T (0, 0))) (hc : cur.size = c) (hm : c ≤ maxLen) : w.ownsRow 0 T 1 (.slice (some ⟨g, 0, none⟩) 0 c) 0 [] :=
  ⟨rfl, .inr ⟨g, c, cur, rfl, Nat.zero_le _, h, Nat.zero_le _, hm, by simpa using hc, rfl⟩⟩
/-- a stack's block, at whose head a piece stands -/
def StackAt (w : World) (g c B : Nat) : Prop := ∃ cur, w.heap[g]? = some (.cells cur 33 (0, 0)) ∧ cur.size = c ∧ c ≤ maxLen ∧ cur[0]? = some (ptrV B)
theorem StackAt.cell {w : World} {g c B : Nat} (h : StackAt w g c B) : w.cell? ⟨g, 0, none⟩ = some (.pointer (some ⟨B, 0, none⟩)) := by
  obtain ⟨cur, h1, _, _, h2⟩ := h
  exact cell_of h1 0 h2
theorem StackAt.row {w : World} {g c B : Nat} (h : StackAt w g c B) : w.ownsRow 0 33 1 (.slice (some ⟨g, 0, none⟩) 0 c) 0 [] := by
  obtain ⟨cur, h1, h2, h3, _⟩ := h
  exact row_zero h1 h2 h3
theorem StackAt.far {w w' : World} {g c B : Nat} {row : Option Nat} (h : StackAt w g c B) (hg : w.grownBy w' row) (hr : some g ≠ row) : StackAt w' g c B := by
  obtain ⟨cur, h1, h2⟩ := h
  exact ⟨cur, keep_far h1 hg hr, h2⟩
/-- what stands when a term of the stack is looked at -/
structure GrowIs (w : World) (K hm sm : Nat) (Hd : List (Name × Bool)) (Sp : List (Name × Nat)) (ok : Nat → Prop) (tm : Tm) (B g c : Nat) : Prop where
  k : KnowIs w K (.map (some hm)) (.map (some sm))
  h : MapIs Value.bool w hm Hd
  s : MapIs ptrV w sm Sp
  p : PieceAt ok w tm B
  st : StackAt w g c B
/-- behind a name's being had -/
structure PutIs (w : World) (K hm sm : Nat) (Hd : List (Name × Bool)) (Sp : List (Name × Nat)) (ok : Nat → Prop) (tm : Tm) (B g c : Nat) (W : World) : Prop where
  k : KnowIs W K (.map (some hm)) (.map (some sm))
  h : MapIs Value.bool W hm (Hd ++ [(nameOf tm, true)])
  s : MapIs ptrV W sm Sp
  p : PieceAt ok W tm B
  st : StackAt W g c B
  kept : Kept (fun k => k = hm) w W
theorem cells_map {w : World} {K m : Nat} {C : Array Value} {T : TypeId} {α : Type} {f : α → Value} {L : List (Name × α)} (h : w.heap[K]? = some (.cells C T (0, 0))) (h2 : MapIs f w m L) : K ≠ m := by
  intro e; subst e
  unfold MapIs at h2
  rw [h] at h2
  cases h2
theorem put_is {w W : World} {K hm sm : Nat} {Hd : List (Name × Bool)} {Sp : List (Name × Nat)} {ok : Nat → Prop} {tm : Tm} {B g c : Nat} (h : GrowIs w K hm sm Hd Sp ok tm B g c) (hsh : sm ≠ hm) (hok : ∀ k, ok k → k ≠ hm) (hk : Kept (fun k => k = hm) w W) (hm2 : MapIs Value.bool W hm (Hd ++ [(nameOf tm, true)])) : PutIs w K hm sm Hd Sp ok tm B g c W :=
  ⟨hk.at h.k (know_map h.k h.h), hm2, hk.at h.s hsh, h.p.keep hk hok, (by obtain ⟨cur, h1, h2⟩ := h.st; exact ⟨cur, hk.at h1 (cells_map h1 h.h), h2⟩), hk⟩
theorem PutIs.grown {w W W2 : World} {K hm sm : Nat} {Hd : List (Name × Bool)} {Sp : List (Name × Nat)} {ok : Nat → Prop} {tm : Tm} {B g c : Nat} (h : PutIs w K hm sm Hd Sp ok tm B g c W) (hg : W.grownBy W2 none) : PutIs w K hm sm Hd Sp ok tm B g c W2 :=
  ⟨KnowIs.keep h.k hg (fun e => by cases e), MapIs.keep h.h hg (fun e => by cases e), MapIs.keep h.s hg (fun e => by cases e), h.p.kept hg (fun r e => by cases e), h.st.far hg (fun e => by cases e), h.kept.grown hg⟩
set_option maxHeartbeats 8000000 in
theorem kgrow_one (R : World → Prop) (tm : Tm) (h5 : tm.kind = 5 → tm.parts ≠ []) (B : Nat) (ok : Nat → Prop) (w : World) (K hm sm : Nat) (Hd : List (Name × Bool)) (Sp : List (Name × Nat))
    (hk : KnowIs w K (.map (some hm)) (.map (some sm))) (hh : MapIs Value.bool w hm Hd) (hs : MapIs ptrV w sm Sp) (hp : PieceAt ok w tm B) (hsh : sm ≠ hm) (hok : ∀ k, ok k → k ≠ hm)
    (hl : lookL Hd (nameOf tm) = none) (hl2 : lookL Sp (nameOf tm) = none)
    (hwith : ∀ W0 g W, Kept (fun _ => False) w W0 → w.heap.size ≤ g → PutIs W0 K hm sm Hd Sp ok tm B g 1 W → Calls Try.prog 20 #[.pointer (some ⟨K, 0, none⟩), .pointer (some ⟨B, 0, none⟩)] W fun e W' => e = .returned (.slice none 0 0) ∧ R W' ∧ ∃ cur, W'.heap[g]? = some (.cells cur 33 (0, 0)) ∧ cur.size = 1) :
    Calls Try.prog 12 #[.pointer (some ⟨K, 0, none⟩), .pointer (some ⟨B, 0, none⟩)] w fun e W => (∃ x, e = .returned x) ∧ R W := by
  obtain ⟨ip, hp0, hpz, hp1, hp2⟩ := info_parts Try.infoPc
  obtain ⟨nv, hnv⟩ : ∃ nv, nameV (nameOf tm) = nv := ⟨_, rfl⟩
  have HNM : Hid (∀ w, PieceAt ok w tm B → Calls Try.prog 15 #[.pointer (some ⟨B, 0, none⟩)] w fun e w' => e = .returned nv ∧ w.grownBy w' none) := Lib.hid (fun w h => by
    have := kname_any tm h5 B ok w h
    rw [hnv] at this; exact this)
  have HLH : Hid (∀ w, MapIs Value.bool w hm Hd → (Instr.lookup 35 (.map (some hm)) nv false).run Try.prog w = .ok (.bool false) w) := Lib.hid (fun w h => by
    rw [← hnv]
    exact look_out Value.bool w hm _ _ Try.underlying35 Hd (nameOf tm) (.bool false) false (zero_bool w) h hl)
  have HLS : Hid (∀ w, MapIs ptrV w sm Sp → (Instr.lookup 36 (.map (some sm)) nv false).run Try.prog w = .ok (.pointer none) w) := Lib.hid (fun w h => by
    rw [← hnv]; exact look_out ptrV w sm _ _ Try.underlying36 Sp (nameOf tm) _ false (zero_spot w) h hl2)
  have HPUT : Hid (∀ w, MapIs Value.bool w hm Hd → ∃ w', (Instr.mapUpdate 35 (.map (some hm)) nv (.bool true)).run Try.prog w = .ok () w' ∧ MapIs Value.bool w' hm (Hd ++ [(nameOf tm, true)]) ∧ w.grownBy w' (some hm)) := Lib.hid (fun w h => by
    rw [← hnv]; exact put_new Value.bool w hm _ _ Try.underlying35 Hd (nameOf tm) true h hl)
  have HSH := Lib.hid hsh
  have HOK := Lib.hid hok
  have HWI := Lib.hid hwith
  have i0 : w.cell? ⟨K, 0, none⟩ = some (.map (some hm)) := cell_of hk 0 rfl
  have HGI : Hid (GrowIs (w.alloc (.cells #[.pointer (some ⟨B, 0, none⟩)] 33)) K hm sm Hd Sp ok tm B w.heap.size 1) := Lib.hid ⟨keep_alloc hk _, keep_alloc hh _, keep_alloc hs _, hp.kept (World.grownBy_alloc w _ none) (fun r e => by cases e), ⟨_, heap_alloc_new w _, rfl, by decide, rfl⟩⟩
  have HGK : Hid (Kept (fun _ => False) w (w.alloc (.cells #[.pointer (some ⟨B, 0, none⟩)] 33))) := Lib.hid (Kept.mono (Kept.of_grown (World.grownBy_alloc w (.cells #[.pointer (some ⟨B, 0, none⟩)] 33) none)) (fun k _ e => by cases e))
  clear hk hh hs hp hsh hok hl hl2 hwith hnv h5
  have hq : ∀ W : World, (binOp BinOp.eql 35 (.map (some hm)) (.map none)).run Try.prog W = .ok (.bool false) W := fun W => eql_map_nil W hm
  go_enter Try.func12, Try.ntmps12
  go_wp2
  refine wp_scope_goto 0 (fun n a' wr => n ≤ 1 ∧ a'.defers = [] ∧ a'.tmps.size = 62 ∧ a'.tmps.getD 0 undef = .pointer (some ⟨K, 0, none⟩) ∧ a'.tmps.getD 4 undef = .slice (some ⟨w.heap.size, 0, none⟩) n 1 ∧ ((n = 1 ∧ wr = w.alloc (.cells #[.pointer (some ⟨B, 0, none⟩)] 33)) ∨ (n = 0 ∧ R wr))) rfl ?_ ?_
  · intro R2 hpass hout
    go_wp2
    first | go_step3 | skip
    first | go_step | skip
    first | go_step | skip
    exact hpass 1 _ _ ⟨Nat.le_refl _, rfl, rfl, rfl, rfl, .inl ⟨rfl, rfl⟩⟩
  · intro n a' wr hrel J hJ
    obtain ⟨hn, hfd, hfs, hf0, hf4, hcase⟩ := hrel
    obtain ⟨T, DD⟩ := a'
    obtain rfl : DD = [] := hfd
    obtain ⟨u, hu⟩ : ∃ u : Nat → Value, T = #[u 0, u 1, u 2, u 3, u 4, u 5, u 6, u 7, u 8, u 9, u 10, u 11, u 12, u 13, u 14, u 15, u 16, u 17, u 18, u 19, u 20, u 21, u 22, u 23, u 24, u 25, u 26, u 27, u 28, u 29, u 30, u 31, u 32, u 33, u 34, u 35, u 36, u 37, u 38, u 39, u 40, u 41, u 42, u 43, u 44, u 45, u 46, u 47, u 48, u 49, u 50, u 51, u 52, u 53, u 54, u 55, u 56, u 57, u 58, u 59, u 60, u 61] := ⟨fun i => T.getD i undef, lit_eq T 62 hfs⟩
    subst hu
    have he0 : u 0 = .pointer (some ⟨K, 0, none⟩) := hf0
    have he4 : u 4 = .slice (some ⟨w.heap.size, 0, none⟩) n 1 := hf4
    clear hfs hf0 hf4
    rw [he0, he4]
    clear he0 he4
    have HJ := Lib.hid hJ
    clear hJ
    rcases hcase with ⟨rfl, rfl⟩ | ⟨rfl, hR⟩
    · have HK := Lib.hid HGI.out.k
      have HH := Lib.hid HGI.out.h
      have HST : Hid ((w.alloc (.cells #[.pointer (some ⟨B, 0, none⟩)] 33)).cell? ⟨w.heap.size, 0, none⟩ = some (.pointer (some ⟨B, 0, none⟩))) := Lib.hid HGI.out.st.cell
      have hst := HST.out
      have i0 : (w.alloc (.cells #[.pointer (some ⟨B, 0, none⟩)] 33)).cell? ⟨K, 0, none⟩ = some (.map (some hm)) := cell_of HGI.out.k 0 rfl
      have HPD : Hid (PieceAt ok (w.alloc (.cells #[.pointer (some ⟨B, 0, none⟩)] 33)).drew tm B) := Lib.hid (HGI.out.p.kept (grown_drewN _ 1 none) (fun r e => by cases e))
      obtain ⟨g, hgg⟩ : ∃ g, g = w.heap.size := ⟨_, rfl⟩
      have HGG := Lib.hid hgg
      rw [← hgg] at HGI hst ⊢
      generalize w.alloc (.cells #[.pointer (some ⟨B, 0, none⟩)] 33) = wr at *
      clear hgg
      go_wp2
      refine wp_cut (fun a' W1 => a'.defers = [] ∧ a'.tmps.size = 62 ∧ a'.tmps.getD 0 undef = .pointer (some ⟨K, 0, none⟩) ∧ a'.tmps.getD 1 undef = .pointer (some ⟨B, 0, none⟩) ∧ a'.tmps.getD 4 undef = .slice (some ⟨g, 0, none⟩) 0 1 ∧ a'.tmps.getD 40 undef = .bool false ∧ wr.grownBy W1 none) ?_ ?_
      rotate_left
      · intro J5 K5 hJ5 hK5
        refine wp_region_noPanic ?_
        first
        | (go_region_with ((go_at_call 15; ((with_reducible refine (HNM.out wr.drew HPD.out).mono ?_); rintro e w2 ⟨rfl, hg2⟩; have hg := grown_trans (grown_drewN wr 1 none) hg2; have hk2 := KnowIs.keep HK.out hg (fun e => by cases e); have j0 : w2.cell? ⟨K, 0, none⟩ = some (.map (some hm)) := cell_of hk2 0 rfl; have hl2 := HLH.out w2 (MapIs.keep HH.out hg (fun e => by cases e)); have HG2 := Lib.hid hg; clear hg2 hk2 hg))))
        | fail
        all_goals
          refine NoPanic.normal ?_
          exact hK5 _ _ (Met.intro (hJ5 _ _ ⟨rfl, rfl, rfl, rfl, rfl, rfl, HG2.out⟩))
      intro a' W1 hrel
      obtain ⟨hfd, hfs, hf0, hf1, hf4, hf40, hg1⟩ := hrel
      obtain ⟨T, DD⟩ := a'
      obtain rfl : DD = [] := hfd
      obtain ⟨u, hu⟩ : ∃ u : Nat → Value, T = #[u 0, u 1, u 2, u 3, u 4, u 5, u 6, u 7, u 8, u 9, u 10, u 11, u 12, u 13, u 14, u 15, u 16, u 17, u 18, u 19, u 20, u 21, u 22, u 23, u 24, u 25, u 26, u 27, u 28, u 29, u 30, u 31, u 32, u 33, u 34, u 35, u 36, u 37, u 38, u 39, u 40, u 41, u 42, u 43, u 44, u 45, u 46, u 47, u 48, u 49, u 50, u 51, u 52, u 53, u 54, u 55, u 56, u 57, u 58, u 59, u 60, u 61] := ⟨fun i => T.getD i undef, lit_eq T 62 hfs⟩
      subst hu
      have he0 : u 0 = .pointer (some ⟨K, 0, none⟩) := hf0
      have he1 : u 1 = .pointer (some ⟨B, 0, none⟩) := hf1
      have he4 : u 4 = .slice (some ⟨g, 0, none⟩) 0 1 := hf4
      have he40 : u 40 = .bool false := hf40
      clear hfs hf0 hf1 hf4 hf40
      rw [he0, he1, he4, he40]
      clear he0 he1 he4 he40
      have HG1 := Lib.hid hg1
      have hk1 := KnowIs.keep HK.out hg1 (fun e => by cases e)
      have k0 : W1.cell? ⟨K, 0, none⟩ = some (.map (some hm)) := cell_of hk1 0 rfl
      have HPD : Hid (PieceAt ok W1.drew tm B) := Lib.hid (HGI.out.p.kept (grown_trans hg1 (grown_drewN W1 1 none)) (fun r e => by cases e))
      clear hg1 hk1 i0 hst
      go_wp2
      refine wp_cut (fun a' W2 => a'.defers = [] ∧ a'.tmps.size = 62 ∧ a'.tmps.getD 0 undef = .pointer (some ⟨K, 0, none⟩) ∧ a'.tmps.getD 1 undef = .pointer (some ⟨B, 0, none⟩) ∧ a'.tmps.getD 4 undef = .slice (some ⟨g, 0, none⟩) 0 1 ∧ PutIs wr K hm sm Hd Sp ok tm B g 1 W2) ?_ ?_
      rotate_left
      · intro J5 K5 hJ5 hK5
        refine wp_region_noPanic ?_
        first
        | (go_region_with ((go_at_call 15; ((with_reducible refine (HNM.out W1.drew HPD.out).mono ?_); rintro e w3 ⟨rfl, hg3⟩; have hg := grown_trans (grown_trans HG1.out (grown_drewN W1 1 none)) hg3; have hk3 := KnowIs.keep HK.out hg (fun e => by cases e); have j0 : w3.cell? ⟨K, 0, none⟩ = some (.map (some hm)) := cell_of hk3 0 rfl; obtain ⟨w9, hput, hm9, hg9⟩ := HPUT.out w3 (MapIs.keep HH.out hg (fun e => by cases e)); have HG3 := Lib.hid hg; have HM9 := Lib.hid hm9; have HG9 := Lib.hid hg9; clear hg3 hk3 hm9 hg9 hg))))
        | fail
        all_goals
          refine NoPanic.normal ?_
          exact hK5 _ _ (Met.intro (hJ5 _ _ ⟨rfl, rfl, rfl, rfl, rfl, put_is HGI.out HSH.out HOK.out ((Kept.of_grown HG3.out).trans (Kept.of_grown HG9.out) (fun k _ hk => hk.elim (fun e => by cases e) (fun e => by cases e; rfl))) HM9.out⟩))
      intro a' W2 hrel
      obtain ⟨hfd, hfs, hf0, hf1, hf4, hput⟩ := hrel
      obtain ⟨T, DD⟩ := a'
      obtain rfl : DD = [] := hfd
      obtain ⟨u, hu⟩ : ∃ u : Nat → Value, T = #[u 0, u 1, u 2, u 3, u 4, u 5, u 6, u 7, u 8, u 9, u 10, u 11, u 12, u 13, u 14, u 15, u 16, u 17, u 18, u 19, u 20, u 21, u 22, u 23, u 24, u 25, u 26, u 27, u 28, u 29, u 30, u 31, u 32, u 33, u 34, u 35, u 36, u 37, u 38, u 39, u 40, u 41, u 42, u 43, u 44, u 45, u 46, u 47, u 48, u 49, u 50, u 51, u 52, u 53, u 54, u 55, u 56, u 57, u 58, u 59, u 60, u 61] := ⟨fun i => T.getD i undef, lit_eq T 62 hfs⟩
      subst hu
      have he0 : u 0 = .pointer (some ⟨K, 0, none⟩) := hf0
      have he1 : u 1 = .pointer (some ⟨B, 0, none⟩) := hf1
      have he4 : u 4 = .slice (some ⟨g, 0, none⟩) 0 1 := hf4
      clear hfs hf0 hf1 hf4
      rw [he0, he1, he4]
      clear he0 he1 he4
      have HPI := Lib.hid hput
      have HK2 := Lib.hid hput.k
      have HS2 := Lib.hid hput.s
      have k1 : W2.cell? ⟨K, 1, none⟩ = some (.map (some sm)) := cell_of hput.k 1 rfl
      have HPD : Hid (PieceAt ok W2.drew tm B) := Lib.hid (hput.p.kept (grown_drewN W2 1 none) (fun r e => by cases e))
      clear hput k0
      go_wp2
      refine wp_cut (fun a' W5 => a'.defers = [] ∧ a'.tmps.size = 62 ∧ a'.tmps.getD 0 undef = .pointer (some ⟨K, 0, none⟩) ∧ a'.tmps.getD 1 undef = .pointer (some ⟨B, 0, none⟩) ∧ a'.tmps.getD 4 undef = .slice (some ⟨g, 0, none⟩) 0 1 ∧ PutIs wr K hm sm Hd Sp ok tm B g 1 W5) ?_ ?_
      rotate_left
      · intro J5 K5 hJ5 hK5
        refine wp_region_noPanic ?_
        go_region_law (first | ((refine step_append_none (by rfl) _ _ 40 (by rfl) 0 33 ip 1 Try.underlying40 hp0 (.slice (some ⟨g, 0, none⟩) 0 1) 0 [] (by rfl) (HROW.out) (by rfl) ?_)) | (go_simp; (first | ((go_at_call 15; ((with_reducible refine (HNM.out W2.drew HPD.out).mono ?_); rintro e w4 ⟨rfl, hg4⟩; have hg := grown_trans (grown_drewN W2 1 none) hg4; have hk4 := KnowIs.keep HK2.out hg (fun e => by cases e); have j1 : w4.cell? ⟨K, 1, none⟩ = some (.map (some sm)) := cell_of hk4 1 rfl; have hl4 := HLS.out w4 (MapIs.keep HS2.out hg (fun e => by cases e)); have HG4 := Lib.hid hg; clear hg4 hk4 hg))) | ((go_at_call 19; ((with_reducible refine (kreach_nil _).mono ?_); rintro e w5 ⟨rfl, hg5⟩; have HG5 := Lib.hid (grown_trans HG4.out hg5); have HROW := Lib.hid ((PutIs.grown HPI.out HG5.out).st.row); clear hg5))))) | (first | ((go_at_call 15; ((with_reducible refine (HNM.out W2.drew HPD.out).mono ?_); rintro e w4 ⟨rfl, hg4⟩; have hg := grown_trans (grown_drewN W2 1 none) hg4; have hk4 := KnowIs.keep HK2.out hg (fun e => by cases e); have j1 : w4.cell? ⟨K, 1, none⟩ = some (.map (some sm)) := cell_of hk4 1 rfl; have hl4 := HLS.out w4 (MapIs.keep HS2.out hg (fun e => by cases e)); have HG4 := Lib.hid hg; clear hg4 hk4 hg))) | ((go_at_call 19; ((with_reducible refine (kreach_nil _).mono ?_); rintro e w5 ⟨rfl, hg5⟩; have HG5 := Lib.hid (grown_trans HG4.out hg5); have HROW := Lib.hid ((PutIs.grown HPI.out HG5.out).st.row); clear hg5)))))
        all_goals
          refine NoPanic.normal ?_
          exact hK5 _ _ (Met.intro (hJ5 _ _ ⟨rfl, rfl, rfl, rfl, rfl, PutIs.grown HPI.out HG5.out⟩))
      intro a' W5 hrel
      obtain ⟨hfd, hfs, hf0, hf1, hf4, hput⟩ := hrel
      obtain ⟨T, DD⟩ := a'
      obtain rfl : DD = [] := hfd
      obtain ⟨u, hu⟩ : ∃ u : Nat → Value, T = #[u 0, u 1, u 2, u 3, u 4, u 5, u 6, u 7, u 8, u 9, u 10, u 11, u 12, u 13, u 14, u 15, u 16, u 17, u 18, u 19, u 20, u 21, u 22, u 23, u 24, u 25, u 26, u 27, u 28, u 29, u 30, u 31, u 32, u 33, u 34, u 35, u 36, u 37, u 38, u 39, u 40, u 41, u 42, u 43, u 44, u 45, u 46, u 47, u 48, u 49, u 50, u 51, u 52, u 53, u 54, u 55, u 56, u 57, u 58, u 59, u 60, u 61] := ⟨fun i => T.getD i undef, lit_eq T 62 hfs⟩
      subst hu
      have he0 : u 0 = .pointer (some ⟨K, 0, none⟩) := hf0
      have he1 : u 1 = .pointer (some ⟨B, 0, none⟩) := hf1
      have he4 : u 4 = .slice (some ⟨g, 0, none⟩) 0 1 := hf4
      clear hfs hf0 hf1 hf4
      rw [he0, he1, he4]
      clear he0 he1 he4
      have HPI := Lib.hid hput
      have hge : w.heap.size ≤ g := by have := HGG.out; omega
      have HW5 := Lib.hid (HWI.out wr g W5 HGK.out hge hput)
      clear hput k1
      go_wp2_with (first | (go_at_call 20; ((with_reducible refine HW5.out.mono ?_); rintro e w6 ⟨rfl, hR, cur, hst6, hcs⟩; have HR6 := Lib.hid hR; have HROW6 := Lib.hid (row_zero (c := 1) hst6 hcs (by decide)); clear hR hst6 hcs)) | (at_builtin; refine wpList_append_own_none rfl _ _ 40 rfl 0 33 ip 1 Try.underlying40 hp0 (.slice (some ⟨g, 0, none⟩) 0 1) 0 [] rfl HROW6.out rfl ?_) | fail)
      have e := HGG.out
      subst e
      first | go_step3 | skip
      exact jump_back (HJ.out 0 _ _ (by omega) ⟨Nat.zero_le _, rfl, rfl, rfl, rfl, .inr ⟨rfl, HR6.out⟩⟩)
    · go_wp2
      refine jump_ret ?_
      exact bodyPost_ret (results_none rfl _ _ _) rfl ⟨⟨_, rfl⟩, hR⟩
end Go.Proofs.Yteiadbiopcidmaa
