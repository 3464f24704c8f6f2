/- Packets: the layouts by contract. -/
import Derived.Test.YtkhomjbggfjleaaNumSame
import Derived.Test.YtkhomjbggfjleaaKit3
import Derived.Laws.AppendOwnNone
import Derived.Lib.SliceRun
import Derived.Deep.Onto
import Derived.OwnWalk
import Derived.StillTailTactics
namespace Go.Proofs.Ytkhomjbggfjleaa
set_option linter.unusedVariables false
set_option linter.unusedSimpArgs false
set_option maxRecDepth 100000
open Go.RowKit

theorem below_one {w : World} (o : Obj) : Below w.heap.size w (w.alloc o) := (Below.refl _ _).alloc (Nat.le_refl _) _
theorem below_dr {B : Nat} {w a : World} (h : Below B w a) (n : Nat) : Below B w (a.drewN n) := ⟨h.os, h.tape, h.output, h.size, h.block⟩
theorem cell_keep4 {w w' : World} {b i : Nat} {v : Value} (h : w.cell? ⟨b, i, none⟩ = some v) (hb : Below w.heap.size w w') : w'.cell? ⟨b, i, none⟩ = some v :=
  (hb.cell (p := ⟨b, i, none⟩) (World.block_lt_of_cell? w _ h)).trans h
theorem bne_i {b c : Int} (h : b ≠ c) : (b == c) = false := beqf h
theorem bneq_i {b c : Int} (h : b = c) : (b != c) = false := by subst h; simp
/-- a slice that is nil has no room -/
def NilOk (v : Value) : Prop := ∀ n cap, v = .slice none n cap → cap = 0
theorem nilok_nil : NilOk (.slice none 0 0) := fun n cap h => by cases h; rfl
theorem nilok_own {w : World} {B : Nat} {v : Value} {e : TypeId} {n : Nat} {xs : List Value} (h : w.ownsRow B e 1 v n xs) : NilOk v := by
  intro m cap hv
  rcases h.2 with ⟨h1, _⟩ | ⟨g, c, cur, h1, _⟩
  · rw [h1] at hv; cases hv; rfl
  · rw [h1] at hv; cases hv
theorem bytes_news {w : World} {b off : Nat} {l : List UInt8} (h : ∀ i, i < l.length → w.cell? ⟨b, off + i, none⟩ = some (.int .u8 (l.getD i 0).toNat)) : ∀ j u, (cellsOf l)[j]? = some u → w.cell? ((⟨b, off, none⟩ : Addr).add j) = some u := by
  intro j u hu
  rw [add_at]
  unfold cellsOf at hu
  rw [List.getElem?_map] at hu
  cases hj : l[j]? with
  | none => rw [hj] at hu; cases hu
  | some y =>
    rw [hj] at hu
    cases hu
    have hlt : j < l.length := (List.getElem?_eq_some_iff.1 hj).1
    rw [h j hlt]
    simp [List.getD, hj]
theorem wpList_append_bytes {w : World} {ops : Array Oper} {rest : List Oper} {o : Oper} {a : Act} {Q : Exit → Act → World → Prop} (hgd : o.guard = none) (s x : Operand)
    (ho : o.op = .call { callee := .builtin .append, args := #[s, x], argTypes := #[22, 22] })
    (base : Nat) (v : Value) (n : Nat) (xs : List Value) (hs : a.eval s = v) (hown : w.ownsRow base 5 1 v n xs)
    (sv : Value) (l : List UInt8) (hx : a.eval x = sv) (hsrc : Bytes w sv l) (hno : NilOk sv) (h63 : n + l.length ≤ 8796093022208) (hbase : base ≤ w.heap.size)
    (h : ∀ v' w', w'.ownsRow base 5 1 v' (n + l.length) (xs ++ cellsOf l) → w.grownBy w' v.ownBlock → wpList Try.prog ops Q rest (a.put o.dst v') w') : wpList Try.prog ops Q (o :: rest) a w := by
  obtain ⟨i0, hi0, hz0, hz1, hz2⟩ := info_parts Try.info5
  obtain ⟨ad, cap, rfl, hc⟩ := hsrc
  rcases hc with rfl | ⟨b, off, rfl, hc⟩
  · cases ad with
    | none =>
      obtain rfl := hno _ _ rfl
      refine wpList_append_own_none hgd s x 22 ho base 5 i0 1 Try.underlying22 hi0 v n xs hs hown hx ?_
      exact h v w (by simpa [cellsOf] using hown) ⟨rfl, rfl, rfl, Nat.le_refl _, fun _ _ _ => rfl⟩
    | some ad =>
      refine wpList_append_own w hgd s x 22 ho base 5 i0 _ 1 1 Try.underlying22 hi0 hz0 hz1 hz2 rfl (by decide) v n xs hs hown ad 0 cap [] hx rfl (fun j u hu => by cases hu) (fun u hu => by cases hu) (by unfold maxLen; simp at h63; omega) (by simp at h63; omega) hbase ?_
      intro v' w' h1 h2 _
      exact h v' w' (by simpa [cellsOf] using h1) h2
  · refine wpList_append_own w hgd s x 22 ho base 5 i0 _ 1 1 Try.underlying22 hi0 hz0 hz1 hz2 rfl (by decide) v n xs hs hown ⟨b, off, none⟩ l.length cap (cellsOf l) hx (by simp [cellsOf]) (bytes_news hc) (fun u hu => by obtain ⟨y, _, rfl⟩ := List.mem_map.1 hu; rfl) (by unfold maxLen; omega) (by omega) hbase ?_
    intro v' w' h1 h2 _
    exact h v' w' h1 h2
theorem wrap_s64 (a : Int) (h0 : -9223372036854775808 ≤ a) (h : a < 9223372036854775808) : IntKind.i64.wrap a = a := by
  rw [IntKind.wrap_i64]; omega
theorem own_at {w : World} {base : Nat} {v : Value} {e : TypeId} {n : Nat} {xs : List Value} (h : w.ownsRow base e 1 v n xs) (h0 : 0 < n) : ∃ g cap, v = .slice (some ⟨g, 0, none⟩) n cap ∧ base ≤ g ∧ n ≤ cap ∧ cap ≤ maxLen := by
  rcases h.2 with ⟨_, h1⟩ | ⟨g, c, cur, h1, h2, _, h3, h4, _⟩
  · omega
  · exact ⟨g, c, h1, h2, h3, h4⟩
theorem own_bytes {w : World} {base : Nat} {a : List UInt8} {g c : Nat} (h : w.ownsRow base 5 1 (.slice (some ⟨g, 0, none⟩) a.length c) a.length (cellsOf a)) : Bytes w (.slice (some ⟨g, 0, none⟩) a.length c) a := by
  refine ⟨_, _, rfl, .inr ⟨g, 0, rfl, fun i hi => ?_⟩⟩
  rw [Nat.zero_add, h.cellAt i (by omega)]
  unfold cellsOf
  simp [List.getD, List.getElem?_eq_getElem hi]
theorem set_block {w : World} {b i : Nat} {C : Array Value} {T : TypeId} {v : Value} (h : w.heap[b]? = some (.cells C T (0, 0))) : (w.setCell ⟨b, i, none⟩ v).heap[b]? = some (.cells (C.setIfInBounds i v) T (0, 0)) := by
  simp [World.setCell, Array.getElem?_modify, h]

/-! a copy of bytes -/
def CopyRet (w : World) (a : List UInt8) (e : Ending) (w' : World) : Prop :=
  ∃ ad c, e = .returned (.slice ad a.length c) ∧ Bytes w' (.slice ad a.length c) a ∧ a.length ≤ c ∧ c ≤ maxLen ∧ Below w.heap.size w w'
theorem copy_nil (w : World) (cp : Nat) (hc : cp = 0) : Calls Try.prog 16 #[.slice none 0 cp] w (CopyRet w []) := by
  subst hc
  have hq := Lib.run_eql_slice_nil (P := Try.prog) w 22 5 none 0 0 0 0 Try.underlying22
  go_enter Try.func16, Try.ntmps16
  go_wp2_with fail
  go_ret
  exact ⟨none, 0, rfl, bytes_nil _, Nat.le_refl _, Nat.zero_le _, Below.refl _ _⟩
theorem copy_some (a : List UInt8) (p : Addr) (cp : Nat) (w : World) (ha : Bytes w (.slice (some p) a.length cp) a) (hal : a.length ≤ 1000000) :
    Calls Try.prog 16 #[.slice (some p) a.length cp] w (CopyRet w a) := by
  have HV := Lib.hid ha
  clear ha
  have hq := Lib.run_eql_slice_nil (P := Try.prog) w 22 5 (some p) a.length cp 0 0 Try.underlying22
  go_enter Try.func16, Try.ntmps16
  go_wp2_with (first | (at_builtin; refine wpList_append_bytes rfl _ _ rfl w.heap.size (.slice (some ⟨w.heap.size, 0, none⟩) 0 0) 0 [] rfl (World.ownsRow_made w #[] 0 (Nat.le_refl _) (by decide) rfl) (.slice (some p) a.length cp) a rfl (HV.out.below (below_one _)) (fun n cap h => by cases h) (by simp; omega) (by simp) ?_; intro v' w4 hown hgrow) | fail)
  have hb : Below w.heap.size w w4 := (below_one _).grown hgrow (by simp) (fun k hk => by cases hk; simp)
  rw [Nat.zero_add, List.nil_append] at hown
  have hby := bytes_own hown
  rcases hown.2 with ⟨hv, h0⟩ | ⟨g, c, cur, h1, h2, _, h3, h4, _⟩
  · subst hv
    have HA : Hid (a = []) := Lib.hid (List.length_eq_zero_iff.1 h0)
    have HY := Lib.hid hby
    clear hby hown hgrow hq
    go_ret
    obtain rfl := HA.out
    exact ⟨none, 0, rfl, HY.out, Nat.le_refl _, Nat.zero_le _, hb⟩
  · subst h1
    go_ret
    exact ⟨_, c, rfl, hby, h3, h4, hb⟩
theorem copy_any (a : List UInt8) (ad : Option Addr) (cp : Nat) (w : World) (ha : Bytes w (.slice ad a.length cp) a) (hno : NilOk (.slice ad a.length cp)) (hal : a.length ≤ 1000000) :
    Calls Try.prog 16 #[.slice ad a.length cp] w (CopyRet w a) := by
  cases ad with
  | some p => exact copy_some a p cp w ha hal
  | none =>
    have hc := hno _ _ rfl
    obtain ⟨x, c2, hv, h⟩ := ha
    rcases h with rfl | ⟨b, off, rfl, _⟩
    · exact copy_nil w cp hc
    · cases hv

/-! the layouts -/
def set8 (W : World) (b : Nat) (v0 v1 v2 v3 v4 v5 v6 v7 : Value) : World :=
  (((((((W.setCell ⟨b, 0, none⟩ v0).setCell ⟨b, 1, none⟩ v1).setCell ⟨b, 2, none⟩ v2).setCell ⟨b, 3, none⟩ v3).setCell ⟨b, 4, none⟩ v4).setCell ⟨b, 5, none⟩ v5).setCell ⟨b, 6, none⟩ v6).setCell ⟨b, 7, none⟩ v7
theorem set8_block {W : World} {b : Nat} {T : TypeId} {x0 x1 x2 x3 x4 x5 x6 x7 : Value} (h : W.heap[b]? = some (.cells #[x0, x1, x2, x3, x4, x5, x6, x7] T (0, 0))) (v0 v1 v2 v3 v4 v5 v6 v7 : Value) :
    (set8 W b v0 v1 v2 v3 v4 v5 v6 v7).heap[b]? = some (.cells #[v0, v1, v2, v3, v4, v5, v6, v7] T (0, 0)) := by
  have h0 : (W.setCell ⟨b, 0, none⟩ v0).heap[b]? = some (.cells #[v0, x1, x2, x3, x4, x5, x6, x7] T (0, 0)) := set_block (i := 0) (v := v0) h
  have h1 : ((W.setCell ⟨b, 0, none⟩ v0).setCell ⟨b, 1, none⟩ v1).heap[b]? = some (.cells #[v0, v1, x2, x3, x4, x5, x6, x7] T (0, 0)) := set_block (i := 1) (v := v1) h0
  have h2 : (((W.setCell ⟨b, 0, none⟩ v0).setCell ⟨b, 1, none⟩ v1).setCell ⟨b, 2, none⟩ v2).heap[b]? = some (.cells #[v0, v1, v2, x3, x4, x5, x6, x7] T (0, 0)) := set_block (i := 2) (v := v2) h1
  have h3 : ((((W.setCell ⟨b, 0, none⟩ v0).setCell ⟨b, 1, none⟩ v1).setCell ⟨b, 2, none⟩ v2).setCell ⟨b, 3, none⟩ v3).heap[b]? = some (.cells #[v0, v1, v2, v3, x4, x5, x6, x7] T (0, 0)) := set_block (i := 3) (v := v3) h2
  have h4 : (((((W.setCell ⟨b, 0, none⟩ v0).setCell ⟨b, 1, none⟩ v1).setCell ⟨b, 2, none⟩ v2).setCell ⟨b, 3, none⟩ v3).setCell ⟨b, 4, none⟩ v4).heap[b]? = some (.cells #[v0, v1, v2, v3, v4, x5, x6, x7] T (0, 0)) := set_block (i := 4) (v := v4) h3
  have h5 : ((((((W.setCell ⟨b, 0, none⟩ v0).setCell ⟨b, 1, none⟩ v1).setCell ⟨b, 2, none⟩ v2).setCell ⟨b, 3, none⟩ v3).setCell ⟨b, 4, none⟩ v4).setCell ⟨b, 5, none⟩ v5).heap[b]? = some (.cells #[v0, v1, v2, v3, v4, v5, x6, x7] T (0, 0)) := set_block (i := 5) (v := v5) h4
  have h6 : (((((((W.setCell ⟨b, 0, none⟩ v0).setCell ⟨b, 1, none⟩ v1).setCell ⟨b, 2, none⟩ v2).setCell ⟨b, 3, none⟩ v3).setCell ⟨b, 4, none⟩ v4).setCell ⟨b, 5, none⟩ v5).setCell ⟨b, 6, none⟩ v6).heap[b]? = some (.cells #[v0, v1, v2, v3, v4, v5, v6, x7] T (0, 0)) := set_block (i := 6) (v := v6) h5
  have h7 : ((((((((W.setCell ⟨b, 0, none⟩ v0).setCell ⟨b, 1, none⟩ v1).setCell ⟨b, 2, none⟩ v2).setCell ⟨b, 3, none⟩ v3).setCell ⟨b, 4, none⟩ v4).setCell ⟨b, 5, none⟩ v5).setCell ⟨b, 6, none⟩ v6).setCell ⟨b, 7, none⟩ v7).heap[b]? = some (.cells #[v0, v1, v2, v3, v4, v5, v6, v7] T (0, 0)) := set_block (i := 7) (v := v7) h6
  exact h7
theorem set8_below {n : Nat} {w W : World} {b : Nat} (h : Below n w W) (hb : n ≤ b) (v0 v1 v2 v3 v4 v5 v6 v7 : Value) : Below n w (set8 W b v0 v1 v2 v3 v4 v5 v6 v7) :=
  (((((((h.setCell (p := ⟨b, 0, none⟩) hb _).setCell (p := ⟨b, 1, none⟩) hb _).setCell (p := ⟨b, 2, none⟩) hb _).setCell (p := ⟨b, 3, none⟩) hb _).setCell (p := ⟨b, 4, none⟩) hb _).setCell (p := ⟨b, 5, none⟩) hb _).setCell (p := ⟨b, 6, none⟩) hb _).setCell (p := ⟨b, 7, none⟩) hb _
theorem res_cell8 {fn : Func} {t : Tmp} {T : TypeId} (hr : fn.results = #[.cell t 40]) (W : World) (b : Nat) (v0 v1 v2 v3 v4 v5 v6 v7 : Value) (h : W.heap[b]? = some (.cells #[v0, v1, v2, v3, v4, v5, v6, v7] T (0, 0))) (tm : Array Value) (h2 : tm.getD t undef = .pointer (some ⟨b, 0, none⟩)) :
    (results fn tm).run Try.prog W = .ok (.agg #[v0, v1, v2, v3, v4, v5, v6, v7]) W := by
  have c0 := cell_of h 0 rfl; have c1 := cell_of h 1 rfl; have c2 := cell_of h 2 rfl; have c3 := cell_of h 3 rfl; have c4 := cell_of h 4 rfl; have c5 := cell_of h 5 rfl; have c6 := cell_of h 6 rfl; have c7 := cell_of h 7 rfl
  have e2 : tm[t]?.getD undef = .pointer (some ⟨b, 0, none⟩) := by simpa using h2
  simp [results, hr, go_sem, e2, c0, c1, c2, c3, c4, c5, c6, c7]
theorem four_any (w : World) : Calls Try.prog 22 #[] w fun e w' => e = .returned (.agg #[.int .i64 4, .int .u8 69, .int .i64 20, .int .i64 2, .int .i64 0, .int .i64 12, .int .i64 16, .int .i64 4]) ∧ Below w.heap.size w w' := by
  go_enter Try.func22, Try.ntmps22
  go_wp2_with fail
  exact bodyPost_ret (res_cell8 rfl _ _ _ _ _ _ _ _ _ _ (heap_alloc_new w _) _ rfl) rfl ⟨rfl, below_one _⟩
theorem six_any (w : World) : Calls Try.prog 23 #[] w fun e w' => e = .returned (.agg #[.int .i64 6, .int .u8 96, .int .i64 40, .int .i64 4, .int .i64 40, .int .i64 8, .int .i64 24, .int .i64 16]) ∧ Below w.heap.size w w' := by
  go_enter Try.func23, Try.ntmps23
  go_wp2_with fail
  exact bodyPost_ret (res_cell8 rfl _ _ _ _ _ _ _ _ _ _ (heap_alloc_new w _) _ rfl) rfl ⟨rfl, below_one _⟩
theorem cells8 {W : World} {b : Nat} {T : TypeId} {v0 v1 v2 v3 v4 v5 v6 v7 : Value} (h : W.heap[b]? = some (.cells #[v0, v1, v2, v3, v4, v5, v6, v7] T (0, 0))) :
    W.cell? ⟨b, 0, none⟩ = some v0 ∧ W.cell? ⟨b, 1, none⟩ = some v1 ∧ W.cell? ⟨b, 2, none⟩ = some v2 ∧ W.cell? ⟨b, 3, none⟩ = some v3 ∧ W.cell? ⟨b, 4, none⟩ = some v4 ∧ W.cell? ⟨b, 5, none⟩ = some v5 ∧ W.cell? ⟨b, 6, none⟩ = some v6 ∧ W.cell? ⟨b, 7, none⟩ = some v7 :=
  ⟨cell_of h 0 rfl, cell_of h 1 rfl, cell_of h 2 rfl, cell_of h 3 rfl, cell_of h 4 rfl, cell_of h 5 rfl, cell_of h 6 rfl, cell_of h 7 rfl⟩
theorem res_cell8t {fn : Func} {t u : Tmp} {T : TypeId} (hr : fn.results = #[.cell t 40, .tmp u]) (W : World) (b : Nat) (v0 v1 v2 v3 v4 v5 v6 v7 x : Value) (h : W.heap[b]? = some (.cells #[v0, v1, v2, v3, v4, v5, v6, v7] T (0, 0))) (tm : Array Value) (h2 : tm.getD t undef = .pointer (some ⟨b, 0, none⟩)) (h3 : tm.getD u undef = x) :
    (results fn tm).run Try.prog W = .ok (.tuple #[.agg #[v0, v1, v2, v3, v4, v5, v6, v7], x]) W := by
  obtain ⟨c0, c1, c2, c3, c4, c5, c6, c7⟩ := cells8 h
  have e2 : tm[t]?.getD undef = .pointer (some ⟨b, 0, none⟩) := by simpa using h2
  have e3 : tm[u]?.getD undef = x := by simpa using h3
  simp [results, hr, go_sem, e2, e3, c0, c1, c2, c3, c4, c5, c6, c7]
theorem res_cell8ttt {fn : Func} {t u v x : Tmp} {T : TypeId} (hr : fn.results = #[.cell t 40, .tmp u, .tmp v, .tmp x]) (W : World) (b : Nat) (v0 v1 v2 v3 v4 v5 v6 v7 x1 x2 x3 : Value) (h : W.heap[b]? = some (.cells #[v0, v1, v2, v3, v4, v5, v6, v7] T (0, 0))) (tm : Array Value) (h2 : tm.getD t undef = .pointer (some ⟨b, 0, none⟩)) (h3 : tm.getD u undef = x1) (h4 : tm.getD v undef = x2) (h5 : tm.getD x undef = x3) :
    (results fn tm).run Try.prog W = .ok (.tuple #[.agg #[v0, v1, v2, v3, v4, v5, v6, v7], x1, x2, x3]) W := by
  obtain ⟨c0, c1, c2, c3, c4, c5, c6, c7⟩ := cells8 h
  have e2 : tm[t]?.getD undef = .pointer (some ⟨b, 0, none⟩) := by simpa using h2
  have e3 : tm[u]?.getD undef = x1 := by simpa using h3
  have e4 : tm[v]?.getD undef = x2 := by simpa using h4
  have e5 : tm[x]?.getD undef = x3 := by simpa using h5
  simp [results, hr, go_sem, e2, e3, e4, e5, c0, c1, c2, c3, c4, c5, c6, c7]
end Go.Proofs.Ytkhomjbggfjleaa
