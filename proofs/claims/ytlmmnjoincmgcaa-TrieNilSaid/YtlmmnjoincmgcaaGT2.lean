/- Texts of this seat, merged: Tri1, Tri2, Tri3, Tri4, Tri5. -/
import Derived.Test.YtlmmnjoincmgcaaGT1
import Derived.Laws.AppendOwnNone
import Derived.Lib.SliceRun
import Derived.Deep.Onto
import Derived.OwnWalk
import Derived.Deep.RegionHeld3
import Derived.Deep.AppendLies
import Derived.Deep.DrawnRows
import Derived.StillTailTactics
import Derived.Deep.RegionLaw
namespace Go.Proofs.Ytlmmnjoincmgcaa
set_option linter.unusedVariables false
set_option linter.unusedSimpArgs false
set_option maxRecDepth 100000
open Go.RowKit
/-- a row: where its address lies, the address, the bits, the owner -/
structure Rw where
  ad : Option Addr
  cp : Nat
  adr : List UInt8
  bits : Int
  own : Int
def Rw.sl (r : Rw) : Value := .slice r.ad r.adr.length r.cp
def Rw.cells (r : Rw) : List Value := [r.sl, .int .i64 r.bits, .int .i64 r.own]
def cellsR (vs : List Rw) : List Value := vs.flatMap Rw.cells
theorem cellsR_len (vs : List Rw) : (cellsR vs).length = vs.length * 3 := by
  induction vs with
  | nil => rfl
  | cons r vs ih => simp only [cellsR, List.flatMap_cons, List.length_append, List.length_cons] at *; simp [Rw.cells] at *; omega
theorem cellsR_app (a b : List Rw) : cellsR (a ++ b) = cellsR a ++ cellsR b := by simp [cellsR]
theorem cellsR_one (vs : List Rw) : ∀ u ∈ cellsR vs, u.oneCell' = true := by
  intro u hu
  obtain ⟨r, _, hr⟩ := List.mem_flatMap.1 hu
  simp only [Rw.cells, List.mem_cons, List.not_mem_nil, or_false] at hr
  rcases hr with rfl | rfl | rfl <;> rfl
theorem cellsR_at {vs : List Rw} {i : Nat} {r : Rw} (h : vs[i]? = some r) : (cellsR vs)[3 * i]? = some r.sl ∧ (cellsR vs)[3 * i + 1]? = some (.int .i64 r.bits) ∧ (cellsR vs)[3 * i + 2]? = some (.int .i64 r.own) := by
  have hlt : i < vs.length := (List.getElem?_eq_some_iff.1 h).1
  have e : vs = vs.take i ++ r :: vs.drop (i + 1) := by
    have h2 : vs[i] = r := (List.getElem?_eq_some_iff.1 h).2
    rw [← h2, ← List.drop_eq_getElem_cons hlt, List.take_append_drop]
  have hl : (cellsR (vs.take i)).length = 3 * i := by rw [cellsR_len, List.length_take]; omega
  rw [e, cellsR_app]
  have hc : cellsR (r :: vs.drop (i + 1)) = r.sl :: .int .i64 r.bits :: .int .i64 r.own :: cellsR (vs.drop (i + 1)) := by simp [cellsR, Rw.cells]
  rw [hc]
  refine ⟨?_, ?_, ?_⟩
  · rw [List.getElem?_append_right (by omega), hl]; simp
  · rw [List.getElem?_append_right (by omega), hl, show 3 * i + 1 - 3 * i = 1 by omega]; rfl
  · rw [List.getElem?_append_right (by omega), hl, show 3 * i + 2 - 3 * i = 2 by omega]; rfl
/-- where a slice leads, there are things of that type -/
def TypAt (w : World) (a : Option Addr) (t : TypeId) : Prop := ∀ b off x, a = some ⟨b, off, x⟩ → ∃ cur fz, w.heap[b]? = some (.cells cur t fz)
theorem TypAt.below {w w' : World} {a : Option Addr} {t : TypeId} (h : TypAt w a t) (hb : Below w.heap.size w w') : TypAt w' a t := by
  intro b off x e
  obtain ⟨cur, fz, hc⟩ := h b off x e
  exact ⟨cur, fz, (hb.block b (Array.getElem?_eq_some_iff.1 hc).1).trans hc⟩
theorem typ_own {w : World} {base n k cap size : Nat} {a : Option Addr} {t : TypeId} {xs : List Value} (h : w.ownsRow base t size (.slice a k cap) n xs) : TypAt w a t := by
  intro b off x ha
  subst ha
  rcases h.2 with ⟨hv, _⟩ | ⟨g, c, cur, hv, _, hg, _⟩
  · cases hv
  · cases hv; exact ⟨cur, _, hg⟩
theorem typ_none (w : World) (t : TypeId) : TypAt w none t := fun b off x e => by cases e
/-- the rows that a slice holds -/
structure RowsAt (w : World) (a : Option Addr) (cap : Nat) (vs : List Rw) : Prop where
  le : vs.length ≤ cap
  max : cap ≤ maxLen
  nil : a = none → cap = 0
  frm : ∀ x, a = some x → x.spot = none
  typ : TypAt w a 62
  at' : vs = [] ∨ ∃ b off, a = some ⟨b, off, none⟩ ∧ ∀ j u, (cellsR vs)[j]? = some u → w.cell? ⟨b, off + j, none⟩ = some u
/-- the addresses of rows lie where they say -/
def AdrOk (w : World) (vs : List Rw) : Prop := ∀ r ∈ vs, Bytes w r.sl r.adr ∧ TypAt w r.ad 5
theorem AdrOk.below {w w' : World} {vs : List Rw} (h : AdrOk w vs) (hb : Below w.heap.size w w') : AdrOk w' vs := fun r hr => ⟨(h r hr).1.below hb, (h r hr).2.below hb⟩
theorem AdrOk.sub {w : World} {vs us : List Rw} (h : AdrOk w vs) (hs : ∀ r ∈ us, r ∈ vs) : AdrOk w us := fun r hr => h r (hs r hr)
theorem RowsAt.below {w w' : World} {a : Option Addr} {cap : Nat} {vs : List Rw} (h : RowsAt w a cap vs) (hb : Below w.heap.size w w') : RowsAt w' a cap vs := by
  refine ⟨h.le, h.max, h.nil, h.frm, h.typ.below hb, ?_⟩
  rcases h.at' with h4 | ⟨b, off, rfl, hc⟩
  · exact .inl h4
  · exact .inr ⟨b, off, rfl, fun j u hj => cell_keep4 (hc j u hj) hb⟩
theorem rows_nil (w : World) : RowsAt w none 0 [] := ⟨Nat.le_refl _, Nat.zero_le _, fun _ => rfl, (fun x e => by cases e), typ_none _ _, .inl rfl⟩
theorem rows_cell {w : World} {a : Option Addr} {cap : Nat} {vs : List Rw} (h : RowsAt w a cap vs) {i : Nat} {r : Rw} (hi : vs[i]? = some r) : ∃ b off, a = some ⟨b, off, none⟩ ∧ w.cell? ⟨b, off + i * 3, none⟩ = some r.sl ∧ w.cell? ⟨b, off + i * 3 + 1, none⟩ = some (.int .i64 r.bits) ∧ w.cell? ⟨b, off + i * 3 + 2, none⟩ = some (.int .i64 r.own) := by
  rw [Nat.mul_comm i 3]
  rcases h.at' with rfl | ⟨b, off, rfl, hc⟩
  · simp at hi
  · obtain ⟨h1, h2, h3⟩ := cellsR_at hi
    exact ⟨b, off, rfl, hc _ _ h1, by rw [Nat.add_assoc]; exact hc _ _ h2, by rw [Nat.add_assoc]; exact hc _ _ h3⟩
theorem rows_own {w : World} {base : Nat} {v : Value} {n : Nat} {vs : List Rw} (h : w.ownsRow base 62 3 v n (cellsR vs)) : n = vs.length ∧ ∃ a cap, v = .slice a vs.length cap ∧ RowsAt w a cap vs := by
  have hl : n = vs.length := by have := h.1; rw [cellsR_len] at this; omega
  refine ⟨hl, ?_⟩
  rcases h.2 with ⟨hv, hn⟩ | ⟨g, cap, cur, hv, _, _, hnc, hcm, _⟩
  · obtain rfl : vs = [] := List.length_eq_zero_iff.mp (by omega)
    exact ⟨none, 0, hv, rows_nil w⟩
  · refine ⟨some ⟨g, 0, none⟩, cap, by rw [hv, hl], by omega, hcm, (fun h => by cases h), (fun x e => by cases e; rfl), typ_own (by rw [hv] at h; exact h), .inr ⟨g, 0, rfl, fun j u hj => ?_⟩⟩
    have := h.cells (g := g) (by rw [hv]; rfl) j u hj
    rw [add_at] at this
    exact this
theorem Try.infoRow : (Try.prog.info? 62).map (fun i => (i.zero, i.size, i.bytes)) = some (some (.agg #[.slice none 0 0, .int .i64 0, .int .i64 0]), 3, 40) := by kernel_rfl
theorem wpList_append_rows {w : World} {ops : Array Oper} {rest : List Oper} {o : Oper} {a : Act} {Q : Exit → Act → World → Prop} (hgd : o.guard = none) (s x : Operand)
    (ho : o.op = .call { callee := .builtin .append, args := #[s, x], argTypes := #[27, 27] })
    (base : Nat) (v : Value) (n : Nat) (xs : List Value) (hs : a.eval s = v) (hown : w.ownsRow base 62 3 v n xs)
    (ad : Option Addr) (m cap : Nat) (vs : List Rw) (hx : a.eval x = .slice ad m cap) (hm : m = vs.length) (hsrc : RowsAt w ad cap vs) (h63 : n + vs.length ≤ 1000000) (hbase : base ≤ w.heap.size)
    (h : ∀ v' w', w'.ownsRow base 62 3 v' (n + vs.length) (xs ++ cellsR vs) → w.grownBy w' v.ownBlock → wpList Try.prog ops Q rest (a.put o.dst v') w') : wpList Try.prog ops Q (o :: rest) a w := by
  obtain ⟨i0, hi0, hz0, hz1, hz2⟩ := info_parts Try.infoRow
  obtain ⟨hlc, hcm, hno, _, _, hc⟩ := hsrc
  subst hm
  rcases hc with rfl | ⟨b, off, rfl, hc⟩
  · cases ad with
    | none =>
      obtain rfl := hno rfl
      refine wpList_append_own_none hgd s x 27 ho base 62 i0 3 Try.underlying27 hi0 v n xs hs hown hx ?_
      exact h v w (by simpa [cellsR] using hown) ⟨rfl, rfl, rfl, Nat.le_refl _, fun _ _ _ => rfl⟩
    | some ad =>
      refine wpList_append_own w hgd s x 27 ho base 62 i0 _ 3 40 Try.underlying27 hi0 hz0 hz1 hz2 rfl (by decide) v n xs hs hown ad 0 cap [] hx rfl (fun j u hu => by cases hu) (fun u hu => by cases hu) (by unfold maxLen; simp at h63; omega) (by simp at h63; omega) hbase ?_
      intro v' w' h1 h2 _
      exact h v' w' (by simpa [cellsR] using h1) h2
  · refine wpList_append_own w hgd s x 27 ho base 62 i0 _ 3 40 Try.underlying27 hi0 hz0 hz1 hz2 rfl (by decide) v n xs hs hown ⟨b, off, none⟩ vs.length cap (cellsR vs) hx (cellsR_len vs) (fun j u hj => by rw [add_at]; exact hc j u hj) (cellsR_one vs) (by unfold maxLen; omega) (by omega) hbase ?_
    intro v' w' h1 h2 _
    exact h v' w' h1 h2
/-- a part of a slice of rows -/
theorem rows_take {w : World} {a : Option Addr} {cap : Nat} {vs : List Rw} (h : RowsAt w a cap vs) (i : Nat) (hi : i ≤ vs.length) : RowsAt w a cap (vs.take i) := by
  refine ⟨by rw [List.length_take]; have := h.le; omega, h.max, h.nil, h.frm, h.typ, ?_⟩
  rcases h.at' with rfl | ⟨b, off, rfl, hc⟩
  · left; simp
  · refine .inr ⟨b, off, rfl, fun j u hj => ?_⟩
    have e : cellsR vs = cellsR (vs.take i) ++ cellsR (vs.drop i) := by rw [← cellsR_app, List.take_append_drop]
    refine hc j u ?_
    rw [e, List.getElem?_append_left (List.getElem?_eq_some_iff.1 hj).1]
    exact hj
theorem rows_drop {w : World} {b off cap : Nat} {a2 : Option Addr} {vs : List Rw} (h : RowsAt w (some ⟨b, off, none⟩) cap vs) (i : Nat) (hi : i ≤ vs.length) (ha : (a2 = some ⟨b, off, none⟩ ∧ i = cap) ∨ a2 = some ⟨b, off + i * 3, none⟩) : RowsAt w a2 (cap - i) (vs.drop i) := by
  have hle := h.le
  have hmax := h.max
  rw [Nat.mul_comm i 3] at ha
  rcases ha with ⟨rfl, rfl⟩ | rfl
  · have e : vs.drop i = [] := by rw [List.drop_eq_nil_iff]; omega
    rw [e]
    exact ⟨by simp, by omega, (fun h => by cases h), h.frm, h.typ, .inl rfl⟩
  · refine ⟨by rw [List.length_drop]; omega, by omega, (fun h => by cases h), (fun x e => by cases e; rfl), ?_, ?_⟩
    · intro b' off' x' e
      cases e
      exact h.typ b off none rfl
    · by_cases hv : vs = []
      · left; rw [hv]; simp
      · rcases h.at' with h' | ⟨b', off', e', hc⟩
        · exact absurd h' hv
        · cases e'
          refine .inr ⟨b, off + 3 * i, rfl, fun j u hj => ?_⟩
          have e : cellsR vs = cellsR (vs.take i) ++ cellsR (vs.drop i) := by rw [← cellsR_app, List.take_append_drop]
          have hl : (cellsR (vs.take i)).length = 3 * i := by rw [cellsR_len, List.length_take]; omega
          have := hc (3 * i + j) u (by rw [e, List.getElem?_append_right (by omega), hl, show 3 * i + j - 3 * i = j by omega]; exact hj)
          rw [show off + 3 * i + j = off + (3 * i + j) by omega]
          exact this
end Go.Proofs.Ytlmmnjoincmgcaa

namespace Go.Proofs.Ytlmmnjoincmgcaa
set_option linter.unusedVariables false
set_option linter.unusedSimpArgs false
set_option maxRecDepth 100000
open Go.RowKit
theorem str_conv {w : World} {a : Option Addr} {n c : Nat} {l : List UInt8} (h : Bytes w (.slice a n c) l) : (convert 23 9 (.slice a n c)).run Try.prog w = .ok (.string (strB l)) w := by
  obtain ⟨a', cp, hv, hc⟩ := bytes_conv h
  cases hv
  exact hc
def beforeP (a : List UInt8) (m : Int) (b : List UInt8) (n : Int) : Bool := if a.length = b.length then (if a = b then decide (m < n) else Op.bytesLess a b) else decide (a.length < b.length)
theorem rbefore_any (a b : List UInt8) (ad bd : Option Addr) (cp cq : Nat) (m n : Int) (w : World) (ha : Bytes w (.slice ad a.length cp) a) (hb : Bytes w (.slice bd b.length cq) b) :
    Calls Try.prog 22 #[.agg #[.slice ad a.length cp, .int .i64 m], .agg #[.slice bd b.length cq, .int .i64 n]] w (RightRet w (beforeP a m b n)) := by
  have b1 : Below w.heap.size w (((w.alloc (.cells #[.slice ad a.length cp, .int .i64 m] 29)).alloc (.cells #[.slice bd b.length cq, .int .i64 n] 29))) := ((Below.refl _ _).alloc (Nat.le_refl _) _).alloc (by simp) _
  have HB := Lib.hid b1
  have h0 := heap_alloc_new w (.cells #[.slice ad a.length cp, .int .i64 m] 29)
  have HX0 : Hid ((((w.alloc (.cells #[.slice ad a.length cp, .int .i64 m] 29)).alloc (.cells #[.slice bd b.length cq, .int .i64 n] 29))).heap[w.heap.size]? = some (.cells #[.slice ad a.length cp, .int .i64 m] 29 (0, 0))) := Lib.hid ((Below.heap_alloc _ _ _ (Array.getElem?_eq_some_iff.1 h0).1).trans h0)
  have HX1 : Hid ((((w.alloc (.cells #[.slice ad a.length cp, .int .i64 m] 29)).alloc (.cells #[.slice bd b.length cq, .int .i64 n] 29))).heap[w.heap.size + 1]? = some (.cells #[.slice bd b.length cq, .int .i64 n] 29 (0, 0))) := Lib.hid (by
    have h := heap_alloc_new (w.alloc (.cells #[.slice ad a.length cp, .int .i64 m] 29)) (.cells #[.slice bd b.length cq, .int .i64 n] 29)
    simpa using h)
  have va := str_conv (ha.below b1)
  have vb := str_conv (hb.below b1)
  have c0 : (((w.alloc (.cells #[.slice ad a.length cp, .int .i64 m] 29)).alloc (.cells #[.slice bd b.length cq, .int .i64 n] 29))).cell? ⟨w.heap.size, 0, none⟩ = some (.slice ad a.length cp) := cell_of HX0.out 0 rfl
  have c1 : (((w.alloc (.cells #[.slice ad a.length cp, .int .i64 m] 29)).alloc (.cells #[.slice bd b.length cq, .int .i64 n] 29))).cell? ⟨w.heap.size, 1, none⟩ = some (.int .i64 m) := cell_of HX0.out 1 rfl
  have d0 : (((w.alloc (.cells #[.slice ad a.length cp, .int .i64 m] 29)).alloc (.cells #[.slice bd b.length cq, .int .i64 n] 29))).cell? ⟨w.heap.size + 1, 0, none⟩ = some (.slice bd b.length cq) := cell_of HX1.out 0 rfl
  have d1 : (((w.alloc (.cells #[.slice ad a.length cp, .int .i64 m] 29)).alloc (.cells #[.slice bd b.length cq, .int .i64 n] 29))).cell? ⟨w.heap.size + 1, 1, none⟩ = some (.int .i64 n) := cell_of HX1.out 1 rfl
  clear h0 b1 ha hb
  unfold beforeP
  by_cases hl : a.length = b.length
  · rw [if_pos hl]
    have hl1 : ((a.length : Int) != b.length) = false := bneq_i (by omega)
    have HL := Lib.hid hl
    by_cases he : a = b
    · rw [if_pos he]
      have hs : ((strB a).toList == (strB b).toList) = true := by rw [he]; simp
      clear hl he
      go_enter Try.func22, Try.ntmps22
      go_wp2_with fail
      go_ret
      exact ⟨rfl, HB.out⟩
    · rw [if_neg he]
      have hs : ((strB a).toList == (strB b).toList) = false := by
        rw [str_eq]; simp [strB, he]
      clear hl he
      go_enter Try.func22, Try.ntmps22
      go_wp2_with fail
      go_ret
      exact ⟨ret_bool (by rw [toList_eq, toList_eq]; rfl), HB.out⟩
  · rw [if_neg hl]
    have hl1 : ((a.length : Int) != b.length) = true := bnne_i (by omega)
    clear hl
    go_enter Try.func22, Try.ntmps22
    go_wp2_with fail
    go_ret
    exact ⟨rfl, HB.out⟩
end Go.Proofs.Ytlmmnjoincmgcaa

namespace Go.Proofs.Ytlmmnjoincmgcaa
set_option linter.unusedVariables false
set_option linter.unusedSimpArgs false
set_option maxRecDepth 100000
open Go.RowKit
theorem wp_append_rows {w : World} {o : Oper} {a : Act} {K : Act → World → Prop} {Q : Exit → Act → World → Prop} (hgd : o.guard = none) (s x : Operand)
    (ho : o.op = .call { callee := .builtin .append, args := #[s, x], argTypes := #[27, 27] })
    (base : Nat) (v : Value) (n : Nat) (xs : List Value) (hs : a.eval s = v) (hown : w.ownsRow base 62 3 v n xs)
    (ad : Option Addr) (m cap : Nat) (vs : List Rw) (hx : a.eval x = .slice ad m cap) (hm : m = vs.length) (hsrc : RowsAt w ad cap vs) (h63 : n + vs.length ≤ 1000000) (hbase : base ≤ w.heap.size)
    (h : ∀ v' w', w'.ownsRow base 62 3 v' (n + vs.length) (xs ++ cellsR vs) → w.grownBy w' v.ownBlock → K (a.put o.dst v') w') : o.wp Try.prog a w K Q := by
  obtain ⟨i0, hi0, hz0, hz1, hz2⟩ := info_parts Try.infoRow
  obtain ⟨hlc, hcm, hno, _, _, hc⟩ := hsrc
  subst hm
  rcases hc with rfl | ⟨b, off, rfl, hc⟩
  · cases ad with
    | none =>
      obtain rfl := hno rfl
      have hrun := run_append_owned_none (P := Try.prog) (w := w) base 27 o.type 62 i0 3 Try.underlying27 hi0 v n xs hown
      unfold Oper.wp
      have hx' : a.eval x = .slice none 0 0 := hx
      simp [execOp, ho, resolve, invoke, builtin, hs, hx', hrun, Result.andThen]
      exact h v w (by simpa [cellsR] using hown) ⟨rfl, rfl, rfl, Nat.le_refl _, fun _ _ _ => rfl⟩
    | some ad =>
      refine wp_append_own w s x 27 ho base 62 i0 _ 3 40 Try.underlying27 hi0 hz0 hz1 hz2 rfl (by decide) v n xs hs hown ad 0 cap [] hx rfl (fun j u hu => by cases hu) (fun u hu => by cases hu) (by unfold maxLen; simp at h63; omega) (by simp at h63; omega) hbase ?_
      intro v' w' h1 h2 _
      exact h v' w' (by simpa [cellsR] using h1) h2
  · refine wp_append_own w s x 27 ho base 62 i0 _ 3 40 Try.underlying27 hi0 hz0 hz1 hz2 rfl (by decide) v n xs hs hown ⟨b, off, none⟩ vs.length cap (cellsR vs) hx (cellsR_len vs) (fun j u hj => by rw [add_at]; exact hc j u hj) (cellsR_one vs) (by unfold maxLen; omega) (by omega) hbase ?_
    intro v' w' h1 h2 _
    exact h v' w' h1 h2
theorem step_append_rows {w : World} {ops : Array Oper} {o : Oper} {a : Act} {K : Act → World → Prop} {Q : Exit → Act → World → Prop} {E : Prop} (hgd : o.guard = none) (s x : Operand)
    (ho : o.op = .call { callee := .builtin .append, args := #[s, x], argTypes := #[27, 27] })
    (base : Nat) (v : Value) (n : Nat) (xs : List Value) (hs : a.eval s = v) (hown : w.ownsRow base 62 3 v n xs)
    (ad : Option Addr) (m cap : Nat) (vs : List Rw) (hx : a.eval x = .slice ad m cap) (hm : m = vs.length) (hsrc : RowsAt w ad cap vs) (h63 : n + vs.length ≤ 1000000) (hbase : base ≤ w.heap.size)
    (h : ∀ v' w', w'.ownsRow base 62 3 v' (n + vs.length) (xs ++ cellsR vs) → w.grownBy w' v.ownBlock → K (a.put o.dst v') w') :
    if Region.wanted o (yielded ops a.tmps) = true then Oper.wp Try.prog o a w K Q else E := by
  have hw : Region.wanted o (yielded ops a.tmps) = true := by simp [Region.wanted, hgd]
  rw [if_pos hw]
  exact wp_append_rows hgd s x ho base v n xs hs hown ad m cap vs hx hm hsrc h63 hbase h
/-- the rows without the first one that is the same prefix; was there any? -/
def isP (r : Rw) (adr : List UInt8) (bits : Int) : Bool := (r.bits == bits) && (r.adr == adr)
def delV : List Rw → List UInt8 → Int → List Rw × Bool
  | [], _, _ => ([], false)
  | r :: vs, adr, bits => if isP r adr bits then (vs, true) else (r :: (delV vs adr bits).1, (delV vs adr bits).2)
theorem delV_none {vs : List Rw} {adr : List UInt8} {bits : Int} (h : ∀ r ∈ vs, isP r adr bits = false) : delV vs adr bits = (vs, false) := by
  induction vs with
  | nil => rfl
  | cons r vs ih =>
    have h1 := h r (by simp)
    have h2 := ih fun x hx => h x (List.mem_cons_of_mem _ hx)
    simp [delV, h1, h2]
theorem delV_at {vs : List Rw} {adr : List UInt8} {bits : Int} (k : Nat) {r : Rw} (hk : vs[k]? = some r) (h : ∀ x ∈ vs.take k, isP x adr bits = false) (hr : isP r adr bits = true) : delV vs adr bits = (vs.take k ++ vs.drop (k + 1), true) := by
  induction vs generalizing k with
  | nil => simp at hk
  | cons x vs ih =>
    cases k with
    | zero =>
      have : x = r := by simpa using hk
      subst this
      simp [delV, hr]
    | succ k =>
      have h1 := h x (by simp)
      have h2 := ih k (by simpa using hk) (fun y hy => h y (by simp [hy]))
      simp [delV, h1, h2]
theorem delV_len (vs : List Rw) (adr : List UInt8) (bits : Int) : (delV vs adr bits).1.length ≤ vs.length := by
  induction vs with
  | nil => simp [delV]
  | cons r vs ih => unfold delV; split <;> simp <;> omega
theorem delV_sub (vs : List Rw) (adr : List UInt8) (bits : Int) : ∀ r ∈ (delV vs adr bits).1, r ∈ vs := by
  induction vs with
  | nil => simp [delV]
  | cons x vs ih =>
    unfold delV
    intro r hr
    split at hr
    · exact List.mem_cons_of_mem _ hr
    · rcases List.mem_cons.1 hr with rfl | hr
      · simp
      · exact List.mem_cons_of_mem _ (ih r hr)
end Go.Proofs.Ytlmmnjoincmgcaa

namespace Go.Proofs.Ytlmmnjoincmgcaa
set_option linter.unusedVariables false
set_option linter.unusedSimpArgs false
set_option maxRecDepth 100000
open Go.RowKit
def DelRet (vs : List Rw) (r : Bool) (w : World) (e : Ending) (w' : World) : Prop := ∃ a cap, e = .returned (.tuple #[.slice a vs.length cap, .bool r]) ∧ RowsAt w' a cap vs ∧ Below w.heap.size w w'
theorem all_next_row {vs : List Rw} {k : Nat} {r : Rw} {adr : List UInt8} {bits : Int} (h : ∀ r ∈ vs.take k, isP r adr bits = false) (hr : vs[k]? = some r) (hq : isP r adr bits = false) : ∀ r ∈ vs.take (k + 1), isP r adr bits = false := by
  have hlt := (List.getElem?_eq_some_iff.1 hr).1
  have e : vs[k] = r := (List.getElem?_eq_some_iff.1 hr).2
  intro x hx
  rw [List.take_succ_eq_append_getElem hlt, e] at hx
  rcases List.mem_append.1 hx with hx | hx
  · exact h x hx
  · rw [List.mem_singleton.1 hx]; exact hq
set_option maxHeartbeats 1000000 in
theorem rdel_any (a : Option Addr) (cap : Nat) (vs : List Rw) (pa : Option Addr) (pc : Nat) (adr : List UInt8) (bits : Int) (w : World) (hv : RowsAt w a cap vs) (ha : AdrOk w vs) (hp : Bytes w (.slice pa adr.length pc) adr) (hl : vs.length ≤ 1000) :
    Calls Try.prog 11 #[.slice a vs.length cap, .agg #[.slice pa adr.length pc, .int .i64 bits]] w (DelRet (delV vs adr bits).1 (delV vs adr bits).2 w) := by
  obtain ⟨w1, hw1⟩ : ∃ w1, w1 = w.alloc (.cells #[.slice pa adr.length pc, .int .i64 bits] 29) := ⟨_, rfl⟩
  have b1 : Below w.heap.size w w1 := by rw [hw1]; exact (Below.refl _ _).alloc (Nat.le_refl _) _
  have x1 : w1.heap[w.heap.size]? = some (.cells #[.slice pa adr.length pc, .int .i64 bits] 29 (0, 0)) := by rw [hw1]; exact heap_alloc_new w _
  have HB1 := Lib.hid b1
  have HX1 := Lib.hid x1
  have HV := Lib.hid (hv.below b1)
  have HAO := Lib.hid (ha.below b1)
  have HPO := Lib.hid (hp.below b1)
  have HL := Lib.hid hl
  have hl0 : (vs.length : Int) ≤ 1000 := by omega
  obtain ⟨D, hD⟩ : ∃ D, D = delV vs adr bits := ⟨_, rfl⟩
  rw [← hD]
  have HD := Lib.hid hD
  clear b1 x1 hv ha hp hl hD
  go_enter Try.func11, Try.ntmps11
  go_wp2_with fail
  rw [← hw1]
  clear hw1
  go_loopw [6] (fun i wr => ∃ k : Nat, i = .int .i64 k ∧ k ≤ vs.length ∧ (∀ r ∈ vs.take k, isP r adr bits = false) ∧ Below w1.heap.size w1 wr) (fun i _ => vs.length - (intOf i).toNat)
  case atStart => exact ⟨0, rfl, Nat.zero_le _, by simp, Below.refl _ _⟩
  case round =>
    obtain ⟨k, rfl, hk, hnone, hbw⟩ := hrel
    have HBW := Lib.hid hbw
    have HN := Lib.hid hnone
    clear hbw hnone
    by_cases hlt : k < vs.length
    · obtain ⟨r, hr⟩ : ∃ r, vs[k]? = some r := ⟨vs[k], List.getElem?_eq_getElem hlt⟩
      obtain ⟨b, off, rfl, q0, q1, q2⟩ := rows_cell (HV.out.below HBW.out) hr
      unfold Rw.sl at q0
      have x0 : wr.cell? ⟨w.heap.size, 0, none⟩ = some (.slice pa adr.length pc) := cell_keep4 (cell_of HX1.out 0 rfl) HBW.out
      have x1 : wr.cell? ⟨w.heap.size, 1, none⟩ = some (.int .i64 bits) := cell_keep4 (cell_of HX1.out 1 rfl) HBW.out
      have HR := Lib.hid hr
      have hmem : r ∈ vs := List.mem_of_getElem? hr
      have HSM : Hid (∀ w, Bytes w (.slice r.ad r.adr.length r.cp) r.adr → Bytes w (.slice pa adr.length pc) adr → Calls Try.prog 24 #[.agg #[.slice r.ad r.adr.length r.cp, .int .i64 r.bits], .agg #[.slice pa adr.length pc, .int .i64 bits]] w (RightRet w (isP r adr bits))) := Lib.hid (fun w h1 h2 => rsame4_any r.adr adr r.ad pa r.cp pc r.bits bits w h1 h2)
      have HA : Hid (Bytes wr.drew (.slice r.ad r.adr.length r.cp) r.adr) := Lib.hid (((HAO.out r hmem).1.below HBW.out).below (Below.drew (Below.refl _ _)))
      have HP : Hid (Bytes wr.drew (.slice pa adr.length pc) adr) := Lib.hid ((HPO.out.below HBW.out).below (Below.drew (Below.refl _ _)))
      have hk0 : (0 : Int) ≤ k := by omega
      have hk1 : (k : Int) < vs.length := by omega
      have hlt2 := hlt
      clear hr hmem hlt
      go_wp2_with fail
      go_still_tail 6, (by kernel_rfl)
      change wpList _ _ _ _ _ wr.drew
      cases hq : isP r adr bits with
      | false =>
        rw [hq] at HSM
        have HQ := Lib.hid hq
        clear hq
        go_wp2_with (first | (go_at_call 24; ((with_reducible refine (HSM.out _ HA.out HP.out).mono ?_); rintro e w4 ⟨rfl, hb4⟩; have HB4 := Lib.hid hb4; clear hb4)) | fail)
        go_roundw
        case rel => exact ⟨k + 1, by go_num, by omega, all_next_row HN.out HR.out HQ.out, Below.next (Below.drew HBW.out) HB4.out⟩
        case measure => simp [intOf]; omega
      | true =>
        rw [hq] at HSM
        have HDE : Hid (D = (vs.take k ++ vs.drop (k + 1), true)) := Lib.hid (by rw [HD.out]; exact delV_at k HR.out HN.out hq)
        clear hq
        go_wp2_with (first | (go_at_call 24; ((with_reducible refine (HSM.out _ HA.out HP.out).mono ?_); rintro e w4 ⟨rfl, hb4⟩; have HB4 := Lib.hid hb4; clear hb4)) | fail)
        have HBX := Lib.hid (Below.next (Below.drew HBW.out) HB4.out)
        have HV4 := Lib.hid (HV.out.below HBX.out)
        have hle := HV4.out.le
        have hmx := HV4.out.max
        have hk2 : (k : Int) ≤ cap := by omega
        have hk3 : (k : Int) + 1 ≤ cap := by omega
        have hk4 : (k : Int) + 1 ≤ vs.length := by omega
        have hw1 : IntKind.i64.wrap ((k : Int) + 1) = ((k + 1 : Nat) : Int) := by have := HL.out; rw [wrap_i64 _ (by omega) (by omega)]; omega
        have hk5 : (0 : Int) ≤ (k : Int) + 1 := by omega
        have HLT : Hid (k + 1 ≤ vs.length) := Lib.hid (by omega)
        have HNE : Hid (vs ≠ []) := Lib.hid (fun e => by rw [e] at hlt2; simp at hlt2)
        have hlen : (vs.take k).length = k := by rw [List.length_take]; omega
        have HLE := Lib.hid hlen
        have HBA : Hid (Below w4.heap.size w4 ((w4.alloc (.cells #[] 62)).drew)) := Lib.hid (Below.drew ((Below.refl _ _).alloc (Nat.le_refl _) _))
        have HO1 : Hid (((w4.alloc (.cells #[] 62)).drew).ownsRow w4.heap.size 62 3 (.slice (some ⟨w4.heap.size, 0, none⟩) 0 0) 0 []) := Lib.hid (World.ownsRow_made (w := w4) (base := w4.heap.size) (size := 3) (e := 62) #[] 0 (Nat.le_refl _) (by decide) rfl)
        have HVT : Hid (RowsAt ((w4.alloc (.cells #[] 62)).drew) (some ⟨b, off, none⟩) cap (vs.take k)) := Lib.hid (rows_take (HV4.out.below HBA.out) k (by omega))
        clear q0 q1 q2 x0 x1 hle hmx hlen
        have HAD : Hid (((if cap = k + 1 then some (⟨b, off, none⟩ : Addr) else some (⟨b, off + (k + 1) * 3, none⟩ : Addr)) = some ⟨b, off, none⟩ ∧ k + 1 = cap) ∨ (if cap = k + 1 then some (⟨b, off, none⟩ : Addr) else some (⟨b, off + (k + 1) * 3, none⟩ : Addr)) = some ⟨b, off + (k + 1) * 3, none⟩) := Lib.hid (by
          by_cases hc : cap = k + 1
          · left; rw [if_pos hc]; exact ⟨rfl, hc.symm⟩
          · right; rw [if_neg hc])
        go_region_law (first | (refine step_append_rows (by rfl) _ _ (by rfl) w4.heap.size (.slice (some ⟨w4.heap.size, 0, none⟩) 0 0) 0 [] (by rfl) HO1.out (some ⟨b, off, none⟩) k cap (vs.take k) (by rfl) HLE.out.symm HVT.out (by have := HLE.out; have := HL.out; omega) HBA.out.size ?_; intro v1 w5 hown hgrow; rw [Nat.zero_add, List.nil_append, HLE.out] at hown; have HO2 := Lib.hid hown; have HB5 := Lib.hid (HBA.out.grown hgrow HBA.out.size (fun k hk => by cases hk; exact Nat.le_refl _)); clear hown hgrow) | (refine step_append_rows (by rfl) _ _ (by rfl) w4.heap.size v1 k (cellsR (vs.take k)) (by rfl) HO2.out ((if cap = k + 1 then some (⟨b, off, none⟩ : Addr) else some (⟨b, off + (k + 1) * 3, none⟩ : Addr))) (vs.length - (k + 1)) (cap - (k + 1)) (vs.drop (k + 1)) (by rfl) (by rw [List.length_drop]) (rows_drop (HV4.out.below HB5.out) (k + 1) HLT.out HAD.out) (by have := HL.out; have := HLT.out; rw [List.length_drop]; omega) HB5.out.size ?_; intro v2 w6 hown hgrow; have HO3 := Lib.hid hown; have HB6 := Lib.hid (HB5.out.grown hgrow HB5.out.size (fun k hk => (HO2.out.lt k hk).1)); clear hown hgrow) | fail)
        go_wp2_with fail
        all_goals
          have hown := HO3.out
          rw [← cellsR_app] at hown
          obtain ⟨hn, a6, cap6, rfl, hrow⟩ := rows_own hown
          rw [HDE.out]
          go_ret2
          exact ⟨a6, cap6, rfl, hrow, Below.next HB1.out (Below.next HBX.out HB6.out)⟩
    · obtain rfl : k = vs.length := by omega
      have HDE : Hid (D = (vs, false)) := Lib.hid (by rw [HD.out]; exact delV_none (by have := HN.out; rwa [List.take_length] at this))
      go_wp2_with fail
      rw [HDE.out]
      go_ret2
      exact ⟨a, cap, rfl, HV.out.below HBW.out, Below.next HB1.out HBW.out⟩
end Go.Proofs.Ytlmmnjoincmgcaa

namespace Go.Proofs.Ytlmmnjoincmgcaa
set_option linter.unusedVariables false
set_option linter.unusedSimpArgs false
set_option maxRecDepth 100000
open Go.RowKit
theorem rows_one (w : World) (r : Rw) : RowsAt (w.alloc (.cells #[.slice r.ad r.adr.length r.cp, .int .i64 r.bits, .int .i64 r.own] 62)) (some ⟨w.heap.size, 0, none⟩) 1 [r] := by
  have h := heap_alloc_new w (.cells #[.slice r.ad r.adr.length r.cp, .int .i64 r.bits, .int .i64 r.own] 62)
  refine ⟨Nat.le_refl _, by decide, (fun h => by cases h), (fun x e => by cases e; rfl), ?_, .inr ⟨_, 0, rfl, fun j u hj => ?_⟩⟩
  · intro b off x e
    cases e
    exact ⟨_, _, h⟩
  · rw [Nat.zero_add]
    have e : cellsR [r] = [.slice r.ad r.adr.length r.cp, .int .i64 r.bits, .int .i64 r.own] := by simp [cellsR, Rw.cells, Rw.sl]
    rw [e] at hj
    exact cell_of h j (by simpa using hj)
def dropV (vs : List Rw) (o : Int) : List Rw := vs.filter fun r => !(r.own == o)
theorem dropV_next {vs : List Rw} {k : Nat} {r : Rw} {o : Int} (hr : vs[k]? = some r) : dropV (vs.take (k + 1)) o = if r.own = o then dropV (vs.take k) o else dropV (vs.take k) o ++ [r] := by
  have hlt := (List.getElem?_eq_some_iff.1 hr).1
  have e : vs[k] = r := (List.getElem?_eq_some_iff.1 hr).2
  unfold dropV
  rw [List.take_succ_eq_append_getElem hlt, e, List.filter_append]
  by_cases h : r.own = o <;> simp [h]
theorem dropV_len (vs : List Rw) (k : Nat) (o : Int) : (dropV (vs.take k) o).length ≤ vs.length := by
  unfold dropV
  refine Nat.le_trans (List.length_filter_le _ _) ?_
  rw [List.length_take]; omega
def RowsRet (vs : List Rw) (w : World) (e : Ending) (w' : World) : Prop := ∃ a cap, e = .returned (.slice a vs.length cap) ∧ RowsAt w' a cap vs ∧ Below w.heap.size w w'
set_option maxHeartbeats 1000000 in
theorem rdrop_any (a : Option Addr) (cap : Nat) (vs : List Rw) (o : Int) (w : World) (hv : RowsAt w a cap vs) (hl : vs.length ≤ 1000) :
    Calls Try.prog 13 #[.slice a vs.length cap, .int .i64 o] w (RowsRet (dropV vs o) w) := by
  have HV := Lib.hid hv
  have HL := Lib.hid hl
  have hl0 : (vs.length : Int) ≤ 1000 := by omega
  have HO1 : Hid ((w.alloc (.cells #[] 62)).ownsRow w.heap.size 62 3 (.slice (some ⟨w.heap.size, 0, none⟩) 0 0) 0 []) := Lib.hid (World.ownsRow_made (w := w) (base := w.heap.size) (size := 3) (e := 62) #[] 0 (Nat.le_refl _) (by decide) rfl)
  have HBA : Hid (Below w.heap.size w (w.alloc (.cells #[] 62))) := Lib.hid ((Below.refl _ _).alloc (Nat.le_refl _) _)
  clear hv hl
  go_enter Try.func13, Try.ntmps13
  go_wp2_with fail
  go_loopw [5, 6] (fun v i wr => ∃ k : Nat, i = .int .i64 k ∧ k ≤ vs.length ∧ wr.ownsRow w.heap.size 62 3 v (dropV (vs.take k) o).length (cellsR (dropV (vs.take k) o)) ∧ Below w.heap.size w wr) (fun v i _ => vs.length - (intOf i).toNat)
  case atStart => exact ⟨0, rfl, Nat.zero_le _, HO1.out, HBA.out⟩
  case round =>
    obtain ⟨k, rfl, hk, hown, hbw⟩ := hrel
    have HO := Lib.hid hown
    have HBW := Lib.hid hbw
    have HLN := Lib.hid (dropV_len vs k o)
    clear hown hbw
    by_cases hlt : k < vs.length
    · obtain ⟨r, hr⟩ : ∃ r, vs[k]? = some r := ⟨vs[k], List.getElem?_eq_getElem hlt⟩
      obtain ⟨b, off, rfl, q0, q1, q2⟩ := rows_cell (HV.out.below HBW.out) hr
      unfold Rw.sl at q0
      have hk0 : (0 : Int) ≤ k := by omega
      have hk1 : (k : Int) < vs.length := by omega
      have HNX := Lib.hid (dropV_next (o := o) hr)
      have HLT := Lib.hid hlt
      clear hr hlt
      obtain ⟨_, a7, cap7, hv7, _⟩ := rows_own HO.out
      generalize hvv : u5 = v at *
      by_cases ho : r.own = o
      · have ho1 : (r.own == o) = true := by simp [ho]
        rw [if_pos ho] at HNX
        clear ho
        go_wp2_with fail
        go_roundw
        case rel => exact ⟨k + 1, by go_num, HLT.out, by rw [HNX.out]; exact HO.out, HBW.out⟩
        case measure => simp [intOf]; omega
      · have ho1 : (r.own == o) = false := by simpa using ho
        rw [if_neg ho] at HNX
        clear ho
        go_wp2_with (first | (at_builtin; refine wpList_append_rows rfl _ _ rfl w.heap.size v (dropV (vs.take k) o).length (cellsR (dropV (vs.take k) o)) rfl (HO.out.alloc _) (some ⟨wr.heap.size, 0, none⟩) 1 1 [r] rfl rfl (rows_one wr r) (by have := HLN.out; have := HL.out; simp; omega) (by have := HBW.out.size; simp; omega) ?_; intro v2 w5 hown hgrow; have HO5 := Lib.hid hown; have HB5 := Lib.hid ((HBW.out.alloc HBW.out.size _).grown hgrow (by have := HBW.out.size; simp; omega) (fun k hk => (HO.out.lt k hk).1)); clear hown hgrow) | fail)
        go_roundw
        case rel => exact ⟨k + 1, by go_num, HLT.out, by rw [HNX.out, cellsR_app, List.length_append]; exact HO5.out, HB5.out⟩
        case measure => simp [intOf]; omega
    · obtain rfl : k = vs.length := by omega
      have hown := HO.out
      rw [List.take_length] at hown
      obtain ⟨_, a7, cap7, rfl, hrow⟩ := rows_own hown
      have HR := Lib.hid hrow
      clear hown hrow
      go_wp2_with fail
      go_ret
      exact ⟨a7, cap7, rfl, HR.out, HBW.out⟩
end Go.Proofs.Ytlmmnjoincmgcaa
