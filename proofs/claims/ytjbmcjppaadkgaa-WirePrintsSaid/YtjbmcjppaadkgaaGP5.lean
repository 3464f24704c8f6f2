/- Texts of this seat, merged: Wire9, TermMath3, Term12, Term13, Term14, Term15, Term16, Term17, TermMath4. -/
import Derived.Test.YtjbmcjppaadkgaaGP4
import Derived.StillTailTactics
import Derived.Lib.AppendStr
import Derived.Deep.RegionHeld3
import Derived.Lib.Join
import Derived.Laws.AppendOwnNone
namespace Go.Proofs.Ytjbmcjppaadkgaa
set_option linter.unusedVariables false
set_option linter.unusedSimpArgs false
set_option maxRecDepth 100000
open Go.RowKit
theorem row_drew {w : World} {base : Nat} {v : Value} {L : List UInt8} (h : RowB w base v L) : RowB w.drew base v L := by
  unfold RowB at h ⊢
  exact h.drew
def PrRet (w : World) (base : Nat) (r : Nat × List UInt8) (e : Ending) (w' : World) : Prop := ∃ v', e = .returned (.tuple #[v', .int .i64 r.1]) ∧ (r.1 = 0 → RowB w' base v' r.2) ∧ Below base w w'
theorem p0_any (v : Value) (L : List UInt8) (base : Nat) (w : World) (hv : RowB w base v L) (hbase : base ≤ w.heap.size) (hL : L.length ≤ 1000000) :
    Calls Try.prog 41 #[v] w (PrRet w base (0, L ++ numB 0 3)) := by
  have HLAY := Lib.hid (show Calls Try.prog 42 #[v, .int .u64 0, .int .i64 3] w (LayRet w base (L ++ numB 0 3)) from lay_any v L base 0 3 w hv hbase hL (by decide) (by decide))
  go_enter Try.func41, Try.ntmps41
  go_wp2_with (first | (go_at_call 42; ((with_reducible refine (HLAY.out).mono ?_); rintro e w2 ⟨v', rfl, hr, hb⟩; have HR := Lib.hid hr; have HB := Lib.hid hb; clear hr hb)) | fail)
  go_ret2
  exact ⟨_, rfl, fun _ => HR.out, HB.out⟩
theorem p4_any (v : Value) (L : List UInt8) (base bp bs B c u : Nat) (w : World) (hv : RowB w base v L) (hbase : base ≤ w.heap.size) (hL : L.length ≤ 1000000) (hu : u < 4294967296)
    (cp : w.cell? ⟨bp, 0, none⟩ = some (.pointer (some ⟨B, c, none⟩))) (cs : w.cell? ⟨bs, 0, none⟩ = some (.int .i64 4)) (cm : w.cell? ⟨B, c, none⟩ = some (.int .u32 (u : Nat))) :
    Calls Try.prog 44 #[v, .pointer (some ⟨bp, 0, none⟩), .pointer (some ⟨bs, 0, none⟩)] w (PrRet w base (0, L ++ numB u 4)) := by
  have HLAY := Lib.hid (show Calls Try.prog 42 #[v, .int .u64 (u : Nat), .int .i64 4] w.drew (LayRet w.drew base (L ++ numB u 4)) from lay_any v L base u 4 w.drew (row_drew hv) hbase hL (by omega) (by decide))
  have hw := wrap_u64 (u : Int) (by omega) (by omega)
  go_enter Try.func44, Try.ntmps44
  go_wp2_with fail
  go_still_tail 6, (by kernel_rfl)
  change wpList _ _ _ _ _ w.drew
  go_wp2_with (first | (go_at_call 42; ((with_reducible refine (HLAY.out).mono ?_); rintro e w2 ⟨v', rfl, hr, hb⟩; have HR := Lib.hid hr; have HB := Lib.hid hb; clear hr hb)) | fail)
  go_ret2
  exact ⟨_, rfl, fun _ => HR.out, (Below.refl _ _).drew.trans HB.out⟩
theorem p8_any (v : Value) (L : List UInt8) (base bp bs B c u : Nat) (w : World) (hv : RowB w base v L) (hbase : base ≤ w.heap.size) (hL : L.length ≤ 1000000) (hu : u < 18446744073709551616)
    (cp : w.cell? ⟨bp, 0, none⟩ = some (.pointer (some ⟨B, c, none⟩))) (cs : w.cell? ⟨bs, 0, none⟩ = some (.int .i64 8)) (cm : w.cell? ⟨B, c, none⟩ = some (.int .u64 (u : Nat))) :
    Calls Try.prog 51 #[v, .pointer (some ⟨bp, 0, none⟩), .pointer (some ⟨bs, 0, none⟩)] w (PrRet w base (0, L ++ numB u 8)) := by
  have HLAY := Lib.hid (show Calls Try.prog 42 #[v, .int .u64 (u : Nat), .int .i64 8] w.drew (LayRet w.drew base (L ++ numB u 8)) from lay_any v L base u 8 w.drew (row_drew hv) hbase hL (by omega) (by decide))
  have hw := wrap_u64 (u : Int) (by omega) (by omega)
  go_enter Try.func51, Try.ntmps51
  go_wp2_with fail
  go_still_tail 5, (by kernel_rfl)
  change wpList _ _ _ _ _ w.drew
  go_wp2_with (first | (go_at_call 42; ((with_reducible refine (HLAY.out).mono ?_); rintro e w2 ⟨v', rfl, hr, hb⟩; have HR := Lib.hid hr; have HB := Lib.hid hb; clear hr hb)) | fail)
  go_ret2
  exact ⟨_, rfl, fun _ => HR.out, (Below.refl _ _).drew.trans HB.out⟩
theorem strCells_cells (s : ByteArray) : Lib.strCells s = cellsOf s.data.toList := by
  unfold Lib.strCells cellsOf
  simp
theorem step_append_str {w : World} {ops : Array Oper} {o : Oper} {a : Act} {K : Act → World → Prop} {Q : Exit → Act → World → Prop} {E : Prop} (hgd : o.guard = none) (sl x : Operand)
    (ho : o.op = .call { callee := .builtin .append, args := #[sl, x], argTypes := #[28, 9] })
    (base : Nat) (v : Value) (L : List UInt8) (hs : a.eval sl = v) (hown : RowB w base v L) (s : ByteArray) (hx : a.eval x = .string s) (hb : L.length + s.size ≤ 100000000) (hbase : base ≤ w.heap.size)
    (h : ∀ v' w', RowB w' base v' (L ++ s.data.toList) → Below base w w' → K (a.put o.dst v') w') :
    if Region.wanted o (yielded ops a.tmps) = true then Oper.wp Try.prog o a w K Q else E := by
  have hw : Region.wanted o (yielded ops a.tmps) = true := by simp [Region.wanted, hgd]
  rw [if_pos hw]
  obtain ⟨i0, hi0, hz0, hz1, hz2⟩ := info_parts Try.info5
  obtain ⟨v', w', hr, h2, h3, _⟩ := Lib.run_append_own_string (P := Try.prog) w base 28 9 o.type 5 i0 Try.underlying28 Try.underlying9 hi0 hz0 hz1 hz2 v L.length _ hown s (by unfold maxLen; omega) (by omega) hbase
  unfold Oper.wp execOp
  simp only [ho, resolve, invoke, builtin, Sem.run_bind, Sem.run_pure, Result.andThen_ok, List.map_toArray, List.map_cons, List.map_nil, hs, hx, hr]
  rw [strCells_cells] at h2
  refine h v' w' (rowB_app h2 (by rw [Array.length_toList]; rfl)) ((Below.refl _ _).grown h3 hbase (fun g hg => ?_))
  exact (hown.lt g hg).1
set_option maxHeartbeats 1000000 in
theorem pt_any (v : Value) (L : List UInt8) (base bt B c : Nat) (s : ByteArray) (w : World) (hv : RowB w base v L) (hbase : base ≤ w.heap.size) (hL : L.length ≤ 1000000) (hbt : bt < base) (hB : B < base)
    (cp : w.cell? ⟨bt, 0, none⟩ = some (.pointer (some ⟨B, c, none⟩))) (cm : w.cell? ⟨B, c, none⟩ = some (.string s)) :
    Calls Try.prog 47 #[v, .pointer (some ⟨bt, 0, none⟩)] w (PrRet w base (if 65535 < s.size then (3, []) else (0, L ++ numB s.size 2 ++ s.data.toList))) := by
  by_cases hs : 65535 < s.size
  · rw [if_pos hs]
    have hsi : (65535 : Int) < s.size := by omega
    go_enter Try.func47, Try.ntmps47
    go_wp2_with fail
    go_ret2
    exact ⟨_, rfl, fun h => absurd h (by decide), Below.refl _ _⟩
  · rw [if_neg hs]
    have hsi : ¬ (65535 : Int) < s.size := by omega
    have HLAY := Lib.hid (show Calls Try.prog 42 #[v, .int .u64 (s.size : Nat), .int .i64 2] w.drew (LayRet w.drew base (L ++ numB s.size 2)) from lay_any v L base s.size 2 w.drew (row_drew hv) hbase hL (by omega) (by decide))
    have hw := wrap_u64 (s.size : Int) (by omega) (by omega)
    have hp1 : w.drew.cell? ⟨bt, 0, none⟩ = some (.pointer (some ⟨B, c, none⟩)) := cp
    have hm1 : w.drew.cell? ⟨B, c, none⟩ = some (.string s) := cm
    have hlen : (L ++ numB s.size 2).length + s.size ≤ 100000000 := by rw [List.length_append, numB_len]; omega
    go_enter Try.func47, Try.ntmps47
    go_wp2_with fail
    go_region_held3 (fun W => W.cell? ⟨bt, 0, none⟩ = some (.pointer (some ⟨B, c, none⟩)) ∧ W.cell? ⟨B, c, none⟩ = some (.string s)) (exact ⟨by assumption, by assumption⟩)
      (first | (go_at_call 42; ((with_reducible refine (HLAY.out).mono ?_); rintro e w2 ⟨v', rfl, hr, hb⟩; have HR := Lib.hid hr; have HB := Lib.hid hb; have q0 := (hb.cell (p := ⟨bt, 0, none⟩) hbt).trans hp1; have q1 := (hb.cell (p := ⟨B, c, none⟩) hB).trans hm1; clear hr hb)) | (refine step_append_str (by rfl) _ _ (by rfl) base v' _ (by rfl) HR.out s (by rfl) hlen (by have := HB.out.size; have := hbase; simp at *; omega) ?_; intro v2 w3 hr3 hb3; have q2 := (hb3.cell (p := ⟨bt, 0, none⟩) hbt).trans q0; have q3 := (hb3.cell (p := ⟨B, c, none⟩) hB).trans q1))
    all_goals
      go_wp2_with fail
      go_ret2
      exact ⟨_, rfl, fun _ => hr3, ((Below.refl _ _).drew.trans HB.out).trans hb3⟩
end Go.Proofs.Ytjbmcjppaadkgaa

namespace Go.Proofs.Ytjbmcjppaadkgaa
set_option linter.unusedVariables false
set_option linter.unusedSimpArgs false

theorem qLoop_count : ∀ (f : Nat) (sh : Shape) (acc : List (List UInt8)) (r : List UInt8) (x : List (List UInt8) × List UInt8), qLoop f sh acc r = some x → sh.least ≤ x.1.length ∧ x.1.length ≤ sh.most := by
  intro f
  induction f with
  | zero => intro sh acc r x h; cases h
  | succ f ih =>
    intro sh acc r x h
    simp only [qLoop] at h
    obtain ⟨y, hy, h⟩ := Option.bind_eq_some_iff.1 h
    split at h
    · cases h
    · split at h
      · exact ih _ _ _ _ h
      · split at h
        · rename_i hc
          cases h; simpa using hc
        · cases h

theorem qIn_count {f : Nat} {sh : Shape} {r : List UInt8} {x : Nat × List (List UInt8) × List UInt8} (h : qIn (qLoop f) sh r = some x) : sh.least ≤ x.2.1.length ∧ x.2.1.length ≤ sh.most := by
  unfold qIn at h
  obtain ⟨r1, h1, h⟩ := Option.bind_eq_some_iff.1 h
  obtain ⟨r2, h2, h⟩ := Option.bind_eq_some_iff.1 h
  obtain ⟨r3, h3, h⟩ := Option.bind_eq_some_iff.1 h
  obtain ⟨r4, h4, h⟩ := Option.bind_eq_some_iff.1 h
  obtain ⟨r5, h5, h⟩ := Option.bind_eq_some_iff.1 h
  cases h
  unfold qList at h4
  split at h4
  · rename_i hc
    cases h4; simp [hc.1]
  · have := qLoop_count _ _ _ _ r4 h4
    exact this

theorem qTerm_count {f : Nat} {l : List UInt8} {x : Nat × Nat × List (List UInt8) × List UInt8} (h : qTermS (qLoop f) l = some x) : ∃ sh, shapeOf x.1 = some sh ∧ sh.least ≤ x.2.2.1.length ∧ x.2.2.1.length ≤ sh.most := by
  cases l with
  | nil => cases h
  | cons c r =>
    simp only [qTermS] at h
    obtain ⟨sh, hs, h⟩ := Option.bind_eq_some_iff.1 h
    split at h
    · obtain ⟨y, hy, e⟩ := Option.bind_eq_some_iff.1 h
      cases e; exact ⟨sh, hs, qIn_count hy⟩
    · rename_i hm
      obtain ⟨y, hy, e⟩ := Option.bind_eq_some_iff.1 h
      cases e
      refine ⟨sh, hs, ?_⟩
      have : sh.least = 0 ∨ 0 < sh.most := by
        rcases shape_cases hs with e | e | e | e | e | e | e | e | e | e | e
        all_goals (rw [e] at hs; simp only [shapeOf, Option.some.injEq] at hs; subst hs; simp)
      rcases this with h | h
      · simp [h]
      · exact absurd h hm

theorem qLook_some {t : List UInt8} {k n : Nat} {ps : List (List UInt8)} : qLook t = some (k, n, ps) ↔ t.length ≤ 65536 ∧ qTermS (qLoop t.length) t = some (k, n, ps, []) := by
  unfold qLook
  constructor
  · intro h
    split at h
    · rename_i hl
      refine ⟨hl, ?_⟩
      obtain ⟨⟨k', n', ps', rest⟩, hx, h⟩ := Option.bind_eq_some_iff.1 h
      split at h
      · rename_i hr
        simp only at hr
        subst hr
        cases h
        exact hx
      · cases h
    · cases h
  · rintro ⟨hl, hx⟩
    rw [if_pos hl, hx]
    rfl

theorem look_count {t : List UInt8} {k n : Nat} {ps : List (List UInt8)} (h : qLook t = some (k, n, ps)) : ∃ sh, shapeOf k = some sh ∧ sh.least ≤ ps.length ∧ ps.length ≤ sh.most :=
  qTerm_count (qLook_some.1 h).2
end Go.Proofs.Ytjbmcjppaadkgaa

namespace Go.Proofs.Ytjbmcjppaadkgaa
set_option linter.unusedVariables false
set_option linter.unusedSimpArgs false
set_option maxRecDepth 100000
open Go.RowKit

theorem lookR_some {t : List UInt8} {k n : Nat} {ps : List (List UInt8)} (h : lookR t = (k, n, ps)) (hk : k ≠ 0) : qLook t = some (k, n, ps) := by
  unfold lookR at h
  cases hq : qLook t with
  | none => rw [hq] at h; cases h; exact absurd rfl hk
  | some x => rw [hq] at h; rw [← h]; rfl
theorem look3 {t : List UInt8} {n : Nat} {ps : List (List UInt8)} (h : lookR t = (10, n, ps)) : ∃ a b c, ps = [a, b, c] := by
  obtain ⟨sh, hs, h1, h2⟩ := look_count (lookR_some h (by decide))
  simp only [shapeOf, Option.some.injEq] at hs
  subst hs
  match ps, h1, h2 with
  | [a, b, c], _, _ => exact ⟨a, b, c, rfl⟩
  | [], h, _ => simp at h
  | [_], h, _ => simp at h
  | [_, _], h, _ => simp at h
  | _ :: _ :: _ :: _ :: _, _, h => simp at h
theorem look2 {t : List UInt8} {n : Nat} {ps : List (List UInt8)} (h : lookR t = (9, n, ps)) : ∃ a b, ps = [a, b] := by
  obtain ⟨sh, hs, h1, h2⟩ := look_count (lookR_some h (by decide))
  simp only [shapeOf, Option.some.injEq] at hs
  subst hs
  match ps, h1, h2 with
  | [a, b], _, _ => exact ⟨a, b, rfl⟩
  | [], h, _ => simp at h
  | [_], h, _ => simp at h
  | _ :: _ :: _ :: _, _, h => simp at h
theorem look1 {t : List UInt8} {n : Nat} {ps : List (List UInt8)} (h : lookR t = (5, n, ps)) : ∃ a, ps = [a] := by
  obtain ⟨sh, hs, h1, h2⟩ := look_count (lookR_some h (by decide))
  simp only [shapeOf, Option.some.injEq] at hs
  subst hs
  match ps, h1, h2 with
  | [a], _, _ => exact ⟨a, rfl⟩
  | [], h, _ => simp at h
  | _ :: _ :: _, _, h => simp at h

theorem strs_cell {w : World} {a : Option Addr} {n cp : Nat} {l : List (List UInt8)} (h : Strs w (.slice a n cp) l) (hl : l ≠ []) : ∃ b off, a = some ⟨b, off, none⟩ ∧ b < w.heap.size ∧ ∀ i, i < l.length → w.cell? ⟨b, off + i, none⟩ = some (strV (l.getD i [])) := by
  obtain ⟨a', cap, e, _, h⟩ := h
  cases e
  rcases h with h | ⟨b, off, rfl, h⟩
  · exact absurd h hl
  · have hp : 0 < l.length := List.length_pos_iff.2 hl
    exact ⟨b, off, rfl, World.block_lt_of_cell? w _ (h 0 hp), h⟩
theorem alloc_cell {w : World} {b i : Nat} {v : Value} (o : Obj) (hb : b < w.heap.size) (h : w.cell? ⟨b, i, none⟩ = some v) : (w.alloc o).cell? ⟨b, i, none⟩ = some v := by
  unfold World.cell? at h ⊢
  rw [Below.heap_alloc w o b hb]; exact h

def openR (x : Nat × Nat × List (List UInt8)) (key : List UInt8) (n : Nat) (v : List UInt8) : List UInt8 × Int :=
  if x.1 = 10 then (if x.2.1 = n ∧ x.2.2.getD 0 [] = key ∧ x.2.2.getD 2 [] = v then (x.2.2.getD 1 [], 0) else ([], 8)) else ([], 3)



theorem ret_open {a : ByteArray} {l : List UInt8} {c d : Int} (h : a = strB l) (h2 : c = d) : Ending.returned (.tuple #[.string a, .int .i64 c]) = .returned (.tuple #[.string (strB l), .int .i64 d]) := by rw [h, h2]

def signedR (x : Nat × Nat × List (List UInt8)) (key u : List UInt8) : Bool := x.1 == 9 && (x.2.2.getD 0 [] == key && x.2.2.getD 1 [] == u)
end Go.Proofs.Ytjbmcjppaadkgaa

namespace Go.Proofs.Ytjbmcjppaadkgaa
set_option linter.unusedVariables false
set_option linter.unusedSimpArgs false
set_option maxRecDepth 100000
open Go.RowKit

def smallF : Nat → List (List UInt8) → Bool
  | _, [] => true
  | left, t :: r => if left ≤ t.length then false else smallF (left - (t.length + 1)) r
def total (l : List (List UInt8)) : Nat := (l.map List.length).sum + l.length
theorem small_total : ∀ (l : List (List UInt8)) (left : Nat), smallF left l = true ↔ total l ≤ left := by
  intro l
  induction l with
  | nil => intro left; simp [smallF, total]
  | cons t r ih =>
    intro left
    unfold smallF
    split
    · rename_i h
      simp [total]; omega
    · rename_i h
      rw [ih]
      simp [total]; omega


theorem smallF_at {l : List (List UInt8)} {k left : Nat} (hk : k < l.length) : smallF left (l.drop k) = if left ≤ (l.getD k []).length then false else smallF (left - ((l.getD k []).length + 1)) (l.drop (k + 1)) := by
  rw [List.drop_eq_getElem_cons hk, smallF]
  simp [List.getD, List.getElem?_eq_getElem hk]

theorem small_any (v : Value) (l : List (List UInt8)) (w : World) (hv : Strs w v l) (hl : l.length ≤ maxLen) :
    Calls Try.prog 55 #[v] w fun e w' => e = .returned (.bool (smallF 65536 l)) ∧ w = w' := by
  unfold maxLen at hl
  obtain ⟨ad, cap, rfl, _, hv⟩ := hv
  have HV := Lib.hid hv
  clear hv
  go_enter Try.func55, Try.ntmps55
  go_wp2_with fail
  go_loop [3, 8] (fun a i => ∃ k left : Nat, k ≤ l.length ∧ a = .int .i64 left ∧ i = .int .i64 k ∧ left ≤ 65536 ∧ smallF left (l.drop k) = smallF 65536 l) (fun _ i => l.length - (intOf i).toNat)
  case atStart => exact ⟨0, 65536, by omega, rfl, rfl, by omega, rfl⟩
  case round =>
    obtain ⟨k, left, hk, rfl, rfl, hle, hs⟩ := hrel
    have HS := Lib.hid hs
    clear hs
    by_cases hlt : k < l.length
    · obtain ⟨b, off, rfl, hc⟩ : ∃ b off, ad = some ⟨b, off, none⟩ ∧ ∀ i, i < l.length → w.cell? ⟨b, off + i, none⟩ = some (strV (l.getD i [])) := by
        rcases HV.out with h | h
        · rw [h] at hlt; simp at hlt
        · exact h
      have hcell : w.cell? ⟨b, off + k, none⟩ = some (.string (strB (l.getD k []))) := hc k hlt
      have HST := Lib.hid (smallF_at (left := left) hlt)
      clear hc
      generalize l.getD k [] = t at *
      have hsz := strB_size t
      by_cases hbig : left ≤ t.length
      · have HO : Hid (smallF 65536 l = false) := Lib.hid (by rw [← HS.out, HST.out, if_pos hbig])
        go_wp2_with fail
        go_ret
        exact ⟨ret_bool HO.out.symm, rfl⟩
      · have HO : Hid (smallF (left - (t.length + 1)) (l.drop (k + 1)) = smallF 65536 l) := Lib.hid (by rw [← HS.out, HST.out, if_neg hbig])
        go_wp2_with fail
        go_round
        case rel => exact ⟨k + 1, left - (t.length + 1), by omega, congrArg (Value.int .i64) (by omega), by go_num, by omega, HO.out⟩
        case measure => simp [intOf]; omega
    · have HO : Hid (smallF 65536 l = true) := Lib.hid (by rw [← HS.out, List.drop_eq_nil_of_le (by omega)]; rfl)
      go_wp2_with fail
      go_ret
      exact ⟨ret_bool HO.out.symm, rfl⟩

/-! strings.Join -/
theorem join_own {w : World} {B : Nat} {v : Value} {l : List (List UInt8)} (h : w.ownsRow B 9 1 v l.length (l.map strV)) (hl : l.length ≤ 140737488355328) (hj : (Lib.join l [44]).length ≤ 140737488355328) :
    Calls Try.prog 69 #[v, .string ⟨#[44]⟩] w fun e w' => e = .returned (.string (strB (Lib.join l [44]))) ∧ Below w.heap.size w w' := by
  rcases h.2 with ⟨rfl, hn⟩ | ⟨g, cap, cur, rfl, hB, hg, hcap, _, hsz, htk⟩
  · have : l = [] := List.length_eq_zero_iff.1 hn
    subst this
    refine (Try.strings_Join_none none 0 ⟨#[44]⟩ w).mono ?_
    rintro e w' ⟨rfl, rfl⟩
    exact ⟨rfl, Below.refl _ _⟩
  · have hm : (l.map strB).map (·.data.toList) = l := by
      rw [List.map_map]
      have : (fun x : ByteArray => x.data.toList) ∘ strB = id := by funext x; rfl
      rw [this, List.map_id]
    have := Try.strings_Join g 0 cap (l.map strB) ⟨#[44]⟩ w (fun j x hx => by
      rw [Nat.zero_add]
      refine cell_of hg j ?_
      have h1 : (l.map strV)[j]? = some (.string x) := by
        rw [List.getElem?_map] at hx ⊢
        cases hj : l[j]? with
        | none => rw [hj] at hx; cases hx
        | some y => rw [hj] at hx; cases hx; rfl
      rw [← htk, List.getElem?_take] at h1
      split at h1
      · simpa using h1
      · cases h1) (Array.getElem?_eq_some_iff.1 hg).1 (by simpa using hl) (by simpa using hcap) (by rw [hm]; exact hj)
    rw [hm, List.length_map] at this
    exact this
end Go.Proofs.Ytjbmcjppaadkgaa

namespace Go.Proofs.Ytjbmcjppaadkgaa
set_option linter.unusedVariables false
set_option linter.unusedSimpArgs false
set_option maxRecDepth 100000
open Go.RowKit

def signOf (k : Nat) : UInt8 := ([48, 97, 110, 120, 112, 100, 104, 107, 109, 115, 108] : List UInt8).getD (k - 1) 0
def itemsOf (k n : Nat) (b : List UInt8) : List (List UInt8) := if numb k then [decs n] else if k = 4 then [hexOf b] else []
def joined (k n : Nat) (b : List UInt8) (l : List (List UInt8)) : List UInt8 := Lib.join (itemsOf k n b ++ l) [44]
def wText (k n : Nat) (b : List UInt8) (l : List (List UInt8)) : List UInt8 := signOf k :: (if 5 ≤ k then 40 :: (joined k n b l ++ [41]) else joined k n b l)

theorem strs_news {w : World} {b off : Nat} {l : List (List UInt8)} (h : ∀ i, i < l.length → w.cell? ⟨b, off + i, none⟩ = some (strV (l.getD i []))) : ∀ j u, (l.map strV)[j]? = some u → w.cell? ((⟨b, off, none⟩ : Addr).add j) = some u := by
  intro j u hu
  rw [add_at]
  rw [List.getElem?_map] at hu
  cases hj : l[j]? with
  | none => rw [hj] at hu; cases hu
  | some y =>
    rw [hj] at hu
    cases hu
    have hlt : j < l.length := (List.getElem?_eq_some_iff.1 hj).1
    rw [h j hlt]
    simp [List.getD, hj]

theorem wpList_append_strs {w : World} {ops : Array Oper} {rest : List Oper} {o : Oper} {a : Act} {Q : Exit → Act → World → Prop} (hgd : o.guard = none) (s x : Operand)
    (ho : o.op = .call { callee := .builtin .append, args := #[s, x], argTypes := #[33, 33] })
    (base : Nat) (v : Value) (n : Nat) (xs : List Value) (hs : a.eval s = v) (hown : w.ownsRow base 9 1 v n xs)
    (sv : Value) (l : List (List UInt8)) (hx : a.eval x = sv) (hsrc : Strs w sv l) (h63 : n + l.length ≤ 8796093022208) (hbase : base ≤ w.heap.size)
    (h : ∀ v' w', w'.ownsRow base 9 1 v' (n + l.length) (xs ++ l.map strV) → w.grownBy w' v.ownBlock → wpList Try.prog ops Q rest (a.put o.dst v') w') : wpList Try.prog ops Q (o :: rest) a w := by
  obtain ⟨i0, hi0, hz0, hz1, hz2⟩ := info_parts Try.infoStr
  obtain ⟨ad, cap, rfl, hn, hc⟩ := hsrc
  rcases hc with rfl | ⟨b, off, rfl, hc⟩
  · cases ad with
    | none =>
      obtain rfl := hn rfl
      refine wpList_append_own_none hgd s x 33 ho base 9 i0 1 Try.underlying33 hi0 v n xs hs hown hx ?_
      exact h v w (by simpa using hown) (grown_refl _ _)
    | some ad =>
      refine wpList_append_own w hgd s x 33 ho base 9 i0 _ 1 16 Try.underlying33 hi0 hz0 hz1 hz2 rfl (by decide) v n xs hs hown ad 0 cap [] hx rfl (fun j u hu => by cases hu) (fun u hu => by cases hu) (by unfold maxLen; simp at h63; omega) (by simp at h63; omega) hbase ?_
      intro v' w' h1 h2 _
      exact h v' w' (by simpa using h1) h2
  · refine wpList_append_own w hgd s x 33 ho base 9 i0 _ 1 16 Try.underlying33 hi0 hz0 hz1 hz2 rfl (by decide) v n xs hs hown ⟨b, off, none⟩ l.length cap (l.map strV) hx (by simp) (strs_news hc) (fun u hu => by obtain ⟨y, _, rfl⟩ := List.mem_map.1 hu; rfl) (by unfold maxLen; omega) (by omega) hbase ?_
    intro v' w' h1 h2 _
    exact h v' w' h1 h2

theorem shape_facts {k : Nat} {sh : Shape} (h : shapeOf k = some sh) : sh.numbered = numb k ∧ (sh.hex = true ↔ k = 4) ∧ (0 < sh.most ↔ 5 ≤ k) ∧ 1 ≤ k ∧ k ≤ 11 := by
  rcases shape_cases h with rfl | rfl | rfl | rfl | rfl | rfl | rfl | rfl | rfl | rfl | rfl
  all_goals (simp only [shapeOf, Option.some.injEq] at h; subst h; decide)
theorem sign_slice {k : Nat} (h1 : 1 ≤ k) (h2 : k ≤ 11) (w : World) : (Instr.slice 9 (.string ⟨#[48, 97, 110, 120, 112, 100, 104, 107, 109, 115, 108]⟩) (some (.int .i64 ((k : Int) - 1))) (some (.int .i64 k)) none).run Try.prog w = .ok (.string (strB [signOf k])) w := by
  rcases (show k = 1 ∨ k = 2 ∨ k = 3 ∨ k = 4 ∨ k = 5 ∨ k = 6 ∨ k = 7 ∨ k = 8 ∨ k = 9 ∨ k = 10 ∨ k = 11 by omega) with rfl | rfl | rfl | rfl | rfl | rfl | rfl | rfl | rfl | rfl | rfl <;> kernel_rfl


theorem join_len : ∀ (l : List (List UInt8)), (Lib.join l [44]).length ≤ total l := by
  intro l
  cases l with
  | nil => simp [Lib.join_nil, total]
  | cons x r =>
    rw [Lib.join_cons]
    have : ∀ r : List (List UInt8), (Lib.joinTail [44] r).length = (r.map List.length).sum + r.length := by
      intro r
      induction r with
      | nil => rfl
      | cons y r ih =>
        have e : Lib.joinTail [44] (y :: r) = ([44] ++ y) ++ Lib.joinTail [44] r := by simp [Lib.joinTail]
        rw [e, List.length_append, ih]
        simp; omega
    rw [List.length_append, this]
    simp [total]; omega

theorem text_paren (k n : Nat) (b : List UInt8) (l : List (List UInt8)) (h : 5 ≤ k) : strB [signOf k] ++ (((⟨#[40]⟩ : ByteArray) ++ strB (joined k n b l)) ++ ⟨#[41]⟩) = strB (wText k n b l) := by
  rw [show (⟨#[40]⟩ : ByteArray) = strB [40] from rfl, show (⟨#[41]⟩ : ByteArray) = strB [41] from rfl, strB_app, strB_app, strB_app]
  unfold wText
  rw [if_pos h]
  rfl
theorem text_bare (k n : Nat) (b : List UInt8) (l : List (List UInt8)) (h : ¬ 5 ≤ k) : strB [signOf k] ++ strB (joined k n b l) = strB (wText k n b l) := by
  rw [strB_app]
  unfold wText
  rw [if_neg h]
  rfl
theorem strB_size1 : (⟨#[40]⟩ : ByteArray).size = 1 := rfl
theorem strB_size2 : (⟨#[41]⟩ : ByteArray).size = 1 := rfl

theorem write_neither (k n : Nat) (sh : Shape) (hs : shapeOf k = some sh) (vb vl : Value) (b : List UInt8) (l : List (List UInt8)) (w : World) (hb : Bytes w vb b) (hl : Strs w vl l) (ht : total l ≤ 65536) (hn : numb k = false) (h4 : k ≠ 4) :
    Calls Try.prog 56 #[.int .i64 k, shapeV sh, .int .u64 n, vb, vl] w fun e w' => e = .returned (.string (strB (wText k n b l))) ∧ Below w.heap.size w w' := by
  obtain ⟨f1, f2, f3, f4, f5⟩ := shape_facts hs
  have hnn : sh.numbered = false := by rw [f1, hn]
  have hhx : sh.hex = false := by cases hx : sh.hex; rfl; exact absurd (f2.1 hx) h4
  have hitems : itemsOf k n b = [] := by unfold itemsOf; rw [if_neg (by rw [hn]; decide), if_neg h4]
  have HJ : Hid (joined k n b l = Lib.join l [44]) := Lib.hid (by unfold joined; rw [hitems]; rfl)
  have hHL : Strs (w.alloc (.cells #[.bool false, .int .u64 sh.low, .int .u64 sh.high, .bool false, .int .i64 sh.least, .int .i64 sh.most, .bool sh.ordered] 82)) vl l := hl.below ((Below.refl _ _).alloc (Nat.le_refl _) _)
  have HL1 := Lib.hid hHL
  have hjl := join_len l
  have hll : l.length ≤ 65536 := by unfold total at ht; omega
  have hsl := sign_slice f4 f5
  have hjs := strB_size (Lib.join l [44])
  have hp := strB_size1
  have hp2 := strB_size2
  have hs1 := strB_size [signOf k]
  simp only [List.length_singleton] at hs1
  have hJ : ∀ (w : World) (B : Nat) (v : Value), w.ownsRow B 9 1 v l.length (l.map strV) → Calls Try.prog 69 #[v, .string ⟨#[44]⟩] w fun e w' => e = .returned (.string (strB (Lib.join l [44]))) ∧ Below w.heap.size w w' := fun w B v h => join_own h (by omega) (by omega)
  have HJOIN := Lib.hid hJ
  clear hJ
  generalize Lib.join l [44] = j at *
  have hjb : j.length ≤ 65536 := by omega
  have F3 := Lib.hid f3
  clear hl hHL hitems f1 f2 f3 hb hn h4 hs ht
  by_cases hk : 5 ≤ k
  · have hmo : 0 < sh.most := F3.out.2 hk
    have HT := Lib.hid (text_paren k n b l hk)
    clear hk
    go_enter Try.func56, Try.ntmps56
    go_wp2_with (first | (at_builtin; (refine wpList_append_strs rfl _ _ rfl w.heap.size (.slice none 0 0) 0 [] rfl (World.ownsRow_nil _ _ _ _) _ l rfl HL1.out (by omega) (by simp) ?_); intro v' w2 hown hgrow; have hown2 : w2.ownsRow w.heap.size 9 1 v' l.length (l.map strV) := (by simpa using hown); have hb2 : Below w.heap.size w w2 := ((Below.refl _ _).alloc (Nat.le_refl _) _).grown hgrow (by simp) (fun k hk => by cases hk); have hbx := keep_far (heap_alloc_new w _) hgrow (by simp [Value.ownBlock]); have HBX := Lib.hid hbx; have HOWN := Lib.hid hown2; have HB2 := Lib.hid hb2; clear hown hown2 hgrow hb2 hbx) | (go_at_call 69; ((with_reducible refine (HJOIN.out _ _ _ HOWN.out).mono ?_); rintro e w3 ⟨rfl, hb3⟩; have hbx3 := (hb3.block _ (Array.getElem?_eq_some_iff.1 HBX.out).1).trans HBX.out; have x5 := cell_of hbx3 5 rfl; have HB3 := Lib.hid hb3; clear hb3 hbx3)) | fail)
    go_ret
    exact ⟨ret_str (by have h := HT.out; rw [HJ.out] at h; exact h), HB2.out.trans (HB3.out.mono HB2.out.size)⟩
  · have hmo : ¬ 0 < sh.most := fun h => hk (F3.out.1 h)
    have HT := Lib.hid (text_bare k n b l hk)
    clear hk
    go_enter Try.func56, Try.ntmps56
    go_wp2_with (first | (at_builtin; (refine wpList_append_strs rfl _ _ rfl w.heap.size (.slice none 0 0) 0 [] rfl (World.ownsRow_nil _ _ _ _) _ l rfl HL1.out (by omega) (by simp) ?_); intro v' w2 hown hgrow; have hown2 : w2.ownsRow w.heap.size 9 1 v' l.length (l.map strV) := (by simpa using hown); have hb2 : Below w.heap.size w w2 := ((Below.refl _ _).alloc (Nat.le_refl _) _).grown hgrow (by simp) (fun k hk => by cases hk); have hbx := keep_far (heap_alloc_new w _) hgrow (by simp [Value.ownBlock]); have HBX := Lib.hid hbx; have HOWN := Lib.hid hown2; have HB2 := Lib.hid hb2; clear hown hown2 hgrow hb2 hbx) | (go_at_call 69; ((with_reducible refine (HJOIN.out _ _ _ HOWN.out).mono ?_); rintro e w3 ⟨rfl, hb3⟩; have hbx3 := (hb3.block _ (Array.getElem?_eq_some_iff.1 HBX.out).1).trans HBX.out; have x5 := cell_of hbx3 5 rfl; have HB3 := Lib.hid hb3; clear hb3 hbx3)) | fail)
    go_ret
    exact ⟨ret_str (by have h := HT.out; rw [HJ.out] at h; exact h), HB2.out.trans (HB3.out.mono HB2.out.size)⟩
end Go.Proofs.Ytjbmcjppaadkgaa

namespace Go.Proofs.Ytjbmcjppaadkgaa
set_option linter.unusedVariables false
set_option linter.unusedSimpArgs false
set_option maxRecDepth 100000
open Go.RowKit

theorem decs_len20 {n : Nat} (h : n ≤ top) : (decs n).length ≤ 20 := decs_top n h

set_option maxHeartbeats 1000000 in
theorem write_numb (k n : Nat) (sh : Shape) (hs : shapeOf k = some sh) (vb vl : Value) (b : List UInt8) (l : List (List UInt8)) (w : World) (hb : Bytes w vb b) (hl : Strs w vl l) (ht : total l ≤ 65536) (hn : numb k = true) (hn18 : n ≤ top) :
    Calls Try.prog 56 #[.int .i64 k, shapeV sh, .int .u64 n, vb, vl] w fun e w' => e = .returned (.string (strB (wText k n b l))) ∧ Below w.heap.size w w' := by
  obtain ⟨f1, f2, f3, f4, f5⟩ := shape_facts hs
  have hnn : sh.numbered = true := by rw [f1, hn]
  have hhx : sh.hex = false := by cases hx : sh.hex; rfl; have h4 := f2.1 hx; subst h4; cases hn
  have hitems : itemsOf k n b = [decs n] := by unfold itemsOf; rw [if_pos hn]
  have HJ : Hid (joined k n b l = Lib.join (decs n :: l) [44]) := Lib.hid (by unfold joined; rw [hitems]; rfl)
  have HL := Lib.hid hl
  have hj := join_len (decs n :: l)
  have htt : total (decs n :: l) ≤ total l + (decs n).length + 1 := by simp [total]; omega
  have hxl : (decs n).length ≤ 65536 := by have := decs_len20 hn18; omega
  have hll : l.length ≤ 65536 := by unfold total at ht; omega
  have hsl := sign_slice f4 f5
  have hjs := strB_size (Lib.join (decs n :: l) [44])
  have hp := strB_size1
  have hp2 := strB_size2
  have hs1 := strB_size [signOf k]
  simp only [List.length_singleton] at hs1
  have hJ : ∀ (w : World) (B : Nat) (v : Value), w.ownsRow B 9 1 v (decs n :: l).length ((decs n :: l).map strV) → Calls Try.prog 69 #[v, .string ⟨#[44]⟩] w fun e w' => e = .returned (.string (strB (Lib.join (decs n :: l) [44]))) ∧ Below w.heap.size w w' := fun w B v h => join_own h (by simp; omega) (by omega)
  have HJOIN := Lib.hid hJ
  clear hJ
  generalize Lib.join (decs n :: l) [44] = j at *
  have hjb : j.length ≤ 262144 := by omega
  have F3 := Lib.hid f3
  have HB := Lib.hid hb
  obtain ⟨i0, hi0, hz0, hz1, hz2⟩ := info_parts Try.infoStr
  clear hl hitems f1 f2 f3 hb hs ht htt hj 
  by_cases hk : 5 ≤ k
  · have hmo : 0 < sh.most := F3.out.2 hk
    have HT := Lib.hid (text_paren k n b l hk)
    clear hk
    go_enter Try.func56, Try.ntmps56
    go_wp2_with (first | (go_at_call 67; ((with_reducible refine (print_any n hn18 _).mono ?_); rintro e w1 ⟨rfl, hb1⟩; have hbx1 := (hb1.block w.heap.size (by simp)).trans (heap_alloc_new w _); have y0 := cell_of hbx1 0 rfl; have y3 := cell_of hbx1 3 rfl; have y5 := cell_of hbx1 5 rfl; have hbw : Below w.heap.size w w1 := ((Below.refl _ _).alloc (Nat.le_refl _) _).trans (hb1.mono (by simp)); have HBX1 := Lib.hid hbx1; have HBZ : Hid (w.heap.size + 1 ≤ w1.heap.size) := Lib.hid (Array.getElem?_eq_some_iff.1 hbx1).1; have HBW := Lib.hid hbw; clear hb1 hbx1 hbw)) | (at_builtin; (refine wpList_append_own _ rfl _ _ 33 rfl (w.heap.size + 1) 9 i0 _ 1 16 Try.underlying33 hi0 hz0 hz1 hz2 rfl (by decide) (.slice none 0 0) 0 [] rfl (World.ownsRow_nil _ _ _ _) ⟨w1.heap.size, 0, none⟩ 1 1 [strV (decs n)] rfl rfl (World.news_of_block (cs := #[strV (decs n)]) (t := 9) (fr := (0, 0)) (heap_alloc_new w1 _)) (by simp [Value.oneCell', strV]) (by unfold maxLen; omega) (by omega) (by have h1 := HBZ.out; simp; omega) ?_); intro v1 w2 hown1 hg1 _; have hbx2 := keep_far (keep_alloc HBX1.out _) hg1 (by simp [Value.ownBlock]); have z3 := cell_of hbx2 3 rfl; have z5 := cell_of hbx2 5 rfl; have hbw2 : Below w.heap.size w w2 := (HBW.out.alloc HBW.out.size _).grown hg1 (by have h1 := HBW.out.size; simp; omega) (fun k hk => by cases hk); have HBX2 := Lib.hid hbx2; have HBZ2 : Hid (w.heap.size + 1 ≤ w2.heap.size) := Lib.hid (Array.getElem?_eq_some_iff.1 hbx2).1; have HBW2 := Lib.hid hbw2; have HO1 := Lib.hid hown1; clear hown1 hg1 hbx2 hbw2) | (at_builtin; (refine wpList_append_strs rfl _ _ rfl (w.heap.size + 1) v1 1 [strV (decs n)] rfl HO1.out _ l rfl (HL.out.below HBW2.out) (by omega) HBZ2.out ?_); intro v' w2b hown hgrow; have hown2 : w2b.ownsRow (w.heap.size + 1) 9 1 v' (decs n :: l).length ((decs n :: l).map strV) := (by simpa [Nat.add_comm] using hown); have hb2 : Below w.heap.size w w2b := HBW2.out.grown hgrow HBW2.out.size (fun k hk => by have := (HO1.out.lt k hk).1; omega); have HOWN := Lib.hid hown2; have HB2 := Lib.hid hb2; have hbx := keep_far HBX2.out hgrow (fun e => own_ne HO1.out (Nat.lt_succ_self _) e.symm); have HBX := Lib.hid hbx; clear hown hown2 hgrow hb2 hbx) | (go_at_call 69; ((with_reducible refine (HJOIN.out _ _ _ HOWN.out).mono ?_); rintro e w3 ⟨rfl, hb3⟩; have hbx3 := (hb3.block _ (Array.getElem?_eq_some_iff.1 HBX.out).1).trans HBX.out; have x5 := cell_of hbx3 5 rfl; have HB3 := Lib.hid hb3; clear hb3 hbx3)) | fail)
    go_ret
    exact ⟨ret_str (by have h := HT.out; rw [HJ.out] at h; exact h), HB2.out.trans (HB3.out.mono HB2.out.size)⟩
  · have hmo : ¬ 0 < sh.most := fun h => hk (F3.out.1 h)
    have HT := Lib.hid (text_bare k n b l hk)
    clear hk
    go_enter Try.func56, Try.ntmps56
    go_wp2_with (first | (go_at_call 67; ((with_reducible refine (print_any n hn18 _).mono ?_); rintro e w1 ⟨rfl, hb1⟩; have hbx1 := (hb1.block w.heap.size (by simp)).trans (heap_alloc_new w _); have y0 := cell_of hbx1 0 rfl; have y3 := cell_of hbx1 3 rfl; have y5 := cell_of hbx1 5 rfl; have hbw : Below w.heap.size w w1 := ((Below.refl _ _).alloc (Nat.le_refl _) _).trans (hb1.mono (by simp)); have HBX1 := Lib.hid hbx1; have HBZ : Hid (w.heap.size + 1 ≤ w1.heap.size) := Lib.hid (Array.getElem?_eq_some_iff.1 hbx1).1; have HBW := Lib.hid hbw; clear hb1 hbx1 hbw)) | (at_builtin; (refine wpList_append_own _ rfl _ _ 33 rfl (w.heap.size + 1) 9 i0 _ 1 16 Try.underlying33 hi0 hz0 hz1 hz2 rfl (by decide) (.slice none 0 0) 0 [] rfl (World.ownsRow_nil _ _ _ _) ⟨w1.heap.size, 0, none⟩ 1 1 [strV (decs n)] rfl rfl (World.news_of_block (cs := #[strV (decs n)]) (t := 9) (fr := (0, 0)) (heap_alloc_new w1 _)) (by simp [Value.oneCell', strV]) (by unfold maxLen; omega) (by omega) (by have h1 := HBZ.out; simp; omega) ?_); intro v1 w2 hown1 hg1 _; have hbx2 := keep_far (keep_alloc HBX1.out _) hg1 (by simp [Value.ownBlock]); have z3 := cell_of hbx2 3 rfl; have z5 := cell_of hbx2 5 rfl; have hbw2 : Below w.heap.size w w2 := (HBW.out.alloc HBW.out.size _).grown hg1 (by have h1 := HBW.out.size; simp; omega) (fun k hk => by cases hk); have HBX2 := Lib.hid hbx2; have HBZ2 : Hid (w.heap.size + 1 ≤ w2.heap.size) := Lib.hid (Array.getElem?_eq_some_iff.1 hbx2).1; have HBW2 := Lib.hid hbw2; have HO1 := Lib.hid hown1; clear hown1 hg1 hbx2 hbw2) | (at_builtin; (refine wpList_append_strs rfl _ _ rfl (w.heap.size + 1) v1 1 [strV (decs n)] rfl HO1.out _ l rfl (HL.out.below HBW2.out) (by omega) HBZ2.out ?_); intro v' w2b hown hgrow; have hown2 : w2b.ownsRow (w.heap.size + 1) 9 1 v' (decs n :: l).length ((decs n :: l).map strV) := (by simpa [Nat.add_comm] using hown); have hb2 : Below w.heap.size w w2b := HBW2.out.grown hgrow HBW2.out.size (fun k hk => by have := (HO1.out.lt k hk).1; omega); have HOWN := Lib.hid hown2; have HB2 := Lib.hid hb2; have hbx := keep_far HBX2.out hgrow (fun e => own_ne HO1.out (Nat.lt_succ_self _) e.symm); have HBX := Lib.hid hbx; clear hown hown2 hgrow hb2 hbx) | (go_at_call 69; ((with_reducible refine (HJOIN.out _ _ _ HOWN.out).mono ?_); rintro e w3 ⟨rfl, hb3⟩; have hbx3 := (hb3.block _ (Array.getElem?_eq_some_iff.1 HBX.out).1).trans HBX.out; have x5 := cell_of hbx3 5 rfl; have HB3 := Lib.hid hb3; clear hb3 hbx3)) | fail)
    go_ret
    exact ⟨ret_str (by have h := HT.out; rw [HJ.out] at h; exact h), HB2.out.trans (HB3.out.mono HB2.out.size)⟩

set_option maxHeartbeats 1000000 in
theorem write_hex (k n : Nat) (sh : Shape) (hs : shapeOf k = some sh) (vb vl : Value) (b : List UInt8) (l : List (List UInt8)) (w : World) (hb : Bytes w vb b) (hl : Strs w vl l) (ht : total l ≤ 65536) (h4 : k = 4) (hbl : b.length ≤ 32768) :
    Calls Try.prog 56 #[.int .i64 k, shapeV sh, .int .u64 n, vb, vl] w fun e w' => e = .returned (.string (strB (wText k n b l))) ∧ Below w.heap.size w w' := by
  obtain ⟨f1, f2, f3, f4, f5⟩ := shape_facts hs
  have hnn : sh.numbered = false := by rw [f1, h4]; rfl
  have hhx : sh.hex = true := f2.2 h4
  have hitems : itemsOf k n b = [hexOf b] := by unfold itemsOf; rw [if_neg (by rw [h4]; decide), if_pos h4]
  have HJ : Hid (joined k n b l = Lib.join (hexOf b :: l) [44]) := Lib.hid (by unfold joined; rw [hitems]; rfl)
  have HL := Lib.hid hl
  have hj := join_len (hexOf b :: l)
  have htt : total (hexOf b :: l) ≤ total l + (hexOf b).length + 1 := by simp [total]; omega
  have hxl : (hexOf b).length ≤ 65536 := by rw [hexOf_length]; omega
  have hll : l.length ≤ 65536 := by unfold total at ht; omega
  have hsl := sign_slice f4 f5
  have hjs := strB_size (Lib.join (hexOf b :: l) [44])
  have hp := strB_size1
  have hp2 := strB_size2
  have hs1 := strB_size [signOf k]
  simp only [List.length_singleton] at hs1
  have hJ : ∀ (w : World) (B : Nat) (v : Value), w.ownsRow B 9 1 v (hexOf b :: l).length ((hexOf b :: l).map strV) → Calls Try.prog 69 #[v, .string ⟨#[44]⟩] w fun e w' => e = .returned (.string (strB (Lib.join (hexOf b :: l) [44]))) ∧ Below w.heap.size w w' := fun w B v h => join_own h (by simp; omega) (by omega)
  have HJOIN := Lib.hid hJ
  clear hJ
  generalize Lib.join (hexOf b :: l) [44] = j at *
  have hjb : j.length ≤ 262144 := by omega
  have F3 := Lib.hid f3
  have HB := Lib.hid hb
  obtain ⟨i0, hi0, hz0, hz1, hz2⟩ := info_parts Try.infoStr
  clear hl hitems f1 f2 f3 hb hs ht htt hj h4
  by_cases hk : 5 ≤ k
  · have hmo : 0 < sh.most := F3.out.2 hk
    have HT := Lib.hid (text_paren k n b l hk)
    clear hk
    go_enter Try.func56, Try.ntmps56
    go_wp2_with (first | (go_at_call 68; ((with_reducible refine (hex_any _ _ _ (HB.out.below ((Below.refl _ _).alloc (Nat.le_refl _) _)) (by omega)).mono ?_); rintro e w1 ⟨rfl, hb1⟩; have hbx1 := (hb1.block w.heap.size (by simp)).trans (heap_alloc_new w _); have y0 := cell_of hbx1 0 rfl; have y3 := cell_of hbx1 3 rfl; have y5 := cell_of hbx1 5 rfl; have hbw : Below w.heap.size w w1 := ((Below.refl _ _).alloc (Nat.le_refl _) _).trans (hb1.mono (by simp)); have HBX1 := Lib.hid hbx1; have HBZ : Hid (w.heap.size + 1 ≤ w1.heap.size) := Lib.hid (Array.getElem?_eq_some_iff.1 hbx1).1; have HBW := Lib.hid hbw; clear hb1 hbx1 hbw)) | (at_builtin; (refine wpList_append_own _ rfl _ _ 33 rfl (w.heap.size + 1) 9 i0 _ 1 16 Try.underlying33 hi0 hz0 hz1 hz2 rfl (by decide) (.slice none 0 0) 0 [] rfl (World.ownsRow_nil _ _ _ _) ⟨w1.heap.size, 0, none⟩ 1 1 [strV (hexOf b)] rfl rfl (World.news_of_block (cs := #[strV (hexOf b)]) (t := 9) (fr := (0, 0)) (heap_alloc_new w1 _)) (by simp [Value.oneCell', strV]) (by unfold maxLen; omega) (by omega) (by have h1 := HBZ.out; simp; omega) ?_); intro v1 w2 hown1 hg1 _; have hbx2 := keep_far (keep_alloc HBX1.out _) hg1 (by simp [Value.ownBlock]); have z3 := cell_of hbx2 3 rfl; have z5 := cell_of hbx2 5 rfl; have hbw2 : Below w.heap.size w w2 := (HBW.out.alloc HBW.out.size _).grown hg1 (by have h1 := HBW.out.size; simp; omega) (fun k hk => by cases hk); have HBX2 := Lib.hid hbx2; have HBZ2 : Hid (w.heap.size + 1 ≤ w2.heap.size) := Lib.hid (Array.getElem?_eq_some_iff.1 hbx2).1; have HBW2 := Lib.hid hbw2; have HO1 := Lib.hid hown1; clear hown1 hg1 hbx2 hbw2) | (at_builtin; (refine wpList_append_strs rfl _ _ rfl (w.heap.size + 1) v1 1 [strV (hexOf b)] rfl HO1.out _ l rfl (HL.out.below HBW2.out) (by omega) HBZ2.out ?_); intro v' w2b hown hgrow; have hown2 : w2b.ownsRow (w.heap.size + 1) 9 1 v' (hexOf b :: l).length ((hexOf b :: l).map strV) := (by simpa [Nat.add_comm] using hown); have hb2 : Below w.heap.size w w2b := HBW2.out.grown hgrow HBW2.out.size (fun k hk => by have := (HO1.out.lt k hk).1; omega); have HOWN := Lib.hid hown2; have HB2 := Lib.hid hb2; have hbx := keep_far HBX2.out hgrow (fun e => own_ne HO1.out (Nat.lt_succ_self _) e.symm); have HBX := Lib.hid hbx; clear hown hown2 hgrow hb2 hbx) | (go_at_call 69; ((with_reducible refine (HJOIN.out _ _ _ HOWN.out).mono ?_); rintro e w3 ⟨rfl, hb3⟩; have hbx3 := (hb3.block _ (Array.getElem?_eq_some_iff.1 HBX.out).1).trans HBX.out; have x5 := cell_of hbx3 5 rfl; have HB3 := Lib.hid hb3; clear hb3 hbx3)) | fail)
    go_ret
    exact ⟨ret_str (by have h := HT.out; rw [HJ.out] at h; exact h), HB2.out.trans (HB3.out.mono HB2.out.size)⟩
  · have hmo : ¬ 0 < sh.most := fun h => hk (F3.out.1 h)
    have HT := Lib.hid (text_bare k n b l hk)
    clear hk
    go_enter Try.func56, Try.ntmps56
    go_wp2_with (first | (go_at_call 68; ((with_reducible refine (hex_any _ _ _ (HB.out.below ((Below.refl _ _).alloc (Nat.le_refl _) _)) (by omega)).mono ?_); rintro e w1 ⟨rfl, hb1⟩; have hbx1 := (hb1.block w.heap.size (by simp)).trans (heap_alloc_new w _); have y0 := cell_of hbx1 0 rfl; have y3 := cell_of hbx1 3 rfl; have y5 := cell_of hbx1 5 rfl; have hbw : Below w.heap.size w w1 := ((Below.refl _ _).alloc (Nat.le_refl _) _).trans (hb1.mono (by simp)); have HBX1 := Lib.hid hbx1; have HBZ : Hid (w.heap.size + 1 ≤ w1.heap.size) := Lib.hid (Array.getElem?_eq_some_iff.1 hbx1).1; have HBW := Lib.hid hbw; clear hb1 hbx1 hbw)) | (at_builtin; (refine wpList_append_own _ rfl _ _ 33 rfl (w.heap.size + 1) 9 i0 _ 1 16 Try.underlying33 hi0 hz0 hz1 hz2 rfl (by decide) (.slice none 0 0) 0 [] rfl (World.ownsRow_nil _ _ _ _) ⟨w1.heap.size, 0, none⟩ 1 1 [strV (hexOf b)] rfl rfl (World.news_of_block (cs := #[strV (hexOf b)]) (t := 9) (fr := (0, 0)) (heap_alloc_new w1 _)) (by simp [Value.oneCell', strV]) (by unfold maxLen; omega) (by omega) (by have h1 := HBZ.out; simp; omega) ?_); intro v1 w2 hown1 hg1 _; have hbx2 := keep_far (keep_alloc HBX1.out _) hg1 (by simp [Value.ownBlock]); have z3 := cell_of hbx2 3 rfl; have z5 := cell_of hbx2 5 rfl; have hbw2 : Below w.heap.size w w2 := (HBW.out.alloc HBW.out.size _).grown hg1 (by have h1 := HBW.out.size; simp; omega) (fun k hk => by cases hk); have HBX2 := Lib.hid hbx2; have HBZ2 : Hid (w.heap.size + 1 ≤ w2.heap.size) := Lib.hid (Array.getElem?_eq_some_iff.1 hbx2).1; have HBW2 := Lib.hid hbw2; have HO1 := Lib.hid hown1; clear hown1 hg1 hbx2 hbw2) | (at_builtin; (refine wpList_append_strs rfl _ _ rfl (w.heap.size + 1) v1 1 [strV (hexOf b)] rfl HO1.out _ l rfl (HL.out.below HBW2.out) (by omega) HBZ2.out ?_); intro v' w2b hown hgrow; have hown2 : w2b.ownsRow (w.heap.size + 1) 9 1 v' (hexOf b :: l).length ((hexOf b :: l).map strV) := (by simpa [Nat.add_comm] using hown); have hb2 : Below w.heap.size w w2b := HBW2.out.grown hgrow HBW2.out.size (fun k hk => by have := (HO1.out.lt k hk).1; omega); have HOWN := Lib.hid hown2; have HB2 := Lib.hid hb2; have hbx := keep_far HBX2.out hgrow (fun e => own_ne HO1.out (Nat.lt_succ_self _) e.symm); have HBX := Lib.hid hbx; clear hown hown2 hgrow hb2 hbx) | (go_at_call 69; ((with_reducible refine (HJOIN.out _ _ _ HOWN.out).mono ?_); rintro e w3 ⟨rfl, hb3⟩; have hbx3 := (hb3.block _ (Array.getElem?_eq_some_iff.1 HBX.out).1).trans HBX.out; have x5 := cell_of hbx3 5 rfl; have HB3 := Lib.hid hb3; clear hb3 hbx3)) | fail)
    go_ret
    exact ⟨ret_str (by have h := HT.out; rw [HJ.out] at h; exact h), HB2.out.trans (HB3.out.mono HB2.out.size)⟩
end Go.Proofs.Ytjbmcjppaadkgaa

namespace Go.Proofs.Ytjbmcjppaadkgaa
set_option linter.unusedVariables false
set_option linter.unusedSimpArgs false
set_option maxRecDepth 100000
open Go.RowKit

theorem strB_inj {a b : List UInt8} (h : strB a = strB b) : a = b := by
  have := congrArg (fun x : ByteArray => x.data.toList) h
  exact this
theorem map_strB_inj {a b : List (List UInt8)} (h : a.map strB = b.map strB) : a = b := by
  have e : ∀ l : List (List UInt8), (l.map strB).map (fun x : ByteArray => x.data.toList) = l := fun l => by
    rw [List.map_map]
    have : (fun x : ByteArray => x.data.toList) ∘ strB = id := by funext x; rfl
    rw [this, List.map_id]
  rw [← e a, ← e b, h]

def EqRet (w : World) (r : Bool) (e : Ending) (w' : World) : Prop := e = .returned (.bool r) ∧ ∃ q, w' = w.drewN q
theorem equal_any (va vb : Value) (la lb : List (List UInt8)) (w : World) (ha : Strs w va la) (hb : Strs w vb lb) (h1 : la.length ≤ maxLen) (h2 : lb.length ≤ maxLen) :
    Calls Try.prog 58 #[va, vb] w (EqRet w (la == lb)) := by
  unfold maxLen at h1 h2
  obtain ⟨a, ca, rfl, _, ha⟩ := ha
  obtain ⟨b, cb, rfl, _, hb⟩ := hb
  by_cases hlen : la.length = lb.length
  · rcases ha with rfl | ⟨b1, o1, rfl, hc1⟩
    · have : lb = [] := List.length_eq_zero_iff.1 hlen.symm
      subst this
      refine (Try.slices_Equal_string_empty a b ca 0 cb w (by omega)).mono ?_
      rintro e w' ⟨rfl, rfl⟩
      exact ⟨rfl, 0, rfl⟩
    · rcases hb with rfl | ⟨b2, o2, rfl, hc2⟩
      · have : la = [] := List.length_eq_zero_iff.1 hlen
        subst this
        refine (Try.slices_Equal_string_empty (some ⟨b1, o1, none⟩) b ca 0 cb w (by omega)).mono ?_
        rintro e w' ⟨rfl, rfl⟩
        exact ⟨rfl, 0, rfl⟩
      · have hg : ∀ (l : List (List UInt8)) (j : Nat), j < l.length → (l.map strB).getD j ByteArray.empty = strB (l.getD j []) := by
          intro l j hj
          simp [List.getD, List.getElem?_map, List.getElem?_eq_getElem hj]
        refine (Try.slices_Equal_string b1 o1 la.length ca b2 o2 lb.length cb (la.map strB) (lb.map strB) w (by simp) (by simp) (by omega) (by omega)
          (fun j hj => by rw [List.length_map] at hj; rw [hg la j hj]; exact hc1 j hj) (fun j hj => by rw [List.length_map] at hj; rw [hg lb j hj]; exact hc2 j hj)).mono ?_
        rintro e w' ⟨rfl, q, rfl⟩
        refine ⟨ret_bool ?_, q, rfl⟩
        rw [List.take_of_length_le (by simp), List.take_of_length_le (by simp)]
        by_cases he : la = lb
        · subst he; simp
        · have : ¬ la.map strB = lb.map strB := fun h => he (map_strB_inj h)
          simp [he, this]
  · refine (Try.slices_Equal_string_lens a b la.length ca lb.length cb w hlen).mono ?_
    rintro e w' ⟨rfl, rfl⟩
    refine ⟨ret_bool ?_, 0, rfl⟩
    have : ¬ la = lb := fun h => hlen (by rw [h])
    simp [this]

theorem write_any (k n : Nat) (sh : Shape) (hs : shapeOf k = some sh) (V vb vl : Value) (hV : V = shapeV sh) (b : List UInt8) (l : List (List UInt8)) (w : World) (hb : Bytes w vb b) (hl : Strs w vl l) (ht : total l ≤ 65536) (hn18 : n ≤ top) (h4 : k = 4 → b.length ≤ 32768) :
    Calls Try.prog 56 #[.int .i64 k, V, .int .u64 n, vb, vl] w fun e w' => e = .returned (.string (strB (wText k n b l))) ∧ Below w.heap.size w w' := by
  subst hV
  cases hn : numb k with
  | true => exact write_numb k n sh hs vb vl b l w hb hl ht hn hn18
  | false =>
    by_cases h : k = 4
    · exact write_hex k n sh hs vb vl b l w hb hl ht h (h4 h)
    · exact write_neither k n sh hs vb vl b l w hb hl ht hn h

def sortL (k : Nat) (l : List (List UInt8)) : List (List UInt8) := if k = 6 ∧ l.length = 2 ∧ leL (l.getD 0 []) (l.getD 1 []) = false then [l.getD 1 [], l.getD 0 []] else l
def makeK (k n : Nat) (b : List UInt8) (l : List (List UInt8)) : List UInt8 :=
  if (k = 4 ∧ 32768 < b.length) ∨ ¬ total l ≤ 65536 then [] else
  if (lookR (wText k n b (sortL k l))).1 = k ∧ (lookR (wText k n b (sortL k l))).2.2 = sortL k l then wText k n b (sortL k l) else []
def makeR (kind : Int) (n : Nat) (b : List UInt8) (l : List (List UInt8)) : List UInt8 := if 1 ≤ kind ∧ kind ≤ 11 then makeK kind.toNat n b l else []

theorem look_out (w : World) (m : Nat) (k : Int) (hk : k < 1 ∨ 11 < k) (hm : w.heap[m]? = some (.map (esN 11) 11)) :
    (Instr.lookup 84 (.map (some m)) (.int .i64 k) true).run Try.prog w = .ok (.tuple #[.agg #[.bool false, .int .u64 0, .int .u64 0, .bool false, .int .i64 0, .int .i64 0, .bool false], .bool false]) w := by
  have hf : Instr.findNow (.int .i64) (.int .i64 k) (esN 11).toList 0 = some none := by
    have hne : ∀ j : Int, 1 ≤ j → j ≤ 11 → (k == j) = false := fun j h1 h2 => beqf (by omega)
    have e : (esN 11).toList = [entry 1, entry 2, entry 3, entry 4, entry 5, entry 6, entry 7, entry 8, entry 9, entry 10, entry 11] := rfl
    rw [e]
    simp [Instr.findNow, entry, Instr.sameNow, hne 1, hne 2, hne 3, hne 4, hne 5, hne 6, hne 7, hne 8, hne 9, hne 10, hne 11]
  have hc := int_check w ((esN 11).isEmpty) k
  have hg := find_now w k _ _ hf
  have hz := zero_shape w
  simp only [Instr.lookup, Sem.run_bind, Sem.run_pure, run_underlying Try.underlying84, MapKept.run_getObj_map hm, hc, hg, hz, Result.andThen, if_true]
  rfl

theorem make_out (kind : Int) (hk : kind < 1 ∨ 11 < kind) (n : Nat) (vb vl : Value) (w : World) :
    Calls Try.prog 38 #[.int .i64 kind, .int .u64 n, vb, vl] w fun e w' => e = .returned (.string ⟨#[]⟩) ∧ Below w.heap.size w w' := by
  have hz := zero_lit
  have hlk := look_out (w.alloc (.map (esN 11) 11)) w.heap.size kind hk (MapKept.heap_alloc w _).1
  clear hk
  go_enter Try.func38, Try.ntmps38
  go_wp2_with (first | (go_at_call 54; ((with_reducible refine (shapes_any _).mono ?_); rintro e w' ⟨rfl, rfl⟩)) | fail)
  go_ret
  exact ⟨rfl, ((Below.refl _ _).alloc (Nat.le_refl _) _).alloc (by simp) _⟩

theorem str_gt {a b : List UInt8} : (!Op.bytesLess (strB a).toList (strB b).toList && !((strB a).toList == (strB b).toList)) = !leL a b := by
  have e : ∀ l : List UInt8, (strB l).toList = l := fun l => by rw [toList_eq]; rfl
  rw [e, e]; simp [leL]
theorem make_w1 (w : World) (sh : Shape) : Below w.heap.size w ((w.alloc (.map (esN 11) 11)).alloc (.cells #[.bool sh.numbered, .int .u64 sh.low, .int .u64 sh.high, .bool sh.hex, .int .i64 sh.least, .int .i64 sh.most, .bool sh.ordered] 82)) := ((Below.refl _ _).alloc (Nat.le_refl _) _).alloc (by simp) _
theorem make_bad (k : Nat) (sh : Shape) (hs : shapeOf k = some sh) (n : Nat) (vb vl : Value) (b : List UInt8) (l : List (List UInt8)) (w : World) (hb : Bytes w vb b) (hl : Strs w vl l) (hbl : b.length ≤ maxLen) (hll : l.length ≤ maxLen)
    (hbad : (k = 4 ∧ 32768 < b.length) ∨ ¬ total l ≤ 65536) :
    Calls Try.prog 38 #[.int .i64 k, .int .u64 n, vb, vl] w fun e w' => e = .returned (.string ⟨#[]⟩) ∧ Below w.heap.size w w' := by
  have hz := zero_lit
  obtain ⟨f1, f2, f3, f4, f5⟩ := shape_facts hs
  have hlk := look_sh (w.alloc (.map (esN 11) 11)) w.heap.size k sh (MapKept.heap_alloc w _).1 f5 hs
  have HL := Lib.hid hl
  have HW := Lib.hid (make_w1 w sh)
  obtain ⟨ab, cb, rfl, hb⟩ := hb
  unfold maxLen at hbl
  have hcase : (sh.hex = true ∧ 32768 < b.length) ∨ (sh.hex = true ∧ b.length ≤ 32768 ∧ smallF 65536 l = false) ∨ (sh.hex = false ∧ smallF 65536 l = false) := by
    have hsm : ¬ total l ≤ 65536 → smallF 65536 l = false := fun h => by
      cases hs : smallF 65536 l
      · rfl
      · exact absurd ((small_total l 65536).1 hs) h
    cases hx : sh.hex with
    | true =>
      by_cases h : 32768 < b.length
      · exact .inl ⟨rfl, h⟩
      · refine .inr (.inl ⟨rfl, by omega, hsm ?_⟩)
        rcases hbad with h1 | h1
        · exact absurd h1.2 h
        · exact h1
    | false =>
      refine .inr (.inr ⟨rfl, hsm ?_⟩)
      rcases hbad with h1 | h1
      · have := f2.2 h1.1; rw [hx] at this; cases this
      · exact h1
  clear f1 f2 f3 f4 f5 hs hl hb hbad
  rcases hcase with ⟨hx, h1⟩ | ⟨hx, h1, hsm⟩ | ⟨hx, hsm⟩
  all_goals
    rw [hx] at HW
    go_enter Try.func38, Try.ntmps38
    go_wp2_with (first | (go_at_call 54; ((with_reducible refine (shapes_any _).mono ?_); rintro e w' ⟨rfl, rfl⟩)) | (go_at_call 55; ((with_reducible refine (small_any _ l _ (HL.out.below HW.out) hll).mono ?_); rintro e w' ⟨rfl, rfl⟩)) | fail)
    go_ret
    exact ⟨rfl, HW.out⟩
end Go.Proofs.Ytjbmcjppaadkgaa

namespace Go.Proofs.Ytjbmcjppaadkgaa
set_option linter.unusedVariables false
set_option linter.unusedSimpArgs false
set_option maxRecDepth 100000
open Go.RowKit

/-- what Make tells behind the writing: the text, if it is just this term -/
def pickR (k : Nat) (T : List UInt8) (l : List (List UInt8)) : List UInt8 := if (lookR T).1 = k ∧ (lookR T).2.2 = l then T else []

theorem lookR_len (t : List UInt8) : (lookR t).2.2.length ≤ 65536 := by
  unfold lookR
  cases hq : qLook t with
  | none => simp
  | some x =>
    obtain ⟨k, n, ps⟩ := x
    obtain ⟨sh, hs, h1, h2⟩ := look_count hq
    have : sh.most ≤ 65536 := by
      rcases shape_cases hs with e | e | e | e | e | e | e | e | e | e | e
      all_goals (rw [e] at hs; simp only [shapeOf, Option.some.injEq] at hs; subst hs; decide)
    show ps.length ≤ 65536
    omega
theorem wText_len (k n : Nat) (b : List UInt8) (l : List (List UInt8)) (hn : n ≤ top) (ht : total l ≤ 65536) (hb : k = 4 → b.length ≤ 32768) : (wText k n b l).length ≤ 200000 := by
  have hj : (joined k n b l).length ≤ 150000 := by
    unfold joined
    refine Nat.le_trans (join_len _) ?_
    unfold itemsOf
    split
    · have := decs_len20 hn
      simp [total] at ht ⊢; omega
    · split
      · rename_i h
        have h2 := hexOf_length b
        have h3 := hb h
        simp [total] at ht ⊢; omega
      · simp [total] at ht ⊢; omega
  unfold wText
  split <;> simp <;> omega
set_option maxHeartbeats 4000000 in
theorem make_plain (k : Nat) (sh : Shape) (hs : shapeOf k = some sh) (n : Nat) (hn18 : n ≤ top) (vb vl : Value) (b : List UInt8) (l : List (List UInt8)) (w : World) (hb : Bytes w vb b) (hl : Strs w vl l) (hbl : k = 4 → b.length ≤ 32768) (hll : l.length ≤ maxLen) (ht : total l ≤ 65536)
    (hord : sh.ordered = false ∨ (sh.ordered = true ∧ l.length ≠ 2) ∨ (sh.ordered = true ∧ l.length = 2 ∧ leL (l.getD 0 []) (l.getD 1 []) = true)) (hblm : b.length ≤ maxLen) :
    Calls Try.prog 38 #[.int .i64 k, .int .u64 n, vb, vl] w fun e w' => e = .returned (.string (strB (pickR k (wText k n b l) l))) ∧ Below w.heap.size w w' := by
  have hz := zero_lit
  have hzf := zero_found
  obtain ⟨f1, f2, f3, f4, f5⟩ := shape_facts hs
  have hlk := look_sh (w.alloc (.map (esN 11) 11)) w.heap.size k sh (MapKept.heap_alloc w _).1 f5 hs
  have HL := Lib.hid hl
  have HBY := Lib.hid hb
  have HW := Lib.hid (make_w1 w sh)
  have HSH := Lib.hid hs
  have HT := Lib.hid ht
  have H4 := Lib.hid hbl
  have hsm : smallF 65536 l = true := (small_total l 65536).2 ht
  have hhex : (sh.hex = true ∧ b.length ≤ 32768) ∨ sh.hex = false := by
    cases hx : sh.hex with
    | true => exact .inl ⟨rfl, hbl (f2.1 hx)⟩
    | false => exact .inr rfl
  obtain ⟨k2, n2, ps, hx⟩ : ∃ k2 n2 ps, lookR (wText k n b l) = (k2, n2, ps) := ⟨_, _, _, rfl⟩
  obtain ⟨nb, hnb⟩ : ∃ nb, numb k2 = nb := ⟨_, rfl⟩
  have HNB := Lib.hid hnb
  have hP : pickR k (wText k n b l) l = if k2 = k ∧ ps = l then wText k n b l else [] := by unfold pickR; rw [hx]
  have HP := Lib.hid hP
  have hTs : (strB (wText k n b l)).size ≤ maxLen := by
    have := wText_len k n b l hn18 ht hbl
    rw [strB_size]; unfold maxLen; omega
  have hps : ps.length ≤ maxLen := by
    have := lookR_len (wText k n b l)
    rw [hx] at this; unfold maxLen; simp at this; omega
  obtain ⟨T, hT⟩ : ∃ T, wText k n b l = T := ⟨_, rfl⟩
  rw [hT] at hx hTs
  rw [hT] at HP
  have HTX : Hid (strB (wText k n b l) = strB T) := Lib.hid (by rw [hT])
  have HX : Hid (lookR (strB T).data.toList = (k2, n2, ps)) := Lib.hid hx
  rw [hT]
  obtain ⟨ab, cb, rfl, hb⟩ := hb
  obtain ⟨al, cl, rfl, hnl, hl⟩ := hl
  unfold maxLen at hblm
  have hend : (k2 ≠ k) ∨ (k2 = k ∧ (ps == l) = false) ∨ (k2 = k ∧ (ps == l) = true) := by
    cases (ps == l) <;> simp <;> omega
  clear f1 f2 f3 f4 hs hbl ht hP hnb hT hx hb hnl
  rcases hord with ho | ⟨ho, hl2⟩ | ⟨ho, hl2, hle⟩
  · clear hl
    rcases hhex with ⟨hx, h1⟩ | hx
    all_goals
      rcases hend with he | ⟨he, heq⟩ | ⟨he, heq⟩
      · have HO : Hid (pickR k T l = []) := Lib.hid (by rw [HP.out, if_neg (fun h => he h.1)])
        have hk2 : ((k2 : Int) != k) = true := by simp; omega
        clear he
        rw [hx, ho] at HW
        go_enter Try.func38, Try.ntmps38
        go_wp2_with (first | (go_at_call 54; ((with_reducible refine (shapes_any _).mono ?_); rintro e w' ⟨rfl, rfl⟩)) | (go_at_call 55; ((with_reducible refine (small_any _ l _ (HL.out.below HW.out) hll).mono ?_); rintro e w' ⟨rfl, rfl⟩)) | fail)
        go_quiet (fail)
        go_wp2_with (first | (go_at_call 56; ((with_reducible refine (write_any k n sh HSH.out _ _ _ (by simp [shapeV, *]) b l _ (HBY.out.below (below_drewN HW.out nq)) (HL.out.below (below_drewN HW.out nq)) HT.out hn18 H4.out).mono ?_); rintro e w5 ⟨rfl, hb5⟩; rw [HTX.out]; have hw5 : Below w.heap.size w w5 := (below_drewN HW.out nq).trans (hb5.mono (by have := HW.out.size; exact this)); have HW5 := Lib.hid hw5; clear hb5 hw5)) | (go_at_call 57; ((with_reducible refine (look_v (strB T) hTs _ k2 n2 nb ps HX.out HNB.out).mono ?_); rintro e w6 ⟨ad, cp, rfl, hS, hB⟩; have hw6 : Below w.heap.size w w6 := HW5.out.trans (hB.mono HW5.out.size); have HW6 := Lib.hid hw6; have HS := Lib.hid hS; clear hB hS hw6)) | (go_at_call 58; ((with_reducible refine (equal_any _ _ ps l _ (HS.out.below ((Below.refl _ _).alloc (Nat.le_refl _) _)) (HL.out.below (HW6.out.alloc HW6.out.size _)) hps hll).mono ?_); rintro e w' ⟨rfl, q7, rfl⟩)) | fail)
        go_ret
        exact ⟨ret_str (by rw [HO.out]; rfl), HW6.out.alloc HW6.out.size _⟩
      · have HO : Hid (pickR k T l = []) := Lib.hid (by rw [HP.out, if_neg (fun h => by have h2 := h.2; subst h2; simp at heq)])
        have hk2 : ((k2 : Int) != k) = false := by simp [he]
        clear he
        rw [hx, ho] at HW
        go_enter Try.func38, Try.ntmps38
        go_wp2_with (first | (go_at_call 54; ((with_reducible refine (shapes_any _).mono ?_); rintro e w' ⟨rfl, rfl⟩)) | (go_at_call 55; ((with_reducible refine (small_any _ l _ (HL.out.below HW.out) hll).mono ?_); rintro e w' ⟨rfl, rfl⟩)) | fail)
        go_quiet (fail)
        go_wp2_with (first | (go_at_call 56; ((with_reducible refine (write_any k n sh HSH.out _ _ _ (by simp [shapeV, *]) b l _ (HBY.out.below (below_drewN HW.out nq)) (HL.out.below (below_drewN HW.out nq)) HT.out hn18 H4.out).mono ?_); rintro e w5 ⟨rfl, hb5⟩; rw [HTX.out]; have hw5 : Below w.heap.size w w5 := (below_drewN HW.out nq).trans (hb5.mono (by have := HW.out.size; exact this)); have HW5 := Lib.hid hw5; clear hb5 hw5)) | (go_at_call 57; ((with_reducible refine (look_v (strB T) hTs _ k2 n2 nb ps HX.out HNB.out).mono ?_); rintro e w6 ⟨ad, cp, rfl, hS, hB⟩; have hw6 : Below w.heap.size w w6 := HW5.out.trans (hB.mono HW5.out.size); have HW6 := Lib.hid hw6; have HS := Lib.hid hS; clear hB hS hw6)) | (go_at_call 58; ((with_reducible refine (equal_any _ _ ps l _ (HS.out.below ((Below.refl _ _).alloc (Nat.le_refl _) _)) (HL.out.below (HW6.out.alloc HW6.out.size _)) hps hll).mono ?_); rintro e w' ⟨rfl, q7, rfl⟩)) | fail)
        go_ret
        exact ⟨ret_str (by rw [HO.out]; rfl), below_drewN (HW6.out.alloc HW6.out.size _) _⟩
      · have HO : Hid (pickR k T l = T) := Lib.hid (by rw [HP.out, if_pos ⟨he, by simpa using heq⟩])
        have hk2 : ((k2 : Int) != k) = false := by simp [he]
        clear he
        rw [hx, ho] at HW
        go_enter Try.func38, Try.ntmps38
        go_wp2_with (first | (go_at_call 54; ((with_reducible refine (shapes_any _).mono ?_); rintro e w' ⟨rfl, rfl⟩)) | (go_at_call 55; ((with_reducible refine (small_any _ l _ (HL.out.below HW.out) hll).mono ?_); rintro e w' ⟨rfl, rfl⟩)) | fail)
        go_quiet (fail)
        go_wp2_with (first | (go_at_call 56; ((with_reducible refine (write_any k n sh HSH.out _ _ _ (by simp [shapeV, *]) b l _ (HBY.out.below (below_drewN HW.out nq)) (HL.out.below (below_drewN HW.out nq)) HT.out hn18 H4.out).mono ?_); rintro e w5 ⟨rfl, hb5⟩; rw [HTX.out]; have hw5 : Below w.heap.size w w5 := (below_drewN HW.out nq).trans (hb5.mono (by have := HW.out.size; exact this)); have HW5 := Lib.hid hw5; clear hb5 hw5)) | (go_at_call 57; ((with_reducible refine (look_v (strB T) hTs _ k2 n2 nb ps HX.out HNB.out).mono ?_); rintro e w6 ⟨ad, cp, rfl, hS, hB⟩; have hw6 : Below w.heap.size w w6 := HW5.out.trans (hB.mono HW5.out.size); have HW6 := Lib.hid hw6; have HS := Lib.hid hS; clear hB hS hw6)) | (go_at_call 58; ((with_reducible refine (equal_any _ _ ps l _ (HS.out.below ((Below.refl _ _).alloc (Nat.le_refl _) _)) (HL.out.below (HW6.out.alloc HW6.out.size _)) hps hll).mono ?_); rintro e w' ⟨rfl, q7, rfl⟩)) | fail)
        go_ret
        exact ⟨ret_str (by rw [HO.out]), below_drewN (HW6.out.alloc HW6.out.size _) _⟩
  · clear hl
    have hl2i : ((l.length : Int) == 2) = false := beqf (by omega)
    clear hl2
    rcases hhex with ⟨hx, h1⟩ | hx
    all_goals
      rcases hend with he | ⟨he, heq⟩ | ⟨he, heq⟩
      · have HO : Hid (pickR k T l = []) := Lib.hid (by rw [HP.out, if_neg (fun h => he h.1)])
        have hk2 : ((k2 : Int) != k) = true := by simp; omega
        clear he
        rw [hx, ho] at HW
        go_enter Try.func38, Try.ntmps38
        go_wp2_with (first | (go_at_call 54; ((with_reducible refine (shapes_any _).mono ?_); rintro e w' ⟨rfl, rfl⟩)) | (go_at_call 55; ((with_reducible refine (small_any _ l _ (HL.out.below HW.out) hll).mono ?_); rintro e w' ⟨rfl, rfl⟩)) | fail)
        go_quiet (fail)
        go_wp2_with (first | (go_at_call 56; ((with_reducible refine (write_any k n sh HSH.out _ _ _ (by simp [shapeV, *]) b l _ (HBY.out.below (below_drewN HW.out nq)) (HL.out.below (below_drewN HW.out nq)) HT.out hn18 H4.out).mono ?_); rintro e w5 ⟨rfl, hb5⟩; rw [HTX.out]; have hw5 : Below w.heap.size w w5 := (below_drewN HW.out nq).trans (hb5.mono (by have := HW.out.size; exact this)); have HW5 := Lib.hid hw5; clear hb5 hw5)) | (go_at_call 57; ((with_reducible refine (look_v (strB T) hTs _ k2 n2 nb ps HX.out HNB.out).mono ?_); rintro e w6 ⟨ad, cp, rfl, hS, hB⟩; have hw6 : Below w.heap.size w w6 := HW5.out.trans (hB.mono HW5.out.size); have HW6 := Lib.hid hw6; have HS := Lib.hid hS; clear hB hS hw6)) | (go_at_call 58; ((with_reducible refine (equal_any _ _ ps l _ (HS.out.below ((Below.refl _ _).alloc (Nat.le_refl _) _)) (HL.out.below (HW6.out.alloc HW6.out.size _)) hps hll).mono ?_); rintro e w' ⟨rfl, q7, rfl⟩)) | fail)
        go_ret
        exact ⟨ret_str (by rw [HO.out]; rfl), HW6.out.alloc HW6.out.size _⟩
      · have HO : Hid (pickR k T l = []) := Lib.hid (by rw [HP.out, if_neg (fun h => by have h2 := h.2; subst h2; simp at heq)])
        have hk2 : ((k2 : Int) != k) = false := by simp [he]
        clear he
        rw [hx, ho] at HW
        go_enter Try.func38, Try.ntmps38
        go_wp2_with (first | (go_at_call 54; ((with_reducible refine (shapes_any _).mono ?_); rintro e w' ⟨rfl, rfl⟩)) | (go_at_call 55; ((with_reducible refine (small_any _ l _ (HL.out.below HW.out) hll).mono ?_); rintro e w' ⟨rfl, rfl⟩)) | fail)
        go_quiet (fail)
        go_wp2_with (first | (go_at_call 56; ((with_reducible refine (write_any k n sh HSH.out _ _ _ (by simp [shapeV, *]) b l _ (HBY.out.below (below_drewN HW.out nq)) (HL.out.below (below_drewN HW.out nq)) HT.out hn18 H4.out).mono ?_); rintro e w5 ⟨rfl, hb5⟩; rw [HTX.out]; have hw5 : Below w.heap.size w w5 := (below_drewN HW.out nq).trans (hb5.mono (by have := HW.out.size; exact this)); have HW5 := Lib.hid hw5; clear hb5 hw5)) | (go_at_call 57; ((with_reducible refine (look_v (strB T) hTs _ k2 n2 nb ps HX.out HNB.out).mono ?_); rintro e w6 ⟨ad, cp, rfl, hS, hB⟩; have hw6 : Below w.heap.size w w6 := HW5.out.trans (hB.mono HW5.out.size); have HW6 := Lib.hid hw6; have HS := Lib.hid hS; clear hB hS hw6)) | (go_at_call 58; ((with_reducible refine (equal_any _ _ ps l _ (HS.out.below ((Below.refl _ _).alloc (Nat.le_refl _) _)) (HL.out.below (HW6.out.alloc HW6.out.size _)) hps hll).mono ?_); rintro e w' ⟨rfl, q7, rfl⟩)) | fail)
        go_ret
        exact ⟨ret_str (by rw [HO.out]; rfl), below_drewN (HW6.out.alloc HW6.out.size _) _⟩
      · have HO : Hid (pickR k T l = T) := Lib.hid (by rw [HP.out, if_pos ⟨he, by simpa using heq⟩])
        have hk2 : ((k2 : Int) != k) = false := by simp [he]
        clear he
        rw [hx, ho] at HW
        go_enter Try.func38, Try.ntmps38
        go_wp2_with (first | (go_at_call 54; ((with_reducible refine (shapes_any _).mono ?_); rintro e w' ⟨rfl, rfl⟩)) | (go_at_call 55; ((with_reducible refine (small_any _ l _ (HL.out.below HW.out) hll).mono ?_); rintro e w' ⟨rfl, rfl⟩)) | fail)
        go_quiet (fail)
        go_wp2_with (first | (go_at_call 56; ((with_reducible refine (write_any k n sh HSH.out _ _ _ (by simp [shapeV, *]) b l _ (HBY.out.below (below_drewN HW.out nq)) (HL.out.below (below_drewN HW.out nq)) HT.out hn18 H4.out).mono ?_); rintro e w5 ⟨rfl, hb5⟩; rw [HTX.out]; have hw5 : Below w.heap.size w w5 := (below_drewN HW.out nq).trans (hb5.mono (by have := HW.out.size; exact this)); have HW5 := Lib.hid hw5; clear hb5 hw5)) | (go_at_call 57; ((with_reducible refine (look_v (strB T) hTs _ k2 n2 nb ps HX.out HNB.out).mono ?_); rintro e w6 ⟨ad, cp, rfl, hS, hB⟩; have hw6 : Below w.heap.size w w6 := HW5.out.trans (hB.mono HW5.out.size); have HW6 := Lib.hid hw6; have HS := Lib.hid hS; clear hB hS hw6)) | (go_at_call 58; ((with_reducible refine (equal_any _ _ ps l _ (HS.out.below ((Below.refl _ _).alloc (Nat.le_refl _) _)) (HL.out.below (HW6.out.alloc HW6.out.size _)) hps hll).mono ?_); rintro e w' ⟨rfl, q7, rfl⟩)) | fail)
        go_ret
        exact ⟨ret_str (by rw [HO.out]), below_drewN (HW6.out.alloc HW6.out.size _) _⟩
  · have hl2i : ((l.length : Int) == 2) = true := by rw [hl2]; rfl
    have hgt := str_gt (a := l.getD 0 []) (b := l.getD 1 [])
    rw [hle] at hgt
    obtain ⟨bl, ol, rfl, hc⟩ : ∃ b off, al = some ⟨b, off, none⟩ ∧ ∀ i, i < l.length → w.cell? ⟨b, off + i, none⟩ = some (strV (l.getD i [])) := by
      rcases hl with rfl | h
      · simp at hl2
      · exact h
    have hbb := World.block_lt_of_cell? w _ (hc 0 (by omega))
    have s0 := fun o1 o2 => alloc_cell o2 (by simp; exact Nat.lt_succ_of_lt hbb) (alloc_cell o1 hbb (hc 0 (by omega)))
    have s1 := fun o1 o2 => alloc_cell o2 (by simp; exact Nat.lt_succ_of_lt hbb) (alloc_cell o1 hbb (hc 1 (by omega)))
    simp only [strV, Nat.add_zero, Bool.not_true] at s0 s1 hgt
    have hi0 : (0 : Int) < (l.length : Int) := by omega
    have hi1 : (1 : Int) < (l.length : Int) := by omega
    have hj0 : 0 < l.length := by omega
    have hj1 : 1 < l.length := by omega
    clear hc hbb hle hl2
    generalize l.getD 0 [] = x0 at *
    generalize l.getD 1 [] = x1 at *
    rcases hhex with ⟨hx, h1⟩ | hx
    all_goals
      rcases hend with he | ⟨he, heq⟩ | ⟨he, heq⟩
      · have HO : Hid (pickR k T l = []) := Lib.hid (by rw [HP.out, if_neg (fun h => he h.1)])
        have hk2 : ((k2 : Int) != k) = true := by simp; omega
        clear he
        rw [hx, ho] at HW
        go_enter Try.func38, Try.ntmps38
        go_wp2_with (first | (go_at_call 54; ((with_reducible refine (shapes_any _).mono ?_); rintro e w' ⟨rfl, rfl⟩)) | (go_at_call 55; ((with_reducible refine (small_any _ l _ (HL.out.below HW.out) hll).mono ?_); rintro e w' ⟨rfl, rfl⟩)) | fail)
        go_quiet (fail)
        go_wp2_with (first | (go_at_call 56; ((with_reducible refine (write_any k n sh HSH.out _ _ _ (by simp [shapeV, *]) b l _ (HBY.out.below (below_drewN HW.out nq)) (HL.out.below (below_drewN HW.out nq)) HT.out hn18 H4.out).mono ?_); rintro e w5 ⟨rfl, hb5⟩; rw [HTX.out]; have hw5 : Below w.heap.size w w5 := (below_drewN HW.out nq).trans (hb5.mono (by have := HW.out.size; exact this)); have HW5 := Lib.hid hw5; clear hb5 hw5)) | (go_at_call 57; ((with_reducible refine (look_v (strB T) hTs _ k2 n2 nb ps HX.out HNB.out).mono ?_); rintro e w6 ⟨ad, cp, rfl, hS, hB⟩; have hw6 : Below w.heap.size w w6 := HW5.out.trans (hB.mono HW5.out.size); have HW6 := Lib.hid hw6; have HS := Lib.hid hS; clear hB hS hw6)) | (go_at_call 58; ((with_reducible refine (equal_any _ _ ps l _ (HS.out.below ((Below.refl _ _).alloc (Nat.le_refl _) _)) (HL.out.below (HW6.out.alloc HW6.out.size _)) hps hll).mono ?_); rintro e w' ⟨rfl, q7, rfl⟩)) | fail)
        go_ret
        exact ⟨ret_str (by rw [HO.out]; rfl), HW6.out.alloc HW6.out.size _⟩
      · have HO : Hid (pickR k T l = []) := Lib.hid (by rw [HP.out, if_neg (fun h => by have h2 := h.2; subst h2; simp at heq)])
        have hk2 : ((k2 : Int) != k) = false := by simp [he]
        clear he
        rw [hx, ho] at HW
        go_enter Try.func38, Try.ntmps38
        go_wp2_with (first | (go_at_call 54; ((with_reducible refine (shapes_any _).mono ?_); rintro e w' ⟨rfl, rfl⟩)) | (go_at_call 55; ((with_reducible refine (small_any _ l _ (HL.out.below HW.out) hll).mono ?_); rintro e w' ⟨rfl, rfl⟩)) | fail)
        go_quiet (fail)
        go_wp2_with (first | (go_at_call 56; ((with_reducible refine (write_any k n sh HSH.out _ _ _ (by simp [shapeV, *]) b l _ (HBY.out.below (below_drewN HW.out nq)) (HL.out.below (below_drewN HW.out nq)) HT.out hn18 H4.out).mono ?_); rintro e w5 ⟨rfl, hb5⟩; rw [HTX.out]; have hw5 : Below w.heap.size w w5 := (below_drewN HW.out nq).trans (hb5.mono (by have := HW.out.size; exact this)); have HW5 := Lib.hid hw5; clear hb5 hw5)) | (go_at_call 57; ((with_reducible refine (look_v (strB T) hTs _ k2 n2 nb ps HX.out HNB.out).mono ?_); rintro e w6 ⟨ad, cp, rfl, hS, hB⟩; have hw6 : Below w.heap.size w w6 := HW5.out.trans (hB.mono HW5.out.size); have HW6 := Lib.hid hw6; have HS := Lib.hid hS; clear hB hS hw6)) | (go_at_call 58; ((with_reducible refine (equal_any _ _ ps l _ (HS.out.below ((Below.refl _ _).alloc (Nat.le_refl _) _)) (HL.out.below (HW6.out.alloc HW6.out.size _)) hps hll).mono ?_); rintro e w' ⟨rfl, q7, rfl⟩)) | fail)
        go_ret
        exact ⟨ret_str (by rw [HO.out]; rfl), below_drewN (HW6.out.alloc HW6.out.size _) _⟩
      · have HO : Hid (pickR k T l = T) := Lib.hid (by rw [HP.out, if_pos ⟨he, by simpa using heq⟩])
        have hk2 : ((k2 : Int) != k) = false := by simp [he]
        clear he
        rw [hx, ho] at HW
        go_enter Try.func38, Try.ntmps38
        go_wp2_with (first | (go_at_call 54; ((with_reducible refine (shapes_any _).mono ?_); rintro e w' ⟨rfl, rfl⟩)) | (go_at_call 55; ((with_reducible refine (small_any _ l _ (HL.out.below HW.out) hll).mono ?_); rintro e w' ⟨rfl, rfl⟩)) | fail)
        go_quiet (fail)
        go_wp2_with (first | (go_at_call 56; ((with_reducible refine (write_any k n sh HSH.out _ _ _ (by simp [shapeV, *]) b l _ (HBY.out.below (below_drewN HW.out nq)) (HL.out.below (below_drewN HW.out nq)) HT.out hn18 H4.out).mono ?_); rintro e w5 ⟨rfl, hb5⟩; rw [HTX.out]; have hw5 : Below w.heap.size w w5 := (below_drewN HW.out nq).trans (hb5.mono (by have := HW.out.size; exact this)); have HW5 := Lib.hid hw5; clear hb5 hw5)) | (go_at_call 57; ((with_reducible refine (look_v (strB T) hTs _ k2 n2 nb ps HX.out HNB.out).mono ?_); rintro e w6 ⟨ad, cp, rfl, hS, hB⟩; have hw6 : Below w.heap.size w w6 := HW5.out.trans (hB.mono HW5.out.size); have HW6 := Lib.hid hw6; have HS := Lib.hid hS; clear hB hS hw6)) | (go_at_call 58; ((with_reducible refine (equal_any _ _ ps l _ (HS.out.below ((Below.refl _ _).alloc (Nat.le_refl _) _)) (HL.out.below (HW6.out.alloc HW6.out.size _)) hps hll).mono ?_); rintro e w' ⟨rfl, q7, rfl⟩)) | fail)
        go_ret
        exact ⟨ret_str (by rw [HO.out]), below_drewN (HW6.out.alloc HW6.out.size _) _⟩
end Go.Proofs.Ytjbmcjppaadkgaa

namespace Go.Proofs.Ytjbmcjppaadkgaa
set_option linter.unusedVariables false
set_option linter.unusedSimpArgs false

theorem join_cons2 (x : List UInt8) (l : List (List UInt8)) (h : l ≠ []) : Lib.join (x :: l) [44] = x ++ 44 :: Lib.join l [44] := by
  cases l with
  | nil => exact absurd rfl h
  | cons y l => rw [Lib.join_cons, Lib.join_cons]; simp [Lib.joinTail]
theorem part_app {r rest : List UInt8} (h : rest <:+ r) : r = partOf r rest ++ rest := by
  obtain ⟨x, rfl⟩ := h
  unfold partOf
  simp
theorem head_tail {r : List UInt8} {c : UInt8} (h : r.head? = some c) : r = c :: r.tail := by
  cases r with
  | nil => cases h
  | cons x r => simp at h; rw [h]; rfl
theorem loop_text : ∀ (f k : Nat) (acc : List (List UInt8)) (r : List UInt8) (ps : List (List UInt8)) (rest : List UInt8), pLoop f k acc r = some (ps, rest) →
    ∃ qs, ps = acc ++ qs ∧ qs ≠ [] ∧ r = Lib.join qs [44] ++ 41 :: rest := by
  intro f
  induction f with
  | zero => intro k acc r ps rest h; cases h
  | succ f ih =>
    intro k acc r ps rest h
    simp only [pLoop] at h
    obtain ⟨y, hy, h⟩ := Option.bind_eq_some_iff.1 h
    have hs := (pTerm_suf hy).1
    have hr := part_app hs
    split at h
    · rename_i h41
      split at h
      · cases h
        refine ⟨[partOf r y.2.2.2.2], rfl, by simp, ?_⟩
        rw [Lib.join_one, ← head_tail h41]; exact hr
      · cases h
    · split at h
      · rename_i h44
        obtain ⟨qs, e1, e2, e3⟩ := ih _ _ _ _ _ h
        refine ⟨partOf r y.2.2.2.2 :: qs, by rw [e1]; simp, by simp, ?_⟩
        rw [join_cons2 _ _ e2, List.append_assoc, List.cons_append, ← e3, ← head_tail h44]; exact hr
      · cases h
theorem sign_kind (c : UInt8) (h : kindOf c ≠ 0) : signOf (kindOf c) = c := by
  unfold kindOf at h ⊢
  repeat' split at h
  all_goals first
    | (exact absurd rfl h)
    | (simp_all [signOf])
theorem num_text {low high : Nat} {r r2 : List UInt8} {n : Nat} (h : pNum low high r = some (n, r2)) : r = decs n ++ r2 ∧ n ≤ top := by
  unfold pNum at h
  split at h
  · rename_i hin
    cases h
    unfold numIn at hin
    rw [decide_eq_true_eq] at hin
    obtain ⟨u, h1, h2, h3⟩ := decs_rd _ hin.1
    rw [h1]
    refine ⟨?_, by simpa using h2⟩
    simp only [Int.toNat_natCast]
    rw [h3, List.takeWhile_append_dropWhile]
  · cases h
theorem term_text {f : Nat} {t : List UInt8} {k n : Nat} {b : List UInt8} {ps : List (List UInt8)} {rest : List UInt8} (h : pTermS (pLoop f) t = some (k, n, b, ps, rest)) : t = wText k n b ps ++ rest ∧ n ≤ top := by
  cases t with
  | nil => cases h
  | cons c r =>
    simp only [pTermS] at h
    obtain ⟨sh, hsh, h⟩ := Option.bind_eq_some_iff.1 h
    have hk0 : kindOf c ≠ 0 := fun e => by rw [e] at hsh; cases hsh
    have hsg := sign_kind c hk0
    split at h
    · rename_i h4
      obtain ⟨y, hy, h⟩ := Option.bind_eq_some_iff.1 h
      obtain ⟨n', b', r'⟩ := y
      cases h
      unfold wText
      rw [hsg, if_neg (by omega)]
      unfold pLeaf at hy
      split at hy
      · rename_i h1
        cases hy
        rw [h1]
        simp [joined, itemsOf, numb, Lib.join_nil, top]
      · split at hy
        · rename_i h1 h4
          split at hy
          · rename_i hc
            cases hy
            have := hexOf_hx _ hc
            rw [h4]
            simp only [joined, itemsOf, numb]
            simp [Lib.join_one, this, top]
          · cases hy
        · rename_i h1 h4'
          obtain ⟨z, hz, hy⟩ := Option.bind_eq_some_iff.1 hy
          obtain ⟨n2, r2⟩ := z
          cases hy
          have hn := num_text hz
          have hnb : numb (kindOf c) = true := by
            have : kindOf c = 2 ∨ kindOf c = 3 := by omega
            rcases this with e | e <;> rw [e] <;> rfl
          refine ⟨?_, hn.2⟩
          simp only [joined, itemsOf, hnb, if_true]
          simp only [List.append_nil, Lib.join_one, List.cons_append]
          rw [← hn.1]
    · rename_i h4
      obtain ⟨r1, hr1, h⟩ := Option.bind_eq_some_iff.1 h
      rw [pass_some] at hr1
      obtain ⟨x, hx, h⟩ := Option.bind_eq_some_iff.1 h
      obtain ⟨n', r3⟩ := x
      unfold pHead at hx
      split at hx
      · rename_i h810
        obtain ⟨z, hz, hx⟩ := Option.bind_eq_some_iff.1 hx
        obtain ⟨n2, r2⟩ := z
        obtain ⟨r4, hr4, hx⟩ := Option.bind_eq_some_iff.1 hx
        rw [pass_some] at hr4
        cases hx
        have hn := num_text hz
        rw [if_neg (by omega)] at h
        obtain ⟨y, hy, h⟩ := Option.bind_eq_some_iff.1 h
        obtain ⟨ps', rest'⟩ := y
        cases h
        obtain ⟨qs, e1, e2, e3⟩ := loop_text _ _ _ _ _ _ hy
        rw [List.nil_append] at e1
        subst e1
        have hnb : numb (kindOf c) = true := by rcases h810 with e | e <;> rw [e] <;> rfl
        refine ⟨?_, hn.2⟩
        unfold wText
        rw [hsg, if_pos (by omega)]
        simp only [joined, itemsOf, hnb, if_true]
        rw [List.singleton_append, join_cons2 _ _ e2, hr1, hn.1]
        simp only at hr4 e3
        rw [hr4]
        rw [e3]
        simp
      · rename_i h810
        cases hx
        have hnb : numb (kindOf c) = false := by
          unfold numb
          have : (kindOf c == 2) = false := by simp; omega
          have h3 : (kindOf c == 3) = false := by simp; omega
          have h8 : (kindOf c == 8) = false := by simp; omega
          have h10 : (kindOf c == 10) = false := by simp; omega
          rw [this, h3, h8, h10]; rfl
        have hit : itemsOf (kindOf c) 0 [] = [] := by
          unfold itemsOf; rw [hnb]; simp; omega
        refine ⟨?_, by (split at h <;> first | (cases h; exact Nat.zero_le _) | (obtain ⟨y, hy, h⟩ := Option.bind_eq_some_iff.1 h; cases h; exact Nat.zero_le _))⟩
        split at h
        · rename_i h11
          cases h
          unfold wText
          rw [hsg, if_pos (by omega)]
          simp only [joined, hit]
          rw [hr1]
          have := head_tail h11.2
          simp only at this
          simp only [List.append_nil, Lib.join_nil, List.nil_append, List.cons_append]
          rw [← this]
        · obtain ⟨y, hy, h⟩ := Option.bind_eq_some_iff.1 h
          obtain ⟨ps', rest'⟩ := y
          cases h
          obtain ⟨qs, e1, e2, e3⟩ := loop_text _ _ _ _ _ _ hy
          rw [List.nil_append] at e1
          subst e1
          unfold wText
          rw [hsg, if_pos (by omega)]
          simp only [joined, hit]
          rw [hr1]
          simp only at e3
          rw [e3]
          simp
theorem term_parts6 {f : Nat} {t : List UInt8} {k n : Nat} {b : List UInt8} {ps : List (List UInt8)} {rest : List UInt8} (h : pTermS (pLoop f) t = some (k, n, b, ps, rest)) (h6 : k = 6) : okParts k ps = true := by
  cases t with
  | nil => cases h
  | cons c r =>
    simp only [pTermS] at h
    obtain ⟨sh, hsh, h⟩ := Option.bind_eq_some_iff.1 h
    split at h
    · obtain ⟨y, hy, h⟩ := Option.bind_eq_some_iff.1 h
      cases h
      omega
    · obtain ⟨r1, hr1, h⟩ := Option.bind_eq_some_iff.1 h
      obtain ⟨x, hx, h⟩ := Option.bind_eq_some_iff.1 h
      split at h
      · cases h
        omega
      · obtain ⟨y, hy, h⟩ := Option.bind_eq_some_iff.1 h
        have := (pLoop_ok _ _ _ _ _ hy).1
        cases h
        exact this
/-- what is read is written -/
theorem read_text {t : List UInt8} {k n : Nat} {ps : List (List UInt8)} (h : lookR t = (k, n, ps)) (h0 : k ≠ 0) : t.length ≤ 65536 ∧ t = wText k n (bytesIn k t) ps ∧ n ≤ top := by
  have hq := lookR_some h h0
  have hp := look_eq t
  rw [hq] at hp
  simp only [Option.map_some] at hp
  unfold pLook at hp
  split at hp
  · rename_i hl
    obtain ⟨x, hx, hp⟩ := Option.bind_eq_some_iff.1 hp
    obtain ⟨k', n', b', ps', rest⟩ := x
    split at hp
    · rename_i hr
      simp only at hr
      subst hr
      simp only [Option.some.injEq, Prod.mk.injEq] at hp
      obtain ⟨e1, e2, e3, e4⟩ := hp
      have := term_text hx
      rw [List.append_nil, e1, e2, e3, e4] at this
      exact ⟨hl, this⟩
    · cases hp
  · cases hp
theorem total_tail (l : List (List UInt8)) : total l ≤ (Lib.joinTail [44] l).length := by
  induction l with
  | nil => simp [total]
  | cons y l ih => simp [total, Lib.joinTail] at ih ⊢; omega
theorem total_join (l : List (List UInt8)) : total l ≤ (Lib.join l [44]).length + 1 := by
  cases l with
  | nil => simp [total]
  | cons x l =>
    rw [Lib.join_cons]
    have := total_tail l
    have e : total (x :: l) = x.length + total l + 1 := by simp [total]; omega
    rw [e, List.length_append]
    omega
theorem text_total (k n : Nat) (b : List UInt8) (ps : List (List UInt8)) : total ps ≤ (wText k n b ps).length := by
  have h := total_join (itemsOf k n b ++ ps)
  have h2 : total ps ≤ total (itemsOf k n b ++ ps) := by simp [total]; omega
  unfold wText joined
  split <;> simp <;> omega
/-- bytes: two digits each -/
theorem text_bytes (n : Nat) (b : List UInt8) (ps : List (List UInt8)) : 2 * b.length ≤ (wText 4 n b ps).length := by
  have h := total_join (itemsOf 4 n b ++ ps)
  have h2 : 2 * b.length + 1 ≤ total (itemsOf 4 n b ++ ps) := by
    have : itemsOf 4 n b = [hexOf b] := rfl
    rw [this]; simp [total, hexOf_length]; omega
  unfold wText joined
  split <;> simp <;> omega
theorem sort_read {t : List UInt8} {k n : Nat} {ps : List (List UInt8)} (h : lookR t = (k, n, ps)) (h0 : k ≠ 0) : sortL k ps = ps := by
  have hq := lookR_some h h0
  have hp := look_eq t
  rw [hq] at hp
  simp only [Option.map_some] at hp
  unfold sortL
  by_cases h6 : k = 6 ∧ ps.length = 2 ∧ leL (ps.getD 0 []) (ps.getD 1 []) = false
  · exfalso
    unfold pLook at hp
    split at hp
    · obtain ⟨x, hx, hp⟩ := Option.bind_eq_some_iff.1 hp
      obtain ⟨k', n', b', ps', rest⟩ := x
      split at hp
      · simp only [Option.some.injEq, Prod.mk.injEq] at hp
        obtain ⟨e1, e2, e3, e4⟩ := hp
        subst e1; subst e4
        have := term_parts6 hx h6.1
        rw [okParts, h6.1] at this
        rw [h6.2.2] at this
        simp at this
      · cases hp
    · cases hp
  · rw [if_neg h6]
/-- made of what was read: the same text -/
theorem make_read {t : List UInt8} {k n : Nat} {ps : List (List UInt8)} (h : lookR t = (k, n, ps)) (h0 : k ≠ 0) : makeK k n (bytesIn k t) ps = t := by
  obtain ⟨hl, ht, hn⟩ := read_text h h0
  have hs := sort_read h h0
  unfold makeK
  rw [hs, ← ht, h]
  have h1 := text_total k n (bytesIn k t) ps
  rw [← ht] at h1
  rw [if_neg, if_pos ⟨rfl, rfl⟩]
  rintro (⟨e, hb⟩ | hb)
  · subst e
    have h2 := text_bytes n (bytesIn 4 t) ps
    rw [← ht] at h2
    omega
  · omega
end Go.Proofs.Ytjbmcjppaadkgaa
