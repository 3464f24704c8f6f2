import Derived.Test.YteiadbiopcidmaaTerm9
import Derived.Test.YteiadbiopcidmaaTermMath2
import Derived.Defers
import Derived.Recover
import Derived.RegionTactic
import Derived.StillTailTactics
import Derived.ChangeAlike
namespace Go.Proofs.Yteiadbiopcidmaa
set_option linter.unusedVariables false
set_option linter.unusedSimpArgs false
set_option maxRecDepth 100000
open Go.RowKit

theorem catch_panicking (b : Nat) (v0 v1 v2 v3 : Value) (w : World) (h : w.heap[b]? = some (.cells #[v0, v1, v2, v3] 51 (0, 0))) :
    CallsD Try.prog 27 #[.pointer (some ⟨b, 0, none⟩)] (.panicking [{ v := faultV, recovered := false }]) w fun e u' w' =>
      e = .returned (.tuple #[]) ∧ u' = .panicking [{ v := faultV, recovered := true }] ∧ w' = (((w.setCell ⟨b, 0, none⟩ (.int .i64 0)).setCell ⟨b, 1, none⟩ (.bool false)).setCell ⟨b, 2, none⟩ (.int .u64 0)).setCell ⟨b, 3, none⟩ (.slice none 0 0) := by
  have c0 := cell_of h 0 rfl; have c1 := cell_of h 1 rfl; have c2 := cell_of h 2 rfl; have c3 := cell_of h 3 rfl
  have f0 := free_of h 0; have f1 := free_of h 1; have f2 := free_of h 2; have f3 := free_of h 3
  refine callsD_of_wpS Try.func27 rfl fun c₀ cs hu => ?_
  apply wpS_seq
  apply wpS_region
  simp [wpOpsS, go_sem, recoverD, hu, Try.ntmps27, Exit.thenS]
  refine wpS_cond (t := true) (by simp [Act.eval, Array.replicate, faultV, Act.put]) ?_
  simp only [if_true]
  apply wpS_region
  simp [wpOpsS, go_sem, c0, c1, c2, c3, f0, f1, f2, f3, bodyPostS, results, Try.results27]

theorem catch_idle (p : Addr) (w : World) :
    CallsD Try.prog 27 #[.pointer (some p)] .returning w fun e u' w' => e = .returned (.tuple #[]) ∧ u' = .returning ∧ w' = w := by
  refine callsD_of_wpS Try.func27 rfl fun c₀ cs hu => ?_
  apply wpS_seq
  apply wpS_region
  simp [wpOpsS, go_sem, recoverD, hu, Try.ntmps27, Exit.thenS]
  refine wpS_cond (t := false) (by simp [Act.eval, Array.replicate]) ?_
  simp only [Bool.false_eq_true, if_false]
  refine wpS_of_wp (wp_skip ?_)
  cases c₀
  simp_all [bodyPostS, results, Try.results27]

/-- a slice of strings that reads as these -/
def Strs (w : World) (v : Value) (l : List (List UInt8)) : Prop :=
  ∃ a cap, v = .slice a l.length cap ∧ (a = none → cap = 0) ∧ (l = [] ∨ ∃ b off, a = some ⟨b, off, none⟩ ∧ ∀ i, i < l.length → w.cell? ⟨b, off + i, none⟩ = some (strV (l.getD i [])))
theorem strs_nil (w : World) : Strs w (.slice none 0 0) [] := ⟨none, 0, rfl, fun _ => rfl, .inl rfl⟩
theorem strs_own {w : World} {B : Nat} {v : Value} {l : List (List UInt8)} (h : w.ownsRow B 9 1 v l.length (l.map strV)) : Strs w v l := by
  rcases h.2 with ⟨rfl, hn⟩ | ⟨g, cap, cur, rfl, hB, hg, hcap, _, hsz, htk⟩
  · have : l = [] := List.length_eq_zero_iff.1 hn
    subst this; exact strs_nil w
  · refine ⟨_, cap, rfl, (fun h => by cases h), .inr ⟨g, 0, rfl, fun i hi => ?_⟩⟩
    rw [Nat.zero_add]
    refine cell_of hg i ?_
    have h1 : (l.map strV)[i]? = some (strV (l.getD i [])) := by simp [List.getElem?_map, List.getElem?_eq_getElem hi]
    rw [← htk, List.getElem?_take] at h1
    split at h1
    · simpa using h1
    · cases h1
theorem Strs.below {w w' : World} {v : Value} {l : List (List UInt8)} (h : Strs w v l) (hb : Below w.heap.size w w') : Strs w' v l := by
  obtain ⟨a, cap, e, hn, h⟩ := h
  refine ⟨a, cap, e, hn, ?_⟩
  rcases h with h | ⟨b, off, e2, h⟩
  · exact .inl h
  · refine .inr ⟨b, off, e2, fun i hi => ?_⟩
    have hc := h i hi
    have := World.block_lt_of_cell? w _ hc
    exact (hb.cell (p := ⟨b, off + i, none⟩) this).trans hc

def numb (k : Nat) : Bool := k == 2 || k == 3 || k == 8 || k == 10
theorem numb_shape {k : Nat} {sh : Shape} (h : shapeOf k = some sh) : sh.numbered = numb k := by
  rcases shape_cases h with rfl | rfl | rfl | rfl | rfl | rfl | rfl | rfl | rfl | rfl | rfl
  all_goals (simp only [shapeOf, Option.some.injEq] at h; subst h; rfl)
def lookR (t : List UInt8) : Nat × Nat × List (List UInt8) := (qLook t).getD (0, 0, [])
def LookRet (w : World) (x : Nat × Nat × List (List UInt8)) (e : Ending) (w' : World) : Prop :=
  ∃ pv, e = .returned (.agg #[.int .i64 x.1, .bool (numb x.1), .int .u64 x.2.1, pv]) ∧ Strs w' pv x.2.2 ∧ Below w.heap.size w w'

theorem below_grown {w a c : World} {b : Nat} (h : Below w.heap.size w a) (hg : a.grownBy c (some b)) (hb : w.heap.size ≤ b) : Below w.heap.size w c :=
  h.grown hg h.size (fun k hk => by cases hk; exact hb)

theorem look_long (t : ByteArray) (ht : t.size ≤ maxLen) (hl : 65536 < t.size) (w : World) : Calls Try.prog 18 #[.string t] w (LookRet w (lookR t.data.toList)) := by
  unfold maxLen at ht
  have HO : Hid (lookR t.data.toList = (0, 0, [])) := Lib.hid (by unfold lookR qLook; rw [if_neg (by simp; omega)]; rfl)
  go_enter_defers Try.func18, Try.ntmps18
  go_wp2
  simp only [bodyPostD, Leaves]
  refine ⟨.agg #[.int .i64 0, .bool false, .int .u64 0, .slice none 0 0], by simp [results, Try.results18, go_sem], ?_⟩
  rw [HO.out]
  exact ⟨_, rfl, strs_nil _, (Below.refl _ _).alloc (Nat.le_refl _) _⟩

theorem look_facts (t : ByteArray) (w : World) : Rd (((w.alloc (.cells #[.int .i64 0, .bool false, .int .u64 0, .slice none 0 0] 51)).alloc (.map (esN 11) 11)).alloc (.cells #[.string t, .int .i64 0, .map (some (w.heap.size + 1)), .int .i64 0, .slice none 0 0] 72)) (w.heap.size + 1 + 1) t 0 (w.heap.size + 1) 0 nilV ∧ ((((w.alloc (.cells #[.int .i64 0, .bool false, .int .u64 0, .slice none 0 0] 51)).alloc (.map (esN 11) 11)).alloc (.cells #[.string t, .int .i64 0, .map (some (w.heap.size + 1)), .int .i64 0, .slice none 0 0] 72))).heap[w.heap.size + 1]? = some (.map (esN 11) 11) ∧ ((((w.alloc (.cells #[.int .i64 0, .bool false, .int .u64 0, .slice none 0 0] 51)).alloc (.map (esN 11) 11)).alloc (.cells #[.string t, .int .i64 0, .map (some (w.heap.size + 1)), .int .i64 0, .slice none 0 0] 72))).heap[w.heap.size]? = some (.cells #[.int .i64 0, .bool false, .int .u64 0, .slice none 0 0] 51) := by
  have e1 : (w.alloc (.cells #[.int .i64 0, .bool false, .int .u64 0, .slice none 0 0] 51)).heap.size = w.heap.size + 1 := by simp
  have e2 : (((w.alloc (.cells #[.int .i64 0, .bool false, .int .u64 0, .slice none 0 0] 51)).alloc (.map (esN 11) 11))).heap.size = w.heap.size + 1 + 1 := by simp
  have h0 := heap_alloc_new w (.cells #[.int .i64 0, .bool false, .int .u64 0, .slice none 0 0] 51)
  have h1 := heap_alloc_new (w.alloc (.cells #[.int .i64 0, .bool false, .int .u64 0, .slice none 0 0] 51)) (.map (esN 11) 11)
  have h2 := heap_alloc_new ((w.alloc (.cells #[.int .i64 0, .bool false, .int .u64 0, .slice none 0 0] 51)).alloc (.map (esN 11) 11)) (.cells #[.string t, .int .i64 0, .map (some (w.heap.size + 1)), .int .i64 0, .slice none 0 0] 72)
  rw [e1] at h1
  rw [e2] at h2
  exact ⟨h2, keep_alloc h1 _, keep_alloc (keep_alloc h0 _) _⟩
theorem look_term (t : ByteArray) (hl : t.size ≤ 65536) (w : World) : Calls Try.prog 29 #[.pointer (some ⟨w.heap.size + 1 + 1, 0, none⟩)] (((w.alloc (.cells #[.int .i64 0, .bool false, .int .u64 0, .slice none 0 0] 51)).alloc (.map (esN 11) 11)).alloc (.cells #[.string t, .int .i64 0, .map (some (w.heap.size + 1)), .int .i64 0, .slice none 0 0] 72))
    (TPost (((w.alloc (.cells #[.int .i64 0, .bool false, .int .u64 0, .slice none 0 0] 51)).alloc (.map (esN 11) 11)).alloc (.cells #[.string t, .int .i64 0, .map (some (w.heap.size + 1)), .int .i64 0, .slice none 0 0] 72)) (w.heap.size + 1 + 1) t (w.heap.size + 1) 0 nilV (qTermS (qLoop t.size) t.data.toList)) := by
  obtain ⟨h1, h2, h3⟩ := look_facts t w
  have := term_all t.size (w.heap.size + 1 + 1) (w.heap.size + 1) 0 0 t nilV (((w.alloc (.cells #[.int .i64 0, .bool false, .int .u64 0, .slice none 0 0] 51)).alloc (.map (esN 11) 11)).alloc (.cells #[.string t, .int .i64 0, .map (some (w.heap.size + 1)), .int .i64 0, .slice none 0 0] 72)) hl (Nat.le_refl _) (Nat.zero_le _) (by omega) h1 h2 (by omega) (fun _ => rfl)
  rw [List.drop_zero] at this
  exact this

/-- behind a thrown fault: the zero value is told -/
theorem look_fault {w w4 : World} {t : ByteArray} {R : Ending → World → Prop} (hG : ((((w.alloc (.cells #[.int .i64 0, .bool false, .int .u64 0, .slice none 0 0] 51)).alloc (.map (esN 11) 11)).alloc (.cells #[.string t, .int .i64 0, .map (some (w.heap.size + 1)), .int .i64 0, .slice none 0 0] 72))).grownBy w4 (some (w.heap.size + 1 + 1))) (n : Nat)
    (hR : ∀ w', Below w.heap.size w w' → R (.returned (.agg #[.int .i64 0, .bool false, .int .u64 0, .slice none 0 0])) w') (a : Act) (ha : a.tmps.getD 2 undef = .pointer (some ⟨w.heap.size, 0, none⟩))
    (hd : a.defers = [{ target := Target.fn (Fn.func 27) #[.pointer (some ⟨w.heap.size, 0, none⟩)], args := #[] }]) :
    bodyPostD Try.prog Try.f18 R (Exit.panic faultC) a (w4.drewN n) := by
  obtain ⟨T, D⟩ := a
  cases hd
  have hF : (w4.drewN n).heap[w.heap.size]? = some (.cells #[.int .i64 0, .bool false, .int .u64 0, .slice none 0 0] 51) := by
    have h1 := keep_far (look_facts t w).2.2 hG (by simp; omega)
    exact h1
  refine leaves_cons (f := 27) (args := #[.pointer (some ⟨w.heap.size, 0, none⟩)]) (by simp) (by simp [go_sem]) ?_
  refine (catch_panicking w.heap.size _ _ _ _ (w4.drewN n) hF).mono ?_
  rintro e u' w'' ⟨rfl, rfl, rfl⟩
  have hS := heap_set (i := 3) (v := .slice none 0 0) (heap_set (i := 2) (v := .int .u64 0) (heap_set (i := 1) (v := .bool false) (heap_set (i := 0) (v := .int .i64 0) hF)))
  have c0 := cell_of hS 0 rfl; have c1 := cell_of hS 1 rfl; have c2 := cell_of hS 2 rfl; have c3 := cell_of hS 3 rfl
  refine ⟨.agg #[.int .i64 0, .bool false, .int .u64 0, .slice none 0 0], ?_, hR _ ?_⟩
  · have h2 : T[2]?.getD undef = .pointer (some ⟨w.heap.size, 0, none⟩) := by simpa using ha
    simp [results, Try.results18, go_sem, h2, c0, c1, c2, c3]
  · have hB : Below w.heap.size w (w4.drewN n) :=
      (below_grown ((((Below.refl _ _).alloc (Nat.le_refl _) _).alloc (by simp) _).alloc (by simp; omega) _) hG (by omega)).grown (grown_drewN w4 n none) (by have := hG.size; simp at this; omega) (fun k hk => by cases hk)
    exact (((hB.setCell (Nat.le_refl _) _).setCell (Nat.le_refl _) _).setCell (Nat.le_refl _) _).setCell (Nat.le_refl _) _

theorem look_none_q (t : ByteArray) (hl : t.size ≤ 65536) (hq : qTermS (qLoop t.size) t.data.toList = none) (w : World) : Calls Try.prog 18 #[.string t] w (LookRet w (lookR t.data.toList)) := by
  have HO : Hid (lookR t.data.toList = (0, 0, [])) := Lib.hid (by unfold lookR qLook; rw [if_pos (by simpa using hl)]; rw [show t.data.toList.length = t.size by simp, hq]; rfl)
  have hT := look_term t hl w
  rw [hq] at hT
  have HT := Lib.hid hT
  clear hq hT
  have hmf : ∀ (fn : Fn) (first cap : Array Value) (w : World), (Instr.makeFunc fn first cap).run Try.prog w = .ok (.func fn first cap) w := fun _ _ _ _ => rfl
  go_enter_defers Try.func18, Try.ntmps18
  go_wp2_with (first | (go_at_call 28; ((with_reducible refine (shapes_any _).mono ?_); rintro e w' ⟨rfl, rfl⟩)) | (go_at_call 29; ((with_reducible refine HT.out.mono ?_); rintro e w4 ⟨rfl, hG⟩)) | fail)
  rw [HO.out]
  exact look_fault hG 0 (fun w' hB => ⟨_, rfl, strs_nil _, hB⟩) _ rfl rfl

theorem look_plain (w : World) (m k : Nat) (sh : Shape) (hm : w.heap[m]? = some (.map (esN 11) 11)) (hk : k ≤ 11) (h : shapeOf k = some sh) :
    (Instr.lookup 69 (.map (some m)) (.int .i64 k) false).run Try.prog w = .ok (.agg #[.bool sh.numbered, .int .u64 sh.low, .int .u64 sh.high, .bool sh.hex, .int .i64 sh.least, .int .i64 sh.most, .bool sh.ordered]) w := by
  have h1 : 1 ≤ k := by have := shape_cases h; omega
  have hf : Instr.findNow (.int .i64) (.int .i64 k) (esN 11).toList 0 = some (some (k - 1, shapeV (shapeAt k))) := by
    rcases (show k = 1 ∨ k = 2 ∨ k = 3 ∨ k = 4 ∨ k = 5 ∨ k = 6 ∨ k = 7 ∨ k = 8 ∨ k = 9 ∨ k = 10 ∨ k = 11 by omega) with rfl | rfl | rfl | rfl | rfl | rfl | rfl | rfl | rfl | rfl | rfl <;> rfl
  have hc := int_check w ((esN 11).isEmpty) k
  have hg := find_now w k _ _ hf
  have e : shapeAt k = sh := by unfold shapeAt; rw [h]; rfl
  simp only [Instr.lookup, Sem.run_bind, Sem.run_pure, run_underlying Try.underlying69, MapKept.run_getObj_map hm, hc, hg, Result.andThen, if_true]
  rw [e]; rfl

theorem field_numb (w : World) (sh : Shape) : (Instr.field 77 (.agg #[.bool sh.numbered, .int .u64 sh.low, .int .u64 sh.high, .bool sh.hex, .int .i64 sh.least, .int .i64 sh.most, .bool sh.ordered]) 0).run Try.prog w = .ok (.bool sh.numbered) w := by kernel_rfl

theorem own_any {w : World} {R : Nat} {e : TypeId} {size : Nat} {v : Value} {n : Nat} {xs : List Value} (h : w.ownsRow R e size v n xs) : ∃ a cap, v = .slice a n cap := by
  rcases h.2 with ⟨h1, h2⟩ | ⟨g, cap, cur, h1, _⟩
  · exact ⟨none, 0, by rw [h1, h2]⟩
  · exact ⟨_, cap, h1⟩

theorem look_rest_q (t : ByteArray) (hl : t.size ≤ 65536) (k n : Nat) (ps : List (List UInt8)) (rest : List UInt8) (hq : qTermS (qLoop t.size) t.data.toList = some (k, n, ps, rest)) (hr : rest ≠ []) (w : World) :
    Calls Try.prog 18 #[.string t] w (LookRet w (lookR t.data.toList)) := by
  have HO : Hid (lookR t.data.toList = (0, 0, [])) := Lib.hid (by unfold lookR qLook; rw [if_pos (by simpa using hl)]; rw [show t.data.toList.length = t.size by simp, hq]; simp [hr])
  have hT := look_term t hl w
  rw [hq] at hT
  have HT := Lib.hid hT
  have hlen := (qTerm_suf hq).1.length_le
  have hrl : 0 < rest.length := List.length_pos_iff.2 hr
  have hpos : ((posOf t rest : Int) == t.size) = false := beqf (by simp at hlen; unfold posOf; omega)
  clear hq hT hr hlen hrl
  have hmf : ∀ (fn : Fn) (first cap : Array Value) (w : World), (Instr.makeFunc fn first cap).run Try.prog w = .ok (.func fn first cap) w := fun _ _ _ _ => rfl
  go_enter_defers Try.func18, Try.ntmps18
  go_wp2_with (first | (go_at_call 28; ((with_reducible refine (shapes_any _).mono ?_); rintro e w' ⟨rfl, rfl⟩)) | (go_at_call 29; ((with_reducible refine HT.out.mono ?_); rintro e w4 ⟨rfl, pv, hR, hG, hP⟩; obtain ⟨ad, cp, hpv⟩ : ∃ ad cp, pv = .slice ad ps.length cp := own_any hP; subst hpv; have k1 := hR.c1; have k2 := hR.c2; have k4 := hR.c4; have hF := keep_far (look_facts t w).2.2 hG (by simp; omega); have hM := keep_far (look_facts t w).2.1 hG (by simp); have u0 := cell_of hF 0 rfl; have u1 := cell_of hF 1 rfl; have u2 := cell_of hF 2 rfl; have u3 := cell_of hF 3 rfl; have v0 := free_of hF 0; have v1 := free_of hF 1; have v2 := free_of hF 2; have v3 := free_of hF 3; have HG := Lib.hid hG; have HP := Lib.hid hP; have HF := Lib.hid hF; have HM := Lib.hid hM; clear hR hG hP hF hM)) | (go_at_call 30; ((with_reducible refine (need_bad _).mono ?_); rintro e w' ⟨rfl, rfl⟩)) | fail)
  rw [HO.out]
  exact look_fault HG.out 0 (fun w' hB => ⟨_, rfl, strs_nil _, hB⟩) _ rfl rfl

theorem look_results (W : World) (b k n : Nat) (x : Bool) (ad : Option Addr) (l cp : Nat) (h : W.heap[b]? = some (.cells #[.int .i64 k, .bool x, .int .u64 n, .slice ad l cp] 51 (0, 0))) (T : Array Value) (hT : T.getD 2 undef = .pointer (some ⟨b, 0, none⟩)) :
    (results Try.f18 T).run Try.prog W = .ok (.agg #[.int .i64 k, .bool x, .int .u64 n, .slice ad l cp]) W := by
  have c0 := cell_of h 0 rfl; have c1 := cell_of h 1 rfl; have c2 := cell_of h 2 rfl; have c3 := cell_of h 3 rfl
  have h2 : T[2]?.getD undef = .pointer (some ⟨b, 0, none⟩) := by simpa using hT
  simp [results, Try.results18, go_sem, h2, c0, c1, c2, c3]

theorem look_door {w w4 W : World} {t : ByteArray} {k n : Nat} {ps : List (List UInt8)} {x : Bool} {ad : Option Addr} {cp : Nat} (hG : ((((w.alloc (.cells #[.int .i64 0, .bool false, .int .u64 0, .slice none 0 0] 51)).alloc (.map (esN 11) 11)).alloc (.cells #[.string t, .int .i64 0, .map (some (w.heap.size + 1)), .int .i64 0, .slice none 0 0] 72))).grownBy w4 (some (w.heap.size + 1 + 1)))
    (hP : w4.ownsRow ((((w.alloc (.cells #[.int .i64 0, .bool false, .int .u64 0, .slice none 0 0] 51)).alloc (.map (esN 11) 11)).alloc (.cells #[.string t, .int .i64 0, .map (some (w.heap.size + 1)), .int .i64 0, .slice none 0 0] 72))).heap.size 9 1 (.slice ad ps.length cp) ps.length (ps.map strV)) (hx : x = numb k) (hW : w4.grownBy W (some w.heap.size))
    (hS : W.heap[w.heap.size]? = some (.cells #[.int .i64 k, .bool x, .int .u64 n, .slice ad ps.length cp] 51 (0, 0))) (a : Act) (ha : a.tmps.getD 2 undef = .pointer (some ⟨w.heap.size, 0, none⟩))
    (hd : a.defers = [{ target := Target.fn (Fn.func 27) #[.pointer (some ⟨w.heap.size, 0, none⟩)], args := #[] }]) :
    bodyPostD Try.prog Try.f18 (LookRet w (k, n, ps)) Exit.ret a W := by
  obtain ⟨T, D⟩ := a
  cases hd
  refine leaves_cons (f := 27) (args := #[.pointer (some ⟨w.heap.size, 0, none⟩)]) (by simp) (by simp [go_sem]) ?_
  refine (catch_idle ⟨w.heap.size, 0, none⟩ W).mono ?_
  rintro e u' w'' ⟨rfl, rfl, hw⟩
  subst hw
  refine ⟨_, look_results _ _ k n x ad ps.length cp hS T ha, .slice ad ps.length cp, by rw [hx], ?_, ?_⟩
  · have hsz : ((((w.alloc (.cells #[.int .i64 0, .bool false, .int .u64 0, .slice none 0 0] 51)).alloc (.map (esN 11) 11)).alloc (.cells #[.string t, .int .i64 0, .map (some (w.heap.size + 1)), .int .i64 0, .slice none 0 0] 72))).heap.size = w.heap.size + 1 + 1 + 1 := by simp
    exact strs_own (World.ownsRow.kept hP hW (.inr (own_ne hP (by omega))))
  · have hB : Below w.heap.size w w4 := below_grown ((((Below.refl _ _).alloc (Nat.le_refl _) _).alloc (by simp) _).alloc (by simp; omega) _) hG (by omega)
    exact hB.grown hW (by have := hG.size; simp at this; omega) (fun k hk => by cases hk; exact Nat.le_refl _)

theorem look_ok_q (t : ByteArray) (hl : t.size ≤ 65536) (k n : Nat) (ps : List (List UInt8)) (hq : qTermS (qLoop t.size) t.data.toList = some (k, n, ps, [])) (sh : Shape) (hs : shapeOf k = some sh) (w : World) :
    Calls Try.prog 18 #[.string t] w (LookRet w (lookR t.data.toList)) := by
  have HO : Hid (lookR t.data.toList = (k, n, ps)) := Lib.hid (by unfold lookR qLook; rw [if_pos (by simpa using hl)]; rw [show t.data.toList.length = t.size by simp, hq]; rfl)
  have hT := look_term t hl w
  rw [hq] at hT
  have HT := Lib.hid hT
  have hpos : posOf t [] = t.size := by simp [posOf]
  have hpos1 : ((posOf t [] : Int) == t.size) = true := by rw [hpos]; simp
  have HS := Lib.hid hs
  have hk11 : k ≤ 11 := by have := shape_cases hs; omega
  clear hq hT hs hpos
  have hmf : ∀ (fn : Fn) (first cap : Array Value) (w : World), (Instr.makeFunc fn first cap).run Try.prog w = .ok (.func fn first cap) w := fun _ _ _ _ => rfl
  go_enter_defers Try.func18, Try.ntmps18
  go_wp2_with (first | (go_at_call 28; ((with_reducible refine (shapes_any _).mono ?_); rintro e w' ⟨rfl, rfl⟩)) | (go_at_call 29; ((with_reducible refine HT.out.mono ?_); rintro e w4 ⟨rfl, pv, hR, hG, hP⟩; obtain ⟨ad, cp, hpv⟩ : ∃ ad cp, pv = .slice ad ps.length cp := own_any hP; subst hpv; have k1 := hR.c1; have k2 := hR.c2; have k4 := hR.c4; have hF := keep_far (look_facts t w).2.2 hG (by simp; omega); have hM := keep_far (look_facts t w).2.1 hG (by simp); have u0 := cell_of hF 0 rfl; have u1 := cell_of hF 1 rfl; have u2 := cell_of hF 2 rfl; have u3 := cell_of hF 3 rfl; have v0 := free_of hF 0; have v1 := free_of hF 1; have v2 := free_of hF 2; have v3 := free_of hF 3; have HG := Lib.hid hG; have HP := Lib.hid hP; have HF := Lib.hid hF; have HM := Lib.hid hM; clear hR hG hP hF hM)) | (go_at_call 30; ((with_reducible refine (need_ok _).mono ?_); rintro e w' ⟨rfl, rfl⟩)) | fail)
  have hlk := look_plain w4.drew _ k sh HM.out hk11 HS.out
  have hfl := field_numb w4.drew sh
  have hHF : (w4.drew).heap[w.heap.size]? = some (.cells #[.int .i64 0, .bool false, .int .u64 0, .slice none 0 0] 51) := HF.out
  have HF1 := Lib.hid hHF
  clear hHF
  go_still_tail 14, (by kernel_rfl)
  go_wp2_with fail
  rw [HO.out]
  exact look_door HG.out HP.out (numb_shape HS.out) (grown_trans (grown_drewN w4 1 _) (grown_trans (grown_set _ _ _ _) (grown_trans (grown_set _ _ _ _) (grown_trans (grown_set _ _ _ _) (grown_set _ _ _ _)))))
    (heap_set (i := 3) (v := .slice ad ps.length cp) (heap_set (i := 2) (v := .int .u64 n) (heap_set (i := 1) (v := .bool sh.numbered) (heap_set (i := 0) (v := .int .i64 k) HF1.out)))) _ rfl rfl

theorem qTerm_shape {f : Nat} {l : List UInt8} {x : Nat × Nat × List (List UInt8) × List UInt8} (h : qTermS (qLoop f) l = some x) : ∃ sh, shapeOf x.1 = some sh := by
  cases l with
  | nil => cases h
  | cons c r =>
    simp only [qTermS] at h
    obtain ⟨sh, hs, h⟩ := Option.bind_eq_some_iff.1 h
    split at h
    · obtain ⟨y, hy, e⟩ := Option.bind_eq_some_iff.1 h
      cases e; exact ⟨sh, hs⟩
    · obtain ⟨y, hy, e⟩ := Option.bind_eq_some_iff.1 h
      cases e; exact ⟨sh, hs⟩

theorem look_any (t : ByteArray) (ht : t.size ≤ maxLen) (w : World) : Calls Try.prog 18 #[.string t] w (LookRet w (lookR t.data.toList)) := by
  by_cases hl : 65536 < t.size
  · exact look_long t ht hl w
  · have hl' : t.size ≤ 65536 := by omega
    cases hq : qTermS (qLoop t.size) t.data.toList with
    | none => exact look_none_q t hl' hq w
    | some x =>
      obtain ⟨k, n, ps, rest⟩ := x
      by_cases hr : rest = []
      · subst hr
        obtain ⟨sh, hs⟩ := qTerm_shape hq
        exact look_ok_q t hl' k n ps hq sh hs w
      · exact look_rest_q t hl' k n ps rest hq hr w
end Go.Proofs.Yteiadbiopcidmaa
