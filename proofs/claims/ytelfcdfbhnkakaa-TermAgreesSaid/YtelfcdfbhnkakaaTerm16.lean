import Derived.Test.YtelfcdfbhnkakaaTerm15
namespace Go.Proofs.Ytelfcdfbhnkakaa
set_option linter.unusedVariables false
set_option linter.unusedSimpArgs false
set_option maxRecDepth 100000
open Go.RowKit

theorem strB_inj {a b : List UInt8} (h : strB a = strB b) : a = b := by
  have := congrArg (fun x : ByteArray => x.data.toList) h
  exact this
theorem map_strB_inj {a b : List (List UInt8)} (h : a.map strB = b.map strB) : a = b := by
  have e : ∀ l : List (List UInt8), (l.map strB).map (fun x : ByteArray => x.data.toList) = l := fun l => by
    rw [List.map_map]
    have : (fun x : ByteArray => x.data.toList) ∘ strB = id := by funext x; rfl
    rw [this, List.map_id]
  rw [← e a, ← e b, h]

def EqRet (w : World) (r : Bool) (e : Ending) (w' : World) : Prop := e = .returned (.bool r) ∧ ∃ q, w' = w.drewN q
theorem equal_any (va vb : Value) (la lb : List (List UInt8)) (w : World) (ha : Strs w va la) (hb : Strs w vb lb) (h1 : la.length ≤ maxLen) (h2 : lb.length ≤ maxLen) :
    Calls Try.prog 32 #[va, vb] w (EqRet w (la == lb)) := by
  unfold maxLen at h1 h2
  obtain ⟨a, ca, rfl, _, ha⟩ := ha
  obtain ⟨b, cb, rfl, _, hb⟩ := hb
  by_cases hlen : la.length = lb.length
  · rcases ha with rfl | ⟨b1, o1, rfl, hc1⟩
    · have : lb = [] := List.length_eq_zero_iff.1 hlen.symm
      subst this
      refine (Try.slices_Equal_string_empty a b ca 0 cb w (by omega)).mono ?_
      rintro e w' ⟨rfl, rfl⟩
      exact ⟨rfl, 0, rfl⟩
    · rcases hb with rfl | ⟨b2, o2, rfl, hc2⟩
      · have : la = [] := List.length_eq_zero_iff.1 hlen
        subst this
        refine (Try.slices_Equal_string_empty (some ⟨b1, o1, none⟩) b ca 0 cb w (by omega)).mono ?_
        rintro e w' ⟨rfl, rfl⟩
        exact ⟨rfl, 0, rfl⟩
      · have hg : ∀ (l : List (List UInt8)) (j : Nat), j < l.length → (l.map strB).getD j ByteArray.empty = strB (l.getD j []) := by
          intro l j hj
          simp [List.getD, List.getElem?_map, List.getElem?_eq_getElem hj]
        refine (Try.slices_Equal_string b1 o1 la.length ca b2 o2 lb.length cb (la.map strB) (lb.map strB) w (by simp) (by simp) (by omega) (by omega)
          (fun j hj => by rw [List.length_map] at hj; rw [hg la j hj]; exact hc1 j hj) (fun j hj => by rw [List.length_map] at hj; rw [hg lb j hj]; exact hc2 j hj)).mono ?_
        rintro e w' ⟨rfl, q, rfl⟩
        refine ⟨ret_bool ?_, q, rfl⟩
        rw [List.take_of_length_le (by simp), List.take_of_length_le (by simp)]
        by_cases he : la = lb
        · subst he; simp
        · have : ¬ la.map strB = lb.map strB := fun h => he (map_strB_inj h)
          simp [he, this]
  · refine (Try.slices_Equal_string_lens a b la.length ca lb.length cb w hlen).mono ?_
    rintro e w' ⟨rfl, rfl⟩
    refine ⟨ret_bool ?_, 0, rfl⟩
    have : ¬ la = lb := fun h => hlen (by rw [h])
    simp [this]

theorem write_any (k n : Nat) (sh : Shape) (hs : shapeOf k = some sh) (V vb vl : Value) (hV : V = shapeV sh) (b : List UInt8) (l : List (List UInt8)) (w : World) (hb : Bytes w vb b) (hl : Strs w vl l) (ht : total l ≤ 65536) (hn18 : n ≤ top) (h4 : k = 4 → b.length ≤ 32768) :
    Calls Try.prog 31 #[.int .i64 k, V, .int .u64 n, vb, vl] w fun e w' => e = .returned (.string (strB (wText k n b l))) ∧ Below w.heap.size w w' := by
  subst hV
  cases hn : numb k with
  | true => exact write_numb k n sh hs vb vl b l w hb hl ht hn hn18
  | false =>
    by_cases h : k = 4
    · exact write_hex k n sh hs vb vl b l w hb hl ht h (h4 h)
    · exact write_neither k n sh hs vb vl b l w hb hl ht hn h

def sortL (k : Nat) (l : List (List UInt8)) : List (List UInt8) := if k = 6 ∧ l.length = 2 ∧ leL (l.getD 0 []) (l.getD 1 []) = false then [l.getD 1 [], l.getD 0 []] else l
def makeK (k n : Nat) (b : List UInt8) (l : List (List UInt8)) : List UInt8 :=
  if (k = 4 ∧ 32768 < b.length) ∨ ¬ total l ≤ 65536 then [] else
  if (lookR (wText k n b (sortL k l))).1 = k ∧ (lookR (wText k n b (sortL k l))).2.2 = sortL k l then wText k n b (sortL k l) else []
def makeR (kind : Int) (n : Nat) (b : List UInt8) (l : List (List UInt8)) : List UInt8 := if 1 ≤ kind ∧ kind ≤ 11 then makeK kind.toNat n b l else []

theorem look_out (w : World) (m : Nat) (k : Int) (hk : k < 1 ∨ 11 < k) (hm : w.heap[m]? = some (.map (esN 11) 11)) :
    (Instr.lookup 60 (.map (some m)) (.int .i64 k) true).run Try.prog w = .ok (.tuple #[.agg #[.bool false, .int .u64 0, .int .u64 0, .bool false, .int .i64 0, .int .i64 0, .bool false], .bool false]) w := by
  have hf : Instr.findNow (.int .i64) (.int .i64 k) (esN 11).toList 0 = some none := by
    have hne : ∀ j : Int, 1 ≤ j → j ≤ 11 → (k == j) = false := fun j h1 h2 => beqf (by omega)
    have e : (esN 11).toList = [entry 1, entry 2, entry 3, entry 4, entry 5, entry 6, entry 7, entry 8, entry 9, entry 10, entry 11] := rfl
    rw [e]
    simp [Instr.findNow, entry, Instr.sameNow, hne 1, hne 2, hne 3, hne 4, hne 5, hne 6, hne 7, hne 8, hne 9, hne 10, hne 11]
  have hc := int_check w ((esN 11).isEmpty) k
  have hg := find_now w k _ _ hf
  have hz := zero_shape w
  simp only [Instr.lookup, Sem.run_bind, Sem.run_pure, run_underlying Try.underlying60, MapKept.run_getObj_map hm, hc, hg, hz, Result.andThen, if_true]
  rfl

theorem make_out (kind : Int) (hk : kind < 1 ∨ 11 < kind) (n : Nat) (vb vl : Value) (w : World) :
    Calls Try.prog 15 #[.int .i64 kind, .int .u64 n, vb, vl] w fun e w' => e = .returned (.string ⟨#[]⟩) ∧ Below w.heap.size w w' := by
  have hz := zero_lit
  have hlk := look_out (w.alloc (.map (esN 11) 11)) w.heap.size kind hk (MapKept.heap_alloc w _).1
  clear hk
  go_enter Try.func15, Try.ntmps15
  go_wp2_with (first | (go_at_call 29; ((with_reducible refine (shapes_any _).mono ?_); rintro e w' ⟨rfl, rfl⟩)) | fail)
  go_ret
  exact ⟨rfl, ((Below.refl _ _).alloc (Nat.le_refl _) _).alloc (by simp) _⟩

theorem str_gt {a b : List UInt8} : (!Op.bytesLess (strB a).toList (strB b).toList && !((strB a).toList == (strB b).toList)) = !leL a b := by
  have e : ∀ l : List UInt8, (strB l).toList = l := fun l => by rw [toList_eq]; rfl
  rw [e, e]; simp [leL]
theorem make_w1 (w : World) (sh : Shape) : Below w.heap.size w ((w.alloc (.map (esN 11) 11)).alloc (.cells #[.bool sh.numbered, .int .u64 sh.low, .int .u64 sh.high, .bool sh.hex, .int .i64 sh.least, .int .i64 sh.most, .bool sh.ordered] 58)) := ((Below.refl _ _).alloc (Nat.le_refl _) _).alloc (by simp) _
theorem make_bad (k : Nat) (sh : Shape) (hs : shapeOf k = some sh) (n : Nat) (vb vl : Value) (b : List UInt8) (l : List (List UInt8)) (w : World) (hb : Bytes w vb b) (hl : Strs w vl l) (hbl : b.length ≤ maxLen) (hll : l.length ≤ maxLen)
    (hbad : (k = 4 ∧ 32768 < b.length) ∨ ¬ total l ≤ 65536) :
    Calls Try.prog 15 #[.int .i64 k, .int .u64 n, vb, vl] w fun e w' => e = .returned (.string ⟨#[]⟩) ∧ Below w.heap.size w w' := by
  have hz := zero_lit
  obtain ⟨f1, f2, f3, f4, f5⟩ := shape_facts hs
  have hlk := look_sh (w.alloc (.map (esN 11) 11)) w.heap.size k sh (MapKept.heap_alloc w _).1 f5 hs
  have HL := Lib.hid hl
  have HW := Lib.hid (make_w1 w sh)
  obtain ⟨ab, cb, rfl, hb⟩ := hb
  unfold maxLen at hbl
  have hcase : (sh.hex = true ∧ 32768 < b.length) ∨ (sh.hex = true ∧ b.length ≤ 32768 ∧ smallF 65536 l = false) ∨ (sh.hex = false ∧ smallF 65536 l = false) := by
    have hsm : ¬ total l ≤ 65536 → smallF 65536 l = false := fun h => by
      cases hs : smallF 65536 l
      · rfl
      · exact absurd ((small_total l 65536).1 hs) h
    cases hx : sh.hex with
    | true =>
      by_cases h : 32768 < b.length
      · exact .inl ⟨rfl, h⟩
      · refine .inr (.inl ⟨rfl, by omega, hsm ?_⟩)
        rcases hbad with h1 | h1
        · exact absurd h1.2 h
        · exact h1
    | false =>
      refine .inr (.inr ⟨rfl, hsm ?_⟩)
      rcases hbad with h1 | h1
      · have := f2.2 h1.1; rw [hx] at this; cases this
      · exact h1
  clear f1 f2 f3 f4 f5 hs hl hb hbad
  rcases hcase with ⟨hx, h1⟩ | ⟨hx, h1, hsm⟩ | ⟨hx, hsm⟩
  all_goals
    rw [hx] at HW
    go_enter Try.func15, Try.ntmps15
    go_wp2_with (first | (go_at_call 29; ((with_reducible refine (shapes_any _).mono ?_); rintro e w' ⟨rfl, rfl⟩)) | (go_at_call 30; ((with_reducible refine (small_any _ l _ (HL.out.below HW.out) hll).mono ?_); rintro e w' ⟨rfl, rfl⟩)) | fail)
    go_ret
    exact ⟨rfl, HW.out⟩
end Go.Proofs.Ytelfcdfbhnkakaa
