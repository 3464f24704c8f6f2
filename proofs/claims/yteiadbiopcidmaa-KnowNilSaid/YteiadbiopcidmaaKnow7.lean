/- know: maps whose keys are names. -/
import Derived.Test.YteiadbiopcidmaaKnow6
import Derived.MapKept
import Derived.Laws.StructEq
namespace Go.Proofs.Yteiadbiopcidmaa
set_option linter.unusedVariables false
set_option linter.unusedSimpArgs false
set_option maxRecDepth 100000
open Go.RowKit

abbrev Name := Bool × List UInt8
theorem name_check (w : World) (e : Bool) (x : Name) : (Instr.checkKey e 10000 46 (nameV x)).run Try.prog w = .ok () w := by kernel_rfl
theorem strB_inj {a b : List UInt8} (h : strB a = strB b) : a = b := by
  have := congrArg (fun s : ByteArray => s.data.toList) h
  simpa [strB] using this
theorem strB_list (a : List UInt8) : (strB a).toList = a := by rw [toList_eq]; rfl
theorem name_equal (w : World) (x y : Name) : (Op.equal 46 (nameV x) (nameV y)).run Try.prog w = .ok (x == y) w := by
  obtain ⟨a, s⟩ := x
  obtain ⟨b, t⟩ := y
  have u3 := Try.underlying4
  have u4 := Try.underlying9
  have hS : Try.prog.underlying 46 = some (.struct (Try.prog.fieldsOf 46)) := by kernel_rfl
  have hp : Try.prog.stoodInHeld 46 = false := by kernel_rfl
  unfold Op.equal nameV
  rw [show Op.maxDepth = 9999 + 1 from rfl, run_equalIn_agg w 9999 46 _ _ hS hp]
  simp only [Program.fieldsOf, Try.underlying46]
  go_simp
  rw [strB_list, strB_list]
  cases a <;> cases b <;> by_cases h : s = t <;> simp [h]
/-- what a map holds, in the order in which it came -/
def entsOf {α : Type} (f : α → Value) : List (Name × α) → Nat → List MapEntry
  | [], _ => []
  | (k, v) :: r, i => { key := nameV k, val := f v, born := i } :: entsOf f r (i + 1)
def lookL {α : Type} (L : List (Name × α)) (x : Name) : Option α := (L.find? (fun p => p.1 == x)).map (·.2)
def MapIs {α : Type} (f : α → Value) (w : World) (m : Nat) (L : List (Name × α)) : Prop := w.heap[m]? = some (.map (entsOf f L 0).toArray L.length)
theorem ents_snoc {α : Type} (f : α → Value) (x : Name) (v : α) : ∀ (L : List (Name × α)) (i : Nat), entsOf f (L ++ [(x, v)]) i = entsOf f L i ++ [{ key := nameV x, val := f v, born := i + L.length }]
  | [], i => rfl
  | p :: r, i => by
    simp only [List.cons_append, entsOf, ents_snoc f x v r (i + 1), List.length_cons]
    rw [show i + 1 + r.length = i + (r.length + 1) by omega]
theorem look_snoc {α : Type} (x y : Name) (v : α) (L : List (Name × α)) (h : x ≠ y) : lookL (L ++ [(x, v)]) y = lookL L y := by
  unfold lookL
  rw [List.find?_append]
  cases L.find? (fun p => p.1 == y) with
  | some _ => rfl
  | none => simp [h]
theorem look_last {α : Type} (x : Name) (v : α) (L : List (Name × α)) (h : lookL L x = none) : lookL (L ++ [(x, v)]) x = some v := by
  unfold lookL at h ⊢
  rw [List.find?_append]
  cases hf : L.find? (fun p => p.1 == x) with
  | some _ => rw [hf] at h; cases h
  | none => simp
theorem find_ask {α : Type} (f : α → Value) (w : World) (x : Name) : ∀ (L : List (Name × α)) (i j : Nat), ∃ n, (Instr.findAsking 46 (nameV x) (entsOf f L i) j).run Try.prog w = .ok ((lookL L x).map fun v => (n, f v)) w
  | [], i, j => ⟨0, rfl⟩
  | (y, v) :: r, i, j => by
    cases hxy : (x == y) with
    | true =>
      refine ⟨j, ?_⟩
      have e : x = y := by simpa using hxy
      subst e
      simp only [entsOf, Instr.findAsking, Sem.run_bind, name_equal, beq_self_eq_true, Result.andThen_ok, if_true, Sem.run_pure, lookL, List.find?_cons]
      rfl
    | false =>
      obtain ⟨n, hn⟩ := find_ask f w x r (i + 1) (j + 1)
      refine ⟨n, ?_⟩
      have hyx : (y == x) = false := by
        have : x ≠ y := by simpa using hxy
        simpa using this.symm
      have hl : lookL ((y, v) :: r) x = lookL r x := by unfold lookL; rw [List.find?_cons, hyx]
      simp only [entsOf, Instr.findAsking, Sem.run_bind, name_equal, hxy, Result.andThen_ok, Bool.false_eq_true, if_false, hn, hl]
theorem find_key {α : Type} (f : α → Value) (w : World) (x : Name) (L : List (Name × α)) : ∃ n, (Instr.findKey 46 (nameV x) (entsOf f L 0)).run Try.prog w = .ok ((lookL L x).map fun v => (n, f v)) w := by
  obtain ⟨n, hn⟩ := find_ask f w x L 0 0
  refine ⟨n, ?_⟩
  unfold Instr.findKey
  simp only [Sem.run_bind, run_underlying Try.underlying46, Result.andThen_ok]
  cases L with
  | nil => rfl
  | cons p r => exact hn
theorem look_in {α : Type} (f : α → Value) (w : World) (m : Nat) (T E : TypeId) (hT : Try.prog.underlying T = some (.map 46 E)) (L : List (Name × α)) (x : Name) (v : α) (c : Bool) (hm : MapIs f w m L) (hl : lookL L x = some v) :
    (Instr.lookup T (.map (some m)) (nameV x) c).run Try.prog w = .ok (if c then .tuple #[f v, .bool true] else f v) w := by
  obtain ⟨n, hn⟩ := find_key f w x L
  have hc := name_check w (entsOf f L 0).toArray.isEmpty x
  rw [hl] at hn
  simp only [Instr.lookup, Sem.run_bind, Sem.run_pure, run_underlying hT, MapKept.run_getObj_map hm, hc, hn, Result.andThen_ok, Option.map_some]
theorem look_out {α : Type} (f : α → Value) (w : World) (m : Nat) (T E : TypeId) (hT : Try.prog.underlying T = some (.map 46 E)) (L : List (Name × α)) (x : Name) (z : Value) (c : Bool) (hz : (zeroValue E).run Try.prog w = .ok z w) (hm : MapIs f w m L) (hl : lookL L x = none) :
    (Instr.lookup T (.map (some m)) (nameV x) c).run Try.prog w = .ok (if c then .tuple #[z, .bool false] else z) w := by
  obtain ⟨n, hn⟩ := find_key f w x L
  have hc := name_check w (entsOf f L 0).toArray.isEmpty x
  rw [hl] at hn
  simp only [Instr.lookup, Sem.run_bind, Sem.run_pure, run_underlying hT, MapKept.run_getObj_map hm, hc, hn, hz, Result.andThen_ok, Option.map_none]
theorem look_nil (w : World) (T E : TypeId) (hT : Try.prog.underlying T = some (.map 46 E)) (x : Name) (z : Value) (c : Bool) (hz : (zeroValue E).run Try.prog w = .ok z w) :
    (Instr.lookup T (.map none) (nameV x) c).run Try.prog w = .ok (if c then .tuple #[z, .bool false] else z) w := by
  have hc := name_check w true x
  have hn : (Instr.findKey 46 (nameV x) []).run Try.prog w = .ok none w := by
    obtain ⟨n, hn⟩ := find_key (α := Bool) (fun b => .bool b) w x []
    exact hn
  simp only [Instr.lookup, Sem.run_bind, Sem.run_pure, run_underlying hT, Array.isEmpty_empty, hc, hn, hz, Result.andThen_ok]
theorem put_new {α : Type} (f : α → Value) (w : World) (m : Nat) (T E : TypeId) (hT : Try.prog.underlying T = some (.map 46 E)) (L : List (Name × α)) (x : Name) (v : α) (hm : MapIs f w m L) (hl : lookL L x = none) :
    ∃ w', (Instr.mapUpdate T (.map (some m)) (nameV x) (f v)).run Try.prog w = .ok () w' ∧ MapIs f w' m (L ++ [(x, v)]) ∧ w.grownBy w' (some m) := by
  obtain ⟨n, hn⟩ := find_key f w x L
  have hc := name_check w false x
  rw [hl] at hn
  have hs := MapKept.heap_set (o' := Obj.map ((entsOf f L 0).toArray.push { key := nameV x, val := f v, born := L.length }) (L.length + 1)) hm
  refine ⟨{ w with heap := w.heap.setIfInBounds m (.map ((entsOf f L 0).toArray.push { key := nameV x, val := f v, born := L.length }) (L.length + 1)) }, ?_, ?_, ?_⟩
  · simp only [Instr.mapUpdate, Sem.run_bind, run_underlying hT, MapKept.run_getObj_map hm, hc, hn, MapKept.run_setObj_map _ hm, Result.andThen_ok, Option.map_none]
  · unfold MapIs
    rw [ents_snoc, Nat.zero_add, List.length_append]
    exact hs.1.trans (by simp)
  · exact ⟨rfl, rfl, rfl, by simp, fun k hk hne => hs.2 k (fun e => hne (by rw [e]))⟩
end Go.Proofs.Yteiadbiopcidmaa
