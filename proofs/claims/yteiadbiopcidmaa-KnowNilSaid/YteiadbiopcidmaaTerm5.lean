import Derived.Test.YteiadbiopcidmaaTerm4
import Derived.Carry
namespace Go.Proofs.Yteiadbiopcidmaa
set_option linter.unusedVariables false
set_option linter.unusedSimpArgs false
set_option maxRecDepth 100000
open Go.RowKit

def shapeAt (k : Nat) : Shape := (shapeOf k).getD ⟨false, 0, 0, false, 0, 0, false⟩
def entry (k : Nat) : MapEntry := { key := .int .i64 k, val := shapeV (shapeAt k), born := k - 1 }
/-- the map's entries when n shapes have been laid -/
def esN : Nat → Array MapEntry
  | 0 => #[]
  | n + 1 => (esN n).push (entry (n + 1))

theorem alloc_modify (w : World) (o o' : Obj) : ({ w.alloc o with heap := (w.alloc o).heap.setIfInBounds w.heap.size o' } : World) = w.alloc o' := by
  have e : (w.heap.push o).setIfInBounds w.heap.size o' = w.heap.push o' := by
    apply Array.ext'
    simp
  show ({ w with heap := (w.heap.push o).setIfInBounds w.heap.size o' } : World) = { w with heap := w.heap.push o' }
  rw [e]
theorem int_check (w : World) (e : Bool) (k : Int) : (Instr.checkKey e 10000 3 (.int .i64 k)).run Try.prog w = .ok () w :=
  MapKept.run_checkKey Try.underlying3 (by simp [MapKept.IsKey]) e 9999
theorem find_now (w : World) (k : Int) (es : List MapEntry) (r : Option (Nat × Value)) (h : Instr.findNow (.int .i64) (.int .i64 k) es 0 = some r) : (Instr.findKey 3 (.int .i64 k) es).run Try.prog w = .ok r w := by
  simp [Instr.findKey, run_underlying Try.underlying3, h, Result.andThen]

theorem ins (w : World) (k : Nat) (v : Value) (es : Array MapEntry) (clk : Nat) (h : Instr.findNow (.int .i64) (.int .i64 k) es.toList 0 = some none) :
    (Instr.mapUpdate 69 (.map (some w.heap.size)) (.int .i64 k) v).run Try.prog (w.alloc (.map es clk)) = .ok () (w.alloc (.map (es.push { key := .int .i64 k, val := v, born := clk }) (clk + 1))) := by
  have hb : (w.alloc (.map es clk)).heap[w.heap.size]? = some (.map es clk) := (MapKept.heap_alloc w _).1
  have hc := int_check (w.alloc (.map es clk)) false k
  have hf := find_now (w.alloc (.map es clk)) k es.toList none h
  have hm := alloc_modify w (.map es clk) (.map (es.push { key := .int .i64 k, val := v, born := clk }) (clk + 1))
  simp only [Instr.mapUpdate, Sem.run_bind, run_underlying Try.underlying69, MapKept.run_getObj_map hb, hc, hf, MapKept.run_setObj_map _ hb, Result.andThen, hm]

theorem look_some (w : World) (m k : Nat) (hm : w.heap[m]? = some (.map (esN 11) 11)) (h1 : 1 ≤ k) (h2 : k ≤ 11) :
    (Instr.lookup 69 (.map (some m)) (.int .i64 k) true).run Try.prog w = .ok (.tuple #[shapeV (shapeAt k), .bool true]) w := by
  have hf : Instr.findNow (.int .i64) (.int .i64 k) (esN 11).toList 0 = some (some (k - 1, shapeV (shapeAt k))) := by
    rcases (show k = 1 ∨ k = 2 ∨ k = 3 ∨ k = 4 ∨ k = 5 ∨ k = 6 ∨ k = 7 ∨ k = 8 ∨ k = 9 ∨ k = 10 ∨ k = 11 by omega) with rfl | rfl | rfl | rfl | rfl | rfl | rfl | rfl | rfl | rfl | rfl <;> rfl
  have hc := int_check w ((esN 11).isEmpty) k
  have hg := find_now w k _ _ hf
  simp only [Instr.lookup, Sem.run_bind, Sem.run_pure, run_underlying Try.underlying69, MapKept.run_getObj_map hm, hc, hg, Result.andThen, if_true]
theorem zero_shape (w : World) : (zeroValue 77).run Try.prog w = .ok (shapeV (shapeAt 0)) w := by kernel_rfl
theorem look_none (w : World) (m : Nat) (hm : w.heap[m]? = some (.map (esN 11) 11)) :
    (Instr.lookup 69 (.map (some m)) (.int .i64 0) true).run Try.prog w = .ok (.tuple #[shapeV (shapeAt 0), .bool false]) w := by
  have hf : Instr.findNow (.int .i64) (.int .i64 0) (esN 11).toList 0 = some none := rfl
  have hc := int_check w ((esN 11).isEmpty) 0
  have hg := find_now w 0 _ _ hf
  have hz := zero_shape w
  simp only [Instr.lookup, Sem.run_bind, Sem.run_pure, run_underlying Try.underlying69, MapKept.run_getObj_map hm, hc, hg, hz, Result.andThen, if_true]

theorem shapes_any (w : World) : Calls Try.prog 28 #[] w fun e w' => e = .returned (.map (some w.heap.size)) ∧ w' = w.alloc (.map (esN 11) 11) := by
  have h0 : (Instr.makeMap 69 none).run Try.prog w = .ok (.map (some w.heap.size)) (w.alloc (.map (esN 0) 0)) := run_makeMap _ _
  have h1 : (Instr.mapUpdate 69 (.map (some w.heap.size)) (.int .i64 1) (.agg #[.bool false, .int .u64 0, .int .u64 0, .bool false, .int .i64 0, .int .i64 0, .bool false])).run Try.prog (w.alloc (.map (esN 0) 0)) = .ok () (w.alloc (.map (esN 1) 1)) := ins w 1 _ (esN 0) 0 rfl
  have h2 : (Instr.mapUpdate 69 (.map (some w.heap.size)) (.int .i64 2) (.agg #[.bool true, .int .u64 0, .int .u64 4294967295, .bool false, .int .i64 0, .int .i64 0, .bool false])).run Try.prog (w.alloc (.map (esN 1) 1)) = .ok () (w.alloc (.map (esN 2) 2)) := ins w 2 _ (esN 1) 1 rfl
  have h3 : (Instr.mapUpdate 69 (.map (some w.heap.size)) (.int .i64 3) (.agg #[.bool true, .int .u64 0, .int .u64 18446744073709551615, .bool false, .int .i64 0, .int .i64 0, .bool false])).run Try.prog (w.alloc (.map (esN 2) 2)) = .ok () (w.alloc (.map (esN 3) 3)) := ins w 3 _ (esN 2) 2 rfl
  have h4 : (Instr.mapUpdate 69 (.map (some w.heap.size)) (.int .i64 4) (.agg #[.bool false, .int .u64 0, .int .u64 0, .bool true, .int .i64 0, .int .i64 0, .bool false])).run Try.prog (w.alloc (.map (esN 3) 3)) = .ok () (w.alloc (.map (esN 4) 4)) := ins w 4 _ (esN 3) 3 rfl
  have h5 : (Instr.mapUpdate 69 (.map (some w.heap.size)) (.int .i64 5) (.agg #[.bool false, .int .u64 0, .int .u64 0, .bool false, .int .i64 1, .int .i64 1, .bool false])).run Try.prog (w.alloc (.map (esN 4) 4)) = .ok () (w.alloc (.map (esN 5) 5)) := ins w 5 _ (esN 4) 4 rfl
  have h6 : (Instr.mapUpdate 69 (.map (some w.heap.size)) (.int .i64 6) (.agg #[.bool false, .int .u64 0, .int .u64 0, .bool false, .int .i64 2, .int .i64 2, .bool true])).run Try.prog (w.alloc (.map (esN 5) 5)) = .ok () (w.alloc (.map (esN 6) 6)) := ins w 6 _ (esN 5) 5 rfl
  have h7 : (Instr.mapUpdate 69 (.map (some w.heap.size)) (.int .i64 7) (.agg #[.bool false, .int .u64 0, .int .u64 0, .bool false, .int .i64 1, .int .i64 65536, .bool false])).run Try.prog (w.alloc (.map (esN 6) 6)) = .ok () (w.alloc (.map (esN 7) 7)) := ins w 7 _ (esN 6) 6 rfl
  have h8 : (Instr.mapUpdate 69 (.map (some w.heap.size)) (.int .i64 8) (.agg #[.bool true, .int .u64 1, .int .u64 3, .bool false, .int .i64 2, .int .i64 2, .bool false])).run Try.prog (w.alloc (.map (esN 7) 7)) = .ok () (w.alloc (.map (esN 8) 8)) := ins w 8 _ (esN 7) 7 rfl
  have h9 : (Instr.mapUpdate 69 (.map (some w.heap.size)) (.int .i64 9) (.agg #[.bool false, .int .u64 0, .int .u64 0, .bool false, .int .i64 2, .int .i64 2, .bool false])).run Try.prog (w.alloc (.map (esN 8) 8)) = .ok () (w.alloc (.map (esN 9) 9)) := ins w 9 _ (esN 8) 8 rfl
  have h10 : (Instr.mapUpdate 69 (.map (some w.heap.size)) (.int .i64 10) (.agg #[.bool true, .int .u64 0, .int .u64 18446744073709551615, .bool false, .int .i64 3, .int .i64 3, .bool false])).run Try.prog (w.alloc (.map (esN 9) 9)) = .ok () (w.alloc (.map (esN 10) 10)) := ins w 10 _ (esN 9) 9 rfl
  have h11 : (Instr.mapUpdate 69 (.map (some w.heap.size)) (.int .i64 11) (.agg #[.bool false, .int .u64 0, .int .u64 0, .bool false, .int .i64 0, .int .i64 65536, .bool false])).run Try.prog (w.alloc (.map (esN 10) 10)) = .ok () (w.alloc (.map (esN 11) 11)) := ins w 11 _ (esN 10) 10 rfl
  go_enter Try.func28, Try.ntmps28
  go_wp2
  go_ret
  exact ⟨rfl, rfl⟩
end Go.Proofs.Yteiadbiopcidmaa
