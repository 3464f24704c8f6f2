/- Texts of this seat, merged: Wire3, Wire4, Wire15, Wire16. -/
import Derived.Test.YtjbmcjppaadkgaaGR7
import Derived.StillTailTactics
import Derived.Laws.StructEq
namespace Go.Proofs.Ytjbmcjppaadkgaa
set_option linter.unusedVariables false
set_option linter.unusedSimpArgs false
set_option maxRecDepth 100000
open Go.RowKit
theorem res_cell13 {fn : Func} {t : Tmp} {T : TypeId} (hr : fn.results = #[.cell t 25]) (W : World) (b : Nat) (v0 v1 v2 v3 v4 v5 v6 v7 v8 v9 v10 v11 v12 : Value) (h : W.heap[b]? = some (.cells #[v0, v1, v2, v3, v4, v5, v6, v7, v8, v9, v10, v11, v12] T (0, 0))) (tm : Array Value) (h2 : tm.getD t undef = .pointer (some ⟨b, 0, none⟩)) :
    (results fn tm).run Try.prog W = .ok (.agg #[v0, v1, v2, v3, v4, v5, v6, v7, v8, v9, v10, v11, v12]) W := by
  obtain ⟨c0, c1, c2, c3, c4, c5, c6, c7, c8, c9, c10, c11, c12⟩ := cells13 h
  have e2 : tm[t]?.getD undef = .pointer (some ⟨b, 0, none⟩) := by simpa using h2
  simp [results, hr, go_sem, e2, c0, c1, c2, c3, c4, c5, c6, c7, c8, c9, c10, c11, c12]
theorem strs_cells {W : World} {v : Value} {l : List (List UInt8)} (h : Strs W v l) (h0 : l ≠ []) : ∃ b off cp, v = .slice (some ⟨b, off, none⟩) l.length cp ∧ ∀ i, i < l.length → W.cell? ⟨b, off + i, none⟩ = some (strV (l.getD i [])) := by
  obtain ⟨a, cp, rfl, _, h⟩ := h
  rcases h with rfl | ⟨b, off, rfl, hc⟩
  · exact absurd rfl h0
  · exact ⟨b, off, cp, rfl, hc⟩
def set13 (W : World) (b : Nat) (v0 v1 v2 v3 v4 v5 v6 v7 v8 v9 v10 v11 v12 : Value) : World := (((((((((((((W.setCell ⟨b, 0, none⟩ v0).setCell ⟨b, 1, none⟩ v1).setCell ⟨b, 2, none⟩ v2).setCell ⟨b, 3, none⟩ v3).setCell ⟨b, 4, none⟩ v4).setCell ⟨b, 5, none⟩ v5).setCell ⟨b, 6, none⟩ v6).setCell ⟨b, 7, none⟩ v7).setCell ⟨b, 8, none⟩ v8).setCell ⟨b, 9, none⟩ v9).setCell ⟨b, 10, none⟩ v10).setCell ⟨b, 11, none⟩ v11).setCell ⟨b, 12, none⟩ v12)
theorem set13_block {W : World} {b : Nat} {T : TypeId} {x0 x1 x2 x3 x4 x5 x6 x7 x8 x9 x10 x11 x12 : Value} (h : W.heap[b]? = some (.cells #[x0, x1, x2, x3, x4, x5, x6, x7, x8, x9, x10, x11, x12] T (0, 0))) (v0 v1 v2 v3 v4 v5 v6 v7 v8 v9 v10 v11 v12 : Value) :
    (set13 W b v0 v1 v2 v3 v4 v5 v6 v7 v8 v9 v10 v11 v12).heap[b]? = some (.cells #[v0, v1, v2, v3, v4, v5, v6, v7, v8, v9, v10, v11, v12] T (0, 0)) := by
  have h0 : (W.setCell ⟨b, 0, none⟩ v0).heap[b]? = some (.cells #[v0, x1, x2, x3, x4, x5, x6, x7, x8, x9, x10, x11, x12] T (0, 0)) := set_block (i := 0) (v := v0) h
  have h1 : ((W.setCell ⟨b, 0, none⟩ v0).setCell ⟨b, 1, none⟩ v1).heap[b]? = some (.cells #[v0, v1, x2, x3, x4, x5, x6, x7, x8, x9, x10, x11, x12] T (0, 0)) := set_block (i := 1) (v := v1) h0
  have h2 : (((W.setCell ⟨b, 0, none⟩ v0).setCell ⟨b, 1, none⟩ v1).setCell ⟨b, 2, none⟩ v2).heap[b]? = some (.cells #[v0, v1, v2, x3, x4, x5, x6, x7, x8, x9, x10, x11, x12] T (0, 0)) := set_block (i := 2) (v := v2) h1
  have h3 : ((((W.setCell ⟨b, 0, none⟩ v0).setCell ⟨b, 1, none⟩ v1).setCell ⟨b, 2, none⟩ v2).setCell ⟨b, 3, none⟩ v3).heap[b]? = some (.cells #[v0, v1, v2, v3, x4, x5, x6, x7, x8, x9, x10, x11, x12] T (0, 0)) := set_block (i := 3) (v := v3) h2
  have h4 : (((((W.setCell ⟨b, 0, none⟩ v0).setCell ⟨b, 1, none⟩ v1).setCell ⟨b, 2, none⟩ v2).setCell ⟨b, 3, none⟩ v3).setCell ⟨b, 4, none⟩ v4).heap[b]? = some (.cells #[v0, v1, v2, v3, v4, x5, x6, x7, x8, x9, x10, x11, x12] T (0, 0)) := set_block (i := 4) (v := v4) h3
  have h5 : ((((((W.setCell ⟨b, 0, none⟩ v0).setCell ⟨b, 1, none⟩ v1).setCell ⟨b, 2, none⟩ v2).setCell ⟨b, 3, none⟩ v3).setCell ⟨b, 4, none⟩ v4).setCell ⟨b, 5, none⟩ v5).heap[b]? = some (.cells #[v0, v1, v2, v3, v4, v5, x6, x7, x8, x9, x10, x11, x12] T (0, 0)) := set_block (i := 5) (v := v5) h4
  have h6 : (((((((W.setCell ⟨b, 0, none⟩ v0).setCell ⟨b, 1, none⟩ v1).setCell ⟨b, 2, none⟩ v2).setCell ⟨b, 3, none⟩ v3).setCell ⟨b, 4, none⟩ v4).setCell ⟨b, 5, none⟩ v5).setCell ⟨b, 6, none⟩ v6).heap[b]? = some (.cells #[v0, v1, v2, v3, v4, v5, v6, x7, x8, x9, x10, x11, x12] T (0, 0)) := set_block (i := 6) (v := v6) h5
  have h7 : ((((((((W.setCell ⟨b, 0, none⟩ v0).setCell ⟨b, 1, none⟩ v1).setCell ⟨b, 2, none⟩ v2).setCell ⟨b, 3, none⟩ v3).setCell ⟨b, 4, none⟩ v4).setCell ⟨b, 5, none⟩ v5).setCell ⟨b, 6, none⟩ v6).setCell ⟨b, 7, none⟩ v7).heap[b]? = some (.cells #[v0, v1, v2, v3, v4, v5, v6, v7, x8, x9, x10, x11, x12] T (0, 0)) := set_block (i := 7) (v := v7) h6
  have h8 : (((((((((W.setCell ⟨b, 0, none⟩ v0).setCell ⟨b, 1, none⟩ v1).setCell ⟨b, 2, none⟩ v2).setCell ⟨b, 3, none⟩ v3).setCell ⟨b, 4, none⟩ v4).setCell ⟨b, 5, none⟩ v5).setCell ⟨b, 6, none⟩ v6).setCell ⟨b, 7, none⟩ v7).setCell ⟨b, 8, none⟩ v8).heap[b]? = some (.cells #[v0, v1, v2, v3, v4, v5, v6, v7, v8, x9, x10, x11, x12] T (0, 0)) := set_block (i := 8) (v := v8) h7
  have h9 : ((((((((((W.setCell ⟨b, 0, none⟩ v0).setCell ⟨b, 1, none⟩ v1).setCell ⟨b, 2, none⟩ v2).setCell ⟨b, 3, none⟩ v3).setCell ⟨b, 4, none⟩ v4).setCell ⟨b, 5, none⟩ v5).setCell ⟨b, 6, none⟩ v6).setCell ⟨b, 7, none⟩ v7).setCell ⟨b, 8, none⟩ v8).setCell ⟨b, 9, none⟩ v9).heap[b]? = some (.cells #[v0, v1, v2, v3, v4, v5, v6, v7, v8, v9, x10, x11, x12] T (0, 0)) := set_block (i := 9) (v := v9) h8
  have h10 : (((((((((((W.setCell ⟨b, 0, none⟩ v0).setCell ⟨b, 1, none⟩ v1).setCell ⟨b, 2, none⟩ v2).setCell ⟨b, 3, none⟩ v3).setCell ⟨b, 4, none⟩ v4).setCell ⟨b, 5, none⟩ v5).setCell ⟨b, 6, none⟩ v6).setCell ⟨b, 7, none⟩ v7).setCell ⟨b, 8, none⟩ v8).setCell ⟨b, 9, none⟩ v9).setCell ⟨b, 10, none⟩ v10).heap[b]? = some (.cells #[v0, v1, v2, v3, v4, v5, v6, v7, v8, v9, v10, x11, x12] T (0, 0)) := set_block (i := 10) (v := v10) h9
  have h11 : ((((((((((((W.setCell ⟨b, 0, none⟩ v0).setCell ⟨b, 1, none⟩ v1).setCell ⟨b, 2, none⟩ v2).setCell ⟨b, 3, none⟩ v3).setCell ⟨b, 4, none⟩ v4).setCell ⟨b, 5, none⟩ v5).setCell ⟨b, 6, none⟩ v6).setCell ⟨b, 7, none⟩ v7).setCell ⟨b, 8, none⟩ v8).setCell ⟨b, 9, none⟩ v9).setCell ⟨b, 10, none⟩ v10).setCell ⟨b, 11, none⟩ v11).heap[b]? = some (.cells #[v0, v1, v2, v3, v4, v5, v6, v7, v8, v9, v10, v11, x12] T (0, 0)) := set_block (i := 11) (v := v11) h10
  have h12 : (((((((((((((W.setCell ⟨b, 0, none⟩ v0).setCell ⟨b, 1, none⟩ v1).setCell ⟨b, 2, none⟩ v2).setCell ⟨b, 3, none⟩ v3).setCell ⟨b, 4, none⟩ v4).setCell ⟨b, 5, none⟩ v5).setCell ⟨b, 6, none⟩ v6).setCell ⟨b, 7, none⟩ v7).setCell ⟨b, 8, none⟩ v8).setCell ⟨b, 9, none⟩ v9).setCell ⟨b, 10, none⟩ v10).setCell ⟨b, 11, none⟩ v11).setCell ⟨b, 12, none⟩ v12).heap[b]? = some (.cells #[v0, v1, v2, v3, v4, v5, v6, v7, v8, v9, v10, v11, v12] T (0, 0)) := set_block (i := 12) (v := v12) h11
  exact h12
theorem set13_below {n : Nat} {w W : World} {b : Nat} (h : Below n w W) (hb : n ≤ b) (v0 v1 v2 v3 v4 v5 v6 v7 v8 v9 v10 v11 v12 : Value) : Below n w (set13 W b v0 v1 v2 v3 v4 v5 v6 v7 v8 v9 v10 v11 v12) := (((((((((((((h.setCell (p := ⟨b, 0, none⟩) hb _).setCell (p := ⟨b, 1, none⟩) hb _).setCell (p := ⟨b, 2, none⟩) hb _).setCell (p := ⟨b, 3, none⟩) hb _).setCell (p := ⟨b, 4, none⟩) hb _).setCell (p := ⟨b, 5, none⟩) hb _).setCell (p := ⟨b, 6, none⟩) hb _).setCell (p := ⟨b, 7, none⟩) hb _).setCell (p := ⟨b, 8, none⟩) hb _).setCell (p := ⟨b, 9, none⟩) hb _).setCell (p := ⟨b, 10, none⟩) hb _).setCell (p := ⟨b, 11, none⟩) hb _).setCell (p := ⟨b, 12, none⟩) hb _)
set_option maxHeartbeats 1000000 in
theorem rwith_4 (s r c : Nat) (y0 : ByteArray) (b off cp : Nat) (w : World) (h0 : w.cell? ⟨b, off, none⟩ = some (.string y0)) :
    Calls Try.prog 23 #[.int .i64 4, .int .u32 s, .int .u32 r, .int .u64 c, .slice (some ⟨b, off, none⟩) 1 cp] w fun e w' => e = .returned (.agg #[.int .i64 4, .int .u32 0, .int .u32 r, .int .u64 c, .string ⟨#[]⟩, .string ⟨#[]⟩, .string ⟨#[]⟩, .string ⟨#[]⟩, .string ⟨#[]⟩, .string ⟨#[]⟩, .string y0, .string ⟨#[]⟩, .string ⟨#[]⟩]) ∧ Below w.heap.size w w' := by
  have g0 : (w.alloc (.cells #[.int .i64 0, .int .u32 0, .int .u32 0, .int .u64 0, .string ⟨#[]⟩, .string ⟨#[]⟩, .string ⟨#[]⟩, .string ⟨#[]⟩, .string ⟨#[]⟩, .string ⟨#[]⟩, .string ⟨#[]⟩, .string ⟨#[]⟩, .string ⟨#[]⟩] 25)).cell? ⟨b, off, none⟩ = some (.string y0) := cell_keep4 h0 (below_one _)
  have hx := heap_alloc_new w (.cells #[.int .i64 0, .int .u32 0, .int .u32 0, .int .u64 0, .string ⟨#[]⟩, .string ⟨#[]⟩, .string ⟨#[]⟩, .string ⟨#[]⟩, .string ⟨#[]⟩, .string ⟨#[]⟩, .string ⟨#[]⟩, .string ⟨#[]⟩, .string ⟨#[]⟩] 25)
  have hb := below_one (w := w) (.cells #[.int .i64 0, .int .u32 0, .int .u32 0, .int .u64 0, .string ⟨#[]⟩, .string ⟨#[]⟩, .string ⟨#[]⟩, .string ⟨#[]⟩, .string ⟨#[]⟩, .string ⟨#[]⟩, .string ⟨#[]⟩, .string ⟨#[]⟩, .string ⟨#[]⟩] 25)
  clear h0
  go_enter Try.func23, Try.ntmps23
  go_wp2_with fail
  refine bodyPost_ret (v := .agg #[.int .i64 4, .int .u32 0, .int .u32 r, .int .u64 c, .string ⟨#[]⟩, .string ⟨#[]⟩, .string ⟨#[]⟩, .string ⟨#[]⟩, .string ⟨#[]⟩, .string ⟨#[]⟩, .string y0, .string ⟨#[]⟩, .string ⟨#[]⟩]) ?_ rfl ⟨rfl, ?_⟩
  · exact res_cell13 (t := 10) rfl _ _ _ _ _ _ _ _ _ _ _ _ _ _ _ (heap_alloc_new w _) _ rfl
  · exact below_one _
set_option maxHeartbeats 1000000 in
theorem rwith_3 (s r c : Nat) (y0 y1 : ByteArray) (b off cp : Nat) (w : World) (h0 : w.cell? ⟨b, off, none⟩ = some (.string y0)) (h1 : w.cell? ⟨b, off + 1, none⟩ = some (.string y1)) :
    Calls Try.prog 23 #[.int .i64 3, .int .u32 s, .int .u32 r, .int .u64 c, .slice (some ⟨b, off, none⟩) 2 cp] w fun e w' => e = .returned (.agg #[.int .i64 3, .int .u32 0, .int .u32 r, .int .u64 0, .string ⟨#[]⟩, .string ⟨#[]⟩, .string ⟨#[]⟩, .string ⟨#[]⟩, .string y0, .string y1, .string ⟨#[]⟩, .string ⟨#[]⟩, .string ⟨#[]⟩]) ∧ Below w.heap.size w w' := by
  have g0 : (w.alloc (.cells #[.int .i64 0, .int .u32 0, .int .u32 0, .int .u64 0, .string ⟨#[]⟩, .string ⟨#[]⟩, .string ⟨#[]⟩, .string ⟨#[]⟩, .string ⟨#[]⟩, .string ⟨#[]⟩, .string ⟨#[]⟩, .string ⟨#[]⟩, .string ⟨#[]⟩] 25)).cell? ⟨b, off, none⟩ = some (.string y0) := cell_keep4 h0 (below_one _)
  have g1 : (w.alloc (.cells #[.int .i64 0, .int .u32 0, .int .u32 0, .int .u64 0, .string ⟨#[]⟩, .string ⟨#[]⟩, .string ⟨#[]⟩, .string ⟨#[]⟩, .string ⟨#[]⟩, .string ⟨#[]⟩, .string ⟨#[]⟩, .string ⟨#[]⟩, .string ⟨#[]⟩] 25)).cell? ⟨b, off + 1, none⟩ = some (.string y1) := cell_keep4 h1 (below_one _)
  have hx := heap_alloc_new w (.cells #[.int .i64 0, .int .u32 0, .int .u32 0, .int .u64 0, .string ⟨#[]⟩, .string ⟨#[]⟩, .string ⟨#[]⟩, .string ⟨#[]⟩, .string ⟨#[]⟩, .string ⟨#[]⟩, .string ⟨#[]⟩, .string ⟨#[]⟩, .string ⟨#[]⟩] 25)
  have hb := below_one (w := w) (.cells #[.int .i64 0, .int .u32 0, .int .u32 0, .int .u64 0, .string ⟨#[]⟩, .string ⟨#[]⟩, .string ⟨#[]⟩, .string ⟨#[]⟩, .string ⟨#[]⟩, .string ⟨#[]⟩, .string ⟨#[]⟩, .string ⟨#[]⟩, .string ⟨#[]⟩] 25)
  clear h0 h1
  go_enter Try.func23, Try.ntmps23
  go_wp2_with fail
  generalize w.alloc (.cells #[.int .i64 0, .int .u32 0, .int .u32 0, .int .u64 0, .string ⟨#[]⟩, .string ⟨#[]⟩, .string ⟨#[]⟩, .string ⟨#[]⟩, .string ⟨#[]⟩, .string ⟨#[]⟩, .string ⟨#[]⟩, .string ⟨#[]⟩, .string ⟨#[]⟩] 25) = W at *
  go_still_tail 8, (by kernel_rfl)
  change wpList _ _ _ _ _ W.drew
  have hx : W.drew.heap[w.heap.size]? = some (.cells #[.int .i64 0, .int .u32 0, .int .u32 0, .int .u64 0, .string ⟨#[]⟩, .string ⟨#[]⟩, .string ⟨#[]⟩, .string ⟨#[]⟩, .string ⟨#[]⟩, .string ⟨#[]⟩, .string ⟨#[]⟩, .string ⟨#[]⟩, .string ⟨#[]⟩] 25) := hx
  have hb := hb.drew
  clear g0 g1
  generalize W.drew = W5 at *
  have fz := fun i => free_of hx i
  obtain ⟨c0, c1, c2, c3, c4, c5, c6, c7, c8, c9, c10, c11, c12⟩ := cells13 hx
  go_wp2_with fail
  refine bodyPost_ret (v := .agg #[.int .i64 3, .int .u32 0, .int .u32 r, .int .u64 0, .string ⟨#[]⟩, .string ⟨#[]⟩, .string ⟨#[]⟩, .string ⟨#[]⟩, .string y0, .string y1, .string ⟨#[]⟩, .string ⟨#[]⟩, .string ⟨#[]⟩]) ?_ rfl ⟨rfl, ?_⟩
  · exact res_cell13 (t := 10) rfl _ _ _ _ _ _ _ _ _ _ _ _ _ _ _ (set13_block hx _ _ _ _ _ _ _ _ _ _ _ _ _) _ rfl
  · exact set13_below hb (Nat.le_refl _) _ _ _ _ _ _ _ _ _ _ _ _ _
set_option maxHeartbeats 1000000 in
theorem rwith_2 (s r c : Nat) (y0 y1 y2 y3 : ByteArray) (b off cp : Nat) (w : World) (h0 : w.cell? ⟨b, off, none⟩ = some (.string y0)) (h1 : w.cell? ⟨b, off + 1, none⟩ = some (.string y1)) (h2 : w.cell? ⟨b, off + 2, none⟩ = some (.string y2)) (h3 : w.cell? ⟨b, off + 3, none⟩ = some (.string y3)) :
    Calls Try.prog 23 #[.int .i64 2, .int .u32 s, .int .u32 r, .int .u64 c, .slice (some ⟨b, off, none⟩) 4 cp] w fun e w' => e = .returned (.agg #[.int .i64 2, .int .u32 s, .int .u32 r, .int .u64 0, .string y0, .string ⟨#[]⟩, .string ⟨#[]⟩, .string y1, .string ⟨#[]⟩, .string ⟨#[]⟩, .string ⟨#[]⟩, .string y2, .string y3]) ∧ Below w.heap.size w w' := by
  have g0 : (w.alloc (.cells #[.int .i64 0, .int .u32 0, .int .u32 0, .int .u64 0, .string ⟨#[]⟩, .string ⟨#[]⟩, .string ⟨#[]⟩, .string ⟨#[]⟩, .string ⟨#[]⟩, .string ⟨#[]⟩, .string ⟨#[]⟩, .string ⟨#[]⟩, .string ⟨#[]⟩] 25)).cell? ⟨b, off, none⟩ = some (.string y0) := cell_keep4 h0 (below_one _)
  have g1 : (w.alloc (.cells #[.int .i64 0, .int .u32 0, .int .u32 0, .int .u64 0, .string ⟨#[]⟩, .string ⟨#[]⟩, .string ⟨#[]⟩, .string ⟨#[]⟩, .string ⟨#[]⟩, .string ⟨#[]⟩, .string ⟨#[]⟩, .string ⟨#[]⟩, .string ⟨#[]⟩] 25)).cell? ⟨b, off + 1, none⟩ = some (.string y1) := cell_keep4 h1 (below_one _)
  have g2 : (w.alloc (.cells #[.int .i64 0, .int .u32 0, .int .u32 0, .int .u64 0, .string ⟨#[]⟩, .string ⟨#[]⟩, .string ⟨#[]⟩, .string ⟨#[]⟩, .string ⟨#[]⟩, .string ⟨#[]⟩, .string ⟨#[]⟩, .string ⟨#[]⟩, .string ⟨#[]⟩] 25)).cell? ⟨b, off + 2, none⟩ = some (.string y2) := cell_keep4 h2 (below_one _)
  have g3 : (w.alloc (.cells #[.int .i64 0, .int .u32 0, .int .u32 0, .int .u64 0, .string ⟨#[]⟩, .string ⟨#[]⟩, .string ⟨#[]⟩, .string ⟨#[]⟩, .string ⟨#[]⟩, .string ⟨#[]⟩, .string ⟨#[]⟩, .string ⟨#[]⟩, .string ⟨#[]⟩] 25)).cell? ⟨b, off + 3, none⟩ = some (.string y3) := cell_keep4 h3 (below_one _)
  have hx := heap_alloc_new w (.cells #[.int .i64 0, .int .u32 0, .int .u32 0, .int .u64 0, .string ⟨#[]⟩, .string ⟨#[]⟩, .string ⟨#[]⟩, .string ⟨#[]⟩, .string ⟨#[]⟩, .string ⟨#[]⟩, .string ⟨#[]⟩, .string ⟨#[]⟩, .string ⟨#[]⟩] 25)
  have hb := below_one (w := w) (.cells #[.int .i64 0, .int .u32 0, .int .u32 0, .int .u64 0, .string ⟨#[]⟩, .string ⟨#[]⟩, .string ⟨#[]⟩, .string ⟨#[]⟩, .string ⟨#[]⟩, .string ⟨#[]⟩, .string ⟨#[]⟩, .string ⟨#[]⟩, .string ⟨#[]⟩] 25)
  clear h0 h1 h2 h3
  go_enter Try.func23, Try.ntmps23
  go_wp2_with fail
  generalize w.alloc (.cells #[.int .i64 0, .int .u32 0, .int .u32 0, .int .u64 0, .string ⟨#[]⟩, .string ⟨#[]⟩, .string ⟨#[]⟩, .string ⟨#[]⟩, .string ⟨#[]⟩, .string ⟨#[]⟩, .string ⟨#[]⟩, .string ⟨#[]⟩, .string ⟨#[]⟩] 25) = W at *
  go_still_tail 15, (by kernel_rfl)
  change wpList _ _ _ _ _ W.drew
  have hx : W.drew.heap[w.heap.size]? = some (.cells #[.int .i64 0, .int .u32 0, .int .u32 0, .int .u64 0, .string ⟨#[]⟩, .string ⟨#[]⟩, .string ⟨#[]⟩, .string ⟨#[]⟩, .string ⟨#[]⟩, .string ⟨#[]⟩, .string ⟨#[]⟩, .string ⟨#[]⟩, .string ⟨#[]⟩] 25) := hx
  have hb := hb.drew
  clear g0 g1 g2 g3
  generalize W.drew = W5 at *
  have fz := fun i => free_of hx i
  obtain ⟨c0, c1, c2, c3, c4, c5, c6, c7, c8, c9, c10, c11, c12⟩ := cells13 hx
  go_wp2_with fail
  refine bodyPost_ret (v := .agg #[.int .i64 2, .int .u32 s, .int .u32 r, .int .u64 0, .string y0, .string ⟨#[]⟩, .string ⟨#[]⟩, .string y1, .string ⟨#[]⟩, .string ⟨#[]⟩, .string ⟨#[]⟩, .string y2, .string y3]) ?_ rfl ⟨rfl, ?_⟩
  · exact res_cell13 (t := 10) rfl _ _ _ _ _ _ _ _ _ _ _ _ _ _ _ (set13_block hx _ _ _ _ _ _ _ _ _ _ _ _ _) _ rfl
  · exact set13_below hb (Nat.le_refl _) _ _ _ _ _ _ _ _ _ _ _ _ _
set_option maxHeartbeats 1000000 in
theorem rwith_1 (s r c : Nat) (y0 y1 y2 y3 y4 : ByteArray) (b off cp : Nat) (w : World) (h0 : w.cell? ⟨b, off, none⟩ = some (.string y0)) (h1 : w.cell? ⟨b, off + 1, none⟩ = some (.string y1)) (h2 : w.cell? ⟨b, off + 2, none⟩ = some (.string y2)) (h3 : w.cell? ⟨b, off + 3, none⟩ = some (.string y3)) (h4 : w.cell? ⟨b, off + 4, none⟩ = some (.string y4)) :
    Calls Try.prog 23 #[.int .i64 1, .int .u32 s, .int .u32 r, .int .u64 c, .slice (some ⟨b, off, none⟩) 5 cp] w fun e w' => e = .returned (.agg #[.int .i64 1, .int .u32 s, .int .u32 0, .int .u64 0, .string y0, .string y1, .string y2, .string ⟨#[]⟩, .string ⟨#[]⟩, .string ⟨#[]⟩, .string ⟨#[]⟩, .string y3, .string y4]) ∧ Below w.heap.size w w' := by
  have g0 : (w.alloc (.cells #[.int .i64 0, .int .u32 0, .int .u32 0, .int .u64 0, .string ⟨#[]⟩, .string ⟨#[]⟩, .string ⟨#[]⟩, .string ⟨#[]⟩, .string ⟨#[]⟩, .string ⟨#[]⟩, .string ⟨#[]⟩, .string ⟨#[]⟩, .string ⟨#[]⟩] 25)).cell? ⟨b, off, none⟩ = some (.string y0) := cell_keep4 h0 (below_one _)
  have g1 : (w.alloc (.cells #[.int .i64 0, .int .u32 0, .int .u32 0, .int .u64 0, .string ⟨#[]⟩, .string ⟨#[]⟩, .string ⟨#[]⟩, .string ⟨#[]⟩, .string ⟨#[]⟩, .string ⟨#[]⟩, .string ⟨#[]⟩, .string ⟨#[]⟩, .string ⟨#[]⟩] 25)).cell? ⟨b, off + 1, none⟩ = some (.string y1) := cell_keep4 h1 (below_one _)
  have g2 : (w.alloc (.cells #[.int .i64 0, .int .u32 0, .int .u32 0, .int .u64 0, .string ⟨#[]⟩, .string ⟨#[]⟩, .string ⟨#[]⟩, .string ⟨#[]⟩, .string ⟨#[]⟩, .string ⟨#[]⟩, .string ⟨#[]⟩, .string ⟨#[]⟩, .string ⟨#[]⟩] 25)).cell? ⟨b, off + 2, none⟩ = some (.string y2) := cell_keep4 h2 (below_one _)
  have g3 : (w.alloc (.cells #[.int .i64 0, .int .u32 0, .int .u32 0, .int .u64 0, .string ⟨#[]⟩, .string ⟨#[]⟩, .string ⟨#[]⟩, .string ⟨#[]⟩, .string ⟨#[]⟩, .string ⟨#[]⟩, .string ⟨#[]⟩, .string ⟨#[]⟩, .string ⟨#[]⟩] 25)).cell? ⟨b, off + 3, none⟩ = some (.string y3) := cell_keep4 h3 (below_one _)
  have g4 : (w.alloc (.cells #[.int .i64 0, .int .u32 0, .int .u32 0, .int .u64 0, .string ⟨#[]⟩, .string ⟨#[]⟩, .string ⟨#[]⟩, .string ⟨#[]⟩, .string ⟨#[]⟩, .string ⟨#[]⟩, .string ⟨#[]⟩, .string ⟨#[]⟩, .string ⟨#[]⟩] 25)).cell? ⟨b, off + 4, none⟩ = some (.string y4) := cell_keep4 h4 (below_one _)
  have hx := heap_alloc_new w (.cells #[.int .i64 0, .int .u32 0, .int .u32 0, .int .u64 0, .string ⟨#[]⟩, .string ⟨#[]⟩, .string ⟨#[]⟩, .string ⟨#[]⟩, .string ⟨#[]⟩, .string ⟨#[]⟩, .string ⟨#[]⟩, .string ⟨#[]⟩, .string ⟨#[]⟩] 25)
  have hb := below_one (w := w) (.cells #[.int .i64 0, .int .u32 0, .int .u32 0, .int .u64 0, .string ⟨#[]⟩, .string ⟨#[]⟩, .string ⟨#[]⟩, .string ⟨#[]⟩, .string ⟨#[]⟩, .string ⟨#[]⟩, .string ⟨#[]⟩, .string ⟨#[]⟩, .string ⟨#[]⟩] 25)
  clear h0 h1 h2 h3 h4
  go_enter Try.func23, Try.ntmps23
  go_wp2_with fail
  generalize w.alloc (.cells #[.int .i64 0, .int .u32 0, .int .u32 0, .int .u64 0, .string ⟨#[]⟩, .string ⟨#[]⟩, .string ⟨#[]⟩, .string ⟨#[]⟩, .string ⟨#[]⟩, .string ⟨#[]⟩, .string ⟨#[]⟩, .string ⟨#[]⟩, .string ⟨#[]⟩] 25) = W at *
  go_still_tail 17, (by kernel_rfl)
  change wpList _ _ _ _ _ W.drew
  have hx : W.drew.heap[w.heap.size]? = some (.cells #[.int .i64 0, .int .u32 0, .int .u32 0, .int .u64 0, .string ⟨#[]⟩, .string ⟨#[]⟩, .string ⟨#[]⟩, .string ⟨#[]⟩, .string ⟨#[]⟩, .string ⟨#[]⟩, .string ⟨#[]⟩, .string ⟨#[]⟩, .string ⟨#[]⟩] 25) := hx
  have hb := hb.drew
  clear g0 g1 g2 g3 g4
  generalize W.drew = W5 at *
  have fz := fun i => free_of hx i
  obtain ⟨c0, c1, c2, c3, c4, c5, c6, c7, c8, c9, c10, c11, c12⟩ := cells13 hx
  go_wp2_with fail
  refine bodyPost_ret (v := .agg #[.int .i64 1, .int .u32 s, .int .u32 0, .int .u64 0, .string y0, .string y1, .string y2, .string ⟨#[]⟩, .string ⟨#[]⟩, .string ⟨#[]⟩, .string ⟨#[]⟩, .string y3, .string y4]) ?_ rfl ⟨rfl, ?_⟩
  · exact res_cell13 (t := 10) rfl _ _ _ _ _ _ _ _ _ _ _ _ _ _ _ (set13_block hx _ _ _ _ _ _ _ _ _ _ _ _ _) _ rfl
  · exact set13_below hb (Nat.le_refl _) _ _ _ _ _ _ _ _ _ _ _ _ _
end Go.Proofs.Ytjbmcjppaadkgaa

namespace Go.Proofs.Ytjbmcjppaadkgaa
set_option linter.unusedVariables false
set_option linter.unusedSimpArgs false
set_option maxRecDepth 100000
open Go.RowKit
theorem ba_inj {a b : ByteArray} (h : a.toList = b.toList) : a = b := by
  rw [ByteArray.toList_eq, ByteArray.toList_eq] at h
  obtain ⟨⟨x⟩⟩ := a
  obtain ⟨⟨y⟩⟩ := b
  simp at h
  subst h; rfl
set_option maxHeartbeats 1000000 in
theorem msg_eql (w : World) (k : Int) (s r c : Nat) (k' : Int) (s' r' c' : Nat) (a4 a5 a6 a7 a8 a9 a10 a11 a12 b4 b5 b6 b7 b8 b9 b10 b11 b12 : ByteArray) (bq : Bool)
    (h : bq = decide (k = k' ∧ s = s' ∧ r = r' ∧ c = c' ∧ a4 = b4 ∧ a5 = b5 ∧ a6 = b6 ∧ a7 = b7 ∧ a8 = b8 ∧ a9 = b9 ∧ a10 = b10 ∧ a11 = b11 ∧ a12 = b12)) :
    (binOp .eql 25 (.agg #[.int .i64 k, .int .u32 (s : Nat), .int .u32 (r : Nat), .int .u64 (c : Nat), .string a4, .string a5, .string a6, .string a7, .string a8, .string a9, .string a10, .string a11, .string a12]) (.agg #[.int .i64 k', .int .u32 (s' : Nat), .int .u32 (r' : Nat), .int .u64 (c' : Nat), .string b4, .string b5, .string b6, .string b7, .string b8, .string b9, .string b10, .string b11, .string b12])).run Try.prog w = .ok (.bool bq) w := by
  by_cases hall : k = k' ∧ s = s' ∧ r = r' ∧ c = c' ∧ a4 = b4 ∧ a5 = b5 ∧ a6 = b6 ∧ a7 = b7 ∧ a8 = b8 ∧ a9 = b9 ∧ a10 = b10 ∧ a11 = b11 ∧ a12 = b12
  · rw [h, decide_eq_true hall]
    obtain ⟨rfl, rfl, rfl, rfl, rfl, rfl, rfl, rfl, rfl, rfl, rfl, rfl, rfl⟩ := hall
    go_simp
  · rw [h, decide_eq_false hall]
    clear h
    go_simp
    intro q0 q1 q2 q3 q4 q5 q6 q7 q8 q9 q10 q11 q12
    exact absurd ⟨q0, by omega, by omega, by omega, ba_inj q4, ba_inj q5, ba_inj q6, ba_inj q7, ba_inj q8, ba_inj q9, ba_inj q10, ba_inj q11, ba_inj q12⟩ hall
end Go.Proofs.Ytjbmcjppaadkgaa

namespace Go.Proofs.Ytjbmcjppaadkgaa
set_option linter.unusedVariables false
set_option linter.unusedSimpArgs false
set_option maxRecDepth 100000
open Go.RowKit
def fsOf (k : Nat) : List Fd :=
  if k = 1 then [.z, .n4 1, .t 4, .t 5, .t 6, .t 11, .t 12] else if k = 2 then [.z, .n4 1, .n4 2, .t 4, .t 7, .t 11, .t 12] else if k = 3 then [.z, .n4 2, .t 8, .t 9] else if k = 4 then [.z, .n4 2, .n8 3, .t 10] else []
def N0 : Nat → Nat := fun _ => 0
def X0 : Nat → ByteArray := fun _ => ⟨#[]⟩
def msgV (k : Int) (N : Nat → Nat) (X : Nat → ByteArray) : Value := .agg (msgC k N X)
def readR (x : UInt8) (R : Nat × List UInt8 × (Nat → Nat) × (Nat → ByteArray)) : Nat × Int × (Nat → Nat) × (Nat → ByteArray) :=
  if R.1 ≠ 0 then (R.1, 0, N0, X0) else if 0 < R.2.1.length then (5, 0, N0, X0) else (0, x.toNat, R.2.2.1, R.2.2.2)
def readS : List UInt8 → Nat × Int × (Nat → Nat) × (Nat → ByteArray)
  | [] => (4, 0, N0, X0)
  | x :: r => if fsOf x.toNat = [] then (3, 0, N0, X0) else readR x (rAll (fsOf x.toNat) r N0 X0)
def ReadRet6 (w : World) (r : Nat × Int × (Nat → Nat) × (Nat → ByteArray)) (e : Ending) (w' : World) : Prop := e = .returned (.tuple #[msgV r.2.1 r.2.2.1 r.2.2.2, .int .i64 r.1]) ∧ Below w.heap.size w w'
theorem row_any (B k : Nat) (w : World) (hc : w.cell? ⟨B, 0, none⟩ = some (.int .i64 (k : Nat))) (hk : fsOf k ≠ []) : Calls Try.prog 19 #[.pointer (some ⟨B, 0, none⟩)] w (RowRet w B (fsOf k)) := by
  unfold fsOf at hk ⊢
  by_cases h1 : k = 1
  · subst h1; exact row_1 B w hc
  by_cases h2 : k = 2
  · subst h2; exact row_2 B w hc
  by_cases h3 : k = 3
  · subst h3; exact row_3 B w hc
  by_cases h4 : k = 4
  · subst h4; exact row_4 B w hc
  rw [if_neg h1, if_neg h2, if_neg h3, if_neg h4] at hk
  exact absurd rfl hk
theorem fsOf_no {k : Nat} (h : fsOf k = []) : k ≠ 1 ∧ k ≠ 2 ∧ k ≠ 3 ∧ k ≠ 4 := by
  refine ⟨?_, ?_, ?_, ?_⟩ <;> (rintro rfl; exact absurd h (by decide))
theorem fsOf_len (k : Nat) : (fsOf k).length ≤ 7 := by
  unfold fsOf
  split; · decide
  split; · decide
  split; · decide
  split <;> decide
theorem fsOf_ok (k : Nat) : ∀ f ∈ fsOf k, FdOk f := by
  unfold fsOf
  split
  · intro f hf; simp at hf; rcases hf with rfl | rfl | rfl | rfl | rfl | rfl | rfl <;> simp [FdOk]
  split
  · intro f hf; simp at hf; rcases hf with rfl | rfl | rfl | rfl | rfl | rfl | rfl <;> simp [FdOk]
  split
  · intro f hf; simp at hf; rcases hf with rfl | rfl | rfl | rfl <;> simp [FdOk]
  split
  · intro f hf; simp at hf; rcases hf with rfl | rfl | rfl | rfl <;> simp [FdOk]
  · intro f hf; cases hf
theorem res_cell13t {fn : Func} {t u : Tmp} {T : TypeId} (hr : fn.results = #[.cell t 25, .tmp u]) (W : World) (b : Nat) (v0 v1 v2 v3 v4 v5 v6 v7 v8 v9 v10 v11 v12 x : Value) (h : W.heap[b]? = some (.cells #[v0, v1, v2, v3, v4, v5, v6, v7, v8, v9, v10, v11, v12] T (0, 0))) (tm : Array Value) (h2 : tm.getD t undef = .pointer (some ⟨b, 0, none⟩)) (h3 : tm.getD u undef = x) :
    (results fn tm).run Try.prog W = .ok (.tuple #[.agg #[v0, v1, v2, v3, v4, v5, v6, v7, v8, v9, v10, v11, v12], x]) W := by
  obtain ⟨c0, c1, c2, c3, c4, c5, c6, c7, c8, c9, c10, c11, c12⟩ := cells13 h
  have e2 : tm[t]?.getD undef = .pointer (some ⟨b, 0, none⟩) := by simpa using h2
  have e3 : tm[u]?.getD undef = x := by simpa using h3
  simp [results, hr, go_sem, e2, e3, c0, c1, c2, c3, c4, c5, c6, c7, c8, c9, c10, c11, c12]
theorem read_nil (a : Option Addr) (cp : Nat) (w : World) : Calls Try.prog 12 #[.slice a 0 cp] w (ReadRet6 w (readS [])) := by
  have hx := heap_alloc_new w (.cells #[.int .i64 0, .int .u32 0, .int .u32 0, .int .u64 0, .string ⟨#[]⟩, .string ⟨#[]⟩, .string ⟨#[]⟩, .string ⟨#[]⟩, .string ⟨#[]⟩, .string ⟨#[]⟩, .string ⟨#[]⟩, .string ⟨#[]⟩, .string ⟨#[]⟩] 25)
  obtain ⟨c0, c1, c2, c3, c4, c5, c6, c7, c8, c9, c10, c11, c12⟩ := cells13 hx
  have fz := fun i => free_of hx i
  go_enter Try.func12, Try.ntmps12
  go_wp2_with fail
  exact bodyPost_ret (res_cell13t (t := 2) (u := 3) rfl _ _ _ _ _ _ _ _ _ _ _ _ _ _ _ _ hx _ rfl rfl) rfl ⟨rfl, below_one _⟩
theorem wrap64_id (a : Int) (h0 : 0 ≤ a) (h : a < 256) : wrap64 a = a := by unfold wrap64; omega
theorem zero_next {w W : World} {R : Nat} (h : w.heap[R]? = some (.cells #[.int .i64 0, .int .u32 0, .int .u32 0, .int .u64 0, .string ⟨#[]⟩, .string ⟨#[]⟩, .string ⟨#[]⟩, .string ⟨#[]⟩, .string ⟨#[]⟩, .string ⟨#[]⟩, .string ⟨#[]⟩, .string ⟨#[]⟩, .string ⟨#[]⟩] 25 (0, 0))) (hb : W.heap[R]? = w.heap[R]?) : W.heap[R]? = some (.cells #[.int .i64 0, .int .u32 0, .int .u32 0, .int .u64 0, .string ⟨#[]⟩, .string ⟨#[]⟩, .string ⟨#[]⟩, .string ⟨#[]⟩, .string ⟨#[]⟩, .string ⟨#[]⟩, .string ⟨#[]⟩, .string ⟨#[]⟩, .string ⟨#[]⟩] 25 (0, 0)) := hb.trans h
theorem read_kind (x : UInt8) (r : List UInt8) (b off cp : Nat) (w : World) (hk : fsOf x.toNat = []) (hc0 : w.cell? ⟨b, off, none⟩ = some (.int .u8 x.toNat)) : Calls Try.prog 12 #[.slice (some ⟨b, off, none⟩) (r.length + 1) cp] w (ReadRet6 w (readS (x :: r))) := by
  have HZ : Hid (readS (x :: r) = (3, 0, N0, X0)) := Lib.hid (if_pos hk)
  obtain ⟨n1, n2, n3, n4⟩ := fsOf_no hk
  have q0 : (w.alloc (.cells #[.int .i64 0, .int .u32 0, .int .u32 0, .int .u64 0, .string ⟨#[]⟩, .string ⟨#[]⟩, .string ⟨#[]⟩, .string ⟨#[]⟩, .string ⟨#[]⟩, .string ⟨#[]⟩, .string ⟨#[]⟩, .string ⟨#[]⟩, .string ⟨#[]⟩] 25)).cell? ⟨b, off, none⟩ = some (.int .u8 x.toNat) := old1 _ hc0
  have hx : (((w.alloc (.cells #[.int .i64 0, .int .u32 0, .int .u32 0, .int .u64 0, .string ⟨#[]⟩, .string ⟨#[]⟩, .string ⟨#[]⟩, .string ⟨#[]⟩, .string ⟨#[]⟩, .string ⟨#[]⟩, .string ⟨#[]⟩, .string ⟨#[]⟩, .string ⟨#[]⟩] 25)).alloc (.cells #[.int .i64 (x.toNat : Nat), .int .u32 0, .int .u32 0, .int .u64 0, .string ⟨#[]⟩, .string ⟨#[]⟩, .string ⟨#[]⟩, .string ⟨#[]⟩, .string ⟨#[]⟩, .string ⟨#[]⟩, .string ⟨#[]⟩, .string ⟨#[]⟩, .string ⟨#[]⟩] 25))).heap[w.heap.size]? = some (.cells #[.int .i64 0, .int .u32 0, .int .u32 0, .int .u64 0, .string ⟨#[]⟩, .string ⟨#[]⟩, .string ⟨#[]⟩, .string ⟨#[]⟩, .string ⟨#[]⟩, .string ⟨#[]⟩, .string ⟨#[]⟩, .string ⟨#[]⟩, .string ⟨#[]⟩] 25 (0, 0)) := (Below.heap_alloc _ _ _ (by simp)).trans (heap_alloc_new w _)
  have HX := Lib.hid hx
  have HSZ : Hid ((((w.alloc (.cells #[.int .i64 0, .int .u32 0, .int .u32 0, .int .u64 0, .string ⟨#[]⟩, .string ⟨#[]⟩, .string ⟨#[]⟩, .string ⟨#[]⟩, .string ⟨#[]⟩, .string ⟨#[]⟩, .string ⟨#[]⟩, .string ⟨#[]⟩, .string ⟨#[]⟩] 25)).alloc (.cells #[.int .i64 (x.toNat : Nat), .int .u32 0, .int .u32 0, .int .u64 0, .string ⟨#[]⟩, .string ⟨#[]⟩, .string ⟨#[]⟩, .string ⟨#[]⟩, .string ⟨#[]⟩, .string ⟨#[]⟩, .string ⟨#[]⟩, .string ⟨#[]⟩, .string ⟨#[]⟩] 25))).heap.size = w.heap.size + 2) := Lib.hid (by simp)
  have HB : Hid (Below w.heap.size w (((w.alloc (.cells #[.int .i64 0, .int .u32 0, .int .u32 0, .int .u64 0, .string ⟨#[]⟩, .string ⟨#[]⟩, .string ⟨#[]⟩, .string ⟨#[]⟩, .string ⟨#[]⟩, .string ⟨#[]⟩, .string ⟨#[]⟩, .string ⟨#[]⟩, .string ⟨#[]⟩] 25)).alloc (.cells #[.int .i64 (x.toNat : Nat), .int .u32 0, .int .u32 0, .int .u64 0, .string ⟨#[]⟩, .string ⟨#[]⟩, .string ⟨#[]⟩, .string ⟨#[]⟩, .string ⟨#[]⟩, .string ⟨#[]⟩, .string ⟨#[]⟩, .string ⟨#[]⟩, .string ⟨#[]⟩] 25)))) := Lib.hid (Below.next (below_one _) (below_one _))
  have cB : (((w.alloc (.cells #[.int .i64 0, .int .u32 0, .int .u32 0, .int .u64 0, .string ⟨#[]⟩, .string ⟨#[]⟩, .string ⟨#[]⟩, .string ⟨#[]⟩, .string ⟨#[]⟩, .string ⟨#[]⟩, .string ⟨#[]⟩, .string ⟨#[]⟩, .string ⟨#[]⟩] 25)).alloc (.cells #[.int .i64 (x.toNat : Nat), .int .u32 0, .int .u32 0, .int .u64 0, .string ⟨#[]⟩, .string ⟨#[]⟩, .string ⟨#[]⟩, .string ⟨#[]⟩, .string ⟨#[]⟩, .string ⟨#[]⟩, .string ⟨#[]⟩, .string ⟨#[]⟩, .string ⟨#[]⟩] 25))).cell? ⟨w.heap.size + 1, 0, none⟩ = some (.int .i64 x.toNat) := cell_of (new2 w _ _) 0 rfl
  have HROW := Lib.hid (row_no (w.heap.size + 1) x.toNat (((w.alloc (.cells #[.int .i64 0, .int .u32 0, .int .u32 0, .int .u64 0, .string ⟨#[]⟩, .string ⟨#[]⟩, .string ⟨#[]⟩, .string ⟨#[]⟩, .string ⟨#[]⟩, .string ⟨#[]⟩, .string ⟨#[]⟩, .string ⟨#[]⟩, .string ⟨#[]⟩] 25)).alloc (.cells #[.int .i64 (x.toNat : Nat), .int .u32 0, .int .u32 0, .int .u64 0, .string ⟨#[]⟩, .string ⟨#[]⟩, .string ⟨#[]⟩, .string ⟨#[]⟩, .string ⟨#[]⟩, .string ⟨#[]⟩, .string ⟨#[]⟩, .string ⟨#[]⟩, .string ⟨#[]⟩] 25))) cB (by omega) (by omega) (by omega) (by omega))
  obtain ⟨c0, c1, c2, c3, c4, c5, c6, c7, c8, c9, c10, c11, c12⟩ := cells13 hx
  have fz := fun i => free_of hx i
  have hxl := UInt8.toNat_lt x
  have hw64 : wrap64 (x.toNat : Int) = x.toNat := wrap64_id _ (by omega) (by omega)
  clear hk hc0 n1 n2 n3 n4 hx
  go_enter Try.func12, Try.ntmps12
  go_wp2_with (first | (go_at_call 19; ((with_reducible refine (HROW.out).mono ?_); rintro e w2 ⟨rfl, rfl⟩; (try dsimp only))) | fail)
  rw [HZ.out]
  exact bodyPost_ret (res_cell13t (t := 2) (u := 3) rfl _ _ _ _ _ _ _ _ _ _ _ _ _ _ _ _ HX.out _ rfl rfl) rfl ⟨rfl, HB.out⟩
set_option maxHeartbeats 1000000 in
theorem read_x (x : UInt8) (r : List UInt8) (b off cp : Nat) (v : Value) (w : World) (fs : List Fd) (hk : fsOf x.toNat = fs) (hfs : fs ≠ []) (hc0 : w.cell? ⟨b, off, none⟩ = some (.int .u8 x.toNat)) (hv : PartB w b v r) (hl : r.length ≤ 10000000) (rc : Nat) (rl : List UInt8) (rN : Nat → Nat) (rX : Nat → ByteArray) (hR : rAll fs r N0 X0 = (rc, rl, rN, rX)) (hvv : v = .slice (some ⟨b, off + 1, none⟩) r.length (cp - 1)) (hcp : r.length + 1 ≤ cp) (hcm : cp ≤ maxLen) (hc1 : ¬ cp = 1) : Calls Try.prog 12 #[.slice (some ⟨b, off, none⟩) (r.length + 1) cp] w (ReadRet6 w (readS (x :: r))) := by
  have HZ : Hid (readS (x :: r) = readR x (rc, rl, rN, rX)) := Lib.hid (by rw [← hR, ← hk]; exact if_neg (by rw [hk]; exact hfs))
  have hbl := World.block_lt_of_cell? w _ hc0
  have q0 : (w.alloc (.cells #[.int .i64 0, .int .u32 0, .int .u32 0, .int .u64 0, .string ⟨#[]⟩, .string ⟨#[]⟩, .string ⟨#[]⟩, .string ⟨#[]⟩, .string ⟨#[]⟩, .string ⟨#[]⟩, .string ⟨#[]⟩, .string ⟨#[]⟩, .string ⟨#[]⟩] 25)).cell? ⟨b, off, none⟩ = some (.int .u8 x.toNat) := old1 _ hc0
  have hx : (((w.alloc (.cells #[.int .i64 0, .int .u32 0, .int .u32 0, .int .u64 0, .string ⟨#[]⟩, .string ⟨#[]⟩, .string ⟨#[]⟩, .string ⟨#[]⟩, .string ⟨#[]⟩, .string ⟨#[]⟩, .string ⟨#[]⟩, .string ⟨#[]⟩, .string ⟨#[]⟩] 25)).alloc (.cells #[.int .i64 (x.toNat : Nat), .int .u32 0, .int .u32 0, .int .u64 0, .string ⟨#[]⟩, .string ⟨#[]⟩, .string ⟨#[]⟩, .string ⟨#[]⟩, .string ⟨#[]⟩, .string ⟨#[]⟩, .string ⟨#[]⟩, .string ⟨#[]⟩, .string ⟨#[]⟩] 25))).heap[w.heap.size]? = some (.cells #[.int .i64 0, .int .u32 0, .int .u32 0, .int .u64 0, .string ⟨#[]⟩, .string ⟨#[]⟩, .string ⟨#[]⟩, .string ⟨#[]⟩, .string ⟨#[]⟩, .string ⟨#[]⟩, .string ⟨#[]⟩, .string ⟨#[]⟩, .string ⟨#[]⟩] 25 (0, 0)) := (Below.heap_alloc _ _ _ (by simp)).trans (heap_alloc_new w _)
  have HX := Lib.hid hx
  have HSZ : Hid ((((w.alloc (.cells #[.int .i64 0, .int .u32 0, .int .u32 0, .int .u64 0, .string ⟨#[]⟩, .string ⟨#[]⟩, .string ⟨#[]⟩, .string ⟨#[]⟩, .string ⟨#[]⟩, .string ⟨#[]⟩, .string ⟨#[]⟩, .string ⟨#[]⟩, .string ⟨#[]⟩] 25)).alloc (.cells #[.int .i64 (x.toNat : Nat), .int .u32 0, .int .u32 0, .int .u64 0, .string ⟨#[]⟩, .string ⟨#[]⟩, .string ⟨#[]⟩, .string ⟨#[]⟩, .string ⟨#[]⟩, .string ⟨#[]⟩, .string ⟨#[]⟩, .string ⟨#[]⟩, .string ⟨#[]⟩] 25))).heap.size = w.heap.size + 2) := Lib.hid (by simp)
  have HB : Hid (Below w.heap.size w (((w.alloc (.cells #[.int .i64 0, .int .u32 0, .int .u32 0, .int .u64 0, .string ⟨#[]⟩, .string ⟨#[]⟩, .string ⟨#[]⟩, .string ⟨#[]⟩, .string ⟨#[]⟩, .string ⟨#[]⟩, .string ⟨#[]⟩, .string ⟨#[]⟩, .string ⟨#[]⟩] 25)).alloc (.cells #[.int .i64 (x.toNat : Nat), .int .u32 0, .int .u32 0, .int .u64 0, .string ⟨#[]⟩, .string ⟨#[]⟩, .string ⟨#[]⟩, .string ⟨#[]⟩, .string ⟨#[]⟩, .string ⟨#[]⟩, .string ⟨#[]⟩, .string ⟨#[]⟩, .string ⟨#[]⟩] 25)))) := Lib.hid (Below.next (below_one _) (below_one _))
  have cB : (((w.alloc (.cells #[.int .i64 0, .int .u32 0, .int .u32 0, .int .u64 0, .string ⟨#[]⟩, .string ⟨#[]⟩, .string ⟨#[]⟩, .string ⟨#[]⟩, .string ⟨#[]⟩, .string ⟨#[]⟩, .string ⟨#[]⟩, .string ⟨#[]⟩, .string ⟨#[]⟩] 25)).alloc (.cells #[.int .i64 (x.toNat : Nat), .int .u32 0, .int .u32 0, .int .u64 0, .string ⟨#[]⟩, .string ⟨#[]⟩, .string ⟨#[]⟩, .string ⟨#[]⟩, .string ⟨#[]⟩, .string ⟨#[]⟩, .string ⟨#[]⟩, .string ⟨#[]⟩, .string ⟨#[]⟩] 25))).cell? ⟨w.heap.size + 1, 0, none⟩ = some (.int .i64 x.toNat) := cell_of (new2 w _ _) 0 rfl
  have HROW := row_any (w.heap.size + 1) x.toNat (((w.alloc (.cells #[.int .i64 0, .int .u32 0, .int .u32 0, .int .u64 0, .string ⟨#[]⟩, .string ⟨#[]⟩, .string ⟨#[]⟩, .string ⟨#[]⟩, .string ⟨#[]⟩, .string ⟨#[]⟩, .string ⟨#[]⟩, .string ⟨#[]⟩, .string ⟨#[]⟩] 25)).alloc (.cells #[.int .i64 (x.toNat : Nat), .int .u32 0, .int .u32 0, .int .u64 0, .string ⟨#[]⟩, .string ⟨#[]⟩, .string ⟨#[]⟩, .string ⟨#[]⟩, .string ⟨#[]⟩, .string ⟨#[]⟩, .string ⟨#[]⟩, .string ⟨#[]⟩, .string ⟨#[]⟩] 25))) cB (by rw [hk]; exact hfs)
  rw [hk] at HROW
  unfold RowRet at HROW
  have HOK : Hid (∀ f ∈ fs, FdOk f) := Lib.hid (by rw [← hk]; exact fsOf_ok _)
  have HN : Hid (fs.length ≤ 7) := Lib.hid (by rw [← hk]; exact fsOf_len _)
  have HROW := Lib.hid HROW
  have HM : Hid (MsgAt (((w.alloc (.cells #[.int .i64 0, .int .u32 0, .int .u32 0, .int .u64 0, .string ⟨#[]⟩, .string ⟨#[]⟩, .string ⟨#[]⟩, .string ⟨#[]⟩, .string ⟨#[]⟩, .string ⟨#[]⟩, .string ⟨#[]⟩, .string ⟨#[]⟩, .string ⟨#[]⟩] 25)).alloc (.cells #[.int .i64 (x.toNat : Nat), .int .u32 0, .int .u32 0, .int .u64 0, .string ⟨#[]⟩, .string ⟨#[]⟩, .string ⟨#[]⟩, .string ⟨#[]⟩, .string ⟨#[]⟩, .string ⟨#[]⟩, .string ⟨#[]⟩, .string ⟨#[]⟩, .string ⟨#[]⟩] 25))) (w.heap.size + 1) x.toNat N0 X0) := Lib.hid (new2 w _ _)
  have HV := Lib.hid (hv.below HB.out)
  rw [hvv] at HV
  have HBB : Hid (b ≠ w.heap.size + 1) := Lib.hid (by simp at hbl; omega)
  have HL := Lib.hid hl
  have HRR := Lib.hid hR
  have hfl : 0 < fs.length := List.length_pos_iff.2 hfs
  have hfl0 : ¬ (fs.length : Int) = 0 := by omega
  have hcpi : (cp : Int) ≤ 9223372036854775807 := by unfold maxLen at hcm; omega
  have hxl := UInt8.toNat_lt x
  have hw64 : wrap64 (x.toNat : Int) = x.toNat := wrap64_id _ (by omega) (by omega)
  clear hk hc0 hv hl hR hx hfs hvv hbl
  by_cases he : rc = 0
  · subst he
    by_cases hlr : 0 < rl.length
    · have hlri : (0 : Int) < rl.length := by omega
      have HZ2 : Hid (readR x (0, rl, rN, rX) = (5, 0, N0, X0)) := Lib.hid (by unfold readR; rw [if_neg (by simp)]; exact if_pos hlr)
      go_enter Try.func12, Try.ntmps12
      go_wp2_with (first | (go_at_call 19; ((with_reducible refine (HROW.out).mono ?_); rintro e w2 ⟨g, vs, rfl, hg, hfa, hfi, hb2⟩; (try dsimp only); have HM2 := Lib.hid (msg_below HM.out hb2); have HV2 := Lib.hid (HV.out.below hb2); have HX2 := Lib.hid ((hb2.block w.heap.size (by simp; omega)).trans HX.out); have HB2 := Lib.hid (Below.next HB.out hb2); have HG2 : Hid (g ≠ w.heap.size + 1) := Lib.hid (by have := HSZ.out; omega); have HFA := Lib.hid hfa; have HFI := Lib.hid hfi; clear hg hfa hfi hb2)) | (go_at_call 20; ((with_reducible refine (walkR_any g fs vs _ r b (w.heap.size + 1) x.toNat N0 X0 w2 HFA.out HG2.out HFI.out HOK.out HM2.out HV2.out HBB.out HL.out HN.out).mono ?_); unfold RdRet; rw [HRR.out]; rintro e w3 ⟨v3, rfl, hp3, hm3, hg3⟩; (try dsimp only); have hx3 := (hg3.block w.heap.size (Nat.lt_of_lt_of_le (Nat.lt_succ_self _) (Nat.le_trans (Nat.le_succ _) (by have := (Array.getElem?_eq_some_iff.1 HM2.out).1; omega))) (fun h => by have := Option.some.inj h; omega)).trans HX2.out; have HX3 := Lib.hid hx3; have HB3 : Hid (Below w.heap.size w w3) := Lib.hid (HB2.out.grown hg3 HB2.out.size (fun k hk => by have := Option.some.inj hk; omega)); obtain ⟨c0, c1, c2, c3, c4, c5, c6, c7, c8, c9, c10, c11, c12⟩ := cells13 hx3; have fz := fun i => free_of hx3 i; have HM3 := Lib.hid hm3; have HP3 := Lib.hid hp3; clear hx3 hm3 hp3 hg3; obtain ⟨o3, q3, rfl, hq31, hq32, _⟩ := HP3.out rfl; have hq33 : (q3 : Int) ≤ 9223372036854775807 := (by unfold maxLen at hq32; omega); obtain ⟨d0, d1, d2, d3, d4, d5, d6, d7, d8, d9, d10, d11, d12⟩ := cells13 HM3.out)) | fail)
      rw [HZ.out, HZ2.out]
      exact bodyPost_ret (res_cell13t (t := 2) (u := 3) rfl _ _ _ _ _ _ _ _ _ _ _ _ _ _ _ _ (set13_block HX3.out _ _ _ _ _ _ _ _ _ _ _ _ _) _ rfl rfl) rfl ⟨rfl, set13_below HB3.out (Nat.le_refl _) _ _ _ _ _ _ _ _ _ _ _ _ _⟩
    · have hlri : (rl.length : Int) = 0 := by omega
      have HZ2 : Hid (readR x (0, rl, rN, rX) = (0, ((x.toNat : Nat) : Int), rN, rX)) := Lib.hid (by unfold readR; rw [if_neg (by simp)]; exact if_neg hlr)
      go_enter Try.func12, Try.ntmps12
      go_wp2_with (first | (go_at_call 19; ((with_reducible refine (HROW.out).mono ?_); rintro e w2 ⟨g, vs, rfl, hg, hfa, hfi, hb2⟩; (try dsimp only); have HM2 := Lib.hid (msg_below HM.out hb2); have HV2 := Lib.hid (HV.out.below hb2); have HX2 := Lib.hid ((hb2.block w.heap.size (by simp; omega)).trans HX.out); have HB2 := Lib.hid (Below.next HB.out hb2); have HG2 : Hid (g ≠ w.heap.size + 1) := Lib.hid (by have := HSZ.out; omega); have HFA := Lib.hid hfa; have HFI := Lib.hid hfi; clear hg hfa hfi hb2)) | (go_at_call 20; ((with_reducible refine (walkR_any g fs vs _ r b (w.heap.size + 1) x.toNat N0 X0 w2 HFA.out HG2.out HFI.out HOK.out HM2.out HV2.out HBB.out HL.out HN.out).mono ?_); unfold RdRet; rw [HRR.out]; rintro e w3 ⟨v3, rfl, hp3, hm3, hg3⟩; (try dsimp only); have hx3 := (hg3.block w.heap.size (Nat.lt_of_lt_of_le (Nat.lt_succ_self _) (Nat.le_trans (Nat.le_succ _) (by have := (Array.getElem?_eq_some_iff.1 HM2.out).1; omega))) (fun h => by have := Option.some.inj h; omega)).trans HX2.out; have HX3 := Lib.hid hx3; have HB3 : Hid (Below w.heap.size w w3) := Lib.hid (HB2.out.grown hg3 HB2.out.size (fun k hk => by have := Option.some.inj hk; omega)); obtain ⟨c0, c1, c2, c3, c4, c5, c6, c7, c8, c9, c10, c11, c12⟩ := cells13 hx3; have fz := fun i => free_of hx3 i; have HM3 := Lib.hid hm3; have HP3 := Lib.hid hp3; clear hx3 hm3 hp3 hg3; obtain ⟨o3, q3, rfl, hq31, hq32, _⟩ := HP3.out rfl; have hq33 : (q3 : Int) ≤ 9223372036854775807 := (by unfold maxLen at hq32; omega); obtain ⟨d0, d1, d2, d3, d4, d5, d6, d7, d8, d9, d10, d11, d12⟩ := cells13 HM3.out)) | fail)
      rw [HZ.out, HZ2.out]
      exact bodyPost_ret (res_cell13t (t := 2) (u := 3) rfl _ _ _ _ _ _ _ _ _ _ _ _ _ _ _ _ (set13_block HX3.out _ _ _ _ _ _ _ _ _ _ _ _ _) _ rfl rfl) rfl ⟨rfl, set13_below HB3.out (Nat.le_refl _) _ _ _ _ _ _ _ _ _ _ _ _ _⟩
  · have hei : ((rc : Int) != 0) = true := bnet (by omega)
    have HZ2 : Hid (readR x (rc, rl, rN, rX) = (rc, 0, N0, X0)) := Lib.hid (if_pos he)
    go_enter Try.func12, Try.ntmps12
    go_wp2_with (first | (go_at_call 19; ((with_reducible refine (HROW.out).mono ?_); rintro e w2 ⟨g, vs, rfl, hg, hfa, hfi, hb2⟩; (try dsimp only); have HM2 := Lib.hid (msg_below HM.out hb2); have HV2 := Lib.hid (HV.out.below hb2); have HX2 := Lib.hid ((hb2.block w.heap.size (by simp; omega)).trans HX.out); have HB2 := Lib.hid (Below.next HB.out hb2); have HG2 : Hid (g ≠ w.heap.size + 1) := Lib.hid (by have := HSZ.out; omega); have HFA := Lib.hid hfa; have HFI := Lib.hid hfi; clear hg hfa hfi hb2)) | (go_at_call 20; ((with_reducible refine (walkR_any g fs vs _ r b (w.heap.size + 1) x.toNat N0 X0 w2 HFA.out HG2.out HFI.out HOK.out HM2.out HV2.out HBB.out HL.out HN.out).mono ?_); unfold RdRet; rw [HRR.out]; rintro e w3 ⟨v3, rfl, hp3, hm3, hg3⟩; (try dsimp only); have hx3 := (hg3.block w.heap.size (Nat.lt_of_lt_of_le (Nat.lt_succ_self _) (Nat.le_trans (Nat.le_succ _) (by have := (Array.getElem?_eq_some_iff.1 HM2.out).1; omega))) (fun h => by have := Option.some.inj h; omega)).trans HX2.out; have HX3 := Lib.hid hx3; have HB3 : Hid (Below w.heap.size w w3) := Lib.hid (HB2.out.grown hg3 HB2.out.size (fun k hk => by have := Option.some.inj hk; omega)); obtain ⟨c0, c1, c2, c3, c4, c5, c6, c7, c8, c9, c10, c11, c12⟩ := cells13 hx3; have fz := fun i => free_of hx3 i; have HM3 := Lib.hid hm3; have HP3 := Lib.hid hp3; clear hx3 hm3 hp3 hg3)) | fail)
    rw [HZ.out, HZ2.out]
    exact bodyPost_ret (res_cell13t (t := 2) (u := 3) rfl _ _ _ _ _ _ _ _ _ _ _ _ _ _ _ _ (set13_block HX3.out _ _ _ _ _ _ _ _ _ _ _ _ _) _ rfl rfl) rfl ⟨rfl, set13_below HB3.out (Nat.le_refl _) _ _ _ _ _ _ _ _ _ _ _ _ _⟩
set_option maxHeartbeats 1000000 in
theorem read_one (x : UInt8) (r : List UInt8) (b off cp : Nat) (v : Value) (w : World) (fs : List Fd) (hk : fsOf x.toNat = fs) (hfs : fs ≠ []) (hc0 : w.cell? ⟨b, off, none⟩ = some (.int .u8 x.toNat)) (hv : PartB w b v r) (hl : r.length ≤ 10000000) (rc : Nat) (rl : List UInt8) (rN : Nat → Nat) (rX : Nat → ByteArray) (hR : rAll fs r N0 X0 = (rc, rl, rN, rX)) (hvv : v = .slice (some ⟨b, off, none⟩) 0 0) (hr0 : r = []) (hrc : ¬ rc = 0) : Calls Try.prog 12 #[.slice (some ⟨b, off, none⟩) 1 1] w (ReadRet6 w (readS (x :: r))) := by
  have HZ : Hid (readS (x :: r) = readR x (rc, rl, rN, rX)) := Lib.hid (by rw [← hR, ← hk]; exact if_neg (by rw [hk]; exact hfs))
  have hbl := World.block_lt_of_cell? w _ hc0
  have q0 : (w.alloc (.cells #[.int .i64 0, .int .u32 0, .int .u32 0, .int .u64 0, .string ⟨#[]⟩, .string ⟨#[]⟩, .string ⟨#[]⟩, .string ⟨#[]⟩, .string ⟨#[]⟩, .string ⟨#[]⟩, .string ⟨#[]⟩, .string ⟨#[]⟩, .string ⟨#[]⟩] 25)).cell? ⟨b, off, none⟩ = some (.int .u8 x.toNat) := old1 _ hc0
  have hx : (((w.alloc (.cells #[.int .i64 0, .int .u32 0, .int .u32 0, .int .u64 0, .string ⟨#[]⟩, .string ⟨#[]⟩, .string ⟨#[]⟩, .string ⟨#[]⟩, .string ⟨#[]⟩, .string ⟨#[]⟩, .string ⟨#[]⟩, .string ⟨#[]⟩, .string ⟨#[]⟩] 25)).alloc (.cells #[.int .i64 (x.toNat : Nat), .int .u32 0, .int .u32 0, .int .u64 0, .string ⟨#[]⟩, .string ⟨#[]⟩, .string ⟨#[]⟩, .string ⟨#[]⟩, .string ⟨#[]⟩, .string ⟨#[]⟩, .string ⟨#[]⟩, .string ⟨#[]⟩, .string ⟨#[]⟩] 25))).heap[w.heap.size]? = some (.cells #[.int .i64 0, .int .u32 0, .int .u32 0, .int .u64 0, .string ⟨#[]⟩, .string ⟨#[]⟩, .string ⟨#[]⟩, .string ⟨#[]⟩, .string ⟨#[]⟩, .string ⟨#[]⟩, .string ⟨#[]⟩, .string ⟨#[]⟩, .string ⟨#[]⟩] 25 (0, 0)) := (Below.heap_alloc _ _ _ (by simp)).trans (heap_alloc_new w _)
  have HX := Lib.hid hx
  have HSZ : Hid ((((w.alloc (.cells #[.int .i64 0, .int .u32 0, .int .u32 0, .int .u64 0, .string ⟨#[]⟩, .string ⟨#[]⟩, .string ⟨#[]⟩, .string ⟨#[]⟩, .string ⟨#[]⟩, .string ⟨#[]⟩, .string ⟨#[]⟩, .string ⟨#[]⟩, .string ⟨#[]⟩] 25)).alloc (.cells #[.int .i64 (x.toNat : Nat), .int .u32 0, .int .u32 0, .int .u64 0, .string ⟨#[]⟩, .string ⟨#[]⟩, .string ⟨#[]⟩, .string ⟨#[]⟩, .string ⟨#[]⟩, .string ⟨#[]⟩, .string ⟨#[]⟩, .string ⟨#[]⟩, .string ⟨#[]⟩] 25))).heap.size = w.heap.size + 2) := Lib.hid (by simp)
  have HB : Hid (Below w.heap.size w (((w.alloc (.cells #[.int .i64 0, .int .u32 0, .int .u32 0, .int .u64 0, .string ⟨#[]⟩, .string ⟨#[]⟩, .string ⟨#[]⟩, .string ⟨#[]⟩, .string ⟨#[]⟩, .string ⟨#[]⟩, .string ⟨#[]⟩, .string ⟨#[]⟩, .string ⟨#[]⟩] 25)).alloc (.cells #[.int .i64 (x.toNat : Nat), .int .u32 0, .int .u32 0, .int .u64 0, .string ⟨#[]⟩, .string ⟨#[]⟩, .string ⟨#[]⟩, .string ⟨#[]⟩, .string ⟨#[]⟩, .string ⟨#[]⟩, .string ⟨#[]⟩, .string ⟨#[]⟩, .string ⟨#[]⟩] 25)))) := Lib.hid (Below.next (below_one _) (below_one _))
  have cB : (((w.alloc (.cells #[.int .i64 0, .int .u32 0, .int .u32 0, .int .u64 0, .string ⟨#[]⟩, .string ⟨#[]⟩, .string ⟨#[]⟩, .string ⟨#[]⟩, .string ⟨#[]⟩, .string ⟨#[]⟩, .string ⟨#[]⟩, .string ⟨#[]⟩, .string ⟨#[]⟩] 25)).alloc (.cells #[.int .i64 (x.toNat : Nat), .int .u32 0, .int .u32 0, .int .u64 0, .string ⟨#[]⟩, .string ⟨#[]⟩, .string ⟨#[]⟩, .string ⟨#[]⟩, .string ⟨#[]⟩, .string ⟨#[]⟩, .string ⟨#[]⟩, .string ⟨#[]⟩, .string ⟨#[]⟩] 25))).cell? ⟨w.heap.size + 1, 0, none⟩ = some (.int .i64 x.toNat) := cell_of (new2 w _ _) 0 rfl
  have HROW := row_any (w.heap.size + 1) x.toNat (((w.alloc (.cells #[.int .i64 0, .int .u32 0, .int .u32 0, .int .u64 0, .string ⟨#[]⟩, .string ⟨#[]⟩, .string ⟨#[]⟩, .string ⟨#[]⟩, .string ⟨#[]⟩, .string ⟨#[]⟩, .string ⟨#[]⟩, .string ⟨#[]⟩, .string ⟨#[]⟩] 25)).alloc (.cells #[.int .i64 (x.toNat : Nat), .int .u32 0, .int .u32 0, .int .u64 0, .string ⟨#[]⟩, .string ⟨#[]⟩, .string ⟨#[]⟩, .string ⟨#[]⟩, .string ⟨#[]⟩, .string ⟨#[]⟩, .string ⟨#[]⟩, .string ⟨#[]⟩, .string ⟨#[]⟩] 25))) cB (by rw [hk]; exact hfs)
  rw [hk] at HROW
  unfold RowRet at HROW
  have HOK : Hid (∀ f ∈ fs, FdOk f) := Lib.hid (by rw [← hk]; exact fsOf_ok _)
  have HN : Hid (fs.length ≤ 7) := Lib.hid (by rw [← hk]; exact fsOf_len _)
  have HROW := Lib.hid HROW
  have HM : Hid (MsgAt (((w.alloc (.cells #[.int .i64 0, .int .u32 0, .int .u32 0, .int .u64 0, .string ⟨#[]⟩, .string ⟨#[]⟩, .string ⟨#[]⟩, .string ⟨#[]⟩, .string ⟨#[]⟩, .string ⟨#[]⟩, .string ⟨#[]⟩, .string ⟨#[]⟩, .string ⟨#[]⟩] 25)).alloc (.cells #[.int .i64 (x.toNat : Nat), .int .u32 0, .int .u32 0, .int .u64 0, .string ⟨#[]⟩, .string ⟨#[]⟩, .string ⟨#[]⟩, .string ⟨#[]⟩, .string ⟨#[]⟩, .string ⟨#[]⟩, .string ⟨#[]⟩, .string ⟨#[]⟩, .string ⟨#[]⟩] 25))) (w.heap.size + 1) x.toNat N0 X0) := Lib.hid (new2 w _ _)
  have HV := Lib.hid (hv.below HB.out)
  rw [hvv] at HV
  have HBB : Hid (b ≠ w.heap.size + 1) := Lib.hid (by simp at hbl; omega)
  have HL := Lib.hid hl
  have HRR := Lib.hid hR
  have hfl : 0 < fs.length := List.length_pos_iff.2 hfs
  have hfl0 : ¬ (fs.length : Int) = 0 := by omega
  have hxl := UInt8.toNat_lt x
  have hw64 : wrap64 (x.toNat : Int) = x.toNat := wrap64_id _ (by omega) (by omega)
  clear hr0 hk hc0 hv hl hR hx hfs hvv hbl
  have hei : ((rc : Int) != 0) = true := bnet (by omega)
  have HZ2 : Hid (readR x (rc, rl, rN, rX) = (rc, 0, N0, X0)) := Lib.hid (if_pos hrc)
  go_enter Try.func12, Try.ntmps12
  go_wp2_with (first | (go_at_call 19; ((with_reducible refine (HROW.out).mono ?_); rintro e w2 ⟨g, vs, rfl, hg, hfa, hfi, hb2⟩; (try dsimp only); have HM2 := Lib.hid (msg_below HM.out hb2); have HV2 := Lib.hid (HV.out.below hb2); have HX2 := Lib.hid ((hb2.block w.heap.size (by simp; omega)).trans HX.out); have HB2 := Lib.hid (Below.next HB.out hb2); have HG2 : Hid (g ≠ w.heap.size + 1) := Lib.hid (by have := HSZ.out; omega); have HFA := Lib.hid hfa; have HFI := Lib.hid hfi; clear hg hfa hfi hb2)) | (go_at_call 20; ((with_reducible refine (walkR_any g fs vs _ r b (w.heap.size + 1) x.toNat N0 X0 w2 HFA.out HG2.out HFI.out HOK.out HM2.out HV2.out HBB.out HL.out HN.out).mono ?_); unfold RdRet; rw [HRR.out]; rintro e w3 ⟨v3, rfl, hp3, hm3, hg3⟩; (try dsimp only); have hx3 := (hg3.block w.heap.size (Nat.lt_of_lt_of_le (Nat.lt_succ_self _) (Nat.le_trans (Nat.le_succ _) (by have := (Array.getElem?_eq_some_iff.1 HM2.out).1; omega))) (fun h => by have := Option.some.inj h; omega)).trans HX2.out; have HX3 := Lib.hid hx3; have HB3 : Hid (Below w.heap.size w w3) := Lib.hid (HB2.out.grown hg3 HB2.out.size (fun k hk => by have := Option.some.inj hk; omega)); obtain ⟨c0, c1, c2, c3, c4, c5, c6, c7, c8, c9, c10, c11, c12⟩ := cells13 hx3; have fz := fun i => free_of hx3 i; have HM3 := Lib.hid hm3; have HP3 := Lib.hid hp3; clear hx3 hm3 hp3 hg3)) | fail)
  rw [HZ.out, HZ2.out]
  exact bodyPost_ret (res_cell13t (t := 2) (u := 3) rfl _ _ _ _ _ _ _ _ _ _ _ _ _ _ _ _ (set13_block HX3.out _ _ _ _ _ _ _ _ _ _ _ _ _) _ rfl rfl) rfl ⟨rfl, set13_below HB3.out (Nat.le_refl _) _ _ _ _ _ _ _ _ _ _ _ _ _⟩
theorem rAll_nil {k : Nat} (hk : fsOf k ≠ []) : rAll (fsOf k) [] N0 X0 = (4, [], N0, X0) := by
  unfold fsOf at hk ⊢
  split; · rfl
  split; · rfl
  split; · rfl
  split; · rfl
  · rename_i h1 h2 h3 h4
    rw [if_neg h1, if_neg h2, if_neg h3, if_neg h4] at hk
    exact absurd rfl hk
theorem wread_any (v : Value) (l : List UInt8) (w : World) (hv : (l = [] ∧ ∃ a cp, v = .slice a 0 cp) ∨ ∃ b, PartB w b v l) (hl : l.length ≤ 10000000) : Calls Try.prog 12 #[v] w (ReadRet6 w (readS l)) := by
  cases l with
  | nil =>
    rcases hv with ⟨_, a, cp, rfl⟩ | ⟨b, off, cp, rfl, _⟩
    · exact read_nil a cp w
    · exact read_nil _ cp w
  | cons x r =>
    rcases hv with ⟨h, _⟩ | ⟨b, off, cp, rfl, hc1, hc2, hcell⟩
    · cases h
    · have hc0 : w.cell? ⟨b, off, none⟩ = some (.int .u8 x.toNat) := hcell 0 (by simp)
      rw [List.length_cons] at hl hc1 ⊢
      by_cases hk : fsOf x.toNat = []
      · exact read_kind x r b off cp w hk hc0
      · by_cases hcp : cp = 1
        · subst hcp
          obtain rfl : r = [] := List.length_eq_zero_iff.1 (by omega)
          exact read_one x [] b off 1 _ w _ rfl hk hc0 (part_end (l := [x]) (i := 1) rfl (by decide)) (by simp) 4 [] N0 X0 (rAll_nil hk) rfl rfl (by decide)
        · obtain ⟨rc, rl, rN, rX⟩ : Nat × List UInt8 × (Nat → Nat) × (Nat → ByteArray) := rAll (fsOf x.toNat) r N0 X0
          exact read_x x r b off cp _ w _ rfl hk hc0 (part_drop (l := x :: r) hc1 hc2 hcell 1 (by simp) (by simp) rfl) (by omega) _ _ _ _ rfl rfl hc1 hc2 hcp
end Go.Proofs.Ytjbmcjppaadkgaa

namespace Go.Proofs.Ytjbmcjppaadkgaa
set_option linter.unusedVariables false
set_option linter.unusedSimpArgs false
set_option maxRecDepth 100000
open Go.RowKit
abbrev same13 (k : Int) (N : Nat → Nat) (X : Nat → ByteArray) (k' : Int) (N' : Nat → Nat) (X' : Nat → ByteArray) : Prop :=
  k = k' ∧ N 1 = N' 1 ∧ N 2 = N' 2 ∧ N 3 = N' 3 ∧ X 4 = X' 4 ∧ X 5 = X' 5 ∧ X 6 = X' 6 ∧ X 7 = X' 7 ∧ X 8 = X' 8 ∧ X 9 = X' 9 ∧ X 10 = X' 10 ∧ X 11 = X' 11 ∧ X 12 = X' 12
def printR (k : Int) (N : Nat → Nat) (X : Nat → ByteArray) (P : List UInt8) (R : Nat × Int × (Nat → Nat) × (Nat → ByteArray)) : Nat × List UInt8 :=
  if R.1 ≠ 0 ∨ ¬ same13 R.2.1 R.2.2.1 R.2.2.2 k N X then (3, []) else (0, P)
def printP (k : Int) (N : Nat → Nat) (X : Nat → ByteArray) (P : Nat × List UInt8) : Nat × List UInt8 :=
  if P.1 ≠ 0 then (P.1, []) else printR k N X P.2 (readS P.2)
def kindB (k : Int) : Nat := if 1 ≤ k ∧ k ≤ 4 then k.toNat else 0
def printS (k : Int) (N : Nat → Nat) (X : Nat → ByteArray) : Nat × List UInt8 :=
  if kindB k = 0 then (3, []) else printP k N X (pAll N X (fsOf (kindB k)) [UInt8.ofNat (kindB k)])
def PrintRet6 (w : World) (r : Nat × List UInt8) (e : Ending) (w' : World) : Prop :=
  ∃ v, e = .returned (.tuple #[v, .int .i64 r.1]) ∧ (r.1 ≠ 0 → v = .slice none 0 0) ∧ (r.1 = 0 → ∃ base, RowB w' base v r.2) ∧ Below w.heap.size w w'
theorem row_part {w : World} {base : Nat} {v : Value} {L : List UInt8} (h : RowB w base v L) : (L = [] ∧ ∃ a cp, v = .slice a 0 cp) ∨ ∃ b, PartB w b v L := by
  by_cases h0 : 0 < L.length
  · obtain ⟨g, cap, rfl, hg, h1, h2⟩ := own_at h h0
    refine .inr ⟨g, 0, cap, rfl, h1, h2, fun i hi => ?_⟩
    rw [Nat.zero_add, h.cellAt i (by omega)]
    unfold cellsOf
    simp [List.getD, List.getElem?_eq_getElem hi]
  · have hL : L = [] := List.length_eq_zero_iff.1 (by omega)
    subst hL
    refine .inl ⟨rfl, ?_⟩
    rcases h.2 with ⟨rfl, _⟩ | ⟨g, cap, cur, rfl, _⟩
    · exact ⟨_, _, rfl⟩
    · exact ⟨_, _, rfl⟩
theorem row_below {w w' : World} {base : Nat} {v : Value} {L : List UInt8} (h : RowB w base v L) (hb : Below w.heap.size w w') : RowB w' base v L := by
  unfold RowB at h ⊢
  refine ⟨h.1, ?_⟩
  rcases h.2 with h | ⟨g, cap, cur, h1, h2, h3, h4⟩
  · exact .inl h
  · exact .inr ⟨g, cap, cur, h1, h2, (hb.block g (Array.getElem?_eq_some_iff.1 h3).1).trans h3, h4⟩
theorem row_one (w : World) (x : UInt8) (n : Int) (hn : n = x.toNat) : RowB (w.alloc (.cells #[.int .u8 n] 5)) w.heap.size (.slice (some ⟨w.heap.size, 0, none⟩) 1 1) [x] := by
  subst hn
  exact ⟨rfl, .inr ⟨w.heap.size, 1, _, rfl, Nat.le_refl _, heap_alloc_new w _, Nat.le_refl _, by decide, rfl, rfl⟩⟩
theorem pAll_len (N : Nat → Nat) (X : Nat → ByteArray) : ∀ (fs : List Fd) (L : List UInt8), (pAll N X fs L).2.length ≤ L.length + fs.length * 65537
  | [], L => by simp [pAll]
  | f :: fs, L => by
    have h1 := pF_len N X f L
    have h2 := pAll_len N X fs (pF N X f L).2
    unfold pAll
    split
    · simp only [List.length_cons]; omega
    · simp only [List.length_cons]; omega
set_option maxHeartbeats 1000000 in
theorem msg_neq (w : World) (rk : Int) (rN : Nat → Nat) (rX : Nat → ByteArray) (k : Int) (N : Nat → Nat) (X : Nat → ByteArray) (bq : Bool) (h : bq = !decide (same13 rk rN rX k N X)) :
    (binOp .neq 25 (.agg #[.int .i64 rk, .int .u32 (rN 1 : Nat), .int .u32 (rN 2 : Nat), .int .u64 (rN 3 : Nat), .string (rX 4), .string (rX 5), .string (rX 6), .string (rX 7), .string (rX 8), .string (rX 9), .string (rX 10), .string (rX 11), .string (rX 12)]) (.agg #[.int .i64 k, .int .u32 (N 1 : Nat), .int .u32 (N 2 : Nat), .int .u64 (N 3 : Nat), .string (X 4), .string (X 5), .string (X 6), .string (X 7), .string (X 8), .string (X 9), .string (X 10), .string (X 11), .string (X 12)])).run Try.prog w = .ok (.bool bq) w := by
  by_cases hall : same13 rk rN rX k N X
  · rw [h, decide_eq_true hall]
    obtain ⟨h0, h1, h2, h3, h4, h5, h6, h7, h8, h9, h10, h11, h12⟩ := hall
    rw [h0, h1, h2, h3, h4, h5, h6, h7, h8, h9, h10, h11, h12]
    go_simp
  · rw [h, decide_eq_false hall]
    clear h
    go_simp
    intro q0 q1 q2 q3 q4 q5 q6 q7 q8 q9 q10 q11 q12
    exact absurd ⟨q0, by omega, by omega, by omega, ba_inj q4, ba_inj q5, ba_inj q6, ba_inj q7, ba_inj q8, ba_inj q9, ba_inj q10, ba_inj q11, ba_inj q12⟩ hall
theorem print_kind (k : Int) (N : Nat → Nat) (X : Nat → ByteArray) (w : World) (hk : kindB k = 0) : Calls Try.prog 7 #[.agg #[.int .i64 k, .int .u32 (N 1 : Nat), .int .u32 (N 2 : Nat), .int .u64 (N 3 : Nat), .string (X 4), .string (X 5), .string (X 6), .string (X 7), .string (X 8), .string (X 9), .string (X 10), .string (X 11), .string (X 12)]] w (PrintRet6 w (printS k N X)) := by
  have HZ : Hid (printS k N X = (3, [])) := Lib.hid (if_pos hk)
  have hkk : k ≠ 1 ∧ k ≠ 2 ∧ k ≠ 3 ∧ k ≠ 4 := by unfold kindB at hk; split at hk <;> omega
  have cB : (w.alloc (.cells #[.int .i64 k, .int .u32 (N 1 : Nat), .int .u32 (N 2 : Nat), .int .u64 (N 3 : Nat), .string (X 4), .string (X 5), .string (X 6), .string (X 7), .string (X 8), .string (X 9), .string (X 10), .string (X 11), .string (X 12)] 25)).cell? ⟨w.heap.size, 0, none⟩ = some (.int .i64 k) := cell_of (heap_alloc_new w _) 0 rfl
  have HROW := Lib.hid (row_no w.heap.size k (w.alloc (.cells #[.int .i64 k, .int .u32 (N 1 : Nat), .int .u32 (N 2 : Nat), .int .u64 (N 3 : Nat), .string (X 4), .string (X 5), .string (X 6), .string (X 7), .string (X 8), .string (X 9), .string (X 10), .string (X 11), .string (X 12)] 25)) cB hkk.1 hkk.2.1 hkk.2.2.1 hkk.2.2.2)
  clear hk hkk
  go_enter Try.func7, Try.ntmps7
  go_wp2_with (first | (go_at_call 19; ((with_reducible refine (HROW.out).mono ?_); rintro e w2 ⟨rfl, rfl⟩; (try dsimp only))) | fail)
  go_ret2
  rw [HZ.out]
  exact ⟨_, rfl, fun _ => rfl, fun h => absurd h (by simp), below_one _⟩
end Go.Proofs.Ytjbmcjppaadkgaa
