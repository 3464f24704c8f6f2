/- Packets: look by contract. -/
import Derived.Test.YtkhomjbggfjleaaPkt1
namespace Go.Proofs.Ytkhomjbggfjleaa
set_option linter.unusedVariables false
set_option linter.unusedSimpArgs false
set_option maxRecDepth 100000
open Go.RowKit
theorem byver_4 (w : World) : Calls Try.prog 19 #[.int .u8 4] w fun e w' => e = .returned (.tuple #[.agg #[.int .i64 4, .int .u8 69, .int .i64 20, .int .i64 2, .int .i64 0, .int .i64 12, .int .i64 16, .int .i64 4], .bool true]) ∧ Below w.heap.size w w' := by
  have h4 := four_any
  go_enter Try.func19, Try.ntmps19
  go_wp2_with (first | (go_at_call 22; ((with_reducible refine (h4 _).mono ?_); rintro e w2 ⟨rfl, hb2⟩; have hx := (hb2.block w.heap.size (by simp)).trans (heap_alloc_new w (.cells #[.int .i64 0, .int .u8 0, .int .i64 0, .int .i64 0, .int .i64 0, .int .i64 0, .int .i64 0, .int .i64 0] 40)); have HX := Lib.hid hx; have hz := fun i => free_of hx i; have HB := Lib.hid (Below.next (below_one (w := w) (.cells #[.int .i64 0, .int .u8 0, .int .i64 0, .int .i64 0, .int .i64 0, .int .i64 0, .int .i64 0, .int .i64 0] 40)) hb2); obtain ⟨c0, c1, c2, c3, c4, c5, c6, c7⟩ := cells8 hx; clear hx hb2)) | fail)
  exact bodyPost_ret (res_cell8t rfl _ _ _ _ _ _ _ _ _ _ _ (set8_block HX.out _ _ _ _ _ _ _ _) _ rfl rfl) rfl ⟨rfl, set8_below HB.out (Nat.le_refl _) _ _ _ _ _ _ _ _⟩
theorem byver_6 (w : World) : Calls Try.prog 19 #[.int .u8 6] w fun e w' => e = .returned (.tuple #[.agg #[.int .i64 6, .int .u8 96, .int .i64 40, .int .i64 4, .int .i64 40, .int .i64 8, .int .i64 24, .int .i64 16], .bool true]) ∧ Below w.heap.size w w' := by
  have h6 := six_any
  go_enter Try.func19, Try.ntmps19
  go_wp2_with (first | (go_at_call 23; ((with_reducible refine (h6 _).mono ?_); rintro e w2 ⟨rfl, hb2⟩; have hx := (hb2.block w.heap.size (by simp)).trans (heap_alloc_new w (.cells #[.int .i64 0, .int .u8 0, .int .i64 0, .int .i64 0, .int .i64 0, .int .i64 0, .int .i64 0, .int .i64 0] 40)); have HX := Lib.hid hx; have hz := fun i => free_of hx i; have HB := Lib.hid (Below.next (below_one (w := w) (.cells #[.int .i64 0, .int .u8 0, .int .i64 0, .int .i64 0, .int .i64 0, .int .i64 0, .int .i64 0, .int .i64 0] 40)) hb2); obtain ⟨c0, c1, c2, c3, c4, c5, c6, c7⟩ := cells8 hx; clear hx hb2)) | fail)
  exact bodyPost_ret (res_cell8t rfl _ _ _ _ _ _ _ _ _ _ _ (set8_block HX.out _ _ _ _ _ _ _ _) _ rfl rfl) rfl ⟨rfl, set8_below HB.out (Nat.le_refl _) _ _ _ _ _ _ _ _⟩
theorem byver_0 (v : Int) (h4 : v ≠ 4) (h6 : v ≠ 6) (w : World) : Calls Try.prog 19 #[.int .u8 v] w fun e w' => e = .returned (.tuple #[.agg #[.int .i64 0, .int .u8 0, .int .i64 0, .int .i64 0, .int .i64 0, .int .i64 0, .int .i64 0, .int .i64 0], .bool false]) ∧ Below w.heap.size w w' := by
  have e4 : (v == 4) = false := beqf h4
  have e6 : (v == 6) = false := beqf h6
  clear h4 h6
  go_enter Try.func19, Try.ntmps19
  go_wp2_with fail
  exact bodyPost_ret (res_cell8t rfl _ _ _ _ _ _ _ _ _ _ _ (heap_alloc_new w _) _ rfl rfl) rfl ⟨rfl, below_one _⟩
theorem beg_6 (v : Value) (w : World) : Calls Try.prog 20 #[.agg #[.int .i64 6, .int .u8 96, .int .i64 40, .int .i64 4, .int .i64 40, .int .i64 8, .int .i64 24, .int .i64 16], v] w fun e w' => e = .returned (.int .i64 40) ∧ Below w.heap.size w w' := by
  have e0 := heap_alloc_new w (.cells #[.int .i64 6, .int .u8 96, .int .i64 40, .int .i64 4, .int .i64 40, .int .i64 8, .int .i64 24, .int .i64 16] 40)
  have c0 : (w.alloc (.cells #[.int .i64 6, .int .u8 96, .int .i64 40, .int .i64 4, .int .i64 40, .int .i64 8, .int .i64 24, .int .i64 16] 40)).cell? ⟨w.heap.size, 0, none⟩ = some (.int .i64 6) := cell_of e0 0 rfl
  have c2 : (w.alloc (.cells #[.int .i64 6, .int .u8 96, .int .i64 40, .int .i64 4, .int .i64 40, .int .i64 8, .int .i64 24, .int .i64 16] 40)).cell? ⟨w.heap.size, 2, none⟩ = some (.int .i64 40) := cell_of e0 2 rfl
  go_enter Try.func20, Try.ntmps20
  go_wp2_with fail
  go_ret
  exact ⟨rfl, below_one _⟩
theorem beg_4 (l : List UInt8) (b off cp : Nat) (h0 : 0 < l.length) (w : World) (hc : ∀ i, i < l.length → w.cell? ⟨b, off + i, none⟩ = some (.int .u8 (l.getD i 0).toNat)) : Calls Try.prog 20 #[.agg #[.int .i64 4, .int .u8 69, .int .i64 20, .int .i64 2, .int .i64 0, .int .i64 12, .int .i64 16, .int .i64 4], .slice (some ⟨b, off, none⟩) l.length cp] w fun e w' => e = .returned (.int .i64 (4 * ((l.getD 0 0).toNat % 16) : Nat)) ∧ Below w.heap.size w w' := by
  have e0 := heap_alloc_new w (.cells #[.int .i64 4, .int .u8 69, .int .i64 20, .int .i64 2, .int .i64 0, .int .i64 12, .int .i64 16, .int .i64 4] 40)
  have c0 : (w.alloc (.cells #[.int .i64 4, .int .u8 69, .int .i64 20, .int .i64 2, .int .i64 0, .int .i64 12, .int .i64 16, .int .i64 4] 40)).cell? ⟨w.heap.size, 0, none⟩ = some (.int .i64 4) := cell_of e0 0 rfl
  have cb : (w.alloc (.cells #[.int .i64 4, .int .u8 69, .int .i64 20, .int .i64 2, .int .i64 0, .int .i64 12, .int .i64 16, .int .i64 4] 40)).cell? ⟨b, off, none⟩ = some (.int .u8 (l.getD 0 0).toNat) := cell_keep4 (by have := hc 0 h0; simpa using this) (below_one _)
  have hand := and15 (l.getD 0 0)
  have h0i : (0 : Int) < l.length := by omega
  generalize l.getD 0 0 = u at *
  have hub := UInt8.toNat_lt u
  have hw1 := wrap_i64 ((u.toNat : Int) % 16) (by omega) (by omega)
  have hw2 := wrap_i64 (4 * ((u.toNat : Int) % 16)) (by omega) (by omega)
  go_enter Try.func20, Try.ntmps20
  go_wp2_with fail
  go_ret
  exact ⟨ret_int (by omega), below_one _⟩
theorem len_6 (l : List UInt8) (b off cp : Nat) (h0 : 5 < l.length) (w : World) (hc : ∀ i, i < l.length → w.cell? ⟨b, off + i, none⟩ = some (.int .u8 (l.getD i 0).toNat)) : Calls Try.prog 21 #[.agg #[.int .i64 6, .int .u8 96, .int .i64 40, .int .i64 4, .int .i64 40, .int .i64 8, .int .i64 24, .int .i64 16], .slice (some ⟨b, off, none⟩) l.length cp] w fun e w' => e = .returned (.int .i64 (40 + 256 * (l.getD 4 0).toNat + (l.getD 5 0).toNat : Nat)) ∧ Below w.heap.size w w' := by
  have e0 := heap_alloc_new w (.cells #[.int .i64 6, .int .u8 96, .int .i64 40, .int .i64 4, .int .i64 40, .int .i64 8, .int .i64 24, .int .i64 16] 40)
  obtain ⟨c0, c1, c2, c3, c4, c5, c6, c7⟩ := cells8 e0
  have cb4 : (w.alloc (.cells #[.int .i64 6, .int .u8 96, .int .i64 40, .int .i64 4, .int .i64 40, .int .i64 8, .int .i64 24, .int .i64 16] 40)).cell? ⟨b, off + 4, none⟩ = some (.int .u8 (l.getD 4 0).toNat) := cell_keep4 (hc 4 (by omega)) (below_one _)
  have cb5 : (w.alloc (.cells #[.int .i64 6, .int .u8 96, .int .i64 40, .int .i64 4, .int .i64 40, .int .i64 8, .int .i64 24, .int .i64 16] 40)).cell? ⟨b, off + 5, none⟩ = some (.int .u8 (l.getD 5 0).toNat) := cell_keep4 (hc 5 (by omega)) (below_one _)
  have h0i : (5 : Int) < l.length := by omega
  have h4i : (4 : Int) < l.length := by omega
  generalize l.getD 4 0 = u at *
  generalize l.getD 5 0 = v at *
  have hub := UInt8.toNat_lt u
  have hvb := UInt8.toNat_lt v
  clear hc e0
  go_enter Try.func21, Try.ntmps21
  go_wp2_with fail
  go_quiet (fail)
  all_goals go_wp2_with fail
  all_goals go_ret
  all_goals exact ⟨ret_int (by omega), below_dr (below_one _) _⟩
theorem len_4 (l : List UInt8) (b off cp : Nat) (h0 : 3 < l.length) (w : World) (hc : ∀ i, i < l.length → w.cell? ⟨b, off + i, none⟩ = some (.int .u8 (l.getD i 0).toNat)) : Calls Try.prog 21 #[.agg #[.int .i64 4, .int .u8 69, .int .i64 20, .int .i64 2, .int .i64 0, .int .i64 12, .int .i64 16, .int .i64 4], .slice (some ⟨b, off, none⟩) l.length cp] w fun e w' => e = .returned (.int .i64 (256 * (l.getD 2 0).toNat + (l.getD 3 0).toNat : Nat)) ∧ Below w.heap.size w w' := by
  have e0 := heap_alloc_new w (.cells #[.int .i64 4, .int .u8 69, .int .i64 20, .int .i64 2, .int .i64 0, .int .i64 12, .int .i64 16, .int .i64 4] 40)
  obtain ⟨c0, c1, c2, c3, c4, c5, c6, c7⟩ := cells8 e0
  have cb4 : (w.alloc (.cells #[.int .i64 4, .int .u8 69, .int .i64 20, .int .i64 2, .int .i64 0, .int .i64 12, .int .i64 16, .int .i64 4] 40)).cell? ⟨b, off + 2, none⟩ = some (.int .u8 (l.getD 2 0).toNat) := cell_keep4 (hc 2 (by omega)) (below_one _)
  have cb5 : (w.alloc (.cells #[.int .i64 4, .int .u8 69, .int .i64 20, .int .i64 2, .int .i64 0, .int .i64 12, .int .i64 16, .int .i64 4] 40)).cell? ⟨b, off + 3, none⟩ = some (.int .u8 (l.getD 3 0).toNat) := cell_keep4 (hc 3 (by omega)) (below_one _)
  have h0i : (3 : Int) < l.length := by omega
  have h4i : (2 : Int) < l.length := by omega
  generalize l.getD 2 0 = u at *
  generalize l.getD 3 0 = v at *
  have hub := UInt8.toNat_lt u
  have hvb := UInt8.toNat_lt v
  clear hc e0
  go_enter Try.func21, Try.ntmps21
  go_wp2_with fail
  go_quiet (fail)
  all_goals go_wp2_with fail
  all_goals go_ret
  all_goals exact ⟨ret_int (by omega), below_dr (below_one _) _⟩
end Go.Proofs.Ytkhomjbggfjleaa
