/- Texts of this seat, merged: Wire31, WireM2, WireM3, Wire32, WireM4. -/
import Derived.Test.YtjbmcjppaadkgaaGP14
namespace Go.Proofs.Ytjbmcjppaadkgaa
set_option linter.unusedVariables false
set_option linter.unusedSimpArgs false
set_option maxRecDepth 100000
open Go.RowKit
theorem rnum6_any (n : Nat) (hn : n ≤ top) (w : World) : Calls Try.prog 30 #[.int .u64 (n : Nat)] w fun e w' => e = .returned (.string (strB (numT n))) ∧ Below w.heap.size w w' := by
  have HM := Lib.hid (show Calls Try.prog 40 #[.int .i64 3, .int .u64 (n : Nat), .slice none 0 0, .slice none 0 0] w fun e w' => e = .returned (.string (strB (numT n))) ∧ Below w.heap.size w w' from rmake_any 3 n hn _ _ [] [] w (bytes_nil w) (strs_nil w) (by decide) (by decide) (fun x hx => by cases hx))
  go_enter Try.func30, Try.ntmps30
  go_wp2_with (first | (go_at_call 40; ((with_reducible refine (HM.out).mono ?_); rintro e w2 ⟨rfl, hb⟩)) | fail)
  go_ret
  exact ⟨rfl, hb⟩
theorem rlist6_any (v : Value) (l : List (List UInt8)) (w : World) (hl : Strs w v l) (hll : l.length ≤ 1000) (hsz : ∀ x ∈ l, x.length ≤ maxLen) : Calls Try.prog 31 #[v] w fun e w' => e = .returned (.string (strB (listT l))) ∧ Below w.heap.size w w' := by
  have HM := Lib.hid (show Calls Try.prog 40 #[.int .i64 11, .int .u64 0, .slice none 0 0, v] w fun e w' => e = .returned (.string (strB (listT l))) ∧ Below w.heap.size w w' from rmake_any 11 0 (by decide) _ v [] l w (bytes_nil w) hl (by decide) hll hsz)
  go_enter Try.func31, Try.ntmps31
  go_wp2_with (first | (go_at_call 40; ((with_reducible refine (HM.out).mono ?_); rintro e w2 ⟨rfl, hb⟩)) | fail)
  go_ret
  exact ⟨rfl, hb⟩
def rbodyS (k : Int) (N : Nat → Nat) (X : Nat → ByteArray) : List UInt8 := if rightP k N X = true ∧ k ≤ 2 then bodyT (kindB k) N X else []
set_option maxHeartbeats 2000000 in
theorem rbody_no (k : Int) (N : Nat → Nat) (X : Nat → ByteArray) (w : World) (hN : NumOk N) (hsz : ∀ c, (X c).size ≤ maxLen) (hno : rightP k N X = false ∨ (rightP k N X = true ∧ 2 < k)) : Calls Try.prog 16 #[.agg #[.int .i64 k, .int .u32 (N 1 : Nat), .int .u32 (N 2 : Nat), .int .u64 (N 3 : Nat), .string (X 4), .string (X 5), .string (X 6), .string (X 7), .string (X 8), .string (X 9), .string (X 10), .string (X 11), .string (X 12)]] w fun e w' => e = .returned (.string (strB (rbodyS k N X))) ∧ Below w.heap.size w w' := by
  have HZ : Hid (rbodyS k N X = []) := Lib.hid (if_neg (fun h => hno.elim (fun h1 => by rw [h1] at h; exact absurd h.1 (by decide)) (fun h2 => by omega)))
  have HM : Hid (MsgAt (w.alloc (.cells #[.int .i64 k, .int .u32 (N 1 : Nat), .int .u32 (N 2 : Nat), .int .u64 (N 3 : Nat), .string (X 4), .string (X 5), .string (X 6), .string (X 7), .string (X 8), .string (X 9), .string (X 10), .string (X 11), .string (X 12)] 25)) w.heap.size k N X) := Lib.hid (heap_alloc_new w _)
  have c0 : (w.alloc (.cells #[.int .i64 k, .int .u32 (N 1 : Nat), .int .u32 (N 2 : Nat), .int .u64 (N 3 : Nat), .string (X 4), .string (X 5), .string (X 6), .string (X 7), .string (X 8), .string (X 9), .string (X 10), .string (X 11), .string (X 12)] 25)).cell? ⟨w.heap.size, 0, none⟩ = some (.int .i64 k) := cell_of HM.out 0 rfl; have c1 : (w.alloc (.cells #[.int .i64 k, .int .u32 (N 1 : Nat), .int .u32 (N 2 : Nat), .int .u64 (N 3 : Nat), .string (X 4), .string (X 5), .string (X 6), .string (X 7), .string (X 8), .string (X 9), .string (X 10), .string (X 11), .string (X 12)] 25)).cell? ⟨w.heap.size, 1, none⟩ = some (.int .u32 (N 1 : Nat)) := cell_of HM.out 1 rfl; have c2 : (w.alloc (.cells #[.int .i64 k, .int .u32 (N 1 : Nat), .int .u32 (N 2 : Nat), .int .u64 (N 3 : Nat), .string (X 4), .string (X 5), .string (X 6), .string (X 7), .string (X 8), .string (X 9), .string (X 10), .string (X 11), .string (X 12)] 25)).cell? ⟨w.heap.size, 2, none⟩ = some (.int .u32 (N 2 : Nat)) := cell_of HM.out 2 rfl; have c3 : (w.alloc (.cells #[.int .i64 k, .int .u32 (N 1 : Nat), .int .u32 (N 2 : Nat), .int .u64 (N 3 : Nat), .string (X 4), .string (X 5), .string (X 6), .string (X 7), .string (X 8), .string (X 9), .string (X 10), .string (X 11), .string (X 12)] 25)).cell? ⟨w.heap.size, 3, none⟩ = some (.int .u64 (N 3 : Nat)) := cell_of HM.out 3 rfl; have c4 : (w.alloc (.cells #[.int .i64 k, .int .u32 (N 1 : Nat), .int .u32 (N 2 : Nat), .int .u64 (N 3 : Nat), .string (X 4), .string (X 5), .string (X 6), .string (X 7), .string (X 8), .string (X 9), .string (X 10), .string (X 11), .string (X 12)] 25)).cell? ⟨w.heap.size, 4, none⟩ = some (.string (X 4)) := cell_of HM.out 4 rfl; have c5 : (w.alloc (.cells #[.int .i64 k, .int .u32 (N 1 : Nat), .int .u32 (N 2 : Nat), .int .u64 (N 3 : Nat), .string (X 4), .string (X 5), .string (X 6), .string (X 7), .string (X 8), .string (X 9), .string (X 10), .string (X 11), .string (X 12)] 25)).cell? ⟨w.heap.size, 5, none⟩ = some (.string (X 5)) := cell_of HM.out 5 rfl; have c6 : (w.alloc (.cells #[.int .i64 k, .int .u32 (N 1 : Nat), .int .u32 (N 2 : Nat), .int .u64 (N 3 : Nat), .string (X 4), .string (X 5), .string (X 6), .string (X 7), .string (X 8), .string (X 9), .string (X 10), .string (X 11), .string (X 12)] 25)).cell? ⟨w.heap.size, 6, none⟩ = some (.string (X 6)) := cell_of HM.out 6 rfl; have c7 : (w.alloc (.cells #[.int .i64 k, .int .u32 (N 1 : Nat), .int .u32 (N 2 : Nat), .int .u64 (N 3 : Nat), .string (X 4), .string (X 5), .string (X 6), .string (X 7), .string (X 8), .string (X 9), .string (X 10), .string (X 11), .string (X 12)] 25)).cell? ⟨w.heap.size, 7, none⟩ = some (.string (X 7)) := cell_of HM.out 7 rfl; have c8 : (w.alloc (.cells #[.int .i64 k, .int .u32 (N 1 : Nat), .int .u32 (N 2 : Nat), .int .u64 (N 3 : Nat), .string (X 4), .string (X 5), .string (X 6), .string (X 7), .string (X 8), .string (X 9), .string (X 10), .string (X 11), .string (X 12)] 25)).cell? ⟨w.heap.size, 8, none⟩ = some (.string (X 8)) := cell_of HM.out 8 rfl; have c9 : (w.alloc (.cells #[.int .i64 k, .int .u32 (N 1 : Nat), .int .u32 (N 2 : Nat), .int .u64 (N 3 : Nat), .string (X 4), .string (X 5), .string (X 6), .string (X 7), .string (X 8), .string (X 9), .string (X 10), .string (X 11), .string (X 12)] 25)).cell? ⟨w.heap.size, 9, none⟩ = some (.string (X 9)) := cell_of HM.out 9 rfl; have c10 : (w.alloc (.cells #[.int .i64 k, .int .u32 (N 1 : Nat), .int .u32 (N 2 : Nat), .int .u64 (N 3 : Nat), .string (X 4), .string (X 5), .string (X 6), .string (X 7), .string (X 8), .string (X 9), .string (X 10), .string (X 11), .string (X 12)] 25)).cell? ⟨w.heap.size, 10, none⟩ = some (.string (X 10)) := cell_of HM.out 10 rfl; have c11 : (w.alloc (.cells #[.int .i64 k, .int .u32 (N 1 : Nat), .int .u32 (N 2 : Nat), .int .u64 (N 3 : Nat), .string (X 4), .string (X 5), .string (X 6), .string (X 7), .string (X 8), .string (X 9), .string (X 10), .string (X 11), .string (X 12)] 25)).cell? ⟨w.heap.size, 11, none⟩ = some (.string (X 11)) := cell_of HM.out 11 rfl; have c12 : (w.alloc (.cells #[.int .i64 k, .int .u32 (N 1 : Nat), .int .u32 (N 2 : Nat), .int .u64 (N 3 : Nat), .string (X 4), .string (X 5), .string (X 6), .string (X 7), .string (X 8), .string (X 9), .string (X 10), .string (X 11), .string (X 12)] 25)).cell? ⟨w.heap.size, 12, none⟩ = some (.string (X 12)) := cell_of HM.out 12 rfl
  have HB : Hid (Below w.heap.size w (w.alloc (.cells #[.int .i64 k, .int .u32 (N 1 : Nat), .int .u32 (N 2 : Nat), .int .u64 (N 3 : Nat), .string (X 4), .string (X 5), .string (X 6), .string (X 7), .string (X 8), .string (X 9), .string (X 10), .string (X 11), .string (X 12)] 25))) := Lib.hid (below_one _)
  have hri := rright6_any k N X (w.alloc (.cells #[.int .i64 k, .int .u32 (N 1 : Nat), .int .u32 (N 2 : Nat), .int .u64 (N 3 : Nat), .string (X 4), .string (X 5), .string (X 6), .string (X 7), .string (X 8), .string (X 9), .string (X 10), .string (X 11), .string (X 12)] 25)) hN hsz
  generalize rightP k N X = q at *
  have HRI := Lib.hid hri
  clear hri
  rcases hno with rfl | ⟨rfl, h2⟩
  · go_enter Try.func16, Try.ntmps16
    go_wp2_with (first | (go_at_call 8; ((with_reducible refine (HRI.out).mono ?_); rintro e w2 ⟨rfl, hb2⟩; have HM := Lib.hid (msg_below HM.out hb2); have c0 : w2.cell? ⟨w.heap.size, 0, none⟩ = some (.int .i64 k) := cell_of HM.out 0 rfl; have c1 : w2.cell? ⟨w.heap.size, 1, none⟩ = some (.int .u32 (N 1 : Nat)) := cell_of HM.out 1 rfl; have c2 : w2.cell? ⟨w.heap.size, 2, none⟩ = some (.int .u32 (N 2 : Nat)) := cell_of HM.out 2 rfl; have c3 : w2.cell? ⟨w.heap.size, 3, none⟩ = some (.int .u64 (N 3 : Nat)) := cell_of HM.out 3 rfl; have c4 : w2.cell? ⟨w.heap.size, 4, none⟩ = some (.string (X 4)) := cell_of HM.out 4 rfl; have c5 : w2.cell? ⟨w.heap.size, 5, none⟩ = some (.string (X 5)) := cell_of HM.out 5 rfl; have c6 : w2.cell? ⟨w.heap.size, 6, none⟩ = some (.string (X 6)) := cell_of HM.out 6 rfl; have c7 : w2.cell? ⟨w.heap.size, 7, none⟩ = some (.string (X 7)) := cell_of HM.out 7 rfl; have c8 : w2.cell? ⟨w.heap.size, 8, none⟩ = some (.string (X 8)) := cell_of HM.out 8 rfl; have c9 : w2.cell? ⟨w.heap.size, 9, none⟩ = some (.string (X 9)) := cell_of HM.out 9 rfl; have c10 : w2.cell? ⟨w.heap.size, 10, none⟩ = some (.string (X 10)) := cell_of HM.out 10 rfl; have c11 : w2.cell? ⟨w.heap.size, 11, none⟩ = some (.string (X 11)) := cell_of HM.out 11 rfl; have c12 : w2.cell? ⟨w.heap.size, 12, none⟩ = some (.string (X 12)) := cell_of HM.out 12 rfl; have HB := Lib.hid (Below.next HB.out hb2); clear hb2)) | fail)
    go_ret
    rw [HZ.out]
    exact ⟨rfl, HB.out⟩
  · go_enter Try.func16, Try.ntmps16
    go_wp2_with (first | (go_at_call 8; ((with_reducible refine (HRI.out).mono ?_); rintro e w2 ⟨rfl, hb2⟩; have HM := Lib.hid (msg_below HM.out hb2); have c0 : w2.cell? ⟨w.heap.size, 0, none⟩ = some (.int .i64 k) := cell_of HM.out 0 rfl; have c1 : w2.cell? ⟨w.heap.size, 1, none⟩ = some (.int .u32 (N 1 : Nat)) := cell_of HM.out 1 rfl; have c2 : w2.cell? ⟨w.heap.size, 2, none⟩ = some (.int .u32 (N 2 : Nat)) := cell_of HM.out 2 rfl; have c3 : w2.cell? ⟨w.heap.size, 3, none⟩ = some (.int .u64 (N 3 : Nat)) := cell_of HM.out 3 rfl; have c4 : w2.cell? ⟨w.heap.size, 4, none⟩ = some (.string (X 4)) := cell_of HM.out 4 rfl; have c5 : w2.cell? ⟨w.heap.size, 5, none⟩ = some (.string (X 5)) := cell_of HM.out 5 rfl; have c6 : w2.cell? ⟨w.heap.size, 6, none⟩ = some (.string (X 6)) := cell_of HM.out 6 rfl; have c7 : w2.cell? ⟨w.heap.size, 7, none⟩ = some (.string (X 7)) := cell_of HM.out 7 rfl; have c8 : w2.cell? ⟨w.heap.size, 8, none⟩ = some (.string (X 8)) := cell_of HM.out 8 rfl; have c9 : w2.cell? ⟨w.heap.size, 9, none⟩ = some (.string (X 9)) := cell_of HM.out 9 rfl; have c10 : w2.cell? ⟨w.heap.size, 10, none⟩ = some (.string (X 10)) := cell_of HM.out 10 rfl; have c11 : w2.cell? ⟨w.heap.size, 11, none⟩ = some (.string (X 11)) := cell_of HM.out 11 rfl; have c12 : w2.cell? ⟨w.heap.size, 12, none⟩ = some (.string (X 12)) := cell_of HM.out 12 rfl; have HB := Lib.hid (Below.next HB.out hb2); clear hb2)) | fail)
    go_ret
    rw [HZ.out]
    exact ⟨rfl, HB.out⟩
theorem row_head (W : World) (kn : Nat) (N : Nat → Nat) : (W.alloc (.cells #[.string (strB (numT kn)), .string (strB (numT (N 1))), .string (strB (numT (N 2)))] 9)).ownsRow W.heap.size 9 1 (.slice (some ⟨W.heap.size, 0, none⟩) 3 3) 3 ((headT kn N).map strV) :=
  ⟨rfl, .inr ⟨W.heap.size, 3, _, rfl, Nat.le_refl _, heap_alloc_new W _, Nat.le_refl _, by decide, rfl, rfl⟩⟩
theorem blk_strs {w : World} {b n c : Nat} {T : List (List UInt8)} (h : w.heap[b]? = some (.cells (T.map strV).toArray 9 (0, 0))) (m : Nat) (hm : m ≤ T.length) (hn : n = m) : Strs w (.slice (some ⟨b, 0, none⟩) n c) (T.take m) := by
  subst hn
  refine ⟨_, _, by rw [List.length_take, Nat.min_eq_left hm], fun h => (by cases h), .inr ⟨b, 0, rfl, fun i hi => ?_⟩⟩
  rw [List.length_take] at hi
  rw [Nat.zero_add]
  have : i < T.length := by omega
  refine cell_of h i ?_
  simp only [List.getD, List.getElem?_take]
  rw [if_pos (by omega), List.getElem?_eq_getElem this]
  simp [List.getElem?_eq_getElem this]
theorem make_len (k n : Nat) (b : List UInt8) (l : List (List UInt8)) (h1 : 1 ≤ k) : (makeK k n b l).length ≤ 65536 := by
  unfold makeK
  split
  · simp
  split
  · rename_i h
    have hL : isL (wText k n b (sortL k l)) = true := by unfold isL; exact decide_eq_true (by rw [h.1]; omega)
    exact (isL_whole.1 hL).1
  · simp
theorem num_len (n : Nat) : (numT n).length ≤ maxLen := Nat.le_trans (by unfold numT makeR; rw [if_pos (by decide)]; exact make_len 3 n [] [] (by decide)) (show 65536 ≤ maxLen by decide)
theorem list_len (l : List (List UInt8)) : (listT l).length ≤ maxLen := Nat.le_trans (by unfold listT makeR; rw [if_pos (by decide)]; exact make_len 11 0 [] l (by decide)) (show 65536 ≤ maxLen by decide)
set_option maxHeartbeats 4000000 in
theorem rbody_yes (k : Int) (kn : Nat) (N : Nat → Nat) (X : Nat → ByteArray) (w : World) (hkn : k = (kn : Nat)) (h1 : 1 ≤ kn) (h4 : kn ≤ 2) (hN : NumOk N) (hsz : ∀ c, (X c).size ≤ maxLen) (hr : rightP k N X = true) (T : List (List UInt8)) (hT : txtsX X (cellsX (fsOf kn)) = T) (htm : ∀ W, Calls Try.prog 15 #[.agg #[.int .i64 k, .int .u32 (N 1 : Nat), .int .u32 (N 2 : Nat), .int .u64 (N 3 : Nat), .string (X 4), .string (X 5), .string (X 6), .string (X 7), .string (X 8), .string (X 9), .string (X 10), .string (X 11), .string (X 12)]] W (TermsBlk W T)) (hTl : 4 ≤ T.length ∧ T.length ≤ 5) : Calls Try.prog 16 #[.agg #[.int .i64 k, .int .u32 (N 1 : Nat), .int .u32 (N 2 : Nat), .int .u64 (N 3 : Nat), .string (X 4), .string (X 5), .string (X 6), .string (X 7), .string (X 8), .string (X 9), .string (X 10), .string (X 11), .string (X 12)]] w fun e w' => e = .returned (.string (strB (rbodyS k N X))) ∧ Below w.heap.size w w' := by
  have hkb : kindB k = kn := by rw [hkn]; exact kindB_nat h1 (by omega)
  have HZ : Hid (rbodyS k N X = bodyT kn N X) := Lib.hid (by unfold rbodyS; rw [if_pos ⟨hr, by omega⟩, hkb])
  have HM : Hid (MsgAt (w.alloc (.cells #[.int .i64 k, .int .u32 (N 1 : Nat), .int .u32 (N 2 : Nat), .int .u64 (N 3 : Nat), .string (X 4), .string (X 5), .string (X 6), .string (X 7), .string (X 8), .string (X 9), .string (X 10), .string (X 11), .string (X 12)] 25)) w.heap.size k N X) := Lib.hid (heap_alloc_new w _)
  have c0 : (w.alloc (.cells #[.int .i64 k, .int .u32 (N 1 : Nat), .int .u32 (N 2 : Nat), .int .u64 (N 3 : Nat), .string (X 4), .string (X 5), .string (X 6), .string (X 7), .string (X 8), .string (X 9), .string (X 10), .string (X 11), .string (X 12)] 25)).cell? ⟨w.heap.size, 0, none⟩ = some (.int .i64 k) := cell_of HM.out 0 rfl; have c1 : (w.alloc (.cells #[.int .i64 k, .int .u32 (N 1 : Nat), .int .u32 (N 2 : Nat), .int .u64 (N 3 : Nat), .string (X 4), .string (X 5), .string (X 6), .string (X 7), .string (X 8), .string (X 9), .string (X 10), .string (X 11), .string (X 12)] 25)).cell? ⟨w.heap.size, 1, none⟩ = some (.int .u32 (N 1 : Nat)) := cell_of HM.out 1 rfl; have c2 : (w.alloc (.cells #[.int .i64 k, .int .u32 (N 1 : Nat), .int .u32 (N 2 : Nat), .int .u64 (N 3 : Nat), .string (X 4), .string (X 5), .string (X 6), .string (X 7), .string (X 8), .string (X 9), .string (X 10), .string (X 11), .string (X 12)] 25)).cell? ⟨w.heap.size, 2, none⟩ = some (.int .u32 (N 2 : Nat)) := cell_of HM.out 2 rfl; have c3 : (w.alloc (.cells #[.int .i64 k, .int .u32 (N 1 : Nat), .int .u32 (N 2 : Nat), .int .u64 (N 3 : Nat), .string (X 4), .string (X 5), .string (X 6), .string (X 7), .string (X 8), .string (X 9), .string (X 10), .string (X 11), .string (X 12)] 25)).cell? ⟨w.heap.size, 3, none⟩ = some (.int .u64 (N 3 : Nat)) := cell_of HM.out 3 rfl; have c4 : (w.alloc (.cells #[.int .i64 k, .int .u32 (N 1 : Nat), .int .u32 (N 2 : Nat), .int .u64 (N 3 : Nat), .string (X 4), .string (X 5), .string (X 6), .string (X 7), .string (X 8), .string (X 9), .string (X 10), .string (X 11), .string (X 12)] 25)).cell? ⟨w.heap.size, 4, none⟩ = some (.string (X 4)) := cell_of HM.out 4 rfl; have c5 : (w.alloc (.cells #[.int .i64 k, .int .u32 (N 1 : Nat), .int .u32 (N 2 : Nat), .int .u64 (N 3 : Nat), .string (X 4), .string (X 5), .string (X 6), .string (X 7), .string (X 8), .string (X 9), .string (X 10), .string (X 11), .string (X 12)] 25)).cell? ⟨w.heap.size, 5, none⟩ = some (.string (X 5)) := cell_of HM.out 5 rfl; have c6 : (w.alloc (.cells #[.int .i64 k, .int .u32 (N 1 : Nat), .int .u32 (N 2 : Nat), .int .u64 (N 3 : Nat), .string (X 4), .string (X 5), .string (X 6), .string (X 7), .string (X 8), .string (X 9), .string (X 10), .string (X 11), .string (X 12)] 25)).cell? ⟨w.heap.size, 6, none⟩ = some (.string (X 6)) := cell_of HM.out 6 rfl; have c7 : (w.alloc (.cells #[.int .i64 k, .int .u32 (N 1 : Nat), .int .u32 (N 2 : Nat), .int .u64 (N 3 : Nat), .string (X 4), .string (X 5), .string (X 6), .string (X 7), .string (X 8), .string (X 9), .string (X 10), .string (X 11), .string (X 12)] 25)).cell? ⟨w.heap.size, 7, none⟩ = some (.string (X 7)) := cell_of HM.out 7 rfl; have c8 : (w.alloc (.cells #[.int .i64 k, .int .u32 (N 1 : Nat), .int .u32 (N 2 : Nat), .int .u64 (N 3 : Nat), .string (X 4), .string (X 5), .string (X 6), .string (X 7), .string (X 8), .string (X 9), .string (X 10), .string (X 11), .string (X 12)] 25)).cell? ⟨w.heap.size, 8, none⟩ = some (.string (X 8)) := cell_of HM.out 8 rfl; have c9 : (w.alloc (.cells #[.int .i64 k, .int .u32 (N 1 : Nat), .int .u32 (N 2 : Nat), .int .u64 (N 3 : Nat), .string (X 4), .string (X 5), .string (X 6), .string (X 7), .string (X 8), .string (X 9), .string (X 10), .string (X 11), .string (X 12)] 25)).cell? ⟨w.heap.size, 9, none⟩ = some (.string (X 9)) := cell_of HM.out 9 rfl; have c10 : (w.alloc (.cells #[.int .i64 k, .int .u32 (N 1 : Nat), .int .u32 (N 2 : Nat), .int .u64 (N 3 : Nat), .string (X 4), .string (X 5), .string (X 6), .string (X 7), .string (X 8), .string (X 9), .string (X 10), .string (X 11), .string (X 12)] 25)).cell? ⟨w.heap.size, 10, none⟩ = some (.string (X 10)) := cell_of HM.out 10 rfl; have c11 : (w.alloc (.cells #[.int .i64 k, .int .u32 (N 1 : Nat), .int .u32 (N 2 : Nat), .int .u64 (N 3 : Nat), .string (X 4), .string (X 5), .string (X 6), .string (X 7), .string (X 8), .string (X 9), .string (X 10), .string (X 11), .string (X 12)] 25)).cell? ⟨w.heap.size, 11, none⟩ = some (.string (X 11)) := cell_of HM.out 11 rfl; have c12 : (w.alloc (.cells #[.int .i64 k, .int .u32 (N 1 : Nat), .int .u32 (N 2 : Nat), .int .u64 (N 3 : Nat), .string (X 4), .string (X 5), .string (X 6), .string (X 7), .string (X 8), .string (X 9), .string (X 10), .string (X 11), .string (X 12)] 25)).cell? ⟨w.heap.size, 12, none⟩ = some (.string (X 12)) := cell_of HM.out 12 rfl
  have HB : Hid (Below w.heap.size w (w.alloc (.cells #[.int .i64 k, .int .u32 (N 1 : Nat), .int .u32 (N 2 : Nat), .int .u64 (N 3 : Nat), .string (X 4), .string (X 5), .string (X 6), .string (X 7), .string (X 8), .string (X 9), .string (X 10), .string (X 11), .string (X 12)] 25))) := Lib.hid (below_one _)
  have hri := rright6_any k N X (w.alloc (.cells #[.int .i64 k, .int .u32 (N 1 : Nat), .int .u32 (N 2 : Nat), .int .u64 (N 3 : Nat), .string (X 4), .string (X 5), .string (X 6), .string (X 7), .string (X 8), .string (X 9), .string (X 10), .string (X 11), .string (X 12)] 25)) hN hsz
  rw [hr] at hri
  have HRI := Lib.hid hri
  have HTM := Lib.hid htm
  have HTL := Lib.hid hTl
  have HT := Lib.hid hT
  have hwk : IntKind.u64.wrap k = k := wrap_u64 _ (by omega) (by omega)
  have hw1 := wrap_u64 (N 1 : Int) (by omega) (by have := hN.n1; omega)
  have hw2 := wrap_u64 (N 2 : Int) (by omega) (by have := hN.n2; omega)
  have hk2 : ¬ 2 < k := by omega
  have HNA : Hid (∀ W, Calls Try.prog 30 #[.int .u64 k] W fun e w' => e = .returned (.string (strB (numT kn))) ∧ Below W.heap.size W w') := Lib.hid (fun W => by rw [hkn]; exact rnum6_any kn (by unfold top; omega) W)
  have HNB := Lib.hid (fun W => rnum6_any (N 1) (by have := hN.n1; unfold top; omega) W)
  have HNC := Lib.hid (fun W => rnum6_any (N 2) (by have := hN.n2; unfold top; omega) W)
  have HL1 : Hid ((headT kn N ++ T.take (T.length - 2)).length ≤ 1000) := Lib.hid (by simp [headT]; omega)
  have HL2 : Hid (∀ x ∈ headT kn N ++ T.take (T.length - 2), x.length ≤ maxLen) := Lib.hid (by
    intro x hx
    rcases List.mem_append.1 hx with hx | hx
    · simp only [headT, List.mem_cons, List.mem_nil_iff, or_false] at hx
      rcases hx with rfl | rfl | rfl <;> exact num_len _
    · have := List.mem_of_mem_take hx
      rw [← hT] at this
      simp only [txtsX, List.mem_map] at this
      obtain ⟨c, _, rfl⟩ := this
      simpa using hsz c)
  have hl4 : (4 : Int) ≤ T.length := by omega
  have hl5 : (T.length : Int) ≤ 5 := by omega
  clear hkn h1 h4 hN hsz hr hT htm hTl hkb hri
  go_enter Try.func16, Try.ntmps16
  go_wp2_with (first | (go_at_call 8; ((with_reducible refine (HRI.out).mono ?_); rintro e w2 ⟨rfl, hb2⟩; have HM := Lib.hid (msg_below HM.out hb2); have c0 : w2.cell? ⟨w.heap.size, 0, none⟩ = some (.int .i64 k) := cell_of HM.out 0 rfl; have c1 : w2.cell? ⟨w.heap.size, 1, none⟩ = some (.int .u32 (N 1 : Nat)) := cell_of HM.out 1 rfl; have c2 : w2.cell? ⟨w.heap.size, 2, none⟩ = some (.int .u32 (N 2 : Nat)) := cell_of HM.out 2 rfl; have c3 : w2.cell? ⟨w.heap.size, 3, none⟩ = some (.int .u64 (N 3 : Nat)) := cell_of HM.out 3 rfl; have c4 : w2.cell? ⟨w.heap.size, 4, none⟩ = some (.string (X 4)) := cell_of HM.out 4 rfl; have c5 : w2.cell? ⟨w.heap.size, 5, none⟩ = some (.string (X 5)) := cell_of HM.out 5 rfl; have c6 : w2.cell? ⟨w.heap.size, 6, none⟩ = some (.string (X 6)) := cell_of HM.out 6 rfl; have c7 : w2.cell? ⟨w.heap.size, 7, none⟩ = some (.string (X 7)) := cell_of HM.out 7 rfl; have c8 : w2.cell? ⟨w.heap.size, 8, none⟩ = some (.string (X 8)) := cell_of HM.out 8 rfl; have c9 : w2.cell? ⟨w.heap.size, 9, none⟩ = some (.string (X 9)) := cell_of HM.out 9 rfl; have c10 : w2.cell? ⟨w.heap.size, 10, none⟩ = some (.string (X 10)) := cell_of HM.out 10 rfl; have c11 : w2.cell? ⟨w.heap.size, 11, none⟩ = some (.string (X 11)) := cell_of HM.out 11 rfl; have c12 : w2.cell? ⟨w.heap.size, 12, none⟩ = some (.string (X 12)) := cell_of HM.out 12 rfl; have HB := Lib.hid (Below.next HB.out hb2); clear hb2)) | (go_at_call 15; ((with_reducible refine (HTM.out _).mono ?_); rintro e w3 ⟨b2, rfl, hs2, hb2⟩; have HS2 := Lib.hid hs2; have q0 := (hb2.cell (p := ⟨w.heap.size, 0, none⟩) (World.block_lt_of_cell? _ _ c0)).trans c0; have q1 := (hb2.cell (p := ⟨w.heap.size, 1, none⟩) (World.block_lt_of_cell? _ _ c1)).trans c1; have q2 := (hb2.cell (p := ⟨w.heap.size, 2, none⟩) (World.block_lt_of_cell? _ _ c2)).trans c2; have HB := Lib.hid (Below.next HB.out hb2); clear hs2 hb2)) | fail)
  have q0 : w3.drew.cell? ⟨w.heap.size, 0, none⟩ = some (.int .i64 k) := q0
  have q1 : w3.drew.cell? ⟨w.heap.size, 1, none⟩ = some (.int .u32 (N 1 : Nat)) := q1
  have q2 : w3.drew.cell? ⟨w.heap.size, 2, none⟩ = some (.int .u32 (N 2 : Nat)) := q2
  have HB := Lib.hid (drew_below HB.out)
  have HS2 : Hid (w3.drew.heap[b2]? = some (.cells (T.map strV).toArray 9 (0, 0))) := Lib.hid HS2.out
  go_region_held3 (fun W => W.cell? ⟨w.heap.size, 0, none⟩ = some (.int .i64 k) ∧ W.cell? ⟨w.heap.size, 1, none⟩ = some (.int .u32 (N 1 : Nat)) ∧ W.cell? ⟨w.heap.size, 2, none⟩ = some (.int .u32 (N 2 : Nat))) (first | exact ⟨by assumption, by assumption, by assumption⟩ | exact ⟨old1 _ (by assumption), old1 _ (by assumption), old1 _ (by assumption)⟩) (first | (go_at_call 30; ((with_reducible refine (HNA.out _).mono ?_); rintro e w2 ⟨rfl, hb2⟩; have HB := Lib.hid (Below.next HB.out hb2); have hs2 := (hb2.block b2 (Array.getElem?_eq_some_iff.1 HS2.out).1).trans HS2.out; have HS2 := Lib.hid hs2; have q0 := (hb2.cell (p := ⟨w.heap.size, 0, none⟩) (World.block_lt_of_cell? _ _ q0)).trans q0; have q1 := (hb2.cell (p := ⟨w.heap.size, 1, none⟩) (World.block_lt_of_cell? _ _ q1)).trans q1; have q2 := (hb2.cell (p := ⟨w.heap.size, 2, none⟩) (World.block_lt_of_cell? _ _ q2)).trans q2; clear hb2 hs2)) | (go_at_call 30; ((with_reducible refine (HNB.out _).mono ?_); rintro e w2 ⟨rfl, hb2⟩; have HB := Lib.hid (Below.next HB.out hb2); have hs2 := (hb2.block b2 (Array.getElem?_eq_some_iff.1 HS2.out).1).trans HS2.out; have HS2 := Lib.hid hs2; have q0 := (hb2.cell (p := ⟨w.heap.size, 0, none⟩) (World.block_lt_of_cell? _ _ q0)).trans q0; have q1 := (hb2.cell (p := ⟨w.heap.size, 1, none⟩) (World.block_lt_of_cell? _ _ q1)).trans q1; have q2 := (hb2.cell (p := ⟨w.heap.size, 2, none⟩) (World.block_lt_of_cell? _ _ q2)).trans q2; clear hb2 hs2)) | (go_at_call 30; ((with_reducible refine (HNC.out _).mono ?_); rintro e w2 ⟨rfl, hb2⟩; have HB := Lib.hid (Below.next HB.out hb2); have hs2 := (hb2.block b2 (Array.getElem?_eq_some_iff.1 HS2.out).1).trans HS2.out; have HS2 := Lib.hid hs2; have q0 := (hb2.cell (p := ⟨w.heap.size, 0, none⟩) (World.block_lt_of_cell? _ _ q0)).trans q0; have q1 := (hb2.cell (p := ⟨w.heap.size, 1, none⟩) (World.block_lt_of_cell? _ _ q1)).trans q1; have q2 := (hb2.cell (p := ⟨w.heap.size, 2, none⟩) (World.block_lt_of_cell? _ _ q2)).trans q2; clear hb2 hs2)))
  all_goals
    go_wp2_with (first | (at_builtin; refine wpList_app_strs rfl _ _ rfl w2.heap.size _ 3 _ rfl (row_head w2 kn N) _ (T.take (T.length - 2)) rfl (blk_strs ((Below.heap_alloc _ _ _ (Array.getElem?_eq_some_iff.1 HS2.out).1).trans HS2.out) (T.length - 2) (Nat.sub_le _ _) rfl) (by have := HTL.out; rw [List.length_take]; omega) (by simp) ?_; intro v5 w5 hown5 hgrow5; have HB5 := Lib.hid ((HB.out.alloc HB.out.size _).grown hgrow5 (alloc_le HB.out.size _) (fun g hg => Nat.le_trans HB.out.size ((row_head w2 kn N).lt g hg).1)); have HS5 : Hid (Strs w5 v5 (headT kn N ++ T.take (T.length - 2))) := Lib.hid (strs_own (by rw [List.length_append, List.map_append]; exact hown5)); clear hown5 hgrow5) | (go_at_call 31; ((with_reducible refine (rlist6_any v5 _ _ HS5.out HL1.out HL2.out).mono ?_); rintro e w8 ⟨rfl, hb8⟩; have HB8 := Lib.hid (Below.next HB5.out hb8))) | fail)
    go_ret
    refine ⟨?_, HB8.out⟩
    rw [HZ.out]
    unfold bodyT
    rw [HT.out]
    rfl
theorem rbody6_any (k : Int) (N : Nat → Nat) (X : Nat → ByteArray) (w : World) (hN : NumOk N) (hsz : ∀ c, (X c).size ≤ maxLen) : Calls Try.prog 16 #[.agg #[.int .i64 k, .int .u32 (N 1 : Nat), .int .u32 (N 2 : Nat), .int .u64 (N 3 : Nat), .string (X 4), .string (X 5), .string (X 6), .string (X 7), .string (X 8), .string (X 9), .string (X 10), .string (X 11), .string (X 12)]] w fun e w' => e = .returned (.string (strB (rbodyS k N X))) ∧ Below w.heap.size w w' := by
  cases hr : rightP k N X with
  | false => exact rbody_no k N X w hN hsz (.inl hr)
  | true =>
    by_cases h2 : 2 < k
    · exact rbody_no k N X w hN hsz (.inr ⟨hr, h2⟩)
    · by_cases h1 : k = 1
      · subst h1
        exact rbody_yes 1 1 N X w rfl (by decide) (by decide) hN hsz hr _ rfl (fun W => rterms_1 N X W) ⟨by simp [txtsX, cellsX, fsOf], by simp [txtsX, cellsX, fsOf]⟩
      · by_cases h3 : k = 2
        · subst h3
          exact rbody_yes 2 2 N X w rfl (by decide) (by decide) hN hsz hr _ rfl (fun W => rterms_2 N X W) ⟨by simp [txtsX, cellsX, fsOf], by simp [txtsX, cellsX, fsOf]⟩
        · exfalso
          unfold rightP at hr
          have : kindB k = 0 := by unfold kindB; rw [if_neg (by omega)]
          rw [if_pos this] at hr
          cases hr
def rsignedS (k : Int) (N : Nat → Nat) (X : Nat → ByteArray) : List UInt8 := if rbodyS k N X = [] then [] else listT [rbodyS k N X, (X 11).data.toList]
theorem rbody_len (k : Int) (N : Nat → Nat) (X : Nat → ByteArray) : (rbodyS k N X).length ≤ maxLen := by
  unfold rbodyS
  split
  · exact list_len _
  · exact Nat.zero_le _
set_option maxHeartbeats 2000000 in
theorem rsigned6_any (k : Int) (N : Nat → Nat) (X : Nat → ByteArray) (w : World) (hN : NumOk N) (hsz : ∀ c, (X c).size ≤ maxLen) : Calls Try.prog 17 #[.agg #[.int .i64 k, .int .u32 (N 1 : Nat), .int .u32 (N 2 : Nat), .int .u64 (N 3 : Nat), .string (X 4), .string (X 5), .string (X 6), .string (X 7), .string (X 8), .string (X 9), .string (X 10), .string (X 11), .string (X 12)]] w fun e w' => e = .returned (.string (strB (rsignedS k N X))) ∧ Below w.heap.size w w' := by
  have HM : Hid (MsgAt (w.alloc (.cells #[.int .i64 k, .int .u32 (N 1 : Nat), .int .u32 (N 2 : Nat), .int .u64 (N 3 : Nat), .string (X 4), .string (X 5), .string (X 6), .string (X 7), .string (X 8), .string (X 9), .string (X 10), .string (X 11), .string (X 12)] 25)) w.heap.size k N X) := Lib.hid (heap_alloc_new w _)
  have c0 : (w.alloc (.cells #[.int .i64 k, .int .u32 (N 1 : Nat), .int .u32 (N 2 : Nat), .int .u64 (N 3 : Nat), .string (X 4), .string (X 5), .string (X 6), .string (X 7), .string (X 8), .string (X 9), .string (X 10), .string (X 11), .string (X 12)] 25)).cell? ⟨w.heap.size, 0, none⟩ = some (.int .i64 k) := cell_of HM.out 0 rfl; have c1 : (w.alloc (.cells #[.int .i64 k, .int .u32 (N 1 : Nat), .int .u32 (N 2 : Nat), .int .u64 (N 3 : Nat), .string (X 4), .string (X 5), .string (X 6), .string (X 7), .string (X 8), .string (X 9), .string (X 10), .string (X 11), .string (X 12)] 25)).cell? ⟨w.heap.size, 1, none⟩ = some (.int .u32 (N 1 : Nat)) := cell_of HM.out 1 rfl; have c2 : (w.alloc (.cells #[.int .i64 k, .int .u32 (N 1 : Nat), .int .u32 (N 2 : Nat), .int .u64 (N 3 : Nat), .string (X 4), .string (X 5), .string (X 6), .string (X 7), .string (X 8), .string (X 9), .string (X 10), .string (X 11), .string (X 12)] 25)).cell? ⟨w.heap.size, 2, none⟩ = some (.int .u32 (N 2 : Nat)) := cell_of HM.out 2 rfl; have c3 : (w.alloc (.cells #[.int .i64 k, .int .u32 (N 1 : Nat), .int .u32 (N 2 : Nat), .int .u64 (N 3 : Nat), .string (X 4), .string (X 5), .string (X 6), .string (X 7), .string (X 8), .string (X 9), .string (X 10), .string (X 11), .string (X 12)] 25)).cell? ⟨w.heap.size, 3, none⟩ = some (.int .u64 (N 3 : Nat)) := cell_of HM.out 3 rfl; have c4 : (w.alloc (.cells #[.int .i64 k, .int .u32 (N 1 : Nat), .int .u32 (N 2 : Nat), .int .u64 (N 3 : Nat), .string (X 4), .string (X 5), .string (X 6), .string (X 7), .string (X 8), .string (X 9), .string (X 10), .string (X 11), .string (X 12)] 25)).cell? ⟨w.heap.size, 4, none⟩ = some (.string (X 4)) := cell_of HM.out 4 rfl; have c5 : (w.alloc (.cells #[.int .i64 k, .int .u32 (N 1 : Nat), .int .u32 (N 2 : Nat), .int .u64 (N 3 : Nat), .string (X 4), .string (X 5), .string (X 6), .string (X 7), .string (X 8), .string (X 9), .string (X 10), .string (X 11), .string (X 12)] 25)).cell? ⟨w.heap.size, 5, none⟩ = some (.string (X 5)) := cell_of HM.out 5 rfl; have c6 : (w.alloc (.cells #[.int .i64 k, .int .u32 (N 1 : Nat), .int .u32 (N 2 : Nat), .int .u64 (N 3 : Nat), .string (X 4), .string (X 5), .string (X 6), .string (X 7), .string (X 8), .string (X 9), .string (X 10), .string (X 11), .string (X 12)] 25)).cell? ⟨w.heap.size, 6, none⟩ = some (.string (X 6)) := cell_of HM.out 6 rfl; have c7 : (w.alloc (.cells #[.int .i64 k, .int .u32 (N 1 : Nat), .int .u32 (N 2 : Nat), .int .u64 (N 3 : Nat), .string (X 4), .string (X 5), .string (X 6), .string (X 7), .string (X 8), .string (X 9), .string (X 10), .string (X 11), .string (X 12)] 25)).cell? ⟨w.heap.size, 7, none⟩ = some (.string (X 7)) := cell_of HM.out 7 rfl; have c8 : (w.alloc (.cells #[.int .i64 k, .int .u32 (N 1 : Nat), .int .u32 (N 2 : Nat), .int .u64 (N 3 : Nat), .string (X 4), .string (X 5), .string (X 6), .string (X 7), .string (X 8), .string (X 9), .string (X 10), .string (X 11), .string (X 12)] 25)).cell? ⟨w.heap.size, 8, none⟩ = some (.string (X 8)) := cell_of HM.out 8 rfl; have c9 : (w.alloc (.cells #[.int .i64 k, .int .u32 (N 1 : Nat), .int .u32 (N 2 : Nat), .int .u64 (N 3 : Nat), .string (X 4), .string (X 5), .string (X 6), .string (X 7), .string (X 8), .string (X 9), .string (X 10), .string (X 11), .string (X 12)] 25)).cell? ⟨w.heap.size, 9, none⟩ = some (.string (X 9)) := cell_of HM.out 9 rfl; have c10 : (w.alloc (.cells #[.int .i64 k, .int .u32 (N 1 : Nat), .int .u32 (N 2 : Nat), .int .u64 (N 3 : Nat), .string (X 4), .string (X 5), .string (X 6), .string (X 7), .string (X 8), .string (X 9), .string (X 10), .string (X 11), .string (X 12)] 25)).cell? ⟨w.heap.size, 10, none⟩ = some (.string (X 10)) := cell_of HM.out 10 rfl; have c11 : (w.alloc (.cells #[.int .i64 k, .int .u32 (N 1 : Nat), .int .u32 (N 2 : Nat), .int .u64 (N 3 : Nat), .string (X 4), .string (X 5), .string (X 6), .string (X 7), .string (X 8), .string (X 9), .string (X 10), .string (X 11), .string (X 12)] 25)).cell? ⟨w.heap.size, 11, none⟩ = some (.string (X 11)) := cell_of HM.out 11 rfl; have c12 : (w.alloc (.cells #[.int .i64 k, .int .u32 (N 1 : Nat), .int .u32 (N 2 : Nat), .int .u64 (N 3 : Nat), .string (X 4), .string (X 5), .string (X 6), .string (X 7), .string (X 8), .string (X 9), .string (X 10), .string (X 11), .string (X 12)] 25)).cell? ⟨w.heap.size, 12, none⟩ = some (.string (X 12)) := cell_of HM.out 12 rfl
  have HB : Hid (Below w.heap.size w (w.alloc (.cells #[.int .i64 k, .int .u32 (N 1 : Nat), .int .u32 (N 2 : Nat), .int .u64 (N 3 : Nat), .string (X 4), .string (X 5), .string (X 6), .string (X 7), .string (X 8), .string (X 9), .string (X 10), .string (X 11), .string (X 12)] 25))) := Lib.hid (below_one _)
  have hbd := rbody6_any k N X (w.alloc (.cells #[.int .i64 k, .int .u32 (N 1 : Nat), .int .u32 (N 2 : Nat), .int .u64 (N 3 : Nat), .string (X 4), .string (X 5), .string (X 6), .string (X 7), .string (X 8), .string (X 9), .string (X 10), .string (X 11), .string (X 12)] 25)) hN hsz
  have hbl := rbody_len k N X
  unfold rsignedS
  generalize rbodyS k N X = Bd at *
  have HBD := Lib.hid hbd
  have HL1 : Hid ([Bd, (X 11).data.toList].length ≤ 1000) := Lib.hid (by show 2 ≤ 1000; decide)
  have HL2 : Hid (∀ x ∈ [Bd, (X 11).data.toList], x.length ≤ maxLen) := Lib.hid (by
    intro x hx
    simp only [List.mem_cons, List.mem_nil_iff, or_false] at hx
    rcases hx with rfl | rfl
    · exact hbl
    · simpa using hsz 11)
  have hse := str_eq Bd ⟨#[]⟩
  clear hbd hN hsz hbl
  by_cases he : Bd = []
  · subst he
    rw [if_pos rfl]
    have HBD : Hid (Calls Try.prog 16 #[.agg #[.int .i64 k, .int .u32 (N 1 : Nat), .int .u32 (N 2 : Nat), .int .u64 (N 3 : Nat), .string (X 4), .string (X 5), .string (X 6), .string (X 7), .string (X 8), .string (X 9), .string (X 10), .string (X 11), .string (X 12)]] (w.alloc (.cells #[.int .i64 k, .int .u32 (N 1 : Nat), .int .u32 (N 2 : Nat), .int .u64 (N 3 : Nat), .string (X 4), .string (X 5), .string (X 6), .string (X 7), .string (X 8), .string (X 9), .string (X 10), .string (X 11), .string (X 12)] 25)) fun e w' => e = .returned (.string ⟨#[]⟩) ∧ Below (w.alloc (.cells #[.int .i64 k, .int .u32 (N 1 : Nat), .int .u32 (N 2 : Nat), .int .u64 (N 3 : Nat), .string (X 4), .string (X 5), .string (X 6), .string (X 7), .string (X 8), .string (X 9), .string (X 10), .string (X 11), .string (X 12)] 25)).heap.size (w.alloc (.cells #[.int .i64 k, .int .u32 (N 1 : Nat), .int .u32 (N 2 : Nat), .int .u64 (N 3 : Nat), .string (X 4), .string (X 5), .string (X 6), .string (X 7), .string (X 8), .string (X 9), .string (X 10), .string (X 11), .string (X 12)] 25)) w') := Lib.hid HBD.out
    clear hse
    go_enter Try.func17, Try.ntmps17
    go_wp2_with (first | (go_at_call 16; ((with_reducible refine (HBD.out).mono ?_); rintro e w2 ⟨rfl, hb2⟩; have HM := Lib.hid (msg_below HM.out hb2); have c0 : w2.cell? ⟨w.heap.size, 0, none⟩ = some (.int .i64 k) := cell_of HM.out 0 rfl; have c1 : w2.cell? ⟨w.heap.size, 1, none⟩ = some (.int .u32 (N 1 : Nat)) := cell_of HM.out 1 rfl; have c2 : w2.cell? ⟨w.heap.size, 2, none⟩ = some (.int .u32 (N 2 : Nat)) := cell_of HM.out 2 rfl; have c3 : w2.cell? ⟨w.heap.size, 3, none⟩ = some (.int .u64 (N 3 : Nat)) := cell_of HM.out 3 rfl; have c4 : w2.cell? ⟨w.heap.size, 4, none⟩ = some (.string (X 4)) := cell_of HM.out 4 rfl; have c5 : w2.cell? ⟨w.heap.size, 5, none⟩ = some (.string (X 5)) := cell_of HM.out 5 rfl; have c6 : w2.cell? ⟨w.heap.size, 6, none⟩ = some (.string (X 6)) := cell_of HM.out 6 rfl; have c7 : w2.cell? ⟨w.heap.size, 7, none⟩ = some (.string (X 7)) := cell_of HM.out 7 rfl; have c8 : w2.cell? ⟨w.heap.size, 8, none⟩ = some (.string (X 8)) := cell_of HM.out 8 rfl; have c9 : w2.cell? ⟨w.heap.size, 9, none⟩ = some (.string (X 9)) := cell_of HM.out 9 rfl; have c10 : w2.cell? ⟨w.heap.size, 10, none⟩ = some (.string (X 10)) := cell_of HM.out 10 rfl; have c11 : w2.cell? ⟨w.heap.size, 11, none⟩ = some (.string (X 11)) := cell_of HM.out 11 rfl; have c12 : w2.cell? ⟨w.heap.size, 12, none⟩ = some (.string (X 12)) := cell_of HM.out 12 rfl; have HB := Lib.hid (Below.next HB.out hb2); clear hb2)) | fail)
    go_ret
    exact ⟨rfl, HB.out⟩
  · rw [if_neg he]
    have hse2 : ((strB Bd).toList == (⟨#[]⟩ : ByteArray).toList) = false := by rw [hse]; simpa using he
    have hse3 : ((strB Bd).toList.isEmpty) = false := by rw [toList_eq]; cases Bd with | nil => exact absurd rfl he | cons a l => rfl
    have hse4 : ((strB Bd).toList == []) = false := by rw [toList_eq]; cases Bd with | nil => exact absurd rfl he | cons a l => rfl
    clear hse he
    go_enter Try.func17, Try.ntmps17
    go_wp2_with (first | (go_at_call 16; ((with_reducible refine (HBD.out).mono ?_); rintro e w2 ⟨rfl, hb2⟩; have HM := Lib.hid (msg_below HM.out hb2); have c0 : w2.cell? ⟨w.heap.size, 0, none⟩ = some (.int .i64 k) := cell_of HM.out 0 rfl; have c1 : w2.cell? ⟨w.heap.size, 1, none⟩ = some (.int .u32 (N 1 : Nat)) := cell_of HM.out 1 rfl; have c2 : w2.cell? ⟨w.heap.size, 2, none⟩ = some (.int .u32 (N 2 : Nat)) := cell_of HM.out 2 rfl; have c3 : w2.cell? ⟨w.heap.size, 3, none⟩ = some (.int .u64 (N 3 : Nat)) := cell_of HM.out 3 rfl; have c4 : w2.cell? ⟨w.heap.size, 4, none⟩ = some (.string (X 4)) := cell_of HM.out 4 rfl; have c5 : w2.cell? ⟨w.heap.size, 5, none⟩ = some (.string (X 5)) := cell_of HM.out 5 rfl; have c6 : w2.cell? ⟨w.heap.size, 6, none⟩ = some (.string (X 6)) := cell_of HM.out 6 rfl; have c7 : w2.cell? ⟨w.heap.size, 7, none⟩ = some (.string (X 7)) := cell_of HM.out 7 rfl; have c8 : w2.cell? ⟨w.heap.size, 8, none⟩ = some (.string (X 8)) := cell_of HM.out 8 rfl; have c9 : w2.cell? ⟨w.heap.size, 9, none⟩ = some (.string (X 9)) := cell_of HM.out 9 rfl; have c10 : w2.cell? ⟨w.heap.size, 10, none⟩ = some (.string (X 10)) := cell_of HM.out 10 rfl; have c11 : w2.cell? ⟨w.heap.size, 11, none⟩ = some (.string (X 11)) := cell_of HM.out 11 rfl; have c12 : w2.cell? ⟨w.heap.size, 12, none⟩ = some (.string (X 12)) := cell_of HM.out 12 rfl; have HB := Lib.hid (Below.next HB.out hb2); have HST : Hid (Strs (w2.alloc (.cells #[.string (strB Bd), .string (X 11)] 9)) (.slice (some ⟨w2.heap.size, 0, none⟩) 2 2) [Bd, (X 11).data.toList]) := Lib.hid (by have h := heap_alloc_new w2 (.cells #[.string (strB Bd), .string (X 11)] 9); refine strs_blk (l := [Bd, (X 11).data.toList]) (T := 9) ?_; rw [h]; simp [strV, strv_self, strB]); clear hb2)) | (go_at_call 31; ((with_reducible refine (rlist6_any _ _ _ HST.out HL1.out HL2.out).mono ?_); rintro e w8 ⟨rfl, hb8⟩; have HB8 := Lib.hid (Below.next (Below.next HB.out (below_one _)) hb8))) | fail)
    go_ret
    exact ⟨rfl, HB8.out⟩
end Go.Proofs.Ytjbmcjppaadkgaa

namespace Go.Proofs.Ytjbmcjppaadkgaa
set_option linter.unusedVariables false
set_option linter.unusedSimpArgs false
set_option maxRecDepth 100000
open Go.RowKit
def encF (N : Nat → Nat) (X : Nat → ByteArray) : Fd → List UInt8
  | .z => numB 0 3
  | .n4 c => numB (N c) 4
  | .n8 c => numB (N c) 8
  | .t c => numB (X c).size 2 ++ (X c).data.toList
def encs (N : Nat → Nat) (X : Nat → ByteArray) : List Fd → List UInt8
  | [] => []
  | f :: fs => encF N X f ++ encs N X fs
def smallX (X : Nat → ByteArray) (cs : List Nat) : Bool := cs.all fun c => decide ((X c).size ≤ 65535)
def termX (X : Nat → ByteArray) (cs : List Nat) : Bool := cs.all fun c => isL (X c).data.toList
theorem pAll_enc (N : Nat → Nat) (X : Nat → ByteArray) : ∀ (fs : List Fd) (L : List UInt8), smallX X (cellsX fs) = true → pAll N X fs L = (0, L ++ encs N X fs)
  | [], L, _ => by simp [pAll, encs]
  | f :: fs, L, h => by
    have hf : pF N X f L = (0, L ++ encF N X f) ∧ smallX X (cellsX fs) = true := by
      cases f with
      | z => exact ⟨rfl, h⟩
      | n4 c => exact ⟨rfl, h⟩
      | n8 c => exact ⟨rfl, h⟩
      | t c =>
        simp only [cellsX, smallX, List.all_cons, Bool.and_eq_true, decide_eq_true_eq] at h
        refine ⟨?_, h.2⟩
        simp only [pF]
        rw [if_neg (by omega)]
        simp [encF, List.append_assoc]
    unfold pAll
    rw [hf.1]
    simp only [if_true]
    rw [pAll_enc N X fs _ hf.2]
    simp [encs, List.append_assoc]
theorem pAll_bad (N : Nat → Nat) (X : Nat → ByteArray) : ∀ (fs : List Fd) (L : List UInt8), smallX X (cellsX fs) = false → pAll N X fs L = (3, [])
  | [], L, h => by simp [cellsX, smallX] at h
  | .z :: fs, L, h => pAll_bad N X fs _ h
  | .n4 c :: fs, L, h => pAll_bad N X fs _ h
  | .n8 c :: fs, L, h => pAll_bad N X fs _ h
  | .t c :: fs, L, h => by
    by_cases hc : 65535 < (X c).size
    · unfold pAll
      have e : pF N X (.t c) L = (3, []) := if_pos hc
      rw [e, if_neg (by simp)]
    · have e : pF N X (.t c) L = (0, L ++ numB (X c).size 2 ++ (X c).data.toList) := if_neg hc
      unfold pAll
      rw [e]
      simp only [if_true]
      refine pAll_bad N X fs _ ?_
      simp only [cellsX, smallX, List.all_cons] at h
      rw [decide_eq_true (show (X c).size ≤ 65535 by omega), Bool.true_and] at h
      exact h
def stN (N : Nat → Nat) : Fd → (Nat → Nat) → (Nat → Nat)
  | .n4 c, N' => upd N' c (N c)
  | .n8 c, N' => upd N' c (N c)
  | _, N' => N'
def stX (X : Nat → ByteArray) : Fd → (Nat → ByteArray) → (Nat → ByteArray)
  | .t c, X' => upd X' c (X c)
  | _, X' => X'
def stNs (N : Nat → Nat) : List Fd → (Nat → Nat) → (Nat → Nat)
  | [], N' => N'
  | f :: fs, N' => stNs N fs (stN N f N')
def stXs (X : Nat → ByteArray) : List Fd → (Nat → ByteArray) → (Nat → ByteArray)
  | [], X' => X'
  | f :: fs, X' => stXs X fs (stX X f X')
theorem take_app' (a b : List UInt8) (n : Nat) (h : a.length = n) : (a ++ b).take n = a ∧ (a ++ b).drop n = b := by
  subst h; simp
theorem rNum_enc (n c v : Nat) (tail : List UInt8) (N' : Nat → Nat) (X' : Nat → ByteArray) (hv : v < 256 ^ n) : rdNum n c (numB v n ++ tail) N' X' = (0, tail, upd N' c v, X') := by
  unfold rdNum
  obtain ⟨h1, h2⟩ := take_app' (numB v n) tail n (numB_len v n)
  rw [if_neg (by rw [List.length_append, numB_len]; omega), h1, h2, valB_num n v hv]
theorem cut_enc (s tail : List UInt8) (hs : s.length ≤ 65535) : cutTxt (numB s.length 2 ++ s ++ tail) = (0, s, tail) := by
  have h1 : (numB s.length 2 ++ s ++ tail).take 2 = numB s.length 2 := by rw [List.append_assoc]; exact (take_app' _ _ 2 (numB_len _ _)).1
  have hl : (numB s.length 2 ++ s ++ tail).length = 2 + s.length + tail.length := by simp [numB_len]; omega
  unfold cutTxt
  rw [h1, valB_num 2 s.length (by omega), if_neg (by omega), if_neg (by omega)]
  have h2 : (numB s.length 2 ++ s ++ tail).drop 2 = s ++ tail := by rw [List.append_assoc]; exact (take_app' _ _ 2 (numB_len _ _)).2
  have h3 : bsub (numB s.length 2 ++ s ++ tail) 2 (2 + s.length) = s := by
    unfold bsub
    rw [h2, Nat.add_sub_cancel_left]
    exact (take_app' s tail _ rfl).1
  have h4 : (numB s.length 2 ++ s ++ tail).drop (2 + s.length) = tail := by
    rw [← List.drop_drop, h2]
    exact (take_app' s tail _ rfl).2
  rw [h3, h4]
theorem strB_of (a : ByteArray) : strB a.data.toList = a := strB_self a
theorem rAll_enc (N : Nat → Nat) (X : Nat → ByteArray) (hN : NumOk N) : ∀ (fs : List Fd) (tail : List UInt8) (N' : Nat → Nat) (X' : Nat → ByteArray), (∀ f ∈ fs, FdOk f) → smallX X (cellsX fs) = true →
    (termX X (cellsX fs) = true → rAll fs (encs N X fs ++ tail) N' X' = (0, tail, stNs N fs N', stXs X fs X')) ∧ (termX X (cellsX fs) = false → (rAll fs (encs N X fs ++ tail) N' X').1 = 3)
  | [], tail, N', X', _, _ => ⟨fun _ => rfl, fun h => by simp [cellsX, termX] at h⟩
  | f :: fs, tail, N', X', hok, hs => by
    have hok' := fun g hg => hok g (List.mem_cons_of_mem f hg)
    have hf := hok f (List.mem_cons_self ..)
    have key : ∀ (N1 : Nat → Nat) (X1 : Nat → ByteArray), rF N' X' f (encF N X f ++ (encs N X fs ++ tail)) = (0, encs N X fs ++ tail, N1, X1) → rAll (f :: fs) (encs N X (f :: fs) ++ tail) N' X' = rAll fs (encs N X fs ++ tail) N1 X1 := by
      intro N1 X1 h
      show rAll (f :: fs) ((encF N X f ++ encs N X fs) ++ tail) N' X' = _
      rw [List.append_assoc]
      have e : ∀ l, rAll (f :: fs) l N' X' = if (rF N' X' f l).1 = 0 then rAll fs (rF N' X' f l).2.1 (rF N' X' f l).2.2.1 (rF N' X' f l).2.2.2 else rF N' X' f l := fun l => rfl
      rw [e, h]
      rfl
    cases f with
    | z =>
      rw [key N' X' rfl]
      exact rAll_enc N X hN fs tail N' X' hok' hs
    | n4 c =>
      have hb : N c < 256 ^ 4 := by rcases hf with rfl | rfl; exact hN.n1; exact hN.n2
      rw [key _ _ (rNum_enc 4 c (N c) _ N' X' hb)]
      exact rAll_enc N X hN fs tail _ X' hok' hs
    | n8 c =>
      have hb : N c < 256 ^ 8 := by obtain rfl : c = 3 := hf; exact hN.n3
      rw [key _ _ (rNum_enc 8 c (N c) _ N' X' hb)]
      exact rAll_enc N X hN fs tail _ X' hok' hs
    | t c =>
      simp only [cellsX, smallX, List.all_cons, Bool.and_eq_true, decide_eq_true_eq] at hs
      have hc := cut_enc (X c).data.toList (encs N X fs ++ tail) (by simpa using hs.1)
      have hsz : (X c).data.toList.length = (X c).size := by simp
      rw [hsz] at hc
      cases hL : isL (X c).data.toList with
      | true =>
        have e : rF N' X' (.t c) (encF N X (.t c) ++ (encs N X fs ++ tail)) = (0, encs N X fs ++ tail, N', upd X' c (X c)) := by
          show rdTxt c ((numB (X c).size 2 ++ (X c).data.toList) ++ (encs N X fs ++ tail)) N' X' = _
          unfold rdTxt
          rw [hc, if_neg (fun h => by rw [hL] at h; exact absurd h.2 (by decide))]
          simp [strB_self]
        rw [key _ _ e]
        have ih := rAll_enc N X hN fs tail N' (upd X' c (X c)) hok' hs.2
        simp only [cellsX, termX, List.all_cons, hL, Bool.true_and]
        exact ih
      | false =>
        refine ⟨fun h => by simp [cellsX, termX, hL] at h, fun _ => ?_⟩
        have e : rF N' X' (.t c) (encF N X (.t c) ++ (encs N X fs ++ tail)) = (3, [], N', X') := by
          show rdTxt c ((numB (X c).size 2 ++ (X c).data.toList) ++ (encs N X fs ++ tail)) N' X' = _
          unfold rdTxt
          rw [hc, if_pos ⟨rfl, hL⟩]
        show (rAll (.t c :: fs) ((encF N X (.t c) ++ encs N X fs) ++ tail) N' X').1 = 3
        rw [List.append_assoc]
        have e2 : ∀ l, rAll (.t c :: fs) l N' X' = if (rF N' X' (.t c) l).1 = 0 then rAll fs (rF N' X' (.t c) l).2.1 (rF N' X' (.t c) l).2.2.1 (rF N' X' (.t c) l).2.2.2 else rF N' X' (.t c) l := fun l => rfl
        rw [e2, e]
        rfl
theorem smallterm (kn : Nat) (X : Nat → ByteArray) : (txtsX X (csOf kn)).all goodT = (smallX X (csOf kn) && termX X (csOf kn)) := by
  unfold txtsX smallX termX goodT
  generalize csOf kn = cs
  induction cs with
  | nil => rfl
  | cons c cs ih =>
    simp only [List.map_cons, List.all_cons, ih]
    have : (X c).data.toList.length = (X c).size := by simp
    rw [this]
    cases decide ((X c).size ≤ 65535) <;> cases isL (X c).data.toList <;> simp
theorem cells_cs {kn : Nat} (h1 : 1 ≤ kn) (h4 : kn ≤ 4) : cellsX (fsOf kn) = csOf kn := by
  have : kn = 1 ∨ kn = 2 ∨ kn = 3 ∨ kn = 4 := by omega
  rcases this with rfl | rfl | rfl | rfl <;> rfl
theorem same_st {kn : Nat} (h1 : 1 ≤ kn) (h4 : kn ≤ 4) (N : Nat → Nat) (X : Nat → ByteArray) (k : Int) : same13 k (stNs N (fsOf kn) N0) (stXs X (fsOf kn) X0) k N X ↔ same13 k (withN kn N) (withX kn X) k N X := by
  have : kn = 1 ∨ kn = 2 ∨ kn = 3 ∨ kn = 4 := by omega
  rcases this with rfl | rfl | rfl | rfl <;> exact Iff.rfl
/-- the bytes of a message -/
def bytesOf (kn : Nat) (N : Nat → Nat) (X : Nat → ByteArray) : List UInt8 := UInt8.ofNat kn :: encs N X (fsOf kn)
theorem read_enc {kn : Nat} (h1 : 1 ≤ kn) (h4 : kn ≤ 4) (N : Nat → Nat) (X : Nat → ByteArray) (hN : NumOk N) (hs : smallX X (csOf kn) = true) :
    (termX X (csOf kn) = true → readS (bytesOf kn N X) = (0, ((kn : Nat) : Int), stNs N (fsOf kn) N0, stXs X (fsOf kn) X0)) ∧ (termX X (csOf kn) = false → (readS (bytesOf kn N X)).1 = 3) := by
  have hx : (UInt8.ofNat kn).toNat = kn := by rw [UInt8.toNat_ofNat', Nat.mod_eq_of_lt (by omega)]
  have h := rAll_enc N X hN (fsOf kn) [] N0 X0 (fsOf_ok kn) (by rw [cells_cs h1 h4]; exact hs)
  rw [cells_cs h1 h4, List.append_nil] at h
  have hr : readS (bytesOf kn N X) = readR (UInt8.ofNat kn) (rAll (fsOf kn) (encs N X (fsOf kn)) N0 X0) := by
    show (if fsOf (UInt8.ofNat kn).toNat = [] then _ else _) = _
    rw [hx, if_neg (fsOf_ne h1 h4)]
  rw [hr]
  refine ⟨fun ht => ?_, fun ht => ?_⟩
  · rw [h.1 ht]
    unfold readR
    rw [if_neg (by simp), if_neg (by simp), hx]
  · have h3 := h.2 ht
    unfold readR
    rw [if_pos (by rw [h3]; decide)]
    exact h3
theorem print_right (k : Int) (N : Nat → Nat) (X : Nat → ByteArray) (hN : NumOk N) : printS k N X = if rightP k N X = true then (0, bytesOf (kindB k) N X) else (3, []) := by
  by_cases h0 : kindB k = 0
  · have e : rightP k N X = false := if_pos h0
    rw [e, if_neg (by decide)]
    exact if_pos h0
  · have hk : 1 ≤ k ∧ k ≤ 4 := by unfold kindB at h0; split at h0; assumption; exact absurd rfl h0
    obtain ⟨kn, rfl⟩ : ∃ n : Nat, k = (n : Nat) := ⟨k.toNat, by omega⟩
    have h1 : 1 ≤ kn := by omega
    have h4 : kn ≤ 4 := by omega
    have hkb := kindB_nat h1 h4
    have hp : printS ((kn : Nat) : Int) N X = printP (kn : Nat) N X (pAll N X (fsOf kn) [UInt8.ofNat kn]) := by unfold printS; rw [hkb, if_neg (by omega)]
    have hr : rightP ((kn : Nat) : Int) N X = ((smallX X (csOf kn) && termX X (csOf kn)) && decide (same13 ((kn : Nat) : Int) (withN kn N) (withX kn X) (kn : Nat) N X)) := by unfold rightP; rw [hkb, if_neg (by omega), smallterm]
    rw [hp, hr, hkb]
    cases hs : smallX X (csOf kn) with
    | false =>
      rw [pAll_bad N X (fsOf kn) _ (by rw [cells_cs h1 h4]; exact hs)]
      simp [printP]
    | true =>
      rw [pAll_enc N X (fsOf kn) _ (by rw [cells_cs h1 h4]; exact hs)]
      have hb : printP ((kn : Nat) : Int) N X (0, [UInt8.ofNat kn] ++ encs N X (fsOf kn)) = printR (kn : Nat) N X (bytesOf kn N X) (readS (bytesOf kn N X)) := by unfold printP; rw [if_neg (by simp)]; rfl
      rw [hb]
      obtain ⟨r1, r2⟩ := read_enc h1 h4 N X hN hs
      cases ht : termX X (csOf kn) with
      | false =>
        have h3 := r2 ht
        unfold printR
        rw [if_pos (.inl (by rw [h3]; decide))]
        simp
      | true =>
        rw [r1 ht]
        unfold printR
        by_cases hsm : same13 ((kn : Nat) : Int) (withN kn N) (withX kn X) (kn : Nat) N X
        · rw [if_neg (fun h => h.elim (fun h => h rfl) (fun h => h ((same_st h1 h4 N X _).2 hsm)))]
          simp [hsm]
        · rw [if_pos (.inr (fun h => hsm ((same_st h1 h4 N X _).1 h)))]
          simp [hsm]
end Go.Proofs.Ytjbmcjppaadkgaa

namespace Go.Proofs.Ytjbmcjppaadkgaa
set_option linter.unusedVariables false
set_option linter.unusedSimpArgs false
set_option maxRecDepth 100000
open Go.RowKit
theorem print_zero (k : Int) (N : Nat → Nat) (X : Nat → ByteArray) (hN : NumOk N) : (printS k N X).1 = 0 ↔ rightP k N X = true := by
  rw [print_right k N X hN]
  cases rightP k N X with
  | true => exact ⟨fun _ => rfl, fun _ => rfl⟩
  | false => exact ⟨fun h => absurd h (by simp), fun h => by cases h⟩
theorem body_same (k : Int) (N : Nat → Nat) (X : Nat → ByteArray) (hN : NumOk N) : bodyS k N X = rbodyS k N X := by
  unfold bodyS rbodyS
  by_cases hr : rightP k N X = true
  · have hz := (print_zero k N X hN).2 hr
    have hk : 1 ≤ k := by
      unfold rightP at hr
      by_cases h0 : kindB k = 0
      · rw [if_pos h0] at hr; cases hr
      · unfold kindB at h0; split at h0
        · omega
        · exact absurd rfl h0
    by_cases h2 : k ≤ 2
    · rw [if_pos ⟨by omega, hz⟩, if_pos ⟨hr, h2⟩]
    · rw [if_neg (fun h => by have := h.1; omega), if_neg (fun h => h2 h.2)]
  · have hz : ¬ (printS k N X).1 = 0 := fun h => hr ((print_zero k N X hN).1 h)
    rw [if_neg (fun h => hz h.2), if_neg (fun h => hr h.1)]
theorem list_nil_part (y : List UInt8) : listT [[], y] = [] := by
  unfold listT makeR
  rw [if_pos (by decide)]
  show makeK 11 0 [] [[], y] = []
  rw [make_ref 11 0 [] [[], y] (by decide) (by decide) (by decide)]
  unfold refK
  rw [if_neg (by decide), if_neg]
  rintro ⟨h, _⟩
  have e : sortL 11 [[], y] = [[], y] := by unfold sortL; rw [if_neg (fun h => by have := h.1; omega)]
  rw [e] at h
  simp only [List.all_cons, isL_nil, Bool.false_and] at h
  cases h
theorem signed_same (k : Int) (N : Nat → Nat) (X : Nat → ByteArray) (hN : NumOk N) : signedS k N X = rsignedS k N X := by
  unfold signedS rsignedS
  rw [body_same k N X hN]
  by_cases h : rbodyS k N X = []
  · rw [if_pos h, h, list_nil_part]
  · rw [if_neg h]
theorem not_right (k : Int) (N : Nat → Nat) (X : Nat → ByteArray) (hN : NumOk N) (h : rightP k N X = false) : printS k N X = (3, []) ∧ bodyS k N X = [] ∧ signedS k N X = [] := by
  have hb : bodyS k N X = [] := by rw [body_same k N X hN]; exact if_neg (fun g => by rw [h] at g; exact absurd g.1 (by decide))
  refine ⟨by rw [print_right k N X hN, h, if_neg (by decide)], hb, ?_⟩
  unfold signedS
  rw [hb, list_nil_part]
theorem right_kind {k : Int} {N : Nat → Nat} {X : Nat → ByteArray} (h : rightP k N X = true) : 1 ≤ kindB k ∧ kindB k ≤ 4 ∧ k = ((kindB k : Nat) : Int) ∧ (∀ t ∈ txtsX X (csOf (kindB k)), t.length ≤ 65535) := by
  unfold rightP at h
  by_cases h0 : kindB k = 0
  · rw [if_pos h0] at h; cases h
  · rw [if_neg h0, Bool.and_eq_true] at h
    have ht : ∀ t ∈ txtsX X (csOf (kindB k)), t.length ≤ 65535 := fun t hm => by
      have := List.all_eq_true.1 h.1 t hm
      unfold goodT at this
      rw [Bool.and_eq_true] at this
      exact of_decide_eq_true this.1
    have hk : 1 ≤ k ∧ k ≤ 4 := by unfold kindB at h0; split at h0; assumption; exact absurd rfl h0
    have hb : kindB k = k.toNat := if_pos hk
    exact ⟨by omega, by omega, by omega, ht⟩
theorem right_read {k : Int} {N : Nat → Nat} {X : Nat → ByteArray} (hN : NumOk N) (h : rightP k N X = true) : ∃ N' X', readS (bytesOf (kindB k) N X) = (0, k, N', X') ∧ same13 k N' X' k N X := by
  obtain ⟨h1, h4, hk, _⟩ := right_kind h
  unfold rightP at h
  rw [if_neg (by omega), smallterm, Bool.and_eq_true, Bool.and_eq_true] at h
  have hr := (read_enc h1 h4 N X hN h.1.1).1 h.1.2
  rw [← hk] at hr
  exact ⟨_, _, hr, (same_st h1 h4 N X k).2 (of_decide_eq_true h.2)⟩
theorem enc_ref {kn : Nat} (h1 : 1 ≤ kn) (h4 : kn ≤ 4) (N : Nat → Nat) (X : Nat → ByteArray) : bytesOf kn N X = [UInt8.ofNat kn, 0, 0, 0] ++ encN kn N ++ encT (txtsX X (csOf kn)) := by
  have hz : numB 0 3 = [0, 0, 0] := by decide
  have : kn = 1 ∨ kn = 2 ∨ kn = 3 ∨ kn = 4 := by omega
  rcases this with rfl | rfl | rfl | rfl <;> simp [bytesOf, fsOf, encs, encF, hz, encN, encT, txtsX, csOf]
end Go.Proofs.Ytjbmcjppaadkgaa

namespace Go.Proofs.Ytjbmcjppaadkgaa
set_option linter.unusedVariables false
set_option linter.unusedSimpArgs false
set_option maxRecDepth 100000
open Go.RowKit
set_option maxHeartbeats 4000000 in
theorem wireprints_no (k : Int) (N : Nat → Nat) (X : Nat → ByteArray) (w : World) (hN : NumOk N) (hsz : ∀ c, (X c).size ≤ maxLen) (hr : rightP k N X = false) : Calls Try.prog 3 #[.agg #[.int .i64 k, .int .u32 (N 1 : Nat), .int .u32 (N 2 : Nat), .int .u64 (N 3 : Nat), .string (X 4), .string (X 5), .string (X 6), .string (X 7), .string (X 8), .string (X 9), .string (X 10), .string (X 11), .string (X 12)]] w fun e w' => e = .returned (.bool true) ∧ Below w.heap.size w w' := by
  obtain ⟨n1, n2, n3⟩ := not_right k N X hN hr
  have HM : Hid (MsgAt (w.alloc (.cells #[.int .i64 k, .int .u32 (N 1 : Nat), .int .u32 (N 2 : Nat), .int .u64 (N 3 : Nat), .string (X 4), .string (X 5), .string (X 6), .string (X 7), .string (X 8), .string (X 9), .string (X 10), .string (X 11), .string (X 12)] 25)) w.heap.size k N X) := Lib.hid (heap_alloc_new w _)
  have c0 : (w.alloc (.cells #[.int .i64 k, .int .u32 (N 1 : Nat), .int .u32 (N 2 : Nat), .int .u64 (N 3 : Nat), .string (X 4), .string (X 5), .string (X 6), .string (X 7), .string (X 8), .string (X 9), .string (X 10), .string (X 11), .string (X 12)] 25)).cell? ⟨w.heap.size, 0, none⟩ = some (.int .i64 k) := cell_of HM.out 0 rfl; have c1 : (w.alloc (.cells #[.int .i64 k, .int .u32 (N 1 : Nat), .int .u32 (N 2 : Nat), .int .u64 (N 3 : Nat), .string (X 4), .string (X 5), .string (X 6), .string (X 7), .string (X 8), .string (X 9), .string (X 10), .string (X 11), .string (X 12)] 25)).cell? ⟨w.heap.size, 1, none⟩ = some (.int .u32 (N 1 : Nat)) := cell_of HM.out 1 rfl; have c2 : (w.alloc (.cells #[.int .i64 k, .int .u32 (N 1 : Nat), .int .u32 (N 2 : Nat), .int .u64 (N 3 : Nat), .string (X 4), .string (X 5), .string (X 6), .string (X 7), .string (X 8), .string (X 9), .string (X 10), .string (X 11), .string (X 12)] 25)).cell? ⟨w.heap.size, 2, none⟩ = some (.int .u32 (N 2 : Nat)) := cell_of HM.out 2 rfl; have c3 : (w.alloc (.cells #[.int .i64 k, .int .u32 (N 1 : Nat), .int .u32 (N 2 : Nat), .int .u64 (N 3 : Nat), .string (X 4), .string (X 5), .string (X 6), .string (X 7), .string (X 8), .string (X 9), .string (X 10), .string (X 11), .string (X 12)] 25)).cell? ⟨w.heap.size, 3, none⟩ = some (.int .u64 (N 3 : Nat)) := cell_of HM.out 3 rfl; have c4 : (w.alloc (.cells #[.int .i64 k, .int .u32 (N 1 : Nat), .int .u32 (N 2 : Nat), .int .u64 (N 3 : Nat), .string (X 4), .string (X 5), .string (X 6), .string (X 7), .string (X 8), .string (X 9), .string (X 10), .string (X 11), .string (X 12)] 25)).cell? ⟨w.heap.size, 4, none⟩ = some (.string (X 4)) := cell_of HM.out 4 rfl; have c5 : (w.alloc (.cells #[.int .i64 k, .int .u32 (N 1 : Nat), .int .u32 (N 2 : Nat), .int .u64 (N 3 : Nat), .string (X 4), .string (X 5), .string (X 6), .string (X 7), .string (X 8), .string (X 9), .string (X 10), .string (X 11), .string (X 12)] 25)).cell? ⟨w.heap.size, 5, none⟩ = some (.string (X 5)) := cell_of HM.out 5 rfl; have c6 : (w.alloc (.cells #[.int .i64 k, .int .u32 (N 1 : Nat), .int .u32 (N 2 : Nat), .int .u64 (N 3 : Nat), .string (X 4), .string (X 5), .string (X 6), .string (X 7), .string (X 8), .string (X 9), .string (X 10), .string (X 11), .string (X 12)] 25)).cell? ⟨w.heap.size, 6, none⟩ = some (.string (X 6)) := cell_of HM.out 6 rfl; have c7 : (w.alloc (.cells #[.int .i64 k, .int .u32 (N 1 : Nat), .int .u32 (N 2 : Nat), .int .u64 (N 3 : Nat), .string (X 4), .string (X 5), .string (X 6), .string (X 7), .string (X 8), .string (X 9), .string (X 10), .string (X 11), .string (X 12)] 25)).cell? ⟨w.heap.size, 7, none⟩ = some (.string (X 7)) := cell_of HM.out 7 rfl; have c8 : (w.alloc (.cells #[.int .i64 k, .int .u32 (N 1 : Nat), .int .u32 (N 2 : Nat), .int .u64 (N 3 : Nat), .string (X 4), .string (X 5), .string (X 6), .string (X 7), .string (X 8), .string (X 9), .string (X 10), .string (X 11), .string (X 12)] 25)).cell? ⟨w.heap.size, 8, none⟩ = some (.string (X 8)) := cell_of HM.out 8 rfl; have c9 : (w.alloc (.cells #[.int .i64 k, .int .u32 (N 1 : Nat), .int .u32 (N 2 : Nat), .int .u64 (N 3 : Nat), .string (X 4), .string (X 5), .string (X 6), .string (X 7), .string (X 8), .string (X 9), .string (X 10), .string (X 11), .string (X 12)] 25)).cell? ⟨w.heap.size, 9, none⟩ = some (.string (X 9)) := cell_of HM.out 9 rfl; have c10 : (w.alloc (.cells #[.int .i64 k, .int .u32 (N 1 : Nat), .int .u32 (N 2 : Nat), .int .u64 (N 3 : Nat), .string (X 4), .string (X 5), .string (X 6), .string (X 7), .string (X 8), .string (X 9), .string (X 10), .string (X 11), .string (X 12)] 25)).cell? ⟨w.heap.size, 10, none⟩ = some (.string (X 10)) := cell_of HM.out 10 rfl; have c11 : (w.alloc (.cells #[.int .i64 k, .int .u32 (N 1 : Nat), .int .u32 (N 2 : Nat), .int .u64 (N 3 : Nat), .string (X 4), .string (X 5), .string (X 6), .string (X 7), .string (X 8), .string (X 9), .string (X 10), .string (X 11), .string (X 12)] 25)).cell? ⟨w.heap.size, 11, none⟩ = some (.string (X 11)) := cell_of HM.out 11 rfl; have c12 : (w.alloc (.cells #[.int .i64 k, .int .u32 (N 1 : Nat), .int .u32 (N 2 : Nat), .int .u64 (N 3 : Nat), .string (X 4), .string (X 5), .string (X 6), .string (X 7), .string (X 8), .string (X 9), .string (X 10), .string (X 11), .string (X 12)] 25)).cell? ⟨w.heap.size, 12, none⟩ = some (.string (X 12)) := cell_of HM.out 12 rfl
  have HB : Hid (Below w.heap.size w (w.alloc (.cells #[.int .i64 k, .int .u32 (N 1 : Nat), .int .u32 (N 2 : Nat), .int .u64 (N 3 : Nat), .string (X 4), .string (X 5), .string (X 6), .string (X 7), .string (X 8), .string (X 9), .string (X 10), .string (X 11), .string (X 12)] 25))) := Lib.hid (below_one _)
  have HHV := Lib.hid (fun W => rheavy_any (k := k) (s := N 1) (r := N 2) (c := N 3) (a4 := X 4) (a5 := X 5) (a6 := X 6) (a7 := X 7) (a8 := X 8) (a9 := X 9) (a10 := X 10) (a11 := X 11) (a12 := X 12) 2000 W)
  have hpr := fun W => wprint_any k N X W hN
  have htm := fun W => wterms_any k N X W hN
  have hbd := fun W => wbody_any k N X W hN
  have hsg := fun W => wsigned_any k N X W hN
  have hri := fun W => rright6_any k N X W hN hsz
  unfold PrintRet6 at hpr
  unfold TermsW at htm
  rw [n1] at hpr htm
  rw [n2] at hbd
  rw [n3] at hsg
  rw [hr] at hri
  have HPR := Lib.hid hpr
  have HTM := Lib.hid htm
  have HBD : Hid (∀ W, Calls Try.prog 10 #[.agg #[.int .i64 k, .int .u32 (N 1 : Nat), .int .u32 (N 2 : Nat), .int .u64 (N 3 : Nat), .string (X 4), .string (X 5), .string (X 6), .string (X 7), .string (X 8), .string (X 9), .string (X 10), .string (X 11), .string (X 12)]] W fun e w' => e = .returned (.string ⟨#[]⟩) ∧ Below W.heap.size W w') := Lib.hid hbd
  have HSG : Hid (∀ W, Calls Try.prog 11 #[.agg #[.int .i64 k, .int .u32 (N 1 : Nat), .int .u32 (N 2 : Nat), .int .u64 (N 3 : Nat), .string (X 4), .string (X 5), .string (X 6), .string (X 7), .string (X 8), .string (X 9), .string (X 10), .string (X 11), .string (X 12)]] W fun e w' => e = .returned (.string ⟨#[]⟩) ∧ Below W.heap.size W w') := Lib.hid hsg
  have HRI := Lib.hid hri
  have HNZ : Hid (((3, []) : Nat × List UInt8).1 ≠ 0) := Lib.hid (by simp)
  clear hpr htm hbd hsg hri n1 n2 n3 hr hN hsz
  go_enter Try.func3, Try.ntmps3
  go_wp2_with (first | (go_at_call 5; ((with_reducible refine (awake6_any _).mono ?_); rintro e w2 ⟨rfl, hb2⟩; have HM := Lib.hid (msg_below HM.out hb2); have c0 : w2.cell? ⟨w.heap.size, 0, none⟩ = some (.int .i64 k) := cell_of HM.out 0 rfl; have c1 : w2.cell? ⟨w.heap.size, 1, none⟩ = some (.int .u32 (N 1 : Nat)) := cell_of HM.out 1 rfl; have c2 : w2.cell? ⟨w.heap.size, 2, none⟩ = some (.int .u32 (N 2 : Nat)) := cell_of HM.out 2 rfl; have c3 : w2.cell? ⟨w.heap.size, 3, none⟩ = some (.int .u64 (N 3 : Nat)) := cell_of HM.out 3 rfl; have c4 : w2.cell? ⟨w.heap.size, 4, none⟩ = some (.string (X 4)) := cell_of HM.out 4 rfl; have c5 : w2.cell? ⟨w.heap.size, 5, none⟩ = some (.string (X 5)) := cell_of HM.out 5 rfl; have c6 : w2.cell? ⟨w.heap.size, 6, none⟩ = some (.string (X 6)) := cell_of HM.out 6 rfl; have c7 : w2.cell? ⟨w.heap.size, 7, none⟩ = some (.string (X 7)) := cell_of HM.out 7 rfl; have c8 : w2.cell? ⟨w.heap.size, 8, none⟩ = some (.string (X 8)) := cell_of HM.out 8 rfl; have c9 : w2.cell? ⟨w.heap.size, 9, none⟩ = some (.string (X 9)) := cell_of HM.out 9 rfl; have c10 : w2.cell? ⟨w.heap.size, 10, none⟩ = some (.string (X 10)) := cell_of HM.out 10 rfl; have c11 : w2.cell? ⟨w.heap.size, 11, none⟩ = some (.string (X 11)) := cell_of HM.out 11 rfl; have c12 : w2.cell? ⟨w.heap.size, 12, none⟩ = some (.string (X 12)) := cell_of HM.out 12 rfl; have HB := Lib.hid (Below.next HB.out hb2); clear hb2)) | (go_at_call 6; ((with_reducible refine (HHV.out _).mono ?_); rintro e w2 ⟨⟨bh, rfl⟩, hb2⟩; have HM := Lib.hid (msg_below HM.out hb2); have c0 : w2.cell? ⟨w.heap.size, 0, none⟩ = some (.int .i64 k) := cell_of HM.out 0 rfl; have c1 : w2.cell? ⟨w.heap.size, 1, none⟩ = some (.int .u32 (N 1 : Nat)) := cell_of HM.out 1 rfl; have c2 : w2.cell? ⟨w.heap.size, 2, none⟩ = some (.int .u32 (N 2 : Nat)) := cell_of HM.out 2 rfl; have c3 : w2.cell? ⟨w.heap.size, 3, none⟩ = some (.int .u64 (N 3 : Nat)) := cell_of HM.out 3 rfl; have c4 : w2.cell? ⟨w.heap.size, 4, none⟩ = some (.string (X 4)) := cell_of HM.out 4 rfl; have c5 : w2.cell? ⟨w.heap.size, 5, none⟩ = some (.string (X 5)) := cell_of HM.out 5 rfl; have c6 : w2.cell? ⟨w.heap.size, 6, none⟩ = some (.string (X 6)) := cell_of HM.out 6 rfl; have c7 : w2.cell? ⟨w.heap.size, 7, none⟩ = some (.string (X 7)) := cell_of HM.out 7 rfl; have c8 : w2.cell? ⟨w.heap.size, 8, none⟩ = some (.string (X 8)) := cell_of HM.out 8 rfl; have c9 : w2.cell? ⟨w.heap.size, 9, none⟩ = some (.string (X 9)) := cell_of HM.out 9 rfl; have c10 : w2.cell? ⟨w.heap.size, 10, none⟩ = some (.string (X 10)) := cell_of HM.out 10 rfl; have c11 : w2.cell? ⟨w.heap.size, 11, none⟩ = some (.string (X 11)) := cell_of HM.out 11 rfl; have c12 : w2.cell? ⟨w.heap.size, 12, none⟩ = some (.string (X 12)) := cell_of HM.out 12 rfl; have HB := Lib.hid (Below.next HB.out hb2); clear hb2)) | (go_at_call 7; ((with_reducible refine (HPR.out _).mono ?_); rintro e w2 ⟨vp, rfl, hpn, hpr, hb2⟩; have HM := Lib.hid (msg_below HM.out hb2); have c0 : w2.cell? ⟨w.heap.size, 0, none⟩ = some (.int .i64 k) := cell_of HM.out 0 rfl; have c1 : w2.cell? ⟨w.heap.size, 1, none⟩ = some (.int .u32 (N 1 : Nat)) := cell_of HM.out 1 rfl; have c2 : w2.cell? ⟨w.heap.size, 2, none⟩ = some (.int .u32 (N 2 : Nat)) := cell_of HM.out 2 rfl; have c3 : w2.cell? ⟨w.heap.size, 3, none⟩ = some (.int .u64 (N 3 : Nat)) := cell_of HM.out 3 rfl; have c4 : w2.cell? ⟨w.heap.size, 4, none⟩ = some (.string (X 4)) := cell_of HM.out 4 rfl; have c5 : w2.cell? ⟨w.heap.size, 5, none⟩ = some (.string (X 5)) := cell_of HM.out 5 rfl; have c6 : w2.cell? ⟨w.heap.size, 6, none⟩ = some (.string (X 6)) := cell_of HM.out 6 rfl; have c7 : w2.cell? ⟨w.heap.size, 7, none⟩ = some (.string (X 7)) := cell_of HM.out 7 rfl; have c8 : w2.cell? ⟨w.heap.size, 8, none⟩ = some (.string (X 8)) := cell_of HM.out 8 rfl; have c9 : w2.cell? ⟨w.heap.size, 9, none⟩ = some (.string (X 9)) := cell_of HM.out 9 rfl; have c10 : w2.cell? ⟨w.heap.size, 10, none⟩ = some (.string (X 10)) := cell_of HM.out 10 rfl; have c11 : w2.cell? ⟨w.heap.size, 11, none⟩ = some (.string (X 11)) := cell_of HM.out 11 rfl; have c12 : w2.cell? ⟨w.heap.size, 12, none⟩ = some (.string (X 12)) := cell_of HM.out 12 rfl; have HB := Lib.hid (Below.next HB.out hb2); obtain rfl := hpn HNZ.out; clear hpn hpr; clear hb2)) | (go_at_call 8; ((with_reducible refine (HRI.out _).mono ?_); rintro e w2 ⟨rfl, hb2⟩; have HM := Lib.hid (msg_below HM.out hb2); have c0 : w2.cell? ⟨w.heap.size, 0, none⟩ = some (.int .i64 k) := cell_of HM.out 0 rfl; have c1 : w2.cell? ⟨w.heap.size, 1, none⟩ = some (.int .u32 (N 1 : Nat)) := cell_of HM.out 1 rfl; have c2 : w2.cell? ⟨w.heap.size, 2, none⟩ = some (.int .u32 (N 2 : Nat)) := cell_of HM.out 2 rfl; have c3 : w2.cell? ⟨w.heap.size, 3, none⟩ = some (.int .u64 (N 3 : Nat)) := cell_of HM.out 3 rfl; have c4 : w2.cell? ⟨w.heap.size, 4, none⟩ = some (.string (X 4)) := cell_of HM.out 4 rfl; have c5 : w2.cell? ⟨w.heap.size, 5, none⟩ = some (.string (X 5)) := cell_of HM.out 5 rfl; have c6 : w2.cell? ⟨w.heap.size, 6, none⟩ = some (.string (X 6)) := cell_of HM.out 6 rfl; have c7 : w2.cell? ⟨w.heap.size, 7, none⟩ = some (.string (X 7)) := cell_of HM.out 7 rfl; have c8 : w2.cell? ⟨w.heap.size, 8, none⟩ = some (.string (X 8)) := cell_of HM.out 8 rfl; have c9 : w2.cell? ⟨w.heap.size, 9, none⟩ = some (.string (X 9)) := cell_of HM.out 9 rfl; have c10 : w2.cell? ⟨w.heap.size, 10, none⟩ = some (.string (X 10)) := cell_of HM.out 10 rfl; have c11 : w2.cell? ⟨w.heap.size, 11, none⟩ = some (.string (X 11)) := cell_of HM.out 11 rfl; have c12 : w2.cell? ⟨w.heap.size, 12, none⟩ = some (.string (X 12)) := cell_of HM.out 12 rfl; have HB := Lib.hid (Below.next HB.out hb2); clear hb2)) | (go_at_call 9; ((with_reducible refine (HTM.out _).mono ?_); rintro e w2 ⟨vt, rfl, htn, htr, hb2⟩; obtain rfl := htn HNZ.out; have HM := Lib.hid (msg_below HM.out hb2); have c0 : w2.cell? ⟨w.heap.size, 0, none⟩ = some (.int .i64 k) := cell_of HM.out 0 rfl; have c1 : w2.cell? ⟨w.heap.size, 1, none⟩ = some (.int .u32 (N 1 : Nat)) := cell_of HM.out 1 rfl; have c2 : w2.cell? ⟨w.heap.size, 2, none⟩ = some (.int .u32 (N 2 : Nat)) := cell_of HM.out 2 rfl; have c3 : w2.cell? ⟨w.heap.size, 3, none⟩ = some (.int .u64 (N 3 : Nat)) := cell_of HM.out 3 rfl; have c4 : w2.cell? ⟨w.heap.size, 4, none⟩ = some (.string (X 4)) := cell_of HM.out 4 rfl; have c5 : w2.cell? ⟨w.heap.size, 5, none⟩ = some (.string (X 5)) := cell_of HM.out 5 rfl; have c6 : w2.cell? ⟨w.heap.size, 6, none⟩ = some (.string (X 6)) := cell_of HM.out 6 rfl; have c7 : w2.cell? ⟨w.heap.size, 7, none⟩ = some (.string (X 7)) := cell_of HM.out 7 rfl; have c8 : w2.cell? ⟨w.heap.size, 8, none⟩ = some (.string (X 8)) := cell_of HM.out 8 rfl; have c9 : w2.cell? ⟨w.heap.size, 9, none⟩ = some (.string (X 9)) := cell_of HM.out 9 rfl; have c10 : w2.cell? ⟨w.heap.size, 10, none⟩ = some (.string (X 10)) := cell_of HM.out 10 rfl; have c11 : w2.cell? ⟨w.heap.size, 11, none⟩ = some (.string (X 11)) := cell_of HM.out 11 rfl; have c12 : w2.cell? ⟨w.heap.size, 12, none⟩ = some (.string (X 12)) := cell_of HM.out 12 rfl; have HB := Lib.hid (Below.next HB.out hb2); clear hb2 htn htr)) | (go_at_call 10; ((with_reducible refine (HBD.out _).mono ?_); rintro e w2 ⟨rfl, hb2⟩; have HM := Lib.hid (msg_below HM.out hb2); have c0 : w2.cell? ⟨w.heap.size, 0, none⟩ = some (.int .i64 k) := cell_of HM.out 0 rfl; have c1 : w2.cell? ⟨w.heap.size, 1, none⟩ = some (.int .u32 (N 1 : Nat)) := cell_of HM.out 1 rfl; have c2 : w2.cell? ⟨w.heap.size, 2, none⟩ = some (.int .u32 (N 2 : Nat)) := cell_of HM.out 2 rfl; have c3 : w2.cell? ⟨w.heap.size, 3, none⟩ = some (.int .u64 (N 3 : Nat)) := cell_of HM.out 3 rfl; have c4 : w2.cell? ⟨w.heap.size, 4, none⟩ = some (.string (X 4)) := cell_of HM.out 4 rfl; have c5 : w2.cell? ⟨w.heap.size, 5, none⟩ = some (.string (X 5)) := cell_of HM.out 5 rfl; have c6 : w2.cell? ⟨w.heap.size, 6, none⟩ = some (.string (X 6)) := cell_of HM.out 6 rfl; have c7 : w2.cell? ⟨w.heap.size, 7, none⟩ = some (.string (X 7)) := cell_of HM.out 7 rfl; have c8 : w2.cell? ⟨w.heap.size, 8, none⟩ = some (.string (X 8)) := cell_of HM.out 8 rfl; have c9 : w2.cell? ⟨w.heap.size, 9, none⟩ = some (.string (X 9)) := cell_of HM.out 9 rfl; have c10 : w2.cell? ⟨w.heap.size, 10, none⟩ = some (.string (X 10)) := cell_of HM.out 10 rfl; have c11 : w2.cell? ⟨w.heap.size, 11, none⟩ = some (.string (X 11)) := cell_of HM.out 11 rfl; have c12 : w2.cell? ⟨w.heap.size, 12, none⟩ = some (.string (X 12)) := cell_of HM.out 12 rfl; have HB := Lib.hid (Below.next HB.out hb2); clear hb2)) | (go_at_call 11; ((with_reducible refine (HSG.out _).mono ?_); rintro e w2 ⟨rfl, hb2⟩; have HM := Lib.hid (msg_below HM.out hb2); have c0 : w2.cell? ⟨w.heap.size, 0, none⟩ = some (.int .i64 k) := cell_of HM.out 0 rfl; have c1 : w2.cell? ⟨w.heap.size, 1, none⟩ = some (.int .u32 (N 1 : Nat)) := cell_of HM.out 1 rfl; have c2 : w2.cell? ⟨w.heap.size, 2, none⟩ = some (.int .u32 (N 2 : Nat)) := cell_of HM.out 2 rfl; have c3 : w2.cell? ⟨w.heap.size, 3, none⟩ = some (.int .u64 (N 3 : Nat)) := cell_of HM.out 3 rfl; have c4 : w2.cell? ⟨w.heap.size, 4, none⟩ = some (.string (X 4)) := cell_of HM.out 4 rfl; have c5 : w2.cell? ⟨w.heap.size, 5, none⟩ = some (.string (X 5)) := cell_of HM.out 5 rfl; have c6 : w2.cell? ⟨w.heap.size, 6, none⟩ = some (.string (X 6)) := cell_of HM.out 6 rfl; have c7 : w2.cell? ⟨w.heap.size, 7, none⟩ = some (.string (X 7)) := cell_of HM.out 7 rfl; have c8 : w2.cell? ⟨w.heap.size, 8, none⟩ = some (.string (X 8)) := cell_of HM.out 8 rfl; have c9 : w2.cell? ⟨w.heap.size, 9, none⟩ = some (.string (X 9)) := cell_of HM.out 9 rfl; have c10 : w2.cell? ⟨w.heap.size, 10, none⟩ = some (.string (X 10)) := cell_of HM.out 10 rfl; have c11 : w2.cell? ⟨w.heap.size, 11, none⟩ = some (.string (X 11)) := cell_of HM.out 11 rfl; have c12 : w2.cell? ⟨w.heap.size, 12, none⟩ = some (.string (X 12)) := cell_of HM.out 12 rfl; have HB := Lib.hid (Below.next HB.out hb2); clear hb2)) | fail)
  all_goals
    go_ret
    exact ⟨rfl, HB.out⟩
end Go.Proofs.Ytjbmcjppaadkgaa

namespace Go.Proofs.Ytjbmcjppaadkgaa
set_option linter.unusedVariables false
set_option linter.unusedSimpArgs false
set_option maxRecDepth 100000
open Go.RowKit
theorem rprint6_any (k : Int) (N : Nat → Nat) (X : Nat → ByteArray) (w : World) (hN : NumOk N) (hr : rightP k N X = true) : Calls Try.prog 13 #[.agg #[.int .i64 k, .int .u32 (N 1 : Nat), .int .u32 (N 2 : Nat), .int .u64 (N 3 : Nat), .string (X 4), .string (X 5), .string (X 6), .string (X 7), .string (X 8), .string (X 9), .string (X 10), .string (X 11), .string (X 12)]] w fun e w' => (∃ v base, e = .returned v ∧ RowB w' base v (bytesOf (kindB k) N X)) ∧ Below w.heap.size w w' := by
  obtain ⟨h1, h4, hk, ht⟩ := right_kind hr
  rw [enc_ref h1 h4]
  generalize kindB k = kn at *
  have hl : (txtsX X (csOf kn)).length ≤ 5 := by simp only [txtsX, List.length_map]; exact cs_len kn
  have : kn = 1 ∨ kn = 2 ∨ kn = 3 ∨ kn = 4 := by omega
  rcases this with rfl | rfl | rfl | rfl
  · exact rprint_1 k 1 N X w _ hk hN (fun W => by rw [hk]; exact rterms_1 N X W) ht hl _ (by simp [encN, numB_len]) (by decide) (by omega) (by omega) (bne_i (by omega)) (by simp [encN])
  · exact rprint_2 k 2 N X w _ hk hN (fun W => by rw [hk]; exact rterms_2 N X W) ht hl _ (by simp [encN, numB_len]) (by decide) (by omega) (by omega) (bne_i (by omega)) (by simp [encN])
  · exact rprint_3 k 3 N X w _ hk hN (fun W => by rw [hk]; exact rterms_3 N X W) ht hl _ (by simp [encN, numB_len]) (by decide) (by omega) (by omega) (bne_i (by omega)) (by simp [encN])
  · exact rprint_4 k 4 N X w _ hk hN (fun W => by rw [hk]; exact rterms_4 N X W) ht hl _ (by simp [encN, numB_len]) (by decide) (by omega) (by omega) (by rw [hk]; decide) (by simp [encN])
theorem rterms6_any (k : Int) (N : Nat → Nat) (X : Nat → ByteArray) (w : World) (hr : rightP k N X = true) : Calls Try.prog 15 #[.agg #[.int .i64 k, .int .u32 (N 1 : Nat), .int .u32 (N 2 : Nat), .int .u64 (N 3 : Nat), .string (X 4), .string (X 5), .string (X 6), .string (X 7), .string (X 8), .string (X 9), .string (X 10), .string (X 11), .string (X 12)]] w (TermsRet w (txtsX X (csOf (kindB k)))) := by
  obtain ⟨h1, h4, hk, _⟩ := right_kind hr
  have h := rterms_any (k := k) (s := N 1) (r := N 2) (c := N 3) (a4 := X 4) (a5 := X 5) (a6 := X 6) (a7 := X 7) (a8 := X 8) (a9 := X 9) (a10 := X 10) (a11 := X 11) (a12 := X 12) w
  have e : rowM k (X 4) (X 5) (X 6) (X 7) (X 8) (X 9) (X 10) (X 11) (X 12) = txtsX X (csOf (kindB k)) := by
    have := rows_txts (kindB k) h1 h4 X
    rw [← hk] at this
    exact this
  rw [e] at h
  exact h
end Go.Proofs.Ytjbmcjppaadkgaa
