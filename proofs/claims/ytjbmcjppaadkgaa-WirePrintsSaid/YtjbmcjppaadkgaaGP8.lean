/- Texts of this seat, merged: Wire17, Term18, Term19, Ref1, Ref2. -/
import Derived.Test.YtjbmcjppaadkgaaGP7
namespace Go.Proofs.Ytjbmcjppaadkgaa
set_option linter.unusedVariables false
set_option linter.unusedSimpArgs false
set_option maxRecDepth 100000
open Go.RowKit
set_option maxHeartbeats 1000000 in
theorem print_x (kn : Nat) (N : Nat → Nat) (X : Nat → ByteArray) (w : World) (fs : List Fd) (hk : fsOf kn = fs) (hfs : fs ≠ []) (hN : NumOk N) (pc : Nat) (P : List UInt8) (hP : pAll N X fs [UInt8.ofNat kn] = (pc, P)) (rc : Nat) (rk : Int) (rN : Nat → Nat) (rX : Nat → ByteArray) (hR : readS P = (rc, rk, rN, rX)) (hNE : ∀ W, (binOp .neq 25 (.agg #[.int .i64 rk, .int .u32 (rN 1 : Nat), .int .u32 (rN 2 : Nat), .int .u64 (rN 3 : Nat), .string (rX 4), .string (rX 5), .string (rX 6), .string (rX 7), .string (rX 8), .string (rX 9), .string (rX 10), .string (rX 11), .string (rX 12)]) (.agg #[.int .i64 (kn : Nat), .int .u32 (N 1 : Nat), .int .u32 (N 2 : Nat), .int .u64 (N 3 : Nat), .string (X 4), .string (X 5), .string (X 6), .string (X 7), .string (X 8), .string (X 9), .string (X 10), .string (X 11), .string (X 12)])).run Try.prog W = .ok (.bool (!decide (same13 rk rN rX (kn : Nat) N X))) W) : Calls Try.prog 7 #[.agg #[.int .i64 (kn : Nat), .int .u32 (N 1 : Nat), .int .u32 (N 2 : Nat), .int .u64 (N 3 : Nat), .string (X 4), .string (X 5), .string (X 6), .string (X 7), .string (X 8), .string (X 9), .string (X 10), .string (X 11), .string (X 12)]] w (PrintRet6 w (printP (kn : Nat) N X (pc, P))) := by
  have hkr : 1 ≤ kn ∧ kn ≤ 4 := by
    have : ¬ (kn ≠ 1 ∧ kn ≠ 2 ∧ kn ≠ 3 ∧ kn ≠ 4) := fun h => hfs (by rw [← hk]; unfold fsOf; rw [if_neg h.1, if_neg h.2.1, if_neg h.2.2.1, if_neg h.2.2.2])
    omega
  have cB : (w.alloc (.cells #[.int .i64 (kn : Nat), .int .u32 (N 1 : Nat), .int .u32 (N 2 : Nat), .int .u64 (N 3 : Nat), .string (X 4), .string (X 5), .string (X 6), .string (X 7), .string (X 8), .string (X 9), .string (X 10), .string (X 11), .string (X 12)] 25)).cell? ⟨w.heap.size, 0, none⟩ = some (.int .i64 (kn : Nat)) := cell_of (heap_alloc_new w _) 0 rfl
  have HB : Hid (Below w.heap.size w (w.alloc (.cells #[.int .i64 (kn : Nat), .int .u32 (N 1 : Nat), .int .u32 (N 2 : Nat), .int .u64 (N 3 : Nat), .string (X 4), .string (X 5), .string (X 6), .string (X 7), .string (X 8), .string (X 9), .string (X 10), .string (X 11), .string (X 12)] 25))) := Lib.hid (below_one _)
  have HROW := row_any w.heap.size kn (w.alloc (.cells #[.int .i64 (kn : Nat), .int .u32 (N 1 : Nat), .int .u32 (N 2 : Nat), .int .u64 (N 3 : Nat), .string (X 4), .string (X 5), .string (X 6), .string (X 7), .string (X 8), .string (X 9), .string (X 10), .string (X 11), .string (X 12)] 25)) cB (by rw [hk]; exact hfs)
  rw [hk] at HROW
  unfold RowRet at HROW
  have HROW := Lib.hid HROW
  have HOK : Hid (∀ f ∈ fs, FdOk f) := Lib.hid (by rw [← hk]; exact fsOf_ok _)
  have HN : Hid (fs.length ≤ 7) := Lib.hid (by rw [← hk]; exact fsOf_len _)
  have HNO := Lib.hid hN
  have HM : Hid (MsgAt (w.alloc (.cells #[.int .i64 (kn : Nat), .int .u32 (N 1 : Nat), .int .u32 (N 2 : Nat), .int .u64 (N 3 : Nat), .string (X 4), .string (X 5), .string (X 6), .string (X 7), .string (X 8), .string (X 9), .string (X 10), .string (X 11), .string (X 12)] 25)) w.heap.size (kn : Nat) N X) := Lib.hid (heap_alloc_new w _)
  have HPP := Lib.hid hP
  have HRR := Lib.hid hR
  have HPL : Hid (P.length ≤ 10000000) := Lib.hid (by have h := pAll_len N X fs [UInt8.ofNat kn]; rw [hP] at h; dsimp only at h; have := HN.out; simp at h; omega)
  have HKB : Hid (((kn : Nat) : Int) = (UInt8.ofNat kn).toNat) := Lib.hid (by rw [u8of (by omega)])
  have hfl : 0 < fs.length := List.length_pos_iff.2 hfs
  have hfl0 : ¬ (fs.length : Int) = 0 := by omega
  have hk8 : (kn : Int) % 256 = kn := by omega
  have hk8w : IntKind.u8.wrap (kn : Int) = kn := wrap_u8 _ (by omega) (by omega)
  have hkr1 := hkr.1
  have hkr2 := hkr.2
  clear hk hN hP hR hfs hkr
  by_cases he : pc = 0
  · subst he
    by_cases hrc : rc = 0
    · subst hrc
      by_cases hsm : same13 rk rN rX (kn : Nat) N X
      · have HZ : Hid (printP (kn : Nat) N X (0, P) = (0, P)) := Lib.hid (by unfold printP; rw [if_neg (by simp)]; unfold printR; rw [HRR.out]; exact if_neg (fun h => h.elim (fun h => h rfl) (fun h => h hsm)))
        rw [decide_eq_true hsm] at hNE
        clear hsm
        go_enter Try.func7, Try.ntmps7
        go_wp2_with (first | (go_at_call 19; ((with_reducible refine (HROW.out).mono ?_); rintro e w2 ⟨g, vs, rfl, hg, hfa, hfi, hb2⟩; (try dsimp only); have HM2 := Lib.hid (msg_below HM.out hb2); have HB2 := Lib.hid (Below.next HB.out hb2); have HFA := Lib.hid hfa; have HFI := Lib.hid hfi; have cK : w2.cell? ⟨w.heap.size, 0, none⟩ = some (.int .i64 (kn : Nat)) := (cell_of HM2.out 0 rfl); clear hg hfa hfi hb2)) | (go_at_call 20; ((with_reducible refine (walkP_any g fs vs _ [UInt8.ofNat kn] w2.heap.size w.heap.size kn N X w2 (w2.alloc (.cells #[.int .u8 (kn : Nat)] 5)) HFA.out HFI.out HOK.out HM2.out HNO.out (Nat.le_refl _) (below_one _) (row_one w2 _ _ HKB.out) (by simp) (by simp) HN.out).mono ?_); rw [HPP.out]; rintro e w4 ⟨v4, rfl, hr4, hb4⟩; (try dsimp only); have HB34 : Hid (Below w2.heap.size w2 w4) := Lib.hid ((below_one _).trans hb4); have HM4 := Lib.hid (msg_below HM2.out HB34.out); have HB4 := Lib.hid (HB2.out.trans (HB34.out.mono HB2.out.size)); have HR4 := Lib.hid hr4; clear hr4 hb4)) | (go_at_call 12; ((with_reducible refine (wread_any v4 P w4 (row_part (HR4.out rfl)) HPL.out).mono ?_); rw [HRR.out]; rintro e w5 ⟨rfl, hb5⟩; (try dsimp only [msgV, msgC]); have HB5 := Lib.hid (Below.next HB4.out hb5); have HR5 := Lib.hid (row_below (HR4.out rfl) hb5); have HMB : Hid (∀ o, MsgAt (w5.alloc o) w.heap.size kn N X) := Lib.hid (fun o => msg_below (msg_below HM4.out hb5) (below_one o)); have c0 : ∀ o, (w5.alloc o).cell? ⟨w.heap.size, 0, none⟩ = some (.int .i64 (kn : Nat)) := (fun o => cell_of (HMB.out o) 0 rfl); have c1 : ∀ o, (w5.alloc o).cell? ⟨w.heap.size, 1, none⟩ = some (.int .u32 (N 1 : Nat)) := (fun o => cell_of (HMB.out o) 1 rfl); have c2 : ∀ o, (w5.alloc o).cell? ⟨w.heap.size, 2, none⟩ = some (.int .u32 (N 2 : Nat)) := (fun o => cell_of (HMB.out o) 2 rfl); have c3 : ∀ o, (w5.alloc o).cell? ⟨w.heap.size, 3, none⟩ = some (.int .u64 (N 3 : Nat)) := (fun o => cell_of (HMB.out o) 3 rfl); have c4 : ∀ o, (w5.alloc o).cell? ⟨w.heap.size, 4, none⟩ = some (.string (X 4)) := (fun o => cell_of (HMB.out o) 4 rfl); have c5 : ∀ o, (w5.alloc o).cell? ⟨w.heap.size, 5, none⟩ = some (.string (X 5)) := (fun o => cell_of (HMB.out o) 5 rfl); have c6 : ∀ o, (w5.alloc o).cell? ⟨w.heap.size, 6, none⟩ = some (.string (X 6)) := (fun o => cell_of (HMB.out o) 6 rfl); have c7 : ∀ o, (w5.alloc o).cell? ⟨w.heap.size, 7, none⟩ = some (.string (X 7)) := (fun o => cell_of (HMB.out o) 7 rfl); have c8 : ∀ o, (w5.alloc o).cell? ⟨w.heap.size, 8, none⟩ = some (.string (X 8)) := (fun o => cell_of (HMB.out o) 8 rfl); have c9 : ∀ o, (w5.alloc o).cell? ⟨w.heap.size, 9, none⟩ = some (.string (X 9)) := (fun o => cell_of (HMB.out o) 9 rfl); have c10 : ∀ o, (w5.alloc o).cell? ⟨w.heap.size, 10, none⟩ = some (.string (X 10)) := (fun o => cell_of (HMB.out o) 10 rfl); have c11 : ∀ o, (w5.alloc o).cell? ⟨w.heap.size, 11, none⟩ = some (.string (X 11)) := (fun o => cell_of (HMB.out o) 11 rfl); have c12 : ∀ o, (w5.alloc o).cell? ⟨w.heap.size, 12, none⟩ = some (.string (X 12)) := (fun o => cell_of (HMB.out o) 12 rfl); have n0 : (w5.alloc (.cells #[.int .i64 rk, .int .u32 (rN 1 : Nat), .int .u32 (rN 2 : Nat), .int .u64 (rN 3 : Nat), .string (rX 4), .string (rX 5), .string (rX 6), .string (rX 7), .string (rX 8), .string (rX 9), .string (rX 10), .string (rX 11), .string (rX 12)] 25)).cell? ⟨w5.heap.size, 0, none⟩ = some (.int .i64 rk) := (cell_of (heap_alloc_new w5 (.cells #[.int .i64 rk, .int .u32 (rN 1 : Nat), .int .u32 (rN 2 : Nat), .int .u64 (rN 3 : Nat), .string (rX 4), .string (rX 5), .string (rX 6), .string (rX 7), .string (rX 8), .string (rX 9), .string (rX 10), .string (rX 11), .string (rX 12)] 25)) 0 rfl); have n1 : (w5.alloc (.cells #[.int .i64 rk, .int .u32 (rN 1 : Nat), .int .u32 (rN 2 : Nat), .int .u64 (rN 3 : Nat), .string (rX 4), .string (rX 5), .string (rX 6), .string (rX 7), .string (rX 8), .string (rX 9), .string (rX 10), .string (rX 11), .string (rX 12)] 25)).cell? ⟨w5.heap.size, 1, none⟩ = some (.int .u32 (rN 1 : Nat)) := (cell_of (heap_alloc_new w5 (.cells #[.int .i64 rk, .int .u32 (rN 1 : Nat), .int .u32 (rN 2 : Nat), .int .u64 (rN 3 : Nat), .string (rX 4), .string (rX 5), .string (rX 6), .string (rX 7), .string (rX 8), .string (rX 9), .string (rX 10), .string (rX 11), .string (rX 12)] 25)) 1 rfl); have n2 : (w5.alloc (.cells #[.int .i64 rk, .int .u32 (rN 1 : Nat), .int .u32 (rN 2 : Nat), .int .u64 (rN 3 : Nat), .string (rX 4), .string (rX 5), .string (rX 6), .string (rX 7), .string (rX 8), .string (rX 9), .string (rX 10), .string (rX 11), .string (rX 12)] 25)).cell? ⟨w5.heap.size, 2, none⟩ = some (.int .u32 (rN 2 : Nat)) := (cell_of (heap_alloc_new w5 (.cells #[.int .i64 rk, .int .u32 (rN 1 : Nat), .int .u32 (rN 2 : Nat), .int .u64 (rN 3 : Nat), .string (rX 4), .string (rX 5), .string (rX 6), .string (rX 7), .string (rX 8), .string (rX 9), .string (rX 10), .string (rX 11), .string (rX 12)] 25)) 2 rfl); have n3 : (w5.alloc (.cells #[.int .i64 rk, .int .u32 (rN 1 : Nat), .int .u32 (rN 2 : Nat), .int .u64 (rN 3 : Nat), .string (rX 4), .string (rX 5), .string (rX 6), .string (rX 7), .string (rX 8), .string (rX 9), .string (rX 10), .string (rX 11), .string (rX 12)] 25)).cell? ⟨w5.heap.size, 3, none⟩ = some (.int .u64 (rN 3 : Nat)) := (cell_of (heap_alloc_new w5 (.cells #[.int .i64 rk, .int .u32 (rN 1 : Nat), .int .u32 (rN 2 : Nat), .int .u64 (rN 3 : Nat), .string (rX 4), .string (rX 5), .string (rX 6), .string (rX 7), .string (rX 8), .string (rX 9), .string (rX 10), .string (rX 11), .string (rX 12)] 25)) 3 rfl); have n4 : (w5.alloc (.cells #[.int .i64 rk, .int .u32 (rN 1 : Nat), .int .u32 (rN 2 : Nat), .int .u64 (rN 3 : Nat), .string (rX 4), .string (rX 5), .string (rX 6), .string (rX 7), .string (rX 8), .string (rX 9), .string (rX 10), .string (rX 11), .string (rX 12)] 25)).cell? ⟨w5.heap.size, 4, none⟩ = some (.string (rX 4)) := (cell_of (heap_alloc_new w5 (.cells #[.int .i64 rk, .int .u32 (rN 1 : Nat), .int .u32 (rN 2 : Nat), .int .u64 (rN 3 : Nat), .string (rX 4), .string (rX 5), .string (rX 6), .string (rX 7), .string (rX 8), .string (rX 9), .string (rX 10), .string (rX 11), .string (rX 12)] 25)) 4 rfl); have n5 : (w5.alloc (.cells #[.int .i64 rk, .int .u32 (rN 1 : Nat), .int .u32 (rN 2 : Nat), .int .u64 (rN 3 : Nat), .string (rX 4), .string (rX 5), .string (rX 6), .string (rX 7), .string (rX 8), .string (rX 9), .string (rX 10), .string (rX 11), .string (rX 12)] 25)).cell? ⟨w5.heap.size, 5, none⟩ = some (.string (rX 5)) := (cell_of (heap_alloc_new w5 (.cells #[.int .i64 rk, .int .u32 (rN 1 : Nat), .int .u32 (rN 2 : Nat), .int .u64 (rN 3 : Nat), .string (rX 4), .string (rX 5), .string (rX 6), .string (rX 7), .string (rX 8), .string (rX 9), .string (rX 10), .string (rX 11), .string (rX 12)] 25)) 5 rfl); have n6 : (w5.alloc (.cells #[.int .i64 rk, .int .u32 (rN 1 : Nat), .int .u32 (rN 2 : Nat), .int .u64 (rN 3 : Nat), .string (rX 4), .string (rX 5), .string (rX 6), .string (rX 7), .string (rX 8), .string (rX 9), .string (rX 10), .string (rX 11), .string (rX 12)] 25)).cell? ⟨w5.heap.size, 6, none⟩ = some (.string (rX 6)) := (cell_of (heap_alloc_new w5 (.cells #[.int .i64 rk, .int .u32 (rN 1 : Nat), .int .u32 (rN 2 : Nat), .int .u64 (rN 3 : Nat), .string (rX 4), .string (rX 5), .string (rX 6), .string (rX 7), .string (rX 8), .string (rX 9), .string (rX 10), .string (rX 11), .string (rX 12)] 25)) 6 rfl); have n7 : (w5.alloc (.cells #[.int .i64 rk, .int .u32 (rN 1 : Nat), .int .u32 (rN 2 : Nat), .int .u64 (rN 3 : Nat), .string (rX 4), .string (rX 5), .string (rX 6), .string (rX 7), .string (rX 8), .string (rX 9), .string (rX 10), .string (rX 11), .string (rX 12)] 25)).cell? ⟨w5.heap.size, 7, none⟩ = some (.string (rX 7)) := (cell_of (heap_alloc_new w5 (.cells #[.int .i64 rk, .int .u32 (rN 1 : Nat), .int .u32 (rN 2 : Nat), .int .u64 (rN 3 : Nat), .string (rX 4), .string (rX 5), .string (rX 6), .string (rX 7), .string (rX 8), .string (rX 9), .string (rX 10), .string (rX 11), .string (rX 12)] 25)) 7 rfl); have n8 : (w5.alloc (.cells #[.int .i64 rk, .int .u32 (rN 1 : Nat), .int .u32 (rN 2 : Nat), .int .u64 (rN 3 : Nat), .string (rX 4), .string (rX 5), .string (rX 6), .string (rX 7), .string (rX 8), .string (rX 9), .string (rX 10), .string (rX 11), .string (rX 12)] 25)).cell? ⟨w5.heap.size, 8, none⟩ = some (.string (rX 8)) := (cell_of (heap_alloc_new w5 (.cells #[.int .i64 rk, .int .u32 (rN 1 : Nat), .int .u32 (rN 2 : Nat), .int .u64 (rN 3 : Nat), .string (rX 4), .string (rX 5), .string (rX 6), .string (rX 7), .string (rX 8), .string (rX 9), .string (rX 10), .string (rX 11), .string (rX 12)] 25)) 8 rfl); have n9 : (w5.alloc (.cells #[.int .i64 rk, .int .u32 (rN 1 : Nat), .int .u32 (rN 2 : Nat), .int .u64 (rN 3 : Nat), .string (rX 4), .string (rX 5), .string (rX 6), .string (rX 7), .string (rX 8), .string (rX 9), .string (rX 10), .string (rX 11), .string (rX 12)] 25)).cell? ⟨w5.heap.size, 9, none⟩ = some (.string (rX 9)) := (cell_of (heap_alloc_new w5 (.cells #[.int .i64 rk, .int .u32 (rN 1 : Nat), .int .u32 (rN 2 : Nat), .int .u64 (rN 3 : Nat), .string (rX 4), .string (rX 5), .string (rX 6), .string (rX 7), .string (rX 8), .string (rX 9), .string (rX 10), .string (rX 11), .string (rX 12)] 25)) 9 rfl); have n10 : (w5.alloc (.cells #[.int .i64 rk, .int .u32 (rN 1 : Nat), .int .u32 (rN 2 : Nat), .int .u64 (rN 3 : Nat), .string (rX 4), .string (rX 5), .string (rX 6), .string (rX 7), .string (rX 8), .string (rX 9), .string (rX 10), .string (rX 11), .string (rX 12)] 25)).cell? ⟨w5.heap.size, 10, none⟩ = some (.string (rX 10)) := (cell_of (heap_alloc_new w5 (.cells #[.int .i64 rk, .int .u32 (rN 1 : Nat), .int .u32 (rN 2 : Nat), .int .u64 (rN 3 : Nat), .string (rX 4), .string (rX 5), .string (rX 6), .string (rX 7), .string (rX 8), .string (rX 9), .string (rX 10), .string (rX 11), .string (rX 12)] 25)) 10 rfl); have n11 : (w5.alloc (.cells #[.int .i64 rk, .int .u32 (rN 1 : Nat), .int .u32 (rN 2 : Nat), .int .u64 (rN 3 : Nat), .string (rX 4), .string (rX 5), .string (rX 6), .string (rX 7), .string (rX 8), .string (rX 9), .string (rX 10), .string (rX 11), .string (rX 12)] 25)).cell? ⟨w5.heap.size, 11, none⟩ = some (.string (rX 11)) := (cell_of (heap_alloc_new w5 (.cells #[.int .i64 rk, .int .u32 (rN 1 : Nat), .int .u32 (rN 2 : Nat), .int .u64 (rN 3 : Nat), .string (rX 4), .string (rX 5), .string (rX 6), .string (rX 7), .string (rX 8), .string (rX 9), .string (rX 10), .string (rX 11), .string (rX 12)] 25)) 11 rfl); have n12 : (w5.alloc (.cells #[.int .i64 rk, .int .u32 (rN 1 : Nat), .int .u32 (rN 2 : Nat), .int .u64 (rN 3 : Nat), .string (rX 4), .string (rX 5), .string (rX 6), .string (rX 7), .string (rX 8), .string (rX 9), .string (rX 10), .string (rX 11), .string (rX 12)] 25)).cell? ⟨w5.heap.size, 12, none⟩ = some (.string (rX 12)) := (cell_of (heap_alloc_new w5 (.cells #[.int .i64 rk, .int .u32 (rN 1 : Nat), .int .u32 (rN 2 : Nat), .int .u64 (rN 3 : Nat), .string (rX 4), .string (rX 5), .string (rX 6), .string (rX 7), .string (rX 8), .string (rX 9), .string (rX 10), .string (rX 11), .string (rX 12)] 25)) 12 rfl); clear hb5)) | fail)
        go_ret2
        rw [HZ.out]
        exact ⟨_, rfl, fun h => absurd rfl h, fun _ => ⟨_, row_below HR5.out (below_one _)⟩, Below.next HB5.out (below_one _)⟩
      · have HZ : Hid (printP (kn : Nat) N X (0, P) = (3, [])) := Lib.hid (by unfold printP; rw [if_neg (by simp)]; unfold printR; rw [HRR.out]; exact if_pos (.inr hsm))
        rw [decide_eq_false hsm] at hNE
        clear hsm
        go_enter Try.func7, Try.ntmps7
        go_wp2_with (first | (go_at_call 19; ((with_reducible refine (HROW.out).mono ?_); rintro e w2 ⟨g, vs, rfl, hg, hfa, hfi, hb2⟩; (try dsimp only); have HM2 := Lib.hid (msg_below HM.out hb2); have HB2 := Lib.hid (Below.next HB.out hb2); have HFA := Lib.hid hfa; have HFI := Lib.hid hfi; have cK : w2.cell? ⟨w.heap.size, 0, none⟩ = some (.int .i64 (kn : Nat)) := (cell_of HM2.out 0 rfl); clear hg hfa hfi hb2)) | (go_at_call 20; ((with_reducible refine (walkP_any g fs vs _ [UInt8.ofNat kn] w2.heap.size w.heap.size kn N X w2 (w2.alloc (.cells #[.int .u8 (kn : Nat)] 5)) HFA.out HFI.out HOK.out HM2.out HNO.out (Nat.le_refl _) (below_one _) (row_one w2 _ _ HKB.out) (by simp) (by simp) HN.out).mono ?_); rw [HPP.out]; rintro e w4 ⟨v4, rfl, hr4, hb4⟩; (try dsimp only); have HB34 : Hid (Below w2.heap.size w2 w4) := Lib.hid ((below_one _).trans hb4); have HM4 := Lib.hid (msg_below HM2.out HB34.out); have HB4 := Lib.hid (HB2.out.trans (HB34.out.mono HB2.out.size)); have HR4 := Lib.hid hr4; clear hr4 hb4)) | (go_at_call 12; ((with_reducible refine (wread_any v4 P w4 (row_part (HR4.out rfl)) HPL.out).mono ?_); rw [HRR.out]; rintro e w5 ⟨rfl, hb5⟩; (try dsimp only [msgV, msgC]); have HB5 := Lib.hid (Below.next HB4.out hb5); have HR5 := Lib.hid (row_below (HR4.out rfl) hb5); have HMB : Hid (∀ o, MsgAt (w5.alloc o) w.heap.size kn N X) := Lib.hid (fun o => msg_below (msg_below HM4.out hb5) (below_one o)); have c0 : ∀ o, (w5.alloc o).cell? ⟨w.heap.size, 0, none⟩ = some (.int .i64 (kn : Nat)) := (fun o => cell_of (HMB.out o) 0 rfl); have c1 : ∀ o, (w5.alloc o).cell? ⟨w.heap.size, 1, none⟩ = some (.int .u32 (N 1 : Nat)) := (fun o => cell_of (HMB.out o) 1 rfl); have c2 : ∀ o, (w5.alloc o).cell? ⟨w.heap.size, 2, none⟩ = some (.int .u32 (N 2 : Nat)) := (fun o => cell_of (HMB.out o) 2 rfl); have c3 : ∀ o, (w5.alloc o).cell? ⟨w.heap.size, 3, none⟩ = some (.int .u64 (N 3 : Nat)) := (fun o => cell_of (HMB.out o) 3 rfl); have c4 : ∀ o, (w5.alloc o).cell? ⟨w.heap.size, 4, none⟩ = some (.string (X 4)) := (fun o => cell_of (HMB.out o) 4 rfl); have c5 : ∀ o, (w5.alloc o).cell? ⟨w.heap.size, 5, none⟩ = some (.string (X 5)) := (fun o => cell_of (HMB.out o) 5 rfl); have c6 : ∀ o, (w5.alloc o).cell? ⟨w.heap.size, 6, none⟩ = some (.string (X 6)) := (fun o => cell_of (HMB.out o) 6 rfl); have c7 : ∀ o, (w5.alloc o).cell? ⟨w.heap.size, 7, none⟩ = some (.string (X 7)) := (fun o => cell_of (HMB.out o) 7 rfl); have c8 : ∀ o, (w5.alloc o).cell? ⟨w.heap.size, 8, none⟩ = some (.string (X 8)) := (fun o => cell_of (HMB.out o) 8 rfl); have c9 : ∀ o, (w5.alloc o).cell? ⟨w.heap.size, 9, none⟩ = some (.string (X 9)) := (fun o => cell_of (HMB.out o) 9 rfl); have c10 : ∀ o, (w5.alloc o).cell? ⟨w.heap.size, 10, none⟩ = some (.string (X 10)) := (fun o => cell_of (HMB.out o) 10 rfl); have c11 : ∀ o, (w5.alloc o).cell? ⟨w.heap.size, 11, none⟩ = some (.string (X 11)) := (fun o => cell_of (HMB.out o) 11 rfl); have c12 : ∀ o, (w5.alloc o).cell? ⟨w.heap.size, 12, none⟩ = some (.string (X 12)) := (fun o => cell_of (HMB.out o) 12 rfl); have n0 : (w5.alloc (.cells #[.int .i64 rk, .int .u32 (rN 1 : Nat), .int .u32 (rN 2 : Nat), .int .u64 (rN 3 : Nat), .string (rX 4), .string (rX 5), .string (rX 6), .string (rX 7), .string (rX 8), .string (rX 9), .string (rX 10), .string (rX 11), .string (rX 12)] 25)).cell? ⟨w5.heap.size, 0, none⟩ = some (.int .i64 rk) := (cell_of (heap_alloc_new w5 (.cells #[.int .i64 rk, .int .u32 (rN 1 : Nat), .int .u32 (rN 2 : Nat), .int .u64 (rN 3 : Nat), .string (rX 4), .string (rX 5), .string (rX 6), .string (rX 7), .string (rX 8), .string (rX 9), .string (rX 10), .string (rX 11), .string (rX 12)] 25)) 0 rfl); have n1 : (w5.alloc (.cells #[.int .i64 rk, .int .u32 (rN 1 : Nat), .int .u32 (rN 2 : Nat), .int .u64 (rN 3 : Nat), .string (rX 4), .string (rX 5), .string (rX 6), .string (rX 7), .string (rX 8), .string (rX 9), .string (rX 10), .string (rX 11), .string (rX 12)] 25)).cell? ⟨w5.heap.size, 1, none⟩ = some (.int .u32 (rN 1 : Nat)) := (cell_of (heap_alloc_new w5 (.cells #[.int .i64 rk, .int .u32 (rN 1 : Nat), .int .u32 (rN 2 : Nat), .int .u64 (rN 3 : Nat), .string (rX 4), .string (rX 5), .string (rX 6), .string (rX 7), .string (rX 8), .string (rX 9), .string (rX 10), .string (rX 11), .string (rX 12)] 25)) 1 rfl); have n2 : (w5.alloc (.cells #[.int .i64 rk, .int .u32 (rN 1 : Nat), .int .u32 (rN 2 : Nat), .int .u64 (rN 3 : Nat), .string (rX 4), .string (rX 5), .string (rX 6), .string (rX 7), .string (rX 8), .string (rX 9), .string (rX 10), .string (rX 11), .string (rX 12)] 25)).cell? ⟨w5.heap.size, 2, none⟩ = some (.int .u32 (rN 2 : Nat)) := (cell_of (heap_alloc_new w5 (.cells #[.int .i64 rk, .int .u32 (rN 1 : Nat), .int .u32 (rN 2 : Nat), .int .u64 (rN 3 : Nat), .string (rX 4), .string (rX 5), .string (rX 6), .string (rX 7), .string (rX 8), .string (rX 9), .string (rX 10), .string (rX 11), .string (rX 12)] 25)) 2 rfl); have n3 : (w5.alloc (.cells #[.int .i64 rk, .int .u32 (rN 1 : Nat), .int .u32 (rN 2 : Nat), .int .u64 (rN 3 : Nat), .string (rX 4), .string (rX 5), .string (rX 6), .string (rX 7), .string (rX 8), .string (rX 9), .string (rX 10), .string (rX 11), .string (rX 12)] 25)).cell? ⟨w5.heap.size, 3, none⟩ = some (.int .u64 (rN 3 : Nat)) := (cell_of (heap_alloc_new w5 (.cells #[.int .i64 rk, .int .u32 (rN 1 : Nat), .int .u32 (rN 2 : Nat), .int .u64 (rN 3 : Nat), .string (rX 4), .string (rX 5), .string (rX 6), .string (rX 7), .string (rX 8), .string (rX 9), .string (rX 10), .string (rX 11), .string (rX 12)] 25)) 3 rfl); have n4 : (w5.alloc (.cells #[.int .i64 rk, .int .u32 (rN 1 : Nat), .int .u32 (rN 2 : Nat), .int .u64 (rN 3 : Nat), .string (rX 4), .string (rX 5), .string (rX 6), .string (rX 7), .string (rX 8), .string (rX 9), .string (rX 10), .string (rX 11), .string (rX 12)] 25)).cell? ⟨w5.heap.size, 4, none⟩ = some (.string (rX 4)) := (cell_of (heap_alloc_new w5 (.cells #[.int .i64 rk, .int .u32 (rN 1 : Nat), .int .u32 (rN 2 : Nat), .int .u64 (rN 3 : Nat), .string (rX 4), .string (rX 5), .string (rX 6), .string (rX 7), .string (rX 8), .string (rX 9), .string (rX 10), .string (rX 11), .string (rX 12)] 25)) 4 rfl); have n5 : (w5.alloc (.cells #[.int .i64 rk, .int .u32 (rN 1 : Nat), .int .u32 (rN 2 : Nat), .int .u64 (rN 3 : Nat), .string (rX 4), .string (rX 5), .string (rX 6), .string (rX 7), .string (rX 8), .string (rX 9), .string (rX 10), .string (rX 11), .string (rX 12)] 25)).cell? ⟨w5.heap.size, 5, none⟩ = some (.string (rX 5)) := (cell_of (heap_alloc_new w5 (.cells #[.int .i64 rk, .int .u32 (rN 1 : Nat), .int .u32 (rN 2 : Nat), .int .u64 (rN 3 : Nat), .string (rX 4), .string (rX 5), .string (rX 6), .string (rX 7), .string (rX 8), .string (rX 9), .string (rX 10), .string (rX 11), .string (rX 12)] 25)) 5 rfl); have n6 : (w5.alloc (.cells #[.int .i64 rk, .int .u32 (rN 1 : Nat), .int .u32 (rN 2 : Nat), .int .u64 (rN 3 : Nat), .string (rX 4), .string (rX 5), .string (rX 6), .string (rX 7), .string (rX 8), .string (rX 9), .string (rX 10), .string (rX 11), .string (rX 12)] 25)).cell? ⟨w5.heap.size, 6, none⟩ = some (.string (rX 6)) := (cell_of (heap_alloc_new w5 (.cells #[.int .i64 rk, .int .u32 (rN 1 : Nat), .int .u32 (rN 2 : Nat), .int .u64 (rN 3 : Nat), .string (rX 4), .string (rX 5), .string (rX 6), .string (rX 7), .string (rX 8), .string (rX 9), .string (rX 10), .string (rX 11), .string (rX 12)] 25)) 6 rfl); have n7 : (w5.alloc (.cells #[.int .i64 rk, .int .u32 (rN 1 : Nat), .int .u32 (rN 2 : Nat), .int .u64 (rN 3 : Nat), .string (rX 4), .string (rX 5), .string (rX 6), .string (rX 7), .string (rX 8), .string (rX 9), .string (rX 10), .string (rX 11), .string (rX 12)] 25)).cell? ⟨w5.heap.size, 7, none⟩ = some (.string (rX 7)) := (cell_of (heap_alloc_new w5 (.cells #[.int .i64 rk, .int .u32 (rN 1 : Nat), .int .u32 (rN 2 : Nat), .int .u64 (rN 3 : Nat), .string (rX 4), .string (rX 5), .string (rX 6), .string (rX 7), .string (rX 8), .string (rX 9), .string (rX 10), .string (rX 11), .string (rX 12)] 25)) 7 rfl); have n8 : (w5.alloc (.cells #[.int .i64 rk, .int .u32 (rN 1 : Nat), .int .u32 (rN 2 : Nat), .int .u64 (rN 3 : Nat), .string (rX 4), .string (rX 5), .string (rX 6), .string (rX 7), .string (rX 8), .string (rX 9), .string (rX 10), .string (rX 11), .string (rX 12)] 25)).cell? ⟨w5.heap.size, 8, none⟩ = some (.string (rX 8)) := (cell_of (heap_alloc_new w5 (.cells #[.int .i64 rk, .int .u32 (rN 1 : Nat), .int .u32 (rN 2 : Nat), .int .u64 (rN 3 : Nat), .string (rX 4), .string (rX 5), .string (rX 6), .string (rX 7), .string (rX 8), .string (rX 9), .string (rX 10), .string (rX 11), .string (rX 12)] 25)) 8 rfl); have n9 : (w5.alloc (.cells #[.int .i64 rk, .int .u32 (rN 1 : Nat), .int .u32 (rN 2 : Nat), .int .u64 (rN 3 : Nat), .string (rX 4), .string (rX 5), .string (rX 6), .string (rX 7), .string (rX 8), .string (rX 9), .string (rX 10), .string (rX 11), .string (rX 12)] 25)).cell? ⟨w5.heap.size, 9, none⟩ = some (.string (rX 9)) := (cell_of (heap_alloc_new w5 (.cells #[.int .i64 rk, .int .u32 (rN 1 : Nat), .int .u32 (rN 2 : Nat), .int .u64 (rN 3 : Nat), .string (rX 4), .string (rX 5), .string (rX 6), .string (rX 7), .string (rX 8), .string (rX 9), .string (rX 10), .string (rX 11), .string (rX 12)] 25)) 9 rfl); have n10 : (w5.alloc (.cells #[.int .i64 rk, .int .u32 (rN 1 : Nat), .int .u32 (rN 2 : Nat), .int .u64 (rN 3 : Nat), .string (rX 4), .string (rX 5), .string (rX 6), .string (rX 7), .string (rX 8), .string (rX 9), .string (rX 10), .string (rX 11), .string (rX 12)] 25)).cell? ⟨w5.heap.size, 10, none⟩ = some (.string (rX 10)) := (cell_of (heap_alloc_new w5 (.cells #[.int .i64 rk, .int .u32 (rN 1 : Nat), .int .u32 (rN 2 : Nat), .int .u64 (rN 3 : Nat), .string (rX 4), .string (rX 5), .string (rX 6), .string (rX 7), .string (rX 8), .string (rX 9), .string (rX 10), .string (rX 11), .string (rX 12)] 25)) 10 rfl); have n11 : (w5.alloc (.cells #[.int .i64 rk, .int .u32 (rN 1 : Nat), .int .u32 (rN 2 : Nat), .int .u64 (rN 3 : Nat), .string (rX 4), .string (rX 5), .string (rX 6), .string (rX 7), .string (rX 8), .string (rX 9), .string (rX 10), .string (rX 11), .string (rX 12)] 25)).cell? ⟨w5.heap.size, 11, none⟩ = some (.string (rX 11)) := (cell_of (heap_alloc_new w5 (.cells #[.int .i64 rk, .int .u32 (rN 1 : Nat), .int .u32 (rN 2 : Nat), .int .u64 (rN 3 : Nat), .string (rX 4), .string (rX 5), .string (rX 6), .string (rX 7), .string (rX 8), .string (rX 9), .string (rX 10), .string (rX 11), .string (rX 12)] 25)) 11 rfl); have n12 : (w5.alloc (.cells #[.int .i64 rk, .int .u32 (rN 1 : Nat), .int .u32 (rN 2 : Nat), .int .u64 (rN 3 : Nat), .string (rX 4), .string (rX 5), .string (rX 6), .string (rX 7), .string (rX 8), .string (rX 9), .string (rX 10), .string (rX 11), .string (rX 12)] 25)).cell? ⟨w5.heap.size, 12, none⟩ = some (.string (rX 12)) := (cell_of (heap_alloc_new w5 (.cells #[.int .i64 rk, .int .u32 (rN 1 : Nat), .int .u32 (rN 2 : Nat), .int .u64 (rN 3 : Nat), .string (rX 4), .string (rX 5), .string (rX 6), .string (rX 7), .string (rX 8), .string (rX 9), .string (rX 10), .string (rX 11), .string (rX 12)] 25)) 12 rfl); clear hb5)) | fail)
        go_ret2
        rw [HZ.out]
        exact ⟨_, rfl, fun _ => rfl, fun h => absurd h (by simp), Below.next HB5.out (below_one _)⟩
    · have hrei : ((rc : Int) != 0) = true := bnet (by omega)
      have HZ : Hid (printP (kn : Nat) N X (0, P) = (3, [])) := Lib.hid (by unfold printP; rw [if_neg (by simp)]; unfold printR; rw [HRR.out]; exact if_pos (.inl hrc))
      clear hNE
      go_enter Try.func7, Try.ntmps7
      go_wp2_with (first | (go_at_call 19; ((with_reducible refine (HROW.out).mono ?_); rintro e w2 ⟨g, vs, rfl, hg, hfa, hfi, hb2⟩; (try dsimp only); have HM2 := Lib.hid (msg_below HM.out hb2); have HB2 := Lib.hid (Below.next HB.out hb2); have HFA := Lib.hid hfa; have HFI := Lib.hid hfi; have cK : w2.cell? ⟨w.heap.size, 0, none⟩ = some (.int .i64 (kn : Nat)) := (cell_of HM2.out 0 rfl); clear hg hfa hfi hb2)) | (go_at_call 20; ((with_reducible refine (walkP_any g fs vs _ [UInt8.ofNat kn] w2.heap.size w.heap.size kn N X w2 (w2.alloc (.cells #[.int .u8 (kn : Nat)] 5)) HFA.out HFI.out HOK.out HM2.out HNO.out (Nat.le_refl _) (below_one _) (row_one w2 _ _ HKB.out) (by simp) (by simp) HN.out).mono ?_); rw [HPP.out]; rintro e w4 ⟨v4, rfl, hr4, hb4⟩; (try dsimp only); have HB34 : Hid (Below w2.heap.size w2 w4) := Lib.hid ((below_one _).trans hb4); have HM4 := Lib.hid (msg_below HM2.out HB34.out); have HB4 := Lib.hid (HB2.out.trans (HB34.out.mono HB2.out.size)); have HR4 := Lib.hid hr4; clear hr4 hb4)) | (go_at_call 12; ((with_reducible refine (wread_any v4 P w4 (row_part (HR4.out rfl)) HPL.out).mono ?_); rw [HRR.out]; rintro e w5 ⟨rfl, hb5⟩; (try dsimp only [msgV, msgC]); have HB5 := Lib.hid (Below.next HB4.out hb5); have HR5 := Lib.hid (row_below (HR4.out rfl) hb5); have HMB : Hid (∀ o, MsgAt (w5.alloc o) w.heap.size kn N X) := Lib.hid (fun o => msg_below (msg_below HM4.out hb5) (below_one o)); have c0 : ∀ o, (w5.alloc o).cell? ⟨w.heap.size, 0, none⟩ = some (.int .i64 (kn : Nat)) := (fun o => cell_of (HMB.out o) 0 rfl); have c1 : ∀ o, (w5.alloc o).cell? ⟨w.heap.size, 1, none⟩ = some (.int .u32 (N 1 : Nat)) := (fun o => cell_of (HMB.out o) 1 rfl); have c2 : ∀ o, (w5.alloc o).cell? ⟨w.heap.size, 2, none⟩ = some (.int .u32 (N 2 : Nat)) := (fun o => cell_of (HMB.out o) 2 rfl); have c3 : ∀ o, (w5.alloc o).cell? ⟨w.heap.size, 3, none⟩ = some (.int .u64 (N 3 : Nat)) := (fun o => cell_of (HMB.out o) 3 rfl); have c4 : ∀ o, (w5.alloc o).cell? ⟨w.heap.size, 4, none⟩ = some (.string (X 4)) := (fun o => cell_of (HMB.out o) 4 rfl); have c5 : ∀ o, (w5.alloc o).cell? ⟨w.heap.size, 5, none⟩ = some (.string (X 5)) := (fun o => cell_of (HMB.out o) 5 rfl); have c6 : ∀ o, (w5.alloc o).cell? ⟨w.heap.size, 6, none⟩ = some (.string (X 6)) := (fun o => cell_of (HMB.out o) 6 rfl); have c7 : ∀ o, (w5.alloc o).cell? ⟨w.heap.size, 7, none⟩ = some (.string (X 7)) := (fun o => cell_of (HMB.out o) 7 rfl); have c8 : ∀ o, (w5.alloc o).cell? ⟨w.heap.size, 8, none⟩ = some (.string (X 8)) := (fun o => cell_of (HMB.out o) 8 rfl); have c9 : ∀ o, (w5.alloc o).cell? ⟨w.heap.size, 9, none⟩ = some (.string (X 9)) := (fun o => cell_of (HMB.out o) 9 rfl); have c10 : ∀ o, (w5.alloc o).cell? ⟨w.heap.size, 10, none⟩ = some (.string (X 10)) := (fun o => cell_of (HMB.out o) 10 rfl); have c11 : ∀ o, (w5.alloc o).cell? ⟨w.heap.size, 11, none⟩ = some (.string (X 11)) := (fun o => cell_of (HMB.out o) 11 rfl); have c12 : ∀ o, (w5.alloc o).cell? ⟨w.heap.size, 12, none⟩ = some (.string (X 12)) := (fun o => cell_of (HMB.out o) 12 rfl); have n0 : (w5.alloc (.cells #[.int .i64 rk, .int .u32 (rN 1 : Nat), .int .u32 (rN 2 : Nat), .int .u64 (rN 3 : Nat), .string (rX 4), .string (rX 5), .string (rX 6), .string (rX 7), .string (rX 8), .string (rX 9), .string (rX 10), .string (rX 11), .string (rX 12)] 25)).cell? ⟨w5.heap.size, 0, none⟩ = some (.int .i64 rk) := (cell_of (heap_alloc_new w5 (.cells #[.int .i64 rk, .int .u32 (rN 1 : Nat), .int .u32 (rN 2 : Nat), .int .u64 (rN 3 : Nat), .string (rX 4), .string (rX 5), .string (rX 6), .string (rX 7), .string (rX 8), .string (rX 9), .string (rX 10), .string (rX 11), .string (rX 12)] 25)) 0 rfl); have n1 : (w5.alloc (.cells #[.int .i64 rk, .int .u32 (rN 1 : Nat), .int .u32 (rN 2 : Nat), .int .u64 (rN 3 : Nat), .string (rX 4), .string (rX 5), .string (rX 6), .string (rX 7), .string (rX 8), .string (rX 9), .string (rX 10), .string (rX 11), .string (rX 12)] 25)).cell? ⟨w5.heap.size, 1, none⟩ = some (.int .u32 (rN 1 : Nat)) := (cell_of (heap_alloc_new w5 (.cells #[.int .i64 rk, .int .u32 (rN 1 : Nat), .int .u32 (rN 2 : Nat), .int .u64 (rN 3 : Nat), .string (rX 4), .string (rX 5), .string (rX 6), .string (rX 7), .string (rX 8), .string (rX 9), .string (rX 10), .string (rX 11), .string (rX 12)] 25)) 1 rfl); have n2 : (w5.alloc (.cells #[.int .i64 rk, .int .u32 (rN 1 : Nat), .int .u32 (rN 2 : Nat), .int .u64 (rN 3 : Nat), .string (rX 4), .string (rX 5), .string (rX 6), .string (rX 7), .string (rX 8), .string (rX 9), .string (rX 10), .string (rX 11), .string (rX 12)] 25)).cell? ⟨w5.heap.size, 2, none⟩ = some (.int .u32 (rN 2 : Nat)) := (cell_of (heap_alloc_new w5 (.cells #[.int .i64 rk, .int .u32 (rN 1 : Nat), .int .u32 (rN 2 : Nat), .int .u64 (rN 3 : Nat), .string (rX 4), .string (rX 5), .string (rX 6), .string (rX 7), .string (rX 8), .string (rX 9), .string (rX 10), .string (rX 11), .string (rX 12)] 25)) 2 rfl); have n3 : (w5.alloc (.cells #[.int .i64 rk, .int .u32 (rN 1 : Nat), .int .u32 (rN 2 : Nat), .int .u64 (rN 3 : Nat), .string (rX 4), .string (rX 5), .string (rX 6), .string (rX 7), .string (rX 8), .string (rX 9), .string (rX 10), .string (rX 11), .string (rX 12)] 25)).cell? ⟨w5.heap.size, 3, none⟩ = some (.int .u64 (rN 3 : Nat)) := (cell_of (heap_alloc_new w5 (.cells #[.int .i64 rk, .int .u32 (rN 1 : Nat), .int .u32 (rN 2 : Nat), .int .u64 (rN 3 : Nat), .string (rX 4), .string (rX 5), .string (rX 6), .string (rX 7), .string (rX 8), .string (rX 9), .string (rX 10), .string (rX 11), .string (rX 12)] 25)) 3 rfl); have n4 : (w5.alloc (.cells #[.int .i64 rk, .int .u32 (rN 1 : Nat), .int .u32 (rN 2 : Nat), .int .u64 (rN 3 : Nat), .string (rX 4), .string (rX 5), .string (rX 6), .string (rX 7), .string (rX 8), .string (rX 9), .string (rX 10), .string (rX 11), .string (rX 12)] 25)).cell? ⟨w5.heap.size, 4, none⟩ = some (.string (rX 4)) := (cell_of (heap_alloc_new w5 (.cells #[.int .i64 rk, .int .u32 (rN 1 : Nat), .int .u32 (rN 2 : Nat), .int .u64 (rN 3 : Nat), .string (rX 4), .string (rX 5), .string (rX 6), .string (rX 7), .string (rX 8), .string (rX 9), .string (rX 10), .string (rX 11), .string (rX 12)] 25)) 4 rfl); have n5 : (w5.alloc (.cells #[.int .i64 rk, .int .u32 (rN 1 : Nat), .int .u32 (rN 2 : Nat), .int .u64 (rN 3 : Nat), .string (rX 4), .string (rX 5), .string (rX 6), .string (rX 7), .string (rX 8), .string (rX 9), .string (rX 10), .string (rX 11), .string (rX 12)] 25)).cell? ⟨w5.heap.size, 5, none⟩ = some (.string (rX 5)) := (cell_of (heap_alloc_new w5 (.cells #[.int .i64 rk, .int .u32 (rN 1 : Nat), .int .u32 (rN 2 : Nat), .int .u64 (rN 3 : Nat), .string (rX 4), .string (rX 5), .string (rX 6), .string (rX 7), .string (rX 8), .string (rX 9), .string (rX 10), .string (rX 11), .string (rX 12)] 25)) 5 rfl); have n6 : (w5.alloc (.cells #[.int .i64 rk, .int .u32 (rN 1 : Nat), .int .u32 (rN 2 : Nat), .int .u64 (rN 3 : Nat), .string (rX 4), .string (rX 5), .string (rX 6), .string (rX 7), .string (rX 8), .string (rX 9), .string (rX 10), .string (rX 11), .string (rX 12)] 25)).cell? ⟨w5.heap.size, 6, none⟩ = some (.string (rX 6)) := (cell_of (heap_alloc_new w5 (.cells #[.int .i64 rk, .int .u32 (rN 1 : Nat), .int .u32 (rN 2 : Nat), .int .u64 (rN 3 : Nat), .string (rX 4), .string (rX 5), .string (rX 6), .string (rX 7), .string (rX 8), .string (rX 9), .string (rX 10), .string (rX 11), .string (rX 12)] 25)) 6 rfl); have n7 : (w5.alloc (.cells #[.int .i64 rk, .int .u32 (rN 1 : Nat), .int .u32 (rN 2 : Nat), .int .u64 (rN 3 : Nat), .string (rX 4), .string (rX 5), .string (rX 6), .string (rX 7), .string (rX 8), .string (rX 9), .string (rX 10), .string (rX 11), .string (rX 12)] 25)).cell? ⟨w5.heap.size, 7, none⟩ = some (.string (rX 7)) := (cell_of (heap_alloc_new w5 (.cells #[.int .i64 rk, .int .u32 (rN 1 : Nat), .int .u32 (rN 2 : Nat), .int .u64 (rN 3 : Nat), .string (rX 4), .string (rX 5), .string (rX 6), .string (rX 7), .string (rX 8), .string (rX 9), .string (rX 10), .string (rX 11), .string (rX 12)] 25)) 7 rfl); have n8 : (w5.alloc (.cells #[.int .i64 rk, .int .u32 (rN 1 : Nat), .int .u32 (rN 2 : Nat), .int .u64 (rN 3 : Nat), .string (rX 4), .string (rX 5), .string (rX 6), .string (rX 7), .string (rX 8), .string (rX 9), .string (rX 10), .string (rX 11), .string (rX 12)] 25)).cell? ⟨w5.heap.size, 8, none⟩ = some (.string (rX 8)) := (cell_of (heap_alloc_new w5 (.cells #[.int .i64 rk, .int .u32 (rN 1 : Nat), .int .u32 (rN 2 : Nat), .int .u64 (rN 3 : Nat), .string (rX 4), .string (rX 5), .string (rX 6), .string (rX 7), .string (rX 8), .string (rX 9), .string (rX 10), .string (rX 11), .string (rX 12)] 25)) 8 rfl); have n9 : (w5.alloc (.cells #[.int .i64 rk, .int .u32 (rN 1 : Nat), .int .u32 (rN 2 : Nat), .int .u64 (rN 3 : Nat), .string (rX 4), .string (rX 5), .string (rX 6), .string (rX 7), .string (rX 8), .string (rX 9), .string (rX 10), .string (rX 11), .string (rX 12)] 25)).cell? ⟨w5.heap.size, 9, none⟩ = some (.string (rX 9)) := (cell_of (heap_alloc_new w5 (.cells #[.int .i64 rk, .int .u32 (rN 1 : Nat), .int .u32 (rN 2 : Nat), .int .u64 (rN 3 : Nat), .string (rX 4), .string (rX 5), .string (rX 6), .string (rX 7), .string (rX 8), .string (rX 9), .string (rX 10), .string (rX 11), .string (rX 12)] 25)) 9 rfl); have n10 : (w5.alloc (.cells #[.int .i64 rk, .int .u32 (rN 1 : Nat), .int .u32 (rN 2 : Nat), .int .u64 (rN 3 : Nat), .string (rX 4), .string (rX 5), .string (rX 6), .string (rX 7), .string (rX 8), .string (rX 9), .string (rX 10), .string (rX 11), .string (rX 12)] 25)).cell? ⟨w5.heap.size, 10, none⟩ = some (.string (rX 10)) := (cell_of (heap_alloc_new w5 (.cells #[.int .i64 rk, .int .u32 (rN 1 : Nat), .int .u32 (rN 2 : Nat), .int .u64 (rN 3 : Nat), .string (rX 4), .string (rX 5), .string (rX 6), .string (rX 7), .string (rX 8), .string (rX 9), .string (rX 10), .string (rX 11), .string (rX 12)] 25)) 10 rfl); have n11 : (w5.alloc (.cells #[.int .i64 rk, .int .u32 (rN 1 : Nat), .int .u32 (rN 2 : Nat), .int .u64 (rN 3 : Nat), .string (rX 4), .string (rX 5), .string (rX 6), .string (rX 7), .string (rX 8), .string (rX 9), .string (rX 10), .string (rX 11), .string (rX 12)] 25)).cell? ⟨w5.heap.size, 11, none⟩ = some (.string (rX 11)) := (cell_of (heap_alloc_new w5 (.cells #[.int .i64 rk, .int .u32 (rN 1 : Nat), .int .u32 (rN 2 : Nat), .int .u64 (rN 3 : Nat), .string (rX 4), .string (rX 5), .string (rX 6), .string (rX 7), .string (rX 8), .string (rX 9), .string (rX 10), .string (rX 11), .string (rX 12)] 25)) 11 rfl); have n12 : (w5.alloc (.cells #[.int .i64 rk, .int .u32 (rN 1 : Nat), .int .u32 (rN 2 : Nat), .int .u64 (rN 3 : Nat), .string (rX 4), .string (rX 5), .string (rX 6), .string (rX 7), .string (rX 8), .string (rX 9), .string (rX 10), .string (rX 11), .string (rX 12)] 25)).cell? ⟨w5.heap.size, 12, none⟩ = some (.string (rX 12)) := (cell_of (heap_alloc_new w5 (.cells #[.int .i64 rk, .int .u32 (rN 1 : Nat), .int .u32 (rN 2 : Nat), .int .u64 (rN 3 : Nat), .string (rX 4), .string (rX 5), .string (rX 6), .string (rX 7), .string (rX 8), .string (rX 9), .string (rX 10), .string (rX 11), .string (rX 12)] 25)) 12 rfl); clear hb5)) | fail)
      go_ret2
      rw [HZ.out]
      exact ⟨_, rfl, fun _ => rfl, fun h => absurd h (by simp), Below.next HB5.out (below_one _)⟩
  · have hei : ((pc : Int) != 0) = true := bnet (by omega)
    have HZ2 : Hid (printP (kn : Nat) N X (pc, P) = (pc, [])) := Lib.hid (if_pos he)
    clear hNE
    go_enter Try.func7, Try.ntmps7
    go_wp2_with (first | (go_at_call 19; ((with_reducible refine (HROW.out).mono ?_); rintro e w2 ⟨g, vs, rfl, hg, hfa, hfi, hb2⟩; (try dsimp only); have HM2 := Lib.hid (msg_below HM.out hb2); have HB2 := Lib.hid (Below.next HB.out hb2); have HFA := Lib.hid hfa; have HFI := Lib.hid hfi; have cK : w2.cell? ⟨w.heap.size, 0, none⟩ = some (.int .i64 (kn : Nat)) := (cell_of HM2.out 0 rfl); clear hg hfa hfi hb2)) | (go_at_call 20; ((with_reducible refine (walkP_any g fs vs _ [UInt8.ofNat kn] w2.heap.size w.heap.size kn N X w2 (w2.alloc (.cells #[.int .u8 (kn : Nat)] 5)) HFA.out HFI.out HOK.out HM2.out HNO.out (Nat.le_refl _) (below_one _) (row_one w2 _ _ HKB.out) (by simp) (by simp) HN.out).mono ?_); rw [HPP.out]; rintro e w4 ⟨v4, rfl, hr4, hb4⟩; (try dsimp only); have HB34 : Hid (Below w2.heap.size w2 w4) := Lib.hid ((below_one _).trans hb4); have HM4 := Lib.hid (msg_below HM2.out HB34.out); have HB4 := Lib.hid (HB2.out.trans (HB34.out.mono HB2.out.size)); have HR4 := Lib.hid hr4; clear hr4 hb4)) | fail)
    go_ret2
    rw [HZ2.out]
    exact ⟨_, rfl, fun _ => rfl, fun h => absurd h he, HB4.out⟩
theorem fsOf_ne {k : Nat} (h1 : 1 ≤ k) (h4 : k ≤ 4) : fsOf k ≠ [] := by
  have : k = 1 ∨ k = 2 ∨ k = 3 ∨ k = 4 := by omega
  rcases this with rfl | rfl | rfl | rfl <;> decide
theorem wprint_any (k : Int) (N : Nat → Nat) (X : Nat → ByteArray) (w : World) (hN : NumOk N) : Calls Try.prog 7 #[.agg #[.int .i64 k, .int .u32 (N 1 : Nat), .int .u32 (N 2 : Nat), .int .u64 (N 3 : Nat), .string (X 4), .string (X 5), .string (X 6), .string (X 7), .string (X 8), .string (X 9), .string (X 10), .string (X 11), .string (X 12)]] w (PrintRet6 w (printS k N X)) := by
  by_cases hk : kindB k = 0
  · exact print_kind k N X w hk
  · have hkk : 1 ≤ k ∧ k ≤ 4 := by unfold kindB at hk; split at hk; assumption; exact absurd rfl hk
    obtain ⟨kn, rfl⟩ : ∃ n : Nat, k = (n : Nat) := ⟨k.toNat, by omega⟩
    have hkb : kindB (kn : Nat) = kn := by unfold kindB; rw [if_pos hkk]; rfl
    unfold printS
    rw [if_neg hk, hkb]
    have hne := fsOf_ne (k := kn) (by omega) (by omega)
    exact print_x kn N X w (fsOf kn) rfl hne hN (pAll N X (fsOf kn) [UInt8.ofNat kn]).1 (pAll N X (fsOf kn) [UInt8.ofNat kn]).2 rfl _ _ _ _ rfl (fun W => msg_neq W _ _ _ _ _ _ _ rfl)
end Go.Proofs.Ytjbmcjppaadkgaa

namespace Go.Proofs.Ytjbmcjppaadkgaa
set_option linter.unusedVariables false
set_option linter.unusedSimpArgs false
set_option maxRecDepth 100000
open Go.RowKit

theorem strs_two (w : World) (x y : List UInt8) : Strs (w.alloc (.cells #[.string (strB x), .string (strB y)] 9)).drew (.slice (some ⟨w.heap.size, 0, none⟩) 2 2) [x, y] := by
  have h : (w.alloc (.cells #[.string (strB x), .string (strB y)] 9)).heap[w.heap.size]? = some (.cells #[.string (strB x), .string (strB y)] 9 (0, 0)) := heap_alloc_new w _
  refine ⟨_, 2, rfl, (fun h => by cases h), .inr ⟨_, 0, rfl, fun i hi => ?_⟩⟩
  rw [Nat.zero_add]
  match i, hi with
  | 0, _ => exact cell_of h 0 rfl
  | 1, _ => exact cell_of h 1 rfl
set_option maxHeartbeats 4000000 in
theorem make_sorted (k : Nat) (sh : Shape) (hs : shapeOf k = some sh) (n : Nat) (hn18 : n ≤ top) (vb vl : Value) (b : List UInt8) (l : List (List UInt8)) (w : World) (hb : Bytes w vb b) (hl : Strs w vl l) (hbl : k = 4 → b.length ≤ 32768) (hll : l.length ≤ maxLen) (ht : total l ≤ 65536)
    (x0 x1 : List UInt8) (hlx : l = [x0, x1]) (ho : sh.ordered = true) (hle : leL x0 x1 = false) (hblm : b.length ≤ maxLen) :
    Calls Try.prog 38 #[.int .i64 k, .int .u64 n, vb, vl] w fun e w' => e = .returned (.string (strB (pickR k (wText k n b [x1, x0]) [x1, x0]))) ∧ Below w.heap.size w w' := by
  have hz := zero_lit
  have hzf := zero_found
  obtain ⟨f1, f2, f3, f4, f5⟩ := shape_facts hs
  have hlk := look_sh (w.alloc (.map (esN 11) 11)) w.heap.size k sh (MapKept.heap_alloc w _).1 f5 hs
  have HL := Lib.hid hl
  have HBY := Lib.hid hb
  have HW := Lib.hid (make_w1 w sh)
  have HSH := Lib.hid hs
  have ht2 : total [x1, x0] ≤ 65536 := by rw [hlx] at ht; simp [total] at ht ⊢; omega
  have HT2 := Lib.hid ht2
  have H4 := Lib.hid hbl
  have hsm : smallF 65536 l = true := (small_total l 65536).2 ht
  have hhex : (sh.hex = true ∧ b.length ≤ 32768) ∨ sh.hex = false := by
    cases hx : sh.hex with
    | true => exact .inl ⟨rfl, hbl (f2.1 hx)⟩
    | false => exact .inr rfl
  obtain ⟨k2, n2, ps, hx⟩ : ∃ k2 n2 ps, lookR (wText k n b [x1, x0]) = (k2, n2, ps) := ⟨_, _, _, rfl⟩
  obtain ⟨nb, hnb⟩ : ∃ nb, numb k2 = nb := ⟨_, rfl⟩
  have HNB := Lib.hid hnb
  have hP : pickR k (wText k n b [x1, x0]) [x1, x0] = if k2 = k ∧ ps = [x1, x0] then wText k n b [x1, x0] else [] := by unfold pickR; rw [hx]
  have HP := Lib.hid hP
  have hTs : (strB (wText k n b [x1, x0])).size ≤ maxLen := by
    have := wText_len k n b [x1, x0] hn18 ht2 hbl
    rw [strB_size]; unfold maxLen; omega
  have hps : ps.length ≤ maxLen := by
    have := lookR_len (wText k n b [x1, x0])
    rw [hx] at this; unfold maxLen; simp at this; omega
  obtain ⟨T, hT⟩ : ∃ T, wText k n b [x1, x0] = T := ⟨_, rfl⟩
  rw [hT] at hx hTs
  rw [hT] at HP
  have HTX : Hid (strB (wText k n b [x1, x0]) = strB T) := Lib.hid (by rw [hT])
  have HX : Hid (lookR (strB T).data.toList = (k2, n2, ps)) := Lib.hid hx
  rw [hT]
  obtain ⟨ab, cb, rfl, hb⟩ := hb
  obtain ⟨al, cl, rfl, hnl, hl⟩ := hl
  unfold maxLen at hblm
  have hend : (k2 ≠ k) ∨ (k2 = k ∧ (ps == [x1, x0]) = false) ∨ (k2 = k ∧ (ps == [x1, x0]) = true) := by
    cases (ps == [x1, x0]) <;> simp <;> omega
  clear f1 f2 f3 f4 hs hbl ht ht2 hP hnb hT hx hb hnl
  subst hlx
  have hl2i : (((2 : Nat) : Int) == 2) = true := rfl
  have hgt := str_gt (a := x0) (b := x1)
  rw [hle] at hgt
  obtain ⟨bl, ol, rfl, hc⟩ : ∃ b off, al = some ⟨b, off, none⟩ ∧ ∀ i, i < [x0, x1].length → w.cell? ⟨b, off + i, none⟩ = some (strV ([x0, x1].getD i [])) := by
    rcases hl with h | h
    · cases h
    · exact h
  have HL2 : Hid (Strs w (.slice (some ⟨bl, ol, none⟩) 2 cl) [x0, x1]) := Lib.hid HL.out
  have hbb := World.block_lt_of_cell? w _ (hc 0 (by simp))
  have s0 := fun o1 o2 => alloc_cell o2 (by simp; exact Nat.lt_succ_of_lt hbb) (alloc_cell o1 hbb (hc 0 (by simp)))
  have s1 := fun o1 o2 => alloc_cell o2 (by simp; exact Nat.lt_succ_of_lt hbb) (alloc_cell o1 hbb (hc 1 (by simp)))
  simp only [strV, Nat.add_zero, Bool.not_false, List.getD_cons_zero, List.getD_cons_succ] at s0 s1 hgt
  clear hc hbb hle
  rcases hhex with ⟨hx, h1⟩ | hx
  all_goals
    rcases hend with he | ⟨he, heq⟩ | ⟨he, heq⟩
    · have HO : Hid (pickR k T [x1, x0] = []) := Lib.hid (by rw [HP.out, if_neg (fun h => he h.1)])
      have hk2 : ((k2 : Int) != k) = true := by simp; omega
      clear he
      rw [hx, ho] at HW
      go_enter Try.func38, Try.ntmps38
      go_wp2_with (first | (go_at_call 54; ((with_reducible refine (shapes_any _).mono ?_); rintro e w' ⟨rfl, rfl⟩)) | (go_at_call 55; ((with_reducible refine (small_any _ [x0, x1] _ (HL2.out.below HW.out) hll).mono ?_); rintro e w' ⟨rfl, rfl⟩)) | fail)
      go_quiet (fail)
      go_wp2_with fail
      (have hwq0 : ∃ wq, (((w.alloc (.map (esN 11) 11)).alloc (.cells #[.bool sh.numbered, .int .u64 sh.low, .int .u64 sh.high, .bool sh.hex, .int .i64 sh.least, .int .i64 sh.most, .bool sh.ordered] 82))).drewN nq = wq := ⟨_, rfl⟩; have hbq0 : ∀ wq, (((w.alloc (.map (esN 11) 11)).alloc (.cells #[.bool sh.numbered, .int .u64 sh.low, .int .u64 sh.high, .bool sh.hex, .int .i64 sh.least, .int .i64 sh.most, .bool sh.ordered] 82))).drewN nq = wq → wq.heap[w.heap.size + 1]? = some (.cells #[.bool sh.numbered, .int .u64 sh.low, .int .u64 sh.high, .bool sh.hex, .int .i64 sh.least, .int .i64 sh.most, .bool sh.ordered] 82) := (fun wq h => by subst h; have e1 : (w.alloc (.map (esN 11) 11)).heap.size = w.heap.size + 1 := (by simp); have h2 := heap_alloc_new (w.alloc (.map (esN 11) 11)) (.cells #[.bool sh.numbered, .int .u64 sh.low, .int .u64 sh.high, .bool sh.hex, .int .i64 sh.least, .int .i64 sh.most, .bool sh.ordered] 82); rw [e1] at h2; exact h2); have hW2 := HW.out; rw [hx, ho] at hwq0 hbq0; obtain ⟨wq, hwq⟩ := hwq0; have hbq := hbq0 wq hwq; have t0 : wq.cell? ⟨bl, ol, none⟩ = some (.string (strB x0)) := (by rw [← hwq]; exact s0 _ _); have t1 : wq.cell? ⟨bl, ol + 1, none⟩ = some (.string (strB x1)) := (by rw [← hwq]; exact s1 _ _); have hWQ : Below w.heap.size w wq := (by rw [← hwq]; exact below_drewN hW2 nq); rw [hwq]; have HWQ := Lib.hid hWQ; have hbq2 := fun o => keep_alloc (w := wq) hbq o; have b0 := fun o => cell_of (hbq2 o) 0 rfl; have b1 := fun o => cell_of (hbq2 o) 1 rfl; have b2 := fun o => cell_of (hbq2 o) 2 rfl; have b3 := fun o => cell_of (hbq2 o) 3 rfl; have b4 := fun o => cell_of (hbq2 o) 4 rfl; have b5 := fun o => cell_of (hbq2 o) 5 rfl; have b6 := fun o => cell_of (hbq2 o) 6 rfl; clear hwq hbq hbq0 hbq2 hW2 hWQ s0 s1)
      go_still_tail 6, (by kernel_rfl)
      go_wp2_with fail
      (have HWS : Hid (Below w.heap.size w (wq.alloc (.cells #[.string (strB x1), .string (strB x0)] 9)).drew) := Lib.hid ((HWQ.out.alloc HWQ.out.size _).drew); have HSS : Hid (Strs (wq.alloc (.cells #[.string (strB x1), .string (strB x0)] 9)).drew (.slice (some ⟨wq.heap.size, 0, none⟩) 2 2) [x1, x0]) := Lib.hid (strs_two wq x1 x0))
      go_wp2_with (first | (go_at_call 56; ((with_reducible refine (write_any k n sh HSH.out _ _ _ (by simp [shapeV, *]) b [x1, x0] _ (HBY.out.below HWS.out) HSS.out HT2.out hn18 H4.out).mono ?_); rintro e w5 ⟨rfl, hb5⟩; rw [HTX.out]; have hw5 : Below w.heap.size w w5 := HWS.out.trans (hb5.mono HWS.out.size); have HSS5 := Lib.hid (HSS.out.below hb5); have HW5 := Lib.hid hw5; clear hb5 hw5)) | (go_at_call 57; ((with_reducible refine (look_v (strB T) hTs _ k2 n2 nb ps HX.out HNB.out).mono ?_); rintro e w6 ⟨ad, cp, rfl, hS, hB⟩; have hw6 : Below w.heap.size w w6 := HW5.out.trans (hB.mono HW5.out.size); have HSS6 := Lib.hid (HSS5.out.below hB); have HW6 := Lib.hid hw6; have HS := Lib.hid hS; clear hB hS hw6)) | (go_at_call 58; ((with_reducible refine (equal_any _ _ ps [x1, x0] _ (HS.out.below ((Below.refl _ _).alloc (Nat.le_refl _) _)) (HSS6.out.below ((Below.refl _ _).alloc (Nat.le_refl _) _)) hps (by simp; unfold maxLen; omega)).mono ?_); rintro e w' ⟨rfl, q7, rfl⟩)) | fail)
      go_ret
      exact ⟨ret_str (by rw [HO.out]; rfl), HW6.out.alloc HW6.out.size _⟩
    · have HO : Hid (pickR k T [x1, x0] = []) := Lib.hid (by rw [HP.out, if_neg (fun h => by have h2 := h.2; subst h2; simp at heq)])
      have hk2 : ((k2 : Int) != k) = false := by simp [he]
      clear he
      rw [hx, ho] at HW
      go_enter Try.func38, Try.ntmps38
      go_wp2_with (first | (go_at_call 54; ((with_reducible refine (shapes_any _).mono ?_); rintro e w' ⟨rfl, rfl⟩)) | (go_at_call 55; ((with_reducible refine (small_any _ [x0, x1] _ (HL2.out.below HW.out) hll).mono ?_); rintro e w' ⟨rfl, rfl⟩)) | fail)
      go_quiet (fail)
      go_wp2_with fail
      (have hwq0 : ∃ wq, (((w.alloc (.map (esN 11) 11)).alloc (.cells #[.bool sh.numbered, .int .u64 sh.low, .int .u64 sh.high, .bool sh.hex, .int .i64 sh.least, .int .i64 sh.most, .bool sh.ordered] 82))).drewN nq = wq := ⟨_, rfl⟩; have hbq0 : ∀ wq, (((w.alloc (.map (esN 11) 11)).alloc (.cells #[.bool sh.numbered, .int .u64 sh.low, .int .u64 sh.high, .bool sh.hex, .int .i64 sh.least, .int .i64 sh.most, .bool sh.ordered] 82))).drewN nq = wq → wq.heap[w.heap.size + 1]? = some (.cells #[.bool sh.numbered, .int .u64 sh.low, .int .u64 sh.high, .bool sh.hex, .int .i64 sh.least, .int .i64 sh.most, .bool sh.ordered] 82) := (fun wq h => by subst h; have e1 : (w.alloc (.map (esN 11) 11)).heap.size = w.heap.size + 1 := (by simp); have h2 := heap_alloc_new (w.alloc (.map (esN 11) 11)) (.cells #[.bool sh.numbered, .int .u64 sh.low, .int .u64 sh.high, .bool sh.hex, .int .i64 sh.least, .int .i64 sh.most, .bool sh.ordered] 82); rw [e1] at h2; exact h2); have hW2 := HW.out; rw [hx, ho] at hwq0 hbq0; obtain ⟨wq, hwq⟩ := hwq0; have hbq := hbq0 wq hwq; have t0 : wq.cell? ⟨bl, ol, none⟩ = some (.string (strB x0)) := (by rw [← hwq]; exact s0 _ _); have t1 : wq.cell? ⟨bl, ol + 1, none⟩ = some (.string (strB x1)) := (by rw [← hwq]; exact s1 _ _); have hWQ : Below w.heap.size w wq := (by rw [← hwq]; exact below_drewN hW2 nq); rw [hwq]; have HWQ := Lib.hid hWQ; have hbq2 := fun o => keep_alloc (w := wq) hbq o; have b0 := fun o => cell_of (hbq2 o) 0 rfl; have b1 := fun o => cell_of (hbq2 o) 1 rfl; have b2 := fun o => cell_of (hbq2 o) 2 rfl; have b3 := fun o => cell_of (hbq2 o) 3 rfl; have b4 := fun o => cell_of (hbq2 o) 4 rfl; have b5 := fun o => cell_of (hbq2 o) 5 rfl; have b6 := fun o => cell_of (hbq2 o) 6 rfl; clear hwq hbq hbq0 hbq2 hW2 hWQ s0 s1)
      go_still_tail 6, (by kernel_rfl)
      go_wp2_with fail
      (have HWS : Hid (Below w.heap.size w (wq.alloc (.cells #[.string (strB x1), .string (strB x0)] 9)).drew) := Lib.hid ((HWQ.out.alloc HWQ.out.size _).drew); have HSS : Hid (Strs (wq.alloc (.cells #[.string (strB x1), .string (strB x0)] 9)).drew (.slice (some ⟨wq.heap.size, 0, none⟩) 2 2) [x1, x0]) := Lib.hid (strs_two wq x1 x0))
      go_wp2_with (first | (go_at_call 56; ((with_reducible refine (write_any k n sh HSH.out _ _ _ (by simp [shapeV, *]) b [x1, x0] _ (HBY.out.below HWS.out) HSS.out HT2.out hn18 H4.out).mono ?_); rintro e w5 ⟨rfl, hb5⟩; rw [HTX.out]; have hw5 : Below w.heap.size w w5 := HWS.out.trans (hb5.mono HWS.out.size); have HSS5 := Lib.hid (HSS.out.below hb5); have HW5 := Lib.hid hw5; clear hb5 hw5)) | (go_at_call 57; ((with_reducible refine (look_v (strB T) hTs _ k2 n2 nb ps HX.out HNB.out).mono ?_); rintro e w6 ⟨ad, cp, rfl, hS, hB⟩; have hw6 : Below w.heap.size w w6 := HW5.out.trans (hB.mono HW5.out.size); have HSS6 := Lib.hid (HSS5.out.below hB); have HW6 := Lib.hid hw6; have HS := Lib.hid hS; clear hB hS hw6)) | (go_at_call 58; ((with_reducible refine (equal_any _ _ ps [x1, x0] _ (HS.out.below ((Below.refl _ _).alloc (Nat.le_refl _) _)) (HSS6.out.below ((Below.refl _ _).alloc (Nat.le_refl _) _)) hps (by simp; unfold maxLen; omega)).mono ?_); rintro e w' ⟨rfl, q7, rfl⟩)) | fail)
      go_ret
      exact ⟨ret_str (by rw [HO.out]; rfl), below_drewN (HW6.out.alloc HW6.out.size _) _⟩
    · have HO : Hid (pickR k T [x1, x0] = T) := Lib.hid (by rw [HP.out, if_pos ⟨he, by simpa using heq⟩])
      have hk2 : ((k2 : Int) != k) = false := by simp [he]
      clear he
      rw [hx, ho] at HW
      go_enter Try.func38, Try.ntmps38
      go_wp2_with (first | (go_at_call 54; ((with_reducible refine (shapes_any _).mono ?_); rintro e w' ⟨rfl, rfl⟩)) | (go_at_call 55; ((with_reducible refine (small_any _ [x0, x1] _ (HL2.out.below HW.out) hll).mono ?_); rintro e w' ⟨rfl, rfl⟩)) | fail)
      go_quiet (fail)
      go_wp2_with fail
      (have hwq0 : ∃ wq, (((w.alloc (.map (esN 11) 11)).alloc (.cells #[.bool sh.numbered, .int .u64 sh.low, .int .u64 sh.high, .bool sh.hex, .int .i64 sh.least, .int .i64 sh.most, .bool sh.ordered] 82))).drewN nq = wq := ⟨_, rfl⟩; have hbq0 : ∀ wq, (((w.alloc (.map (esN 11) 11)).alloc (.cells #[.bool sh.numbered, .int .u64 sh.low, .int .u64 sh.high, .bool sh.hex, .int .i64 sh.least, .int .i64 sh.most, .bool sh.ordered] 82))).drewN nq = wq → wq.heap[w.heap.size + 1]? = some (.cells #[.bool sh.numbered, .int .u64 sh.low, .int .u64 sh.high, .bool sh.hex, .int .i64 sh.least, .int .i64 sh.most, .bool sh.ordered] 82) := (fun wq h => by subst h; have e1 : (w.alloc (.map (esN 11) 11)).heap.size = w.heap.size + 1 := (by simp); have h2 := heap_alloc_new (w.alloc (.map (esN 11) 11)) (.cells #[.bool sh.numbered, .int .u64 sh.low, .int .u64 sh.high, .bool sh.hex, .int .i64 sh.least, .int .i64 sh.most, .bool sh.ordered] 82); rw [e1] at h2; exact h2); have hW2 := HW.out; rw [hx, ho] at hwq0 hbq0; obtain ⟨wq, hwq⟩ := hwq0; have hbq := hbq0 wq hwq; have t0 : wq.cell? ⟨bl, ol, none⟩ = some (.string (strB x0)) := (by rw [← hwq]; exact s0 _ _); have t1 : wq.cell? ⟨bl, ol + 1, none⟩ = some (.string (strB x1)) := (by rw [← hwq]; exact s1 _ _); have hWQ : Below w.heap.size w wq := (by rw [← hwq]; exact below_drewN hW2 nq); rw [hwq]; have HWQ := Lib.hid hWQ; have hbq2 := fun o => keep_alloc (w := wq) hbq o; have b0 := fun o => cell_of (hbq2 o) 0 rfl; have b1 := fun o => cell_of (hbq2 o) 1 rfl; have b2 := fun o => cell_of (hbq2 o) 2 rfl; have b3 := fun o => cell_of (hbq2 o) 3 rfl; have b4 := fun o => cell_of (hbq2 o) 4 rfl; have b5 := fun o => cell_of (hbq2 o) 5 rfl; have b6 := fun o => cell_of (hbq2 o) 6 rfl; clear hwq hbq hbq0 hbq2 hW2 hWQ s0 s1)
      go_still_tail 6, (by kernel_rfl)
      go_wp2_with fail
      (have HWS : Hid (Below w.heap.size w (wq.alloc (.cells #[.string (strB x1), .string (strB x0)] 9)).drew) := Lib.hid ((HWQ.out.alloc HWQ.out.size _).drew); have HSS : Hid (Strs (wq.alloc (.cells #[.string (strB x1), .string (strB x0)] 9)).drew (.slice (some ⟨wq.heap.size, 0, none⟩) 2 2) [x1, x0]) := Lib.hid (strs_two wq x1 x0))
      go_wp2_with (first | (go_at_call 56; ((with_reducible refine (write_any k n sh HSH.out _ _ _ (by simp [shapeV, *]) b [x1, x0] _ (HBY.out.below HWS.out) HSS.out HT2.out hn18 H4.out).mono ?_); rintro e w5 ⟨rfl, hb5⟩; rw [HTX.out]; have hw5 : Below w.heap.size w w5 := HWS.out.trans (hb5.mono HWS.out.size); have HSS5 := Lib.hid (HSS.out.below hb5); have HW5 := Lib.hid hw5; clear hb5 hw5)) | (go_at_call 57; ((with_reducible refine (look_v (strB T) hTs _ k2 n2 nb ps HX.out HNB.out).mono ?_); rintro e w6 ⟨ad, cp, rfl, hS, hB⟩; have hw6 : Below w.heap.size w w6 := HW5.out.trans (hB.mono HW5.out.size); have HSS6 := Lib.hid (HSS5.out.below hB); have HW6 := Lib.hid hw6; have HS := Lib.hid hS; clear hB hS hw6)) | (go_at_call 58; ((with_reducible refine (equal_any _ _ ps [x1, x0] _ (HS.out.below ((Below.refl _ _).alloc (Nat.le_refl _) _)) (HSS6.out.below ((Below.refl _ _).alloc (Nat.le_refl _) _)) hps (by simp; unfold maxLen; omega)).mono ?_); rintro e w' ⟨rfl, q7, rfl⟩)) | fail)
      go_ret
      exact ⟨ret_str (by rw [HO.out]), below_drewN (HW6.out.alloc HW6.out.size _) _⟩
end Go.Proofs.Ytjbmcjppaadkgaa

namespace Go.Proofs.Ytjbmcjppaadkgaa
set_option linter.unusedVariables false
set_option linter.unusedSimpArgs false
set_option maxRecDepth 100000
open Go.RowKit

theorem shape_ex {k : Nat} (h1 : 1 ≤ k) (h2 : k ≤ 11) : ∃ sh, shapeOf k = some sh := by
  cases h : shapeOf k with
  | some sh => exact ⟨sh, rfl⟩
  | none => have := shape_none h2 h; omega

theorem make_any (kind : Int) (n : Nat) (hn18 : n ≤ top) (vb vl : Value) (b : List UInt8) (l : List (List UInt8)) (w : World) (hb : Bytes w vb b) (hl : Strs w vl l) (hbl : b.length ≤ maxLen) (hll : l.length ≤ maxLen) :
    Calls Try.prog 38 #[.int .i64 kind, .int .u64 n, vb, vl] w fun e w' => e = .returned (.string (strB (makeR kind n b l))) ∧ Below w.heap.size w w' := by
  unfold makeR
  by_cases hk : 1 ≤ kind ∧ kind ≤ 11
  · rw [if_pos hk]
    obtain ⟨k, rfl⟩ : ∃ k : Nat, kind = k := ⟨kind.toNat, by omega⟩
    rw [Int.toNat_natCast]
    obtain ⟨sh, hs⟩ := shape_ex (k := k) (by omega) (by omega)
    unfold makeK
    by_cases hbad : (k = 4 ∧ 32768 < b.length) ∨ ¬ total l ≤ 65536
    · rw [if_pos hbad]
      exact make_bad k sh hs n vb vl b l w hb hl hbl hll hbad
    · rw [if_neg hbad]
      have ht : total l ≤ 65536 := by
        by_cases h : total l ≤ 65536
        · exact h
        · exact absurd (.inr h) hbad
      have h4 : k = 4 → b.length ≤ 32768 := fun h => by
        by_cases h2 : 32768 < b.length
        · exact absurd (.inl ⟨h, h2⟩) hbad
        · omega
      by_cases hsrt : k = 6 ∧ l.length = 2 ∧ leL (l.getD 0 []) (l.getD 1 []) = false
      · have e : sortL k l = [l.getD 1 [], l.getD 0 []] := by unfold sortL; rw [if_pos hsrt]
        rw [e]
        have el : l = [l.getD 0 [], l.getD 1 []] := by
          match l, hsrt.2.1 with
          | [a, b], _ => rfl
        exact make_sorted k sh hs n hn18 vb vl b l w hb hl h4 hll ht _ _ el ((ordered_iff hs).2 hsrt.1) hsrt.2.2 hbl
      · have e : sortL k l = l := by unfold sortL; rw [if_neg hsrt]
        rw [e]
        refine make_plain k sh hs n hn18 vb vl b l w hb hl h4 hll ht ?_ hbl
        cases ho : sh.ordered with
        | false => exact .inl rfl
        | true =>
          have hk6 := (ordered_iff hs).1 ho
          by_cases h2 : l.length = 2
          · refine .inr (.inr ⟨rfl, h2, ?_⟩)
            cases hle : leL (l.getD 0 []) (l.getD 1 []) with
            | true => rfl
            | false => exact absurd ⟨hk6, h2, hle⟩ hsrt
          · exact .inr (.inl ⟨rfl, h2⟩)
  · rw [if_neg hk]
    exact make_out kind (by omega) n vb vl w

theorem make_zero (kind : Int) (vb vl : Value) (b : List UInt8) (l : List (List UInt8)) (w : World) (hb : Bytes w vb b) (hl : Strs w vl l) (hbl : b.length ≤ maxLen) (hll : l.length ≤ maxLen) :
    Calls Try.prog 38 #[.int .i64 kind, .int .u64 0, vb, vl] w fun e w' => e = .returned (.string (strB (makeR kind 0 b l))) ∧ Below w.heap.size w w' := make_any kind 0 (Nat.zero_le _) vb vl b l w hb hl hbl hll

def agreeR (x : List UInt8) (y : Nat × Nat × List (List UInt8)) : List UInt8 := if y.1 = 5 then makeR 6 0 [] [x, y.2.2.getD 0 []] else []

theorem strs_two_at (w : World) (o : Obj) (x : ByteArray) (y : List UInt8) : Strs ((w.alloc o).alloc (.cells #[.string x, .string (strB y)] 9)) (.slice (some ⟨w.heap.size + 1, 0, none⟩) 2 2) [x.data.toList, y] := by
  have h := heap_alloc_new (w.alloc o) (.cells #[.string x, .string (strB y)] 9)
  rw [show (w.alloc o).heap.size = w.heap.size + 1 by simp] at h
  refine ⟨_, 2, rfl, (fun h => by cases h), .inr ⟨_, 0, rfl, fun i hi => ?_⟩⟩
  rw [Nat.zero_add]
  match i, hi with
  | 0, _ =>
    have : strV x.data.toList = .string x := by unfold strV; rw [strB_self]
    show _ = some (strV x.data.toList)
    rw [this]
    exact cell_of h 0 rfl
  | 1, _ => exact cell_of h 1 rfl

/-! Bytes -/
def bytesR (t : List UInt8) : List UInt8 := if (lookR t).1 = 4 then hxBytes (t.drop 1) else []
theorem look4 {t : List UInt8} {n : Nat} {ps : List (List UInt8)} (h : lookR t = (4, n, ps)) : t.length ≤ 65536 ∧ ∃ r, t = 120 :: r ∧ hxCode r = 0 ∧ n = 0 ∧ ps = [] := by
  obtain ⟨hl, hq⟩ := qLook_some.1 (lookR_some h (by decide))
  refine ⟨hl, ?_⟩
  cases t with
  | nil => cases hq
  | cons c r =>
    simp only [qTermS] at hq
    obtain ⟨sh, hs, hq⟩ := Option.bind_eq_some_iff.1 hq
    have hk : kindOf c = 4 := by
      split at hq
      · obtain ⟨y, _, e⟩ := Option.bind_eq_some_iff.1 hq
        simp only [Option.some.injEq, Prod.mk.injEq] at e; exact e.1
      · obtain ⟨y, _, e⟩ := Option.bind_eq_some_iff.1 hq
        simp only [Option.some.injEq, Prod.mk.injEq] at e; exact e.1
    rw [hk] at hs hq
    simp only [shapeOf, Option.some.injEq] at hs
    subst hs
    have hc : c = 120 := by
      unfold kindOf at hk
      by_cases h : c = 120
      · exact h
      · rw [if_neg h] at hk
        repeat' split at hk
        all_goals omega
    rw [if_neg (by decide)] at hq
    obtain ⟨y, hy, e⟩ := Option.bind_eq_some_iff.1 hq
    unfold qLeaf at hy
    rw [if_pos rfl] at hy
    split at hy
    · rename_i hpar
      simp only [qNum, Bool.false_eq_true, if_false, Option.some.injEq] at hy
      subst hy
      simp only [Option.some.injEq, Prod.mk.injEq] at e
      obtain ⟨_, e1, e2, e3⟩ := e
      refine ⟨r, by rw [hc], ?_, e1.symm, e2.symm⟩
      have hr : r.takeWhile isHex = r := by
        have := List.takeWhile_append_dropWhile (p := isHex) (l := r)
        rw [e3, List.append_nil] at this
        exact this
      rw [hr] at hpar
      exact hxCode_zero.2 ⟨by rw [← hr]; exact isHex_digs (takeWhile_all r), hpar⟩
    · cases hy

def BytesRet (w : World) (l : List UInt8) (ok : Bool) (e : Ending) (w' : World) : Prop := ∃ v, e = .returned (.tuple #[v, .bool ok]) ∧ Bytes w' v l ∧ Below w.heap.size w w'
end Go.Proofs.Ytjbmcjppaadkgaa

namespace Go.Proofs.Ytjbmcjppaadkgaa
set_option linter.unusedVariables false
set_option linter.unusedSimpArgs false
set_option maxRecDepth 100000
open Go.RowKit

theorem at_any (s : ByteArray) (q : Nat) (hs : s.size ≤ maxLen) (hq : q ≤ 9223372036854775807) (w : World) : Calls Try.prog 62 #[.string s, .int .i64 q] w fun e w' => e = .returned (.int .u8 (byteAt s q)) ∧ w = w' := by
  unfold maxLen at hs
  by_cases h : q < s.size
  · go_enter Try.func62, Try.ntmps62
    go_wp2
    go_ret
    exact ⟨ret_int (byteAt_lt h).symm, rfl⟩
  · go_enter Try.func62, Try.ntmps62
    go_wp2
    go_ret
    exact ⟨ret_int (byteAt_ge h).symm, rfl⟩

def lettersL : List UInt8 := [48, 97, 110, 120, 112, 100, 104, 107, 109, 115, 108]
def letterAt (j : Nat) : UInt8 := lettersL.getD j 0
theorem letter_at (j : Nat) (hj : j < 11) (h : j < (⟨#[48, 97, 110, 120, 112, 100, 104, 107, 109, 115, 108]⟩ : ByteArray).size) : ((⟨#[48, 97, 110, 120, 112, 100, 104, 107, 109, 115, 108]⟩ : ByteArray)[j]'h).toNat = (letterAt j).toNat := by
  rcases (show j = 0 ∨ j = 1 ∨ j = 2 ∨ j = 3 ∨ j = 4 ∨ j = 5 ∨ j = 6 ∨ j = 7 ∨ j = 8 ∨ j = 9 ∨ j = 10 by omega) with rfl | rfl | rfl | rfl | rfl | rfl | rfl | rfl | rfl | rfl | rfl <;> rfl
theorem letter_kind (j : Nat) (hj : j < 11) : kindOf (letterAt j) = j + 1 := by
  rcases (show j = 0 ∨ j = 1 ∨ j = 2 ∨ j = 3 ∨ j = 4 ∨ j = 5 ∨ j = 6 ∨ j = 7 ∨ j = 8 ∨ j = 9 ∨ j = 10 by omega) with rfl | rfl | rfl | rfl | rfl | rfl | rfl | rfl | rfl | rfl | rfl <;> rfl
theorem kind_none (c : UInt8) (h : ∀ j, j < 11 → letterAt j ≠ c) : kindOf c = 0 := by
  have h0 := h 0 (by decide); have h1 := h 1 (by decide); have h2 := h 2 (by decide); have h3 := h 3 (by decide); have h4 := h 4 (by decide); have h5 := h 5 (by decide)
  have h6 := h 6 (by decide); have h7 := h 7 (by decide); have h8 := h 8 (by decide); have h9 := h 9 (by decide); have h10 := h 10 (by decide)
  simp only [letterAt, lettersL, List.getD_cons_zero, List.getD_cons_succ] at h0 h1 h2 h3 h4 h5 h6 h7 h8 h9 h10
  unfold kindOf
  rw [if_neg (Ne.symm h0), if_neg (Ne.symm h1), if_neg (Ne.symm h2), if_neg (Ne.symm h3), if_neg (Ne.symm h4), if_neg (Ne.symm h5), if_neg (Ne.symm h6), if_neg (Ne.symm h7), if_neg (Ne.symm h8), if_neg (Ne.symm h9), if_neg (Ne.symm h10)]

theorem rkind_any (c : UInt8) (w : World) : Calls Try.prog 61 #[.int .u8 c.toNat] w fun e w' => e = .returned (.int .i64 (kindOf c)) ∧ w = w' := by
  have hc := UInt8.toNat_lt c
  go_enter Try.func61, Try.ntmps61
  go_wp2
  go_loop [3] (fun i => ∃ k : Nat, k ≤ 11 ∧ i = .int .i64 k ∧ ∀ j, j < k → letterAt j ≠ c) (fun i => 11 - (intOf i).toNat)
  case atStart => exact ⟨0, by omega, rfl, fun j hj => by omega⟩
  case round =>
    obtain ⟨k, hk, rfl, hall⟩ := hrel
    have HA := Lib.hid hall
    clear hall
    by_cases hlt : k < 11
    · have hix := fun h => letter_at k hlt h
      by_cases he : letterAt k = c
      · have HK : Hid (kindOf c = k + 1) := Lib.hid (by rw [← he]; exact letter_kind k hlt)
        have he1 : (((letterAt k).toNat : Int) == c.toNat) = true := by rw [he]; simp
        clear he
        go_wp2
        go_ret
        exact ⟨ret_int (by rw [HK.out]; rfl), rfl⟩
      · have he1 : (((letterAt k).toNat : Int) == c.toNat) = false := beqf (fun h => he (UInt8.toNat_inj.1 (Int.ofNat.inj h)))
        have HA2 : Hid (∀ j, j < k + 1 → letterAt j ≠ c) := Lib.hid fun j hj => by
          by_cases h : j < k
          · exact HA.out j h
          · have : j = k := by omega
            subst this; exact he
        clear he
        go_wp2
        go_round
        case rel => exact ⟨k + 1, by omega, by go_num, HA2.out⟩
        case measure => simp [intOf]; omega
    · have HK : Hid (kindOf c = 0) := Lib.hid (kind_none c fun j hj => HA.out j (by omega))
      go_wp2
      go_ret
      exact ⟨ret_int (by rw [HK.out]; rfl), rfl⟩

theorem right_any (k n : Nat) (w : World) : Calls Try.prog 66 #[.int .i64 k, .int .i64 n] w fun e w' => e = .returned (.bool (right k n)) ∧ w = w' := by
  have hcase : (k = 5 ∧ right k n = (n == 1)) ∨ (k = 6 ∧ right k n = (n == 2)) ∨ (k = 8 ∧ right k n = (n == 2)) ∨ (k = 9 ∧ right k n = (n == 2)) ∨ (k = 7 ∧ right k n = decide (1 ≤ n)) ∨ (k = 10 ∧ right k n = (n == 3)) ∨ (k ≠ 5 ∧ k ≠ 6 ∧ k ≠ 7 ∧ k ≠ 8 ∧ k ≠ 9 ∧ k ≠ 10 ∧ right k n = true) := by
    unfold right
    by_cases h5 : k = 5
    · exact .inl ⟨h5, by rw [if_pos h5]⟩
    · by_cases h6 : k = 6
      · exact .inr (.inl ⟨h6, by rw [if_neg h5, if_pos (.inl h6)]⟩)
      · by_cases h8 : k = 8
        · exact .inr (.inr (.inl ⟨h8, by rw [if_neg h5, if_pos (.inr (.inl h8))]⟩))
        · by_cases h9 : k = 9
          · exact .inr (.inr (.inr (.inl ⟨h9, by rw [if_neg h5, if_pos (.inr (.inr h9))]⟩)))
          · by_cases h7 : k = 7
            · exact .inr (.inr (.inr (.inr (.inl ⟨h7, by rw [if_neg h5, if_neg (by omega), if_pos h7]⟩))))
            · by_cases h10 : k = 10
              · exact .inr (.inr (.inr (.inr (.inr (.inl ⟨h10, by rw [if_neg h5, if_neg (by omega), if_neg h7, if_pos h10]⟩)))))
              · exact .inr (.inr (.inr (.inr (.inr (.inr ⟨h5, h6, h7, h8, h9, h10, by rw [if_neg h5, if_neg (by omega), if_neg h7, if_neg h10]⟩)))))
  have hn : ∀ j : Nat, (((n : Int)) == (j : Int)) = (n == j) := fun j => by
    rw [Bool.eq_iff_iff, beq_iff_eq, beq_iff_eq]; omega
  rcases hcase with ⟨rfl, hr⟩ | ⟨rfl, hr⟩ | ⟨rfl, hr⟩ | ⟨rfl, hr⟩ | ⟨rfl, hr⟩ | ⟨rfl, hr⟩ | ⟨h5, h6, h7, h8, h9, h10, hr⟩
  all_goals rw [hr]
  all_goals (have HN := Lib.hid hn)
  all_goals clear hr hn
  · go_enter Try.func66, Try.ntmps66
    go_wp2
    go_ret
    exact ⟨ret_bool (HN.out 1), rfl⟩
  · go_enter Try.func66, Try.ntmps66
    go_wp2
    go_ret
    exact ⟨ret_bool (HN.out 2), rfl⟩
  · go_enter Try.func66, Try.ntmps66
    go_wp2
    go_ret
    exact ⟨ret_bool (HN.out 2), rfl⟩
  · go_enter Try.func66, Try.ntmps66
    go_wp2
    go_ret
    exact ⟨ret_bool (HN.out 2), rfl⟩
  · go_enter Try.func66, Try.ntmps66
    go_wp2
    go_ret
    exact ⟨ret_bool (by rw [Bool.eq_iff_iff, decide_eq_true_eq, decide_eq_true_eq]; omega), rfl⟩
  · go_enter Try.func66, Try.ntmps66
    go_wp2
    go_ret
    exact ⟨ret_bool (HN.out 3), rfl⟩
  · have e5 : ((k : Int) == 5) = false := beqf (by omega)
    have e6 : ((k : Int) == 6) = false := beqf (by omega)
    have e7 : ((k : Int) == 7) = false := beqf (by omega)
    have e8 : ((k : Int) == 8) = false := beqf (by omega)
    have e9 : ((k : Int) == 9) = false := beqf (by omega)
    have e10 : ((k : Int) == 10) = false := beqf (by omega)
    clear h5 h6 h7 h8 h9 h10
    go_enter Try.func66, Try.ntmps66
    go_wp2
    go_ret
    exact ⟨rfl, rfl⟩

theorem isWord_int (c : UInt8) : isWord c = true ↔ (c.toNat : Int) ≠ 44 ∧ (c.toNat : Int) ≠ 41 := by
  unfold isWord
  rw [decide_eq_true_eq]
  constructor
  · rintro ⟨h1, h2⟩
    have e1 : (44 : UInt8).toNat = 44 := rfl
    have e2 : (41 : UInt8).toNat = 41 := rfl
    exact ⟨fun h => h1 (UInt8.toNat_inj.1 (by omega)), fun h => h2 (UInt8.toNat_inj.1 (by omega))⟩
  · rintro ⟨h1, h2⟩
    exact ⟨fun h => h1 (by rw [h]; rfl), fun h => h2 (by rw [h]; rfl)⟩
theorem ret_word {a b : ByteArray} {c d : Int} (h : a = b) (h2 : c = d) : Ending.returned (.tuple #[.string a, .int .i64 c]) = .returned (.tuple #[.string b, .int .i64 d]) := by rw [h, h2]

theorem word_any (s : ByteArray) (p : Nat) (hs : s.size ≤ maxLen) (hp : p ≤ s.size) (w : World) : Calls Try.prog 64 #[.string s, .int .i64 p] w fun e w' =>
    e = .returned (.tuple #[.string (strB ((s.data.toList.drop p).takeWhile isWord)), .int .i64 (posOf s ((s.data.toList.drop p).dropWhile isWord))]) ∧ w = w' := by
  unfold maxLen at hs
  go_enter Try.func64, Try.ntmps64
  go_wp2
  go_loop [1] (fun i => ∃ q : Nat, p ≤ q ∧ q ≤ s.size ∧ i = .int .i64 q ∧ (s.data.toList.drop p).takeWhile isWord = (s.data.toList.drop p).take (q - p) ++ (s.data.toList.drop q).takeWhile isWord) (fun i => s.size - (intOf i).toNat)
  case atStart => exact ⟨p, Nat.le_refl _, hp, rfl, by simp⟩
  case round =>
    obtain ⟨q, hpq, hqs, rfl, ht⟩ := hrel
    have HT := Lib.hid ht
    clear ht
    have hcase : (∃ h : q < s.size, isWord s[q] = true) ∨ (∃ h : q < s.size, (s[q].toNat : Int) = 44) ∨ (∃ h : q < s.size, (s[q].toNat : Int) = 41) ∨ ¬ q < s.size := by
      by_cases h : q < s.size
      · by_cases hw : isWord s[q] = true
        · exact .inl ⟨h, hw⟩
        · have hno : ¬ (((s[q]).toNat : Int) ≠ 44 ∧ ((s[q]).toNat : Int) ≠ 41) := mt (isWord_int s[q]).mpr hw
          by_cases h44 : (s[q].toNat : Int) = 44
          · exact .inr (.inl ⟨h, h44⟩)
          · refine .inr (.inr (.inl ⟨h, ?_⟩))
            by_cases h41 : (s[q].toNat : Int) = 41
            · exact h41
            · exact (hno ⟨h44, h41⟩).elim
      · exact .inr (.inr (.inr h))
    rcases hcase with ⟨hlt, hw⟩ | hstop
    · have hi := (isWord_int s[q]).1 hw
      have HW := Lib.hid hw
      have h1 : (((s[q]).toNat : Int) != 44) = true := by simp; omega
      have h2 : (((s[q]).toNat : Int) != 41) = true := by simp; omega
      have hb := UInt8.toNat_lt s[q]
      clear hi hw
      go_wp2
      go_round
      case rel => exact ⟨q + 1, by omega, by omega, by go_num, run_step hpq hlt HW.out HT.out⟩
      case measure => simp [intOf]; omega
    · have HE : Hid ((s.data.toList.drop p).takeWhile isWord = (s.data.toList.drop p).take (q - p) ∧ ((s.data.toList.drop p).takeWhile isWord).length = q - p) := Lib.hid (run_end hpq hqs (fun h => by
        rcases hstop with ⟨_, h1⟩ | ⟨_, h1⟩ | h1
        · cases hx : isWord s[q]
          · rfl
          · exact absurd h1 ((isWord_int s[q]).1 hx).1
        · cases hx : isWord s[q]
          · rfl
          · exact absurd h1 ((isWord_int s[q]).1 hx).2
        · exact absurd h h1) HT.out)
      have HF : Hid ((strB ((s.data.toList.drop p).takeWhile isWord)) = s.extract p q ∧ (posOf s ((s.data.toList.drop p).dropWhile isWord) : Int) = q) := Lib.hid ⟨by rw [slice_str s p q hpq hqs, sub, HE.out.1, strB], by rw [← posOf_dropWhile isWord s p hp, HE.out.2]; omega⟩
      rcases hstop with ⟨hlt, h1⟩ | ⟨hlt, h1⟩ | h1
      · have h2 : (((s[q]).toNat : Int) != 44) = false := by simp [h1]
        clear h1
        go_wp2
        go_ret2
        exact ⟨ret_word HF.out.1.symm HF.out.2.symm, rfl⟩
      · have h2 : (((s[q]).toNat : Int) != 44) = true := by simp [h1]
        have h3 : (((s[q]).toNat : Int) != 41) = false := by simp [h1]
        clear h1
        go_wp2
        go_ret2
        exact ⟨ret_word HF.out.1.symm HF.out.2.symm, rfl⟩
      · go_wp2
        go_ret2
        exact ⟨ret_word HF.out.1.symm HF.out.2.symm, rfl⟩
end Go.Proofs.Ytjbmcjppaadkgaa

namespace Go.Proofs.Ytjbmcjppaadkgaa
set_option linter.unusedVariables false
set_option linter.unusedSimpArgs false
set_option maxRecDepth 100000
open Go.RowKit

def NodeRes (k n : Nat) (ab : Option Addr) (bl cb : Nat) (ap : Option Addr) (pl cp : Nat) (j : Int) : Ending :=
  .returned (.tuple #[.agg #[.int .i64 k, .int .u64 n, .slice ab bl cb, .slice ap pl cp], .int .i64 j])
def NOk (w : World) (s : ByteArray) (k n : Nat) (b : List UInt8) (ps : List (List UInt8)) (rest : List UInt8) (e : Ending) (w' : World) : Prop :=
  ∃ ab cb ap cp, e = NodeRes k n ab b.length cb ap ps.length cp (posOf s rest) ∧ Bytes w' (.slice ab b.length cb) b ∧ Strs w' (.slice ap ps.length cp) ps ∧ Below w.heap.size w w'
def NBad (w : World) (e : Ending) (w' : World) : Prop :=
  e = .returned (.tuple #[.agg #[.int .i64 0, .int .u64 0, .slice none 0 0, .slice none 0 0], .int .i64 (-1)]) ∧ Below w.heap.size w w'
def NPost (w : World) (s : ByteArray) (o : Option (Nat × Nat × List UInt8 × List (List UInt8) × List UInt8)) (e : Ending) (w' : World) : Prop :=
  match o with
  | some x => NOk w s x.1 x.2.1 x.2.2.1 x.2.2.2.1 x.2.2.2.2 e w'
  | none => NBad w e w'

theorem zero_node (w : World) : (zeroValue 69).run Try.prog w = .ok (.agg #[.int .i64 0, .int .u64 0, .slice none 0 0, .slice none 0 0]) w := by kernel_rfl
abbrev nodeC (k n : Nat) (ab : Option Addr) (bl cb : Nat) (ap : Option Addr) (pl cp : Nat) : Array Value := #[.int .i64 k, .int .u64 n, .slice ab bl cb, .slice ap pl cp]
theorem leaf_results (W : World) (b k n : Nat) (ab : Option Addr) (bl cb : Nat) (ap : Option Addr) (pl cp : Nat) (j : Int) (h : W.heap[b]? = some (.cells (nodeC k n ab bl cb ap pl cp) 69 (0, 0))) (T : Array Value) (h6 : T.getD 6 undef = .pointer (some ⟨b, 0, none⟩)) (h7 : T.getD 7 undef = .int .i64 j) :
    (results Try.f63 T).run Try.prog W = .ok (.tuple #[.agg (nodeC k n ab bl cb ap pl cp), .int .i64 j]) W := by
  have c0 := cell_of h 0 rfl; have c1 := cell_of h 1 rfl; have c2 := cell_of h 2 rfl; have c3 := cell_of h 3 rfl
  have e6 : T[6]?.getD undef = .pointer (some ⟨b, 0, none⟩) := by simpa using h6
  have e7 : T[7]?.getD undef = .int .i64 j := by simpa using h7
  simp [results, Try.results63, go_sem, e6, e7, c0, c1, c2, c3]

theorem bytes_slice {w : World} {v : Value} {l : List UInt8} (h : Bytes w v l) : ∃ a c, v = .slice a l.length c := by
  obtain ⟨a, c, rfl, _⟩ := h; exact ⟨a, c, rfl⟩

theorem rread_l (d : List UInt8) (hds : (strB d).size ≤ maxLen) (w : World) : Calls Try.prog 65 #[.string (strB d)] w fun e w' => e = .returned (.tuple #[.int .u64 (rdVal d), .int .i64 (rdCode d)]) ∧ w = w' := rread_any (strB d) hds w
theorem rreadhex_l (d : List UInt8) (hds : (strB d).size ≤ 1000000) (w : World) : Calls Try.prog 74 #[.string (strB d)] w (HexRet w d) := rreadhex_any (strB d) hds w

theorem leaf_zero (s : ByteArray) (p : Nat) (hp : p ≤ s.size) (w : World) : Calls Try.prog 63 #[.string s, .int .i64 p, .int .i64 1] w (NOk w s 1 0 [] [] (s.data.toList.drop p)) := by
  have hz := zero_node
  have HP := Lib.hid (posOf_drop s p hp)
  go_enter Try.func63, Try.ntmps63
  go_wp2_with fail
  refine bodyPost_ret (leaf_results _ w.heap.size 1 0 none 0 0 none 0 0 p (heap_alloc_new w _) _ rfl rfl) rfl ?_
  exact ⟨none, 0, none, 0, by unfold NodeRes; rw [HP.out]; rfl, bytes_nil _, strs_nil _, (Below.refl _ _).alloc (Nat.le_refl _) _⟩

theorem word_run_le (s : ByteArray) (p : Nat) : ((s.data.toList.drop p).takeWhile isWord).length ≤ s.size := by
  have := digs_run_le isWord s p; omega

theorem word_v (s : ByteArray) (p : Nat) (hs : s.size ≤ maxLen) (hp : p ≤ s.size) (d r : List UInt8) (hd : (s.data.toList.drop p).takeWhile isWord = d) (hr : (s.data.toList.drop p).dropWhile isWord = r) (w : World) :
    Calls Try.prog 64 #[.string s, .int .i64 p] w fun e w' => e = .returned (.tuple #[.string (strB d), .int .i64 (posOf s r)]) ∧ w = w' := by
  subst hd; subst hr
  exact word_any s p hs hp w

theorem leaf_num (k : Nat) (hk : k = 2 ∨ k = 3) (sh : Shape) (hs : shapeOf k = some sh) (s : ByteArray) (p : Nat) (hsm : s.size ≤ maxLen) (hp : p ≤ s.size) (w : World) :
    Calls Try.prog 63 #[.string s, .int .i64 p, .int .i64 k] w (NPost w s ((pNum sh.low sh.high (s.data.toList.drop p)).bind fun x => some (k, x.1, [], [], x.2))) := by
  have hz := zero_node
  have hwl := word_run_le s p
  obtain ⟨d, hd⟩ : ∃ d, (s.data.toList.drop p).takeWhile isWord = d := ⟨_, rfl⟩
  obtain ⟨r, hr⟩ : ∃ r, (s.data.toList.drop p).dropWhile isWord = r := ⟨_, rfl⟩
  have hlow : sh.low = 0 ∧ ((k = 2 ∧ sh.high = 4294967295) ∨ (k = 3 ∧ sh.high = 18446744073709551615)) := by
    rcases hk with rfl | rfl <;> (simp only [shapeOf, Option.some.injEq] at hs; subst hs; simp)
  have hv := rdVal_bd d
  have hds : (strB d).size ≤ maxLen := by rw [strB_size, ← hd]; unfold maxLen at hsm ⊢; omega
  unfold pNum
  rw [hd, hr]
  have HD := Lib.hid hd
  have HR := Lib.hid hr
  have hnum : numIn sh.low sh.high d = decide (rdCode d = 0 ∧ (k = 3 ∨ (k = 2 ∧ rdVal d ≤ 4294967295))) := by
    unfold numIn
    rw [decide_eq_decide]
    rcases hlow with ⟨h1, ⟨h2, h3⟩ | ⟨h2, h3⟩⟩ <;> rw [h1, h3] <;> constructor <;> intro h <;> simp at h ⊢ <;> omega
  rw [hnum]
  have hcase : (rdCode d ≠ 0) ∨ (rdCode d = 0 ∧ k = 2 ∧ 4294967295 < rdVal d) ∨ (rdCode d = 0 ∧ k = 3) ∨ (rdCode d = 0 ∧ k = 2 ∧ rdVal d ≤ 4294967295) := by omega
  have hpw : Hid (posOf s r = posOf s r) := Lib.hid rfl
  clear hnum hs hlow hd hr hwl
  rcases hcase with h | ⟨h, rfl, h3⟩ | ⟨h, rfl⟩ | ⟨h, rfl, h3⟩
  · rw [if_neg (by simp [h])]
    have hc : (rdCode d != 0) = true := by simpa using h
    clear h
    rcases hk with rfl | rfl
    all_goals
      go_enter Try.func63, Try.ntmps63
      go_wp2_with (first | (go_at_call 64; ((with_reducible refine (word_v s p hsm hp d r HD.out HR.out _).mono ?_); rintro e w' ⟨rfl, rfl⟩)) | (go_at_call 65; ((with_reducible refine (rread_l d hds _).mono ?_); rintro e w' ⟨rfl, rfl⟩)) | fail)
      refine bodyPost_ret (leaf_results _ w.heap.size 0 0 none 0 0 none 0 0 (-1) (heap_alloc_new w _) _ rfl rfl) rfl ?_
      exact ⟨rfl, (Below.refl _ _).alloc (Nat.le_refl _) _⟩
  · rw [if_neg (by simp; omega)]
    have hc : (rdCode d != 0) = false := by simp [h]
    clear h
    go_enter Try.func63, Try.ntmps63
    go_wp2_with (first | (go_at_call 64; ((with_reducible refine (word_v s p hsm hp d r HD.out HR.out _).mono ?_); rintro e w' ⟨rfl, rfl⟩)) | (go_at_call 65; ((with_reducible refine (rread_l d hds _).mono ?_); rintro e w' ⟨rfl, rfl⟩)) | fail)
    refine bodyPost_ret (leaf_results _ w.heap.size 0 0 none 0 0 none 0 0 (-1) (heap_alloc_new w _) _ rfl rfl) rfl ?_
    exact ⟨rfl, (Below.refl _ _).alloc (Nat.le_refl _) _⟩
  · rw [if_pos (by simp [h])]
    have hc : (rdCode d != 0) = false := by simp [h]
    have HV : Hid (rdVal d = ((rdVal d).toNat : Nat)) := Lib.hid (by omega)
    clear h
    generalize (rdVal d).toNat = nn at *
    go_enter Try.func63, Try.ntmps63
    go_wp2_with (first | (go_at_call 64; ((with_reducible refine (word_v s p hsm hp d r HD.out HR.out _).mono ?_); rintro e w' ⟨rfl, rfl⟩)) | (go_at_call 65; ((with_reducible refine (rread_l d hds _).mono ?_); rintro e w' ⟨rfl, rfl⟩)) | fail)
    rw [HV.out]
    refine bodyPost_ret (leaf_results _ w.heap.size 3 nn none 0 0 none 0 0 (posOf s r) (heap_alloc_new w _) _ rfl rfl) rfl ?_
    exact ⟨none, 0, none, 0, rfl, bytes_nil _, strs_nil _, (Below.refl _ _).alloc (Nat.le_refl _) _⟩
  · rw [if_pos (by simp [h]; omega)]
    have hc : (rdCode d != 0) = false := by simp [h]
    have HV : Hid (rdVal d = ((rdVal d).toNat : Nat)) := Lib.hid (by omega)
    clear h
    generalize (rdVal d).toNat = nn at *
    go_enter Try.func63, Try.ntmps63
    go_wp2_with (first | (go_at_call 64; ((with_reducible refine (word_v s p hsm hp d r HD.out HR.out _).mono ?_); rintro e w' ⟨rfl, rfl⟩)) | (go_at_call 65; ((with_reducible refine (rread_l d hds _).mono ?_); rintro e w' ⟨rfl, rfl⟩)) | fail)
    rw [HV.out]
    refine bodyPost_ret (leaf_results _ w.heap.size 2 nn none 0 0 none 0 0 (posOf s r) (heap_alloc_new w _) _ rfl rfl) rfl ?_
    exact ⟨none, 0, none, 0, rfl, bytes_nil _, strs_nil _, (Below.refl _ _).alloc (Nat.le_refl _) _⟩

section
variable {W : World} {k : Nat} {v0 v1 v2 v3 : Value}
theorem chain4_box {C : Array Value} {T : TypeId} (h : W.heap[k]? = some (.cells C T (0, 0))) (hC : C.size = 4) :
    ((((W.setCell ⟨k, 0, none⟩ v0).setCell ⟨k, 1, none⟩ v1).setCell ⟨k, 2, none⟩ v2).setCell ⟨k, 3, none⟩ v3).heap[k]? = some (.cells #[v0, v1, v2, v3] T (0, 0)) := by
  rw [heap_set (heap_set (heap_set (heap_set h)))]
  obtain ⟨l⟩ := C
  match l, hC with
  | [a, b, c, d], _ => rfl
theorem chain4_other {q : Nat} (hq : q ≠ k) : ((((W.setCell ⟨k, 0, none⟩ v0).setCell ⟨k, 1, none⟩ v1).setCell ⟨k, 2, none⟩ v2).setCell ⟨k, 3, none⟩ v3).heap[q]? = W.heap[q]? := by
  rw [heap_set_other hq, heap_set_other hq, heap_set_other hq, heap_set_other hq]
end
theorem cell_other {W W' : World} {b i : Nat} {v : Value} (h : W.cell? ⟨b, i, none⟩ = some v) (hW : W'.heap[b]? = W.heap[b]?) : W'.cell? ⟨b, i, none⟩ = some v := by
  unfold World.cell? at h ⊢
  rw [hW]; exact h
/-- bytes, and strings, lie in no node -/
theorem bytes_other {W W' : World} {v : Value} {l : List UInt8} (h : Bytes W v l) {k kk n : Nat} {ab : Option Addr} {bl cb : Nat} {ap : Option Addr} {pl cp : Nat} {T : TypeId} {fz : Nat × Nat}
    (hk : W.heap[k]? = some (.cells (nodeC kk n ab bl cb ap pl cp) T fz)) (hW : ∀ q, q ≠ k → W'.heap[q]? = W.heap[q]?) : Bytes W' v l := by
  obtain ⟨a, cap, rfl, hc⟩ := h
  refine ⟨a, cap, rfl, ?_⟩
  rcases hc with hc | ⟨b, off, rfl, hc⟩
  · exact .inl hc
  · refine .inr ⟨b, off, rfl, fun i hi => ?_⟩
    have h1 := hc i hi
    by_cases hb : b = k
    · subst hb
      simp only [World.cell?, hk] at h1
      match off + i, h1 with
      | 0, h => simp at h
      | 1, h => simp at h
      | 2, h => simp at h
      | 3, h => simp at h
      | n + 4, h => simp at h
    · exact cell_other h1 (hW b hb)
theorem strs_other {W W' : World} {v : Value} {l : List (List UInt8)} (h : Strs W v l) {k kk n : Nat} {ab : Option Addr} {bl cb : Nat} {ap : Option Addr} {pl cp : Nat} {T : TypeId} {fz : Nat × Nat}
    (hk : W.heap[k]? = some (.cells (nodeC kk n ab bl cb ap pl cp) T fz)) (hW : ∀ q, q ≠ k → W'.heap[q]? = W.heap[q]?) : Strs W' v l := by
  obtain ⟨a, cap, rfl, hn, hc⟩ := h
  refine ⟨a, cap, rfl, hn, ?_⟩
  rcases hc with hc | ⟨b, off, rfl, hc⟩
  · exact .inl hc
  · refine .inr ⟨b, off, rfl, fun i hi => ?_⟩
    have h1 := hc i hi
    by_cases hb : b = k
    · subst hb
      simp only [World.cell?, hk] at h1
      match off + i, h1 with
      | 0, h => simp [strV] at h
      | 1, h => simp [strV] at h
      | 2, h => simp [strV] at h
      | 3, h => simp [strV] at h
      | n + 4, h => simp at h
    · exact cell_other h1 (hW b hb)

theorem leaf_hex (s : ByteArray) (p : Nat) (hsm : s.size ≤ maxLen) (hp : p ≤ s.size) (hsz : s.size ≤ 65536) (w : World) :
    Calls Try.prog 63 #[.string s, .int .i64 p, .int .i64 4] w (NPost w s (if hxCode ((s.data.toList.drop p).takeWhile isWord) = 0 then some (4, 0, hxBytes ((s.data.toList.drop p).takeWhile isWord), [], (s.data.toList.drop p).dropWhile isWord) else none)) := by
  have hz := zero_node
  have hwl := word_run_le s p
  obtain ⟨d, hd⟩ : ∃ d, (s.data.toList.drop p).takeWhile isWord = d := ⟨_, rfl⟩
  obtain ⟨r, hr⟩ : ∃ r, (s.data.toList.drop p).dropWhile isWord = r := ⟨_, rfl⟩
  have hds : (strB d).size ≤ 1000000 := by rw [strB_size, ← hd]; omega
  rw [hd, hr]
  have HD := Lib.hid hd
  have HR := Lib.hid hr
  clear hd hr hwl
  by_cases h : hxCode d = 0
  · rw [if_pos h]
    have hc : (hxCode d != 0) = false := by simp [h]
    clear h
    go_enter Try.func63, Try.ntmps63
    go_wp2_with (first | (go_at_call 64; ((with_reducible refine (word_v s p hsm hp d r HD.out HR.out _).mono ?_); rintro e w' ⟨rfl, rfl⟩)) | (go_at_call 74; ((with_reducible refine (rreadhex_l d hds _).mono ?_); rintro e w1 ⟨v, rfl, hbv, hb⟩; obtain ⟨av, cv, rfl⟩ := bytes_slice hbv; have hbx := (hb.block w.heap.size (by simp)).trans (heap_alloc_new w _); have q0 := cell_of hbx 0 rfl; have q1 := cell_of hbx 1 rfl; have q2 := cell_of hbx 2 rfl; have q3 := cell_of hbx 3 rfl; have qf := fun i => free_of hbx i; have HBX := Lib.hid hbx; have HBV := Lib.hid hbv; have HB := Lib.hid hb; clear hbx hbv hb)) | fail)
    refine bodyPost_ret (leaf_results _ w.heap.size 4 0 av (hxBytes d).length cv none 0 0 (posOf s r) (chain4_box HBX.out rfl) _ rfl rfl) rfl ?_
    have hB : Below w.heap.size w w1 := ((Below.refl _ _).alloc (Nat.le_refl _) _).trans (HB.out.mono (by simp))
    exact ⟨av, cv, none, 0, rfl, bytes_other (kk := 0) (n := 0) HBV.out HBX.out (fun q hq => chain4_other hq), strs_nil _, chain4_below hB (Nat.le_refl _)⟩
  · rw [if_neg h]
    have hc : (hxCode d != 0) = true := by simpa using h
    clear h
    go_enter Try.func63, Try.ntmps63
    go_wp2_with (first | (go_at_call 64; ((with_reducible refine (word_v s p hsm hp d r HD.out HR.out _).mono ?_); rintro e w' ⟨rfl, rfl⟩)) | (go_at_call 74; ((with_reducible refine (rreadhex_l d hds _).mono ?_); rintro e w1 ⟨v, rfl, hbv, hb⟩; obtain ⟨av, cv, rfl⟩ := bytes_slice hbv; have hbx := (hb.block w.heap.size (by simp)).trans (heap_alloc_new w _); have q0 := cell_of hbx 0 rfl; have q1 := cell_of hbx 1 rfl; have q2 := cell_of hbx 2 rfl; have q3 := cell_of hbx 3 rfl; have qf := fun i => free_of hbx i; have HBX := Lib.hid hbx; have HBV := Lib.hid hbv; have HB := Lib.hid hb; clear hbx hbv hb)) | fail)
    refine bodyPost_ret (leaf_results _ w.heap.size 0 0 none 0 0 none 0 0 (-1) (chain4_box HBX.out rfl) _ rfl rfl) rfl ?_
    have hB : Below w.heap.size w w1 := ((Below.refl _ _).alloc (Nat.le_refl _) _).trans (HB.out.mono (by simp))
    exact ⟨rfl, chain4_below hB (Nat.le_refl _)⟩

theorem leaf_any (k : Nat) (h1 : 1 ≤ k) (h4 : k ≤ 4) (sh : Shape) (hs : shapeOf k = some sh) (s : ByteArray) (p : Nat) (hsz : s.size ≤ 65536) (hp : p ≤ s.size) (w : World) :
    Calls Try.prog 63 #[.string s, .int .i64 p, .int .i64 k] w (NPost w s ((pLeaf k sh (s.data.toList.drop p)).bind fun x => some (k, x.1, x.2.1, [], x.2.2))) := by
  have hsm : s.size ≤ maxLen := by unfold maxLen; omega
  rcases (show k = 1 ∨ k = 2 ∨ k = 3 ∨ k = 4 by omega) with rfl | rfl | rfl | rfl
  · exact leaf_zero s p hp w
  · have := leaf_num 2 (.inl rfl) sh hs s p hsm hp w
    unfold pLeaf
    simp only [show ¬ (2 : Nat) = 1 by decide, show ¬ (2 : Nat) = 4 by decide, if_false]
    rw [Option.bind_assoc]
    exact this
  · have := leaf_num 3 (.inr rfl) sh hs s p hsm hp w
    unfold pLeaf
    simp only [show ¬ (3 : Nat) = 1 by decide, show ¬ (3 : Nat) = 4 by decide, if_false]
    rw [Option.bind_assoc]
    exact this
  · have := leaf_hex s p hsm hp hsz w
    unfold pLeaf
    simp only [show ¬ (4 : Nat) = 1 by decide, if_false, if_true]
    split
    · rename_i h
      rw [if_pos h] at this
      exact this
    · rename_i h
      rw [if_neg h] at this
      exact this
end Go.Proofs.Ytjbmcjppaadkgaa
