/- Windows: the reference's Missing by contract. -/
import Derived.Test.YtoodjdaadkbdfaaWinR3
namespace Go.Proofs.Ytoodjdaadkbdfaa
set_option linter.unusedVariables false
set_option linter.unusedSimpArgs false
set_option maxRecDepth 100000
open Go.RowKit
def nearK (l : List Nat) (k : Nat) : Nat := (l.take k).countP fun x => decide (topL l < x + 2048)
theorem nearK_next (l : List Nat) (k : Nat) (h : k < l.length) : nearK l (k + 1) = nearK l k + if topL l < l.getD k 0 + 2048 then 1 else 0 := by
  unfold nearK
  rw [take_next l k h, List.countP_append]
  simp [List.countP_cons]
theorem nearK_le (l : List Nat) (k : Nat) : nearK l k ≤ l.length := by
  unfold nearK
  exact Nat.le_trans List.countP_le_length (by simp; omega)
theorem nearK_all (l : List Nat) : nearK l l.length = nearN l := by unfold nearK nearN; rw [List.take_length]
set_option maxHeartbeats 1000000 in
theorem rmissing_any (a : Option Addr) (cap : Nat) (l : List Nat) (w : World) (hv : U64s w (.slice a l.length cap) l) (hg : Good l) (hl : l.length ≤ 100000) :
    Calls Try.prog 16 #[.agg #[.slice a l.length cap]] w (CodeRet (missL l) w) := by
  have cv : (w.alloc (.cells #[.slice a l.length cap] 27)).cell? ⟨w.heap.size, 0, none⟩ = some (.slice a l.length cap) := cell_of (heap_alloc_new w _) 0 rfl
  have HCV := Lib.hid cv
  have HB : Hid (Below w.heap.size w (w.alloc (.cells #[.slice a l.length cap] 27))) := Lib.hid (below_one _)
  have HV := Lib.hid (hv.below HB.out)
  have hl0 : (l.length : Int) ≤ 100000 := by omega
  have HTP : Hid (∀ w, U64s w (.slice a l.length cap) l → Calls Try.prog 14 #[.agg #[.slice a l.length cap]] w (NatRet (topL l) w)) := Lib.hid (fun w h => rtop_any a cap l w h hl)
  clear hv
  by_cases h0 : l = []
  · have e : missL l = 0 := by unfold missL; rw [if_pos h0]
    rw [e]
    have hz : ((l.length : Int) == 0) = true := by rw [h0]; rfl
    clear h0 e hg hl
    go_enter Try.func16, Try.ntmps16
    go_wp2_with fail
    go_ret
    exact ⟨rfl, HB.out⟩
  · have hz : ((l.length : Int) == 0) = false := beqf (by have := List.length_pos_iff.2 h0; omega)
    obtain ⟨hs1, hs2, hs3⟩ := near_span hg h0
    have HM : Hid ((missL l : Int) = (spanL l : Int) - nearN l) := Lib.hid (by unfold missL; rw [if_neg h0]; omega)
    have HLE : Hid (∀ x ∈ l, x ≤ topL l) := Lib.hid (fun x hx => le_topL hx)
    have htm := good_top hg
    unfold most at htm
    have HTM := Lib.hid htm
    have hspc : (spanL l = topL l + 1 ∧ (topL l : Int) < 2048) ∨ (spanL l = 2048 ∧ ¬ (topL l : Int) < 2048) := by omega
    clear h0 hs1 hs2 hs3 hg htm
    have HNX := Lib.hid (nearK_next l)
    have HNL := Lib.hid (nearK_le l)
    have HNA := Lib.hid (nearK_all l)
    have HN0 : Hid (nearK l 0 = 0) := Lib.hid rfl
    have ht0 : (topL l : Int) ≥ 0 := by omega
    obtain ⟨t, ht⟩ : ∃ t, t = topL l := ⟨_, rfl⟩
    rw [← ht] at HTP HLE HTM HNX hspc ht0
    clear ht
    obtain ⟨m, hm⟩ : ∃ m, m = missL l := ⟨_, rfl⟩
    rw [← hm] at HM ⊢
    clear hm
    generalize spanL l = sp at *
    generalize nearN l = nn at *
    go_enter Try.func16, Try.ntmps16
    go_wp2_with (first | (go_at_call 14; ((with_reducible refine (HTP.out _ HV.out).mono ?_); rintro e w2 ⟨rfl, hb2⟩; have cv : w2.cell? ⟨w.heap.size, 0, none⟩ = some (.slice a l.length cap) := cell_keep4 HCV.out hb2; have HCV := Lib.hid cv; have HV := Lib.hid (HV.out.below hb2); have HB := Lib.hid (Below.next HB.out hb2); clear hb2)) | fail)
    go_loopw [4, 6] (fun n i wr => ∃ k : Nat, i = .int .i64 k ∧ k ≤ l.length ∧ n = .int .i64 (nearK l k : Nat) ∧ wr = w2) (fun n i _ => l.length - (intOf i).toNat)
    case atStart => exact ⟨0, rfl, by omega, by rw [HN0.out]; rfl, rfl⟩
    case round =>
      obtain ⟨k, rfl, hk, rfl, rfl⟩ := hrel
      have HNK := HNL.out k
      have hnk : ((nearK l k : Nat) : Int) ≤ 100000 := by omega
      clear HNK
      by_cases hlt : k < l.length
      · obtain ⟨b, off, rfl, hc⟩ := u64s_cell HV.out hlt
        have hnx := HNX.out k hlt
        have hle := HLE.out _ (getD_mem l k hlt)
        have hk1 : (k : Int) < l.length := by omega
        generalize l.getD k 0 = x at *
        have hsub : IntKind.u64.wrap ((t : Int) - x) = ((t - x : Nat) : Int) := by have := HTM.out; rw [wrap_u64 _ (by omega) (by omega)]; omega
        by_cases hx : t < x + 2048
        · rw [if_pos hx] at hnx
          have hxi : ((t - x : Nat) : Int) < 2048 := by omega
          have HNK := Lib.hid hnx
          clear hnx hx hle
          generalize t - x = d at *
          generalize nearK l k = n at *
          go_wp2_with fail
          go_roundw
          case rel => exact ⟨k + 1, by go_num, by omega, by rw [HNK.out]; rfl, trivial⟩
          case measure => simp [intOf]; omega
        · rw [if_neg hx] at hnx
          have hxi : ¬ ((t - x : Nat) : Int) < 2048 := by omega
          have HNK := Lib.hid hnx
          clear hnx hx hle
          generalize t - x = d at *
          generalize nearK l k = n at *
          go_wp2_with fail
          go_roundw
          case rel => exact ⟨k + 1, by go_num, by omega, by rw [HNK.out]; rfl, trivial⟩
          case measure => simp [intOf]; omega
      · obtain rfl : k = l.length := by omega
        rw [HNA.out] at hnk ⊢
        rcases hspc with ⟨rfl, hsp⟩ | ⟨rfl, hsp⟩
        all_goals
          go_wp2_with fail
          go_ret
          exact ⟨ret_int (by have := HM.out; omega), HB.out⟩
end Go.Proofs.Ytoodjdaadkbdfaa
