/- Windows: Top, Missing by contract. -/
import Derived.Test.YtoodjdaadkbdfaaWin5
namespace Go.Proofs.Ytoodjdaadkbdfaa
set_option linter.unusedVariables false
set_option linter.unusedSimpArgs false
set_option maxRecDepth 100000
open Go.RowKit
def TopRet (w : World) (t : Nat) (b : Bool) (e : Ending) (w' : World) : Prop := e = .returned (.tuple #[.int .u64 (t : Nat), .bool b]) ∧ ∃ q, w' = w.drewN q
theorem top_any (B : Nat) (L : List Nat) (w : World) (hw : WinAt w B L) (hg : Good L) :
    Calls Try.prog 13 #[.pointer (some ⟨B, 0, none⟩)] w (TopRet w (topL L) (decide (L ≠ []))) := by
  obtain ⟨W, hok, hh⟩ := hw
  have ct := win_top hh
  have htm := good_top hg
  have HHS : Hid (Calls Try.prog 18 #[.pointer (some ⟨B, 0, none⟩), .int .u64 (topL L : Nat)] w fun e w' => e = .returned (.bool (decide (L ≠ []))) ∧ w' = w.drew) := Lib.hid (by
    have h := has_any B (topL L) (topL L) W w hh hok.wd (by unfold most at htm; omega)
    have hb : bitW W (topL L % 2048) = decide (L ≠ []) := by
      have h1 := has_iff hok (c := topL L) (Nat.le_refl _) (by omega)
      by_cases hL : L = []
      · subst hL
        rw [decide_eq_false (by simp)]
        cases hx : bitW W (topL [] % 2048) with
        | true => exact absurd (h1.1 hx) (by simp)
        | false => rfl
      · rw [decide_eq_true hL]
        exact h1.2 (topL_mem hL)
    rw [hb] at h
    exact h)
  have HT : Hid (L = [] → topL L = 0) := Lib.hid (fun h => by subst h; rfl)
  by_cases hL : L = []
  · rw [decide_eq_false (by simpa using hL)] at HHS ⊢
    have h0 := HT.out hL
    rw [h0] at HHS ct ⊢
    rw [show ((0 : Nat) : Int) = 0 from rfl] at HHS ct
    unfold TopRet
    rw [show ((0 : Nat) : Int) = 0 from rfl]
    clear hL hok hh hg htm HT h0
    go_enter Try.func13, Try.ntmps13
    go_wp2_with (first | (go_at_call 18; ((with_reducible refine (HHS.out).mono ?_); rintro e w2 ⟨rfl, rfl⟩)) | fail)
    go_ret2
    exact ⟨rfl, 1, rfl⟩
  · rw [decide_eq_true hL] at HHS ⊢
    generalize topL L = t at *
    have ct2 : w.drew.cell? ⟨B, 32, none⟩ = some (.int .u64 (t : Nat)) := ct
    clear hL hok hh hg htm HT
    go_enter Try.func13, Try.ntmps13
    go_wp2_with (first | (go_at_call 18; ((with_reducible refine (HHS.out).mono ?_); rintro e w2 ⟨rfl, rfl⟩)) | fail)
    go_ret2
    exact ⟨rfl, 1, rfl⟩
theorem sum_le (W : Nat → Nat) (k : Nat) (h : ∀ i, pc (W i) 64 ≤ 64) : sumW W k ≤ 64 * k := by
  induction k with
  | zero => simp [sumW]
  | succ k ih => have := h k; simp only [sumW]; omega
theorem missing_any (B : Nat) (L : List Nat) (w : World) (hw : WinAt w B L) (hg : Good L) :
    Calls Try.prog 15 #[.pointer (some ⟨B, 0, none⟩)] w (Told (missL L) w) := by
  have htp := top_any B L w hw hg
  obtain ⟨W, hok, hh⟩ := hw
  have htm := good_top hg
  unfold TopRet at htp
  by_cases hL : L = []
  · have hm : missL L = 0 := by unfold missL; rw [if_pos hL]
    rw [hm]
    rw [decide_eq_false (by simpa using hL)] at htp
    generalize topL L = t at *
    have HTP := Lib.hid htp
    have HW0 := Lib.hid hh
    clear hL hok hh hg htm htp hm
    go_enter Try.func15, Try.ntmps15
    go_wp2_with (first | (go_at_call 13; ((with_reducible refine (HTP.out).mono ?_); rintro e w2 ⟨rfl, hq⟩; have HQ := Lib.hid hq; have HH2 : Hid (WinHeap w2 B t W) := Lib.hid (by obtain ⟨q, rfl⟩ := hq; exact HW0.out); clear hq)) | fail)
    go_ret
    obtain ⟨q, rfl⟩ := HQ.out
    exact ⟨rfl, q, rfl⟩
  · have hpc : ∀ i, pc (W i) 64 ≤ 64 := fun i => by
      unfold pc
      exact Nat.le_trans List.countP_le_length (by simp)
    have hsum : sumW W 32 = nearN L := by rw [sumW_bits, ← near_bits hok hg]
    obtain ⟨hs1, hs2, hs3⟩ := near_span hg hL
    have hm : missL L = spanL L - sumW W 32 := by unfold missL; rw [if_neg hL, hsum]
    rw [hm]
    rw [← hsum] at hs1
    rw [decide_eq_true hL] at htp
    have HS1 := Lib.hid hs1
    have HS3 := Lib.hid hs3
    have hcase : (topL L ≤ 2047 ∧ ¬ (2047 : Int) < topL L) ∨ ((2047 : Int) < topL L) := by omega
    have ht64 : (topL L : Int) ≤ 18446744073709551615 := by unfold most at htm; omega
    generalize spanL L = sp at *
    generalize topL L = t at *
    have HTP := Lib.hid htp
    have HW0 := Lib.hid hh
    have HPC := Lib.hid hpc
    have HON : Hid (∀ i w, Calls Try.prog 22 #[.int .u64 (W i : Nat)] w fun e w' => e = .returned (.int .i64 (pc (W i) 64 : Nat)) ∧ w = w') := Lib.hid (fun i w => ones_any (W i) (hok.wd i) w)
    clear hL hok hh hg htm htp hm hpc hs1 hsum
    rcases hcase with ⟨htl, hm⟩ | hm
    · have htl2 : (t : Int) ≤ 2047 := by omega
      go_enter Try.func15, Try.ntmps15
      go_wp2_with (first | (go_at_call 13; ((with_reducible refine (HTP.out).mono ?_); rintro e w2 ⟨rfl, hq⟩; have HQ := Lib.hid hq; have HH2 : Hid (WinHeap w2 B t W) := Lib.hid (by obtain ⟨q, rfl⟩ := hq; exact HW0.out); clear hq)) | fail)
      go_loopw [5, 18] (fun n i wr => ∃ (k : Nat) (z : Int), i = .int .i64 k ∧ k ≤ 32 ∧ n = .int .i64 z ∧ z = (sp : Int) - sumW W k ∧ wr = w2) (fun n i _ => 32 - (intOf i).toNat)
      case atStart => exact ⟨0, _, rfl, by omega, rfl, by simp only [sumW]; have := HS3.out; omega, rfl⟩
      case round =>
        obtain ⟨k, z, rfl, hk, rfl, hz, rfl⟩ := hrel
        have HZ := Lib.hid hz
        have hsk := sum_le W k HPC.out
        have hz1 : -2048 ≤ z := by omega
        have hz2 : z ≤ 2048 := by omega
        clear hz
        by_cases hlt : k < 32
        · have c1 := win_cell HH2.out k hlt
          have hp1 : ((pc (W k) 64 : Nat) : Int) ≤ 64 := by have := HPC.out k; omega
          have hp0 : (0 : Int) ≤ ((pc (W k) 64 : Nat) : Int) := by omega
          have HN : Hid (z - ((pc (W k) 64 : Nat) : Int) = (sp : Int) - sumW W (k + 1)) := Lib.hid (by have := HZ.out; simp only [sumW]; omega)
          have hk0 : (k : Int) < 32 := by omega
          clear hsk
          go_wp2_with (first | (go_at_call 22; ((with_reducible refine (HON.out k _).mono ?_); rintro e w3 ⟨rfl, rfl⟩)) | fail)
          go_roundw
          case rel => exact ⟨k + 1, _, by go_num, by omega, rfl, HN.out, trivial⟩
          case measure => simp [intOf]; omega
        · obtain rfl : k = 32 := by omega
          go_wp2_with fail
          go_ret
          obtain ⟨q, rfl⟩ := HQ.out
          exact ⟨ret_int (by have := HZ.out; have := HS1.out; omega), q, rfl⟩
    · go_enter Try.func15, Try.ntmps15
      go_wp2_with (first | (go_at_call 13; ((with_reducible refine (HTP.out).mono ?_); rintro e w2 ⟨rfl, hq⟩; have HQ := Lib.hid hq; have HH2 : Hid (WinHeap w2 B t W) := Lib.hid (by obtain ⟨q, rfl⟩ := hq; exact HW0.out); clear hq)) | fail)
      go_loopw [5, 18] (fun n i wr => ∃ (k : Nat) (z : Int), i = .int .i64 k ∧ k ≤ 32 ∧ n = .int .i64 z ∧ z = (sp : Int) - sumW W k ∧ wr = w2) (fun n i _ => 32 - (intOf i).toNat)
      case atStart => exact ⟨0, _, rfl, by omega, rfl, by simp only [sumW]; have := HS3.out; omega, rfl⟩
      case round =>
        obtain ⟨k, z, rfl, hk, rfl, hz, rfl⟩ := hrel
        have HZ := Lib.hid hz
        have hsk := sum_le W k HPC.out
        have hz1 : -2048 ≤ z := by omega
        have hz2 : z ≤ 2048 := by omega
        clear hz
        by_cases hlt : k < 32
        · have c1 := win_cell HH2.out k hlt
          have hp1 : ((pc (W k) 64 : Nat) : Int) ≤ 64 := by have := HPC.out k; omega
          have hp0 : (0 : Int) ≤ ((pc (W k) 64 : Nat) : Int) := by omega
          have HN : Hid (z - ((pc (W k) 64 : Nat) : Int) = (sp : Int) - sumW W (k + 1)) := Lib.hid (by have := HZ.out; simp only [sumW]; omega)
          have hk0 : (k : Int) < 32 := by omega
          clear hsk
          go_wp2_with (first | (go_at_call 22; ((with_reducible refine (HON.out k _).mono ?_); rintro e w3 ⟨rfl, rfl⟩)) | fail)
          go_roundw
          case rel => exact ⟨k + 1, _, by go_num, by omega, rfl, HN.out, trivial⟩
          case measure => simp [intOf]; omega
        · obtain rfl : k = 32 := by omega
          go_wp2_with fail
          go_ret
          obtain ⟨q, rfl⟩ := HQ.out
          exact ⟨ret_int (by have := HZ.out; have := HS1.out; omega), q, rfl⟩
end Go.Proofs.Ytoodjdaadkbdfaa
