/- Windows: Take by contract. -/
import Derived.Test.YtoodjdaadkbdfaaWin4
namespace Go.Proofs.Ytoodjdaadkbdfaa
set_option linter.unusedVariables false
set_option linter.unusedSimpArgs false
set_option maxRecDepth 100000
open Go.RowKit
def takeL (L : List Nat) (c : Nat) : List Nat := if wouldL L c = 0 then L ++ [c] else L
def TakeRet (w : World) (B : Nat) (k : Nat) (L : List Nat) (e : Ending) (w' : World) : Prop := e = .returned (.int .i64 (k : Nat)) ∧ WinAt w' B L ∧ w.grownBy w' (some B)
set_option maxHeartbeats 1000000 in
theorem take_any (B c : Nat) (L : List Nat) (w : World) (hw : WinAt w B L) (hg : Good L) (hc : c < 2 ^ 64) :
    Calls Try.prog 11 #[.pointer (some ⟨B, 0, none⟩), .int .u64 c] w (TakeRet w B (wouldL L c) (takeL L c)) := by
  have HWO := Lib.hid (would_any B c L w hw hg hc)
  unfold takeL
  by_cases h0 : wouldL L c = 0
  · rw [if_pos h0]
    rw [h0] at HWO ⊢
    obtain ⟨W, hok, hh⟩ := hw
    have hcm : c < most ∧ ¬ (c ∈ L ∨ c + 2048 ≤ topL L) := by
      unfold wouldL at h0
      split at h0
      · simp at h0
      · split at h0
        · simp at h0
        · exact ⟨by omega, by assumption⟩
    obtain ⟨hcm, hcn⟩ := hcm
    have hct := le64 c hc
    have HC := Lib.hid hc
    have HW0 := Lib.hid hh
    have HOK := Lib.hid hok
    by_cases h1 : topL L < c
    · have h1i : (topL L : Int) < c := by omega
      have HT3 : Hid (topL (L ++ [c]) = c) := Lib.hid (by rw [topL_snoc]; omega)
      have HTK : Hid (∀ W3, Emptied W (topL L) (min (c - topL L) 2048) W3 → WinOk (L ++ [c]) (setW W3 ((c / 64 % 32)) (W3 ((c / 64 % 32)) ||| pl c 1))) := Lib.hid (fun W3 he => take_ok he.wd (fun p hp => by rw [show max (topL L) c = c by omega]; exact raise_ok hok h1 he p hp) (by omega))
      have HRA : Hid (∀ w, WinHeap w B (topL L) W → Calls Try.prog 19 #[.pointer (some ⟨B, 0, none⟩), .int .u64 c] w (RaiseRet w B (topL L) c (min (c - topL L) 2048) W)) := Lib.hid (fun w h => raise_any B (topL L) c _ W w h hok.wd h1 hcm rfl)
      generalize min (c - topL L) 2048 = N at *
      generalize topL L = t at *
      clear h0 h1 hc hg hh hok hcn hcm
      go_enter Try.func11, Try.ntmps11
      go_wp2_with (first | (go_at_call 10; ((with_reducible refine (HWO.out).mono ?_); rintro e w2 ⟨rfl, hq⟩; have HG2 : Hid (w.grownBy w2 (some B)) := Lib.hid (by obtain ⟨q, rfl⟩ := hq; exact grown_drewN _ _ _); have HH2 : Hid (WinHeap w2 B t W) := Lib.hid (by obtain ⟨q, rfl⟩ := hq; exact HW0.out); have ct := win_top HH2.out; clear hq)) | (go_at_call 19; ((with_reducible refine (HRA.out _ HH2.out).mono ?_); rintro e w3 ⟨⟨v, rfl⟩, W3, he3, hh3, hg3⟩; have HE3 := Lib.hid he3; have HH3 := Lib.hid hh3; have HG3 := Lib.hid (grown_trans HG2.out hg3); clear he3 hh3 hg3)) | fail)
      have hok3 := HTK.out W3 HE3.out
      have HE3 := Lib.hid (HE3.out.wd)
      have hbk : ∀ w, Calls Try.prog 20 #[.int .u64 c] w fun e w' => e = .returned (.int .u64 ((c / 64 % 32 : Nat) : Int)) ∧ w' = w := fun w => (block_any c HC.out w).mono fun e w' h => ⟨h.1, h.2.symm⟩
      have HPL : Hid (∀ w, Calls Try.prog 21 #[.int .u64 c, .int .u64 1] w fun e w' => e = .returned (.int .u64 (pl c 1 : Nat)) ∧ w' = w) := Lib.hid (fun w => (places_any c 1 HC.out (by omega) (by omega) w).mono fun e w' h => ⟨h.1, h.2.symm⟩)
      have c1 := win_cell HH3.out ((c / 64 % 32)) (by omega)
      have fi := free_of HH3.out ((c / 64 % 32))
      have hy := fun v => win_set HH3.out ((c / 64 % 32)) v (by omega)
      have e1 := or_u64 (W3 ((c / 64 % 32))) (pl c 1) (HE3.out _) (pl_lt c 1 (by omega))
      have hi0 : (0 : Int) ≤ ((c / 64 % 32) : Nat) := by omega
      have hi1 : (((c / 64 % 32) : Nat) : Int) < 32 := by omega
      generalize (c / 64 % 32) = i at *
      have HBK := Lib.hid hbk
      have HY := Lib.hid hy
      have HK3 := Lib.hid hok3
      clear hbk hy hok3
      generalize W3 i ||| pl c 1 = y at *
      generalize W3 i = x at *
      refine wp_region_still_tail 13 (by kernel_rfl) (by kernel_rfl) ?_
      simp only [List.take_succ_cons, List.take_zero, List.drop_succ_cons, List.drop_zero]
      repeat still_step
      still_call (HBK.out w3.drew)
      repeat still_step
      still_call (HPL.out w3.drew)
      repeat still_step
      try refine wpStill_nil ?_
      change wpList _ _ _ _ _ w3.drew
      go_wp2_with fail
      go_ret
      exact ⟨rfl, ⟨_, HK3.out, by rw [HT3.out]; exact win_drew (HY.out y) 1⟩, grown_trans HG3.out (grown_trans (grown_set _ _ _ _) (grown_drewN _ 1 _))⟩
    · have h1i : ¬ (topL L : Int) < c := by omega
      have HT3 : Hid (topL (L ++ [c]) = topL L) := Lib.hid (by rw [topL_snoc]; omega)
      have hok3 : WinOk (L ++ [c]) (setW W ((c / 64 % 32)) (W ((c / 64 % 32)) ||| pl c 1)) := take_ok hok.wd (fun p hp => by rw [show max (topL L) c = topL L by omega]; exact hok.bt p hp) (by omega)
      have HE3 := Lib.hid hok.wd
      generalize topL L = t at *
      clear h0 h1 hc hg hh hok hcn hcm
      go_enter Try.func11, Try.ntmps11
      go_wp2_with (first | (go_at_call 10; ((with_reducible refine (HWO.out).mono ?_); rintro e w2 ⟨rfl, hq⟩; have HG2 : Hid (w.grownBy w2 (some B)) := Lib.hid (by obtain ⟨q, rfl⟩ := hq; exact grown_drewN _ _ _); have HH2 : Hid (WinHeap w2 B t W) := Lib.hid (by obtain ⟨q, rfl⟩ := hq; exact HW0.out); have ct := win_top HH2.out; clear hq)) | fail)
      obtain ⟨W3, hW3⟩ : ∃ W3, W3 = W := ⟨W, rfl⟩
      subst hW3
      obtain ⟨w3, hw3⟩ : ∃ w3, w3 = w2 := ⟨w2, rfl⟩
      subst hw3
      have HH3 := HH2
      have HG3 := HG2
      have hbk : ∀ w, Calls Try.prog 20 #[.int .u64 c] w fun e w' => e = .returned (.int .u64 ((c / 64 % 32 : Nat) : Int)) ∧ w' = w := fun w => (block_any c HC.out w).mono fun e w' h => ⟨h.1, h.2.symm⟩
      have HPL : Hid (∀ w, Calls Try.prog 21 #[.int .u64 c, .int .u64 1] w fun e w' => e = .returned (.int .u64 (pl c 1 : Nat)) ∧ w' = w) := Lib.hid (fun w => (places_any c 1 HC.out (by omega) (by omega) w).mono fun e w' h => ⟨h.1, h.2.symm⟩)
      have c1 := win_cell HH3.out ((c / 64 % 32)) (by omega)
      have fi := free_of HH3.out ((c / 64 % 32))
      have hy := fun v => win_set HH3.out ((c / 64 % 32)) v (by omega)
      have e1 := or_u64 (W3 ((c / 64 % 32))) (pl c 1) (HE3.out _) (pl_lt c 1 (by omega))
      have hi0 : (0 : Int) ≤ ((c / 64 % 32) : Nat) := by omega
      have hi1 : (((c / 64 % 32) : Nat) : Int) < 32 := by omega
      generalize (c / 64 % 32) = i at *
      have HBK := Lib.hid hbk
      have HY := Lib.hid hy
      have HK3 := Lib.hid hok3
      clear hbk hy hok3
      generalize W3 i ||| pl c 1 = y at *
      generalize W3 i = x at *
      refine wp_region_still_tail 13 (by kernel_rfl) (by kernel_rfl) ?_
      simp only [List.take_succ_cons, List.take_zero, List.drop_succ_cons, List.drop_zero]
      repeat still_step
      still_call (HBK.out w3.drew)
      repeat still_step
      still_call (HPL.out w3.drew)
      repeat still_step
      try refine wpStill_nil ?_
      change wpList _ _ _ _ _ w3.drew
      go_wp2_with fail
      go_ret
      exact ⟨rfl, ⟨_, HK3.out, by rw [HT3.out]; exact win_drew (HY.out y) 1⟩, grown_trans HG3.out (grown_trans (grown_set _ _ _ _) (grown_drewN _ 1 _))⟩
  · rw [if_neg h0]
    have HW := Lib.hid hw
    generalize wouldL L c = k at *
    have hk : ((k : Int) != 0) = true := by simp; omega
    clear h0 hw hg hc
    go_enter Try.func11, Try.ntmps11
    go_wp2_with (first | (go_at_call 10; ((with_reducible refine (HWO.out).mono ?_); rintro e w2 ⟨rfl, q, rfl⟩)) | fail)
    go_ret
    exact ⟨rfl, HW.out, grown_drewN _ _ _⟩
end Go.Proofs.Ytoodjdaadkbdfaa
