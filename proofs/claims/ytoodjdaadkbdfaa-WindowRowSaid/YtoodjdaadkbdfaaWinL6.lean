/- Windows: the law WindowRow: the walk. -/
import Derived.Test.YtoodjdaadkbdfaaWinL5
namespace Go.Proofs.Ytoodjdaadkbdfaa
set_option linter.unusedVariables false
set_option linter.unusedSimpArgs false
set_option maxRecDepth 100000
open Go.RowKit
theorem windowrow_n1 (f : Nat) (n ev : Int) (w : World) (h : n < 1) : Calls Try.prog 5 #[.int .u64 (f : Nat), .int .i64 n, .int .i64 ev] w fun e w' => e = .returned (.bool true) ∧ Below w.heap.size w w' := by
  go_enter Try.func5, Try.ntmps5
  go_wp2_with (first | (go_at_call 6; ((with_reducible refine (awake7_any _).mono ?_); rintro e w2 ⟨rfl, hb⟩; have HB := Lib.hid hb; clear hb)) | fail)
  go_ret
  exact ⟨rfl, HB.out⟩
theorem windowrow_n2 (f : Nat) (n ev : Int) (w : World) (h1 : ¬ n < 1) (h : 5000 < n) : Calls Try.prog 5 #[.int .u64 (f : Nat), .int .i64 n, .int .i64 ev] w fun e w' => e = .returned (.bool true) ∧ Below w.heap.size w w' := by
  go_enter Try.func5, Try.ntmps5
  go_wp2_with (first | (go_at_call 6; ((with_reducible refine (awake7_any _).mono ?_); rintro e w2 ⟨rfl, hb⟩; have HB := Lib.hid hb; clear hb)) | fail)
  go_ret
  exact ⟨rfl, HB.out⟩
theorem windowrow_e1 (f : Nat) (n ev : Int) (w : World) (h1 : ¬ n < 1) (h2 : ¬ 5000 < n) (h : ev < 2) : Calls Try.prog 5 #[.int .u64 (f : Nat), .int .i64 n, .int .i64 ev] w fun e w' => e = .returned (.bool true) ∧ Below w.heap.size w w' := by
  go_enter Try.func5, Try.ntmps5
  go_wp2_with (first | (go_at_call 6; ((with_reducible refine (awake7_any _).mono ?_); rintro e w2 ⟨rfl, hb⟩; have HB := Lib.hid hb; clear hb)) | fail)
  go_ret
  exact ⟨rfl, HB.out⟩
theorem windowrow_e2 (f : Nat) (n ev : Int) (w : World) (h1 : ¬ n < 1) (h2 : ¬ 5000 < n) (h3 : ¬ ev < 2) (h : 5000 < ev) : Calls Try.prog 5 #[.int .u64 (f : Nat), .int .i64 n, .int .i64 ev] w fun e w' => e = .returned (.bool true) ∧ Below w.heap.size w w' := by
  go_enter Try.func5, Try.ntmps5
  go_wp2_with (first | (go_at_call 6; ((with_reducible refine (awake7_any _).mono ?_); rintro e w2 ⟨rfl, hb⟩; have HB := Lib.hid hb; clear hb)) | fail)
  go_ret
  exact ⟨rfl, HB.out⟩
theorem windowrow_f (f : Nat) (n ev : Int) (w : World) (h1 : ¬ n < 1) (h2 : ¬ 5000 < n) (h3 : ¬ ev < 2) (h4 : ¬ 5000 < ev) (h : (18446744073709533423 : Int) < f) : Calls Try.prog 5 #[.int .u64 (f : Nat), .int .i64 n, .int .i64 ev] w fun e w' => e = .returned (.bool true) ∧ Below w.heap.size w w' := by
  go_enter Try.func5, Try.ntmps5
  go_wp2_with (first | (go_at_call 6; ((with_reducible refine (awake7_any _).mono ?_); rintro e w2 ⟨rfl, hb⟩; have HB := Lib.hid hb; clear hb)) | fail)
  go_ret
  exact ⟨rfl, HB.out⟩
set_option maxHeartbeats 2000000 in
theorem windowrow_go (f n ev : Nat) (w : World) (hn : 1 ≤ n) (hn2 : n ≤ 5000) (he : 2 ≤ ev) (he2 : ev ≤ 5000) (hf : f ≤ 18446744073709533423) :
    Calls Try.prog 5 #[.int .u64 (f : Nat), .int .i64 (n : Nat), .int .i64 (ev : Nat)] w fun e w' => e = .returned (.bool true) ∧ Below w.heap.size w w' := by
  have h1 : ¬ (n : Int) < 1 := by omega
  have h2 : ¬ (5000 : Int) < n := by omega
  have h3 : ¬ (ev : Int) < 2 := by omega
  have h4 : ¬ (5000 : Int) < ev := by omega
  have h5 : ¬ (18446744073709533423 : Int) < f := by omega
  have HF := Lib.hid hf
  have HN := Lib.hid hn
  have HE := Lib.hid he
  have hn2i : (n : Int) ≤ 5000 := by omega
  have he2i : (ev : Int) ≤ 5000 := by omega
  clear hf hn he hn2 he2
  go_enter Try.func5, Try.ntmps5
  go_wp2_with (first | (go_at_call 6; ((with_reducible refine (awake7_any _).mono ?_); rintro e w2 ⟨rfl, hb⟩; have HB := Lib.hid hb; clear hb)) | fail)
  clear h5 h4 h3 h2 h1
  go_wp2_with (first | (go_at_call 7; ((with_reducible refine (new_any _).mono ?_); rintro e w3 ⟨rfl, ha, hb⟩; have HA := Lib.hid ha; have HBS : Hid (w.heap.size ≤ w2.heap.size) := Lib.hid HB.out.size; have HB := Lib.hid (Below.next HB.out hb); clear ha hb)) | fail)
  generalize w2.heap.size = B at *
  go_loopw [8, 9] (fun la i wr => ∃ k : Nat, i = .int .i64 k ∧ la = .int .u64 (topL (rowL f ev k) : Nat) ∧ k ≤ n ∧ WinAt wr B (rowL f ev k) ∧ Good (rowL f ev k) ∧ Below w.heap.size w wr) (fun la i _ => n - (intOf i).toNat)
  case atStart => exact ⟨0, rfl, rfl, Nat.zero_le _, HA.out, good_nil, HB.out⟩
  case round =>
    obtain ⟨k, rfl, rfl, hk, ha, hg, hb⟩ := hrel
    have HA := Lib.hid ha
    have HG := Lib.hid hg
    have HB := Lib.hid hb
    clear ha hg hb
    by_cases hlt : k < n
    · have hk1 : (k : Int) < n := by omega
      have hk0 : (0 : Int) ≤ k := by omega
      have HLT := Lib.hid hlt
      have hmod : (k : Int) % ev = ((k % ev : Nat) : Int) := by simp
      have htm : (k : Int).tmod ev = ((k % ev : Nat) : Int) := by rw [Int.tmod_eq_emod_of_nonneg (by omega)]; exact hmod
      have hev0 : (ev : Int) ≠ 0 := by have := HE.out; omega
      by_cases hr : k % ev = 1
      · have HS := Lib.hid (rowL_skip f ev k hr)
        have hr1 : (((k % ev : Nat) : Int) == 1) = true := by rw [hr]; rfl
        clear hlt hr
        generalize k % ev = r at *
        go_wp2_with fail
        go_roundw
        case rel => exact ⟨k + 1, by go_num, by rw [HS.out], HLT.out, by rw [HS.out]; exact HA.out, by rw [HS.out]; exact HG.out, HB.out⟩
        case measure => simp [intOf]; omega
      · obtain ⟨hn1, hn2⟩ := rowL_next f ev k hr
        have hr1 : (((k % ev : Nat) : Int) == 1) = false := beqf (by omega)
        have hfk : f + k < most := by have := HF.out; unfold most; omega
        have hwl := rowL_would f ev k hfk
        have hgs := good_snoc HG.out hwl
        have HNX := Lib.hid hn1
        have HNT := Lib.hid hn2
        have HGS := Lib.hid hgs
        obtain ⟨c, hc⟩ : ∃ c, c = f + k := ⟨_, rfl⟩
        have hck : IntKind.u64.wrap ((f : Int) + k) = (c : Int) := by have := HF.out; rw [wrap_u64 _ (by omega) (by omega)]; omega
        have htk := fun w3 h => take_any B c (rowL f ev k) w3 h HG.out (by have := HF.out; omega)
        unfold TakeRet takeL at htk
        rw [hc, hwl, if_pos rfl, ← hc] at htk
        have HTK := Lib.hid htk
        have HC := Lib.hid hc
        clear hlt hr hfk hwl hgs hn1 hn2 htk hc
        generalize k % ev = r at *
        go_wp2_with (first | (go_at_call 11; ((with_reducible refine (HTK.out _ HA.out).mono ?_); rintro e w4 ⟨rfl, ha, hg⟩; have HA := Lib.hid ha; have HB := Lib.hid (Below.win HB.out hg HBS.out); clear ha hg)) | fail)
        go_roundw
        case rel => exact ⟨k + 1, by go_num, by rw [HNT.out, HC.out], HLT.out, by rw [HNX.out, ← HC.out]; exact HA.out, by rw [HNX.out]; exact HGS.out, HB.out⟩
        case measure => simp [intOf]; omega
    · obtain rfl : k = n := by omega
      have hne := rowL_ne f ev k HN.out HE.out
      have htl : topL (rowL f ev k) < f + k := ((mem_rowL f ev k _).1 (topL_mem hne)).2.1
      obtain ⟨L, hL⟩ : ∃ L, L = rowL f ev k := ⟨_, rfl⟩
      have HM : Hid (∀ x, x < f + k → (x ∈ L ↔ f ≤ x ∧ (x - f) % ev ≠ 1)) := Lib.hid (fun x hx => by
        rw [hL, mem_rowL]
        constructor
        · rintro ⟨h1, h2, h3⟩; exact ⟨h1, h3⟩
        · rintro ⟨h1, h3⟩; exact ⟨h1, hx, h3⟩)
      rw [← hL] at HA HG hne htl ⊢
      have HTL := Lib.hid htl
      have HTM := Lib.hid (good_top HG.out)
      have HTP := Lib.hid (fun w3 h => top_any B L w3 h HG.out)
      have HMS := Lib.hid (fun w3 h => missing_any B L w3 h HG.out)
      have HMK := Lib.hid (missK_all HG.out hne)
      have HNX := Lib.hid (missK_next L)
      have HLE := Lib.hid (missK_le L)
      have hsp : spanL L = 1 + min (topL L) 2047 := (near_span HG.out hne).2.2
      have HSP := Lib.hid hsp
      unfold TopRet at HTP
      rw [decide_eq_true hne] at HTP
      have ht64 : (topL L : Int) ≤ 18446744073709551615 := by have := HTM.out; unfold most at this; omega
      clear hne htl hL hsp hlt
      obtain ⟨t, ht⟩ : ∃ t, t = topL L := ⟨_, rfl⟩
      rw [← ht] at HTL HTM HTP HNX HSP ht64 ⊢
      clear ht
      go_wp2_with fail
      go_loopw [10, 11] (fun m i wx => ∃ j : Nat, i = .int .i64 j ∧ m = .int .i64 (missK L j : Nat) ∧ j ≤ spanL L ∧ wx = wr) (fun m i _ => 2048 - (intOf i).toNat)
      case atStart => exact ⟨0, rfl, rfl, Nat.zero_le _, rfl⟩
      case round =>
        obtain ⟨j, rfl, rfl, hj, rfl⟩ := hrel
        have hjs : j ≤ 2048 := by have := HSP.out; omega
        have hml := HLE.out j
        have hmi : ((missK L j : Nat) : Int) ≤ 2048 := by omega
        have hj0 : (0 : Int) ≤ j := by omega
        by_cases hlt : j < spanL L
        · have hj1 : (j : Int) < 2048 := by have := HSP.out; omega
          have hj2 : (j : Int) ≤ t := by have := HSP.out; omega
          have hnx := HNX.out j
          obtain ⟨c, hc⟩ : ∃ c, c = t - j := ⟨_, rfl⟩
          have hsub : IntKind.u64.wrap ((t : Int) - j) = (c : Int) := by have := HTM.out; unfold most at this; rw [wrap_u64 _ (by omega) (by omega)]; omega
          have hm := HM.out c (by have := HTL.out; omega)
          rw [← hc] at hnx
          have HLT := Lib.hid hlt
          by_cases hcf : c < f
          · have hcfi : (c : Int) < f := by omega
            rw [if_neg (fun h => by have := hm.1 h; omega)] at hnx
            have HNK := Lib.hid hnx
            clear hnx hm hc hcf hlt hj hjs hml
            go_wp2_with fail
            go_roundw
            case rel => exact ⟨j + 1, by go_num, by rw [HNK.out]; rfl, HLT.out, trivial⟩
            case measure => simp [intOf]; omega
          · have hcfi : ¬ (c : Int) < f := by omega
            have hsub2 : IntKind.u64.wrap ((c : Int) - f) = ((c - f : Nat) : Int) := by have := HTM.out; unfold most at this; rw [wrap_u64 _ (by omega) (by omega)]; omega
            have hev0 : (ev : Int) ≠ 0 := by have := HE.out; omega
            have hmod : ((c - f : Nat) : Int) % ev = (((c - f) % ev : Nat) : Int) := by simp
            have htm : ((c - f : Nat) : Int).tmod ev = (((c - f) % ev : Nat) : Int) := by rw [Int.tmod_eq_emod_of_nonneg (by omega)]; exact hmod
            by_cases hr : (c - f) % ev = 1
            · have hr1 : ((((c - f) % ev : Nat) : Int) == 1) = true := by rw [hr]; rfl
              rw [if_neg (fun h => (hm.1 h).2 hr)] at hnx
              have HNK := Lib.hid hnx
              clear hnx hm hc hcf hlt hj hjs hml hr
              generalize (c - f) % ev = r at *
              generalize c - f = d at *
              go_wp2_with fail
              go_roundw
              case rel => exact ⟨j + 1, by go_num, by rw [HNK.out]; rfl, HLT.out, trivial⟩
              case measure => simp [intOf]; omega
            · have hr1 : ((((c - f) % ev : Nat) : Int) == 1) = false := beqf (by omega)
              rw [if_pos (hm.2 ⟨by omega, hr⟩)] at hnx
              have HNK := Lib.hid hnx
              clear hnx hm hc hcf hlt hj hjs hml hr
              generalize (c - f) % ev = r at *
              generalize c - f = d at *
              go_wp2_with fail
              go_roundw
              case rel => exact ⟨j + 1, by go_num, by rw [HNK.out]; rfl, HLT.out, trivial⟩
              case measure => simp [intOf]; omega
        · obtain rfl : j = spanL L := by omega
          have hcase : ((spanL L : Int) < 2048 ∧ ¬ (spanL L : Int) ≤ t) ∨ ¬ (spanL L : Int) < 2048 := by have := HSP.out; omega
          rw [HMK.out] at hmi ⊢
          clear hlt hj hjs hml
          generalize spanL L = sp at *
          generalize missL L = mm at *
          rcases hcase with ⟨hc1, hc2⟩ | hc1
          all_goals
            go_wp2_with (first | (go_at_call 13; ((with_reducible refine (HTP.out _ HA.out).mono ?_); rintro e w4 ⟨rfl, hq⟩; have HA2 : Hid (WinAt w4 B L) := Lib.hid (by obtain ⟨q, rfl⟩ := hq; exact HA.out.below (below_self _ q)); have HA := HA2; clear HA2; have HB2 : Hid (Below w.heap.size w w4) := Lib.hid (by obtain ⟨q, rfl⟩ := hq; exact below_drewN HB.out q); have HB := HB2; clear HB2; clear hq)) | (go_at_call 15; ((with_reducible refine (HMS.out _ HA.out).mono ?_); rintro e w4 ⟨rfl, hq⟩; have HB2 : Hid (Below w.heap.size w w4) := Lib.hid (by obtain ⟨q, rfl⟩ := hq; exact below_drewN HB.out q); have HB := HB2; clear HB2; clear hq)) | fail)
            go_ret
            exact ⟨rfl, HB.out⟩
theorem windowrow_walk (f : Nat) (n ev : Int) (w : World) : Calls Try.prog 5 #[.int .u64 (f : Nat), .int .i64 n, .int .i64 ev] w fun e w' => e = .returned (.bool true) ∧ Below w.heap.size w w' := by
  by_cases h1 : n < 1
  · exact windowrow_n1 f n ev w h1
  by_cases h2 : 5000 < n
  · exact windowrow_n2 f n ev w h1 h2
  by_cases h3 : ev < 2
  · exact windowrow_e1 f n ev w h1 h2 h3
  by_cases h4 : 5000 < ev
  · exact windowrow_e2 f n ev w h1 h2 h3 h4
  by_cases h5 : (18446744073709533423 : Int) < f
  · exact windowrow_f f n ev w h1 h2 h3 h4 h5
  obtain ⟨m, rfl⟩ : ∃ m : Nat, n = m := ⟨n.toNat, by omega⟩
  obtain ⟨q, rfl⟩ : ∃ q : Nat, ev = q := ⟨ev.toNat, by omega⟩
  exact windowrow_go f m q w (by omega) (by omega) (by omega) (by omega) (by omega)
end Go.Proofs.Ytoodjdaadkbdfaa
