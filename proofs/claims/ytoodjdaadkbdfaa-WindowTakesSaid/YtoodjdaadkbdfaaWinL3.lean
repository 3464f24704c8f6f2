/- Windows: the law WindowNever: the walk. -/
import Derived.Test.YtoodjdaadkbdfaaWinL2
import Derived.Test.YtoodjdaadkbdfaaWinL4
namespace Go.Proofs.Ytoodjdaadkbdfaa
set_option linter.unusedVariables false
set_option linter.unusedSimpArgs false
set_option maxRecDepth 100000
open Go.RowKit
def Gone (L : List Nat) (c : Nat) : Prop := c ∈ L ∨ c + 2048 ≤ topL L
theorem gone_take {L : List Nat} {c x : Nat} (h : Gone L c) : Gone (takeL L x) c := by
  unfold takeL
  split
  · rcases h with h | h
    · exact .inl (by simp [h])
    · right; rw [topL_snoc]; omega
  · exact h
theorem gone_not {L : List Nat} {c : Nat} (h : Gone L c) : wouldL L c ≠ 0 := by
  unfold wouldL
  split
  · simp
  · unfold Gone at h; rw [if_pos h]; simp
theorem gone_new {L : List Nat} {c : Nat} (h : wouldL L c = 0) : Gone (takeL L c) c := by
  unfold takeL; rw [if_pos h]; exact .inl (by simp)
theorem gone_nine {L : List Nat} {c : Nat} (h : wouldL L c = 9) : Gone L c := by
  unfold wouldL at h
  split at h
  · simp at h
  · split at h
    · assumption
    · simp at h
theorem good_take {L : List Nat} {c : Nat} (h : Good L) : Good (takeL L c) := by
  unfold takeL
  split
  · exact good_snoc h (by assumption)
  · exact h
theorem would_cases (L : List Nat) (c : Nat) : wouldL L c = 0 ∨ wouldL L c = 9 ∨ wouldL L c = 10 := by
  unfold wouldL; split
  · simp
  · split <;> simp
def NvRel (w : World) (B c n : Nat) (g i : Value) (wr : World) : Prop := ∃ (k : Nat) (gb : Bool) (L : List Nat), i = .int .i64 k ∧ g = .bool gb ∧ k ≤ n ∧ WinAt wr B L ∧ Good L ∧ Below w.heap.size w wr ∧ (gb = true → Gone L c)
set_option maxHeartbeats 4000000 in
theorem windownever_walk (a : Option Addr) (cap : Nat) (l : List Nat) (c : Nat) (w : World) (hv : U64s w (.slice a l.length cap) l) (hw : ∀ x ∈ l, x < 2 ^ 64) (hc : c < 2 ^ 64) :
    Calls Try.prog 4 #[.slice a l.length cap, .int .u64 c] w fun e w' => e = .returned (.bool true) ∧ Below w.heap.size w w' := by
  have HV := Lib.hid hv
  have HC := Lib.hid hc
  have HW := Lib.hid hw
  clear hv hw hc
  by_cases hn : l.length ≤ 200
  · have hn1 : ¬ (200 : Int) < l.length := by omega
    have hn2 : (l.length : Int) ≤ 200 := by omega
    clear hn
    go_enter Try.func4, Try.ntmps4
    go_wp2_with (first | (go_at_call 6; ((with_reducible refine (awake7_any _).mono ?_); rintro e w2 ⟨rfl, hb⟩; have HB := Lib.hid hb; clear hb)) | (go_at_call 7; ((with_reducible refine (new_any _).mono ?_); rintro e w3 ⟨rfl, ha, hb⟩; have HA := Lib.hid ha; have HBS : Hid (w.heap.size ≤ w2.heap.size) := Lib.hid HB.out.size; have HB := Lib.hid (Below.next HB.out hb); clear ha hb)) | fail)
    generalize w2.heap.size = B at *
    go_loopw [6, 7] (fun g i wr => NvRel w B c l.length g i wr) (fun g i _ => l.length - (intOf i).toNat)
    case atStart => exact ⟨0, false, [], rfl, rfl, Nat.zero_le _, HA.out, good_nil, HB.out, fun h => by cases h⟩
    case round =>
      obtain ⟨k, gb, L, rfl, rfl, hk, ha, hg, hb, hgone⟩ := hrel
      have HA := Lib.hid ha
      have HG := Lib.hid hg
      have HB := Lib.hid hb
      have HGN := Lib.hid hgone
      clear ha hg hb hgone
      by_cases hlt : k < l.length
      · obtain ⟨b, off, rfl, hc0⟩ := u64s_cell HV.out hlt
        have hx64 := HW.out _ (getD_mem l k hlt)
        have hk1 : (k : Int) < l.length := by omega
        have HLT := Lib.hid hlt
        generalize l.getD k 0 = x at *
        have HC0 := Lib.hid hc0
        have c1 : wr.cell? ⟨b, off + k, none⟩ = some (.int .u64 (x : Nat)) := cell_keep4 hc0 HB.out
        have HX := Lib.hid hx64
        clear hc0 hx64
        have htk := fun w3 h => take_any B x L w3 h HG.out HX.out
        unfold TakeRet at htk
        have hwd := fun w3 h => would_any B c (takeL L x) w3 h (good_take HG.out) HC.out
        unfold Told at hwd
        have HG2 := Lib.hid (good_take (c := x) HG.out)
        have HGT : Hid (Gone L c → Gone (takeL L x) c) := Lib.hid gone_take
        have HGW : Hid (Gone L c → wouldL L c ≠ 0) := Lib.hid gone_not
        have HGW2 : Hid (Gone (takeL L x) c → wouldL (takeL L x) c ≠ 0) := Lib.hid gone_not
        have HNEW : Hid (x = c → wouldL L x = 0 → Gone (takeL L x) c) := Lib.hid (fun h => by subst h; exact gone_new)
        have HNINE : Hid (wouldL (takeL L x) c = 9 → Gone (takeL L x) c) := Lib.hid gone_nine
        have HSAME : Hid (x = c → wouldL L x = wouldL L c) := Lib.hid (fun h => by rw [h])
        generalize wouldL (takeL L x) c = kc at *
        generalize wouldL L x = kx at *
        have HTK := Lib.hid htk
        have HWD := Lib.hid hwd
        clear htk hwd hlt
        cases gb with
        | true =>
          have hg0 := HGN.out rfl
          have hkc : ((kc : Int) == 0) = false := beqf (by have := HGW2.out (HGT.out hg0); omega)
          have HGG := Lib.hid (HGT.out hg0)
          by_cases hxc : x = c
          · have hx1 : ((x : Int) == c) = true := by simp [hxc]
            have hkx : ((kx : Int) == 0) = false := beqf (by have := HSAME.out hxc; have := HGW.out hg0; omega)
            clear hxc hg0
            go_wp2_with (first | (go_at_call 11; ((with_reducible refine (HTK.out _ HA.out).mono ?_); rintro e w4 ⟨rfl, ha, hg⟩; have HA := Lib.hid ha; have HB := Lib.hid (Below.win HB.out hg HBS.out); have c1 : w4.cell? ⟨b, off + k, none⟩ = some (.int .u64 (x : Nat)) := cell_keep4 HC0.out HB.out; clear ha hg)) | (go_at_call 10; ((with_reducible refine (HWD.out _ HA.out).mono ?_); rintro e w4 ⟨rfl, hq⟩; have HA2 : Hid (WinAt w4 B (takeL L x)) := Lib.hid (by obtain ⟨q, rfl⟩ := hq; exact HA.out.below (below_self _ q)); have HA := HA2; clear HA2; have HB2 : Hid (Below w.heap.size w w4) := Lib.hid (by obtain ⟨q, rfl⟩ := hq; exact below_drewN HB.out q); have HB := HB2; clear HB2; have c1 : w4.cell? ⟨b, off + k, none⟩ = some (.int .u64 (x : Nat)) := cell_keep4 HC0.out HB.out; clear hq)) | fail)
            go_roundw
            case rel => exact ⟨k + 1, true, _, by go_num, rfl, HLT.out, HA.out, HG2.out, HB.out, fun _ => HGG.out⟩
            case measure => simp [intOf]; omega
          · have hx1 : ((x : Int) == c) = false := beqf (by omega)
            clear hxc hg0
            go_wp2_with (first | (go_at_call 11; ((with_reducible refine (HTK.out _ HA.out).mono ?_); rintro e w4 ⟨rfl, ha, hg⟩; have HA := Lib.hid ha; have HB := Lib.hid (Below.win HB.out hg HBS.out); have c1 : w4.cell? ⟨b, off + k, none⟩ = some (.int .u64 (x : Nat)) := cell_keep4 HC0.out HB.out; clear ha hg)) | (go_at_call 10; ((with_reducible refine (HWD.out _ HA.out).mono ?_); rintro e w4 ⟨rfl, hq⟩; have HA2 : Hid (WinAt w4 B (takeL L x)) := Lib.hid (by obtain ⟨q, rfl⟩ := hq; exact HA.out.below (below_self _ q)); have HA := HA2; clear HA2; have HB2 : Hid (Below w.heap.size w w4) := Lib.hid (by obtain ⟨q, rfl⟩ := hq; exact below_drewN HB.out q); have HB := HB2; clear HB2; have c1 : w4.cell? ⟨b, off + k, none⟩ = some (.int .u64 (x : Nat)) := cell_keep4 HC0.out HB.out; clear hq)) | fail)
            go_roundw
            case rel => exact ⟨k + 1, true, _, by go_num, rfl, HLT.out, HA.out, HG2.out, HB.out, fun _ => HGG.out⟩
            case measure => simp [intOf]; omega
        | false =>
          by_cases hxk : x = c ∧ kx = 0
          · obtain ⟨hxc, hk0⟩ := hxk
            have HGG := Lib.hid (HNEW.out hxc hk0)
            have hx1 : ((x : Int) == c) = true := by simp [hxc]
            have hkx : ((kx : Int) == 0) = true := by simp [hk0]
            have hkc : ((kc : Int) == 0) = false := beqf (by have := HGW2.out HGG.out; omega)
            clear hxc hk0
            go_wp2_with (first | (go_at_call 11; ((with_reducible refine (HTK.out _ HA.out).mono ?_); rintro e w4 ⟨rfl, ha, hg⟩; have HA := Lib.hid ha; have HB := Lib.hid (Below.win HB.out hg HBS.out); have c1 : w4.cell? ⟨b, off + k, none⟩ = some (.int .u64 (x : Nat)) := cell_keep4 HC0.out HB.out; clear ha hg)) | (go_at_call 10; ((with_reducible refine (HWD.out _ HA.out).mono ?_); rintro e w4 ⟨rfl, hq⟩; have HA2 : Hid (WinAt w4 B (takeL L x)) := Lib.hid (by obtain ⟨q, rfl⟩ := hq; exact HA.out.below (below_self _ q)); have HA := HA2; clear HA2; have HB2 : Hid (Below w.heap.size w w4) := Lib.hid (by obtain ⟨q, rfl⟩ := hq; exact below_drewN HB.out q); have HB := HB2; clear HB2; have c1 : w4.cell? ⟨b, off + k, none⟩ = some (.int .u64 (x : Nat)) := cell_keep4 HC0.out HB.out; clear hq)) | fail)
            go_roundw
            case rel => exact ⟨k + 1, true, _, by go_num, rfl, HLT.out, HA.out, HG2.out, HB.out, fun _ => HGG.out⟩
            case measure => simp [intOf]; omega
          · have hcase : (((x : Int) == c) = false) ∨ ((((x : Int) == c) = true) ∧ (((kx : Int) == 0) = false)) := by
              by_cases hxc : x = c
              · right
                refine ⟨by simp [hxc], beqf (fun h => hxk ⟨hxc, by omega⟩)⟩
              · exact .inl (beqf (by omega))
            clear hxk
            by_cases hk9 : kc = 9
            · have HGG := Lib.hid (HNINE.out hk9)
              have h9 : ((kc : Int) == 9) = true := by simp [hk9]
              have hkc : ((kc : Int) == 0) = false := beqf (by omega)
              clear hk9
              rcases hcase with hx1 | ⟨hx1, hkx⟩
              all_goals
                go_wp2_with (first | (go_at_call 11; ((with_reducible refine (HTK.out _ HA.out).mono ?_); rintro e w4 ⟨rfl, ha, hg⟩; have HA := Lib.hid ha; have HB := Lib.hid (Below.win HB.out hg HBS.out); have c1 : w4.cell? ⟨b, off + k, none⟩ = some (.int .u64 (x : Nat)) := cell_keep4 HC0.out HB.out; clear ha hg)) | (go_at_call 10; ((with_reducible refine (HWD.out _ HA.out).mono ?_); rintro e w4 ⟨rfl, hq⟩; have HA2 : Hid (WinAt w4 B (takeL L x)) := Lib.hid (by obtain ⟨q, rfl⟩ := hq; exact HA.out.below (below_self _ q)); have HA := HA2; clear HA2; have HB2 : Hid (Below w.heap.size w w4) := Lib.hid (by obtain ⟨q, rfl⟩ := hq; exact below_drewN HB.out q); have HB := HB2; clear HB2; have c1 : w4.cell? ⟨b, off + k, none⟩ = some (.int .u64 (x : Nat)) := cell_keep4 HC0.out HB.out; clear hq)) | fail)
                go_roundw
                case rel => exact ⟨k + 1, true, _, by go_num, rfl, HLT.out, HA.out, HG2.out, HB.out, fun _ => HGG.out⟩
                case measure => simp [intOf]; omega
            · have h9 : ((kc : Int) == 9) = false := beqf (by omega)
              clear hk9
              rcases hcase with hx1 | ⟨hx1, hkx⟩
              all_goals
                go_wp2_with (first | (go_at_call 11; ((with_reducible refine (HTK.out _ HA.out).mono ?_); rintro e w4 ⟨rfl, ha, hg⟩; have HA := Lib.hid ha; have HB := Lib.hid (Below.win HB.out hg HBS.out); have c1 : w4.cell? ⟨b, off + k, none⟩ = some (.int .u64 (x : Nat)) := cell_keep4 HC0.out HB.out; clear ha hg)) | (go_at_call 10; ((with_reducible refine (HWD.out _ HA.out).mono ?_); rintro e w4 ⟨rfl, hq⟩; have HA2 : Hid (WinAt w4 B (takeL L x)) := Lib.hid (by obtain ⟨q, rfl⟩ := hq; exact HA.out.below (below_self _ q)); have HA := HA2; clear HA2; have HB2 : Hid (Below w.heap.size w w4) := Lib.hid (by obtain ⟨q, rfl⟩ := hq; exact below_drewN HB.out q); have HB := HB2; clear HB2; have c1 : w4.cell? ⟨b, off + k, none⟩ = some (.int .u64 (x : Nat)) := cell_keep4 HC0.out HB.out; clear hq)) | fail)
                go_roundw
                case rel => exact ⟨k + 1, false, _, by go_num, rfl, HLT.out, HA.out, HG2.out, HB.out, fun h => by cases h⟩
                case measure => simp [intOf]; omega
      · obtain rfl : k = l.length := by omega
        go_wp2_with (first | (go_at_call 11; ((with_reducible refine (take_nil c _).mono ?_); rintro e w4 ⟨rfl, rfl⟩)) | (go_at_call 10; ((with_reducible refine (would_nil c _).mono ?_); rintro e w4 ⟨rfl, rfl⟩)) | (go_at_call 13; ((with_reducible refine (top_nil _).mono ?_); rintro e w4 ⟨rfl, rfl⟩)) | (go_at_call 15; ((with_reducible refine (missing_nil _).mono ?_); rintro e w4 ⟨rfl, rfl⟩)) | (go_at_call 8; ((with_reducible refine (clone_nil _).mono ?_); rintro e w4 ⟨rfl, rfl⟩)) | fail)
        go_ret
        exact ⟨rfl, HB.out⟩
  · have hn1 : (200 : Int) < l.length := by omega
    clear hn
    go_enter Try.func4, Try.ntmps4
    go_wp2_with (first | (go_at_call 6; ((with_reducible refine (awake7_any _).mono ?_); rintro e w2 ⟨rfl, hb⟩; have HB := Lib.hid hb; clear hb)) | fail)
    go_ret
    exact ⟨rfl, HB.out⟩
end Go.Proofs.Ytoodjdaadkbdfaa
