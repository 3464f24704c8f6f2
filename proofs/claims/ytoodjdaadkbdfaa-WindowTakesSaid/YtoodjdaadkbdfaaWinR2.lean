/- Windows: the reference's Top, Has, Would by contract. -/
import Derived.Test.YtoodjdaadkbdfaaWinR1
namespace Go.Proofs.Ytoodjdaadkbdfaa
set_option linter.unusedVariables false
set_option linter.unusedSimpArgs false
set_option maxRecDepth 100000
open Go.RowKit
theorem take_next (l : List Nat) (k : Nat) (h : k < l.length) : l.take (k + 1) = l.take k ++ [l.getD k 0] := by
  rw [List.take_succ_eq_append_getElem h]; simp [List.getD, List.getElem?_eq_getElem h]
theorem getD_mem (l : List Nat) (k : Nat) (h : k < l.length) : l.getD k 0 ∈ l := by
  simp [List.getD, List.getElem?_eq_getElem h]
theorem u64s_cell {w : World} {a : Option Addr} {cap : Nat} {l : List Nat} (h : U64s w (.slice a l.length cap) l) {k : Nat} (hk : k < l.length) : ∃ b off, a = some ⟨b, off, none⟩ ∧ w.cell? ⟨b, off + k, none⟩ = some (.int .u64 (l.getD k 0 : Nat)) := by
  obtain ⟨a', cap', e, _, _, _, h⟩ := h
  injection e with e1 e2 e3
  subst e1
  rcases h with rfl | ⟨b, off, rfl, hc⟩
  · simp at hk
  · exact ⟨b, off, rfl, hc k hk⟩
def NatRet (k : Nat) (w : World) (e : Ending) (w' : World) : Prop := e = .returned (.int .u64 (k : Nat)) ∧ Below w.heap.size w w'
theorem rtop_any (a : Option Addr) (cap : Nat) (l : List Nat) (w : World) (hv : U64s w (.slice a l.length cap) l) (hl : l.length ≤ 100000) :
    Calls Try.prog 14 #[.agg #[.slice a l.length cap]] w (NatRet (topL l) w) := by
  have cv : (w.alloc (.cells #[.slice a l.length cap] 27)).cell? ⟨w.heap.size, 0, none⟩ = some (.slice a l.length cap) := cell_of (heap_alloc_new w _) 0 rfl
  have HB : Hid (Below w.heap.size w (w.alloc (.cells #[.slice a l.length cap] 27))) := Lib.hid (below_one _)
  have HV := Lib.hid (hv.below HB.out)
  have hl0 : (l.length : Int) ≤ 100000 := by omega
  clear hv
  go_enter Try.func14, Try.ntmps14
  go_wp2_with fail
  generalize w.alloc (.cells #[.slice a l.length cap] 27) = w1 at *
  go_loopw [3, 4] (fun t i wr => ∃ k : Nat, i = .int .i64 k ∧ k ≤ l.length ∧ t = .int .u64 (topL (l.take k) : Nat) ∧ wr = w1) (fun t i _ => l.length - (intOf i).toNat)
  case atStart => exact ⟨0, rfl, by omega, rfl, rfl⟩
  case round =>
    obtain ⟨k, rfl, hk, rfl, rfl⟩ := hrel
    by_cases hlt : k < l.length
    · obtain ⟨b, off, rfl, hc⟩ := u64s_cell HV.out hlt
      have HN : Hid (topL (l.take (k + 1)) = max (topL (l.take k)) (l.getD k 0)) := Lib.hid (by rw [take_next l k hlt, topL_snoc])
      have hk1 : (k : Int) < l.length := by omega
      generalize l.getD k 0 = x at *
      generalize topL (l.take k) = t at *
      by_cases hx : t < x
      · have hxi : (t : Int) < x := by omega
        have HE : Hid (max t x = x) := Lib.hid (by omega)
        clear hx
        go_wp2_with fail
        go_roundw
        case rel => exact ⟨k + 1, by go_num, by omega, by rw [HN.out, HE.out], trivial⟩
        case measure => simp [intOf]; omega
      · have hxi : ¬ (t : Int) < x := by omega
        have HE : Hid (max t x = t) := Lib.hid (by omega)
        clear hx
        go_wp2_with fail
        go_roundw
        case rel => exact ⟨k + 1, by go_num, by omega, by rw [HN.out, HE.out], trivial⟩
        case measure => simp [intOf]; omega
    · obtain rfl : k = l.length := by omega
      have HE : Hid (topL (l.take l.length) = topL l) := Lib.hid (by rw [List.take_length])
      generalize topL (l.take l.length) = t at *
      go_wp2_with fail
      go_ret
      exact ⟨by rw [HE.out]; rfl, HB.out⟩
def BoolRet (r : Bool) (w : World) (e : Ending) (w' : World) : Prop := e = .returned (.bool r) ∧ Below w.heap.size w w'
theorem rhas_any (a : Option Addr) (cap : Nat) (l : List Nat) (c : Nat) (w : World) (hv : U64s w (.slice a l.length cap) l) (hl : l.length ≤ 100000) :
    Calls Try.prog 17 #[.agg #[.slice a l.length cap], .int .u64 c] w (BoolRet (decide (c ∈ l)) w) := by
  have cv : (w.alloc (.cells #[.slice a l.length cap] 27)).cell? ⟨w.heap.size, 0, none⟩ = some (.slice a l.length cap) := cell_of (heap_alloc_new w _) 0 rfl
  have HB : Hid (Below w.heap.size w (w.alloc (.cells #[.slice a l.length cap] 27))) := Lib.hid (below_one _)
  have HV := Lib.hid (hv.below HB.out)
  have hl0 : (l.length : Int) ≤ 100000 := by omega
  clear hv
  obtain ⟨r, hr⟩ : ∃ r, r = decide (c ∈ l) := ⟨_, rfl⟩
  rw [← hr]
  have HR := Lib.hid hr
  clear hr
  go_enter Try.func17, Try.ntmps17
  go_wp2_with fail
  generalize w.alloc (.cells #[.slice a l.length cap] 27) = w1 at *
  go_loopw [5] (fun i wr => ∃ k : Nat, i = .int .i64 k ∧ k ≤ l.length ∧ ¬ c ∈ l.take k ∧ wr = w1) (fun i _ => l.length - (intOf i).toNat)
  case atStart => exact ⟨0, rfl, by omega, by simp, rfl⟩
  case round =>
    obtain ⟨k, rfl, hk, hn, rfl⟩ := hrel
    have HN := Lib.hid hn
    clear hn
    by_cases hlt : k < l.length
    · obtain ⟨b, off, rfl, hc⟩ := u64s_cell HV.out hlt
      have HT := Lib.hid (take_next l k hlt)
      have HM := Lib.hid (getD_mem l k hlt)
      have hk1 : (k : Int) < l.length := by omega
      generalize l.getD k 0 = x at *
      by_cases hx : x = c
      · subst hx
        go_wp2_with fail
        go_ret
        exact ⟨ret_bool (by rw [HR.out, decide_eq_true HM.out]), HB.out⟩
      · have hxi : ((x : Int) == c) = false := beqf (by omega)
        have HX := Lib.hid hx
        clear hx
        go_wp2_with fail
        go_roundw
        case rel => exact ⟨k + 1, by go_num, by omega, by rw [HT.out]; intro hm; rcases List.mem_append.1 hm with h | h; exact HN.out h; exact HX.out (List.mem_singleton.1 h).symm, trivial⟩
        case measure => simp [intOf]; omega
    · obtain rfl : k = l.length := by omega
      have HE : Hid (decide (c ∈ l) = false) := Lib.hid (decide_eq_false (by have := HN.out; rwa [List.take_length] at this))
      go_wp2_with fail
      go_ret
      exact ⟨ret_bool (by rw [HR.out, HE.out]), HB.out⟩
def CodeRet (k : Nat) (w : World) (e : Ending) (w' : World) : Prop := e = .returned (.int .i64 (k : Nat)) ∧ Below w.heap.size w w'
set_option maxHeartbeats 1000000 in
theorem rwould_any (a : Option Addr) (cap : Nat) (l : List Nat) (c : Nat) (w : World) (hv : U64s w (.slice a l.length cap) l) (hg : Good l) (hc : c < 2 ^ 64) (hl : l.length ≤ 100000) :
    Calls Try.prog 9 #[.agg #[.slice a l.length cap], .int .u64 c] w (CodeRet (wouldL l c) w) := by
  have cv : (w.alloc (.cells #[.slice a l.length cap] 27)).cell? ⟨w.heap.size, 0, none⟩ = some (.slice a l.length cap) := cell_of (heap_alloc_new w _) 0 rfl
  have HCV := Lib.hid cv
  have HB : Hid (Below w.heap.size w (w.alloc (.cells #[.slice a l.length cap] 27))) := Lib.hid (below_one _)
  have HV := Lib.hid (hv.below HB.out)
  have hl0 : (l.length : Int) ≤ 100000 := by omega
  have HTP : Hid (∀ w, U64s w (.slice a l.length cap) l → Calls Try.prog 14 #[.agg #[.slice a l.length cap]] w (NatRet (topL l) w)) := Lib.hid (fun w h => rtop_any a cap l w h hl)
  have HHS : Hid (∀ w, U64s w (.slice a l.length cap) l → Calls Try.prog 17 #[.agg #[.slice a l.length cap], .int .u64 c] w (BoolRet (decide (c ∈ l)) w)) := Lib.hid (fun w h => rhas_any a cap l c w h hl)
  have htm := good_top hg
  have hcl := le64 c hc
  unfold most at htm
  clear hv
  by_cases h1 : most ≤ c
  · have e : wouldL l c = 10 := by unfold wouldL; rw [if_pos h1]
    rw [e]
    have h1i : (18446744073709543423 : Int) ≤ c := by unfold most at h1; omega
    clear h1 e hc hg hl htm hl0
    go_enter Try.func9, Try.ntmps9
    go_wp2_with fail
    go_ret
    exact ⟨rfl, HB.out⟩
  · have h1i : ¬ (18446744073709543423 : Int) ≤ c := by unfold most at h1; omega
    by_cases h0 : l = []
    · have e : wouldL l c = 0 := by
        subst h0
        unfold wouldL; rw [if_neg h1, if_neg]
        rintro (hm | hm)
        · simp at hm
        · simp only [topL] at hm; omega
      rw [e]
      have hz : ¬ (0 : Int) < l.length := by rw [h0]; simp
      have hz2 : (l.length : Int) = 0 := by rw [h0]; rfl
      clear hz2
      clear h1 h0 e hc hg hl htm
      go_enter Try.func9, Try.ntmps9
      go_wp2_with fail
      clear h1i
      go_wp2_with (first | (go_at_call 14; ((with_reducible refine (HTP.out _ HV.out).mono ?_); rintro e w2 ⟨rfl, hb2⟩; have cv : w2.cell? ⟨w.heap.size, 0, none⟩ = some (.slice a l.length cap) := cell_keep4 HCV.out hb2; have HCV := Lib.hid cv; have HV := Lib.hid (HV.out.below hb2); have HB := Lib.hid (Below.next HB.out hb2); clear hb2)) | fail)
      go_ret
      exact ⟨rfl, HB.out⟩
    · have hz : (0 : Int) < l.length := by have := List.length_pos_iff.2 h0; omega
      by_cases hm : c ∈ l
      · have e : wouldL l c = 9 := by unfold wouldL; rw [if_neg h1, if_pos (.inl hm)]
        rw [e]
        rw [decide_eq_true hm] at HHS
        generalize topL l = t at *
        clear h1 h0 e hc hg hl htm hm
        go_enter Try.func9, Try.ntmps9
        go_wp2_with fail
        clear h1i
        go_wp2_with (first | (go_at_call 14; ((with_reducible refine (HTP.out _ HV.out).mono ?_); rintro e w2 ⟨rfl, hb2⟩; have cv : w2.cell? ⟨w.heap.size, 0, none⟩ = some (.slice a l.length cap) := cell_keep4 HCV.out hb2; have HCV := Lib.hid cv; have HV := Lib.hid (HV.out.below hb2); have HB := Lib.hid (Below.next HB.out hb2); clear hb2)) | (go_at_call 17; ((with_reducible refine (HHS.out _ HV.out).mono ?_); rintro e w2 ⟨rfl, hb2⟩; have cv : w2.cell? ⟨w.heap.size, 0, none⟩ = some (.slice a l.length cap) := cell_keep4 HCV.out hb2; have HCV := Lib.hid cv; have HV := Lib.hid (HV.out.below hb2); have HB := Lib.hid (Below.next HB.out hb2); clear hb2)) | fail)
        go_ret
        exact ⟨rfl, HB.out⟩
      · rw [decide_eq_false hm] at HHS
        by_cases h2 : c < topL l
        · have h2i : (c : Int) < topL l := by omega
          have hsub : IntKind.u64.wrap ((topL l : Int) - c) = ((topL l - c : Nat) : Int) := by
            rw [wrap_u64 _ (by omega) (by omega)]; omega
          by_cases h3 : c + 2048 ≤ topL l
          · have e : wouldL l c = 9 := by unfold wouldL; rw [if_neg h1, if_pos (.inr h3)]
            rw [e]
            have h3i : (2048 : Int) ≤ ((topL l - c : Nat) : Int) := by omega
            generalize topL l - c = s at *
            generalize topL l = t at *
            clear h1 h0 e hc hg hl htm hm h2 h3
            go_enter Try.func9, Try.ntmps9
            go_wp2_with fail
            clear h1i
            go_wp2_with (first | (go_at_call 14; ((with_reducible refine (HTP.out _ HV.out).mono ?_); rintro e w2 ⟨rfl, hb2⟩; have cv : w2.cell? ⟨w.heap.size, 0, none⟩ = some (.slice a l.length cap) := cell_keep4 HCV.out hb2; have HCV := Lib.hid cv; have HV := Lib.hid (HV.out.below hb2); have HB := Lib.hid (Below.next HB.out hb2); clear hb2)) | (go_at_call 17; ((with_reducible refine (HHS.out _ HV.out).mono ?_); rintro e w2 ⟨rfl, hb2⟩; have cv : w2.cell? ⟨w.heap.size, 0, none⟩ = some (.slice a l.length cap) := cell_keep4 HCV.out hb2; have HCV := Lib.hid cv; have HV := Lib.hid (HV.out.below hb2); have HB := Lib.hid (Below.next HB.out hb2); clear hb2)) | fail)
            go_ret
            exact ⟨rfl, HB.out⟩
          · have e : wouldL l c = 0 := by
              unfold wouldL; rw [if_neg h1, if_neg]
              rintro (h | h)
              · exact hm h
              · exact h3 h
            rw [e]
            have h3i : ¬ (2048 : Int) ≤ ((topL l - c : Nat) : Int) := by omega
            generalize topL l - c = s at *
            generalize topL l = t at *
            clear h1 h0 e hc hg hl htm hm h2 h3
            go_enter Try.func9, Try.ntmps9
            go_wp2_with fail
            clear h1i
            go_wp2_with (first | (go_at_call 14; ((with_reducible refine (HTP.out _ HV.out).mono ?_); rintro e w2 ⟨rfl, hb2⟩; have cv : w2.cell? ⟨w.heap.size, 0, none⟩ = some (.slice a l.length cap) := cell_keep4 HCV.out hb2; have HCV := Lib.hid cv; have HV := Lib.hid (HV.out.below hb2); have HB := Lib.hid (Below.next HB.out hb2); clear hb2)) | (go_at_call 17; ((with_reducible refine (HHS.out _ HV.out).mono ?_); rintro e w2 ⟨rfl, hb2⟩; have cv : w2.cell? ⟨w.heap.size, 0, none⟩ = some (.slice a l.length cap) := cell_keep4 HCV.out hb2; have HCV := Lib.hid cv; have HV := Lib.hid (HV.out.below hb2); have HB := Lib.hid (Below.next HB.out hb2); clear hb2)) | fail)
            go_ret
            exact ⟨rfl, HB.out⟩
        · have e : wouldL l c = 0 := by
            unfold wouldL; rw [if_neg h1, if_neg]
            rintro (h | h)
            · exact hm h
            · omega
          rw [e]
          have h2i : ¬ (c : Int) < topL l := by omega
          generalize topL l = t at *
          clear h1 h0 e hc hg hl htm hm h2
          go_enter Try.func9, Try.ntmps9
          go_wp2_with fail
          clear h1i
          go_wp2_with (first | (go_at_call 14; ((with_reducible refine (HTP.out _ HV.out).mono ?_); rintro e w2 ⟨rfl, hb2⟩; have cv : w2.cell? ⟨w.heap.size, 0, none⟩ = some (.slice a l.length cap) := cell_keep4 HCV.out hb2; have HCV := Lib.hid cv; have HV := Lib.hid (HV.out.below hb2); have HB := Lib.hid (Below.next HB.out hb2); clear hb2)) | (go_at_call 17; ((with_reducible refine (HHS.out _ HV.out).mono ?_); rintro e w2 ⟨rfl, hb2⟩; have cv : w2.cell? ⟨w.heap.size, 0, none⟩ = some (.slice a l.length cap) := cell_keep4 HCV.out hb2; have HCV := Lib.hid cv; have HV := Lib.hid (HV.out.below hb2); have HB := Lib.hid (Below.next HB.out hb2); clear hb2)) | fail)
          go_ret
          exact ⟨rfl, HB.out⟩
end Go.Proofs.Ytoodjdaadkbdfaa
