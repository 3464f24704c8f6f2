import Derived.Test.YtelfcdfbhnkakaaTermLaw2
import Derived.Test.YtelfcdfbhnkakaaTermMath5
import Derived.Deep.LoopGhost
import Derived.RegionTactic
import Derived.ChangeAlike
import Derived.StillTailTactics
import Derived.Deep.QuietTactic
import Derived.BigQuiet
namespace Go.Proofs.Ytelfcdfbhnkakaa
set_option linter.unusedVariables false
set_option linter.unusedSimpArgs false
set_option maxRecDepth 100000
open Go.RowKit

theorem isT_isL (t : List UInt8) : isT t = isL t := by
  unfold isT isL
  rw [node_eq]
theorem ris_b (x : List UInt8) (hx : x.length ≤ maxLen) (w : World) : Calls Try.prog 24 #[.string (strB x)] w fun e w' => e = .returned (.bool (isL x)) ∧ Below w.heap.size w w' := by
  have h := ris_any (strB x) (by rw [strB_size]; exact hx) w
  rw [isT_isL] at h
  exact h
theorem ris_v (x : List UInt8) (hx : x.length ≤ maxLen) (r : Bool) (h : isL x = r) (v : ByteArray) (hv : v = strB x) (w : World) : Calls Try.prog 24 #[.string v] w fun e w' => e = .returned (.bool r) ∧ Below w.heap.size w w' := by
  subst h hv; exact ris_b x hx w
theorem rprint_b (n : Nat) (hn : n ≤ top) (w : World) : Calls Try.prog 33 #[.int .u64 n] w fun e w' => e = .returned (.string (strB (decs n))) ∧ Below w.heap.size w w' := rprint_any n hn w
theorem rhex_b (v : Value) (l : List UInt8) (w : World) (hv : Bytes w v l) (hlen : l.length ≤ 1000000) : Calls Try.prog 34 #[v] w fun e w' => e = .returned (.string (strB (hexOf l))) ∧ Below w.heap.size w w' := rhex_any v l w hv hlen
theorem sort_length (k : Nat) (l : List (List UInt8)) : (sortL k l).length = l.length := by
  unfold sortL
  split
  · rename_i h; rw [h.2.1]; rfl
  · rfl
theorem leaf_text1 (n : Nat) (b : List UInt8) : strB [signOf 1] = strB (wText 1 n b []) := rfl
theorem leaf_textn (k n : Nat) (b : List UInt8) (hk : k = 2 ∨ k = 3) : strB [signOf k] ++ strB (decs n) = strB (wText k n b []) := by
  rw [strB_app]
  unfold wText joined itemsOf
  rcases hk with rfl | rfl <;> simp [numb, Lib.join_one]
theorem leaf_text4 (n : Nat) (b : List UInt8) : strB [signOf 4] ++ strB (hexOf b) = strB (wText 4 n b []) := by
  rw [strB_app]
  unfold wText joined itemsOf
  simp [numb, Lib.join_one]
theorem leaf_len (k n : Nat) (b : List UInt8) (hn : n ≤ top) (hb : b.length ≤ 100000) : (wText k n b []).length ≤ 300000 := by
  have hi : total (itemsOf k n b) ≤ 250000 := by
    unfold itemsOf
    split
    · have := decs_top n hn
      simp [total]; omega
    · split
      · simp [total, hexOf_length]; omega
      · simp [total]
  have hj : (joined k n b []).length ≤ 250000 := by
    unfold joined
    rw [List.append_nil]
    have := join_len (itemsOf k n b)
    omega
  unfold wText
  split <;> simp <;> omega

theorem rmake_zero (k n : Nat) (hk : k = 1) (hn : n ≤ top) (vb vl : Value) (b : List UInt8) (l : List (List UInt8)) (w : World) (hb : Bytes w vb b) (hl : Strs w vl l) (hbl : b.length ≤ 100000) (hll : l.length ≤ 1000) :
    Calls Try.prog 17 #[.int .i64 k, .int .u64 n, vb, vl] w fun e w' => e = .returned (.string (strB (refK k n b l))) ∧ Below w.heap.size w w' := by
  obtain ⟨T, hT⟩ : ∃ T, wText k n b [] = T := ⟨_, rfl⟩
  have hTl := leaf_len k n b hn hbl
  have HTX0 : Hid (strB [signOf k] = strB T) := Lib.hid (by rw [← hT]; rw [hk]; rfl)
  have hR : refK k n b l = if l = [] ∧ isL T = true then T else [] := by unfold refK; rw [if_pos (by omega), hT]
  rw [hT] at hTl
  have HR := Lib.hid hR
  have HN := Lib.hid hn
  have HBY := Lib.hid hb
  have hsl := sign_slice (k := k) (by omega) (by omega)
  have hs1 := strB_size [signOf k]
  simp only [List.length_singleton] at hs1
  obtain ⟨al, cl, rfl, _, hl⟩ := hl
  have hk1 : 1 ≤ k := by omega
  have hk4 : k ≤ 4 := by omega
  have e2 : ((k : Int) == 2) = false := b_ne (by omega)
  have e3 : ((k : Int) == 3) = false := b_ne (by omega)
  have e4 : ((k : Int) == 4) = false := b_ne (by omega)
  have hll2 : (l.length : Int) ≤ 1000 := by omega
  clear hb hl hT hR hn
  clear hk
  by_cases hl0 : l = []
  · subst hl0
    cases hL : isL T with
    | true =>
      have HO : Hid (refK k n b [] = T) := Lib.hid (by rw [HR.out, if_pos ⟨rfl, hL⟩])
      have HIS := Lib.hid (ris_v T (by unfold maxLen; omega) true hL)
      have HTX := HTX0
      clear hL
      go_enter Try.func17, Try.ntmps17
      go_wp2_with (first | (go_at_call 24; ((with_reducible refine (HIS.out _ HTX.out _).mono ?_); rintro e w3 ⟨rfl, hb3⟩)) | fail)
      go_ret
      exact ⟨ret_str (by rw [HO.out]; exact HTX0.out), hb3⟩
    | false =>
      have HO : Hid (refK k n b [] = []) := Lib.hid (by rw [HR.out, if_neg (by rw [hL]; simp)])
      have HIS := Lib.hid (ris_v T (by unfold maxLen; omega) false hL)
      have HTX := HTX0
      clear hL
      go_enter Try.func17, Try.ntmps17
      go_wp2_with (first | (go_at_call 24; ((with_reducible refine (HIS.out _ HTX.out _).mono ?_); rintro e w3 ⟨rfl, hb3⟩)) | fail)
      go_ret
      exact ⟨ret_str (by rw [HO.out]; rfl), hb3⟩
  · have HO : Hid (refK k n b l = []) := Lib.hid (by rw [HR.out, if_neg (fun h => hl0 h.1)])
    have hlp : (0 : Int) < l.length := by
      have := List.length_pos_iff.2 hl0; omega
    have hlpn : 0 < l.length := List.length_pos_iff.2 hl0
    clear hl0
    have HTX := HTX0
    go_enter Try.func17, Try.ntmps17
    go_wp2_with (first | fail)
    go_ret
    exact ⟨ret_str (by rw [HO.out]; rfl), Below.refl _ _⟩
theorem rmake_num (k n : Nat) (hk : k = 2 ∨ k = 3) (hn : n ≤ top) (vb vl : Value) (b : List UInt8) (l : List (List UInt8)) (w : World) (hb : Bytes w vb b) (hl : Strs w vl l) (hbl : b.length ≤ 100000) (hll : l.length ≤ 1000) :
    Calls Try.prog 17 #[.int .i64 k, .int .u64 n, vb, vl] w fun e w' => e = .returned (.string (strB (refK k n b l))) ∧ Below w.heap.size w w' := by
  obtain ⟨T, hT⟩ : ∃ T, wText k n b [] = T := ⟨_, rfl⟩
  have hTl := leaf_len k n b hn hbl
  have HTX0 : Hid (strB [signOf k] ++ strB (decs n) = strB T) := Lib.hid (by rw [← hT]; exact leaf_textn k n b hk)
  have hR : refK k n b l = if l = [] ∧ isL T = true then T else [] := by unfold refK; rw [if_pos (by omega), hT]
  rw [hT] at hTl
  have HR := Lib.hid hR
  have HN := Lib.hid hn
  have HBY := Lib.hid hb
  have hsl := sign_slice (k := k) (by omega) (by omega)
  have hs1 := strB_size [signOf k]
  simp only [List.length_singleton] at hs1
  have hs2 := strB_size (decs n); have hdt := decs_top n hn
  obtain ⟨al, cl, rfl, _, hl⟩ := hl
  have hk1 : 1 ≤ k := by omega
  have hk4 : k ≤ 4 := by omega
  have e23 : (((k : Int) == 2) = true ∧ ((k : Int) == 3) = false) ∨ (((k : Int) == 2) = false ∧ ((k : Int) == 3) = true) := by rcases hk with h | h <;> simp [h]
  have e4 : ((k : Int) == 4) = false := b_ne (by omega)
  have hll2 : (l.length : Int) ≤ 1000 := by omega
  clear hb hl hT hR hn
  clear hk
  by_cases hl0 : l = []
  · subst hl0
    cases hL : isL T with
    | true =>
      have HO : Hid (refK k n b [] = T) := Lib.hid (by rw [HR.out, if_pos ⟨rfl, hL⟩])
      have HIS := Lib.hid (ris_v T (by unfold maxLen; omega) true hL)
      have HTX := HTX0
      rcases e23 with ⟨e2, e3⟩ | ⟨e2, e3⟩
      all_goals
        clear hL
        go_enter Try.func17, Try.ntmps17
        go_wp2_with (first | (go_at_call 33; ((with_reducible refine (rprint_b n HN.out _).mono ?_); rintro e w1 ⟨rfl, hb1⟩)) | (go_at_call 24; ((with_reducible refine (HIS.out _ HTX.out _).mono ?_); rintro e w3 ⟨rfl, hb3⟩)) | fail)
        go_ret
        exact ⟨ret_str (by rw [HO.out]; exact HTX0.out), Below.next hb1 hb3⟩
    | false =>
      have HO : Hid (refK k n b [] = []) := Lib.hid (by rw [HR.out, if_neg (by rw [hL]; simp)])
      have HIS := Lib.hid (ris_v T (by unfold maxLen; omega) false hL)
      have HTX := HTX0
      rcases e23 with ⟨e2, e3⟩ | ⟨e2, e3⟩
      all_goals
        clear hL
        go_enter Try.func17, Try.ntmps17
        go_wp2_with (first | (go_at_call 33; ((with_reducible refine (rprint_b n HN.out _).mono ?_); rintro e w1 ⟨rfl, hb1⟩)) | (go_at_call 24; ((with_reducible refine (HIS.out _ HTX.out _).mono ?_); rintro e w3 ⟨rfl, hb3⟩)) | fail)
        go_ret
        exact ⟨ret_str (by rw [HO.out]; rfl), Below.next hb1 hb3⟩
  · have HO : Hid (refK k n b l = []) := Lib.hid (by rw [HR.out, if_neg (fun h => hl0 h.1)])
    have hlp : (0 : Int) < l.length := by
      have := List.length_pos_iff.2 hl0; omega
    have hlpn : 0 < l.length := List.length_pos_iff.2 hl0
    clear hl0
    have HTX := HTX0
    rcases e23 with ⟨e2, e3⟩ | ⟨e2, e3⟩
    all_goals
      go_enter Try.func17, Try.ntmps17
      go_wp2_with (first | (go_at_call 33; ((with_reducible refine (rprint_b n HN.out _).mono ?_); rintro e w1 ⟨rfl, hb1⟩)) | fail)
      go_ret
      exact ⟨ret_str (by rw [HO.out]; rfl), hb1⟩
theorem rmake_data (k n : Nat) (hk : k = 4) (hn : n ≤ top) (vb vl : Value) (b : List UInt8) (l : List (List UInt8)) (w : World) (hb : Bytes w vb b) (hl : Strs w vl l) (hbl : b.length ≤ 100000) (hll : l.length ≤ 1000) :
    Calls Try.prog 17 #[.int .i64 k, .int .u64 n, vb, vl] w fun e w' => e = .returned (.string (strB (refK k n b l))) ∧ Below w.heap.size w w' := by
  obtain ⟨T, hT⟩ : ∃ T, wText k n b [] = T := ⟨_, rfl⟩
  have hTl := leaf_len k n b hn hbl
  have HTX0 : Hid (strB [signOf k] ++ strB (hexOf b) = strB T) := Lib.hid (by rw [← hT]; rw [hk]; exact leaf_text4 n b)
  have hR : refK k n b l = if l = [] ∧ isL T = true then T else [] := by unfold refK; rw [if_pos (by omega), hT]
  rw [hT] at hTl
  have HR := Lib.hid hR
  have HN := Lib.hid hn
  have HBY := Lib.hid hb
  have hsl := sign_slice (k := k) (by omega) (by omega)
  have hs1 := strB_size [signOf k]
  simp only [List.length_singleton] at hs1
  have hs2 := strB_size (hexOf b); have hdt : (hexOf b).length ≤ 200000 := by rw [hexOf_length]; omega
  obtain ⟨al, cl, rfl, _, hl⟩ := hl
  have hk1 : 1 ≤ k := by omega
  have hk4 : k ≤ 4 := by omega
  have e2 : ((k : Int) == 2) = false := b_ne (by omega)
  have e3 : ((k : Int) == 3) = false := b_ne (by omega)
  have e4 : ((k : Int) == 4) = true := b_eq (by omega)
  have hll2 : (l.length : Int) ≤ 1000 := by omega
  clear hb hl hT hR hn
  clear hk
  by_cases hl0 : l = []
  · subst hl0
    cases hL : isL T with
    | true =>
      have HO : Hid (refK k n b [] = T) := Lib.hid (by rw [HR.out, if_pos ⟨rfl, hL⟩])
      have HIS := Lib.hid (ris_v T (by unfold maxLen; omega) true hL)
      have HTX := HTX0
      clear hL
      go_enter Try.func17, Try.ntmps17
      go_wp2_with (first | (go_at_call 34; ((with_reducible refine (rhex_b _ b _ HBY.out (by omega)).mono ?_); rintro e w1 ⟨rfl, hb1⟩)) | (go_at_call 24; ((with_reducible refine (HIS.out _ HTX.out _).mono ?_); rintro e w3 ⟨rfl, hb3⟩)) | fail)
      go_ret
      exact ⟨ret_str (by rw [HO.out]; exact HTX0.out), Below.next hb1 hb3⟩
    | false =>
      have HO : Hid (refK k n b [] = []) := Lib.hid (by rw [HR.out, if_neg (by rw [hL]; simp)])
      have HIS := Lib.hid (ris_v T (by unfold maxLen; omega) false hL)
      have HTX := HTX0
      clear hL
      go_enter Try.func17, Try.ntmps17
      go_wp2_with (first | (go_at_call 34; ((with_reducible refine (rhex_b _ b _ HBY.out (by omega)).mono ?_); rintro e w1 ⟨rfl, hb1⟩)) | (go_at_call 24; ((with_reducible refine (HIS.out _ HTX.out _).mono ?_); rintro e w3 ⟨rfl, hb3⟩)) | fail)
      go_ret
      exact ⟨ret_str (by rw [HO.out]; rfl), Below.next hb1 hb3⟩
  · have HO : Hid (refK k n b l = []) := Lib.hid (by rw [HR.out, if_neg (fun h => hl0 h.1)])
    have hlp : (0 : Int) < l.length := by
      have := List.length_pos_iff.2 hl0; omega
    have hlpn : 0 < l.length := List.length_pos_iff.2 hl0
    clear hl0
    have HTX := HTX0
    go_enter Try.func17, Try.ntmps17
    go_wp2_with (first | (go_at_call 34; ((with_reducible refine (rhex_b _ b _ HBY.out (by omega)).mono ?_); rintro e w1 ⟨rfl, hb1⟩)) | fail)
    go_ret
    exact ⟨ret_str (by rw [HO.out]; rfl), hb1⟩
end Go.Proofs.Ytelfcdfbhnkakaa
