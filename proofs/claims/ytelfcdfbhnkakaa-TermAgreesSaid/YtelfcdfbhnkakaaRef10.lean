import Derived.Test.YtelfcdfbhnkakaaRef9
namespace Go.Proofs.Ytelfcdfbhnkakaa
set_option linter.unusedVariables false
set_option linter.unusedSimpArgs false
set_option maxRecDepth 100000
open Go.RowKit

theorem node_v (t : ByteArray) (ht : t.size ≤ maxLen) (k n : Nat) (ps : List (List UInt8)) (m : Nat) (hm : ps.length = m) (hx : lookR t.data.toList = (k, n, ps)) (w : World) : Calls Try.prog 8 #[.string t] w fun e w' =>
    ∃ ab lb cb ap cp, e = .returned (.agg #[.int .i64 k, .int .u64 n, .slice ab lb cb, .slice ap m cp]) ∧ Strs w' (.slice ap m cp) ps ∧ Below w.heap.size w w' := by
  subst hm
  have h := rnode_any t ht w
  rw [node_eq, hx] at h
  refine h.mono ?_
  rintro e w' ⟨ab, cb, ap, cp, rfl, _, hs, hb⟩
  exact ⟨ab, _, cb, ap, cp, rfl, hs, hb⟩
theorem rmake_lit (kind : Int) (vb vl : Value) (b : List UInt8) (l : List (List UInt8)) (w : World) (hb : Bytes w vb b) (hl : Strs w vl l) (hbl : b.length ≤ 100000) (hlen : l.length ≤ 1000) (hsz : ∀ x ∈ l, x.length ≤ maxLen) :
    Calls Try.prog 17 #[.int .i64 kind, .int .u64 0, vb, vl] w fun e w' => e = .returned (.string (strB (makeR kind 0 b l))) ∧ Below w.heap.size w w' :=
  rmake_any kind 0 (Nat.zero_le _) vb vl b l w hb hl hbl hlen hsz
theorem strV_self (x : ByteArray) : strV x.data.toList = .string x := by unfold strV; rw [strB_self]
theorem strs_one (w : World) (x : ByteArray) : Strs (w.alloc (.cells #[.string x] 9)) (.slice (some ⟨w.heap.size, 0, none⟩) 1 1) [x.data.toList] := by
  have h := heap_alloc_new w (.cells #[.string x] 9)
  refine ⟨_, 1, rfl, (fun h => by cases h), .inr ⟨_, 0, rfl, fun i hi => ?_⟩⟩
  rw [Nat.zero_add]
  match i, hi with
  | 0, _ => show _ = some (strV x.data.toList); rw [strV_self]; exact cell_of h 0 rfl
theorem strs_three (w : World) (x y z : ByteArray) : Strs (w.alloc (.cells #[.string x, .string y, .string z] 9)) (.slice (some ⟨w.heap.size, 0, none⟩) 3 3) [x.data.toList, y.data.toList, z.data.toList] := by
  have h := heap_alloc_new w (.cells #[.string x, .string y, .string z] 9)
  refine ⟨_, 3, rfl, (fun h => by cases h), .inr ⟨_, 0, rfl, fun i hi => ?_⟩⟩
  rw [Nat.zero_add]
  match i, hi with
  | 0, _ => show _ = some (strV x.data.toList); rw [strV_self]; exact cell_of h 0 rfl
  | 1, _ => show _ = some (strV y.data.toList); rw [strV_self]; exact cell_of h 1 rfl
  | 2, _ => show _ = some (strV z.data.toList); rw [strV_self]; exact cell_of h 2 rfl
theorem data_len (x : ByteArray) (h : x.size ≤ maxLen) : x.data.toList.length ≤ maxLen := by simpa using h
theorem rpub_any (x : ByteArray) (hx : x.size ≤ maxLen) (w : World) : Calls Try.prog 25 #[.string x] w fun e w' => e = .returned (.string (strB (makeR 5 0 [] [x.data.toList]))) ∧ Below w.heap.size w w' := by
  have HX := Lib.hid (data_len x hx)
  clear hx
  go_enter Try.func25, Try.ntmps25
  go_wp2_with (first | (go_at_call 17; ((with_reducible refine (rmake_lit 5 _ _ [] [x.data.toList] _ (bytes_nil _) (strs_one w x) (by simp) (by simp) (by simpa using HX.out)).mono ?_); rintro e w3 ⟨rfl, hb3⟩)) | fail)
  go_ret
  exact ⟨rfl, ((Below.refl _ _).alloc (Nat.le_refl _) _).trans (hb3.mono (by simp))⟩
theorem rseal_any (n : Nat) (hn : n ≤ top) (x y z : ByteArray) (hx : x.size ≤ maxLen) (hy : y.size ≤ maxLen) (hz : z.size ≤ maxLen) (w : World) : Calls Try.prog 23 #[.int .u64 n, .string x, .string y, .string z] w fun e w' => e = .returned (.string (strB (makeR 10 n [] [x.data.toList, y.data.toList, z.data.toList]))) ∧ Below w.heap.size w w' := by
  have HX : Hid (∀ q ∈ [x.data.toList, y.data.toList, z.data.toList], q.length ≤ maxLen) := Lib.hid (by
    intro q hq
    simp only [List.mem_cons, List.not_mem_nil, or_false] at hq
    rcases hq with rfl | rfl | rfl
    · exact data_len x hx
    · exact data_len y hy
    · exact data_len z hz)
  have HN := Lib.hid hn
  clear hx hy hz hn
  go_enter Try.func23, Try.ntmps23
  go_wp2_with (first | (go_at_call 17; ((with_reducible refine (rmake_any 10 n HN.out _ _ [] [x.data.toList, y.data.toList, z.data.toList] _ (bytes_nil _) (strs_three w x y z) (by simp) (by simp) HX.out).mono ?_); rintro e w3 ⟨rfl, hb3⟩)) | fail)
  go_ret
  exact ⟨rfl, ((Below.refl _ _).alloc (Nat.le_refl _) _).trans (hb3.mono (by simp))⟩
theorem ragree_any (x t : ByteArray) (hx0 : x.size ≤ maxLen) (ht : t.size ≤ maxLen) (w : World) : Calls Try.prog 22 #[.string x, .string t] w fun e w' =>
    e = .returned (.string (strB (agreeR x.data.toList (lookR t.data.toList)))) ∧ Below w.heap.size w w' := by
  obtain ⟨k, n, ps, hx⟩ : ∃ k n ps, lookR t.data.toList = (k, n, ps) := ⟨_, _, _, rfl⟩
  rw [hx]
  by_cases hk : k = 5
  · subst hk
    obtain ⟨a, rfl⟩ := look1 hx
    have HX := Lib.hid hx
    have HSZ : Hid (∀ q ∈ [x.data.toList, a], q.length ≤ maxLen) := Lib.hid (by
      intro q hq
      simp only [List.mem_cons, List.not_mem_nil, or_false] at hq
      rcases hq with rfl | rfl
      · exact data_len x hx0
      · have := (isL_whole.1 (parts_whole hx (by decide) q (by simp))).1
        unfold maxLen; omega)
    have hO : agreeR x.data.toList (5, n, [a]) = makeR 6 0 [] [x.data.toList, a] := rfl
    rw [hO]
    clear hx hO hx0
    go_enter Try.func22, Try.ntmps22
    go_wp2_with (first | (go_at_call 8; ((with_reducible refine (node_v t ht 5 n [a] 1 rfl HX.out _).mono ?_); rintro e w1 ⟨ab, lb, cb, ap, cp, rfl, hS, hB⟩; obtain ⟨bb, off, rfl, hbb, hcs⟩ := strs_cell hS (by simp); have s0 := fun o => alloc_cell o hbb (hcs 0 (by simp)); simp only [strV, List.getD_cons_zero, List.getD_cons_succ, Nat.add_zero] at s0; have hne : ¬ bb = w1.heap.size := Nat.ne_of_lt hbb; have hne2 : ¬ w1.heap.size = bb := Nat.ne_of_gt hbb; have HB := Lib.hid hB; clear hB; clear hS hcs hbb)) | (go_at_call 17; ((with_reducible refine (rmake_lit 6 _ _ [] [x.data.toList, a] _ (bytes_nil _) (strs_two_at w1 _ x a) (by simp) (by simp) HSZ.out).mono ?_); rintro e w3 ⟨rfl, hb3⟩)) | fail)
    go_ret
    exact ⟨rfl, ((HB.out.alloc HB.out.size _).alloc (by have := HB.out.size; simp; omega) _).trans (hb3.mono (by have := HB.out.size; simp; omega))⟩
  · have hO : agreeR x.data.toList (k, n, ps) = [] := by unfold agreeR; rw [if_neg hk]
    rw [hO]
    have HX := Lib.hid hx
    have hk1 : ((k : Int) != 5) = true := by simp; omega
    clear hx hk hO hx0
    go_enter Try.func22, Try.ntmps22
    go_wp2_with (first | (go_at_call 8; ((with_reducible refine (node_v t ht k n ps ps.length rfl HX.out _).mono ?_); rintro e w1 ⟨ab, lb, cb, ap, cp, rfl, hS, hB⟩; have HB := Lib.hid hB; clear hB; clear hS)) | fail)
    go_ret
    exact ⟨rfl, HB.out.alloc HB.out.size _⟩
theorem ropen_any (t key v : ByteArray) (m : Nat) (ht : t.size ≤ maxLen) (w : World) : Calls Try.prog 19 #[.string t, .string key, .int .u64 m, .string v] w fun e w' =>
    e = .returned (.tuple #[.string (strB (openR (lookR t.data.toList) key.data.toList m v.data.toList).1), .int .i64 (openR (lookR t.data.toList) key.data.toList m v.data.toList).2]) ∧ Below w.heap.size w w' := by
  obtain ⟨k, n, ps, hx⟩ : ∃ k n ps, lookR t.data.toList = (k, n, ps) := ⟨_, _, _, rfl⟩
  rw [hx]
  by_cases hk : k = 10
  · subst hk
    obtain ⟨a, b, c, rfl⟩ := look3 hx
    have HX := Lib.hid hx
    clear hx
    have hcase : (n ≠ m) ∨ (n = m ∧ (a == key.data.toList) = false) ∨ (n = m ∧ (a == key.data.toList) = true ∧ (c == v.data.toList) = false) ∨ (n = m ∧ (a == key.data.toList) = true ∧ (c == v.data.toList) = true) := by
      cases (a == key.data.toList) <;> cases (c == v.data.toList) <;> simp <;> omega
    rcases hcase with h | ⟨h, h1⟩ | ⟨h, h1, h2⟩ | ⟨h, h1, h2⟩
    · have hO : openR (10, n, [a, b, c]) key.data.toList m v.data.toList = ([], 8) := by simp [openR, h]
      rw [hO]
      have hn : ((n : Int) != m) = true := by simp; omega
      clear h hO
      go_enter Try.func19, Try.ntmps19
      go_wp2_with (first | (go_at_call 8; ((with_reducible refine (node_v t ht 10 n [a, b, c] 3 rfl HX.out _).mono ?_); rintro e w1 ⟨ab, lb, cb, ap, cp, rfl, hS, hB⟩; obtain ⟨bb, off, rfl, hbb, hcs⟩ := strs_cell hS (by simp); have s0 := fun o => alloc_cell o hbb (hcs 0 (by simp)); have s1 := fun o => alloc_cell o hbb (hcs 1 (by simp)); have s2 := fun o => alloc_cell o hbb (hcs 2 (by simp)); simp only [strV, List.getD_cons_zero, List.getD_cons_succ, Nat.add_zero] at s0 s1 s2; have hne : ¬ bb = w1.heap.size := Nat.ne_of_lt hbb; have hne2 : ¬ w1.heap.size = bb := Nat.ne_of_gt hbb; have HB := Lib.hid hB; clear hB; clear hS hcs hbb)) | fail)
      go_ret2
      exact ⟨ret_open rfl rfl, HB.out.alloc HB.out.size _⟩
    · have hO : openR (10, n, [a, b, c]) key.data.toList m v.data.toList = ([], 8) := by simp at h1; simp [openR, h, h1]
      rw [hO]
      have hn : ((n : Int) != m) = false := by simp [h]
      rw [← str_eq] at h1
      clear h hO
      go_enter Try.func19, Try.ntmps19
      go_wp2_with (first | (go_at_call 8; ((with_reducible refine (node_v t ht 10 n [a, b, c] 3 rfl HX.out _).mono ?_); rintro e w1 ⟨ab, lb, cb, ap, cp, rfl, hS, hB⟩; obtain ⟨bb, off, rfl, hbb, hcs⟩ := strs_cell hS (by simp); have s0 := fun o => alloc_cell o hbb (hcs 0 (by simp)); have s1 := fun o => alloc_cell o hbb (hcs 1 (by simp)); have s2 := fun o => alloc_cell o hbb (hcs 2 (by simp)); simp only [strV, List.getD_cons_zero, List.getD_cons_succ, Nat.add_zero] at s0 s1 s2; have hne : ¬ bb = w1.heap.size := Nat.ne_of_lt hbb; have hne2 : ¬ w1.heap.size = bb := Nat.ne_of_gt hbb; have HB := Lib.hid hB; clear hB; clear hS hcs hbb)) | fail)
      go_ret2
      exact ⟨ret_open rfl rfl, HB.out.alloc HB.out.size _⟩
    · have hO : openR (10, n, [a, b, c]) key.data.toList m v.data.toList = ([], 8) := by simp at h1 h2; simp [openR, h, h1, h2]
      rw [hO]
      have hn : ((n : Int) != m) = false := by simp [h]
      rw [← str_eq] at h1 h2
      clear h hO
      go_enter Try.func19, Try.ntmps19
      go_wp2_with (first | (go_at_call 8; ((with_reducible refine (node_v t ht 10 n [a, b, c] 3 rfl HX.out _).mono ?_); rintro e w1 ⟨ab, lb, cb, ap, cp, rfl, hS, hB⟩; obtain ⟨bb, off, rfl, hbb, hcs⟩ := strs_cell hS (by simp); have s0 := fun o => alloc_cell o hbb (hcs 0 (by simp)); have s1 := fun o => alloc_cell o hbb (hcs 1 (by simp)); have s2 := fun o => alloc_cell o hbb (hcs 2 (by simp)); simp only [strV, List.getD_cons_zero, List.getD_cons_succ, Nat.add_zero] at s0 s1 s2; have hne : ¬ bb = w1.heap.size := Nat.ne_of_lt hbb; have hne2 : ¬ w1.heap.size = bb := Nat.ne_of_gt hbb; have HB := Lib.hid hB; clear hB; clear hS hcs hbb)) | fail)
      go_ret2
      exact ⟨ret_open rfl rfl, HB.out.alloc HB.out.size _⟩
    · have hO : openR (10, n, [a, b, c]) key.data.toList m v.data.toList = (b, 0) := by simp at h1 h2; simp [openR, h, h1, h2]
      rw [hO]
      have hn : ((n : Int) != m) = false := by simp [h]
      rw [← str_eq] at h1 h2
      clear h hO
      go_enter Try.func19, Try.ntmps19
      go_wp2_with (first | (go_at_call 8; ((with_reducible refine (node_v t ht 10 n [a, b, c] 3 rfl HX.out _).mono ?_); rintro e w1 ⟨ab, lb, cb, ap, cp, rfl, hS, hB⟩; obtain ⟨bb, off, rfl, hbb, hcs⟩ := strs_cell hS (by simp); have s0 := fun o => alloc_cell o hbb (hcs 0 (by simp)); have s1 := fun o => alloc_cell o hbb (hcs 1 (by simp)); have s2 := fun o => alloc_cell o hbb (hcs 2 (by simp)); simp only [strV, List.getD_cons_zero, List.getD_cons_succ, Nat.add_zero] at s0 s1 s2; have hne : ¬ bb = w1.heap.size := Nat.ne_of_lt hbb; have hne2 : ¬ w1.heap.size = bb := Nat.ne_of_gt hbb; have HB := Lib.hid hB; clear hB; clear hS hcs hbb)) | fail)
      go_ret2
      exact ⟨ret_open rfl rfl, HB.out.alloc HB.out.size _⟩
  · have hO : openR (k, n, ps) key.data.toList m v.data.toList = ([], 3) := by simp [openR, hk]
    rw [hO]
    have HX := Lib.hid hx
    have hk1 : ((k : Int) != 10) = true := by simp; omega
    clear hx hk hO
    go_enter Try.func19, Try.ntmps19
    go_wp2_with (first | (go_at_call 8; ((with_reducible refine (node_v t ht k n ps ps.length rfl HX.out _).mono ?_); rintro e w1 ⟨ab, lb, cb, ap, cp, rfl, hS, hB⟩; have HB := Lib.hid hB; clear hB; clear hS)) | fail)
    go_ret2
    exact ⟨ret_open rfl rfl, HB.out.alloc HB.out.size _⟩
end Go.Proofs.Ytelfcdfbhnkakaa
