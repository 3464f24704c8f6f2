import Derived.Test.YtelfcdfbhnkakaaTerm11
import Derived.Test.YtelfcdfbhnkakaaTermMath3
namespace Go.Proofs.Ytelfcdfbhnkakaa
set_option linter.unusedVariables false
set_option linter.unusedSimpArgs false
set_option maxRecDepth 100000
open Go.RowKit

theorem lookR_some {t : List UInt8} {k n : Nat} {ps : List (List UInt8)} (h : lookR t = (k, n, ps)) (hk : k ≠ 0) : qLook t = some (k, n, ps) := by
  unfold lookR at h
  cases hq : qLook t with
  | none => rw [hq] at h; cases h; exact absurd rfl hk
  | some x => rw [hq] at h; rw [← h]; rfl
theorem look3 {t : List UInt8} {n : Nat} {ps : List (List UInt8)} (h : lookR t = (10, n, ps)) : ∃ a b c, ps = [a, b, c] := by
  obtain ⟨sh, hs, h1, h2⟩ := look_count (lookR_some h (by decide))
  simp only [shapeOf, Option.some.injEq] at hs
  subst hs
  match ps, h1, h2 with
  | [a, b, c], _, _ => exact ⟨a, b, c, rfl⟩
  | [], h, _ => simp at h
  | [_], h, _ => simp at h
  | [_, _], h, _ => simp at h
  | _ :: _ :: _ :: _ :: _, _, h => simp at h
theorem look2 {t : List UInt8} {n : Nat} {ps : List (List UInt8)} (h : lookR t = (9, n, ps)) : ∃ a b, ps = [a, b] := by
  obtain ⟨sh, hs, h1, h2⟩ := look_count (lookR_some h (by decide))
  simp only [shapeOf, Option.some.injEq] at hs
  subst hs
  match ps, h1, h2 with
  | [a, b], _, _ => exact ⟨a, b, rfl⟩
  | [], h, _ => simp at h
  | [_], h, _ => simp at h
  | _ :: _ :: _ :: _, _, h => simp at h
theorem look1 {t : List UInt8} {n : Nat} {ps : List (List UInt8)} (h : lookR t = (5, n, ps)) : ∃ a, ps = [a] := by
  obtain ⟨sh, hs, h1, h2⟩ := look_count (lookR_some h (by decide))
  simp only [shapeOf, Option.some.injEq] at hs
  subst hs
  match ps, h1, h2 with
  | [a], _, _ => exact ⟨a, rfl⟩
  | [], h, _ => simp at h
  | _ :: _ :: _, _, h => simp at h

theorem strs_cell {w : World} {a : Option Addr} {n cp : Nat} {l : List (List UInt8)} (h : Strs w (.slice a n cp) l) (hl : l ≠ []) : ∃ b off, a = some ⟨b, off, none⟩ ∧ b < w.heap.size ∧ ∀ i, i < l.length → w.cell? ⟨b, off + i, none⟩ = some (strV (l.getD i [])) := by
  obtain ⟨a', cap, e, _, h⟩ := h
  cases e
  rcases h with h | ⟨b, off, rfl, h⟩
  · exact absurd h hl
  · have hp : 0 < l.length := List.length_pos_iff.2 hl
    exact ⟨b, off, rfl, World.block_lt_of_cell? w _ (h 0 hp), h⟩
theorem alloc_cell {w : World} {b i : Nat} {v : Value} (o : Obj) (hb : b < w.heap.size) (h : w.cell? ⟨b, i, none⟩ = some v) : (w.alloc o).cell? ⟨b, i, none⟩ = some v := by
  unfold World.cell? at h ⊢
  rw [Below.heap_alloc w o b hb]; exact h

def openR (x : Nat × Nat × List (List UInt8)) (key : List UInt8) (n : Nat) (v : List UInt8) : List UInt8 × Int :=
  if x.1 = 10 then (if x.2.1 = n ∧ x.2.2.getD 0 [] = key ∧ x.2.2.getD 2 [] = v then (x.2.2.getD 1 [], 0) else ([], 8)) else ([], 3)

theorem str_eq (a : List UInt8) (b : ByteArray) : ((strB a).toList == b.toList) = (a == b.data.toList) := by
  rw [toList_eq, toList_eq]; rfl

theorem ret_open {a : ByteArray} {l : List UInt8} {c d : Int} (h : a = strB l) (h2 : c = d) : Ending.returned (.tuple #[.string a, .int .i64 c]) = .returned (.tuple #[.string (strB l), .int .i64 d]) := by rw [h, h2]

theorem open_any (t key v : ByteArray) (m : Nat) (ht : t.size ≤ maxLen) (w : World) : Calls Try.prog 18 #[.string t, .string key, .int .u64 m, .string v] w fun e w' =>
    e = .returned (.tuple #[.string (strB (openR (lookR t.data.toList) key.data.toList m v.data.toList).1), .int .i64 (openR (lookR t.data.toList) key.data.toList m v.data.toList).2]) ∧ Below w.heap.size w w' := by
  have hz := zero_found
  obtain ⟨k, n, ps, hx⟩ : ∃ k n ps, lookR t.data.toList = (k, n, ps) := ⟨_, _, _, rfl⟩
  obtain ⟨nb, hnb⟩ : ∃ nb, numb k = nb := ⟨_, rfl⟩
  rw [hx]
  have HNB := Lib.hid hnb
  clear hnb
  by_cases hk : k = 10
  · subst hk
    obtain ⟨a, b, c, rfl⟩ := look3 hx
    have HX := Lib.hid hx
    clear hx
    have hcase : (n ≠ m) ∨ (n = m ∧ (a == key.data.toList) = false) ∨ (n = m ∧ (a == key.data.toList) = true ∧ (c == v.data.toList) = false) ∨ (n = m ∧ (a == key.data.toList) = true ∧ (c == v.data.toList) = true) := by
      cases (a == key.data.toList) <;> cases (c == v.data.toList) <;> simp <;> omega
    rcases hcase with h | ⟨h, h1⟩ | ⟨h, h1, h2⟩ | ⟨h, h1, h2⟩
    · have hO : openR (10, n, [a, b, c]) key.data.toList m v.data.toList = ([], 8) := by simp [openR, h]
      rw [hO]
      have hn : ((n : Int) != m) = true := by simp; omega
      clear h hO
      go_enter Try.func18, Try.ntmps18
      go_wp2_with (first | (go_at_call 27; ((with_reducible refine (look_v t ht _ 10 n nb [a, b, c] HX.out HNB.out).mono ?_); rintro e w1 ⟨ad, cp, rfl, hS, hB⟩; obtain ⟨bb, off, rfl, hbb, hcs⟩ := strs_cell hS (by simp); have s0 := fun o => alloc_cell o hbb (hcs 0 (by simp)); have s1 := fun o => alloc_cell o hbb (hcs 1 (by simp)); have s2 := fun o => alloc_cell o hbb (hcs 2 (by simp)); simp only [strV, List.getD_cons_zero, List.getD_cons_succ, Nat.add_zero] at s0 s1 s2; have hne : ¬ bb = w1.heap.size := Nat.ne_of_lt hbb; have hne2 : ¬ w1.heap.size = bb := Nat.ne_of_gt hbb; have HB := Lib.hid hB; clear hB; clear hS hcs hbb)) | fail)
      go_ret2
      exact ⟨ret_open rfl rfl, HB.out.alloc HB.out.size _⟩
    · have hO : openR (10, n, [a, b, c]) key.data.toList m v.data.toList = ([], 8) := by simp at h1; simp [openR, h, h1]
      rw [hO]
      have hn : ((n : Int) != m) = false := by simp [h]
      rw [← str_eq] at h1
      clear h hO
      go_enter Try.func18, Try.ntmps18
      go_wp2_with (first | (go_at_call 27; ((with_reducible refine (look_v t ht _ 10 n nb [a, b, c] HX.out HNB.out).mono ?_); rintro e w1 ⟨ad, cp, rfl, hS, hB⟩; obtain ⟨bb, off, rfl, hbb, hcs⟩ := strs_cell hS (by simp); have s0 := fun o => alloc_cell o hbb (hcs 0 (by simp)); have s1 := fun o => alloc_cell o hbb (hcs 1 (by simp)); have s2 := fun o => alloc_cell o hbb (hcs 2 (by simp)); simp only [strV, List.getD_cons_zero, List.getD_cons_succ, Nat.add_zero] at s0 s1 s2; have hne : ¬ bb = w1.heap.size := Nat.ne_of_lt hbb; have hne2 : ¬ w1.heap.size = bb := Nat.ne_of_gt hbb; have HB := Lib.hid hB; clear hB; clear hS hcs hbb)) | fail)
      go_ret2
      exact ⟨ret_open rfl rfl, HB.out.alloc HB.out.size _⟩
    · have hO : openR (10, n, [a, b, c]) key.data.toList m v.data.toList = ([], 8) := by simp at h1 h2; simp [openR, h, h1, h2]
      rw [hO]
      have hn : ((n : Int) != m) = false := by simp [h]
      rw [← str_eq] at h1 h2
      clear h hO
      go_enter Try.func18, Try.ntmps18
      go_wp2_with (first | (go_at_call 27; ((with_reducible refine (look_v t ht _ 10 n nb [a, b, c] HX.out HNB.out).mono ?_); rintro e w1 ⟨ad, cp, rfl, hS, hB⟩; obtain ⟨bb, off, rfl, hbb, hcs⟩ := strs_cell hS (by simp); have s0 := fun o => alloc_cell o hbb (hcs 0 (by simp)); have s1 := fun o => alloc_cell o hbb (hcs 1 (by simp)); have s2 := fun o => alloc_cell o hbb (hcs 2 (by simp)); simp only [strV, List.getD_cons_zero, List.getD_cons_succ, Nat.add_zero] at s0 s1 s2; have hne : ¬ bb = w1.heap.size := Nat.ne_of_lt hbb; have hne2 : ¬ w1.heap.size = bb := Nat.ne_of_gt hbb; have HB := Lib.hid hB; clear hB; clear hS hcs hbb)) | fail)
      go_ret2
      exact ⟨ret_open rfl rfl, HB.out.alloc HB.out.size _⟩
    · have hO : openR (10, n, [a, b, c]) key.data.toList m v.data.toList = (b, 0) := by simp at h1 h2; simp [openR, h, h1, h2]
      rw [hO]
      have hn : ((n : Int) != m) = false := by simp [h]
      rw [← str_eq] at h1 h2
      clear h hO
      go_enter Try.func18, Try.ntmps18
      go_wp2_with (first | (go_at_call 27; ((with_reducible refine (look_v t ht _ 10 n nb [a, b, c] HX.out HNB.out).mono ?_); rintro e w1 ⟨ad, cp, rfl, hS, hB⟩; obtain ⟨bb, off, rfl, hbb, hcs⟩ := strs_cell hS (by simp); have s0 := fun o => alloc_cell o hbb (hcs 0 (by simp)); have s1 := fun o => alloc_cell o hbb (hcs 1 (by simp)); have s2 := fun o => alloc_cell o hbb (hcs 2 (by simp)); simp only [strV, List.getD_cons_zero, List.getD_cons_succ, Nat.add_zero] at s0 s1 s2; have hne : ¬ bb = w1.heap.size := Nat.ne_of_lt hbb; have hne2 : ¬ w1.heap.size = bb := Nat.ne_of_gt hbb; have HB := Lib.hid hB; clear hB; clear hS hcs hbb)) | fail)
      go_ret2
      exact ⟨ret_open rfl rfl, HB.out.alloc HB.out.size _⟩
  · have hO : openR (k, n, ps) key.data.toList m v.data.toList = ([], 3) := by simp [openR, hk]
    rw [hO]
    have HX := Lib.hid hx
    have hk1 : ((k : Int) != 10) = true := by simp; omega
    clear hx hk hO
    go_enter Try.func18, Try.ntmps18
    go_wp2_with (first | (go_at_call 27; ((with_reducible refine (look_v t ht _ k n nb ps HX.out HNB.out).mono ?_); rintro e w1 ⟨ad, cp, rfl, hS, hB⟩; have HB := Lib.hid hB; clear hB; clear hS)) | fail)
    go_ret2
    exact ⟨ret_open rfl rfl, HB.out.alloc HB.out.size _⟩

def signedR (x : Nat × Nat × List (List UInt8)) (key u : List UInt8) : Bool := x.1 == 9 && (x.2.2.getD 0 [] == key && x.2.2.getD 1 [] == u)
theorem signed_any (t key u : ByteArray) (ht : t.size ≤ maxLen) (w : World) : Calls Try.prog 20 #[.string t, .string key, .string u] w fun e w' =>
    e = .returned (.bool (signedR (lookR t.data.toList) key.data.toList u.data.toList)) ∧ Below w.heap.size w w' := by
  have hz := zero_found
  obtain ⟨k, n, ps, hx⟩ : ∃ k n ps, lookR t.data.toList = (k, n, ps) := ⟨_, _, _, rfl⟩
  obtain ⟨nb, hnb⟩ : ∃ nb, numb k = nb := ⟨_, rfl⟩
  rw [hx]
  have HNB := Lib.hid hnb
  clear hnb
  by_cases hk : k = 9
  · subst hk
    obtain ⟨a, b, rfl⟩ := look2 hx
    have HX := Lib.hid hx
    clear hx
    have hO : signedR (9, n, [a, b]) key.data.toList u.data.toList = ((a == key.data.toList) && (b == u.data.toList)) := by simp [signedR]
    rw [hO]
    clear hO
    have hcase : (a == key.data.toList) = false ∨ ((a == key.data.toList) = true ∧ (b == u.data.toList) = false) ∨ ((a == key.data.toList) = true ∧ (b == u.data.toList) = true) := by
      cases (a == key.data.toList) <;> cases (b == u.data.toList) <;> simp
    rcases hcase with h1 | ⟨h1, h2⟩ | ⟨h1, h2⟩
    · rw [h1, Bool.false_and]
      rw [← str_eq] at h1
      go_enter Try.func20, Try.ntmps20
      go_wp2_with (first | (go_at_call 27; ((with_reducible refine (look_v t ht _ 9 n nb [a, b] HX.out HNB.out).mono ?_); rintro e w1 ⟨ad, cp, rfl, hS, hB⟩; obtain ⟨bb, off, rfl, hbb, hcs⟩ := strs_cell hS (by simp); have s0 := fun o => alloc_cell o hbb (hcs 0 (by simp)); have s1 := fun o => alloc_cell o hbb (hcs 1 (by simp)); simp only [strV, List.getD_cons_zero, List.getD_cons_succ, Nat.add_zero] at s0 s1; have hne : ¬ bb = w1.heap.size := Nat.ne_of_lt hbb; have hne2 : ¬ w1.heap.size = bb := Nat.ne_of_gt hbb; have HB := Lib.hid hB; clear hB; clear hS hcs hbb)) | fail)
      go_ret
      exact ⟨rfl, HB.out.alloc HB.out.size _⟩
    · rw [h1, h2, Bool.true_and]
      rw [← str_eq] at h1 h2
      go_enter Try.func20, Try.ntmps20
      go_wp2_with (first | (go_at_call 27; ((with_reducible refine (look_v t ht _ 9 n nb [a, b] HX.out HNB.out).mono ?_); rintro e w1 ⟨ad, cp, rfl, hS, hB⟩; obtain ⟨bb, off, rfl, hbb, hcs⟩ := strs_cell hS (by simp); have s0 := fun o => alloc_cell o hbb (hcs 0 (by simp)); have s1 := fun o => alloc_cell o hbb (hcs 1 (by simp)); simp only [strV, List.getD_cons_zero, List.getD_cons_succ, Nat.add_zero] at s0 s1; have hne : ¬ bb = w1.heap.size := Nat.ne_of_lt hbb; have hne2 : ¬ w1.heap.size = bb := Nat.ne_of_gt hbb; have HB := Lib.hid hB; clear hB; clear hS hcs hbb)) | fail)
      go_ret
      exact ⟨rfl, HB.out.alloc HB.out.size _⟩
    · rw [h1, h2, Bool.true_and]
      rw [← str_eq] at h1 h2
      go_enter Try.func20, Try.ntmps20
      go_wp2_with (first | (go_at_call 27; ((with_reducible refine (look_v t ht _ 9 n nb [a, b] HX.out HNB.out).mono ?_); rintro e w1 ⟨ad, cp, rfl, hS, hB⟩; obtain ⟨bb, off, rfl, hbb, hcs⟩ := strs_cell hS (by simp); have s0 := fun o => alloc_cell o hbb (hcs 0 (by simp)); have s1 := fun o => alloc_cell o hbb (hcs 1 (by simp)); simp only [strV, List.getD_cons_zero, List.getD_cons_succ, Nat.add_zero] at s0 s1; have hne : ¬ bb = w1.heap.size := Nat.ne_of_lt hbb; have hne2 : ¬ w1.heap.size = bb := Nat.ne_of_gt hbb; have HB := Lib.hid hB; clear hB; clear hS hcs hbb)) | fail)
      go_ret
      exact ⟨rfl, HB.out.alloc HB.out.size _⟩
  · have hO : signedR (k, n, ps) key.data.toList u.data.toList = false := by simp [signedR, hk]
    rw [hO]
    have HX := Lib.hid hx
    have hk1 : ((k : Int) == 9) = false := beqf (by omega)
    clear hx hk hO
    go_enter Try.func20, Try.ntmps20
    go_wp2_with (first | (go_at_call 27; ((with_reducible refine (look_v t ht _ k n nb ps HX.out HNB.out).mono ?_); rintro e w1 ⟨ad, cp, rfl, hS, hB⟩; have HB := Lib.hid hB; clear hB; clear hS)) | fail)
    go_ret
    exact ⟨rfl, HB.out.alloc HB.out.size _⟩
end Go.Proofs.Ytelfcdfbhnkakaa
