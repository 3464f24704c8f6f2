import Derived.Test.YtelfcdfbhnkakaaTermLaw12
import Derived.Deep.RegionHeld3
import Derived.Deep.Cut
namespace Go.Proofs.Ytelfcdfbhnkakaa
set_option linter.unusedVariables false
set_option linter.unusedSimpArgs false
set_option maxRecDepth 100000
open Go.RowKit

theorem cell_keep {w w' : World} {b i : Nat} {v : Value} (h : w.cell? ⟨b, i, none⟩ = some v) (hb : Below w.heap.size w w') : w'.cell? ⟨b, i, none⟩ = some v :=
  (hb.cell (p := ⟨b, i, none⟩) (World.block_lt_of_cell? w _ h)).trans h
theorem open_seal {Z : List UInt8} {k : Nat} {key u v : ByteArray} (hZ : lookR Z = (10, k, [key.data.toList, u.data.toList, v.data.toList])) (hZl : Z.length ≤ maxLen) (m : Nat) (t : ByteArray) (w : World) :
    Calls Try.prog 18 #[.string (strB Z), .string key, .int .u64 m, .string t] w fun e w' => e = .returned (.tuple #[.string (if k = m ∧ v.data.toList = t.data.toList then u else strB []), .int .i64 (if k = m ∧ v.data.toList = t.data.toList then 0 else 8)]) ∧ Below w.heap.size w w' := by
  have h := open_any (strB Z) key t m (by rw [strB_size]; exact hZl) w
  rw [show lookR (strB Z).data.toList = lookR Z from rfl, hZ] at h
  by_cases hc : k = m ∧ v.data.toList = t.data.toList
  · have e : openR (10, k, [key.data.toList, u.data.toList, v.data.toList]) key.data.toList m t.data.toList = (u.data.toList, 0) := by unfold openR; simp [hc.1, hc.2]
    rw [e, strB_self] at h
    rw [if_pos hc, if_pos hc]; exact h
  · have e : openR (10, k, [key.data.toList, u.data.toList, v.data.toList]) key.data.toList m t.data.toList = ([], 8) := by
      unfold openR
      rw [if_pos rfl]
      rw [if_neg]
      rintro ⟨h1, _, h3⟩
      exact hc ⟨h1, h3⟩
    rw [e] at h
    rw [if_neg hc, if_neg hc]; exact h
theorem open_yes {Z : List UInt8} {k : Nat} {key u v : ByteArray} (hZ : lookR Z = (10, k, [key.data.toList, u.data.toList, v.data.toList])) (hZl : Z.length ≤ maxLen) (m : Nat) (t : ByteArray) (hc : k = m ∧ v.data.toList = t.data.toList) (w : World) :
    Calls Try.prog 18 #[.string (strB Z), .string key, .int .u64 m, .string t] w fun e w' => e = .returned (.tuple #[.string u, .int .i64 0]) ∧ Below w.heap.size w w' := by
  have h := open_seal hZ hZl m t w
  rw [if_pos hc, if_pos hc] at h; exact h
theorem open_no {Z : List UInt8} {k : Nat} {key u v : ByteArray} (hZ : lookR Z = (10, k, [key.data.toList, u.data.toList, v.data.toList])) (hZl : Z.length ≤ maxLen) (m : Nat) (t : ByteArray) (hc : ¬ (k = m ∧ v.data.toList = t.data.toList)) (w : World) :
    Calls Try.prog 18 #[.string (strB Z), .string key, .int .u64 m, .string t] w fun e w' => e = .returned (.tuple #[.string (strB []), .int .i64 8]) ∧ Below w.heap.size w w' := by
  have h := open_seal hZ hZl m t w
  rw [if_neg hc, if_neg hc] at h; exact h
theorem signed_v (t key u : ByteArray) (ht : t.size ≤ maxLen) {x : Nat × Nat × List (List UInt8)} (hx : lookR t.data.toList = x) {r : Bool} (hr : signedR x key.data.toList u.data.toList = r) (w : World) : Calls Try.prog 20 #[.string t, .string key, .string u] w fun e w' => e = .returned (.bool r) ∧ Below w.heap.size w w' := by
  subst hx hr; exact signed_any t key u ht w

set_option maxHeartbeats 8000000 in
theorem opens_main (t key y v : ByteArray) (n m : Nat) (hn : n ≤ top) (ht : t.size ≤ 1000) (hk : key.size ≤ 1000) (hu : y.size ≤ 1000) (hv : v.size ≤ 1000) (w : World) : Calls Try.prog 5 #[.string t, .string key, .string y, .string v, .int .u64 n, .int .u64 m] w fun e w' => e = .returned (.bool true) ∧ Below w.heap.size w w' := by
  have htm : t.size ≤ maxLen := by unfold maxLen; omega
  have hkm : key.size ≤ maxLen := by unfold maxLen; omega
  have hum : y.size ≤ maxLen := by unfold maxLen; omega
  have hvm : v.size ≤ maxLen := by unfold maxLen; omega
  obtain ⟨x, hx⟩ : ∃ x, lookR t.data.toList = x := ⟨_, rfl⟩
  obtain ⟨k, n0, ps⟩ := x
  have hO1 := fun w => open_any t key v n htm w
  have hO2 := fun w => ropen_any t key v n htm w
  rw [hx] at hO1 hO2
  obtain ⟨o, ho⟩ : ∃ o, openR (k, n0, ps) key.data.toList n v.data.toList = o := ⟨_, rfl⟩
  obtain ⟨G0, c⟩ := o
  rw [ho] at hO1 hO2
  have HOP : Hid (∀ w, Calls Try.prog 18 #[.string t, .string key, .int .u64 n, .string v] w fun e w' => e = .returned (.tuple #[.string (strB G0), .int .i64 c]) ∧ Below w.heap.size w w') := Lib.hid hO1
  have HRO : Hid (∀ w, Calls Try.prog 19 #[.string t, .string key, .int .u64 n, .string v] w fun e w' => e = .returned (.tuple #[.string (strB G0), .int .i64 c]) ∧ Below w.heap.size w w') := Lib.hid hO2
  obtain ⟨A, hA⟩ : ∃ A, agreeR t.data.toList (lookR key.data.toList) = A := ⟨_, rfl⟩
  have hA1 := fun w => agree_any t key hkm w
  have hA2 := fun w => ragree_any t key htm hkm w
  rw [hA] at hA1 hA2
  have HAG := Lib.hid hA1
  have HRA := Lib.hid hA2
  have hE := fun w => rseal_any n hn key y v hkm hum hvm w
  obtain ⟨Z, hZ⟩ : ∃ Z, makeR 10 n [] [key.data.toList, y.data.toList, v.data.toList] = Z := ⟨_, rfl⟩
  rw [hZ] at hE
  have HSE := Lib.hid hE
  have hZf : Z ≠ [] → lookR Z = (10, n, [key.data.toList, y.data.toList, v.data.toList]) ∧ Z.length ≤ maxLen := fun h => by
    have h2 := seal_look hn (by rw [hZ]; exact h)
    rw [hZ] at h2
    refine ⟨h2, ?_⟩
    have := ((look_p (by decide)).1 h2).1
    unfold maxLen; omega
  have HZF := Lib.hid hZf
  have hti : (t.size : Int) ≤ 1000 := by omega
  have hki : (key.size : Int) ≤ 1000 := by omega
  have hui : (y.size : Int) ≤ 1000 := by omega
  have hvi : (v.size : Int) ≤ 1000 := by omega
  have hoo : ((strB G0).toList == (strB G0).toList) = true := by simp
  have haa : ((strB A).toList == (strB A).toList) = true := by simp
  have hcc : (c == c) = true := by simp
  have HX := Lib.hid hx
  obtain ⟨m9, hm9⟩ : ∃ m9, ps.length = m9 := ⟨_, rfl⟩
  have HM9 := Lib.hid hm9
  have HND := Lib.hid (fun w => node_v t htm k n0 ps m9 HM9.out HX.out w)
  have HTM := Lib.hid htm
  have hcase : (k ≠ 9) ∨ (k = 9 ∧ ∃ p0 p1, ps = [p0, p1] ∧ ((p0 == key.data.toList) = false ∨ ((p0 == key.data.toList) = true ∧ (p1 == y.data.toList) = false) ∨ ((p0 == key.data.toList) = true ∧ (p1 == y.data.toList) = true))) := by
    by_cases h9 : k = 9
    · right
      subst h9
      obtain ⟨p0, p1, rfl⟩ := look2 hx
      refine ⟨rfl, p0, p1, rfl, ?_⟩
      cases (p0 == key.data.toList) <;> cases (p1 == y.data.toList) <;> simp
    · exact .inl h9
  have HCASE := Lib.hid hcase
  clear hx hO1 hO2 ho hA hA1 hA2 hE hZ hZf htm hkm hum hvm ht hk hu hv hm9 hcase hn
  go_enter Try.func5, Try.ntmps5
  go_wp2_with (first | (go_at_call 7; ((with_reducible refine (aw2 _).mono ?_); rintro e w1 ⟨rfl, hb⟩; have HB := Lib.hid hb; clear hb)) | (go_at_call 18; ((with_reducible refine (HOP.out _).mono ?_); rintro e wn ⟨rfl, hb⟩; have HB := Lib.hid (Below.next HB.out hb); clear hb)) | (go_at_call 19; ((with_reducible refine (HRO.out _).mono ?_); rintro e wn ⟨rfl, hb⟩; have HB := Lib.hid (Below.next HB.out hb); clear hb)) | (go_at_call 8; ((with_reducible refine (HND.out _).mono ?_); rintro e w4 ⟨ab, lb, cb, ap, cp, rfl, hS, hb⟩; have HB := Lib.hid (Below.next HB.out hb); have HS := Lib.hid hS; clear hb hS)) | fail)
  refine wp_cut (fun a' W => a'.defers = [] ∧ a'.tmps.size = 160 ∧ a'.tmps.getD 0 undef = .string t ∧ a'.tmps.getD 1 undef = .string key ∧ a'.tmps.getD 2 undef = .string y ∧ a'.tmps.getD 3 undef = .string v ∧ a'.tmps.getD 4 undef = .int .u64 n ∧ a'.tmps.getD 5 undef = .int .u64 m ∧ a'.tmps.getD 12 undef = .bool false ∧ a'.tmps.getD 105 undef = .bool false ∧ Below w.heap.size w W) ?_ ?_
  rotate_left
  · intro J0 KK hJ0 hKK
    rcases HCASE.out with h9 | ⟨rfl, p0, p1, rfl, hc⟩
    · have HSG := Lib.hid (fun w => signed_v t key y HTM.out HX.out (r := false) (by unfold signedR; simp [h9]) w)
      have e9 : ((k : Int) == 9) = false := b_ne (by omega)
      have hbx := heap_alloc_new w4 (.cells #[.int .i64 k, .int .u64 n0, .slice ab lb cb, .slice ap m9 cp] 27)
      have c0 : ((w4.alloc (.cells #[.int .i64 k, .int .u64 n0, .slice ab lb cb, .slice ap m9 cp] 27)).drew).cell? ⟨w4.heap.size, 0, none⟩ = some (.int .i64 k) := cell_of hbx 0 rfl
      have HB : Hid (Below w.heap.size w ((w4.alloc (.cells #[.int .i64 k, .int .u64 n0, .slice ab lb cb, .slice ap m9 cp] 27)).drew)) := Lib.hid ((HB.out.alloc HB.out.size _).drew)
      clear hbx h9
      refine wp_region_held_drew (S := (fun W => W.cell? ⟨w4.heap.size, 0, none⟩ = some (.int .i64 k))) (by kernel_rfl) ?_ (fun hHeld0 => ?_)
      · (try dsimp only); exact c0
      first
      | (refine wpAnyH_take (i := 0) (oi := { dst := some 63, op := Go.Op.move (Go.Operand.tmp 13), type := 9, pos := "law.go:64", after := #[], guard := none }) (v := ?_) rfl (by kernel_rfl) (by kernel_rfl) (by kernel_rfl) (fun _ _ _ h => h) (Or.inl ⟨by rfl, ?_⟩) hHeld0 ?_
         rotate_left
         · ((intro w hSw; (try dsimp only at hSw); go_simp) <;> with_reducible rfl))
      | (refine wpAnyH_take (i := 0) (oi := { dst := some 63, op := Go.Op.move (Go.Operand.tmp 13), type := 9, pos := "law.go:64", after := #[], guard := none }) (v := undef) rfl (by kernel_rfl) (by kernel_rfl) (by kernel_rfl) (fun _ _ _ h => h) (Or.inr ⟨by rfl, rfl⟩) hHeld0 ?_)
      try simp only [Act.put, List.setIfInBounds_toArray, List.set_cons_zero, List.set_cons_succ]
      first
      | (refine wpAnyH_take (i := 1) (oi := { dst := some 64, op := Go.Op.move (Go.Operand.tmp 15), type := 9, pos := "law.go:64", after := #[], guard := none }) (v := ?_) rfl (by kernel_rfl) (by kernel_rfl) (by kernel_rfl) (fun _ _ _ h => h) (Or.inl ⟨by rfl, ?_⟩) hHeld0 ?_
         rotate_left
         · ((intro w hSw; (try dsimp only at hSw); go_simp) <;> with_reducible rfl))
      | (refine wpAnyH_take (i := 1) (oi := { dst := some 64, op := Go.Op.move (Go.Operand.tmp 15), type := 9, pos := "law.go:64", after := #[], guard := none }) (v := undef) rfl (by kernel_rfl) (by kernel_rfl) (by kernel_rfl) (fun _ _ _ h => h) (Or.inr ⟨by rfl, rfl⟩) hHeld0 ?_)
      try simp only [Act.put, List.setIfInBounds_toArray, List.set_cons_zero, List.set_cons_succ]
      first
      | (refine wpAnyH_take (i := 2) (oi := { dst := some 65, op := Go.Op.binOp Go.BinOp.neq 9 (Go.Operand.tmp 63) (Go.Operand.tmp 64) 9, type := 4, pos := "law.go:64", after := #[{ on := 0, ground := Go.Ground.data }, { on := 1, ground := Go.Ground.data }], guard := none }) (v := ?_) rfl (by kernel_rfl) (by kernel_rfl) (by kernel_rfl) (fun _ _ _ h => h) (Or.inl ⟨by rfl, ?_⟩) hHeld0 ?_
         rotate_left
         · ((intro w hSw; (try dsimp only at hSw); go_simp) <;> with_reducible rfl))
      | (refine wpAnyH_take (i := 2) (oi := { dst := some 65, op := Go.Op.binOp Go.BinOp.neq 9 (Go.Operand.tmp 63) (Go.Operand.tmp 64) 9, type := 4, pos := "law.go:64", after := #[{ on := 0, ground := Go.Ground.data }, { on := 1, ground := Go.Ground.data }], guard := none }) (v := undef) rfl (by kernel_rfl) (by kernel_rfl) (by kernel_rfl) (fun _ _ _ h => h) (Or.inr ⟨by rfl, rfl⟩) hHeld0 ?_)
      try simp only [Act.put, List.setIfInBounds_toArray, List.set_cons_zero, List.set_cons_succ]
      first
      | (refine wpAnyH_take (i := 3) (oi := { dst := some 66, op := Go.Op.move (Go.Operand.tmp 65), type := 4, pos := "law.go:64", after := #[{ on := 2, ground := Go.Ground.data }], guard := none }) (v := ?_) rfl (by kernel_rfl) (by kernel_rfl) (by kernel_rfl) (fun _ _ _ h => h) (Or.inl ⟨by rfl, ?_⟩) hHeld0 ?_
         rotate_left
         · ((intro w hSw; (try dsimp only at hSw); go_simp) <;> with_reducible rfl))
      | (refine wpAnyH_take (i := 3) (oi := { dst := some 66, op := Go.Op.move (Go.Operand.tmp 65), type := 4, pos := "law.go:64", after := #[{ on := 2, ground := Go.Ground.data }], guard := none }) (v := undef) rfl (by kernel_rfl) (by kernel_rfl) (by kernel_rfl) (fun _ _ _ h => h) (Or.inr ⟨by rfl, rfl⟩) hHeld0 ?_)
      try simp only [Act.put, List.setIfInBounds_toArray, List.set_cons_zero, List.set_cons_succ]
      first
      | (refine wpAnyH_take (i := 4) (oi := { dst := some 67, op := Go.Op.move (Go.Operand.tmp 14), type := 42, pos := "law.go:64", after := #[{ on := 3, ground := Go.Ground.guard }], guard := some (3, false) }) (v := ?_) rfl (by kernel_rfl) (by kernel_rfl) (by kernel_rfl) (fun _ _ _ h => h) (Or.inl ⟨by rfl, ?_⟩) hHeld0 ?_
         rotate_left
         · ((intro w hSw; (try dsimp only at hSw); go_simp) <;> with_reducible rfl))
      | (refine wpAnyH_take (i := 4) (oi := { dst := some 67, op := Go.Op.move (Go.Operand.tmp 14), type := 42, pos := "law.go:64", after := #[{ on := 3, ground := Go.Ground.guard }], guard := some (3, false) }) (v := undef) rfl (by kernel_rfl) (by kernel_rfl) (by kernel_rfl) (fun _ _ _ h => h) (Or.inr ⟨by rfl, rfl⟩) hHeld0 ?_)
      try simp only [Act.put, List.setIfInBounds_toArray, List.set_cons_zero, List.set_cons_succ]
      first
      | (refine wpAnyH_take (i := 5) (oi := { dst := some 68, op := Go.Op.move (Go.Operand.tmp 16), type := 42, pos := "law.go:64", after := #[{ on := 3, ground := Go.Ground.guard }], guard := some (3, false) }) (v := ?_) rfl (by kernel_rfl) (by kernel_rfl) (by kernel_rfl) (fun _ _ _ h => h) (Or.inl ⟨by rfl, ?_⟩) hHeld0 ?_
         rotate_left
         · ((intro w hSw; (try dsimp only at hSw); go_simp) <;> with_reducible rfl))
      | (refine wpAnyH_take (i := 5) (oi := { dst := some 68, op := Go.Op.move (Go.Operand.tmp 16), type := 42, pos := "law.go:64", after := #[{ on := 3, ground := Go.Ground.guard }], guard := some (3, false) }) (v := undef) rfl (by kernel_rfl) (by kernel_rfl) (by kernel_rfl) (fun _ _ _ h => h) (Or.inr ⟨by rfl, rfl⟩) hHeld0 ?_)
      try simp only [Act.put, List.setIfInBounds_toArray, List.set_cons_zero, List.set_cons_succ]
      first
      | (refine wpAnyH_take (i := 6) (oi := { dst := some 69, op := Go.Op.binOp Go.BinOp.neq 42 (Go.Operand.tmp 67) (Go.Operand.tmp 68) 42, type := 4, pos := "law.go:64", after := #[{ on := 4, ground := Go.Ground.data }, { on := 5, ground := Go.Ground.data }, { on := 3, ground := Go.Ground.guard }], guard := some (3, false) }) (v := ?_) rfl (by kernel_rfl) (by kernel_rfl) (by kernel_rfl) (fun _ _ _ h => h) (Or.inl ⟨by rfl, ?_⟩) hHeld0 ?_
         rotate_left
         · ((intro w hSw; (try dsimp only at hSw); go_simp) <;> with_reducible rfl))
      | (refine wpAnyH_take (i := 6) (oi := { dst := some 69, op := Go.Op.binOp Go.BinOp.neq 42 (Go.Operand.tmp 67) (Go.Operand.tmp 68) 42, type := 4, pos := "law.go:64", after := #[{ on := 4, ground := Go.Ground.data }, { on := 5, ground := Go.Ground.data }, { on := 3, ground := Go.Ground.guard }], guard := some (3, false) }) (v := undef) rfl (by kernel_rfl) (by kernel_rfl) (by kernel_rfl) (fun _ _ _ h => h) (Or.inr ⟨by rfl, rfl⟩) hHeld0 ?_)
      try simp only [Act.put, List.setIfInBounds_toArray, List.set_cons_zero, List.set_cons_succ]
      first
      | (refine wpAnyH_take (i := 7) (oi := { dst := some 70, op := Go.Op.pick (Go.Operand.tmp 66) (Go.Operand.const (Go.Value.bool true)) (Go.Operand.tmp 69), type := 4, pos := "law.go:64", after := #[{ on := 3, ground := Go.Ground.data }, { on := 6, ground := Go.Ground.data }], guard := none }) (v := ?_) rfl (by kernel_rfl) (by kernel_rfl) (by kernel_rfl) (fun _ _ _ h => h) (Or.inl ⟨by rfl, ?_⟩) hHeld0 ?_
         rotate_left
         · ((intro w hSw; (try dsimp only at hSw); go_simp) <;> with_reducible rfl))
      | (refine wpAnyH_take (i := 7) (oi := { dst := some 70, op := Go.Op.pick (Go.Operand.tmp 66) (Go.Operand.const (Go.Value.bool true)) (Go.Operand.tmp 69), type := 4, pos := "law.go:64", after := #[{ on := 3, ground := Go.Ground.data }, { on := 6, ground := Go.Ground.data }], guard := none }) (v := undef) rfl (by kernel_rfl) (by kernel_rfl) (by kernel_rfl) (fun _ _ _ h => h) (Or.inr ⟨by rfl, rfl⟩) hHeld0 ?_)
      try simp only [Act.put, List.setIfInBounds_toArray, List.set_cons_zero, List.set_cons_succ]
      first
      | (refine wpAnyH_take (i := 8) (oi := { dst := some 71, op := Go.Op.move (Go.Operand.tmp 70), type := 4, pos := "law.go:64", after := #[{ on := 7, ground := Go.Ground.data }, { on := 3, ground := Go.Ground.chain }], guard := none }) (v := ?_) rfl (by kernel_rfl) (by kernel_rfl) (by kernel_rfl) (fun _ _ _ h => h) (Or.inl ⟨by rfl, ?_⟩) hHeld0 ?_
         rotate_left
         · ((intro w hSw; (try dsimp only at hSw); go_simp) <;> with_reducible rfl))
      | (refine wpAnyH_take (i := 8) (oi := { dst := some 71, op := Go.Op.move (Go.Operand.tmp 70), type := 4, pos := "law.go:64", after := #[{ on := 7, ground := Go.Ground.data }, { on := 3, ground := Go.Ground.chain }], guard := none }) (v := undef) rfl (by kernel_rfl) (by kernel_rfl) (by kernel_rfl) (fun _ _ _ h => h) (Or.inr ⟨by rfl, rfl⟩) hHeld0 ?_)
      try simp only [Act.put, List.setIfInBounds_toArray, List.set_cons_zero, List.set_cons_succ]
      first
      | (refine wpAnyH_take (i := 9) (oi := { dst := some 72, op := Go.Op.move (Go.Operand.tmp 0), type := 9, pos := "law.go:64", after := #[{ on := 8, ground := Go.Ground.guard }], guard := some (8, false) }) (v := ?_) rfl (by kernel_rfl) (by kernel_rfl) (by kernel_rfl) (fun _ _ _ h => h) (Or.inl ⟨by rfl, ?_⟩) hHeld0 ?_
         rotate_left
         · ((intro w hSw; (try dsimp only at hSw); go_simp) <;> with_reducible rfl))
      | (refine wpAnyH_take (i := 9) (oi := { dst := some 72, op := Go.Op.move (Go.Operand.tmp 0), type := 9, pos := "law.go:64", after := #[{ on := 8, ground := Go.Ground.guard }], guard := some (8, false) }) (v := undef) rfl (by kernel_rfl) (by kernel_rfl) (by kernel_rfl) (fun _ _ _ h => h) (Or.inr ⟨by rfl, rfl⟩) hHeld0 ?_)
      try simp only [Act.put, List.setIfInBounds_toArray, List.set_cons_zero, List.set_cons_succ]
      first
      | (refine wpAnyH_take (i := 10) (oi := { dst := some 73, op := Go.Op.move (Go.Operand.tmp 1), type := 9, pos := "law.go:64", after := #[{ on := 8, ground := Go.Ground.guard }], guard := some (8, false) }) (v := ?_) rfl (by kernel_rfl) (by kernel_rfl) (by kernel_rfl) (fun _ _ _ h => h) (Or.inl ⟨by rfl, ?_⟩) hHeld0 ?_
         rotate_left
         · ((intro w hSw; (try dsimp only at hSw); go_simp) <;> with_reducible rfl))
      | (refine wpAnyH_take (i := 10) (oi := { dst := some 73, op := Go.Op.move (Go.Operand.tmp 1), type := 9, pos := "law.go:64", after := #[{ on := 8, ground := Go.Ground.guard }], guard := some (8, false) }) (v := undef) rfl (by kernel_rfl) (by kernel_rfl) (by kernel_rfl) (fun _ _ _ h => h) (Or.inr ⟨by rfl, rfl⟩) hHeld0 ?_)
      try simp only [Act.put, List.setIfInBounds_toArray, List.set_cons_zero, List.set_cons_succ]
      first
      | (refine wpAnyH_take (i := 11) (oi := { dst := some 74, op := Go.Op.move (Go.Operand.tmp 2), type := 9, pos := "law.go:64", after := #[{ on := 8, ground := Go.Ground.guard }], guard := some (8, false) }) (v := ?_) rfl (by kernel_rfl) (by kernel_rfl) (by kernel_rfl) (fun _ _ _ h => h) (Or.inl ⟨by rfl, ?_⟩) hHeld0 ?_
         rotate_left
         · ((intro w hSw; (try dsimp only at hSw); go_simp) <;> with_reducible rfl))
      | (refine wpAnyH_take (i := 11) (oi := { dst := some 74, op := Go.Op.move (Go.Operand.tmp 2), type := 9, pos := "law.go:64", after := #[{ on := 8, ground := Go.Ground.guard }], guard := some (8, false) }) (v := undef) rfl (by kernel_rfl) (by kernel_rfl) (by kernel_rfl) (fun _ _ _ h => h) (Or.inr ⟨by rfl, rfl⟩) hHeld0 ?_)
      try simp only [Act.put, List.setIfInBounds_toArray, List.set_cons_zero, List.set_cons_succ]
      first
      | (refine wpAnyH_take (i := 13) (oi := { dst := some 76, op := Go.Op.fieldAddr 27 (Go.Operand.tmp 17) 0, type := 0, pos := "law.go:64", after := #[{ on := 8, ground := Go.Ground.guard }], guard := some (8, false) }) (v := ?_) rfl (by kernel_rfl) (by kernel_rfl) (by kernel_rfl) (fun _ _ _ h => h) (Or.inl ⟨by rfl, ?_⟩) hHeld0 ?_
         rotate_left
         · ((intro w hSw; (try dsimp only at hSw); go_simp) <;> with_reducible rfl))
      | (refine wpAnyH_take (i := 13) (oi := { dst := some 76, op := Go.Op.fieldAddr 27 (Go.Operand.tmp 17) 0, type := 0, pos := "law.go:64", after := #[{ on := 8, ground := Go.Ground.guard }], guard := some (8, false) }) (v := undef) rfl (by kernel_rfl) (by kernel_rfl) (by kernel_rfl) (fun _ _ _ h => h) (Or.inr ⟨by rfl, rfl⟩) hHeld0 ?_)
      try simp only [Act.put, List.setIfInBounds_toArray, List.set_cons_zero, List.set_cons_succ]
      first
      | (refine wpAnyH_take (i := 14) (oi := { dst := some 77, op := Go.Op.load 3 (Go.Operand.tmp 76), type := 3, pos := "law.go:64", after := #[{ on := 13, ground := Go.Ground.data }, { on := 8, ground := Go.Ground.guard }], guard := some (8, false) }) (v := ?_) rfl (by kernel_rfl) (by kernel_rfl) (by kernel_rfl) (fun _ _ _ h => h) (Or.inl ⟨by rfl, ?_⟩) hHeld0 ?_
         rotate_left
         · ((intro w hSw; (try dsimp only at hSw); go_simp) <;> with_reducible rfl))
      | (refine wpAnyH_take (i := 14) (oi := { dst := some 77, op := Go.Op.load 3 (Go.Operand.tmp 76), type := 3, pos := "law.go:64", after := #[{ on := 13, ground := Go.Ground.data }, { on := 8, ground := Go.Ground.guard }], guard := some (8, false) }) (v := undef) rfl (by kernel_rfl) (by kernel_rfl) (by kernel_rfl) (fun _ _ _ h => h) (Or.inr ⟨by rfl, rfl⟩) hHeld0 ?_)
      try simp only [Act.put, List.setIfInBounds_toArray, List.set_cons_zero, List.set_cons_succ]
      first
      | (refine wpAnyH_take (i := 15) (oi := { dst := some 78, op := Go.Op.binOp Go.BinOp.eql 3 (Go.Operand.tmp 77) (Go.Operand.const (Go.Value.int Go.IntKind.i64 9)) 3, type := 4, pos := "law.go:64", after := #[{ on := 14, ground := Go.Ground.data }, { on := 8, ground := Go.Ground.guard }], guard := some (8, false) }) (v := ?_) rfl (by kernel_rfl) (by kernel_rfl) (by kernel_rfl) (fun _ _ _ h => h) (Or.inl ⟨by rfl, ?_⟩) hHeld0 ?_
         rotate_left
         · ((intro w hSw; (try dsimp only at hSw); go_simp) <;> with_reducible rfl))
      | (refine wpAnyH_take (i := 15) (oi := { dst := some 78, op := Go.Op.binOp Go.BinOp.eql 3 (Go.Operand.tmp 77) (Go.Operand.const (Go.Value.int Go.IntKind.i64 9)) 3, type := 4, pos := "law.go:64", after := #[{ on := 14, ground := Go.Ground.data }, { on := 8, ground := Go.Ground.guard }], guard := some (8, false) }) (v := undef) rfl (by kernel_rfl) (by kernel_rfl) (by kernel_rfl) (fun _ _ _ h => h) (Or.inr ⟨by rfl, rfl⟩) hHeld0 ?_)
      try simp only [Act.put, List.setIfInBounds_toArray, List.set_cons_zero, List.set_cons_succ]
      refine wpAnyH_ready (rs := [12]) (by kernel_rfl) (by simp) ?_
      refine AllReadyH.cons (o := { dst := some 75, op := Go.Op.call { callee := Go.Callee.value (Go.Operand.func 20), args := #[Go.Operand.tmp 72, Go.Operand.tmp 73, Go.Operand.tmp 74], argTypes := #[9, 9, 9] }, type := 4, pos := "law.go:64", after := #[{ on := 9, ground := Go.Ground.data }, { on := 10, ground := Go.Ground.data }, { on := 11, ground := Go.Ground.data }, { on := 8, ground := Go.Ground.chain }, { on := 8, ground := Go.Ground.guard }], guard := some (8, false) }) rfl (fun Kr12 hK => ?_) AllReadyH.nil
      go_simp
      (go_at_call 20; (with_reducible refine (HSG.out _).mono ?_); rintro e wn ⟨rfl, hb⟩)
      refine hK.out _ _ ?_ (fun hHeld1 => ?_)
      · (try dsimp only); exact cell_keep hHeld0 hb
      have HB := Lib.hid (Below.next HB.out hb)
      clear hK Kr12 hHeld0
      try simp only [Act.put, List.setIfInBounds_toArray, List.set_cons_zero, List.set_cons_succ]
      first
      | (refine wpAnyH_take (i := 16) (oi := { dst := some 79, op := Go.Op.move (Go.Operand.tmp 78), type := 4, pos := "law.go:64", after := #[{ on := 15, ground := Go.Ground.data }, { on := 12, ground := Go.Ground.chain }, { on := 8, ground := Go.Ground.guard }], guard := some (8, false) }) (v := ?_) rfl (by kernel_rfl) (by kernel_rfl) (by kernel_rfl) (fun _ _ _ h => h) (Or.inl ⟨by rfl, ?_⟩) hHeld1 ?_
         rotate_left
         · ((intro w hSw; (try dsimp only at hSw); go_simp) <;> with_reducible rfl))
      | (refine wpAnyH_take (i := 16) (oi := { dst := some 79, op := Go.Op.move (Go.Operand.tmp 78), type := 4, pos := "law.go:64", after := #[{ on := 15, ground := Go.Ground.data }, { on := 12, ground := Go.Ground.chain }, { on := 8, ground := Go.Ground.guard }], guard := some (8, false) }) (v := undef) rfl (by kernel_rfl) (by kernel_rfl) (by kernel_rfl) (fun _ _ _ h => h) (Or.inr ⟨by rfl, rfl⟩) hHeld1 ?_)
      try simp only [Act.put, List.setIfInBounds_toArray, List.set_cons_zero, List.set_cons_succ]
      first
      | (refine wpAnyH_take (i := 17) (oi := { dst := some 80, op := Go.Op.fieldAddr 27 (Go.Operand.tmp 17) 3, type := 0, pos := "law.go:64", after := #[{ on := 16, ground := Go.Ground.guard }], guard := some (16, true) }) (v := ?_) rfl (by kernel_rfl) (by kernel_rfl) (by kernel_rfl) (fun _ _ _ h => h) (Or.inl ⟨by rfl, ?_⟩) hHeld1 ?_
         rotate_left
         · ((intro w hSw; (try dsimp only at hSw); go_simp) <;> with_reducible rfl))
      | (refine wpAnyH_take (i := 17) (oi := { dst := some 80, op := Go.Op.fieldAddr 27 (Go.Operand.tmp 17) 3, type := 0, pos := "law.go:64", after := #[{ on := 16, ground := Go.Ground.guard }], guard := some (16, true) }) (v := undef) rfl (by kernel_rfl) (by kernel_rfl) (by kernel_rfl) (fun _ _ _ h => h) (Or.inr ⟨by rfl, rfl⟩) hHeld1 ?_)
      try simp only [Act.put, List.setIfInBounds_toArray, List.set_cons_zero, List.set_cons_succ]
      first
      | (refine wpAnyH_take (i := 18) (oi := { dst := some 81, op := Go.Op.load 25 (Go.Operand.tmp 80), type := 25, pos := "law.go:64", after := #[{ on := 17, ground := Go.Ground.data }, { on := 16, ground := Go.Ground.guard }], guard := some (16, true) }) (v := ?_) rfl (by kernel_rfl) (by kernel_rfl) (by kernel_rfl) (fun _ _ _ h => h) (Or.inl ⟨by rfl, ?_⟩) hHeld1 ?_
         rotate_left
         · ((intro w hSw; (try dsimp only at hSw); go_simp) <;> with_reducible rfl))
      | (refine wpAnyH_take (i := 18) (oi := { dst := some 81, op := Go.Op.load 25 (Go.Operand.tmp 80), type := 25, pos := "law.go:64", after := #[{ on := 17, ground := Go.Ground.data }, { on := 16, ground := Go.Ground.guard }], guard := some (16, true) }) (v := undef) rfl (by kernel_rfl) (by kernel_rfl) (by kernel_rfl) (fun _ _ _ h => h) (Or.inr ⟨by rfl, rfl⟩) hHeld1 ?_)
      try simp only [Act.put, List.setIfInBounds_toArray, List.set_cons_zero, List.set_cons_succ]
      first
      | (refine wpAnyH_take (i := 19) (oi := { dst := some 82, op := Go.Op.indexAddr 25 (Go.Operand.tmp 81) (Go.Operand.const (Go.Value.int Go.IntKind.i64 0)), type := 0, pos := "law.go:64", after := #[{ on := 18, ground := Go.Ground.data }, { on := 16, ground := Go.Ground.guard }], guard := some (16, true) }) (v := ?_) rfl (by kernel_rfl) (by kernel_rfl) (by kernel_rfl) (fun _ _ _ h => h) (Or.inl ⟨by rfl, ?_⟩) hHeld1 ?_
         rotate_left
         · ((intro w hSw; (try dsimp only at hSw); go_simp) <;> with_reducible rfl))
      | (refine wpAnyH_take (i := 19) (oi := { dst := some 82, op := Go.Op.indexAddr 25 (Go.Operand.tmp 81) (Go.Operand.const (Go.Value.int Go.IntKind.i64 0)), type := 0, pos := "law.go:64", after := #[{ on := 18, ground := Go.Ground.data }, { on := 16, ground := Go.Ground.guard }], guard := some (16, true) }) (v := undef) rfl (by kernel_rfl) (by kernel_rfl) (by kernel_rfl) (fun _ _ _ h => h) (Or.inr ⟨by rfl, rfl⟩) hHeld1 ?_)
      try simp only [Act.put, List.setIfInBounds_toArray, List.set_cons_zero, List.set_cons_succ]
      first
      | (refine wpAnyH_take (i := 20) (oi := { dst := some 83, op := Go.Op.load 9 (Go.Operand.tmp 82), type := 9, pos := "law.go:64", after := #[{ on := 19, ground := Go.Ground.data }, { on := 16, ground := Go.Ground.guard }], guard := some (16, true) }) (v := ?_) rfl (by kernel_rfl) (by kernel_rfl) (by kernel_rfl) (fun _ _ _ h => h) (Or.inl ⟨by rfl, ?_⟩) hHeld1 ?_
         rotate_left
         · ((intro w hSw; (try dsimp only at hSw); go_simp) <;> with_reducible rfl))
      | (refine wpAnyH_take (i := 20) (oi := { dst := some 83, op := Go.Op.load 9 (Go.Operand.tmp 82), type := 9, pos := "law.go:64", after := #[{ on := 19, ground := Go.Ground.data }, { on := 16, ground := Go.Ground.guard }], guard := some (16, true) }) (v := undef) rfl (by kernel_rfl) (by kernel_rfl) (by kernel_rfl) (fun _ _ _ h => h) (Or.inr ⟨by rfl, rfl⟩) hHeld1 ?_)
      try simp only [Act.put, List.setIfInBounds_toArray, List.set_cons_zero, List.set_cons_succ]
      first
      | (refine wpAnyH_take (i := 21) (oi := { dst := some 84, op := Go.Op.move (Go.Operand.tmp 1), type := 9, pos := "law.go:64", after := #[{ on := 16, ground := Go.Ground.guard }], guard := some (16, true) }) (v := ?_) rfl (by kernel_rfl) (by kernel_rfl) (by kernel_rfl) (fun _ _ _ h => h) (Or.inl ⟨by rfl, ?_⟩) hHeld1 ?_
         rotate_left
         · ((intro w hSw; (try dsimp only at hSw); go_simp) <;> with_reducible rfl))
      | (refine wpAnyH_take (i := 21) (oi := { dst := some 84, op := Go.Op.move (Go.Operand.tmp 1), type := 9, pos := "law.go:64", after := #[{ on := 16, ground := Go.Ground.guard }], guard := some (16, true) }) (v := undef) rfl (by kernel_rfl) (by kernel_rfl) (by kernel_rfl) (fun _ _ _ h => h) (Or.inr ⟨by rfl, rfl⟩) hHeld1 ?_)
      try simp only [Act.put, List.setIfInBounds_toArray, List.set_cons_zero, List.set_cons_succ]
      first
      | (refine wpAnyH_take (i := 22) (oi := { dst := some 85, op := Go.Op.binOp Go.BinOp.eql 9 (Go.Operand.tmp 83) (Go.Operand.tmp 84) 9, type := 4, pos := "law.go:64", after := #[{ on := 20, ground := Go.Ground.data }, { on := 21, ground := Go.Ground.data }, { on := 16, ground := Go.Ground.guard }], guard := some (16, true) }) (v := ?_) rfl (by kernel_rfl) (by kernel_rfl) (by kernel_rfl) (fun _ _ _ h => h) (Or.inl ⟨by rfl, ?_⟩) hHeld1 ?_
         rotate_left
         · ((intro w hSw; (try dsimp only at hSw); go_simp) <;> with_reducible rfl))
      | (refine wpAnyH_take (i := 22) (oi := { dst := some 85, op := Go.Op.binOp Go.BinOp.eql 9 (Go.Operand.tmp 83) (Go.Operand.tmp 84) 9, type := 4, pos := "law.go:64", after := #[{ on := 20, ground := Go.Ground.data }, { on := 21, ground := Go.Ground.data }, { on := 16, ground := Go.Ground.guard }], guard := some (16, true) }) (v := undef) rfl (by kernel_rfl) (by kernel_rfl) (by kernel_rfl) (fun _ _ _ h => h) (Or.inr ⟨by rfl, rfl⟩) hHeld1 ?_)
      try simp only [Act.put, List.setIfInBounds_toArray, List.set_cons_zero, List.set_cons_succ]
      first
      | (refine wpAnyH_take (i := 23) (oi := { dst := some 86, op := Go.Op.pick (Go.Operand.tmp 79) (Go.Operand.tmp 85) (Go.Operand.const (Go.Value.bool false)), type := 4, pos := "law.go:64", after := #[{ on := 16, ground := Go.Ground.data }, { on := 22, ground := Go.Ground.data }, { on := 8, ground := Go.Ground.guard }], guard := some (8, false) }) (v := ?_) rfl (by kernel_rfl) (by kernel_rfl) (by kernel_rfl) (fun _ _ _ h => h) (Or.inl ⟨by rfl, ?_⟩) hHeld1 ?_
         rotate_left
         · ((intro w hSw; (try dsimp only at hSw); go_simp) <;> with_reducible rfl))
      | (refine wpAnyH_take (i := 23) (oi := { dst := some 86, op := Go.Op.pick (Go.Operand.tmp 79) (Go.Operand.tmp 85) (Go.Operand.const (Go.Value.bool false)), type := 4, pos := "law.go:64", after := #[{ on := 16, ground := Go.Ground.data }, { on := 22, ground := Go.Ground.data }, { on := 8, ground := Go.Ground.guard }], guard := some (8, false) }) (v := undef) rfl (by kernel_rfl) (by kernel_rfl) (by kernel_rfl) (fun _ _ _ h => h) (Or.inr ⟨by rfl, rfl⟩) hHeld1 ?_)
      try simp only [Act.put, List.setIfInBounds_toArray, List.set_cons_zero, List.set_cons_succ]
      first
      | (refine wpAnyH_take (i := 24) (oi := { dst := some 87, op := Go.Op.move (Go.Operand.tmp 86), type := 4, pos := "law.go:64", after := #[{ on := 23, ground := Go.Ground.data }, { on := 16, ground := Go.Ground.chain }, { on := 8, ground := Go.Ground.guard }], guard := some (8, false) }) (v := ?_) rfl (by kernel_rfl) (by kernel_rfl) (by kernel_rfl) (fun _ _ _ h => h) (Or.inl ⟨by rfl, ?_⟩) hHeld1 ?_
         rotate_left
         · ((intro w hSw; (try dsimp only at hSw); go_simp) <;> with_reducible rfl))
      | (refine wpAnyH_take (i := 24) (oi := { dst := some 87, op := Go.Op.move (Go.Operand.tmp 86), type := 4, pos := "law.go:64", after := #[{ on := 23, ground := Go.Ground.data }, { on := 16, ground := Go.Ground.chain }, { on := 8, ground := Go.Ground.guard }], guard := some (8, false) }) (v := undef) rfl (by kernel_rfl) (by kernel_rfl) (by kernel_rfl) (fun _ _ _ h => h) (Or.inr ⟨by rfl, rfl⟩) hHeld1 ?_)
      try simp only [Act.put, List.setIfInBounds_toArray, List.set_cons_zero, List.set_cons_succ]
      first
      | (refine wpAnyH_take (i := 25) (oi := { dst := some 88, op := Go.Op.fieldAddr 27 (Go.Operand.tmp 17) 3, type := 0, pos := "law.go:64", after := #[{ on := 24, ground := Go.Ground.guard }], guard := some (24, true) }) (v := ?_) rfl (by kernel_rfl) (by kernel_rfl) (by kernel_rfl) (fun _ _ _ h => h) (Or.inl ⟨by rfl, ?_⟩) hHeld1 ?_
         rotate_left
         · ((intro w hSw; (try dsimp only at hSw); go_simp) <;> with_reducible rfl))
      | (refine wpAnyH_take (i := 25) (oi := { dst := some 88, op := Go.Op.fieldAddr 27 (Go.Operand.tmp 17) 3, type := 0, pos := "law.go:64", after := #[{ on := 24, ground := Go.Ground.guard }], guard := some (24, true) }) (v := undef) rfl (by kernel_rfl) (by kernel_rfl) (by kernel_rfl) (fun _ _ _ h => h) (Or.inr ⟨by rfl, rfl⟩) hHeld1 ?_)
      try simp only [Act.put, List.setIfInBounds_toArray, List.set_cons_zero, List.set_cons_succ]
      first
      | (refine wpAnyH_take (i := 26) (oi := { dst := some 89, op := Go.Op.load 25 (Go.Operand.tmp 88), type := 25, pos := "law.go:64", after := #[{ on := 25, ground := Go.Ground.data }, { on := 24, ground := Go.Ground.guard }], guard := some (24, true) }) (v := ?_) rfl (by kernel_rfl) (by kernel_rfl) (by kernel_rfl) (fun _ _ _ h => h) (Or.inl ⟨by rfl, ?_⟩) hHeld1 ?_
         rotate_left
         · ((intro w hSw; (try dsimp only at hSw); go_simp) <;> with_reducible rfl))
      | (refine wpAnyH_take (i := 26) (oi := { dst := some 89, op := Go.Op.load 25 (Go.Operand.tmp 88), type := 25, pos := "law.go:64", after := #[{ on := 25, ground := Go.Ground.data }, { on := 24, ground := Go.Ground.guard }], guard := some (24, true) }) (v := undef) rfl (by kernel_rfl) (by kernel_rfl) (by kernel_rfl) (fun _ _ _ h => h) (Or.inr ⟨by rfl, rfl⟩) hHeld1 ?_)
      try simp only [Act.put, List.setIfInBounds_toArray, List.set_cons_zero, List.set_cons_succ]
      first
      | (refine wpAnyH_take (i := 27) (oi := { dst := some 90, op := Go.Op.indexAddr 25 (Go.Operand.tmp 89) (Go.Operand.const (Go.Value.int Go.IntKind.i64 1)), type := 0, pos := "law.go:64", after := #[{ on := 26, ground := Go.Ground.data }, { on := 24, ground := Go.Ground.guard }], guard := some (24, true) }) (v := ?_) rfl (by kernel_rfl) (by kernel_rfl) (by kernel_rfl) (fun _ _ _ h => h) (Or.inl ⟨by rfl, ?_⟩) hHeld1 ?_
         rotate_left
         · ((intro w hSw; (try dsimp only at hSw); go_simp) <;> with_reducible rfl))
      | (refine wpAnyH_take (i := 27) (oi := { dst := some 90, op := Go.Op.indexAddr 25 (Go.Operand.tmp 89) (Go.Operand.const (Go.Value.int Go.IntKind.i64 1)), type := 0, pos := "law.go:64", after := #[{ on := 26, ground := Go.Ground.data }, { on := 24, ground := Go.Ground.guard }], guard := some (24, true) }) (v := undef) rfl (by kernel_rfl) (by kernel_rfl) (by kernel_rfl) (fun _ _ _ h => h) (Or.inr ⟨by rfl, rfl⟩) hHeld1 ?_)
      try simp only [Act.put, List.setIfInBounds_toArray, List.set_cons_zero, List.set_cons_succ]
      first
      | (refine wpAnyH_take (i := 28) (oi := { dst := some 91, op := Go.Op.load 9 (Go.Operand.tmp 90), type := 9, pos := "law.go:64", after := #[{ on := 27, ground := Go.Ground.data }, { on := 24, ground := Go.Ground.guard }], guard := some (24, true) }) (v := ?_) rfl (by kernel_rfl) (by kernel_rfl) (by kernel_rfl) (fun _ _ _ h => h) (Or.inl ⟨by rfl, ?_⟩) hHeld1 ?_
         rotate_left
         · ((intro w hSw; (try dsimp only at hSw); go_simp) <;> with_reducible rfl))
      | (refine wpAnyH_take (i := 28) (oi := { dst := some 91, op := Go.Op.load 9 (Go.Operand.tmp 90), type := 9, pos := "law.go:64", after := #[{ on := 27, ground := Go.Ground.data }, { on := 24, ground := Go.Ground.guard }], guard := some (24, true) }) (v := undef) rfl (by kernel_rfl) (by kernel_rfl) (by kernel_rfl) (fun _ _ _ h => h) (Or.inr ⟨by rfl, rfl⟩) hHeld1 ?_)
      try simp only [Act.put, List.setIfInBounds_toArray, List.set_cons_zero, List.set_cons_succ]
      first
      | (refine wpAnyH_take (i := 29) (oi := { dst := some 92, op := Go.Op.move (Go.Operand.tmp 2), type := 9, pos := "law.go:64", after := #[{ on := 24, ground := Go.Ground.guard }], guard := some (24, true) }) (v := ?_) rfl (by kernel_rfl) (by kernel_rfl) (by kernel_rfl) (fun _ _ _ h => h) (Or.inl ⟨by rfl, ?_⟩) hHeld1 ?_
         rotate_left
         · ((intro w hSw; (try dsimp only at hSw); go_simp) <;> with_reducible rfl))
      | (refine wpAnyH_take (i := 29) (oi := { dst := some 92, op := Go.Op.move (Go.Operand.tmp 2), type := 9, pos := "law.go:64", after := #[{ on := 24, ground := Go.Ground.guard }], guard := some (24, true) }) (v := undef) rfl (by kernel_rfl) (by kernel_rfl) (by kernel_rfl) (fun _ _ _ h => h) (Or.inr ⟨by rfl, rfl⟩) hHeld1 ?_)
      try simp only [Act.put, List.setIfInBounds_toArray, List.set_cons_zero, List.set_cons_succ]
      first
      | (refine wpAnyH_take (i := 30) (oi := { dst := some 93, op := Go.Op.binOp Go.BinOp.eql 9 (Go.Operand.tmp 91) (Go.Operand.tmp 92) 9, type := 4, pos := "law.go:64", after := #[{ on := 28, ground := Go.Ground.data }, { on := 29, ground := Go.Ground.data }, { on := 24, ground := Go.Ground.guard }], guard := some (24, true) }) (v := ?_) rfl (by kernel_rfl) (by kernel_rfl) (by kernel_rfl) (fun _ _ _ h => h) (Or.inl ⟨by rfl, ?_⟩) hHeld1 ?_
         rotate_left
         · ((intro w hSw; (try dsimp only at hSw); go_simp) <;> with_reducible rfl))
      | (refine wpAnyH_take (i := 30) (oi := { dst := some 93, op := Go.Op.binOp Go.BinOp.eql 9 (Go.Operand.tmp 91) (Go.Operand.tmp 92) 9, type := 4, pos := "law.go:64", after := #[{ on := 28, ground := Go.Ground.data }, { on := 29, ground := Go.Ground.data }, { on := 24, ground := Go.Ground.guard }], guard := some (24, true) }) (v := undef) rfl (by kernel_rfl) (by kernel_rfl) (by kernel_rfl) (fun _ _ _ h => h) (Or.inr ⟨by rfl, rfl⟩) hHeld1 ?_)
      try simp only [Act.put, List.setIfInBounds_toArray, List.set_cons_zero, List.set_cons_succ]
      first
      | (refine wpAnyH_take (i := 31) (oi := { dst := some 94, op := Go.Op.pick (Go.Operand.tmp 87) (Go.Operand.tmp 93) (Go.Operand.const (Go.Value.bool false)), type := 4, pos := "law.go:64", after := #[{ on := 24, ground := Go.Ground.data }, { on := 30, ground := Go.Ground.data }, { on := 8, ground := Go.Ground.guard }], guard := some (8, false) }) (v := ?_) rfl (by kernel_rfl) (by kernel_rfl) (by kernel_rfl) (fun _ _ _ h => h) (Or.inl ⟨by rfl, ?_⟩) hHeld1 ?_
         rotate_left
         · ((intro w hSw; (try dsimp only at hSw); go_simp) <;> with_reducible rfl))
      | (refine wpAnyH_take (i := 31) (oi := { dst := some 94, op := Go.Op.pick (Go.Operand.tmp 87) (Go.Operand.tmp 93) (Go.Operand.const (Go.Value.bool false)), type := 4, pos := "law.go:64", after := #[{ on := 24, ground := Go.Ground.data }, { on := 30, ground := Go.Ground.data }, { on := 8, ground := Go.Ground.guard }], guard := some (8, false) }) (v := undef) rfl (by kernel_rfl) (by kernel_rfl) (by kernel_rfl) (fun _ _ _ h => h) (Or.inr ⟨by rfl, rfl⟩) hHeld1 ?_)
      try simp only [Act.put, List.setIfInBounds_toArray, List.set_cons_zero, List.set_cons_succ]
      first
      | (refine wpAnyH_take (i := 32) (oi := { dst := some 95, op := Go.Op.binOp Go.BinOp.neq 4 (Go.Operand.tmp 75) (Go.Operand.tmp 94) 4, type := 4, pos := "law.go:64", after := #[{ on := 12, ground := Go.Ground.data }, { on := 31, ground := Go.Ground.data }, { on := 8, ground := Go.Ground.guard }], guard := some (8, false) }) (v := ?_) rfl (by kernel_rfl) (by kernel_rfl) (by kernel_rfl) (fun _ _ _ h => h) (Or.inl ⟨by rfl, ?_⟩) hHeld1 ?_
         rotate_left
         · ((intro w hSw; (try dsimp only at hSw); go_simp) <;> with_reducible rfl))
      | (refine wpAnyH_take (i := 32) (oi := { dst := some 95, op := Go.Op.binOp Go.BinOp.neq 4 (Go.Operand.tmp 75) (Go.Operand.tmp 94) 4, type := 4, pos := "law.go:64", after := #[{ on := 12, ground := Go.Ground.data }, { on := 31, ground := Go.Ground.data }, { on := 8, ground := Go.Ground.guard }], guard := some (8, false) }) (v := undef) rfl (by kernel_rfl) (by kernel_rfl) (by kernel_rfl) (fun _ _ _ h => h) (Or.inr ⟨by rfl, rfl⟩) hHeld1 ?_)
      try simp only [Act.put, List.setIfInBounds_toArray, List.set_cons_zero, List.set_cons_succ]
      first
      | (refine wpAnyH_take (i := 33) (oi := { dst := some 96, op := Go.Op.pick (Go.Operand.tmp 71) (Go.Operand.const (Go.Value.bool true)) (Go.Operand.tmp 95), type := 4, pos := "law.go:64", after := #[{ on := 8, ground := Go.Ground.data }, { on := 32, ground := Go.Ground.data }], guard := none }) (v := ?_) rfl (by kernel_rfl) (by kernel_rfl) (by kernel_rfl) (fun _ _ _ h => h) (Or.inl ⟨by rfl, ?_⟩) hHeld1 ?_
         rotate_left
         · ((intro w hSw; (try dsimp only at hSw); go_simp) <;> with_reducible rfl))
      | (refine wpAnyH_take (i := 33) (oi := { dst := some 96, op := Go.Op.pick (Go.Operand.tmp 71) (Go.Operand.const (Go.Value.bool true)) (Go.Operand.tmp 95), type := 4, pos := "law.go:64", after := #[{ on := 8, ground := Go.Ground.data }, { on := 32, ground := Go.Ground.data }], guard := none }) (v := undef) rfl (by kernel_rfl) (by kernel_rfl) (by kernel_rfl) (fun _ _ _ h => h) (Or.inr ⟨by rfl, rfl⟩) hHeld1 ?_)
      try simp only [Act.put, List.setIfInBounds_toArray, List.set_cons_zero, List.set_cons_succ]
      first
      | (refine wpAnyH_take (i := 34) (oi := { dst := some 97, op := Go.Op.move (Go.Operand.tmp 96), type := 4, pos := "law.go:64", after := #[{ on := 33, ground := Go.Ground.data }, { on := 24, ground := Go.Ground.chain }], guard := none }) (v := ?_) rfl (by kernel_rfl) (by kernel_rfl) (by kernel_rfl) (fun _ _ _ h => h) (Or.inl ⟨by rfl, ?_⟩) hHeld1 ?_
         rotate_left
         · ((intro w hSw; (try dsimp only at hSw); go_simp) <;> with_reducible rfl))
      | (refine wpAnyH_take (i := 34) (oi := { dst := some 97, op := Go.Op.move (Go.Operand.tmp 96), type := 4, pos := "law.go:64", after := #[{ on := 33, ground := Go.Ground.data }, { on := 24, ground := Go.Ground.chain }], guard := none }) (v := undef) rfl (by kernel_rfl) (by kernel_rfl) (by kernel_rfl) (fun _ _ _ h => h) (Or.inr ⟨by rfl, rfl⟩) hHeld1 ?_)
      try simp only [Act.put, List.setIfInBounds_toArray, List.set_cons_zero, List.set_cons_succ]
      first
      | (refine wpAnyH_take (i := 35) (oi := { dst := some 98, op := Go.Op.move (Go.Operand.tmp 0), type := 9, pos := "law.go:64", after := #[{ on := 34, ground := Go.Ground.guard }], guard := some (34, false) }) (v := ?_) rfl (by kernel_rfl) (by kernel_rfl) (by kernel_rfl) (fun _ _ _ h => h) (Or.inl ⟨by rfl, ?_⟩) hHeld1 ?_
         rotate_left
         · ((intro w hSw; (try dsimp only at hSw); go_simp) <;> with_reducible rfl))
      | (refine wpAnyH_take (i := 35) (oi := { dst := some 98, op := Go.Op.move (Go.Operand.tmp 0), type := 9, pos := "law.go:64", after := #[{ on := 34, ground := Go.Ground.guard }], guard := some (34, false) }) (v := undef) rfl (by kernel_rfl) (by kernel_rfl) (by kernel_rfl) (fun _ _ _ h => h) (Or.inr ⟨by rfl, rfl⟩) hHeld1 ?_)
      try simp only [Act.put, List.setIfInBounds_toArray, List.set_cons_zero, List.set_cons_succ]
      first
      | (refine wpAnyH_take (i := 36) (oi := { dst := some 99, op := Go.Op.move (Go.Operand.tmp 1), type := 9, pos := "law.go:64", after := #[{ on := 34, ground := Go.Ground.guard }], guard := some (34, false) }) (v := ?_) rfl (by kernel_rfl) (by kernel_rfl) (by kernel_rfl) (fun _ _ _ h => h) (Or.inl ⟨by rfl, ?_⟩) hHeld1 ?_
         rotate_left
         · ((intro w hSw; (try dsimp only at hSw); go_simp) <;> with_reducible rfl))
      | (refine wpAnyH_take (i := 36) (oi := { dst := some 99, op := Go.Op.move (Go.Operand.tmp 1), type := 9, pos := "law.go:64", after := #[{ on := 34, ground := Go.Ground.guard }], guard := some (34, false) }) (v := undef) rfl (by kernel_rfl) (by kernel_rfl) (by kernel_rfl) (fun _ _ _ h => h) (Or.inr ⟨by rfl, rfl⟩) hHeld1 ?_)
      try simp only [Act.put, List.setIfInBounds_toArray, List.set_cons_zero, List.set_cons_succ]
      first
      | (refine wpAnyH_take (i := 38) (oi := { dst := some 101, op := Go.Op.move (Go.Operand.tmp 0), type := 9, pos := "law.go:64", after := #[{ on := 34, ground := Go.Ground.guard }], guard := some (34, false) }) (v := ?_) rfl (by kernel_rfl) (by kernel_rfl) (by kernel_rfl) (fun _ _ _ h => h) (Or.inl ⟨by rfl, ?_⟩) hHeld1 ?_
         rotate_left
         · ((intro w hSw; (try dsimp only at hSw); go_simp) <;> with_reducible rfl))
      | (refine wpAnyH_take (i := 38) (oi := { dst := some 101, op := Go.Op.move (Go.Operand.tmp 0), type := 9, pos := "law.go:64", after := #[{ on := 34, ground := Go.Ground.guard }], guard := some (34, false) }) (v := undef) rfl (by kernel_rfl) (by kernel_rfl) (by kernel_rfl) (fun _ _ _ h => h) (Or.inr ⟨by rfl, rfl⟩) hHeld1 ?_)
      try simp only [Act.put, List.setIfInBounds_toArray, List.set_cons_zero, List.set_cons_succ]
      first
      | (refine wpAnyH_take (i := 39) (oi := { dst := some 102, op := Go.Op.move (Go.Operand.tmp 1), type := 9, pos := "law.go:64", after := #[{ on := 34, ground := Go.Ground.guard }], guard := some (34, false) }) (v := ?_) rfl (by kernel_rfl) (by kernel_rfl) (by kernel_rfl) (fun _ _ _ h => h) (Or.inl ⟨by rfl, ?_⟩) hHeld1 ?_
         rotate_left
         · ((intro w hSw; (try dsimp only at hSw); go_simp) <;> with_reducible rfl))
      | (refine wpAnyH_take (i := 39) (oi := { dst := some 102, op := Go.Op.move (Go.Operand.tmp 1), type := 9, pos := "law.go:64", after := #[{ on := 34, ground := Go.Ground.guard }], guard := some (34, false) }) (v := undef) rfl (by kernel_rfl) (by kernel_rfl) (by kernel_rfl) (fun _ _ _ h => h) (Or.inr ⟨by rfl, rfl⟩) hHeld1 ?_)
      try simp only [Act.put, List.setIfInBounds_toArray, List.set_cons_zero, List.set_cons_succ]
      refine wpAnyH_ready (rs := [37]) (by kernel_rfl) (by simp) ?_
      refine AllReadyH.cons (o := { dst := some 100, op := Go.Op.call { callee := Go.Callee.value (Go.Operand.func 21), args := #[Go.Operand.tmp 98, Go.Operand.tmp 99], argTypes := #[9, 9] }, type := 9, pos := "law.go:64", after := #[{ on := 35, ground := Go.Ground.data }, { on := 36, ground := Go.Ground.data }, { on := 34, ground := Go.Ground.chain }, { on := 34, ground := Go.Ground.guard }], guard := some (34, false) }) rfl (fun Kr37 hK => ?_) AllReadyH.nil
      go_simp
      (go_at_call 21; (with_reducible refine (HAG.out _).mono ?_); rintro e wn ⟨rfl, hb⟩)
      refine hK.out _ _ ?_ (fun hHeld2 => ?_)
      · (try dsimp only); exact cell_keep hHeld1 hb
      have HB := Lib.hid (Below.next HB.out hb)
      clear hK Kr37 hHeld1
      try simp only [Act.put, List.setIfInBounds_toArray, List.set_cons_zero, List.set_cons_succ]
      refine wpAnyH_ready (rs := [40]) (by kernel_rfl) (by simp) ?_
      refine AllReadyH.cons (o := { dst := some 103, op := Go.Op.call { callee := Go.Callee.value (Go.Operand.func 22), args := #[Go.Operand.tmp 101, Go.Operand.tmp 102], argTypes := #[9, 9] }, type := 9, pos := "law.go:64", after := #[{ on := 38, ground := Go.Ground.data }, { on := 39, ground := Go.Ground.data }, { on := 37, ground := Go.Ground.chain }, { on := 34, ground := Go.Ground.guard }], guard := some (34, false) }) rfl (fun Kr40 hK => ?_) AllReadyH.nil
      go_simp
      (go_at_call 22; (with_reducible refine (HRA.out _).mono ?_); rintro e wn ⟨rfl, hb⟩)
      refine hK.out _ _ ?_ (fun hHeld3 => ?_)
      · (try dsimp only); exact cell_keep hHeld2 hb
      have HB := Lib.hid (Below.next HB.out hb)
      clear hK Kr40 hHeld2
      try simp only [Act.put, List.setIfInBounds_toArray, List.set_cons_zero, List.set_cons_succ]
      first
      | (refine wpAnyH_take (i := 41) (oi := { dst := some 104, op := Go.Op.binOp Go.BinOp.neq 9 (Go.Operand.tmp 100) (Go.Operand.tmp 103) 9, type := 4, pos := "law.go:64", after := #[{ on := 37, ground := Go.Ground.data }, { on := 40, ground := Go.Ground.data }, { on := 34, ground := Go.Ground.guard }], guard := some (34, false) }) (v := ?_) rfl (by kernel_rfl) (by kernel_rfl) (by kernel_rfl) (fun _ _ _ h => h) (Or.inl ⟨by rfl, ?_⟩) hHeld3 ?_
         rotate_left
         · ((intro w hSw; (try dsimp only at hSw); go_simp) <;> with_reducible rfl))
      | (refine wpAnyH_take (i := 41) (oi := { dst := some 104, op := Go.Op.binOp Go.BinOp.neq 9 (Go.Operand.tmp 100) (Go.Operand.tmp 103) 9, type := 4, pos := "law.go:64", after := #[{ on := 37, ground := Go.Ground.data }, { on := 40, ground := Go.Ground.data }, { on := 34, ground := Go.Ground.guard }], guard := some (34, false) }) (v := undef) rfl (by kernel_rfl) (by kernel_rfl) (by kernel_rfl) (fun _ _ _ h => h) (Or.inr ⟨by rfl, rfl⟩) hHeld3 ?_)
      try simp only [Act.put, List.setIfInBounds_toArray, List.set_cons_zero, List.set_cons_succ]
      first
      | (refine wpAnyH_take (i := 42) (oi := { dst := some 105, op := Go.Op.pick (Go.Operand.tmp 97) (Go.Operand.const (Go.Value.bool true)) (Go.Operand.tmp 104), type := 4, pos := "law.go:64", after := #[{ on := 34, ground := Go.Ground.data }, { on := 41, ground := Go.Ground.data }], guard := none }) (v := ?_) rfl (by kernel_rfl) (by kernel_rfl) (by kernel_rfl) (fun _ _ _ h => h) (Or.inl ⟨by rfl, ?_⟩) hHeld3 ?_
         rotate_left
         · ((intro w hSw; (try dsimp only at hSw); go_simp) <;> with_reducible rfl))
      | (refine wpAnyH_take (i := 42) (oi := { dst := some 105, op := Go.Op.pick (Go.Operand.tmp 97) (Go.Operand.const (Go.Value.bool true)) (Go.Operand.tmp 104), type := 4, pos := "law.go:64", after := #[{ on := 34, ground := Go.Ground.data }, { on := 41, ground := Go.Ground.data }], guard := none }) (v := undef) rfl (by kernel_rfl) (by kernel_rfl) (by kernel_rfl) (fun _ _ _ h => h) (Or.inr ⟨by rfl, rfl⟩) hHeld3 ?_)
      try simp only [Act.put, List.setIfInBounds_toArray, List.set_cons_zero, List.set_cons_succ]
      refine wpAnyH_done (by kernel_rfl) ?_ _
      clear hHeld3
      exact hKK _ _ (Met.intro (hJ0 _ _ ⟨rfl, rfl, rfl, rfl, rfl, rfl, rfl, rfl, rfl, rfl, HB.out⟩))
    · obtain ⟨bb, off, rfl, hbb, hcs⟩ := strs_cell HS.out (by simp)
      rcases hc with h0 | ⟨h0, h1⟩ | ⟨h0, h1⟩
      · have HSG := Lib.hid (fun w => signed_v t key y HTM.out HX.out (r := false) (by simp [signedR, h0]) w)
        rw [← str_eq] at h0
        have m2 : (m9 : Int) = 2 := by have := HM9.out; simp at this; omega
        have hbx := heap_alloc_new w4 (.cells #[.int .i64 9, .int .u64 n0, .slice ab lb cb, .slice (some ⟨bb, off, none⟩) m9 cp] 27)
        have c0 : ((w4.alloc (.cells #[.int .i64 9, .int .u64 n0, .slice ab lb cb, .slice (some ⟨bb, off, none⟩) m9 cp] 27)).drew).cell? ⟨w4.heap.size, 0, none⟩ = some (.int .i64 9) := cell_of hbx 0 rfl
        have c1 : ((w4.alloc (.cells #[.int .i64 9, .int .u64 n0, .slice ab lb cb, .slice (some ⟨bb, off, none⟩) m9 cp] 27)).drew).cell? ⟨w4.heap.size, 3, none⟩ = some (.slice (some ⟨bb, off, none⟩) m9 cp) := cell_of hbx 3 rfl
        have c2 : ((w4.alloc (.cells #[.int .i64 9, .int .u64 n0, .slice ab lb cb, .slice (some ⟨bb, off, none⟩) m9 cp] 27)).drew).cell? ⟨bb, off, none⟩ = some (.string (strB p0)) := alloc_cell _ hbb (hcs 0 (by simp))
        have c3 : ((w4.alloc (.cells #[.int .i64 9, .int .u64 n0, .slice ab lb cb, .slice (some ⟨bb, off, none⟩) m9 cp] 27)).drew).cell? ⟨bb, off + 1, none⟩ = some (.string (strB p1)) := alloc_cell _ hbb (hcs 1 (by simp))
        have HB : Hid (Below w.heap.size w ((w4.alloc (.cells #[.int .i64 9, .int .u64 n0, .slice ab lb cb, .slice (some ⟨bb, off, none⟩) m9 cp] 27)).drew)) := Lib.hid ((HB.out.alloc HB.out.size _).drew)
        clear hbx hcs hbb
        refine wp_region_held_drew (S := (fun W => W.cell? ⟨w4.heap.size, 0, none⟩ = some (.int .i64 9) ∧ W.cell? ⟨w4.heap.size, 3, none⟩ = some (.slice (some ⟨bb, off, none⟩) m9 cp) ∧ W.cell? ⟨bb, off, none⟩ = some (.string (strB p0)) ∧ W.cell? ⟨bb, off + 1, none⟩ = some (.string (strB p1)))) (by kernel_rfl) ?_ (fun hHeld0 => ?_)
        · (try dsimp only); exact ⟨c0, c1, c2, c3⟩
        first
        | (refine wpAnyH_take (i := 0) (oi := { dst := some 63, op := Go.Op.move (Go.Operand.tmp 13), type := 9, pos := "law.go:64", after := #[], guard := none }) (v := ?_) rfl (by kernel_rfl) (by kernel_rfl) (by kernel_rfl) (fun _ _ _ h => h) (Or.inl ⟨by rfl, ?_⟩) hHeld0 ?_
           rotate_left
           · ((intro w hSw; (try dsimp only at hSw); go_simp) <;> with_reducible rfl))
        | (refine wpAnyH_take (i := 0) (oi := { dst := some 63, op := Go.Op.move (Go.Operand.tmp 13), type := 9, pos := "law.go:64", after := #[], guard := none }) (v := undef) rfl (by kernel_rfl) (by kernel_rfl) (by kernel_rfl) (fun _ _ _ h => h) (Or.inr ⟨by rfl, rfl⟩) hHeld0 ?_)
        try simp only [Act.put, List.setIfInBounds_toArray, List.set_cons_zero, List.set_cons_succ]
        first
        | (refine wpAnyH_take (i := 1) (oi := { dst := some 64, op := Go.Op.move (Go.Operand.tmp 15), type := 9, pos := "law.go:64", after := #[], guard := none }) (v := ?_) rfl (by kernel_rfl) (by kernel_rfl) (by kernel_rfl) (fun _ _ _ h => h) (Or.inl ⟨by rfl, ?_⟩) hHeld0 ?_
           rotate_left
           · ((intro w hSw; (try dsimp only at hSw); go_simp) <;> with_reducible rfl))
        | (refine wpAnyH_take (i := 1) (oi := { dst := some 64, op := Go.Op.move (Go.Operand.tmp 15), type := 9, pos := "law.go:64", after := #[], guard := none }) (v := undef) rfl (by kernel_rfl) (by kernel_rfl) (by kernel_rfl) (fun _ _ _ h => h) (Or.inr ⟨by rfl, rfl⟩) hHeld0 ?_)
        try simp only [Act.put, List.setIfInBounds_toArray, List.set_cons_zero, List.set_cons_succ]
        first
        | (refine wpAnyH_take (i := 2) (oi := { dst := some 65, op := Go.Op.binOp Go.BinOp.neq 9 (Go.Operand.tmp 63) (Go.Operand.tmp 64) 9, type := 4, pos := "law.go:64", after := #[{ on := 0, ground := Go.Ground.data }, { on := 1, ground := Go.Ground.data }], guard := none }) (v := ?_) rfl (by kernel_rfl) (by kernel_rfl) (by kernel_rfl) (fun _ _ _ h => h) (Or.inl ⟨by rfl, ?_⟩) hHeld0 ?_
           rotate_left
           · ((intro w hSw; (try dsimp only at hSw); go_simp) <;> with_reducible rfl))
        | (refine wpAnyH_take (i := 2) (oi := { dst := some 65, op := Go.Op.binOp Go.BinOp.neq 9 (Go.Operand.tmp 63) (Go.Operand.tmp 64) 9, type := 4, pos := "law.go:64", after := #[{ on := 0, ground := Go.Ground.data }, { on := 1, ground := Go.Ground.data }], guard := none }) (v := undef) rfl (by kernel_rfl) (by kernel_rfl) (by kernel_rfl) (fun _ _ _ h => h) (Or.inr ⟨by rfl, rfl⟩) hHeld0 ?_)
        try simp only [Act.put, List.setIfInBounds_toArray, List.set_cons_zero, List.set_cons_succ]
        first
        | (refine wpAnyH_take (i := 3) (oi := { dst := some 66, op := Go.Op.move (Go.Operand.tmp 65), type := 4, pos := "law.go:64", after := #[{ on := 2, ground := Go.Ground.data }], guard := none }) (v := ?_) rfl (by kernel_rfl) (by kernel_rfl) (by kernel_rfl) (fun _ _ _ h => h) (Or.inl ⟨by rfl, ?_⟩) hHeld0 ?_
           rotate_left
           · ((intro w hSw; (try dsimp only at hSw); go_simp) <;> with_reducible rfl))
        | (refine wpAnyH_take (i := 3) (oi := { dst := some 66, op := Go.Op.move (Go.Operand.tmp 65), type := 4, pos := "law.go:64", after := #[{ on := 2, ground := Go.Ground.data }], guard := none }) (v := undef) rfl (by kernel_rfl) (by kernel_rfl) (by kernel_rfl) (fun _ _ _ h => h) (Or.inr ⟨by rfl, rfl⟩) hHeld0 ?_)
        try simp only [Act.put, List.setIfInBounds_toArray, List.set_cons_zero, List.set_cons_succ]
        first
        | (refine wpAnyH_take (i := 4) (oi := { dst := some 67, op := Go.Op.move (Go.Operand.tmp 14), type := 42, pos := "law.go:64", after := #[{ on := 3, ground := Go.Ground.guard }], guard := some (3, false) }) (v := ?_) rfl (by kernel_rfl) (by kernel_rfl) (by kernel_rfl) (fun _ _ _ h => h) (Or.inl ⟨by rfl, ?_⟩) hHeld0 ?_
           rotate_left
           · ((intro w hSw; (try dsimp only at hSw); go_simp) <;> with_reducible rfl))
        | (refine wpAnyH_take (i := 4) (oi := { dst := some 67, op := Go.Op.move (Go.Operand.tmp 14), type := 42, pos := "law.go:64", after := #[{ on := 3, ground := Go.Ground.guard }], guard := some (3, false) }) (v := undef) rfl (by kernel_rfl) (by kernel_rfl) (by kernel_rfl) (fun _ _ _ h => h) (Or.inr ⟨by rfl, rfl⟩) hHeld0 ?_)
        try simp only [Act.put, List.setIfInBounds_toArray, List.set_cons_zero, List.set_cons_succ]
        first
        | (refine wpAnyH_take (i := 5) (oi := { dst := some 68, op := Go.Op.move (Go.Operand.tmp 16), type := 42, pos := "law.go:64", after := #[{ on := 3, ground := Go.Ground.guard }], guard := some (3, false) }) (v := ?_) rfl (by kernel_rfl) (by kernel_rfl) (by kernel_rfl) (fun _ _ _ h => h) (Or.inl ⟨by rfl, ?_⟩) hHeld0 ?_
           rotate_left
           · ((intro w hSw; (try dsimp only at hSw); go_simp) <;> with_reducible rfl))
        | (refine wpAnyH_take (i := 5) (oi := { dst := some 68, op := Go.Op.move (Go.Operand.tmp 16), type := 42, pos := "law.go:64", after := #[{ on := 3, ground := Go.Ground.guard }], guard := some (3, false) }) (v := undef) rfl (by kernel_rfl) (by kernel_rfl) (by kernel_rfl) (fun _ _ _ h => h) (Or.inr ⟨by rfl, rfl⟩) hHeld0 ?_)
        try simp only [Act.put, List.setIfInBounds_toArray, List.set_cons_zero, List.set_cons_succ]
        first
        | (refine wpAnyH_take (i := 6) (oi := { dst := some 69, op := Go.Op.binOp Go.BinOp.neq 42 (Go.Operand.tmp 67) (Go.Operand.tmp 68) 42, type := 4, pos := "law.go:64", after := #[{ on := 4, ground := Go.Ground.data }, { on := 5, ground := Go.Ground.data }, { on := 3, ground := Go.Ground.guard }], guard := some (3, false) }) (v := ?_) rfl (by kernel_rfl) (by kernel_rfl) (by kernel_rfl) (fun _ _ _ h => h) (Or.inl ⟨by rfl, ?_⟩) hHeld0 ?_
           rotate_left
           · ((intro w hSw; (try dsimp only at hSw); go_simp) <;> with_reducible rfl))
        | (refine wpAnyH_take (i := 6) (oi := { dst := some 69, op := Go.Op.binOp Go.BinOp.neq 42 (Go.Operand.tmp 67) (Go.Operand.tmp 68) 42, type := 4, pos := "law.go:64", after := #[{ on := 4, ground := Go.Ground.data }, { on := 5, ground := Go.Ground.data }, { on := 3, ground := Go.Ground.guard }], guard := some (3, false) }) (v := undef) rfl (by kernel_rfl) (by kernel_rfl) (by kernel_rfl) (fun _ _ _ h => h) (Or.inr ⟨by rfl, rfl⟩) hHeld0 ?_)
        try simp only [Act.put, List.setIfInBounds_toArray, List.set_cons_zero, List.set_cons_succ]
        first
        | (refine wpAnyH_take (i := 7) (oi := { dst := some 70, op := Go.Op.pick (Go.Operand.tmp 66) (Go.Operand.const (Go.Value.bool true)) (Go.Operand.tmp 69), type := 4, pos := "law.go:64", after := #[{ on := 3, ground := Go.Ground.data }, { on := 6, ground := Go.Ground.data }], guard := none }) (v := ?_) rfl (by kernel_rfl) (by kernel_rfl) (by kernel_rfl) (fun _ _ _ h => h) (Or.inl ⟨by rfl, ?_⟩) hHeld0 ?_
           rotate_left
           · ((intro w hSw; (try dsimp only at hSw); go_simp) <;> with_reducible rfl))
        | (refine wpAnyH_take (i := 7) (oi := { dst := some 70, op := Go.Op.pick (Go.Operand.tmp 66) (Go.Operand.const (Go.Value.bool true)) (Go.Operand.tmp 69), type := 4, pos := "law.go:64", after := #[{ on := 3, ground := Go.Ground.data }, { on := 6, ground := Go.Ground.data }], guard := none }) (v := undef) rfl (by kernel_rfl) (by kernel_rfl) (by kernel_rfl) (fun _ _ _ h => h) (Or.inr ⟨by rfl, rfl⟩) hHeld0 ?_)
        try simp only [Act.put, List.setIfInBounds_toArray, List.set_cons_zero, List.set_cons_succ]
        first
        | (refine wpAnyH_take (i := 8) (oi := { dst := some 71, op := Go.Op.move (Go.Operand.tmp 70), type := 4, pos := "law.go:64", after := #[{ on := 7, ground := Go.Ground.data }, { on := 3, ground := Go.Ground.chain }], guard := none }) (v := ?_) rfl (by kernel_rfl) (by kernel_rfl) (by kernel_rfl) (fun _ _ _ h => h) (Or.inl ⟨by rfl, ?_⟩) hHeld0 ?_
           rotate_left
           · ((intro w hSw; (try dsimp only at hSw); go_simp) <;> with_reducible rfl))
        | (refine wpAnyH_take (i := 8) (oi := { dst := some 71, op := Go.Op.move (Go.Operand.tmp 70), type := 4, pos := "law.go:64", after := #[{ on := 7, ground := Go.Ground.data }, { on := 3, ground := Go.Ground.chain }], guard := none }) (v := undef) rfl (by kernel_rfl) (by kernel_rfl) (by kernel_rfl) (fun _ _ _ h => h) (Or.inr ⟨by rfl, rfl⟩) hHeld0 ?_)
        try simp only [Act.put, List.setIfInBounds_toArray, List.set_cons_zero, List.set_cons_succ]
        first
        | (refine wpAnyH_take (i := 9) (oi := { dst := some 72, op := Go.Op.move (Go.Operand.tmp 0), type := 9, pos := "law.go:64", after := #[{ on := 8, ground := Go.Ground.guard }], guard := some (8, false) }) (v := ?_) rfl (by kernel_rfl) (by kernel_rfl) (by kernel_rfl) (fun _ _ _ h => h) (Or.inl ⟨by rfl, ?_⟩) hHeld0 ?_
           rotate_left
           · ((intro w hSw; (try dsimp only at hSw); go_simp) <;> with_reducible rfl))
        | (refine wpAnyH_take (i := 9) (oi := { dst := some 72, op := Go.Op.move (Go.Operand.tmp 0), type := 9, pos := "law.go:64", after := #[{ on := 8, ground := Go.Ground.guard }], guard := some (8, false) }) (v := undef) rfl (by kernel_rfl) (by kernel_rfl) (by kernel_rfl) (fun _ _ _ h => h) (Or.inr ⟨by rfl, rfl⟩) hHeld0 ?_)
        try simp only [Act.put, List.setIfInBounds_toArray, List.set_cons_zero, List.set_cons_succ]
        first
        | (refine wpAnyH_take (i := 10) (oi := { dst := some 73, op := Go.Op.move (Go.Operand.tmp 1), type := 9, pos := "law.go:64", after := #[{ on := 8, ground := Go.Ground.guard }], guard := some (8, false) }) (v := ?_) rfl (by kernel_rfl) (by kernel_rfl) (by kernel_rfl) (fun _ _ _ h => h) (Or.inl ⟨by rfl, ?_⟩) hHeld0 ?_
           rotate_left
           · ((intro w hSw; (try dsimp only at hSw); go_simp) <;> with_reducible rfl))
        | (refine wpAnyH_take (i := 10) (oi := { dst := some 73, op := Go.Op.move (Go.Operand.tmp 1), type := 9, pos := "law.go:64", after := #[{ on := 8, ground := Go.Ground.guard }], guard := some (8, false) }) (v := undef) rfl (by kernel_rfl) (by kernel_rfl) (by kernel_rfl) (fun _ _ _ h => h) (Or.inr ⟨by rfl, rfl⟩) hHeld0 ?_)
        try simp only [Act.put, List.setIfInBounds_toArray, List.set_cons_zero, List.set_cons_succ]
        first
        | (refine wpAnyH_take (i := 11) (oi := { dst := some 74, op := Go.Op.move (Go.Operand.tmp 2), type := 9, pos := "law.go:64", after := #[{ on := 8, ground := Go.Ground.guard }], guard := some (8, false) }) (v := ?_) rfl (by kernel_rfl) (by kernel_rfl) (by kernel_rfl) (fun _ _ _ h => h) (Or.inl ⟨by rfl, ?_⟩) hHeld0 ?_
           rotate_left
           · ((intro w hSw; (try dsimp only at hSw); go_simp) <;> with_reducible rfl))
        | (refine wpAnyH_take (i := 11) (oi := { dst := some 74, op := Go.Op.move (Go.Operand.tmp 2), type := 9, pos := "law.go:64", after := #[{ on := 8, ground := Go.Ground.guard }], guard := some (8, false) }) (v := undef) rfl (by kernel_rfl) (by kernel_rfl) (by kernel_rfl) (fun _ _ _ h => h) (Or.inr ⟨by rfl, rfl⟩) hHeld0 ?_)
        try simp only [Act.put, List.setIfInBounds_toArray, List.set_cons_zero, List.set_cons_succ]
        first
        | (refine wpAnyH_take (i := 13) (oi := { dst := some 76, op := Go.Op.fieldAddr 27 (Go.Operand.tmp 17) 0, type := 0, pos := "law.go:64", after := #[{ on := 8, ground := Go.Ground.guard }], guard := some (8, false) }) (v := ?_) rfl (by kernel_rfl) (by kernel_rfl) (by kernel_rfl) (fun _ _ _ h => h) (Or.inl ⟨by rfl, ?_⟩) hHeld0 ?_
           rotate_left
           · ((intro w hSw; (try dsimp only at hSw); go_simp) <;> with_reducible rfl))
        | (refine wpAnyH_take (i := 13) (oi := { dst := some 76, op := Go.Op.fieldAddr 27 (Go.Operand.tmp 17) 0, type := 0, pos := "law.go:64", after := #[{ on := 8, ground := Go.Ground.guard }], guard := some (8, false) }) (v := undef) rfl (by kernel_rfl) (by kernel_rfl) (by kernel_rfl) (fun _ _ _ h => h) (Or.inr ⟨by rfl, rfl⟩) hHeld0 ?_)
        try simp only [Act.put, List.setIfInBounds_toArray, List.set_cons_zero, List.set_cons_succ]
        first
        | (refine wpAnyH_take (i := 14) (oi := { dst := some 77, op := Go.Op.load 3 (Go.Operand.tmp 76), type := 3, pos := "law.go:64", after := #[{ on := 13, ground := Go.Ground.data }, { on := 8, ground := Go.Ground.guard }], guard := some (8, false) }) (v := ?_) rfl (by kernel_rfl) (by kernel_rfl) (by kernel_rfl) (fun _ _ _ h => h) (Or.inl ⟨by rfl, ?_⟩) hHeld0 ?_
           rotate_left
           · ((intro w hSw; (try dsimp only at hSw); go_simp) <;> with_reducible rfl))
        | (refine wpAnyH_take (i := 14) (oi := { dst := some 77, op := Go.Op.load 3 (Go.Operand.tmp 76), type := 3, pos := "law.go:64", after := #[{ on := 13, ground := Go.Ground.data }, { on := 8, ground := Go.Ground.guard }], guard := some (8, false) }) (v := undef) rfl (by kernel_rfl) (by kernel_rfl) (by kernel_rfl) (fun _ _ _ h => h) (Or.inr ⟨by rfl, rfl⟩) hHeld0 ?_)
        try simp only [Act.put, List.setIfInBounds_toArray, List.set_cons_zero, List.set_cons_succ]
        first
        | (refine wpAnyH_take (i := 15) (oi := { dst := some 78, op := Go.Op.binOp Go.BinOp.eql 3 (Go.Operand.tmp 77) (Go.Operand.const (Go.Value.int Go.IntKind.i64 9)) 3, type := 4, pos := "law.go:64", after := #[{ on := 14, ground := Go.Ground.data }, { on := 8, ground := Go.Ground.guard }], guard := some (8, false) }) (v := ?_) rfl (by kernel_rfl) (by kernel_rfl) (by kernel_rfl) (fun _ _ _ h => h) (Or.inl ⟨by rfl, ?_⟩) hHeld0 ?_
           rotate_left
           · ((intro w hSw; (try dsimp only at hSw); go_simp) <;> with_reducible rfl))
        | (refine wpAnyH_take (i := 15) (oi := { dst := some 78, op := Go.Op.binOp Go.BinOp.eql 3 (Go.Operand.tmp 77) (Go.Operand.const (Go.Value.int Go.IntKind.i64 9)) 3, type := 4, pos := "law.go:64", after := #[{ on := 14, ground := Go.Ground.data }, { on := 8, ground := Go.Ground.guard }], guard := some (8, false) }) (v := undef) rfl (by kernel_rfl) (by kernel_rfl) (by kernel_rfl) (fun _ _ _ h => h) (Or.inr ⟨by rfl, rfl⟩) hHeld0 ?_)
        try simp only [Act.put, List.setIfInBounds_toArray, List.set_cons_zero, List.set_cons_succ]
        refine wpAnyH_ready (rs := [12]) (by kernel_rfl) (by simp) ?_
        refine AllReadyH.cons (o := { dst := some 75, op := Go.Op.call { callee := Go.Callee.value (Go.Operand.func 20), args := #[Go.Operand.tmp 72, Go.Operand.tmp 73, Go.Operand.tmp 74], argTypes := #[9, 9, 9] }, type := 4, pos := "law.go:64", after := #[{ on := 9, ground := Go.Ground.data }, { on := 10, ground := Go.Ground.data }, { on := 11, ground := Go.Ground.data }, { on := 8, ground := Go.Ground.chain }, { on := 8, ground := Go.Ground.guard }], guard := some (8, false) }) rfl (fun Kr12 hK => ?_) AllReadyH.nil
        go_simp
        (go_at_call 20; (with_reducible refine (HSG.out _).mono ?_); rintro e wn ⟨rfl, hb⟩)
        refine hK.out _ _ ?_ (fun hHeld1 => ?_)
        · (try dsimp only); exact ⟨cell_keep hHeld0.1 hb, cell_keep hHeld0.2.1 hb, cell_keep hHeld0.2.2.1 hb, cell_keep hHeld0.2.2.2 hb⟩
        have HB := Lib.hid (Below.next HB.out hb)
        clear hK Kr12 hHeld0
        try simp only [Act.put, List.setIfInBounds_toArray, List.set_cons_zero, List.set_cons_succ]
        first
        | (refine wpAnyH_take (i := 16) (oi := { dst := some 79, op := Go.Op.move (Go.Operand.tmp 78), type := 4, pos := "law.go:64", after := #[{ on := 15, ground := Go.Ground.data }, { on := 12, ground := Go.Ground.chain }, { on := 8, ground := Go.Ground.guard }], guard := some (8, false) }) (v := ?_) rfl (by kernel_rfl) (by kernel_rfl) (by kernel_rfl) (fun _ _ _ h => h) (Or.inl ⟨by rfl, ?_⟩) hHeld1 ?_
           rotate_left
           · ((intro w hSw; (try dsimp only at hSw); go_simp) <;> with_reducible rfl))
        | (refine wpAnyH_take (i := 16) (oi := { dst := some 79, op := Go.Op.move (Go.Operand.tmp 78), type := 4, pos := "law.go:64", after := #[{ on := 15, ground := Go.Ground.data }, { on := 12, ground := Go.Ground.chain }, { on := 8, ground := Go.Ground.guard }], guard := some (8, false) }) (v := undef) rfl (by kernel_rfl) (by kernel_rfl) (by kernel_rfl) (fun _ _ _ h => h) (Or.inr ⟨by rfl, rfl⟩) hHeld1 ?_)
        try simp only [Act.put, List.setIfInBounds_toArray, List.set_cons_zero, List.set_cons_succ]
        first
        | (refine wpAnyH_take (i := 17) (oi := { dst := some 80, op := Go.Op.fieldAddr 27 (Go.Operand.tmp 17) 3, type := 0, pos := "law.go:64", after := #[{ on := 16, ground := Go.Ground.guard }], guard := some (16, true) }) (v := ?_) rfl (by kernel_rfl) (by kernel_rfl) (by kernel_rfl) (fun _ _ _ h => h) (Or.inl ⟨by rfl, ?_⟩) hHeld1 ?_
           rotate_left
           · ((intro w hSw; (try dsimp only at hSw); go_simp) <;> with_reducible rfl))
        | (refine wpAnyH_take (i := 17) (oi := { dst := some 80, op := Go.Op.fieldAddr 27 (Go.Operand.tmp 17) 3, type := 0, pos := "law.go:64", after := #[{ on := 16, ground := Go.Ground.guard }], guard := some (16, true) }) (v := undef) rfl (by kernel_rfl) (by kernel_rfl) (by kernel_rfl) (fun _ _ _ h => h) (Or.inr ⟨by rfl, rfl⟩) hHeld1 ?_)
        try simp only [Act.put, List.setIfInBounds_toArray, List.set_cons_zero, List.set_cons_succ]
        first
        | (refine wpAnyH_take (i := 18) (oi := { dst := some 81, op := Go.Op.load 25 (Go.Operand.tmp 80), type := 25, pos := "law.go:64", after := #[{ on := 17, ground := Go.Ground.data }, { on := 16, ground := Go.Ground.guard }], guard := some (16, true) }) (v := ?_) rfl (by kernel_rfl) (by kernel_rfl) (by kernel_rfl) (fun _ _ _ h => h) (Or.inl ⟨by rfl, ?_⟩) hHeld1 ?_
           rotate_left
           · ((intro w hSw; (try dsimp only at hSw); go_simp) <;> with_reducible rfl))
        | (refine wpAnyH_take (i := 18) (oi := { dst := some 81, op := Go.Op.load 25 (Go.Operand.tmp 80), type := 25, pos := "law.go:64", after := #[{ on := 17, ground := Go.Ground.data }, { on := 16, ground := Go.Ground.guard }], guard := some (16, true) }) (v := undef) rfl (by kernel_rfl) (by kernel_rfl) (by kernel_rfl) (fun _ _ _ h => h) (Or.inr ⟨by rfl, rfl⟩) hHeld1 ?_)
        try simp only [Act.put, List.setIfInBounds_toArray, List.set_cons_zero, List.set_cons_succ]
        first
        | (refine wpAnyH_take (i := 19) (oi := { dst := some 82, op := Go.Op.indexAddr 25 (Go.Operand.tmp 81) (Go.Operand.const (Go.Value.int Go.IntKind.i64 0)), type := 0, pos := "law.go:64", after := #[{ on := 18, ground := Go.Ground.data }, { on := 16, ground := Go.Ground.guard }], guard := some (16, true) }) (v := ?_) rfl (by kernel_rfl) (by kernel_rfl) (by kernel_rfl) (fun _ _ _ h => h) (Or.inl ⟨by rfl, ?_⟩) hHeld1 ?_
           rotate_left
           · ((intro w hSw; (try dsimp only at hSw); go_simp) <;> with_reducible rfl))
        | (refine wpAnyH_take (i := 19) (oi := { dst := some 82, op := Go.Op.indexAddr 25 (Go.Operand.tmp 81) (Go.Operand.const (Go.Value.int Go.IntKind.i64 0)), type := 0, pos := "law.go:64", after := #[{ on := 18, ground := Go.Ground.data }, { on := 16, ground := Go.Ground.guard }], guard := some (16, true) }) (v := undef) rfl (by kernel_rfl) (by kernel_rfl) (by kernel_rfl) (fun _ _ _ h => h) (Or.inr ⟨by rfl, rfl⟩) hHeld1 ?_)
        try simp only [Act.put, List.setIfInBounds_toArray, List.set_cons_zero, List.set_cons_succ]
        first
        | (refine wpAnyH_take (i := 20) (oi := { dst := some 83, op := Go.Op.load 9 (Go.Operand.tmp 82), type := 9, pos := "law.go:64", after := #[{ on := 19, ground := Go.Ground.data }, { on := 16, ground := Go.Ground.guard }], guard := some (16, true) }) (v := ?_) rfl (by kernel_rfl) (by kernel_rfl) (by kernel_rfl) (fun _ _ _ h => h) (Or.inl ⟨by rfl, ?_⟩) hHeld1 ?_
           rotate_left
           · ((intro w hSw; (try dsimp only at hSw); go_simp) <;> with_reducible rfl))
        | (refine wpAnyH_take (i := 20) (oi := { dst := some 83, op := Go.Op.load 9 (Go.Operand.tmp 82), type := 9, pos := "law.go:64", after := #[{ on := 19, ground := Go.Ground.data }, { on := 16, ground := Go.Ground.guard }], guard := some (16, true) }) (v := undef) rfl (by kernel_rfl) (by kernel_rfl) (by kernel_rfl) (fun _ _ _ h => h) (Or.inr ⟨by rfl, rfl⟩) hHeld1 ?_)
        try simp only [Act.put, List.setIfInBounds_toArray, List.set_cons_zero, List.set_cons_succ]
        first
        | (refine wpAnyH_take (i := 21) (oi := { dst := some 84, op := Go.Op.move (Go.Operand.tmp 1), type := 9, pos := "law.go:64", after := #[{ on := 16, ground := Go.Ground.guard }], guard := some (16, true) }) (v := ?_) rfl (by kernel_rfl) (by kernel_rfl) (by kernel_rfl) (fun _ _ _ h => h) (Or.inl ⟨by rfl, ?_⟩) hHeld1 ?_
           rotate_left
           · ((intro w hSw; (try dsimp only at hSw); go_simp) <;> with_reducible rfl))
        | (refine wpAnyH_take (i := 21) (oi := { dst := some 84, op := Go.Op.move (Go.Operand.tmp 1), type := 9, pos := "law.go:64", after := #[{ on := 16, ground := Go.Ground.guard }], guard := some (16, true) }) (v := undef) rfl (by kernel_rfl) (by kernel_rfl) (by kernel_rfl) (fun _ _ _ h => h) (Or.inr ⟨by rfl, rfl⟩) hHeld1 ?_)
        try simp only [Act.put, List.setIfInBounds_toArray, List.set_cons_zero, List.set_cons_succ]
        first
        | (refine wpAnyH_take (i := 22) (oi := { dst := some 85, op := Go.Op.binOp Go.BinOp.eql 9 (Go.Operand.tmp 83) (Go.Operand.tmp 84) 9, type := 4, pos := "law.go:64", after := #[{ on := 20, ground := Go.Ground.data }, { on := 21, ground := Go.Ground.data }, { on := 16, ground := Go.Ground.guard }], guard := some (16, true) }) (v := ?_) rfl (by kernel_rfl) (by kernel_rfl) (by kernel_rfl) (fun _ _ _ h => h) (Or.inl ⟨by rfl, ?_⟩) hHeld1 ?_
           rotate_left
           · ((intro w hSw; (try dsimp only at hSw); go_simp) <;> with_reducible rfl))
        | (refine wpAnyH_take (i := 22) (oi := { dst := some 85, op := Go.Op.binOp Go.BinOp.eql 9 (Go.Operand.tmp 83) (Go.Operand.tmp 84) 9, type := 4, pos := "law.go:64", after := #[{ on := 20, ground := Go.Ground.data }, { on := 21, ground := Go.Ground.data }, { on := 16, ground := Go.Ground.guard }], guard := some (16, true) }) (v := undef) rfl (by kernel_rfl) (by kernel_rfl) (by kernel_rfl) (fun _ _ _ h => h) (Or.inr ⟨by rfl, rfl⟩) hHeld1 ?_)
        try simp only [Act.put, List.setIfInBounds_toArray, List.set_cons_zero, List.set_cons_succ]
        first
        | (refine wpAnyH_take (i := 23) (oi := { dst := some 86, op := Go.Op.pick (Go.Operand.tmp 79) (Go.Operand.tmp 85) (Go.Operand.const (Go.Value.bool false)), type := 4, pos := "law.go:64", after := #[{ on := 16, ground := Go.Ground.data }, { on := 22, ground := Go.Ground.data }, { on := 8, ground := Go.Ground.guard }], guard := some (8, false) }) (v := ?_) rfl (by kernel_rfl) (by kernel_rfl) (by kernel_rfl) (fun _ _ _ h => h) (Or.inl ⟨by rfl, ?_⟩) hHeld1 ?_
           rotate_left
           · ((intro w hSw; (try dsimp only at hSw); go_simp) <;> with_reducible rfl))
        | (refine wpAnyH_take (i := 23) (oi := { dst := some 86, op := Go.Op.pick (Go.Operand.tmp 79) (Go.Operand.tmp 85) (Go.Operand.const (Go.Value.bool false)), type := 4, pos := "law.go:64", after := #[{ on := 16, ground := Go.Ground.data }, { on := 22, ground := Go.Ground.data }, { on := 8, ground := Go.Ground.guard }], guard := some (8, false) }) (v := undef) rfl (by kernel_rfl) (by kernel_rfl) (by kernel_rfl) (fun _ _ _ h => h) (Or.inr ⟨by rfl, rfl⟩) hHeld1 ?_)
        try simp only [Act.put, List.setIfInBounds_toArray, List.set_cons_zero, List.set_cons_succ]
        first
        | (refine wpAnyH_take (i := 24) (oi := { dst := some 87, op := Go.Op.move (Go.Operand.tmp 86), type := 4, pos := "law.go:64", after := #[{ on := 23, ground := Go.Ground.data }, { on := 16, ground := Go.Ground.chain }, { on := 8, ground := Go.Ground.guard }], guard := some (8, false) }) (v := ?_) rfl (by kernel_rfl) (by kernel_rfl) (by kernel_rfl) (fun _ _ _ h => h) (Or.inl ⟨by rfl, ?_⟩) hHeld1 ?_
           rotate_left
           · ((intro w hSw; (try dsimp only at hSw); go_simp) <;> with_reducible rfl))
        | (refine wpAnyH_take (i := 24) (oi := { dst := some 87, op := Go.Op.move (Go.Operand.tmp 86), type := 4, pos := "law.go:64", after := #[{ on := 23, ground := Go.Ground.data }, { on := 16, ground := Go.Ground.chain }, { on := 8, ground := Go.Ground.guard }], guard := some (8, false) }) (v := undef) rfl (by kernel_rfl) (by kernel_rfl) (by kernel_rfl) (fun _ _ _ h => h) (Or.inr ⟨by rfl, rfl⟩) hHeld1 ?_)
        try simp only [Act.put, List.setIfInBounds_toArray, List.set_cons_zero, List.set_cons_succ]
        first
        | (refine wpAnyH_take (i := 25) (oi := { dst := some 88, op := Go.Op.fieldAddr 27 (Go.Operand.tmp 17) 3, type := 0, pos := "law.go:64", after := #[{ on := 24, ground := Go.Ground.guard }], guard := some (24, true) }) (v := ?_) rfl (by kernel_rfl) (by kernel_rfl) (by kernel_rfl) (fun _ _ _ h => h) (Or.inl ⟨by rfl, ?_⟩) hHeld1 ?_
           rotate_left
           · ((intro w hSw; (try dsimp only at hSw); go_simp) <;> with_reducible rfl))
        | (refine wpAnyH_take (i := 25) (oi := { dst := some 88, op := Go.Op.fieldAddr 27 (Go.Operand.tmp 17) 3, type := 0, pos := "law.go:64", after := #[{ on := 24, ground := Go.Ground.guard }], guard := some (24, true) }) (v := undef) rfl (by kernel_rfl) (by kernel_rfl) (by kernel_rfl) (fun _ _ _ h => h) (Or.inr ⟨by rfl, rfl⟩) hHeld1 ?_)
        try simp only [Act.put, List.setIfInBounds_toArray, List.set_cons_zero, List.set_cons_succ]
        first
        | (refine wpAnyH_take (i := 26) (oi := { dst := some 89, op := Go.Op.load 25 (Go.Operand.tmp 88), type := 25, pos := "law.go:64", after := #[{ on := 25, ground := Go.Ground.data }, { on := 24, ground := Go.Ground.guard }], guard := some (24, true) }) (v := ?_) rfl (by kernel_rfl) (by kernel_rfl) (by kernel_rfl) (fun _ _ _ h => h) (Or.inl ⟨by rfl, ?_⟩) hHeld1 ?_
           rotate_left
           · ((intro w hSw; (try dsimp only at hSw); go_simp) <;> with_reducible rfl))
        | (refine wpAnyH_take (i := 26) (oi := { dst := some 89, op := Go.Op.load 25 (Go.Operand.tmp 88), type := 25, pos := "law.go:64", after := #[{ on := 25, ground := Go.Ground.data }, { on := 24, ground := Go.Ground.guard }], guard := some (24, true) }) (v := undef) rfl (by kernel_rfl) (by kernel_rfl) (by kernel_rfl) (fun _ _ _ h => h) (Or.inr ⟨by rfl, rfl⟩) hHeld1 ?_)
        try simp only [Act.put, List.setIfInBounds_toArray, List.set_cons_zero, List.set_cons_succ]
        first
        | (refine wpAnyH_take (i := 27) (oi := { dst := some 90, op := Go.Op.indexAddr 25 (Go.Operand.tmp 89) (Go.Operand.const (Go.Value.int Go.IntKind.i64 1)), type := 0, pos := "law.go:64", after := #[{ on := 26, ground := Go.Ground.data }, { on := 24, ground := Go.Ground.guard }], guard := some (24, true) }) (v := ?_) rfl (by kernel_rfl) (by kernel_rfl) (by kernel_rfl) (fun _ _ _ h => h) (Or.inl ⟨by rfl, ?_⟩) hHeld1 ?_
           rotate_left
           · ((intro w hSw; (try dsimp only at hSw); go_simp) <;> with_reducible rfl))
        | (refine wpAnyH_take (i := 27) (oi := { dst := some 90, op := Go.Op.indexAddr 25 (Go.Operand.tmp 89) (Go.Operand.const (Go.Value.int Go.IntKind.i64 1)), type := 0, pos := "law.go:64", after := #[{ on := 26, ground := Go.Ground.data }, { on := 24, ground := Go.Ground.guard }], guard := some (24, true) }) (v := undef) rfl (by kernel_rfl) (by kernel_rfl) (by kernel_rfl) (fun _ _ _ h => h) (Or.inr ⟨by rfl, rfl⟩) hHeld1 ?_)
        try simp only [Act.put, List.setIfInBounds_toArray, List.set_cons_zero, List.set_cons_succ]
        first
        | (refine wpAnyH_take (i := 28) (oi := { dst := some 91, op := Go.Op.load 9 (Go.Operand.tmp 90), type := 9, pos := "law.go:64", after := #[{ on := 27, ground := Go.Ground.data }, { on := 24, ground := Go.Ground.guard }], guard := some (24, true) }) (v := ?_) rfl (by kernel_rfl) (by kernel_rfl) (by kernel_rfl) (fun _ _ _ h => h) (Or.inl ⟨by rfl, ?_⟩) hHeld1 ?_
           rotate_left
           · ((intro w hSw; (try dsimp only at hSw); go_simp) <;> with_reducible rfl))
        | (refine wpAnyH_take (i := 28) (oi := { dst := some 91, op := Go.Op.load 9 (Go.Operand.tmp 90), type := 9, pos := "law.go:64", after := #[{ on := 27, ground := Go.Ground.data }, { on := 24, ground := Go.Ground.guard }], guard := some (24, true) }) (v := undef) rfl (by kernel_rfl) (by kernel_rfl) (by kernel_rfl) (fun _ _ _ h => h) (Or.inr ⟨by rfl, rfl⟩) hHeld1 ?_)
        try simp only [Act.put, List.setIfInBounds_toArray, List.set_cons_zero, List.set_cons_succ]
        first
        | (refine wpAnyH_take (i := 29) (oi := { dst := some 92, op := Go.Op.move (Go.Operand.tmp 2), type := 9, pos := "law.go:64", after := #[{ on := 24, ground := Go.Ground.guard }], guard := some (24, true) }) (v := ?_) rfl (by kernel_rfl) (by kernel_rfl) (by kernel_rfl) (fun _ _ _ h => h) (Or.inl ⟨by rfl, ?_⟩) hHeld1 ?_
           rotate_left
           · ((intro w hSw; (try dsimp only at hSw); go_simp) <;> with_reducible rfl))
        | (refine wpAnyH_take (i := 29) (oi := { dst := some 92, op := Go.Op.move (Go.Operand.tmp 2), type := 9, pos := "law.go:64", after := #[{ on := 24, ground := Go.Ground.guard }], guard := some (24, true) }) (v := undef) rfl (by kernel_rfl) (by kernel_rfl) (by kernel_rfl) (fun _ _ _ h => h) (Or.inr ⟨by rfl, rfl⟩) hHeld1 ?_)
        try simp only [Act.put, List.setIfInBounds_toArray, List.set_cons_zero, List.set_cons_succ]
        first
        | (refine wpAnyH_take (i := 30) (oi := { dst := some 93, op := Go.Op.binOp Go.BinOp.eql 9 (Go.Operand.tmp 91) (Go.Operand.tmp 92) 9, type := 4, pos := "law.go:64", after := #[{ on := 28, ground := Go.Ground.data }, { on := 29, ground := Go.Ground.data }, { on := 24, ground := Go.Ground.guard }], guard := some (24, true) }) (v := ?_) rfl (by kernel_rfl) (by kernel_rfl) (by kernel_rfl) (fun _ _ _ h => h) (Or.inl ⟨by rfl, ?_⟩) hHeld1 ?_
           rotate_left
           · ((intro w hSw; (try dsimp only at hSw); go_simp) <;> with_reducible rfl))
        | (refine wpAnyH_take (i := 30) (oi := { dst := some 93, op := Go.Op.binOp Go.BinOp.eql 9 (Go.Operand.tmp 91) (Go.Operand.tmp 92) 9, type := 4, pos := "law.go:64", after := #[{ on := 28, ground := Go.Ground.data }, { on := 29, ground := Go.Ground.data }, { on := 24, ground := Go.Ground.guard }], guard := some (24, true) }) (v := undef) rfl (by kernel_rfl) (by kernel_rfl) (by kernel_rfl) (fun _ _ _ h => h) (Or.inr ⟨by rfl, rfl⟩) hHeld1 ?_)
        try simp only [Act.put, List.setIfInBounds_toArray, List.set_cons_zero, List.set_cons_succ]
        first
        | (refine wpAnyH_take (i := 31) (oi := { dst := some 94, op := Go.Op.pick (Go.Operand.tmp 87) (Go.Operand.tmp 93) (Go.Operand.const (Go.Value.bool false)), type := 4, pos := "law.go:64", after := #[{ on := 24, ground := Go.Ground.data }, { on := 30, ground := Go.Ground.data }, { on := 8, ground := Go.Ground.guard }], guard := some (8, false) }) (v := ?_) rfl (by kernel_rfl) (by kernel_rfl) (by kernel_rfl) (fun _ _ _ h => h) (Or.inl ⟨by rfl, ?_⟩) hHeld1 ?_
           rotate_left
           · ((intro w hSw; (try dsimp only at hSw); go_simp) <;> with_reducible rfl))
        | (refine wpAnyH_take (i := 31) (oi := { dst := some 94, op := Go.Op.pick (Go.Operand.tmp 87) (Go.Operand.tmp 93) (Go.Operand.const (Go.Value.bool false)), type := 4, pos := "law.go:64", after := #[{ on := 24, ground := Go.Ground.data }, { on := 30, ground := Go.Ground.data }, { on := 8, ground := Go.Ground.guard }], guard := some (8, false) }) (v := undef) rfl (by kernel_rfl) (by kernel_rfl) (by kernel_rfl) (fun _ _ _ h => h) (Or.inr ⟨by rfl, rfl⟩) hHeld1 ?_)
        try simp only [Act.put, List.setIfInBounds_toArray, List.set_cons_zero, List.set_cons_succ]
        first
        | (refine wpAnyH_take (i := 32) (oi := { dst := some 95, op := Go.Op.binOp Go.BinOp.neq 4 (Go.Operand.tmp 75) (Go.Operand.tmp 94) 4, type := 4, pos := "law.go:64", after := #[{ on := 12, ground := Go.Ground.data }, { on := 31, ground := Go.Ground.data }, { on := 8, ground := Go.Ground.guard }], guard := some (8, false) }) (v := ?_) rfl (by kernel_rfl) (by kernel_rfl) (by kernel_rfl) (fun _ _ _ h => h) (Or.inl ⟨by rfl, ?_⟩) hHeld1 ?_
           rotate_left
           · ((intro w hSw; (try dsimp only at hSw); go_simp) <;> with_reducible rfl))
        | (refine wpAnyH_take (i := 32) (oi := { dst := some 95, op := Go.Op.binOp Go.BinOp.neq 4 (Go.Operand.tmp 75) (Go.Operand.tmp 94) 4, type := 4, pos := "law.go:64", after := #[{ on := 12, ground := Go.Ground.data }, { on := 31, ground := Go.Ground.data }, { on := 8, ground := Go.Ground.guard }], guard := some (8, false) }) (v := undef) rfl (by kernel_rfl) (by kernel_rfl) (by kernel_rfl) (fun _ _ _ h => h) (Or.inr ⟨by rfl, rfl⟩) hHeld1 ?_)
        try simp only [Act.put, List.setIfInBounds_toArray, List.set_cons_zero, List.set_cons_succ]
        first
        | (refine wpAnyH_take (i := 33) (oi := { dst := some 96, op := Go.Op.pick (Go.Operand.tmp 71) (Go.Operand.const (Go.Value.bool true)) (Go.Operand.tmp 95), type := 4, pos := "law.go:64", after := #[{ on := 8, ground := Go.Ground.data }, { on := 32, ground := Go.Ground.data }], guard := none }) (v := ?_) rfl (by kernel_rfl) (by kernel_rfl) (by kernel_rfl) (fun _ _ _ h => h) (Or.inl ⟨by rfl, ?_⟩) hHeld1 ?_
           rotate_left
           · ((intro w hSw; (try dsimp only at hSw); go_simp) <;> with_reducible rfl))
        | (refine wpAnyH_take (i := 33) (oi := { dst := some 96, op := Go.Op.pick (Go.Operand.tmp 71) (Go.Operand.const (Go.Value.bool true)) (Go.Operand.tmp 95), type := 4, pos := "law.go:64", after := #[{ on := 8, ground := Go.Ground.data }, { on := 32, ground := Go.Ground.data }], guard := none }) (v := undef) rfl (by kernel_rfl) (by kernel_rfl) (by kernel_rfl) (fun _ _ _ h => h) (Or.inr ⟨by rfl, rfl⟩) hHeld1 ?_)
        try simp only [Act.put, List.setIfInBounds_toArray, List.set_cons_zero, List.set_cons_succ]
        first
        | (refine wpAnyH_take (i := 34) (oi := { dst := some 97, op := Go.Op.move (Go.Operand.tmp 96), type := 4, pos := "law.go:64", after := #[{ on := 33, ground := Go.Ground.data }, { on := 24, ground := Go.Ground.chain }], guard := none }) (v := ?_) rfl (by kernel_rfl) (by kernel_rfl) (by kernel_rfl) (fun _ _ _ h => h) (Or.inl ⟨by rfl, ?_⟩) hHeld1 ?_
           rotate_left
           · ((intro w hSw; (try dsimp only at hSw); go_simp) <;> with_reducible rfl))
        | (refine wpAnyH_take (i := 34) (oi := { dst := some 97, op := Go.Op.move (Go.Operand.tmp 96), type := 4, pos := "law.go:64", after := #[{ on := 33, ground := Go.Ground.data }, { on := 24, ground := Go.Ground.chain }], guard := none }) (v := undef) rfl (by kernel_rfl) (by kernel_rfl) (by kernel_rfl) (fun _ _ _ h => h) (Or.inr ⟨by rfl, rfl⟩) hHeld1 ?_)
        try simp only [Act.put, List.setIfInBounds_toArray, List.set_cons_zero, List.set_cons_succ]
        first
        | (refine wpAnyH_take (i := 35) (oi := { dst := some 98, op := Go.Op.move (Go.Operand.tmp 0), type := 9, pos := "law.go:64", after := #[{ on := 34, ground := Go.Ground.guard }], guard := some (34, false) }) (v := ?_) rfl (by kernel_rfl) (by kernel_rfl) (by kernel_rfl) (fun _ _ _ h => h) (Or.inl ⟨by rfl, ?_⟩) hHeld1 ?_
           rotate_left
           · ((intro w hSw; (try dsimp only at hSw); go_simp) <;> with_reducible rfl))
        | (refine wpAnyH_take (i := 35) (oi := { dst := some 98, op := Go.Op.move (Go.Operand.tmp 0), type := 9, pos := "law.go:64", after := #[{ on := 34, ground := Go.Ground.guard }], guard := some (34, false) }) (v := undef) rfl (by kernel_rfl) (by kernel_rfl) (by kernel_rfl) (fun _ _ _ h => h) (Or.inr ⟨by rfl, rfl⟩) hHeld1 ?_)
        try simp only [Act.put, List.setIfInBounds_toArray, List.set_cons_zero, List.set_cons_succ]
        first
        | (refine wpAnyH_take (i := 36) (oi := { dst := some 99, op := Go.Op.move (Go.Operand.tmp 1), type := 9, pos := "law.go:64", after := #[{ on := 34, ground := Go.Ground.guard }], guard := some (34, false) }) (v := ?_) rfl (by kernel_rfl) (by kernel_rfl) (by kernel_rfl) (fun _ _ _ h => h) (Or.inl ⟨by rfl, ?_⟩) hHeld1 ?_
           rotate_left
           · ((intro w hSw; (try dsimp only at hSw); go_simp) <;> with_reducible rfl))
        | (refine wpAnyH_take (i := 36) (oi := { dst := some 99, op := Go.Op.move (Go.Operand.tmp 1), type := 9, pos := "law.go:64", after := #[{ on := 34, ground := Go.Ground.guard }], guard := some (34, false) }) (v := undef) rfl (by kernel_rfl) (by kernel_rfl) (by kernel_rfl) (fun _ _ _ h => h) (Or.inr ⟨by rfl, rfl⟩) hHeld1 ?_)
        try simp only [Act.put, List.setIfInBounds_toArray, List.set_cons_zero, List.set_cons_succ]
        first
        | (refine wpAnyH_take (i := 38) (oi := { dst := some 101, op := Go.Op.move (Go.Operand.tmp 0), type := 9, pos := "law.go:64", after := #[{ on := 34, ground := Go.Ground.guard }], guard := some (34, false) }) (v := ?_) rfl (by kernel_rfl) (by kernel_rfl) (by kernel_rfl) (fun _ _ _ h => h) (Or.inl ⟨by rfl, ?_⟩) hHeld1 ?_
           rotate_left
           · ((intro w hSw; (try dsimp only at hSw); go_simp) <;> with_reducible rfl))
        | (refine wpAnyH_take (i := 38) (oi := { dst := some 101, op := Go.Op.move (Go.Operand.tmp 0), type := 9, pos := "law.go:64", after := #[{ on := 34, ground := Go.Ground.guard }], guard := some (34, false) }) (v := undef) rfl (by kernel_rfl) (by kernel_rfl) (by kernel_rfl) (fun _ _ _ h => h) (Or.inr ⟨by rfl, rfl⟩) hHeld1 ?_)
        try simp only [Act.put, List.setIfInBounds_toArray, List.set_cons_zero, List.set_cons_succ]
        first
        | (refine wpAnyH_take (i := 39) (oi := { dst := some 102, op := Go.Op.move (Go.Operand.tmp 1), type := 9, pos := "law.go:64", after := #[{ on := 34, ground := Go.Ground.guard }], guard := some (34, false) }) (v := ?_) rfl (by kernel_rfl) (by kernel_rfl) (by kernel_rfl) (fun _ _ _ h => h) (Or.inl ⟨by rfl, ?_⟩) hHeld1 ?_
           rotate_left
           · ((intro w hSw; (try dsimp only at hSw); go_simp) <;> with_reducible rfl))
        | (refine wpAnyH_take (i := 39) (oi := { dst := some 102, op := Go.Op.move (Go.Operand.tmp 1), type := 9, pos := "law.go:64", after := #[{ on := 34, ground := Go.Ground.guard }], guard := some (34, false) }) (v := undef) rfl (by kernel_rfl) (by kernel_rfl) (by kernel_rfl) (fun _ _ _ h => h) (Or.inr ⟨by rfl, rfl⟩) hHeld1 ?_)
        try simp only [Act.put, List.setIfInBounds_toArray, List.set_cons_zero, List.set_cons_succ]
        refine wpAnyH_ready (rs := [37]) (by kernel_rfl) (by simp) ?_
        refine AllReadyH.cons (o := { dst := some 100, op := Go.Op.call { callee := Go.Callee.value (Go.Operand.func 21), args := #[Go.Operand.tmp 98, Go.Operand.tmp 99], argTypes := #[9, 9] }, type := 9, pos := "law.go:64", after := #[{ on := 35, ground := Go.Ground.data }, { on := 36, ground := Go.Ground.data }, { on := 34, ground := Go.Ground.chain }, { on := 34, ground := Go.Ground.guard }], guard := some (34, false) }) rfl (fun Kr37 hK => ?_) AllReadyH.nil
        go_simp
        (go_at_call 21; (with_reducible refine (HAG.out _).mono ?_); rintro e wn ⟨rfl, hb⟩)
        refine hK.out _ _ ?_ (fun hHeld2 => ?_)
        · (try dsimp only); exact ⟨cell_keep hHeld1.1 hb, cell_keep hHeld1.2.1 hb, cell_keep hHeld1.2.2.1 hb, cell_keep hHeld1.2.2.2 hb⟩
        have HB := Lib.hid (Below.next HB.out hb)
        clear hK Kr37 hHeld1
        try simp only [Act.put, List.setIfInBounds_toArray, List.set_cons_zero, List.set_cons_succ]
        refine wpAnyH_ready (rs := [40]) (by kernel_rfl) (by simp) ?_
        refine AllReadyH.cons (o := { dst := some 103, op := Go.Op.call { callee := Go.Callee.value (Go.Operand.func 22), args := #[Go.Operand.tmp 101, Go.Operand.tmp 102], argTypes := #[9, 9] }, type := 9, pos := "law.go:64", after := #[{ on := 38, ground := Go.Ground.data }, { on := 39, ground := Go.Ground.data }, { on := 37, ground := Go.Ground.chain }, { on := 34, ground := Go.Ground.guard }], guard := some (34, false) }) rfl (fun Kr40 hK => ?_) AllReadyH.nil
        go_simp
        (go_at_call 22; (with_reducible refine (HRA.out _).mono ?_); rintro e wn ⟨rfl, hb⟩)
        refine hK.out _ _ ?_ (fun hHeld3 => ?_)
        · (try dsimp only); exact ⟨cell_keep hHeld2.1 hb, cell_keep hHeld2.2.1 hb, cell_keep hHeld2.2.2.1 hb, cell_keep hHeld2.2.2.2 hb⟩
        have HB := Lib.hid (Below.next HB.out hb)
        clear hK Kr40 hHeld2
        try simp only [Act.put, List.setIfInBounds_toArray, List.set_cons_zero, List.set_cons_succ]
        first
        | (refine wpAnyH_take (i := 41) (oi := { dst := some 104, op := Go.Op.binOp Go.BinOp.neq 9 (Go.Operand.tmp 100) (Go.Operand.tmp 103) 9, type := 4, pos := "law.go:64", after := #[{ on := 37, ground := Go.Ground.data }, { on := 40, ground := Go.Ground.data }, { on := 34, ground := Go.Ground.guard }], guard := some (34, false) }) (v := ?_) rfl (by kernel_rfl) (by kernel_rfl) (by kernel_rfl) (fun _ _ _ h => h) (Or.inl ⟨by rfl, ?_⟩) hHeld3 ?_
           rotate_left
           · ((intro w hSw; (try dsimp only at hSw); go_simp) <;> with_reducible rfl))
        | (refine wpAnyH_take (i := 41) (oi := { dst := some 104, op := Go.Op.binOp Go.BinOp.neq 9 (Go.Operand.tmp 100) (Go.Operand.tmp 103) 9, type := 4, pos := "law.go:64", after := #[{ on := 37, ground := Go.Ground.data }, { on := 40, ground := Go.Ground.data }, { on := 34, ground := Go.Ground.guard }], guard := some (34, false) }) (v := undef) rfl (by kernel_rfl) (by kernel_rfl) (by kernel_rfl) (fun _ _ _ h => h) (Or.inr ⟨by rfl, rfl⟩) hHeld3 ?_)
        try simp only [Act.put, List.setIfInBounds_toArray, List.set_cons_zero, List.set_cons_succ]
        first
        | (refine wpAnyH_take (i := 42) (oi := { dst := some 105, op := Go.Op.pick (Go.Operand.tmp 97) (Go.Operand.const (Go.Value.bool true)) (Go.Operand.tmp 104), type := 4, pos := "law.go:64", after := #[{ on := 34, ground := Go.Ground.data }, { on := 41, ground := Go.Ground.data }], guard := none }) (v := ?_) rfl (by kernel_rfl) (by kernel_rfl) (by kernel_rfl) (fun _ _ _ h => h) (Or.inl ⟨by rfl, ?_⟩) hHeld3 ?_
           rotate_left
           · ((intro w hSw; (try dsimp only at hSw); go_simp) <;> with_reducible rfl))
        | (refine wpAnyH_take (i := 42) (oi := { dst := some 105, op := Go.Op.pick (Go.Operand.tmp 97) (Go.Operand.const (Go.Value.bool true)) (Go.Operand.tmp 104), type := 4, pos := "law.go:64", after := #[{ on := 34, ground := Go.Ground.data }, { on := 41, ground := Go.Ground.data }], guard := none }) (v := undef) rfl (by kernel_rfl) (by kernel_rfl) (by kernel_rfl) (fun _ _ _ h => h) (Or.inr ⟨by rfl, rfl⟩) hHeld3 ?_)
        try simp only [Act.put, List.setIfInBounds_toArray, List.set_cons_zero, List.set_cons_succ]
        refine wpAnyH_done (by kernel_rfl) ?_ _
        clear hHeld3
        exact hKK _ _ (Met.intro (hJ0 _ _ ⟨rfl, rfl, rfl, rfl, rfl, rfl, rfl, rfl, rfl, rfl, HB.out⟩))
      · have HSG := Lib.hid (fun w => signed_v t key y HTM.out HX.out (r := false) (by simp [signedR, h0, h1]) w)
        rw [← str_eq] at h0
        rw [← str_eq] at h1
        have m2 : (m9 : Int) = 2 := by have := HM9.out; simp at this; omega
        have hbx := heap_alloc_new w4 (.cells #[.int .i64 9, .int .u64 n0, .slice ab lb cb, .slice (some ⟨bb, off, none⟩) m9 cp] 27)
        have c0 : ((w4.alloc (.cells #[.int .i64 9, .int .u64 n0, .slice ab lb cb, .slice (some ⟨bb, off, none⟩) m9 cp] 27)).drew).cell? ⟨w4.heap.size, 0, none⟩ = some (.int .i64 9) := cell_of hbx 0 rfl
        have c1 : ((w4.alloc (.cells #[.int .i64 9, .int .u64 n0, .slice ab lb cb, .slice (some ⟨bb, off, none⟩) m9 cp] 27)).drew).cell? ⟨w4.heap.size, 3, none⟩ = some (.slice (some ⟨bb, off, none⟩) m9 cp) := cell_of hbx 3 rfl
        have c2 : ((w4.alloc (.cells #[.int .i64 9, .int .u64 n0, .slice ab lb cb, .slice (some ⟨bb, off, none⟩) m9 cp] 27)).drew).cell? ⟨bb, off, none⟩ = some (.string (strB p0)) := alloc_cell _ hbb (hcs 0 (by simp))
        have c3 : ((w4.alloc (.cells #[.int .i64 9, .int .u64 n0, .slice ab lb cb, .slice (some ⟨bb, off, none⟩) m9 cp] 27)).drew).cell? ⟨bb, off + 1, none⟩ = some (.string (strB p1)) := alloc_cell _ hbb (hcs 1 (by simp))
        have HB : Hid (Below w.heap.size w ((w4.alloc (.cells #[.int .i64 9, .int .u64 n0, .slice ab lb cb, .slice (some ⟨bb, off, none⟩) m9 cp] 27)).drew)) := Lib.hid ((HB.out.alloc HB.out.size _).drew)
        clear hbx hcs hbb
        refine wp_region_held_drew (S := (fun W => W.cell? ⟨w4.heap.size, 0, none⟩ = some (.int .i64 9) ∧ W.cell? ⟨w4.heap.size, 3, none⟩ = some (.slice (some ⟨bb, off, none⟩) m9 cp) ∧ W.cell? ⟨bb, off, none⟩ = some (.string (strB p0)) ∧ W.cell? ⟨bb, off + 1, none⟩ = some (.string (strB p1)))) (by kernel_rfl) ?_ (fun hHeld0 => ?_)
        · (try dsimp only); exact ⟨c0, c1, c2, c3⟩
        first
        | (refine wpAnyH_take (i := 0) (oi := { dst := some 63, op := Go.Op.move (Go.Operand.tmp 13), type := 9, pos := "law.go:64", after := #[], guard := none }) (v := ?_) rfl (by kernel_rfl) (by kernel_rfl) (by kernel_rfl) (fun _ _ _ h => h) (Or.inl ⟨by rfl, ?_⟩) hHeld0 ?_
           rotate_left
           · ((intro w hSw; (try dsimp only at hSw); go_simp) <;> with_reducible rfl))
        | (refine wpAnyH_take (i := 0) (oi := { dst := some 63, op := Go.Op.move (Go.Operand.tmp 13), type := 9, pos := "law.go:64", after := #[], guard := none }) (v := undef) rfl (by kernel_rfl) (by kernel_rfl) (by kernel_rfl) (fun _ _ _ h => h) (Or.inr ⟨by rfl, rfl⟩) hHeld0 ?_)
        try simp only [Act.put, List.setIfInBounds_toArray, List.set_cons_zero, List.set_cons_succ]
        first
        | (refine wpAnyH_take (i := 1) (oi := { dst := some 64, op := Go.Op.move (Go.Operand.tmp 15), type := 9, pos := "law.go:64", after := #[], guard := none }) (v := ?_) rfl (by kernel_rfl) (by kernel_rfl) (by kernel_rfl) (fun _ _ _ h => h) (Or.inl ⟨by rfl, ?_⟩) hHeld0 ?_
           rotate_left
           · ((intro w hSw; (try dsimp only at hSw); go_simp) <;> with_reducible rfl))
        | (refine wpAnyH_take (i := 1) (oi := { dst := some 64, op := Go.Op.move (Go.Operand.tmp 15), type := 9, pos := "law.go:64", after := #[], guard := none }) (v := undef) rfl (by kernel_rfl) (by kernel_rfl) (by kernel_rfl) (fun _ _ _ h => h) (Or.inr ⟨by rfl, rfl⟩) hHeld0 ?_)
        try simp only [Act.put, List.setIfInBounds_toArray, List.set_cons_zero, List.set_cons_succ]
        first
        | (refine wpAnyH_take (i := 2) (oi := { dst := some 65, op := Go.Op.binOp Go.BinOp.neq 9 (Go.Operand.tmp 63) (Go.Operand.tmp 64) 9, type := 4, pos := "law.go:64", after := #[{ on := 0, ground := Go.Ground.data }, { on := 1, ground := Go.Ground.data }], guard := none }) (v := ?_) rfl (by kernel_rfl) (by kernel_rfl) (by kernel_rfl) (fun _ _ _ h => h) (Or.inl ⟨by rfl, ?_⟩) hHeld0 ?_
           rotate_left
           · ((intro w hSw; (try dsimp only at hSw); go_simp) <;> with_reducible rfl))
        | (refine wpAnyH_take (i := 2) (oi := { dst := some 65, op := Go.Op.binOp Go.BinOp.neq 9 (Go.Operand.tmp 63) (Go.Operand.tmp 64) 9, type := 4, pos := "law.go:64", after := #[{ on := 0, ground := Go.Ground.data }, { on := 1, ground := Go.Ground.data }], guard := none }) (v := undef) rfl (by kernel_rfl) (by kernel_rfl) (by kernel_rfl) (fun _ _ _ h => h) (Or.inr ⟨by rfl, rfl⟩) hHeld0 ?_)
        try simp only [Act.put, List.setIfInBounds_toArray, List.set_cons_zero, List.set_cons_succ]
        first
        | (refine wpAnyH_take (i := 3) (oi := { dst := some 66, op := Go.Op.move (Go.Operand.tmp 65), type := 4, pos := "law.go:64", after := #[{ on := 2, ground := Go.Ground.data }], guard := none }) (v := ?_) rfl (by kernel_rfl) (by kernel_rfl) (by kernel_rfl) (fun _ _ _ h => h) (Or.inl ⟨by rfl, ?_⟩) hHeld0 ?_
           rotate_left
           · ((intro w hSw; (try dsimp only at hSw); go_simp) <;> with_reducible rfl))
        | (refine wpAnyH_take (i := 3) (oi := { dst := some 66, op := Go.Op.move (Go.Operand.tmp 65), type := 4, pos := "law.go:64", after := #[{ on := 2, ground := Go.Ground.data }], guard := none }) (v := undef) rfl (by kernel_rfl) (by kernel_rfl) (by kernel_rfl) (fun _ _ _ h => h) (Or.inr ⟨by rfl, rfl⟩) hHeld0 ?_)
        try simp only [Act.put, List.setIfInBounds_toArray, List.set_cons_zero, List.set_cons_succ]
        first
        | (refine wpAnyH_take (i := 4) (oi := { dst := some 67, op := Go.Op.move (Go.Operand.tmp 14), type := 42, pos := "law.go:64", after := #[{ on := 3, ground := Go.Ground.guard }], guard := some (3, false) }) (v := ?_) rfl (by kernel_rfl) (by kernel_rfl) (by kernel_rfl) (fun _ _ _ h => h) (Or.inl ⟨by rfl, ?_⟩) hHeld0 ?_
           rotate_left
           · ((intro w hSw; (try dsimp only at hSw); go_simp) <;> with_reducible rfl))
        | (refine wpAnyH_take (i := 4) (oi := { dst := some 67, op := Go.Op.move (Go.Operand.tmp 14), type := 42, pos := "law.go:64", after := #[{ on := 3, ground := Go.Ground.guard }], guard := some (3, false) }) (v := undef) rfl (by kernel_rfl) (by kernel_rfl) (by kernel_rfl) (fun _ _ _ h => h) (Or.inr ⟨by rfl, rfl⟩) hHeld0 ?_)
        try simp only [Act.put, List.setIfInBounds_toArray, List.set_cons_zero, List.set_cons_succ]
        first
        | (refine wpAnyH_take (i := 5) (oi := { dst := some 68, op := Go.Op.move (Go.Operand.tmp 16), type := 42, pos := "law.go:64", after := #[{ on := 3, ground := Go.Ground.guard }], guard := some (3, false) }) (v := ?_) rfl (by kernel_rfl) (by kernel_rfl) (by kernel_rfl) (fun _ _ _ h => h) (Or.inl ⟨by rfl, ?_⟩) hHeld0 ?_
           rotate_left
           · ((intro w hSw; (try dsimp only at hSw); go_simp) <;> with_reducible rfl))
        | (refine wpAnyH_take (i := 5) (oi := { dst := some 68, op := Go.Op.move (Go.Operand.tmp 16), type := 42, pos := "law.go:64", after := #[{ on := 3, ground := Go.Ground.guard }], guard := some (3, false) }) (v := undef) rfl (by kernel_rfl) (by kernel_rfl) (by kernel_rfl) (fun _ _ _ h => h) (Or.inr ⟨by rfl, rfl⟩) hHeld0 ?_)
        try simp only [Act.put, List.setIfInBounds_toArray, List.set_cons_zero, List.set_cons_succ]
        first
        | (refine wpAnyH_take (i := 6) (oi := { dst := some 69, op := Go.Op.binOp Go.BinOp.neq 42 (Go.Operand.tmp 67) (Go.Operand.tmp 68) 42, type := 4, pos := "law.go:64", after := #[{ on := 4, ground := Go.Ground.data }, { on := 5, ground := Go.Ground.data }, { on := 3, ground := Go.Ground.guard }], guard := some (3, false) }) (v := ?_) rfl (by kernel_rfl) (by kernel_rfl) (by kernel_rfl) (fun _ _ _ h => h) (Or.inl ⟨by rfl, ?_⟩) hHeld0 ?_
           rotate_left
           · ((intro w hSw; (try dsimp only at hSw); go_simp) <;> with_reducible rfl))
        | (refine wpAnyH_take (i := 6) (oi := { dst := some 69, op := Go.Op.binOp Go.BinOp.neq 42 (Go.Operand.tmp 67) (Go.Operand.tmp 68) 42, type := 4, pos := "law.go:64", after := #[{ on := 4, ground := Go.Ground.data }, { on := 5, ground := Go.Ground.data }, { on := 3, ground := Go.Ground.guard }], guard := some (3, false) }) (v := undef) rfl (by kernel_rfl) (by kernel_rfl) (by kernel_rfl) (fun _ _ _ h => h) (Or.inr ⟨by rfl, rfl⟩) hHeld0 ?_)
        try simp only [Act.put, List.setIfInBounds_toArray, List.set_cons_zero, List.set_cons_succ]
        first
        | (refine wpAnyH_take (i := 7) (oi := { dst := some 70, op := Go.Op.pick (Go.Operand.tmp 66) (Go.Operand.const (Go.Value.bool true)) (Go.Operand.tmp 69), type := 4, pos := "law.go:64", after := #[{ on := 3, ground := Go.Ground.data }, { on := 6, ground := Go.Ground.data }], guard := none }) (v := ?_) rfl (by kernel_rfl) (by kernel_rfl) (by kernel_rfl) (fun _ _ _ h => h) (Or.inl ⟨by rfl, ?_⟩) hHeld0 ?_
           rotate_left
           · ((intro w hSw; (try dsimp only at hSw); go_simp) <;> with_reducible rfl))
        | (refine wpAnyH_take (i := 7) (oi := { dst := some 70, op := Go.Op.pick (Go.Operand.tmp 66) (Go.Operand.const (Go.Value.bool true)) (Go.Operand.tmp 69), type := 4, pos := "law.go:64", after := #[{ on := 3, ground := Go.Ground.data }, { on := 6, ground := Go.Ground.data }], guard := none }) (v := undef) rfl (by kernel_rfl) (by kernel_rfl) (by kernel_rfl) (fun _ _ _ h => h) (Or.inr ⟨by rfl, rfl⟩) hHeld0 ?_)
        try simp only [Act.put, List.setIfInBounds_toArray, List.set_cons_zero, List.set_cons_succ]
        first
        | (refine wpAnyH_take (i := 8) (oi := { dst := some 71, op := Go.Op.move (Go.Operand.tmp 70), type := 4, pos := "law.go:64", after := #[{ on := 7, ground := Go.Ground.data }, { on := 3, ground := Go.Ground.chain }], guard := none }) (v := ?_) rfl (by kernel_rfl) (by kernel_rfl) (by kernel_rfl) (fun _ _ _ h => h) (Or.inl ⟨by rfl, ?_⟩) hHeld0 ?_
           rotate_left
           · ((intro w hSw; (try dsimp only at hSw); go_simp) <;> with_reducible rfl))
        | (refine wpAnyH_take (i := 8) (oi := { dst := some 71, op := Go.Op.move (Go.Operand.tmp 70), type := 4, pos := "law.go:64", after := #[{ on := 7, ground := Go.Ground.data }, { on := 3, ground := Go.Ground.chain }], guard := none }) (v := undef) rfl (by kernel_rfl) (by kernel_rfl) (by kernel_rfl) (fun _ _ _ h => h) (Or.inr ⟨by rfl, rfl⟩) hHeld0 ?_)
        try simp only [Act.put, List.setIfInBounds_toArray, List.set_cons_zero, List.set_cons_succ]
        first
        | (refine wpAnyH_take (i := 9) (oi := { dst := some 72, op := Go.Op.move (Go.Operand.tmp 0), type := 9, pos := "law.go:64", after := #[{ on := 8, ground := Go.Ground.guard }], guard := some (8, false) }) (v := ?_) rfl (by kernel_rfl) (by kernel_rfl) (by kernel_rfl) (fun _ _ _ h => h) (Or.inl ⟨by rfl, ?_⟩) hHeld0 ?_
           rotate_left
           · ((intro w hSw; (try dsimp only at hSw); go_simp) <;> with_reducible rfl))
        | (refine wpAnyH_take (i := 9) (oi := { dst := some 72, op := Go.Op.move (Go.Operand.tmp 0), type := 9, pos := "law.go:64", after := #[{ on := 8, ground := Go.Ground.guard }], guard := some (8, false) }) (v := undef) rfl (by kernel_rfl) (by kernel_rfl) (by kernel_rfl) (fun _ _ _ h => h) (Or.inr ⟨by rfl, rfl⟩) hHeld0 ?_)
        try simp only [Act.put, List.setIfInBounds_toArray, List.set_cons_zero, List.set_cons_succ]
        first
        | (refine wpAnyH_take (i := 10) (oi := { dst := some 73, op := Go.Op.move (Go.Operand.tmp 1), type := 9, pos := "law.go:64", after := #[{ on := 8, ground := Go.Ground.guard }], guard := some (8, false) }) (v := ?_) rfl (by kernel_rfl) (by kernel_rfl) (by kernel_rfl) (fun _ _ _ h => h) (Or.inl ⟨by rfl, ?_⟩) hHeld0 ?_
           rotate_left
           · ((intro w hSw; (try dsimp only at hSw); go_simp) <;> with_reducible rfl))
        | (refine wpAnyH_take (i := 10) (oi := { dst := some 73, op := Go.Op.move (Go.Operand.tmp 1), type := 9, pos := "law.go:64", after := #[{ on := 8, ground := Go.Ground.guard }], guard := some (8, false) }) (v := undef) rfl (by kernel_rfl) (by kernel_rfl) (by kernel_rfl) (fun _ _ _ h => h) (Or.inr ⟨by rfl, rfl⟩) hHeld0 ?_)
        try simp only [Act.put, List.setIfInBounds_toArray, List.set_cons_zero, List.set_cons_succ]
        first
        | (refine wpAnyH_take (i := 11) (oi := { dst := some 74, op := Go.Op.move (Go.Operand.tmp 2), type := 9, pos := "law.go:64", after := #[{ on := 8, ground := Go.Ground.guard }], guard := some (8, false) }) (v := ?_) rfl (by kernel_rfl) (by kernel_rfl) (by kernel_rfl) (fun _ _ _ h => h) (Or.inl ⟨by rfl, ?_⟩) hHeld0 ?_
           rotate_left
           · ((intro w hSw; (try dsimp only at hSw); go_simp) <;> with_reducible rfl))
        | (refine wpAnyH_take (i := 11) (oi := { dst := some 74, op := Go.Op.move (Go.Operand.tmp 2), type := 9, pos := "law.go:64", after := #[{ on := 8, ground := Go.Ground.guard }], guard := some (8, false) }) (v := undef) rfl (by kernel_rfl) (by kernel_rfl) (by kernel_rfl) (fun _ _ _ h => h) (Or.inr ⟨by rfl, rfl⟩) hHeld0 ?_)
        try simp only [Act.put, List.setIfInBounds_toArray, List.set_cons_zero, List.set_cons_succ]
        first
        | (refine wpAnyH_take (i := 13) (oi := { dst := some 76, op := Go.Op.fieldAddr 27 (Go.Operand.tmp 17) 0, type := 0, pos := "law.go:64", after := #[{ on := 8, ground := Go.Ground.guard }], guard := some (8, false) }) (v := ?_) rfl (by kernel_rfl) (by kernel_rfl) (by kernel_rfl) (fun _ _ _ h => h) (Or.inl ⟨by rfl, ?_⟩) hHeld0 ?_
           rotate_left
           · ((intro w hSw; (try dsimp only at hSw); go_simp) <;> with_reducible rfl))
        | (refine wpAnyH_take (i := 13) (oi := { dst := some 76, op := Go.Op.fieldAddr 27 (Go.Operand.tmp 17) 0, type := 0, pos := "law.go:64", after := #[{ on := 8, ground := Go.Ground.guard }], guard := some (8, false) }) (v := undef) rfl (by kernel_rfl) (by kernel_rfl) (by kernel_rfl) (fun _ _ _ h => h) (Or.inr ⟨by rfl, rfl⟩) hHeld0 ?_)
        try simp only [Act.put, List.setIfInBounds_toArray, List.set_cons_zero, List.set_cons_succ]
        first
        | (refine wpAnyH_take (i := 14) (oi := { dst := some 77, op := Go.Op.load 3 (Go.Operand.tmp 76), type := 3, pos := "law.go:64", after := #[{ on := 13, ground := Go.Ground.data }, { on := 8, ground := Go.Ground.guard }], guard := some (8, false) }) (v := ?_) rfl (by kernel_rfl) (by kernel_rfl) (by kernel_rfl) (fun _ _ _ h => h) (Or.inl ⟨by rfl, ?_⟩) hHeld0 ?_
           rotate_left
           · ((intro w hSw; (try dsimp only at hSw); go_simp) <;> with_reducible rfl))
        | (refine wpAnyH_take (i := 14) (oi := { dst := some 77, op := Go.Op.load 3 (Go.Operand.tmp 76), type := 3, pos := "law.go:64", after := #[{ on := 13, ground := Go.Ground.data }, { on := 8, ground := Go.Ground.guard }], guard := some (8, false) }) (v := undef) rfl (by kernel_rfl) (by kernel_rfl) (by kernel_rfl) (fun _ _ _ h => h) (Or.inr ⟨by rfl, rfl⟩) hHeld0 ?_)
        try simp only [Act.put, List.setIfInBounds_toArray, List.set_cons_zero, List.set_cons_succ]
        first
        | (refine wpAnyH_take (i := 15) (oi := { dst := some 78, op := Go.Op.binOp Go.BinOp.eql 3 (Go.Operand.tmp 77) (Go.Operand.const (Go.Value.int Go.IntKind.i64 9)) 3, type := 4, pos := "law.go:64", after := #[{ on := 14, ground := Go.Ground.data }, { on := 8, ground := Go.Ground.guard }], guard := some (8, false) }) (v := ?_) rfl (by kernel_rfl) (by kernel_rfl) (by kernel_rfl) (fun _ _ _ h => h) (Or.inl ⟨by rfl, ?_⟩) hHeld0 ?_
           rotate_left
           · ((intro w hSw; (try dsimp only at hSw); go_simp) <;> with_reducible rfl))
        | (refine wpAnyH_take (i := 15) (oi := { dst := some 78, op := Go.Op.binOp Go.BinOp.eql 3 (Go.Operand.tmp 77) (Go.Operand.const (Go.Value.int Go.IntKind.i64 9)) 3, type := 4, pos := "law.go:64", after := #[{ on := 14, ground := Go.Ground.data }, { on := 8, ground := Go.Ground.guard }], guard := some (8, false) }) (v := undef) rfl (by kernel_rfl) (by kernel_rfl) (by kernel_rfl) (fun _ _ _ h => h) (Or.inr ⟨by rfl, rfl⟩) hHeld0 ?_)
        try simp only [Act.put, List.setIfInBounds_toArray, List.set_cons_zero, List.set_cons_succ]
        refine wpAnyH_ready (rs := [12]) (by kernel_rfl) (by simp) ?_
        refine AllReadyH.cons (o := { dst := some 75, op := Go.Op.call { callee := Go.Callee.value (Go.Operand.func 20), args := #[Go.Operand.tmp 72, Go.Operand.tmp 73, Go.Operand.tmp 74], argTypes := #[9, 9, 9] }, type := 4, pos := "law.go:64", after := #[{ on := 9, ground := Go.Ground.data }, { on := 10, ground := Go.Ground.data }, { on := 11, ground := Go.Ground.data }, { on := 8, ground := Go.Ground.chain }, { on := 8, ground := Go.Ground.guard }], guard := some (8, false) }) rfl (fun Kr12 hK => ?_) AllReadyH.nil
        go_simp
        (go_at_call 20; (with_reducible refine (HSG.out _).mono ?_); rintro e wn ⟨rfl, hb⟩)
        refine hK.out _ _ ?_ (fun hHeld1 => ?_)
        · (try dsimp only); exact ⟨cell_keep hHeld0.1 hb, cell_keep hHeld0.2.1 hb, cell_keep hHeld0.2.2.1 hb, cell_keep hHeld0.2.2.2 hb⟩
        have HB := Lib.hid (Below.next HB.out hb)
        clear hK Kr12 hHeld0
        try simp only [Act.put, List.setIfInBounds_toArray, List.set_cons_zero, List.set_cons_succ]
        first
        | (refine wpAnyH_take (i := 16) (oi := { dst := some 79, op := Go.Op.move (Go.Operand.tmp 78), type := 4, pos := "law.go:64", after := #[{ on := 15, ground := Go.Ground.data }, { on := 12, ground := Go.Ground.chain }, { on := 8, ground := Go.Ground.guard }], guard := some (8, false) }) (v := ?_) rfl (by kernel_rfl) (by kernel_rfl) (by kernel_rfl) (fun _ _ _ h => h) (Or.inl ⟨by rfl, ?_⟩) hHeld1 ?_
           rotate_left
           · ((intro w hSw; (try dsimp only at hSw); go_simp) <;> with_reducible rfl))
        | (refine wpAnyH_take (i := 16) (oi := { dst := some 79, op := Go.Op.move (Go.Operand.tmp 78), type := 4, pos := "law.go:64", after := #[{ on := 15, ground := Go.Ground.data }, { on := 12, ground := Go.Ground.chain }, { on := 8, ground := Go.Ground.guard }], guard := some (8, false) }) (v := undef) rfl (by kernel_rfl) (by kernel_rfl) (by kernel_rfl) (fun _ _ _ h => h) (Or.inr ⟨by rfl, rfl⟩) hHeld1 ?_)
        try simp only [Act.put, List.setIfInBounds_toArray, List.set_cons_zero, List.set_cons_succ]
        first
        | (refine wpAnyH_take (i := 17) (oi := { dst := some 80, op := Go.Op.fieldAddr 27 (Go.Operand.tmp 17) 3, type := 0, pos := "law.go:64", after := #[{ on := 16, ground := Go.Ground.guard }], guard := some (16, true) }) (v := ?_) rfl (by kernel_rfl) (by kernel_rfl) (by kernel_rfl) (fun _ _ _ h => h) (Or.inl ⟨by rfl, ?_⟩) hHeld1 ?_
           rotate_left
           · ((intro w hSw; (try dsimp only at hSw); go_simp) <;> with_reducible rfl))
        | (refine wpAnyH_take (i := 17) (oi := { dst := some 80, op := Go.Op.fieldAddr 27 (Go.Operand.tmp 17) 3, type := 0, pos := "law.go:64", after := #[{ on := 16, ground := Go.Ground.guard }], guard := some (16, true) }) (v := undef) rfl (by kernel_rfl) (by kernel_rfl) (by kernel_rfl) (fun _ _ _ h => h) (Or.inr ⟨by rfl, rfl⟩) hHeld1 ?_)
        try simp only [Act.put, List.setIfInBounds_toArray, List.set_cons_zero, List.set_cons_succ]
        first
        | (refine wpAnyH_take (i := 18) (oi := { dst := some 81, op := Go.Op.load 25 (Go.Operand.tmp 80), type := 25, pos := "law.go:64", after := #[{ on := 17, ground := Go.Ground.data }, { on := 16, ground := Go.Ground.guard }], guard := some (16, true) }) (v := ?_) rfl (by kernel_rfl) (by kernel_rfl) (by kernel_rfl) (fun _ _ _ h => h) (Or.inl ⟨by rfl, ?_⟩) hHeld1 ?_
           rotate_left
           · ((intro w hSw; (try dsimp only at hSw); go_simp) <;> with_reducible rfl))
        | (refine wpAnyH_take (i := 18) (oi := { dst := some 81, op := Go.Op.load 25 (Go.Operand.tmp 80), type := 25, pos := "law.go:64", after := #[{ on := 17, ground := Go.Ground.data }, { on := 16, ground := Go.Ground.guard }], guard := some (16, true) }) (v := undef) rfl (by kernel_rfl) (by kernel_rfl) (by kernel_rfl) (fun _ _ _ h => h) (Or.inr ⟨by rfl, rfl⟩) hHeld1 ?_)
        try simp only [Act.put, List.setIfInBounds_toArray, List.set_cons_zero, List.set_cons_succ]
        first
        | (refine wpAnyH_take (i := 19) (oi := { dst := some 82, op := Go.Op.indexAddr 25 (Go.Operand.tmp 81) (Go.Operand.const (Go.Value.int Go.IntKind.i64 0)), type := 0, pos := "law.go:64", after := #[{ on := 18, ground := Go.Ground.data }, { on := 16, ground := Go.Ground.guard }], guard := some (16, true) }) (v := ?_) rfl (by kernel_rfl) (by kernel_rfl) (by kernel_rfl) (fun _ _ _ h => h) (Or.inl ⟨by rfl, ?_⟩) hHeld1 ?_
           rotate_left
           · ((intro w hSw; (try dsimp only at hSw); go_simp) <;> with_reducible rfl))
        | (refine wpAnyH_take (i := 19) (oi := { dst := some 82, op := Go.Op.indexAddr 25 (Go.Operand.tmp 81) (Go.Operand.const (Go.Value.int Go.IntKind.i64 0)), type := 0, pos := "law.go:64", after := #[{ on := 18, ground := Go.Ground.data }, { on := 16, ground := Go.Ground.guard }], guard := some (16, true) }) (v := undef) rfl (by kernel_rfl) (by kernel_rfl) (by kernel_rfl) (fun _ _ _ h => h) (Or.inr ⟨by rfl, rfl⟩) hHeld1 ?_)
        try simp only [Act.put, List.setIfInBounds_toArray, List.set_cons_zero, List.set_cons_succ]
        first
        | (refine wpAnyH_take (i := 20) (oi := { dst := some 83, op := Go.Op.load 9 (Go.Operand.tmp 82), type := 9, pos := "law.go:64", after := #[{ on := 19, ground := Go.Ground.data }, { on := 16, ground := Go.Ground.guard }], guard := some (16, true) }) (v := ?_) rfl (by kernel_rfl) (by kernel_rfl) (by kernel_rfl) (fun _ _ _ h => h) (Or.inl ⟨by rfl, ?_⟩) hHeld1 ?_
           rotate_left
           · ((intro w hSw; (try dsimp only at hSw); go_simp) <;> with_reducible rfl))
        | (refine wpAnyH_take (i := 20) (oi := { dst := some 83, op := Go.Op.load 9 (Go.Operand.tmp 82), type := 9, pos := "law.go:64", after := #[{ on := 19, ground := Go.Ground.data }, { on := 16, ground := Go.Ground.guard }], guard := some (16, true) }) (v := undef) rfl (by kernel_rfl) (by kernel_rfl) (by kernel_rfl) (fun _ _ _ h => h) (Or.inr ⟨by rfl, rfl⟩) hHeld1 ?_)
        try simp only [Act.put, List.setIfInBounds_toArray, List.set_cons_zero, List.set_cons_succ]
        first
        | (refine wpAnyH_take (i := 21) (oi := { dst := some 84, op := Go.Op.move (Go.Operand.tmp 1), type := 9, pos := "law.go:64", after := #[{ on := 16, ground := Go.Ground.guard }], guard := some (16, true) }) (v := ?_) rfl (by kernel_rfl) (by kernel_rfl) (by kernel_rfl) (fun _ _ _ h => h) (Or.inl ⟨by rfl, ?_⟩) hHeld1 ?_
           rotate_left
           · ((intro w hSw; (try dsimp only at hSw); go_simp) <;> with_reducible rfl))
        | (refine wpAnyH_take (i := 21) (oi := { dst := some 84, op := Go.Op.move (Go.Operand.tmp 1), type := 9, pos := "law.go:64", after := #[{ on := 16, ground := Go.Ground.guard }], guard := some (16, true) }) (v := undef) rfl (by kernel_rfl) (by kernel_rfl) (by kernel_rfl) (fun _ _ _ h => h) (Or.inr ⟨by rfl, rfl⟩) hHeld1 ?_)
        try simp only [Act.put, List.setIfInBounds_toArray, List.set_cons_zero, List.set_cons_succ]
        first
        | (refine wpAnyH_take (i := 22) (oi := { dst := some 85, op := Go.Op.binOp Go.BinOp.eql 9 (Go.Operand.tmp 83) (Go.Operand.tmp 84) 9, type := 4, pos := "law.go:64", after := #[{ on := 20, ground := Go.Ground.data }, { on := 21, ground := Go.Ground.data }, { on := 16, ground := Go.Ground.guard }], guard := some (16, true) }) (v := ?_) rfl (by kernel_rfl) (by kernel_rfl) (by kernel_rfl) (fun _ _ _ h => h) (Or.inl ⟨by rfl, ?_⟩) hHeld1 ?_
           rotate_left
           · ((intro w hSw; (try dsimp only at hSw); go_simp) <;> with_reducible rfl))
        | (refine wpAnyH_take (i := 22) (oi := { dst := some 85, op := Go.Op.binOp Go.BinOp.eql 9 (Go.Operand.tmp 83) (Go.Operand.tmp 84) 9, type := 4, pos := "law.go:64", after := #[{ on := 20, ground := Go.Ground.data }, { on := 21, ground := Go.Ground.data }, { on := 16, ground := Go.Ground.guard }], guard := some (16, true) }) (v := undef) rfl (by kernel_rfl) (by kernel_rfl) (by kernel_rfl) (fun _ _ _ h => h) (Or.inr ⟨by rfl, rfl⟩) hHeld1 ?_)
        try simp only [Act.put, List.setIfInBounds_toArray, List.set_cons_zero, List.set_cons_succ]
        first
        | (refine wpAnyH_take (i := 23) (oi := { dst := some 86, op := Go.Op.pick (Go.Operand.tmp 79) (Go.Operand.tmp 85) (Go.Operand.const (Go.Value.bool false)), type := 4, pos := "law.go:64", after := #[{ on := 16, ground := Go.Ground.data }, { on := 22, ground := Go.Ground.data }, { on := 8, ground := Go.Ground.guard }], guard := some (8, false) }) (v := ?_) rfl (by kernel_rfl) (by kernel_rfl) (by kernel_rfl) (fun _ _ _ h => h) (Or.inl ⟨by rfl, ?_⟩) hHeld1 ?_
           rotate_left
           · ((intro w hSw; (try dsimp only at hSw); go_simp) <;> with_reducible rfl))
        | (refine wpAnyH_take (i := 23) (oi := { dst := some 86, op := Go.Op.pick (Go.Operand.tmp 79) (Go.Operand.tmp 85) (Go.Operand.const (Go.Value.bool false)), type := 4, pos := "law.go:64", after := #[{ on := 16, ground := Go.Ground.data }, { on := 22, ground := Go.Ground.data }, { on := 8, ground := Go.Ground.guard }], guard := some (8, false) }) (v := undef) rfl (by kernel_rfl) (by kernel_rfl) (by kernel_rfl) (fun _ _ _ h => h) (Or.inr ⟨by rfl, rfl⟩) hHeld1 ?_)
        try simp only [Act.put, List.setIfInBounds_toArray, List.set_cons_zero, List.set_cons_succ]
        first
        | (refine wpAnyH_take (i := 24) (oi := { dst := some 87, op := Go.Op.move (Go.Operand.tmp 86), type := 4, pos := "law.go:64", after := #[{ on := 23, ground := Go.Ground.data }, { on := 16, ground := Go.Ground.chain }, { on := 8, ground := Go.Ground.guard }], guard := some (8, false) }) (v := ?_) rfl (by kernel_rfl) (by kernel_rfl) (by kernel_rfl) (fun _ _ _ h => h) (Or.inl ⟨by rfl, ?_⟩) hHeld1 ?_
           rotate_left
           · ((intro w hSw; (try dsimp only at hSw); go_simp) <;> with_reducible rfl))
        | (refine wpAnyH_take (i := 24) (oi := { dst := some 87, op := Go.Op.move (Go.Operand.tmp 86), type := 4, pos := "law.go:64", after := #[{ on := 23, ground := Go.Ground.data }, { on := 16, ground := Go.Ground.chain }, { on := 8, ground := Go.Ground.guard }], guard := some (8, false) }) (v := undef) rfl (by kernel_rfl) (by kernel_rfl) (by kernel_rfl) (fun _ _ _ h => h) (Or.inr ⟨by rfl, rfl⟩) hHeld1 ?_)
        try simp only [Act.put, List.setIfInBounds_toArray, List.set_cons_zero, List.set_cons_succ]
        first
        | (refine wpAnyH_take (i := 25) (oi := { dst := some 88, op := Go.Op.fieldAddr 27 (Go.Operand.tmp 17) 3, type := 0, pos := "law.go:64", after := #[{ on := 24, ground := Go.Ground.guard }], guard := some (24, true) }) (v := ?_) rfl (by kernel_rfl) (by kernel_rfl) (by kernel_rfl) (fun _ _ _ h => h) (Or.inl ⟨by rfl, ?_⟩) hHeld1 ?_
           rotate_left
           · ((intro w hSw; (try dsimp only at hSw); go_simp) <;> with_reducible rfl))
        | (refine wpAnyH_take (i := 25) (oi := { dst := some 88, op := Go.Op.fieldAddr 27 (Go.Operand.tmp 17) 3, type := 0, pos := "law.go:64", after := #[{ on := 24, ground := Go.Ground.guard }], guard := some (24, true) }) (v := undef) rfl (by kernel_rfl) (by kernel_rfl) (by kernel_rfl) (fun _ _ _ h => h) (Or.inr ⟨by rfl, rfl⟩) hHeld1 ?_)
        try simp only [Act.put, List.setIfInBounds_toArray, List.set_cons_zero, List.set_cons_succ]
        first
        | (refine wpAnyH_take (i := 26) (oi := { dst := some 89, op := Go.Op.load 25 (Go.Operand.tmp 88), type := 25, pos := "law.go:64", after := #[{ on := 25, ground := Go.Ground.data }, { on := 24, ground := Go.Ground.guard }], guard := some (24, true) }) (v := ?_) rfl (by kernel_rfl) (by kernel_rfl) (by kernel_rfl) (fun _ _ _ h => h) (Or.inl ⟨by rfl, ?_⟩) hHeld1 ?_
           rotate_left
           · ((intro w hSw; (try dsimp only at hSw); go_simp) <;> with_reducible rfl))
        | (refine wpAnyH_take (i := 26) (oi := { dst := some 89, op := Go.Op.load 25 (Go.Operand.tmp 88), type := 25, pos := "law.go:64", after := #[{ on := 25, ground := Go.Ground.data }, { on := 24, ground := Go.Ground.guard }], guard := some (24, true) }) (v := undef) rfl (by kernel_rfl) (by kernel_rfl) (by kernel_rfl) (fun _ _ _ h => h) (Or.inr ⟨by rfl, rfl⟩) hHeld1 ?_)
        try simp only [Act.put, List.setIfInBounds_toArray, List.set_cons_zero, List.set_cons_succ]
        first
        | (refine wpAnyH_take (i := 27) (oi := { dst := some 90, op := Go.Op.indexAddr 25 (Go.Operand.tmp 89) (Go.Operand.const (Go.Value.int Go.IntKind.i64 1)), type := 0, pos := "law.go:64", after := #[{ on := 26, ground := Go.Ground.data }, { on := 24, ground := Go.Ground.guard }], guard := some (24, true) }) (v := ?_) rfl (by kernel_rfl) (by kernel_rfl) (by kernel_rfl) (fun _ _ _ h => h) (Or.inl ⟨by rfl, ?_⟩) hHeld1 ?_
           rotate_left
           · ((intro w hSw; (try dsimp only at hSw); go_simp) <;> with_reducible rfl))
        | (refine wpAnyH_take (i := 27) (oi := { dst := some 90, op := Go.Op.indexAddr 25 (Go.Operand.tmp 89) (Go.Operand.const (Go.Value.int Go.IntKind.i64 1)), type := 0, pos := "law.go:64", after := #[{ on := 26, ground := Go.Ground.data }, { on := 24, ground := Go.Ground.guard }], guard := some (24, true) }) (v := undef) rfl (by kernel_rfl) (by kernel_rfl) (by kernel_rfl) (fun _ _ _ h => h) (Or.inr ⟨by rfl, rfl⟩) hHeld1 ?_)
        try simp only [Act.put, List.setIfInBounds_toArray, List.set_cons_zero, List.set_cons_succ]
        first
        | (refine wpAnyH_take (i := 28) (oi := { dst := some 91, op := Go.Op.load 9 (Go.Operand.tmp 90), type := 9, pos := "law.go:64", after := #[{ on := 27, ground := Go.Ground.data }, { on := 24, ground := Go.Ground.guard }], guard := some (24, true) }) (v := ?_) rfl (by kernel_rfl) (by kernel_rfl) (by kernel_rfl) (fun _ _ _ h => h) (Or.inl ⟨by rfl, ?_⟩) hHeld1 ?_
           rotate_left
           · ((intro w hSw; (try dsimp only at hSw); go_simp) <;> with_reducible rfl))
        | (refine wpAnyH_take (i := 28) (oi := { dst := some 91, op := Go.Op.load 9 (Go.Operand.tmp 90), type := 9, pos := "law.go:64", after := #[{ on := 27, ground := Go.Ground.data }, { on := 24, ground := Go.Ground.guard }], guard := some (24, true) }) (v := undef) rfl (by kernel_rfl) (by kernel_rfl) (by kernel_rfl) (fun _ _ _ h => h) (Or.inr ⟨by rfl, rfl⟩) hHeld1 ?_)
        try simp only [Act.put, List.setIfInBounds_toArray, List.set_cons_zero, List.set_cons_succ]
        first
        | (refine wpAnyH_take (i := 29) (oi := { dst := some 92, op := Go.Op.move (Go.Operand.tmp 2), type := 9, pos := "law.go:64", after := #[{ on := 24, ground := Go.Ground.guard }], guard := some (24, true) }) (v := ?_) rfl (by kernel_rfl) (by kernel_rfl) (by kernel_rfl) (fun _ _ _ h => h) (Or.inl ⟨by rfl, ?_⟩) hHeld1 ?_
           rotate_left
           · ((intro w hSw; (try dsimp only at hSw); go_simp) <;> with_reducible rfl))
        | (refine wpAnyH_take (i := 29) (oi := { dst := some 92, op := Go.Op.move (Go.Operand.tmp 2), type := 9, pos := "law.go:64", after := #[{ on := 24, ground := Go.Ground.guard }], guard := some (24, true) }) (v := undef) rfl (by kernel_rfl) (by kernel_rfl) (by kernel_rfl) (fun _ _ _ h => h) (Or.inr ⟨by rfl, rfl⟩) hHeld1 ?_)
        try simp only [Act.put, List.setIfInBounds_toArray, List.set_cons_zero, List.set_cons_succ]
        first
        | (refine wpAnyH_take (i := 30) (oi := { dst := some 93, op := Go.Op.binOp Go.BinOp.eql 9 (Go.Operand.tmp 91) (Go.Operand.tmp 92) 9, type := 4, pos := "law.go:64", after := #[{ on := 28, ground := Go.Ground.data }, { on := 29, ground := Go.Ground.data }, { on := 24, ground := Go.Ground.guard }], guard := some (24, true) }) (v := ?_) rfl (by kernel_rfl) (by kernel_rfl) (by kernel_rfl) (fun _ _ _ h => h) (Or.inl ⟨by rfl, ?_⟩) hHeld1 ?_
           rotate_left
           · ((intro w hSw; (try dsimp only at hSw); go_simp) <;> with_reducible rfl))
        | (refine wpAnyH_take (i := 30) (oi := { dst := some 93, op := Go.Op.binOp Go.BinOp.eql 9 (Go.Operand.tmp 91) (Go.Operand.tmp 92) 9, type := 4, pos := "law.go:64", after := #[{ on := 28, ground := Go.Ground.data }, { on := 29, ground := Go.Ground.data }, { on := 24, ground := Go.Ground.guard }], guard := some (24, true) }) (v := undef) rfl (by kernel_rfl) (by kernel_rfl) (by kernel_rfl) (fun _ _ _ h => h) (Or.inr ⟨by rfl, rfl⟩) hHeld1 ?_)
        try simp only [Act.put, List.setIfInBounds_toArray, List.set_cons_zero, List.set_cons_succ]
        first
        | (refine wpAnyH_take (i := 31) (oi := { dst := some 94, op := Go.Op.pick (Go.Operand.tmp 87) (Go.Operand.tmp 93) (Go.Operand.const (Go.Value.bool false)), type := 4, pos := "law.go:64", after := #[{ on := 24, ground := Go.Ground.data }, { on := 30, ground := Go.Ground.data }, { on := 8, ground := Go.Ground.guard }], guard := some (8, false) }) (v := ?_) rfl (by kernel_rfl) (by kernel_rfl) (by kernel_rfl) (fun _ _ _ h => h) (Or.inl ⟨by rfl, ?_⟩) hHeld1 ?_
           rotate_left
           · ((intro w hSw; (try dsimp only at hSw); go_simp) <;> with_reducible rfl))
        | (refine wpAnyH_take (i := 31) (oi := { dst := some 94, op := Go.Op.pick (Go.Operand.tmp 87) (Go.Operand.tmp 93) (Go.Operand.const (Go.Value.bool false)), type := 4, pos := "law.go:64", after := #[{ on := 24, ground := Go.Ground.data }, { on := 30, ground := Go.Ground.data }, { on := 8, ground := Go.Ground.guard }], guard := some (8, false) }) (v := undef) rfl (by kernel_rfl) (by kernel_rfl) (by kernel_rfl) (fun _ _ _ h => h) (Or.inr ⟨by rfl, rfl⟩) hHeld1 ?_)
        try simp only [Act.put, List.setIfInBounds_toArray, List.set_cons_zero, List.set_cons_succ]
        first
        | (refine wpAnyH_take (i := 32) (oi := { dst := some 95, op := Go.Op.binOp Go.BinOp.neq 4 (Go.Operand.tmp 75) (Go.Operand.tmp 94) 4, type := 4, pos := "law.go:64", after := #[{ on := 12, ground := Go.Ground.data }, { on := 31, ground := Go.Ground.data }, { on := 8, ground := Go.Ground.guard }], guard := some (8, false) }) (v := ?_) rfl (by kernel_rfl) (by kernel_rfl) (by kernel_rfl) (fun _ _ _ h => h) (Or.inl ⟨by rfl, ?_⟩) hHeld1 ?_
           rotate_left
           · ((intro w hSw; (try dsimp only at hSw); go_simp) <;> with_reducible rfl))
        | (refine wpAnyH_take (i := 32) (oi := { dst := some 95, op := Go.Op.binOp Go.BinOp.neq 4 (Go.Operand.tmp 75) (Go.Operand.tmp 94) 4, type := 4, pos := "law.go:64", after := #[{ on := 12, ground := Go.Ground.data }, { on := 31, ground := Go.Ground.data }, { on := 8, ground := Go.Ground.guard }], guard := some (8, false) }) (v := undef) rfl (by kernel_rfl) (by kernel_rfl) (by kernel_rfl) (fun _ _ _ h => h) (Or.inr ⟨by rfl, rfl⟩) hHeld1 ?_)
        try simp only [Act.put, List.setIfInBounds_toArray, List.set_cons_zero, List.set_cons_succ]
        first
        | (refine wpAnyH_take (i := 33) (oi := { dst := some 96, op := Go.Op.pick (Go.Operand.tmp 71) (Go.Operand.const (Go.Value.bool true)) (Go.Operand.tmp 95), type := 4, pos := "law.go:64", after := #[{ on := 8, ground := Go.Ground.data }, { on := 32, ground := Go.Ground.data }], guard := none }) (v := ?_) rfl (by kernel_rfl) (by kernel_rfl) (by kernel_rfl) (fun _ _ _ h => h) (Or.inl ⟨by rfl, ?_⟩) hHeld1 ?_
           rotate_left
           · ((intro w hSw; (try dsimp only at hSw); go_simp) <;> with_reducible rfl))
        | (refine wpAnyH_take (i := 33) (oi := { dst := some 96, op := Go.Op.pick (Go.Operand.tmp 71) (Go.Operand.const (Go.Value.bool true)) (Go.Operand.tmp 95), type := 4, pos := "law.go:64", after := #[{ on := 8, ground := Go.Ground.data }, { on := 32, ground := Go.Ground.data }], guard := none }) (v := undef) rfl (by kernel_rfl) (by kernel_rfl) (by kernel_rfl) (fun _ _ _ h => h) (Or.inr ⟨by rfl, rfl⟩) hHeld1 ?_)
        try simp only [Act.put, List.setIfInBounds_toArray, List.set_cons_zero, List.set_cons_succ]
        first
        | (refine wpAnyH_take (i := 34) (oi := { dst := some 97, op := Go.Op.move (Go.Operand.tmp 96), type := 4, pos := "law.go:64", after := #[{ on := 33, ground := Go.Ground.data }, { on := 24, ground := Go.Ground.chain }], guard := none }) (v := ?_) rfl (by kernel_rfl) (by kernel_rfl) (by kernel_rfl) (fun _ _ _ h => h) (Or.inl ⟨by rfl, ?_⟩) hHeld1 ?_
           rotate_left
           · ((intro w hSw; (try dsimp only at hSw); go_simp) <;> with_reducible rfl))
        | (refine wpAnyH_take (i := 34) (oi := { dst := some 97, op := Go.Op.move (Go.Operand.tmp 96), type := 4, pos := "law.go:64", after := #[{ on := 33, ground := Go.Ground.data }, { on := 24, ground := Go.Ground.chain }], guard := none }) (v := undef) rfl (by kernel_rfl) (by kernel_rfl) (by kernel_rfl) (fun _ _ _ h => h) (Or.inr ⟨by rfl, rfl⟩) hHeld1 ?_)
        try simp only [Act.put, List.setIfInBounds_toArray, List.set_cons_zero, List.set_cons_succ]
        first
        | (refine wpAnyH_take (i := 35) (oi := { dst := some 98, op := Go.Op.move (Go.Operand.tmp 0), type := 9, pos := "law.go:64", after := #[{ on := 34, ground := Go.Ground.guard }], guard := some (34, false) }) (v := ?_) rfl (by kernel_rfl) (by kernel_rfl) (by kernel_rfl) (fun _ _ _ h => h) (Or.inl ⟨by rfl, ?_⟩) hHeld1 ?_
           rotate_left
           · ((intro w hSw; (try dsimp only at hSw); go_simp) <;> with_reducible rfl))
        | (refine wpAnyH_take (i := 35) (oi := { dst := some 98, op := Go.Op.move (Go.Operand.tmp 0), type := 9, pos := "law.go:64", after := #[{ on := 34, ground := Go.Ground.guard }], guard := some (34, false) }) (v := undef) rfl (by kernel_rfl) (by kernel_rfl) (by kernel_rfl) (fun _ _ _ h => h) (Or.inr ⟨by rfl, rfl⟩) hHeld1 ?_)
        try simp only [Act.put, List.setIfInBounds_toArray, List.set_cons_zero, List.set_cons_succ]
        first
        | (refine wpAnyH_take (i := 36) (oi := { dst := some 99, op := Go.Op.move (Go.Operand.tmp 1), type := 9, pos := "law.go:64", after := #[{ on := 34, ground := Go.Ground.guard }], guard := some (34, false) }) (v := ?_) rfl (by kernel_rfl) (by kernel_rfl) (by kernel_rfl) (fun _ _ _ h => h) (Or.inl ⟨by rfl, ?_⟩) hHeld1 ?_
           rotate_left
           · ((intro w hSw; (try dsimp only at hSw); go_simp) <;> with_reducible rfl))
        | (refine wpAnyH_take (i := 36) (oi := { dst := some 99, op := Go.Op.move (Go.Operand.tmp 1), type := 9, pos := "law.go:64", after := #[{ on := 34, ground := Go.Ground.guard }], guard := some (34, false) }) (v := undef) rfl (by kernel_rfl) (by kernel_rfl) (by kernel_rfl) (fun _ _ _ h => h) (Or.inr ⟨by rfl, rfl⟩) hHeld1 ?_)
        try simp only [Act.put, List.setIfInBounds_toArray, List.set_cons_zero, List.set_cons_succ]
        first
        | (refine wpAnyH_take (i := 38) (oi := { dst := some 101, op := Go.Op.move (Go.Operand.tmp 0), type := 9, pos := "law.go:64", after := #[{ on := 34, ground := Go.Ground.guard }], guard := some (34, false) }) (v := ?_) rfl (by kernel_rfl) (by kernel_rfl) (by kernel_rfl) (fun _ _ _ h => h) (Or.inl ⟨by rfl, ?_⟩) hHeld1 ?_
           rotate_left
           · ((intro w hSw; (try dsimp only at hSw); go_simp) <;> with_reducible rfl))
        | (refine wpAnyH_take (i := 38) (oi := { dst := some 101, op := Go.Op.move (Go.Operand.tmp 0), type := 9, pos := "law.go:64", after := #[{ on := 34, ground := Go.Ground.guard }], guard := some (34, false) }) (v := undef) rfl (by kernel_rfl) (by kernel_rfl) (by kernel_rfl) (fun _ _ _ h => h) (Or.inr ⟨by rfl, rfl⟩) hHeld1 ?_)
        try simp only [Act.put, List.setIfInBounds_toArray, List.set_cons_zero, List.set_cons_succ]
        first
        | (refine wpAnyH_take (i := 39) (oi := { dst := some 102, op := Go.Op.move (Go.Operand.tmp 1), type := 9, pos := "law.go:64", after := #[{ on := 34, ground := Go.Ground.guard }], guard := some (34, false) }) (v := ?_) rfl (by kernel_rfl) (by kernel_rfl) (by kernel_rfl) (fun _ _ _ h => h) (Or.inl ⟨by rfl, ?_⟩) hHeld1 ?_
           rotate_left
           · ((intro w hSw; (try dsimp only at hSw); go_simp) <;> with_reducible rfl))
        | (refine wpAnyH_take (i := 39) (oi := { dst := some 102, op := Go.Op.move (Go.Operand.tmp 1), type := 9, pos := "law.go:64", after := #[{ on := 34, ground := Go.Ground.guard }], guard := some (34, false) }) (v := undef) rfl (by kernel_rfl) (by kernel_rfl) (by kernel_rfl) (fun _ _ _ h => h) (Or.inr ⟨by rfl, rfl⟩) hHeld1 ?_)
        try simp only [Act.put, List.setIfInBounds_toArray, List.set_cons_zero, List.set_cons_succ]
        refine wpAnyH_ready (rs := [37]) (by kernel_rfl) (by simp) ?_
        refine AllReadyH.cons (o := { dst := some 100, op := Go.Op.call { callee := Go.Callee.value (Go.Operand.func 21), args := #[Go.Operand.tmp 98, Go.Operand.tmp 99], argTypes := #[9, 9] }, type := 9, pos := "law.go:64", after := #[{ on := 35, ground := Go.Ground.data }, { on := 36, ground := Go.Ground.data }, { on := 34, ground := Go.Ground.chain }, { on := 34, ground := Go.Ground.guard }], guard := some (34, false) }) rfl (fun Kr37 hK => ?_) AllReadyH.nil
        go_simp
        (go_at_call 21; (with_reducible refine (HAG.out _).mono ?_); rintro e wn ⟨rfl, hb⟩)
        refine hK.out _ _ ?_ (fun hHeld2 => ?_)
        · (try dsimp only); exact ⟨cell_keep hHeld1.1 hb, cell_keep hHeld1.2.1 hb, cell_keep hHeld1.2.2.1 hb, cell_keep hHeld1.2.2.2 hb⟩
        have HB := Lib.hid (Below.next HB.out hb)
        clear hK Kr37 hHeld1
        try simp only [Act.put, List.setIfInBounds_toArray, List.set_cons_zero, List.set_cons_succ]
        refine wpAnyH_ready (rs := [40]) (by kernel_rfl) (by simp) ?_
        refine AllReadyH.cons (o := { dst := some 103, op := Go.Op.call { callee := Go.Callee.value (Go.Operand.func 22), args := #[Go.Operand.tmp 101, Go.Operand.tmp 102], argTypes := #[9, 9] }, type := 9, pos := "law.go:64", after := #[{ on := 38, ground := Go.Ground.data }, { on := 39, ground := Go.Ground.data }, { on := 37, ground := Go.Ground.chain }, { on := 34, ground := Go.Ground.guard }], guard := some (34, false) }) rfl (fun Kr40 hK => ?_) AllReadyH.nil
        go_simp
        (go_at_call 22; (with_reducible refine (HRA.out _).mono ?_); rintro e wn ⟨rfl, hb⟩)
        refine hK.out _ _ ?_ (fun hHeld3 => ?_)
        · (try dsimp only); exact ⟨cell_keep hHeld2.1 hb, cell_keep hHeld2.2.1 hb, cell_keep hHeld2.2.2.1 hb, cell_keep hHeld2.2.2.2 hb⟩
        have HB := Lib.hid (Below.next HB.out hb)
        clear hK Kr40 hHeld2
        try simp only [Act.put, List.setIfInBounds_toArray, List.set_cons_zero, List.set_cons_succ]
        first
        | (refine wpAnyH_take (i := 41) (oi := { dst := some 104, op := Go.Op.binOp Go.BinOp.neq 9 (Go.Operand.tmp 100) (Go.Operand.tmp 103) 9, type := 4, pos := "law.go:64", after := #[{ on := 37, ground := Go.Ground.data }, { on := 40, ground := Go.Ground.data }, { on := 34, ground := Go.Ground.guard }], guard := some (34, false) }) (v := ?_) rfl (by kernel_rfl) (by kernel_rfl) (by kernel_rfl) (fun _ _ _ h => h) (Or.inl ⟨by rfl, ?_⟩) hHeld3 ?_
           rotate_left
           · ((intro w hSw; (try dsimp only at hSw); go_simp) <;> with_reducible rfl))
        | (refine wpAnyH_take (i := 41) (oi := { dst := some 104, op := Go.Op.binOp Go.BinOp.neq 9 (Go.Operand.tmp 100) (Go.Operand.tmp 103) 9, type := 4, pos := "law.go:64", after := #[{ on := 37, ground := Go.Ground.data }, { on := 40, ground := Go.Ground.data }, { on := 34, ground := Go.Ground.guard }], guard := some (34, false) }) (v := undef) rfl (by kernel_rfl) (by kernel_rfl) (by kernel_rfl) (fun _ _ _ h => h) (Or.inr ⟨by rfl, rfl⟩) hHeld3 ?_)
        try simp only [Act.put, List.setIfInBounds_toArray, List.set_cons_zero, List.set_cons_succ]
        first
        | (refine wpAnyH_take (i := 42) (oi := { dst := some 105, op := Go.Op.pick (Go.Operand.tmp 97) (Go.Operand.const (Go.Value.bool true)) (Go.Operand.tmp 104), type := 4, pos := "law.go:64", after := #[{ on := 34, ground := Go.Ground.data }, { on := 41, ground := Go.Ground.data }], guard := none }) (v := ?_) rfl (by kernel_rfl) (by kernel_rfl) (by kernel_rfl) (fun _ _ _ h => h) (Or.inl ⟨by rfl, ?_⟩) hHeld3 ?_
           rotate_left
           · ((intro w hSw; (try dsimp only at hSw); go_simp) <;> with_reducible rfl))
        | (refine wpAnyH_take (i := 42) (oi := { dst := some 105, op := Go.Op.pick (Go.Operand.tmp 97) (Go.Operand.const (Go.Value.bool true)) (Go.Operand.tmp 104), type := 4, pos := "law.go:64", after := #[{ on := 34, ground := Go.Ground.data }, { on := 41, ground := Go.Ground.data }], guard := none }) (v := undef) rfl (by kernel_rfl) (by kernel_rfl) (by kernel_rfl) (fun _ _ _ h => h) (Or.inr ⟨by rfl, rfl⟩) hHeld3 ?_)
        try simp only [Act.put, List.setIfInBounds_toArray, List.set_cons_zero, List.set_cons_succ]
        refine wpAnyH_done (by kernel_rfl) ?_ _
        clear hHeld3
        exact hKK _ _ (Met.intro (hJ0 _ _ ⟨rfl, rfl, rfl, rfl, rfl, rfl, rfl, rfl, rfl, rfl, HB.out⟩))
      · have HSG := Lib.hid (fun w => signed_v t key y HTM.out HX.out (r := true) (by simp [signedR, h0, h1]) w)
        rw [← str_eq] at h0
        rw [← str_eq] at h1
        have m2 : (m9 : Int) = 2 := by have := HM9.out; simp at this; omega
        have hbx := heap_alloc_new w4 (.cells #[.int .i64 9, .int .u64 n0, .slice ab lb cb, .slice (some ⟨bb, off, none⟩) m9 cp] 27)
        have c0 : ((w4.alloc (.cells #[.int .i64 9, .int .u64 n0, .slice ab lb cb, .slice (some ⟨bb, off, none⟩) m9 cp] 27)).drew).cell? ⟨w4.heap.size, 0, none⟩ = some (.int .i64 9) := cell_of hbx 0 rfl
        have c1 : ((w4.alloc (.cells #[.int .i64 9, .int .u64 n0, .slice ab lb cb, .slice (some ⟨bb, off, none⟩) m9 cp] 27)).drew).cell? ⟨w4.heap.size, 3, none⟩ = some (.slice (some ⟨bb, off, none⟩) m9 cp) := cell_of hbx 3 rfl
        have c2 : ((w4.alloc (.cells #[.int .i64 9, .int .u64 n0, .slice ab lb cb, .slice (some ⟨bb, off, none⟩) m9 cp] 27)).drew).cell? ⟨bb, off, none⟩ = some (.string (strB p0)) := alloc_cell _ hbb (hcs 0 (by simp))
        have c3 : ((w4.alloc (.cells #[.int .i64 9, .int .u64 n0, .slice ab lb cb, .slice (some ⟨bb, off, none⟩) m9 cp] 27)).drew).cell? ⟨bb, off + 1, none⟩ = some (.string (strB p1)) := alloc_cell _ hbb (hcs 1 (by simp))
        have HB : Hid (Below w.heap.size w ((w4.alloc (.cells #[.int .i64 9, .int .u64 n0, .slice ab lb cb, .slice (some ⟨bb, off, none⟩) m9 cp] 27)).drew)) := Lib.hid ((HB.out.alloc HB.out.size _).drew)
        clear hbx hcs hbb
        refine wp_region_held_drew (S := (fun W => W.cell? ⟨w4.heap.size, 0, none⟩ = some (.int .i64 9) ∧ W.cell? ⟨w4.heap.size, 3, none⟩ = some (.slice (some ⟨bb, off, none⟩) m9 cp) ∧ W.cell? ⟨bb, off, none⟩ = some (.string (strB p0)) ∧ W.cell? ⟨bb, off + 1, none⟩ = some (.string (strB p1)))) (by kernel_rfl) ?_ (fun hHeld0 => ?_)
        · (try dsimp only); exact ⟨c0, c1, c2, c3⟩
        first
        | (refine wpAnyH_take (i := 0) (oi := { dst := some 63, op := Go.Op.move (Go.Operand.tmp 13), type := 9, pos := "law.go:64", after := #[], guard := none }) (v := ?_) rfl (by kernel_rfl) (by kernel_rfl) (by kernel_rfl) (fun _ _ _ h => h) (Or.inl ⟨by rfl, ?_⟩) hHeld0 ?_
           rotate_left
           · ((intro w hSw; (try dsimp only at hSw); go_simp) <;> with_reducible rfl))
        | (refine wpAnyH_take (i := 0) (oi := { dst := some 63, op := Go.Op.move (Go.Operand.tmp 13), type := 9, pos := "law.go:64", after := #[], guard := none }) (v := undef) rfl (by kernel_rfl) (by kernel_rfl) (by kernel_rfl) (fun _ _ _ h => h) (Or.inr ⟨by rfl, rfl⟩) hHeld0 ?_)
        try simp only [Act.put, List.setIfInBounds_toArray, List.set_cons_zero, List.set_cons_succ]
        first
        | (refine wpAnyH_take (i := 1) (oi := { dst := some 64, op := Go.Op.move (Go.Operand.tmp 15), type := 9, pos := "law.go:64", after := #[], guard := none }) (v := ?_) rfl (by kernel_rfl) (by kernel_rfl) (by kernel_rfl) (fun _ _ _ h => h) (Or.inl ⟨by rfl, ?_⟩) hHeld0 ?_
           rotate_left
           · ((intro w hSw; (try dsimp only at hSw); go_simp) <;> with_reducible rfl))
        | (refine wpAnyH_take (i := 1) (oi := { dst := some 64, op := Go.Op.move (Go.Operand.tmp 15), type := 9, pos := "law.go:64", after := #[], guard := none }) (v := undef) rfl (by kernel_rfl) (by kernel_rfl) (by kernel_rfl) (fun _ _ _ h => h) (Or.inr ⟨by rfl, rfl⟩) hHeld0 ?_)
        try simp only [Act.put, List.setIfInBounds_toArray, List.set_cons_zero, List.set_cons_succ]
        first
        | (refine wpAnyH_take (i := 2) (oi := { dst := some 65, op := Go.Op.binOp Go.BinOp.neq 9 (Go.Operand.tmp 63) (Go.Operand.tmp 64) 9, type := 4, pos := "law.go:64", after := #[{ on := 0, ground := Go.Ground.data }, { on := 1, ground := Go.Ground.data }], guard := none }) (v := ?_) rfl (by kernel_rfl) (by kernel_rfl) (by kernel_rfl) (fun _ _ _ h => h) (Or.inl ⟨by rfl, ?_⟩) hHeld0 ?_
           rotate_left
           · ((intro w hSw; (try dsimp only at hSw); go_simp) <;> with_reducible rfl))
        | (refine wpAnyH_take (i := 2) (oi := { dst := some 65, op := Go.Op.binOp Go.BinOp.neq 9 (Go.Operand.tmp 63) (Go.Operand.tmp 64) 9, type := 4, pos := "law.go:64", after := #[{ on := 0, ground := Go.Ground.data }, { on := 1, ground := Go.Ground.data }], guard := none }) (v := undef) rfl (by kernel_rfl) (by kernel_rfl) (by kernel_rfl) (fun _ _ _ h => h) (Or.inr ⟨by rfl, rfl⟩) hHeld0 ?_)
        try simp only [Act.put, List.setIfInBounds_toArray, List.set_cons_zero, List.set_cons_succ]
        first
        | (refine wpAnyH_take (i := 3) (oi := { dst := some 66, op := Go.Op.move (Go.Operand.tmp 65), type := 4, pos := "law.go:64", after := #[{ on := 2, ground := Go.Ground.data }], guard := none }) (v := ?_) rfl (by kernel_rfl) (by kernel_rfl) (by kernel_rfl) (fun _ _ _ h => h) (Or.inl ⟨by rfl, ?_⟩) hHeld0 ?_
           rotate_left
           · ((intro w hSw; (try dsimp only at hSw); go_simp) <;> with_reducible rfl))
        | (refine wpAnyH_take (i := 3) (oi := { dst := some 66, op := Go.Op.move (Go.Operand.tmp 65), type := 4, pos := "law.go:64", after := #[{ on := 2, ground := Go.Ground.data }], guard := none }) (v := undef) rfl (by kernel_rfl) (by kernel_rfl) (by kernel_rfl) (fun _ _ _ h => h) (Or.inr ⟨by rfl, rfl⟩) hHeld0 ?_)
        try simp only [Act.put, List.setIfInBounds_toArray, List.set_cons_zero, List.set_cons_succ]
        first
        | (refine wpAnyH_take (i := 4) (oi := { dst := some 67, op := Go.Op.move (Go.Operand.tmp 14), type := 42, pos := "law.go:64", after := #[{ on := 3, ground := Go.Ground.guard }], guard := some (3, false) }) (v := ?_) rfl (by kernel_rfl) (by kernel_rfl) (by kernel_rfl) (fun _ _ _ h => h) (Or.inl ⟨by rfl, ?_⟩) hHeld0 ?_
           rotate_left
           · ((intro w hSw; (try dsimp only at hSw); go_simp) <;> with_reducible rfl))
        | (refine wpAnyH_take (i := 4) (oi := { dst := some 67, op := Go.Op.move (Go.Operand.tmp 14), type := 42, pos := "law.go:64", after := #[{ on := 3, ground := Go.Ground.guard }], guard := some (3, false) }) (v := undef) rfl (by kernel_rfl) (by kernel_rfl) (by kernel_rfl) (fun _ _ _ h => h) (Or.inr ⟨by rfl, rfl⟩) hHeld0 ?_)
        try simp only [Act.put, List.setIfInBounds_toArray, List.set_cons_zero, List.set_cons_succ]
        first
        | (refine wpAnyH_take (i := 5) (oi := { dst := some 68, op := Go.Op.move (Go.Operand.tmp 16), type := 42, pos := "law.go:64", after := #[{ on := 3, ground := Go.Ground.guard }], guard := some (3, false) }) (v := ?_) rfl (by kernel_rfl) (by kernel_rfl) (by kernel_rfl) (fun _ _ _ h => h) (Or.inl ⟨by rfl, ?_⟩) hHeld0 ?_
           rotate_left
           · ((intro w hSw; (try dsimp only at hSw); go_simp) <;> with_reducible rfl))
        | (refine wpAnyH_take (i := 5) (oi := { dst := some 68, op := Go.Op.move (Go.Operand.tmp 16), type := 42, pos := "law.go:64", after := #[{ on := 3, ground := Go.Ground.guard }], guard := some (3, false) }) (v := undef) rfl (by kernel_rfl) (by kernel_rfl) (by kernel_rfl) (fun _ _ _ h => h) (Or.inr ⟨by rfl, rfl⟩) hHeld0 ?_)
        try simp only [Act.put, List.setIfInBounds_toArray, List.set_cons_zero, List.set_cons_succ]
        first
        | (refine wpAnyH_take (i := 6) (oi := { dst := some 69, op := Go.Op.binOp Go.BinOp.neq 42 (Go.Operand.tmp 67) (Go.Operand.tmp 68) 42, type := 4, pos := "law.go:64", after := #[{ on := 4, ground := Go.Ground.data }, { on := 5, ground := Go.Ground.data }, { on := 3, ground := Go.Ground.guard }], guard := some (3, false) }) (v := ?_) rfl (by kernel_rfl) (by kernel_rfl) (by kernel_rfl) (fun _ _ _ h => h) (Or.inl ⟨by rfl, ?_⟩) hHeld0 ?_
           rotate_left
           · ((intro w hSw; (try dsimp only at hSw); go_simp) <;> with_reducible rfl))
        | (refine wpAnyH_take (i := 6) (oi := { dst := some 69, op := Go.Op.binOp Go.BinOp.neq 42 (Go.Operand.tmp 67) (Go.Operand.tmp 68) 42, type := 4, pos := "law.go:64", after := #[{ on := 4, ground := Go.Ground.data }, { on := 5, ground := Go.Ground.data }, { on := 3, ground := Go.Ground.guard }], guard := some (3, false) }) (v := undef) rfl (by kernel_rfl) (by kernel_rfl) (by kernel_rfl) (fun _ _ _ h => h) (Or.inr ⟨by rfl, rfl⟩) hHeld0 ?_)
        try simp only [Act.put, List.setIfInBounds_toArray, List.set_cons_zero, List.set_cons_succ]
        first
        | (refine wpAnyH_take (i := 7) (oi := { dst := some 70, op := Go.Op.pick (Go.Operand.tmp 66) (Go.Operand.const (Go.Value.bool true)) (Go.Operand.tmp 69), type := 4, pos := "law.go:64", after := #[{ on := 3, ground := Go.Ground.data }, { on := 6, ground := Go.Ground.data }], guard := none }) (v := ?_) rfl (by kernel_rfl) (by kernel_rfl) (by kernel_rfl) (fun _ _ _ h => h) (Or.inl ⟨by rfl, ?_⟩) hHeld0 ?_
           rotate_left
           · ((intro w hSw; (try dsimp only at hSw); go_simp) <;> with_reducible rfl))
        | (refine wpAnyH_take (i := 7) (oi := { dst := some 70, op := Go.Op.pick (Go.Operand.tmp 66) (Go.Operand.const (Go.Value.bool true)) (Go.Operand.tmp 69), type := 4, pos := "law.go:64", after := #[{ on := 3, ground := Go.Ground.data }, { on := 6, ground := Go.Ground.data }], guard := none }) (v := undef) rfl (by kernel_rfl) (by kernel_rfl) (by kernel_rfl) (fun _ _ _ h => h) (Or.inr ⟨by rfl, rfl⟩) hHeld0 ?_)
        try simp only [Act.put, List.setIfInBounds_toArray, List.set_cons_zero, List.set_cons_succ]
        first
        | (refine wpAnyH_take (i := 8) (oi := { dst := some 71, op := Go.Op.move (Go.Operand.tmp 70), type := 4, pos := "law.go:64", after := #[{ on := 7, ground := Go.Ground.data }, { on := 3, ground := Go.Ground.chain }], guard := none }) (v := ?_) rfl (by kernel_rfl) (by kernel_rfl) (by kernel_rfl) (fun _ _ _ h => h) (Or.inl ⟨by rfl, ?_⟩) hHeld0 ?_
           rotate_left
           · ((intro w hSw; (try dsimp only at hSw); go_simp) <;> with_reducible rfl))
        | (refine wpAnyH_take (i := 8) (oi := { dst := some 71, op := Go.Op.move (Go.Operand.tmp 70), type := 4, pos := "law.go:64", after := #[{ on := 7, ground := Go.Ground.data }, { on := 3, ground := Go.Ground.chain }], guard := none }) (v := undef) rfl (by kernel_rfl) (by kernel_rfl) (by kernel_rfl) (fun _ _ _ h => h) (Or.inr ⟨by rfl, rfl⟩) hHeld0 ?_)
        try simp only [Act.put, List.setIfInBounds_toArray, List.set_cons_zero, List.set_cons_succ]
        first
        | (refine wpAnyH_take (i := 9) (oi := { dst := some 72, op := Go.Op.move (Go.Operand.tmp 0), type := 9, pos := "law.go:64", after := #[{ on := 8, ground := Go.Ground.guard }], guard := some (8, false) }) (v := ?_) rfl (by kernel_rfl) (by kernel_rfl) (by kernel_rfl) (fun _ _ _ h => h) (Or.inl ⟨by rfl, ?_⟩) hHeld0 ?_
           rotate_left
           · ((intro w hSw; (try dsimp only at hSw); go_simp) <;> with_reducible rfl))
        | (refine wpAnyH_take (i := 9) (oi := { dst := some 72, op := Go.Op.move (Go.Operand.tmp 0), type := 9, pos := "law.go:64", after := #[{ on := 8, ground := Go.Ground.guard }], guard := some (8, false) }) (v := undef) rfl (by kernel_rfl) (by kernel_rfl) (by kernel_rfl) (fun _ _ _ h => h) (Or.inr ⟨by rfl, rfl⟩) hHeld0 ?_)
        try simp only [Act.put, List.setIfInBounds_toArray, List.set_cons_zero, List.set_cons_succ]
        first
        | (refine wpAnyH_take (i := 10) (oi := { dst := some 73, op := Go.Op.move (Go.Operand.tmp 1), type := 9, pos := "law.go:64", after := #[{ on := 8, ground := Go.Ground.guard }], guard := some (8, false) }) (v := ?_) rfl (by kernel_rfl) (by kernel_rfl) (by kernel_rfl) (fun _ _ _ h => h) (Or.inl ⟨by rfl, ?_⟩) hHeld0 ?_
           rotate_left
           · ((intro w hSw; (try dsimp only at hSw); go_simp) <;> with_reducible rfl))
        | (refine wpAnyH_take (i := 10) (oi := { dst := some 73, op := Go.Op.move (Go.Operand.tmp 1), type := 9, pos := "law.go:64", after := #[{ on := 8, ground := Go.Ground.guard }], guard := some (8, false) }) (v := undef) rfl (by kernel_rfl) (by kernel_rfl) (by kernel_rfl) (fun _ _ _ h => h) (Or.inr ⟨by rfl, rfl⟩) hHeld0 ?_)
        try simp only [Act.put, List.setIfInBounds_toArray, List.set_cons_zero, List.set_cons_succ]
        first
        | (refine wpAnyH_take (i := 11) (oi := { dst := some 74, op := Go.Op.move (Go.Operand.tmp 2), type := 9, pos := "law.go:64", after := #[{ on := 8, ground := Go.Ground.guard }], guard := some (8, false) }) (v := ?_) rfl (by kernel_rfl) (by kernel_rfl) (by kernel_rfl) (fun _ _ _ h => h) (Or.inl ⟨by rfl, ?_⟩) hHeld0 ?_
           rotate_left
           · ((intro w hSw; (try dsimp only at hSw); go_simp) <;> with_reducible rfl))
        | (refine wpAnyH_take (i := 11) (oi := { dst := some 74, op := Go.Op.move (Go.Operand.tmp 2), type := 9, pos := "law.go:64", after := #[{ on := 8, ground := Go.Ground.guard }], guard := some (8, false) }) (v := undef) rfl (by kernel_rfl) (by kernel_rfl) (by kernel_rfl) (fun _ _ _ h => h) (Or.inr ⟨by rfl, rfl⟩) hHeld0 ?_)
        try simp only [Act.put, List.setIfInBounds_toArray, List.set_cons_zero, List.set_cons_succ]
        first
        | (refine wpAnyH_take (i := 13) (oi := { dst := some 76, op := Go.Op.fieldAddr 27 (Go.Operand.tmp 17) 0, type := 0, pos := "law.go:64", after := #[{ on := 8, ground := Go.Ground.guard }], guard := some (8, false) }) (v := ?_) rfl (by kernel_rfl) (by kernel_rfl) (by kernel_rfl) (fun _ _ _ h => h) (Or.inl ⟨by rfl, ?_⟩) hHeld0 ?_
           rotate_left
           · ((intro w hSw; (try dsimp only at hSw); go_simp) <;> with_reducible rfl))
        | (refine wpAnyH_take (i := 13) (oi := { dst := some 76, op := Go.Op.fieldAddr 27 (Go.Operand.tmp 17) 0, type := 0, pos := "law.go:64", after := #[{ on := 8, ground := Go.Ground.guard }], guard := some (8, false) }) (v := undef) rfl (by kernel_rfl) (by kernel_rfl) (by kernel_rfl) (fun _ _ _ h => h) (Or.inr ⟨by rfl, rfl⟩) hHeld0 ?_)
        try simp only [Act.put, List.setIfInBounds_toArray, List.set_cons_zero, List.set_cons_succ]
        first
        | (refine wpAnyH_take (i := 14) (oi := { dst := some 77, op := Go.Op.load 3 (Go.Operand.tmp 76), type := 3, pos := "law.go:64", after := #[{ on := 13, ground := Go.Ground.data }, { on := 8, ground := Go.Ground.guard }], guard := some (8, false) }) (v := ?_) rfl (by kernel_rfl) (by kernel_rfl) (by kernel_rfl) (fun _ _ _ h => h) (Or.inl ⟨by rfl, ?_⟩) hHeld0 ?_
           rotate_left
           · ((intro w hSw; (try dsimp only at hSw); go_simp) <;> with_reducible rfl))
        | (refine wpAnyH_take (i := 14) (oi := { dst := some 77, op := Go.Op.load 3 (Go.Operand.tmp 76), type := 3, pos := "law.go:64", after := #[{ on := 13, ground := Go.Ground.data }, { on := 8, ground := Go.Ground.guard }], guard := some (8, false) }) (v := undef) rfl (by kernel_rfl) (by kernel_rfl) (by kernel_rfl) (fun _ _ _ h => h) (Or.inr ⟨by rfl, rfl⟩) hHeld0 ?_)
        try simp only [Act.put, List.setIfInBounds_toArray, List.set_cons_zero, List.set_cons_succ]
        first
        | (refine wpAnyH_take (i := 15) (oi := { dst := some 78, op := Go.Op.binOp Go.BinOp.eql 3 (Go.Operand.tmp 77) (Go.Operand.const (Go.Value.int Go.IntKind.i64 9)) 3, type := 4, pos := "law.go:64", after := #[{ on := 14, ground := Go.Ground.data }, { on := 8, ground := Go.Ground.guard }], guard := some (8, false) }) (v := ?_) rfl (by kernel_rfl) (by kernel_rfl) (by kernel_rfl) (fun _ _ _ h => h) (Or.inl ⟨by rfl, ?_⟩) hHeld0 ?_
           rotate_left
           · ((intro w hSw; (try dsimp only at hSw); go_simp) <;> with_reducible rfl))
        | (refine wpAnyH_take (i := 15) (oi := { dst := some 78, op := Go.Op.binOp Go.BinOp.eql 3 (Go.Operand.tmp 77) (Go.Operand.const (Go.Value.int Go.IntKind.i64 9)) 3, type := 4, pos := "law.go:64", after := #[{ on := 14, ground := Go.Ground.data }, { on := 8, ground := Go.Ground.guard }], guard := some (8, false) }) (v := undef) rfl (by kernel_rfl) (by kernel_rfl) (by kernel_rfl) (fun _ _ _ h => h) (Or.inr ⟨by rfl, rfl⟩) hHeld0 ?_)
        try simp only [Act.put, List.setIfInBounds_toArray, List.set_cons_zero, List.set_cons_succ]
        refine wpAnyH_ready (rs := [12]) (by kernel_rfl) (by simp) ?_
        refine AllReadyH.cons (o := { dst := some 75, op := Go.Op.call { callee := Go.Callee.value (Go.Operand.func 20), args := #[Go.Operand.tmp 72, Go.Operand.tmp 73, Go.Operand.tmp 74], argTypes := #[9, 9, 9] }, type := 4, pos := "law.go:64", after := #[{ on := 9, ground := Go.Ground.data }, { on := 10, ground := Go.Ground.data }, { on := 11, ground := Go.Ground.data }, { on := 8, ground := Go.Ground.chain }, { on := 8, ground := Go.Ground.guard }], guard := some (8, false) }) rfl (fun Kr12 hK => ?_) AllReadyH.nil
        go_simp
        (go_at_call 20; (with_reducible refine (HSG.out _).mono ?_); rintro e wn ⟨rfl, hb⟩)
        refine hK.out _ _ ?_ (fun hHeld1 => ?_)
        · (try dsimp only); exact ⟨cell_keep hHeld0.1 hb, cell_keep hHeld0.2.1 hb, cell_keep hHeld0.2.2.1 hb, cell_keep hHeld0.2.2.2 hb⟩
        have HB := Lib.hid (Below.next HB.out hb)
        clear hK Kr12 hHeld0
        try simp only [Act.put, List.setIfInBounds_toArray, List.set_cons_zero, List.set_cons_succ]
        first
        | (refine wpAnyH_take (i := 16) (oi := { dst := some 79, op := Go.Op.move (Go.Operand.tmp 78), type := 4, pos := "law.go:64", after := #[{ on := 15, ground := Go.Ground.data }, { on := 12, ground := Go.Ground.chain }, { on := 8, ground := Go.Ground.guard }], guard := some (8, false) }) (v := ?_) rfl (by kernel_rfl) (by kernel_rfl) (by kernel_rfl) (fun _ _ _ h => h) (Or.inl ⟨by rfl, ?_⟩) hHeld1 ?_
           rotate_left
           · ((intro w hSw; (try dsimp only at hSw); go_simp) <;> with_reducible rfl))
        | (refine wpAnyH_take (i := 16) (oi := { dst := some 79, op := Go.Op.move (Go.Operand.tmp 78), type := 4, pos := "law.go:64", after := #[{ on := 15, ground := Go.Ground.data }, { on := 12, ground := Go.Ground.chain }, { on := 8, ground := Go.Ground.guard }], guard := some (8, false) }) (v := undef) rfl (by kernel_rfl) (by kernel_rfl) (by kernel_rfl) (fun _ _ _ h => h) (Or.inr ⟨by rfl, rfl⟩) hHeld1 ?_)
        try simp only [Act.put, List.setIfInBounds_toArray, List.set_cons_zero, List.set_cons_succ]
        first
        | (refine wpAnyH_take (i := 17) (oi := { dst := some 80, op := Go.Op.fieldAddr 27 (Go.Operand.tmp 17) 3, type := 0, pos := "law.go:64", after := #[{ on := 16, ground := Go.Ground.guard }], guard := some (16, true) }) (v := ?_) rfl (by kernel_rfl) (by kernel_rfl) (by kernel_rfl) (fun _ _ _ h => h) (Or.inl ⟨by rfl, ?_⟩) hHeld1 ?_
           rotate_left
           · ((intro w hSw; (try dsimp only at hSw); go_simp) <;> with_reducible rfl))
        | (refine wpAnyH_take (i := 17) (oi := { dst := some 80, op := Go.Op.fieldAddr 27 (Go.Operand.tmp 17) 3, type := 0, pos := "law.go:64", after := #[{ on := 16, ground := Go.Ground.guard }], guard := some (16, true) }) (v := undef) rfl (by kernel_rfl) (by kernel_rfl) (by kernel_rfl) (fun _ _ _ h => h) (Or.inr ⟨by rfl, rfl⟩) hHeld1 ?_)
        try simp only [Act.put, List.setIfInBounds_toArray, List.set_cons_zero, List.set_cons_succ]
        first
        | (refine wpAnyH_take (i := 18) (oi := { dst := some 81, op := Go.Op.load 25 (Go.Operand.tmp 80), type := 25, pos := "law.go:64", after := #[{ on := 17, ground := Go.Ground.data }, { on := 16, ground := Go.Ground.guard }], guard := some (16, true) }) (v := ?_) rfl (by kernel_rfl) (by kernel_rfl) (by kernel_rfl) (fun _ _ _ h => h) (Or.inl ⟨by rfl, ?_⟩) hHeld1 ?_
           rotate_left
           · ((intro w hSw; (try dsimp only at hSw); go_simp) <;> with_reducible rfl))
        | (refine wpAnyH_take (i := 18) (oi := { dst := some 81, op := Go.Op.load 25 (Go.Operand.tmp 80), type := 25, pos := "law.go:64", after := #[{ on := 17, ground := Go.Ground.data }, { on := 16, ground := Go.Ground.guard }], guard := some (16, true) }) (v := undef) rfl (by kernel_rfl) (by kernel_rfl) (by kernel_rfl) (fun _ _ _ h => h) (Or.inr ⟨by rfl, rfl⟩) hHeld1 ?_)
        try simp only [Act.put, List.setIfInBounds_toArray, List.set_cons_zero, List.set_cons_succ]
        first
        | (refine wpAnyH_take (i := 19) (oi := { dst := some 82, op := Go.Op.indexAddr 25 (Go.Operand.tmp 81) (Go.Operand.const (Go.Value.int Go.IntKind.i64 0)), type := 0, pos := "law.go:64", after := #[{ on := 18, ground := Go.Ground.data }, { on := 16, ground := Go.Ground.guard }], guard := some (16, true) }) (v := ?_) rfl (by kernel_rfl) (by kernel_rfl) (by kernel_rfl) (fun _ _ _ h => h) (Or.inl ⟨by rfl, ?_⟩) hHeld1 ?_
           rotate_left
           · ((intro w hSw; (try dsimp only at hSw); go_simp) <;> with_reducible rfl))
        | (refine wpAnyH_take (i := 19) (oi := { dst := some 82, op := Go.Op.indexAddr 25 (Go.Operand.tmp 81) (Go.Operand.const (Go.Value.int Go.IntKind.i64 0)), type := 0, pos := "law.go:64", after := #[{ on := 18, ground := Go.Ground.data }, { on := 16, ground := Go.Ground.guard }], guard := some (16, true) }) (v := undef) rfl (by kernel_rfl) (by kernel_rfl) (by kernel_rfl) (fun _ _ _ h => h) (Or.inr ⟨by rfl, rfl⟩) hHeld1 ?_)
        try simp only [Act.put, List.setIfInBounds_toArray, List.set_cons_zero, List.set_cons_succ]
        first
        | (refine wpAnyH_take (i := 20) (oi := { dst := some 83, op := Go.Op.load 9 (Go.Operand.tmp 82), type := 9, pos := "law.go:64", after := #[{ on := 19, ground := Go.Ground.data }, { on := 16, ground := Go.Ground.guard }], guard := some (16, true) }) (v := ?_) rfl (by kernel_rfl) (by kernel_rfl) (by kernel_rfl) (fun _ _ _ h => h) (Or.inl ⟨by rfl, ?_⟩) hHeld1 ?_
           rotate_left
           · ((intro w hSw; (try dsimp only at hSw); go_simp) <;> with_reducible rfl))
        | (refine wpAnyH_take (i := 20) (oi := { dst := some 83, op := Go.Op.load 9 (Go.Operand.tmp 82), type := 9, pos := "law.go:64", after := #[{ on := 19, ground := Go.Ground.data }, { on := 16, ground := Go.Ground.guard }], guard := some (16, true) }) (v := undef) rfl (by kernel_rfl) (by kernel_rfl) (by kernel_rfl) (fun _ _ _ h => h) (Or.inr ⟨by rfl, rfl⟩) hHeld1 ?_)
        try simp only [Act.put, List.setIfInBounds_toArray, List.set_cons_zero, List.set_cons_succ]
        first
        | (refine wpAnyH_take (i := 21) (oi := { dst := some 84, op := Go.Op.move (Go.Operand.tmp 1), type := 9, pos := "law.go:64", after := #[{ on := 16, ground := Go.Ground.guard }], guard := some (16, true) }) (v := ?_) rfl (by kernel_rfl) (by kernel_rfl) (by kernel_rfl) (fun _ _ _ h => h) (Or.inl ⟨by rfl, ?_⟩) hHeld1 ?_
           rotate_left
           · ((intro w hSw; (try dsimp only at hSw); go_simp) <;> with_reducible rfl))
        | (refine wpAnyH_take (i := 21) (oi := { dst := some 84, op := Go.Op.move (Go.Operand.tmp 1), type := 9, pos := "law.go:64", after := #[{ on := 16, ground := Go.Ground.guard }], guard := some (16, true) }) (v := undef) rfl (by kernel_rfl) (by kernel_rfl) (by kernel_rfl) (fun _ _ _ h => h) (Or.inr ⟨by rfl, rfl⟩) hHeld1 ?_)
        try simp only [Act.put, List.setIfInBounds_toArray, List.set_cons_zero, List.set_cons_succ]
        first
        | (refine wpAnyH_take (i := 22) (oi := { dst := some 85, op := Go.Op.binOp Go.BinOp.eql 9 (Go.Operand.tmp 83) (Go.Operand.tmp 84) 9, type := 4, pos := "law.go:64", after := #[{ on := 20, ground := Go.Ground.data }, { on := 21, ground := Go.Ground.data }, { on := 16, ground := Go.Ground.guard }], guard := some (16, true) }) (v := ?_) rfl (by kernel_rfl) (by kernel_rfl) (by kernel_rfl) (fun _ _ _ h => h) (Or.inl ⟨by rfl, ?_⟩) hHeld1 ?_
           rotate_left
           · ((intro w hSw; (try dsimp only at hSw); go_simp) <;> with_reducible rfl))
        | (refine wpAnyH_take (i := 22) (oi := { dst := some 85, op := Go.Op.binOp Go.BinOp.eql 9 (Go.Operand.tmp 83) (Go.Operand.tmp 84) 9, type := 4, pos := "law.go:64", after := #[{ on := 20, ground := Go.Ground.data }, { on := 21, ground := Go.Ground.data }, { on := 16, ground := Go.Ground.guard }], guard := some (16, true) }) (v := undef) rfl (by kernel_rfl) (by kernel_rfl) (by kernel_rfl) (fun _ _ _ h => h) (Or.inr ⟨by rfl, rfl⟩) hHeld1 ?_)
        try simp only [Act.put, List.setIfInBounds_toArray, List.set_cons_zero, List.set_cons_succ]
        first
        | (refine wpAnyH_take (i := 23) (oi := { dst := some 86, op := Go.Op.pick (Go.Operand.tmp 79) (Go.Operand.tmp 85) (Go.Operand.const (Go.Value.bool false)), type := 4, pos := "law.go:64", after := #[{ on := 16, ground := Go.Ground.data }, { on := 22, ground := Go.Ground.data }, { on := 8, ground := Go.Ground.guard }], guard := some (8, false) }) (v := ?_) rfl (by kernel_rfl) (by kernel_rfl) (by kernel_rfl) (fun _ _ _ h => h) (Or.inl ⟨by rfl, ?_⟩) hHeld1 ?_
           rotate_left
           · ((intro w hSw; (try dsimp only at hSw); go_simp) <;> with_reducible rfl))
        | (refine wpAnyH_take (i := 23) (oi := { dst := some 86, op := Go.Op.pick (Go.Operand.tmp 79) (Go.Operand.tmp 85) (Go.Operand.const (Go.Value.bool false)), type := 4, pos := "law.go:64", after := #[{ on := 16, ground := Go.Ground.data }, { on := 22, ground := Go.Ground.data }, { on := 8, ground := Go.Ground.guard }], guard := some (8, false) }) (v := undef) rfl (by kernel_rfl) (by kernel_rfl) (by kernel_rfl) (fun _ _ _ h => h) (Or.inr ⟨by rfl, rfl⟩) hHeld1 ?_)
        try simp only [Act.put, List.setIfInBounds_toArray, List.set_cons_zero, List.set_cons_succ]
        first
        | (refine wpAnyH_take (i := 24) (oi := { dst := some 87, op := Go.Op.move (Go.Operand.tmp 86), type := 4, pos := "law.go:64", after := #[{ on := 23, ground := Go.Ground.data }, { on := 16, ground := Go.Ground.chain }, { on := 8, ground := Go.Ground.guard }], guard := some (8, false) }) (v := ?_) rfl (by kernel_rfl) (by kernel_rfl) (by kernel_rfl) (fun _ _ _ h => h) (Or.inl ⟨by rfl, ?_⟩) hHeld1 ?_
           rotate_left
           · ((intro w hSw; (try dsimp only at hSw); go_simp) <;> with_reducible rfl))
        | (refine wpAnyH_take (i := 24) (oi := { dst := some 87, op := Go.Op.move (Go.Operand.tmp 86), type := 4, pos := "law.go:64", after := #[{ on := 23, ground := Go.Ground.data }, { on := 16, ground := Go.Ground.chain }, { on := 8, ground := Go.Ground.guard }], guard := some (8, false) }) (v := undef) rfl (by kernel_rfl) (by kernel_rfl) (by kernel_rfl) (fun _ _ _ h => h) (Or.inr ⟨by rfl, rfl⟩) hHeld1 ?_)
        try simp only [Act.put, List.setIfInBounds_toArray, List.set_cons_zero, List.set_cons_succ]
        first
        | (refine wpAnyH_take (i := 25) (oi := { dst := some 88, op := Go.Op.fieldAddr 27 (Go.Operand.tmp 17) 3, type := 0, pos := "law.go:64", after := #[{ on := 24, ground := Go.Ground.guard }], guard := some (24, true) }) (v := ?_) rfl (by kernel_rfl) (by kernel_rfl) (by kernel_rfl) (fun _ _ _ h => h) (Or.inl ⟨by rfl, ?_⟩) hHeld1 ?_
           rotate_left
           · ((intro w hSw; (try dsimp only at hSw); go_simp) <;> with_reducible rfl))
        | (refine wpAnyH_take (i := 25) (oi := { dst := some 88, op := Go.Op.fieldAddr 27 (Go.Operand.tmp 17) 3, type := 0, pos := "law.go:64", after := #[{ on := 24, ground := Go.Ground.guard }], guard := some (24, true) }) (v := undef) rfl (by kernel_rfl) (by kernel_rfl) (by kernel_rfl) (fun _ _ _ h => h) (Or.inr ⟨by rfl, rfl⟩) hHeld1 ?_)
        try simp only [Act.put, List.setIfInBounds_toArray, List.set_cons_zero, List.set_cons_succ]
        first
        | (refine wpAnyH_take (i := 26) (oi := { dst := some 89, op := Go.Op.load 25 (Go.Operand.tmp 88), type := 25, pos := "law.go:64", after := #[{ on := 25, ground := Go.Ground.data }, { on := 24, ground := Go.Ground.guard }], guard := some (24, true) }) (v := ?_) rfl (by kernel_rfl) (by kernel_rfl) (by kernel_rfl) (fun _ _ _ h => h) (Or.inl ⟨by rfl, ?_⟩) hHeld1 ?_
           rotate_left
           · ((intro w hSw; (try dsimp only at hSw); go_simp) <;> with_reducible rfl))
        | (refine wpAnyH_take (i := 26) (oi := { dst := some 89, op := Go.Op.load 25 (Go.Operand.tmp 88), type := 25, pos := "law.go:64", after := #[{ on := 25, ground := Go.Ground.data }, { on := 24, ground := Go.Ground.guard }], guard := some (24, true) }) (v := undef) rfl (by kernel_rfl) (by kernel_rfl) (by kernel_rfl) (fun _ _ _ h => h) (Or.inr ⟨by rfl, rfl⟩) hHeld1 ?_)
        try simp only [Act.put, List.setIfInBounds_toArray, List.set_cons_zero, List.set_cons_succ]
        first
        | (refine wpAnyH_take (i := 27) (oi := { dst := some 90, op := Go.Op.indexAddr 25 (Go.Operand.tmp 89) (Go.Operand.const (Go.Value.int Go.IntKind.i64 1)), type := 0, pos := "law.go:64", after := #[{ on := 26, ground := Go.Ground.data }, { on := 24, ground := Go.Ground.guard }], guard := some (24, true) }) (v := ?_) rfl (by kernel_rfl) (by kernel_rfl) (by kernel_rfl) (fun _ _ _ h => h) (Or.inl ⟨by rfl, ?_⟩) hHeld1 ?_
           rotate_left
           · ((intro w hSw; (try dsimp only at hSw); go_simp) <;> with_reducible rfl))
        | (refine wpAnyH_take (i := 27) (oi := { dst := some 90, op := Go.Op.indexAddr 25 (Go.Operand.tmp 89) (Go.Operand.const (Go.Value.int Go.IntKind.i64 1)), type := 0, pos := "law.go:64", after := #[{ on := 26, ground := Go.Ground.data }, { on := 24, ground := Go.Ground.guard }], guard := some (24, true) }) (v := undef) rfl (by kernel_rfl) (by kernel_rfl) (by kernel_rfl) (fun _ _ _ h => h) (Or.inr ⟨by rfl, rfl⟩) hHeld1 ?_)
        try simp only [Act.put, List.setIfInBounds_toArray, List.set_cons_zero, List.set_cons_succ]
        first
        | (refine wpAnyH_take (i := 28) (oi := { dst := some 91, op := Go.Op.load 9 (Go.Operand.tmp 90), type := 9, pos := "law.go:64", after := #[{ on := 27, ground := Go.Ground.data }, { on := 24, ground := Go.Ground.guard }], guard := some (24, true) }) (v := ?_) rfl (by kernel_rfl) (by kernel_rfl) (by kernel_rfl) (fun _ _ _ h => h) (Or.inl ⟨by rfl, ?_⟩) hHeld1 ?_
           rotate_left
           · ((intro w hSw; (try dsimp only at hSw); go_simp) <;> with_reducible rfl))
        | (refine wpAnyH_take (i := 28) (oi := { dst := some 91, op := Go.Op.load 9 (Go.Operand.tmp 90), type := 9, pos := "law.go:64", after := #[{ on := 27, ground := Go.Ground.data }, { on := 24, ground := Go.Ground.guard }], guard := some (24, true) }) (v := undef) rfl (by kernel_rfl) (by kernel_rfl) (by kernel_rfl) (fun _ _ _ h => h) (Or.inr ⟨by rfl, rfl⟩) hHeld1 ?_)
        try simp only [Act.put, List.setIfInBounds_toArray, List.set_cons_zero, List.set_cons_succ]
        first
        | (refine wpAnyH_take (i := 29) (oi := { dst := some 92, op := Go.Op.move (Go.Operand.tmp 2), type := 9, pos := "law.go:64", after := #[{ on := 24, ground := Go.Ground.guard }], guard := some (24, true) }) (v := ?_) rfl (by kernel_rfl) (by kernel_rfl) (by kernel_rfl) (fun _ _ _ h => h) (Or.inl ⟨by rfl, ?_⟩) hHeld1 ?_
           rotate_left
           · ((intro w hSw; (try dsimp only at hSw); go_simp) <;> with_reducible rfl))
        | (refine wpAnyH_take (i := 29) (oi := { dst := some 92, op := Go.Op.move (Go.Operand.tmp 2), type := 9, pos := "law.go:64", after := #[{ on := 24, ground := Go.Ground.guard }], guard := some (24, true) }) (v := undef) rfl (by kernel_rfl) (by kernel_rfl) (by kernel_rfl) (fun _ _ _ h => h) (Or.inr ⟨by rfl, rfl⟩) hHeld1 ?_)
        try simp only [Act.put, List.setIfInBounds_toArray, List.set_cons_zero, List.set_cons_succ]
        first
        | (refine wpAnyH_take (i := 30) (oi := { dst := some 93, op := Go.Op.binOp Go.BinOp.eql 9 (Go.Operand.tmp 91) (Go.Operand.tmp 92) 9, type := 4, pos := "law.go:64", after := #[{ on := 28, ground := Go.Ground.data }, { on := 29, ground := Go.Ground.data }, { on := 24, ground := Go.Ground.guard }], guard := some (24, true) }) (v := ?_) rfl (by kernel_rfl) (by kernel_rfl) (by kernel_rfl) (fun _ _ _ h => h) (Or.inl ⟨by rfl, ?_⟩) hHeld1 ?_
           rotate_left
           · ((intro w hSw; (try dsimp only at hSw); go_simp) <;> with_reducible rfl))
        | (refine wpAnyH_take (i := 30) (oi := { dst := some 93, op := Go.Op.binOp Go.BinOp.eql 9 (Go.Operand.tmp 91) (Go.Operand.tmp 92) 9, type := 4, pos := "law.go:64", after := #[{ on := 28, ground := Go.Ground.data }, { on := 29, ground := Go.Ground.data }, { on := 24, ground := Go.Ground.guard }], guard := some (24, true) }) (v := undef) rfl (by kernel_rfl) (by kernel_rfl) (by kernel_rfl) (fun _ _ _ h => h) (Or.inr ⟨by rfl, rfl⟩) hHeld1 ?_)
        try simp only [Act.put, List.setIfInBounds_toArray, List.set_cons_zero, List.set_cons_succ]
        first
        | (refine wpAnyH_take (i := 31) (oi := { dst := some 94, op := Go.Op.pick (Go.Operand.tmp 87) (Go.Operand.tmp 93) (Go.Operand.const (Go.Value.bool false)), type := 4, pos := "law.go:64", after := #[{ on := 24, ground := Go.Ground.data }, { on := 30, ground := Go.Ground.data }, { on := 8, ground := Go.Ground.guard }], guard := some (8, false) }) (v := ?_) rfl (by kernel_rfl) (by kernel_rfl) (by kernel_rfl) (fun _ _ _ h => h) (Or.inl ⟨by rfl, ?_⟩) hHeld1 ?_
           rotate_left
           · ((intro w hSw; (try dsimp only at hSw); go_simp) <;> with_reducible rfl))
        | (refine wpAnyH_take (i := 31) (oi := { dst := some 94, op := Go.Op.pick (Go.Operand.tmp 87) (Go.Operand.tmp 93) (Go.Operand.const (Go.Value.bool false)), type := 4, pos := "law.go:64", after := #[{ on := 24, ground := Go.Ground.data }, { on := 30, ground := Go.Ground.data }, { on := 8, ground := Go.Ground.guard }], guard := some (8, false) }) (v := undef) rfl (by kernel_rfl) (by kernel_rfl) (by kernel_rfl) (fun _ _ _ h => h) (Or.inr ⟨by rfl, rfl⟩) hHeld1 ?_)
        try simp only [Act.put, List.setIfInBounds_toArray, List.set_cons_zero, List.set_cons_succ]
        first
        | (refine wpAnyH_take (i := 32) (oi := { dst := some 95, op := Go.Op.binOp Go.BinOp.neq 4 (Go.Operand.tmp 75) (Go.Operand.tmp 94) 4, type := 4, pos := "law.go:64", after := #[{ on := 12, ground := Go.Ground.data }, { on := 31, ground := Go.Ground.data }, { on := 8, ground := Go.Ground.guard }], guard := some (8, false) }) (v := ?_) rfl (by kernel_rfl) (by kernel_rfl) (by kernel_rfl) (fun _ _ _ h => h) (Or.inl ⟨by rfl, ?_⟩) hHeld1 ?_
           rotate_left
           · ((intro w hSw; (try dsimp only at hSw); go_simp) <;> with_reducible rfl))
        | (refine wpAnyH_take (i := 32) (oi := { dst := some 95, op := Go.Op.binOp Go.BinOp.neq 4 (Go.Operand.tmp 75) (Go.Operand.tmp 94) 4, type := 4, pos := "law.go:64", after := #[{ on := 12, ground := Go.Ground.data }, { on := 31, ground := Go.Ground.data }, { on := 8, ground := Go.Ground.guard }], guard := some (8, false) }) (v := undef) rfl (by kernel_rfl) (by kernel_rfl) (by kernel_rfl) (fun _ _ _ h => h) (Or.inr ⟨by rfl, rfl⟩) hHeld1 ?_)
        try simp only [Act.put, List.setIfInBounds_toArray, List.set_cons_zero, List.set_cons_succ]
        first
        | (refine wpAnyH_take (i := 33) (oi := { dst := some 96, op := Go.Op.pick (Go.Operand.tmp 71) (Go.Operand.const (Go.Value.bool true)) (Go.Operand.tmp 95), type := 4, pos := "law.go:64", after := #[{ on := 8, ground := Go.Ground.data }, { on := 32, ground := Go.Ground.data }], guard := none }) (v := ?_) rfl (by kernel_rfl) (by kernel_rfl) (by kernel_rfl) (fun _ _ _ h => h) (Or.inl ⟨by rfl, ?_⟩) hHeld1 ?_
           rotate_left
           · ((intro w hSw; (try dsimp only at hSw); go_simp) <;> with_reducible rfl))
        | (refine wpAnyH_take (i := 33) (oi := { dst := some 96, op := Go.Op.pick (Go.Operand.tmp 71) (Go.Operand.const (Go.Value.bool true)) (Go.Operand.tmp 95), type := 4, pos := "law.go:64", after := #[{ on := 8, ground := Go.Ground.data }, { on := 32, ground := Go.Ground.data }], guard := none }) (v := undef) rfl (by kernel_rfl) (by kernel_rfl) (by kernel_rfl) (fun _ _ _ h => h) (Or.inr ⟨by rfl, rfl⟩) hHeld1 ?_)
        try simp only [Act.put, List.setIfInBounds_toArray, List.set_cons_zero, List.set_cons_succ]
        first
        | (refine wpAnyH_take (i := 34) (oi := { dst := some 97, op := Go.Op.move (Go.Operand.tmp 96), type := 4, pos := "law.go:64", after := #[{ on := 33, ground := Go.Ground.data }, { on := 24, ground := Go.Ground.chain }], guard := none }) (v := ?_) rfl (by kernel_rfl) (by kernel_rfl) (by kernel_rfl) (fun _ _ _ h => h) (Or.inl ⟨by rfl, ?_⟩) hHeld1 ?_
           rotate_left
           · ((intro w hSw; (try dsimp only at hSw); go_simp) <;> with_reducible rfl))
        | (refine wpAnyH_take (i := 34) (oi := { dst := some 97, op := Go.Op.move (Go.Operand.tmp 96), type := 4, pos := "law.go:64", after := #[{ on := 33, ground := Go.Ground.data }, { on := 24, ground := Go.Ground.chain }], guard := none }) (v := undef) rfl (by kernel_rfl) (by kernel_rfl) (by kernel_rfl) (fun _ _ _ h => h) (Or.inr ⟨by rfl, rfl⟩) hHeld1 ?_)
        try simp only [Act.put, List.setIfInBounds_toArray, List.set_cons_zero, List.set_cons_succ]
        first
        | (refine wpAnyH_take (i := 35) (oi := { dst := some 98, op := Go.Op.move (Go.Operand.tmp 0), type := 9, pos := "law.go:64", after := #[{ on := 34, ground := Go.Ground.guard }], guard := some (34, false) }) (v := ?_) rfl (by kernel_rfl) (by kernel_rfl) (by kernel_rfl) (fun _ _ _ h => h) (Or.inl ⟨by rfl, ?_⟩) hHeld1 ?_
           rotate_left
           · ((intro w hSw; (try dsimp only at hSw); go_simp) <;> with_reducible rfl))
        | (refine wpAnyH_take (i := 35) (oi := { dst := some 98, op := Go.Op.move (Go.Operand.tmp 0), type := 9, pos := "law.go:64", after := #[{ on := 34, ground := Go.Ground.guard }], guard := some (34, false) }) (v := undef) rfl (by kernel_rfl) (by kernel_rfl) (by kernel_rfl) (fun _ _ _ h => h) (Or.inr ⟨by rfl, rfl⟩) hHeld1 ?_)
        try simp only [Act.put, List.setIfInBounds_toArray, List.set_cons_zero, List.set_cons_succ]
        first
        | (refine wpAnyH_take (i := 36) (oi := { dst := some 99, op := Go.Op.move (Go.Operand.tmp 1), type := 9, pos := "law.go:64", after := #[{ on := 34, ground := Go.Ground.guard }], guard := some (34, false) }) (v := ?_) rfl (by kernel_rfl) (by kernel_rfl) (by kernel_rfl) (fun _ _ _ h => h) (Or.inl ⟨by rfl, ?_⟩) hHeld1 ?_
           rotate_left
           · ((intro w hSw; (try dsimp only at hSw); go_simp) <;> with_reducible rfl))
        | (refine wpAnyH_take (i := 36) (oi := { dst := some 99, op := Go.Op.move (Go.Operand.tmp 1), type := 9, pos := "law.go:64", after := #[{ on := 34, ground := Go.Ground.guard }], guard := some (34, false) }) (v := undef) rfl (by kernel_rfl) (by kernel_rfl) (by kernel_rfl) (fun _ _ _ h => h) (Or.inr ⟨by rfl, rfl⟩) hHeld1 ?_)
        try simp only [Act.put, List.setIfInBounds_toArray, List.set_cons_zero, List.set_cons_succ]
        first
        | (refine wpAnyH_take (i := 38) (oi := { dst := some 101, op := Go.Op.move (Go.Operand.tmp 0), type := 9, pos := "law.go:64", after := #[{ on := 34, ground := Go.Ground.guard }], guard := some (34, false) }) (v := ?_) rfl (by kernel_rfl) (by kernel_rfl) (by kernel_rfl) (fun _ _ _ h => h) (Or.inl ⟨by rfl, ?_⟩) hHeld1 ?_
           rotate_left
           · ((intro w hSw; (try dsimp only at hSw); go_simp) <;> with_reducible rfl))
        | (refine wpAnyH_take (i := 38) (oi := { dst := some 101, op := Go.Op.move (Go.Operand.tmp 0), type := 9, pos := "law.go:64", after := #[{ on := 34, ground := Go.Ground.guard }], guard := some (34, false) }) (v := undef) rfl (by kernel_rfl) (by kernel_rfl) (by kernel_rfl) (fun _ _ _ h => h) (Or.inr ⟨by rfl, rfl⟩) hHeld1 ?_)
        try simp only [Act.put, List.setIfInBounds_toArray, List.set_cons_zero, List.set_cons_succ]
        first
        | (refine wpAnyH_take (i := 39) (oi := { dst := some 102, op := Go.Op.move (Go.Operand.tmp 1), type := 9, pos := "law.go:64", after := #[{ on := 34, ground := Go.Ground.guard }], guard := some (34, false) }) (v := ?_) rfl (by kernel_rfl) (by kernel_rfl) (by kernel_rfl) (fun _ _ _ h => h) (Or.inl ⟨by rfl, ?_⟩) hHeld1 ?_
           rotate_left
           · ((intro w hSw; (try dsimp only at hSw); go_simp) <;> with_reducible rfl))
        | (refine wpAnyH_take (i := 39) (oi := { dst := some 102, op := Go.Op.move (Go.Operand.tmp 1), type := 9, pos := "law.go:64", after := #[{ on := 34, ground := Go.Ground.guard }], guard := some (34, false) }) (v := undef) rfl (by kernel_rfl) (by kernel_rfl) (by kernel_rfl) (fun _ _ _ h => h) (Or.inr ⟨by rfl, rfl⟩) hHeld1 ?_)
        try simp only [Act.put, List.setIfInBounds_toArray, List.set_cons_zero, List.set_cons_succ]
        refine wpAnyH_ready (rs := [37]) (by kernel_rfl) (by simp) ?_
        refine AllReadyH.cons (o := { dst := some 100, op := Go.Op.call { callee := Go.Callee.value (Go.Operand.func 21), args := #[Go.Operand.tmp 98, Go.Operand.tmp 99], argTypes := #[9, 9] }, type := 9, pos := "law.go:64", after := #[{ on := 35, ground := Go.Ground.data }, { on := 36, ground := Go.Ground.data }, { on := 34, ground := Go.Ground.chain }, { on := 34, ground := Go.Ground.guard }], guard := some (34, false) }) rfl (fun Kr37 hK => ?_) AllReadyH.nil
        go_simp
        (go_at_call 21; (with_reducible refine (HAG.out _).mono ?_); rintro e wn ⟨rfl, hb⟩)
        refine hK.out _ _ ?_ (fun hHeld2 => ?_)
        · (try dsimp only); exact ⟨cell_keep hHeld1.1 hb, cell_keep hHeld1.2.1 hb, cell_keep hHeld1.2.2.1 hb, cell_keep hHeld1.2.2.2 hb⟩
        have HB := Lib.hid (Below.next HB.out hb)
        clear hK Kr37 hHeld1
        try simp only [Act.put, List.setIfInBounds_toArray, List.set_cons_zero, List.set_cons_succ]
        refine wpAnyH_ready (rs := [40]) (by kernel_rfl) (by simp) ?_
        refine AllReadyH.cons (o := { dst := some 103, op := Go.Op.call { callee := Go.Callee.value (Go.Operand.func 22), args := #[Go.Operand.tmp 101, Go.Operand.tmp 102], argTypes := #[9, 9] }, type := 9, pos := "law.go:64", after := #[{ on := 38, ground := Go.Ground.data }, { on := 39, ground := Go.Ground.data }, { on := 37, ground := Go.Ground.chain }, { on := 34, ground := Go.Ground.guard }], guard := some (34, false) }) rfl (fun Kr40 hK => ?_) AllReadyH.nil
        go_simp
        (go_at_call 22; (with_reducible refine (HRA.out _).mono ?_); rintro e wn ⟨rfl, hb⟩)
        refine hK.out _ _ ?_ (fun hHeld3 => ?_)
        · (try dsimp only); exact ⟨cell_keep hHeld2.1 hb, cell_keep hHeld2.2.1 hb, cell_keep hHeld2.2.2.1 hb, cell_keep hHeld2.2.2.2 hb⟩
        have HB := Lib.hid (Below.next HB.out hb)
        clear hK Kr40 hHeld2
        try simp only [Act.put, List.setIfInBounds_toArray, List.set_cons_zero, List.set_cons_succ]
        first
        | (refine wpAnyH_take (i := 41) (oi := { dst := some 104, op := Go.Op.binOp Go.BinOp.neq 9 (Go.Operand.tmp 100) (Go.Operand.tmp 103) 9, type := 4, pos := "law.go:64", after := #[{ on := 37, ground := Go.Ground.data }, { on := 40, ground := Go.Ground.data }, { on := 34, ground := Go.Ground.guard }], guard := some (34, false) }) (v := ?_) rfl (by kernel_rfl) (by kernel_rfl) (by kernel_rfl) (fun _ _ _ h => h) (Or.inl ⟨by rfl, ?_⟩) hHeld3 ?_
           rotate_left
           · ((intro w hSw; (try dsimp only at hSw); go_simp) <;> with_reducible rfl))
        | (refine wpAnyH_take (i := 41) (oi := { dst := some 104, op := Go.Op.binOp Go.BinOp.neq 9 (Go.Operand.tmp 100) (Go.Operand.tmp 103) 9, type := 4, pos := "law.go:64", after := #[{ on := 37, ground := Go.Ground.data }, { on := 40, ground := Go.Ground.data }, { on := 34, ground := Go.Ground.guard }], guard := some (34, false) }) (v := undef) rfl (by kernel_rfl) (by kernel_rfl) (by kernel_rfl) (fun _ _ _ h => h) (Or.inr ⟨by rfl, rfl⟩) hHeld3 ?_)
        try simp only [Act.put, List.setIfInBounds_toArray, List.set_cons_zero, List.set_cons_succ]
        first
        | (refine wpAnyH_take (i := 42) (oi := { dst := some 105, op := Go.Op.pick (Go.Operand.tmp 97) (Go.Operand.const (Go.Value.bool true)) (Go.Operand.tmp 104), type := 4, pos := "law.go:64", after := #[{ on := 34, ground := Go.Ground.data }, { on := 41, ground := Go.Ground.data }], guard := none }) (v := ?_) rfl (by kernel_rfl) (by kernel_rfl) (by kernel_rfl) (fun _ _ _ h => h) (Or.inl ⟨by rfl, ?_⟩) hHeld3 ?_
           rotate_left
           · ((intro w hSw; (try dsimp only at hSw); go_simp) <;> with_reducible rfl))
        | (refine wpAnyH_take (i := 42) (oi := { dst := some 105, op := Go.Op.pick (Go.Operand.tmp 97) (Go.Operand.const (Go.Value.bool true)) (Go.Operand.tmp 104), type := 4, pos := "law.go:64", after := #[{ on := 34, ground := Go.Ground.data }, { on := 41, ground := Go.Ground.data }], guard := none }) (v := undef) rfl (by kernel_rfl) (by kernel_rfl) (by kernel_rfl) (fun _ _ _ h => h) (Or.inr ⟨by rfl, rfl⟩) hHeld3 ?_)
        try simp only [Act.put, List.setIfInBounds_toArray, List.set_cons_zero, List.set_cons_succ]
        refine wpAnyH_done (by kernel_rfl) ?_ _
        clear hHeld3
        exact hKK _ _ (Met.intro (hJ0 _ _ ⟨rfl, rfl, rfl, rfl, rfl, rfl, rfl, rfl, rfl, rfl, HB.out⟩))
  · intro a' w8 hrel8
    obtain ⟨hfd, hfs, hf0, hf1, hf2, hf3, hf4, hf5, hf12, hf105, hB8⟩ := hrel8
    have HB := Lib.hid hB8
    clear hB8 haa hoo hcc HND HAG HRA HOP HRO HX HTM HCASE
    obtain ⟨T, DD⟩ := a'
    obtain rfl : DD = [] := hfd
    obtain ⟨u, hu⟩ : ∃ u : Nat → Value, T = #[u 0, u 1, u 2, u 3, u 4, u 5, u 6, u 7, u 8, u 9, u 10, u 11, u 12, u 13, u 14, u 15, u 16, u 17, u 18, u 19, u 20, u 21, u 22, u 23, u 24, u 25, u 26, u 27, u 28, u 29, u 30, u 31, u 32, u 33, u 34, u 35, u 36, u 37, u 38, u 39, u 40, u 41, u 42, u 43, u 44, u 45, u 46, u 47, u 48, u 49, u 50, u 51, u 52, u 53, u 54, u 55, u 56, u 57, u 58, u 59, u 60, u 61, u 62, u 63, u 64, u 65, u 66, u 67, u 68, u 69, u 70, u 71, u 72, u 73, u 74, u 75, u 76, u 77, u 78, u 79, u 80, u 81, u 82, u 83, u 84, u 85, u 86, u 87, u 88, u 89, u 90, u 91, u 92, u 93, u 94, u 95, u 96, u 97, u 98, u 99, u 100, u 101, u 102, u 103, u 104, u 105, u 106, u 107, u 108, u 109, u 110, u 111, u 112, u 113, u 114, u 115, u 116, u 117, u 118, u 119, u 120, u 121, u 122, u 123, u 124, u 125, u 126, u 127, u 128, u 129, u 130, u 131, u 132, u 133, u 134, u 135, u 136, u 137, u 138, u 139, u 140, u 141, u 142, u 143, u 144, u 145, u 146, u 147, u 148, u 149, u 150, u 151, u 152, u 153, u 154, u 155, u 156, u 157, u 158, u 159] := ⟨fun i => T.getD i undef, lit_eq T 160 hfs⟩
    subst hu
    have he0 : u 0 = .string t := hf0
    have he1 : u 1 = .string key := hf1
    have he2 : u 2 = .string y := hf2
    have he3 : u 3 = .string v := hf3
    have he4 : u 4 = .int .u64 n := hf4
    have he5 : u 5 = .int .u64 m := hf5
    have he12 : u 12 = .bool false := hf12
    have he105 : u 105 = .bool false := hf105
    clear hfs hf0 hf1 hf2 hf3 hf4 hf5 hf12 hf105
    rw [he0, he1, he2, he3, he4, he5, he12, he105]
    clear he0 he1 he2 he3 he4 he5 he12 he105
    by_cases hZ0 : Z = []
    · subst hZ0
      obtain ⟨z1, z2⟩ := nil_facts
      go_wp2_with (first | (go_at_call 23; ((with_reducible refine (HSE.out _).mono ?_); rintro e wn ⟨rfl, hb⟩; have HB := Lib.hid (Below.next HB.out hb); clear hb)) | fail)
      go_ret
      exact ⟨rfl, HB.out⟩
    · obtain ⟨hzl, hzm⟩ := HZF.out hZ0
      obtain ⟨z1, z2⟩ := str_nil_facts hZ0
      have HOA := Lib.hid (fun w => open_yes hzl hzm n v ⟨rfl, rfl⟩ w)
      have huu : (y.toList == y.toList) = true := by simp
      by_cases hmn : n = m
      · have HOM := Lib.hid (fun w => open_yes hzl hzm m v ⟨hmn, rfl⟩ w)
        have emn : ((m : Int) == n) = true := by simp [hmn]
        by_cases htv : v.data.toList = t.data.toList
        · have HOT := Lib.hid (fun w => open_yes hzl hzm n t ⟨rfl, htv⟩ w)
          have etv : (t.toList == v.toList) = true := by rw [raw_eq, htv]; simp
          clear hmn htv hzl hzm hZ0
          go_wp2_with (first | (go_at_call 23; ((with_reducible refine (HSE.out _).mono ?_); rintro e wn ⟨rfl, hb⟩; have HB := Lib.hid (Below.next HB.out hb); clear hb)) | (go_at_call 18; ((with_reducible refine (HOA.out _).mono ?_); rintro e wn ⟨rfl, hb⟩; have HB := Lib.hid (Below.next HB.out hb); clear hb)) | (go_at_call 18; ((with_reducible refine (HOM.out _).mono ?_); rintro e wn ⟨rfl, hb⟩; have HB := Lib.hid (Below.next HB.out hb); clear hb)) | (go_at_call 18; ((with_reducible refine (HOT.out _).mono ?_); rintro e wn ⟨rfl, hb⟩; have HB := Lib.hid (Below.next HB.out hb); clear hb)) | fail)
          go_ret
          exact ⟨rfl, HB.out⟩
        · have HOT := Lib.hid (fun w => open_no hzl hzm n t (fun h => htv h.2) w)
          have etv : (t.toList == v.toList) = false := by rw [raw_eq, beq_eq_false_iff_ne]; exact fun h => htv h.symm
          clear hmn htv hzl hzm hZ0
          go_wp2_with (first | (go_at_call 23; ((with_reducible refine (HSE.out _).mono ?_); rintro e wn ⟨rfl, hb⟩; have HB := Lib.hid (Below.next HB.out hb); clear hb)) | (go_at_call 18; ((with_reducible refine (HOA.out _).mono ?_); rintro e wn ⟨rfl, hb⟩; have HB := Lib.hid (Below.next HB.out hb); clear hb)) | (go_at_call 18; ((with_reducible refine (HOM.out _).mono ?_); rintro e wn ⟨rfl, hb⟩; have HB := Lib.hid (Below.next HB.out hb); clear hb)) | (go_at_call 18; ((with_reducible refine (HOT.out _).mono ?_); rintro e wn ⟨rfl, hb⟩; have HB := Lib.hid (Below.next HB.out hb); clear hb)) | fail)
          go_ret
          exact ⟨rfl, HB.out⟩
      · have HOM := Lib.hid (fun w => open_no hzl hzm m v (fun h => hmn h.1) w)
        have emn : ((m : Int) == n) = false := by rw [beq_eq_false_iff_ne]; omega
        by_cases htv : v.data.toList = t.data.toList
        · have HOT := Lib.hid (fun w => open_yes hzl hzm n t ⟨rfl, htv⟩ w)
          have etv : (t.toList == v.toList) = true := by rw [raw_eq, htv]; simp
          clear hmn htv hzl hzm hZ0
          go_wp2_with (first | (go_at_call 23; ((with_reducible refine (HSE.out _).mono ?_); rintro e wn ⟨rfl, hb⟩; have HB := Lib.hid (Below.next HB.out hb); clear hb)) | (go_at_call 18; ((with_reducible refine (HOA.out _).mono ?_); rintro e wn ⟨rfl, hb⟩; have HB := Lib.hid (Below.next HB.out hb); clear hb)) | (go_at_call 18; ((with_reducible refine (HOM.out _).mono ?_); rintro e wn ⟨rfl, hb⟩; have HB := Lib.hid (Below.next HB.out hb); clear hb)) | (go_at_call 18; ((with_reducible refine (HOT.out _).mono ?_); rintro e wn ⟨rfl, hb⟩; have HB := Lib.hid (Below.next HB.out hb); clear hb)) | fail)
          go_ret
          exact ⟨rfl, HB.out⟩
        · have HOT := Lib.hid (fun w => open_no hzl hzm n t (fun h => htv h.2) w)
          have etv : (t.toList == v.toList) = false := by rw [raw_eq, beq_eq_false_iff_ne]; exact fun h => htv h.symm
          clear hmn htv hzl hzm hZ0
          go_wp2_with (first | (go_at_call 23; ((with_reducible refine (HSE.out _).mono ?_); rintro e wn ⟨rfl, hb⟩; have HB := Lib.hid (Below.next HB.out hb); clear hb)) | (go_at_call 18; ((with_reducible refine (HOA.out _).mono ?_); rintro e wn ⟨rfl, hb⟩; have HB := Lib.hid (Below.next HB.out hb); clear hb)) | (go_at_call 18; ((with_reducible refine (HOM.out _).mono ?_); rintro e wn ⟨rfl, hb⟩; have HB := Lib.hid (Below.next HB.out hb); clear hb)) | (go_at_call 18; ((with_reducible refine (HOT.out _).mono ?_); rintro e wn ⟨rfl, hb⟩; have HB := Lib.hid (Below.next HB.out hb); clear hb)) | fail)
          go_ret
          exact ⟨rfl, HB.out⟩
theorem termopens_walk (t key y v : ByteArray) (n m : Nat) (hn : n ≤ top) (ht : t.size ≤ maxLen) (hk : key.size ≤ maxLen) (hu : y.size ≤ maxLen) (hv : v.size ≤ maxLen) (w : World) : Calls Try.prog 5 #[.string t, .string key, .string y, .string v, .int .u64 n, .int .u64 m] w fun e w' => e = .returned (.bool true) ∧ Below w.heap.size w w' := by
  unfold maxLen at ht hk hu hv
  by_cases h1 : 1000 < t.size
  · have h1i : (1000 : Int) < t.size := by omega
    go_enter Try.func5, Try.ntmps5
    go_wp2_with (first | (go_at_call 7; ((with_reducible refine (aw2 _).mono ?_); rintro e w1 ⟨rfl, hb⟩; have HB := Lib.hid hb; clear hb)) | fail)
    go_ret
    exact ⟨rfl, HB.out⟩
  have h1i : (t.size : Int) ≤ 1000 := by omega
  by_cases h2 : 1000 < key.size
  · have h2i : (1000 : Int) < key.size := by omega
    go_enter Try.func5, Try.ntmps5
    go_wp2_with (first | (go_at_call 7; ((with_reducible refine (aw2 _).mono ?_); rintro e w1 ⟨rfl, hb⟩; have HB := Lib.hid hb; clear hb)) | fail)
    go_ret
    exact ⟨rfl, HB.out⟩
  have h2i : (key.size : Int) ≤ 1000 := by omega
  by_cases h3 : 1000 < y.size
  · have h3i : (1000 : Int) < y.size := by omega
    go_enter Try.func5, Try.ntmps5
    go_wp2_with (first | (go_at_call 7; ((with_reducible refine (aw2 _).mono ?_); rintro e w1 ⟨rfl, hb⟩; have HB := Lib.hid hb; clear hb)) | fail)
    go_ret
    exact ⟨rfl, HB.out⟩
  have h3i : (y.size : Int) ≤ 1000 := by omega
  by_cases h4 : 1000 < v.size
  · have h4i : (1000 : Int) < v.size := by omega
    go_enter Try.func5, Try.ntmps5
    go_wp2_with (first | (go_at_call 7; ((with_reducible refine (aw2 _).mono ?_); rintro e w1 ⟨rfl, hb⟩; have HB := Lib.hid hb; clear hb)) | fail)
    go_ret
    exact ⟨rfl, HB.out⟩
  exact opens_main t key y v n m hn (by omega) (by omega) (by omega) (by omega) w
end Go.Proofs.Ytelfcdfbhnkakaa
