import Derived.Test.YtbaceiohcbhpaaaDoorAddrLaw3
import Derived.Test.YtbaceiohcbhpaaaDoorAddrP10
namespace Go.Proofs.YtbaceiohcbhpaaaDoor
set_option linter.unusedVariables false
set_option linter.unusedSimpArgs false
set_option maxRecDepth 100000
open Go.RowKit

theorem nil_facts4 : (strB []).toList.isEmpty = true ∧ ((strB []).toList == []) = true := by
  rw [toList_eq]; exact ⟨rfl, rfl⟩
theorem str_nil4 {T : List UInt8} (h : T ≠ []) : (strB T).toList.isEmpty = false ∧ ((strB T).toList == []) = false := by
  rw [toList_eq]
  show T.isEmpty = false ∧ (T == []) = false
  cases T with
  | nil => exact absurd rfl h
  | cons c r => exact ⟨rfl, rfl⟩
theorem aprint_v (a : List UInt8) (ad : Option Addr) (cp : Nat) (hac : a.length ≤ cp) (hcm : cp ≤ maxLen) (hal : a.length ≤ 1000) {x : List UInt8 × Int} (hx : printC a = x) (w : World) (ha : Bytes w (.slice ad a.length cp) a) :
    Calls Tryd.prog 12 #[.slice ad a.length cp] w fun e w' => e = .returned (.tuple #[.string (strB x.1), .int .i64 x.2]) ∧ Below w.heap.size w w' := by
  subst hx; exact aprint_any a ad cp w ha hac hcm hal
theorem app_v (a : List UInt8) (ad : Option Addr) (cp : Nat) (m : Int) (hac : a.length ≤ cp) (hcm : cp ≤ maxLen) (hal : a.length ≤ 1000) {x : List UInt8 × Int} (hx : printPC a m = x) (w : World) (ha : Bytes w (.slice ad a.length cp) a) :
    Calls Tryd.prog 13 #[.agg #[.slice ad a.length cp, .int .i64 m]] w fun e w' => e = .returned (.tuple #[.string (strB x.1), .int .i64 x.2]) ∧ Below w.heap.size w w' := by
  subst hx; exact app_any a ad cp m w ha hac hcm hal
theorem aread_v (S : List UInt8) (hs : S.length ≤ 100000) {a : List UInt8} (h : refRead S = some a) (n : Nat) (hn : a.length = n) (w : World) : Calls Tryd.prog 6 #[.string (strB S)] w fun e w' =>
    ∃ qd qc, e = .returned (.tuple #[.slice qd n qc, .int .i64 0]) ∧ Bytes w' (.slice qd n qc) a ∧ Below w.heap.size w w' := by
  subst hn
  have h2 := aread_any (strB S) (by rw [strB_size]; omega) w
  unfold ReadRet readC at h2
  rw [show (strB S).data.toList = S from rfl, h] at h2
  refine h2.mono ?_
  rintro e w' ⟨ad, cp, rfl, h3, _, _, h5⟩
  exact ⟨ad, cp, rfl, h3, h5⟩
theorem areadp_v (S : List UInt8) (hs : S.length ≤ 100000) {a : List UInt8} {m : Nat} (h : refReadP S = some (a, m)) (n : Nat) (hn : a.length = n) (w : World) : Calls Tryd.prog 8 #[.string (strB S)] w fun e w' =>
    ∃ qd qc, e = .returned (.tuple #[.agg #[.slice qd n qc, .int .i64 m], .int .i64 0]) ∧ Bytes w' (.slice qd n qc) a ∧ Below w.heap.size w w' := by
  subst hn
  have h2 := areadp_any (strB S) (by rw [strB_size]; omega) w
  unfold ReadPRet readPC at h2
  rw [show (strB S).data.toList = S from rfl, h] at h2
  refine h2.mono ?_
  rintro e w' ⟨ad, cp, rfl, h3, _, _, h5⟩
  exact ⟨ad, cp, rfl, h3, h5⟩
theorem same4_v (a b : List UInt8) (ad bd : Option Addr) (n : Nat) (ha1 : a.length = n) (hb1 : b.length = n) (cp cq : Nat) (m : Int) {r : Bool} (hr : (a == b) = r) (w : World) (ha : Bytes w (.slice ad n cp) a) (hb : Bytes w (.slice bd n cq) b) :
    Calls Tryd.prog 11 #[.agg #[.slice ad n cp, .int .i64 m], .agg #[.slice bd n cq, .int .i64 m]] w fun e w' => e = .returned (.bool r) ∧ Below w.heap.size w w' := by
  subst hr
  subst ha1
  have h := rsame4_any a b ad bd cp cq m m w ha (by rw [hb1]; exact hb)
  rw [hb1] at h
  have e : ((m == m) && (a == b)) = (a == b) := by simp
  rw [e] at h; exact h
theorem same1_v (l : List UInt8) (va vb : Value) (w : World) (ha : Bytes w va l) (hb : Bytes w vb l) : Calls Tryd.prog 10 #[va, vb] w fun e w' => e = .returned (.bool true) ∧ w = w' := same_c va vb l l true (by simp) w ha hb

set_option maxHeartbeats 8000000 in
theorem addrprints_walk (a : List UInt8) (ad : Option Addr) (cp : Nat) (m : Int) (w : World) (ha : Bytes w (.slice ad a.length cp) a) (hac : a.length ≤ cp) (hcm : cp ≤ maxLen) :
    Calls Tryd.prog 4 #[.agg #[.slice ad a.length cp, .int .i64 m]] w fun e w' => e = .returned (.bool true) ∧ Below w.heap.size w w' := by
  have hac2 : (a.length : Int) ≤ 9223372036854775807 := by unfold maxLen at hcm; omega
  have e0 := heap_alloc_new w (.cells #[.slice ad a.length cp, .int .i64 m] 30)
  have c0 : (w.alloc (.cells #[.slice ad a.length cp, .int .i64 m] 30)).cell? ⟨w.heap.size, 0, none⟩ = some (.slice ad a.length cp) := cell_of e0 0 rfl
  have c1 : (w.alloc (.cells #[.slice ad a.length cp, .int .i64 m] 30)).cell? ⟨w.heap.size, 1, none⟩ = some (.int .i64 m) := cell_of e0 1 rfl
  have HB : Hid (Below w.heap.size w (w.alloc (.cells #[.slice ad a.length cp, .int .i64 m] 30))) := Lib.hid (below_one _)
  have HVA := Lib.hid ha
  clear e0 ha
  obtain ⟨n1, n2⟩ := nil_facts4
  by_cases h1 : 40 < a.length
  · have h1i : (40 : Int) < a.length := by omega
    go_enter Tryd.func4, Tryd.ntmps4
    go_wp2_with (first | (go_at_call 5; ((with_reducible refine (awake4 _).mono ?_); rintro e wn ⟨rfl, hb⟩; have c0 := cell_keep4 c0 hb; have c1 := cell_keep4 c1 hb; have HB := Lib.hid (Below.next HB.out hb); clear hb)) | (go_at_call 12; ((with_reducible refine (HPR.out _ (HVA.out.below HB.out)).mono ?_); rintro e wn ⟨rfl, hb⟩; have c0 := cell_keep4 c0 hb; have c1 := cell_keep4 c1 hb; have HB := Lib.hid (Below.next HB.out hb); clear hb)) | (go_at_call 13; ((with_reducible refine (HPP.out _ (HVA.out.below HB.out)).mono ?_); rintro e wn ⟨rfl, hb⟩; have c0 := cell_keep4 c0 hb; have c1 := cell_keep4 c1 hb; have HB := Lib.hid (Below.next HB.out hb); clear hb)) | (go_at_call 6; ((with_reducible refine (HRD.out _).mono ?_); rintro e wn ⟨qd, qc, rfl, hvq, hb⟩; have HVQ := Lib.hid hvq; clear hvq; have c0 := cell_keep4 c0 hb; have c1 := cell_keep4 c1 hb; have HB := Lib.hid (Below.next HB.out hb); clear hb)) | (go_at_call 14; ((with_reducible refine (HRPR.out _ (HVA.out.below HB.out)).mono ?_); rintro e wn ⟨rfl, hb⟩; have HVQ := Lib.hid (Bytes.below HVQ.out hb); have c0 := cell_keep4 c0 hb; have c1 := cell_keep4 c1 hb; have HB := Lib.hid (Below.next HB.out hb); clear hb)) | (go_at_call 10; ((with_reducible refine (same1_v a _ _ _ HVQ.out (HVA.out.below HB.out)).mono ?_); rintro e wm ⟨rfl, rfl⟩)) | fail)
    go_ret
    exact ⟨rfl, HB.out⟩
  have h1i : (a.length : Int) ≤ 40 := by omega
  by_cases hn : a.length = 4 ∨ a.length = 16
  · have hpc : printC a = (printA a, 0) := by unfold printC; rw [if_pos hn]
    have HPR := Lib.hid (aprint_v a ad cp hac hcm (by omega) hpc)
    have hPl := printA_len a (by omega)
    have HRD := Lib.hid (aread_v (printA a) (by omega) (refRead_print hn) a.length rfl)
    have HRPR := Lib.hid (fun w h => rprintA_any ad cp a w h hac hcm (by omega))
    have hss : ((strB (printA a)).toList == (strB (printA a)).toList) = true := by simp
    have hn4 : (((a.length : Int) != 4) = false) ∨ (((a.length : Int) != 4) = true ∧ ((a.length : Int) != 16) = false) := by
      rcases hn with h | h
      · left; exact bneq_i (by omega)
      · right; exact ⟨bnne_i (by omega), bneq_i (by omega)⟩
    cases hr : rightP a.length m with
    | false =>
      have hpp : printPC a m = ([], 3) := by unfold printPC; rw [if_neg (by simp [hr])]
      have HPP := Lib.hid (app_v a ad cp m hac hcm (by omega) hpp)
      have HRR := Lib.hid (rright_v ad a.length cp m (by omega) false hr)
      have HRPL : Hid True := Lib.hid trivial
      clear hr hpc hpp hac hcm hac2 hn hPl
      generalize printA a = P at *
      rcases hn4 with e4 | ⟨e4, e16⟩
      all_goals
        go_enter Tryd.func4, Tryd.ntmps4
        go_wp2_with (first | (go_at_call 5; ((with_reducible refine (awake4 _).mono ?_); rintro e wn ⟨rfl, hb⟩; have c0 := cell_keep4 c0 hb; have c1 := cell_keep4 c1 hb; have HB := Lib.hid (Below.next HB.out hb); clear hb)) | (go_at_call 12; ((with_reducible refine (HPR.out _ (HVA.out.below HB.out)).mono ?_); rintro e wn ⟨rfl, hb⟩; have c0 := cell_keep4 c0 hb; have c1 := cell_keep4 c1 hb; have HB := Lib.hid (Below.next HB.out hb); clear hb)) | (go_at_call 13; ((with_reducible refine (HPP.out _ (HVA.out.below HB.out)).mono ?_); rintro e wn ⟨rfl, hb⟩; have c0 := cell_keep4 c0 hb; have c1 := cell_keep4 c1 hb; have HB := Lib.hid (Below.next HB.out hb); clear hb)) | (go_at_call 6; ((with_reducible refine (HRD.out _).mono ?_); rintro e wn ⟨qd, qc, rfl, hvq, hb⟩; have HVQ := Lib.hid hvq; clear hvq; have c0 := cell_keep4 c0 hb; have c1 := cell_keep4 c1 hb; have HB := Lib.hid (Below.next HB.out hb); clear hb)) | (go_at_call 14; ((with_reducible refine (HRPR.out _ (HVA.out.below HB.out)).mono ?_); rintro e wn ⟨rfl, hb⟩; have HVQ := Lib.hid (Bytes.below HVQ.out hb); have c0 := cell_keep4 c0 hb; have c1 := cell_keep4 c1 hb; have HB := Lib.hid (Below.next HB.out hb); clear hb)) | (go_at_call 10; ((with_reducible refine (same1_v a _ _ _ HVQ.out (HVA.out.below HB.out)).mono ?_); rintro e wm ⟨rfl, rfl⟩)) | fail)
        have HB : Hid (Below w.heap.size w wn.drew) := Lib.hid HB.out.drew
        have c0 : wn.drew.cell? ⟨w.heap.size, 0, none⟩ = some (.slice ad a.length cp) := c0
        have c1 : wn.drew.cell? ⟨w.heap.size, 1, none⟩ = some (.int .i64 m) := c1
        refine wp_region_held_drew (S := (fun W => W.cell? ⟨w.heap.size, 0, none⟩ = some (.slice ad a.length cp) ∧ W.cell? ⟨w.heap.size, 1, none⟩ = some (.int .i64 m))) (by kernel_rfl) ?_ (fun hHeld0 => ?_)
        · (try dsimp only); exact ⟨c0, c1⟩
        first
        | (refine wpAnyH_take (i := 0) (oi := { dst := some 77, op := Go.Op.load 30 (Go.Operand.tmp 1), type := 30, pos := "law.go:86", after := #[], guard := none }) (v := ?_) rfl (by kernel_rfl) (by kernel_rfl) (by kernel_rfl) (fun _ _ _ h => h) (Or.inl ⟨by rfl, ?_⟩) hHeld0 ?_
           rotate_left
           · ((intro w hSw; (try dsimp only at hSw); go_simp) <;> (first | with_reducible rfl | (rw [if_neg (by omega)]; done))))
        | (refine wpAnyH_take (i := 0) (oi := { dst := some 77, op := Go.Op.load 30 (Go.Operand.tmp 1), type := 30, pos := "law.go:86", after := #[], guard := none }) (v := undef) rfl (by kernel_rfl) (by kernel_rfl) (by kernel_rfl) (fun _ _ _ h => h) (Or.inr ⟨by rfl, rfl⟩) hHeld0 ?_)
        try simp only [Act.put, List.setIfInBounds_toArray, List.set_cons_zero, List.set_cons_succ]
        refine wpAnyH_ready (rs := [1]) (by kernel_rfl) (by simp) ?_
        refine AllReadyH.cons (o := { dst := some 78, op := Go.Op.call { callee := Go.Callee.value (Go.Operand.func 15), args := #[Go.Operand.tmp 77], argTypes := #[30] }, type := 4, pos := "law.go:86", after := #[{ on := 0, ground := Go.Ground.data }], guard := none }) rfl (fun Kr1 hK => ?_) AllReadyH.nil
        go_simp
        ((go_at_call 15; (with_reducible refine (HRR.out _).mono ?_); rintro e wn ⟨rfl, hb⟩))
        refine hK.out _ _ ?_ (fun hHeld1 => ?_)
        · (try dsimp only); exact ⟨cell_keep4 hHeld0.1 hb, cell_keep4 hHeld0.2 hb⟩
        have HB := Lib.hid (Below.next HB.out hb)
        clear hb
        clear hK Kr1 hHeld0
        try simp only [Act.put, List.setIfInBounds_toArray, List.set_cons_zero, List.set_cons_succ]
        first
        | (refine wpAnyH_take (i := 2) (oi := { dst := some 79, op := Go.Op.unOp Go.UnOp.not 4 (Go.Operand.tmp 78), type := 4, pos := "law.go:86", after := #[{ on := 1, ground := Go.Ground.data }], guard := none }) (v := ?_) rfl (by kernel_rfl) (by kernel_rfl) (by kernel_rfl) (fun _ _ _ h => h) (Or.inl ⟨by rfl, ?_⟩) hHeld1 ?_
           rotate_left
           · ((intro w hSw; (try dsimp only at hSw); go_simp) <;> (first | with_reducible rfl | (rw [if_neg (by omega)]; done))))
        | (refine wpAnyH_take (i := 2) (oi := { dst := some 79, op := Go.Op.unOp Go.UnOp.not 4 (Go.Operand.tmp 78), type := 4, pos := "law.go:86", after := #[{ on := 1, ground := Go.Ground.data }], guard := none }) (v := undef) rfl (by kernel_rfl) (by kernel_rfl) (by kernel_rfl) (fun _ _ _ h => h) (Or.inr ⟨by rfl, rfl⟩) hHeld1 ?_)
        try simp only [Act.put, List.setIfInBounds_toArray, List.set_cons_zero, List.set_cons_succ]
        first
        | (refine wpAnyH_take (i := 3) (oi := { dst := some 80, op := Go.Op.move (Go.Operand.tmp 79), type := 4, pos := "law.go:86", after := #[{ on := 2, ground := Go.Ground.data }, { on := 1, ground := Go.Ground.chain }], guard := none }) (v := ?_) rfl (by kernel_rfl) (by kernel_rfl) (by kernel_rfl) (fun _ _ _ h => h) (Or.inl ⟨by rfl, ?_⟩) hHeld1 ?_
           rotate_left
           · ((intro w hSw; (try dsimp only at hSw); go_simp) <;> (first | with_reducible rfl | (rw [if_neg (by omega)]; done))))
        | (refine wpAnyH_take (i := 3) (oi := { dst := some 80, op := Go.Op.move (Go.Operand.tmp 79), type := 4, pos := "law.go:86", after := #[{ on := 2, ground := Go.Ground.data }, { on := 1, ground := Go.Ground.chain }], guard := none }) (v := undef) rfl (by kernel_rfl) (by kernel_rfl) (by kernel_rfl) (fun _ _ _ h => h) (Or.inr ⟨by rfl, rfl⟩) hHeld1 ?_)
        try simp only [Act.put, List.setIfInBounds_toArray, List.set_cons_zero, List.set_cons_succ]
        first
        | (refine wpAnyH_take (i := 4) (oi := { dst := some 81, op := Go.Op.load 30 (Go.Operand.tmp 1), type := 30, pos := "law.go:86", after := #[{ on := 3, ground := Go.Ground.guard }], guard := some (3, false) }) (v := ?_) rfl (by kernel_rfl) (by kernel_rfl) (by kernel_rfl) (fun _ _ _ h => h) (Or.inl ⟨by rfl, ?_⟩) hHeld1 ?_
           rotate_left
           · ((intro w hSw; (try dsimp only at hSw); go_simp) <;> (first | with_reducible rfl | (rw [if_neg (by omega)]; done))))
        | (refine wpAnyH_take (i := 4) (oi := { dst := some 81, op := Go.Op.load 30 (Go.Operand.tmp 1), type := 30, pos := "law.go:86", after := #[{ on := 3, ground := Go.Ground.guard }], guard := some (3, false) }) (v := undef) rfl (by kernel_rfl) (by kernel_rfl) (by kernel_rfl) (fun _ _ _ h => h) (Or.inr ⟨by rfl, rfl⟩) hHeld1 ?_)
        try simp only [Act.put, List.setIfInBounds_toArray, List.set_cons_zero, List.set_cons_succ]
        first
        | (refine wpAnyH_take (i := 6) (oi := { dst := some 83, op := Go.Op.load 30 (Go.Operand.tmp 1), type := 30, pos := "law.go:86", after := #[{ on := 3, ground := Go.Ground.guard }], guard := some (3, false) }) (v := ?_) rfl (by kernel_rfl) (by kernel_rfl) (by kernel_rfl) (fun _ _ _ h => h) (Or.inl ⟨by rfl, ?_⟩) hHeld1 ?_
           rotate_left
           · ((intro w hSw; (try dsimp only at hSw); go_simp) <;> (first | with_reducible rfl | (rw [if_neg (by omega)]; done))))
        | (refine wpAnyH_take (i := 6) (oi := { dst := some 83, op := Go.Op.load 30 (Go.Operand.tmp 1), type := 30, pos := "law.go:86", after := #[{ on := 3, ground := Go.Ground.guard }], guard := some (3, false) }) (v := undef) rfl (by kernel_rfl) (by kernel_rfl) (by kernel_rfl) (fun _ _ _ h => h) (Or.inr ⟨by rfl, rfl⟩) hHeld1 ?_)
        try simp only [Act.put, List.setIfInBounds_toArray, List.set_cons_zero, List.set_cons_succ]
        refine wpAnyH_take (i := 5) (oi := { dst := some 82, op := Go.Op.call { callee := Go.Callee.value (Go.Operand.func 16), args := #[Go.Operand.tmp 81], argTypes := #[30] }, type := 30, pos := "law.go:86", after := #[{ on := 4, ground := Go.Ground.data }, { on := 3, ground := Go.Ground.chain }, { on := 3, ground := Go.Ground.guard }], guard := some (3, false) }) (v := undef) rfl (by kernel_rfl) (by kernel_rfl) (by kernel_rfl) (fun _ _ _ h => h) (Or.inr ⟨by rfl, rfl⟩) hHeld1 ?_
        try simp only [Act.put, List.setIfInBounds_toArray, List.set_cons_zero, List.set_cons_succ]
        refine wpAnyH_take (i := 7) (oi := { dst := some 84, op := Go.Op.call { callee := Go.Callee.value (Go.Operand.func 11), args := #[Go.Operand.tmp 82, Go.Operand.tmp 83], argTypes := #[30, 30] }, type := 4, pos := "law.go:86", after := #[{ on := 5, ground := Go.Ground.data }, { on := 6, ground := Go.Ground.data }, { on := 5, ground := Go.Ground.chain }, { on := 3, ground := Go.Ground.guard }], guard := some (3, false) }) (v := undef) rfl (by kernel_rfl) (by kernel_rfl) (by kernel_rfl) (fun _ _ _ h => h) (Or.inr ⟨by rfl, rfl⟩) hHeld1 ?_
        try simp only [Act.put, List.setIfInBounds_toArray, List.set_cons_zero, List.set_cons_succ]
        first
        | (refine wpAnyH_take (i := 8) (oi := { dst := some 85, op := Go.Op.unOp Go.UnOp.not 4 (Go.Operand.tmp 84), type := 4, pos := "law.go:86", after := #[{ on := 7, ground := Go.Ground.data }, { on := 3, ground := Go.Ground.guard }], guard := some (3, false) }) (v := ?_) rfl (by kernel_rfl) (by kernel_rfl) (by kernel_rfl) (fun _ _ _ h => h) (Or.inl ⟨by rfl, ?_⟩) hHeld1 ?_
           rotate_left
           · ((intro w hSw; (try dsimp only at hSw); go_simp) <;> (first | with_reducible rfl | (rw [if_neg (by omega)]; done))))
        | (refine wpAnyH_take (i := 8) (oi := { dst := some 85, op := Go.Op.unOp Go.UnOp.not 4 (Go.Operand.tmp 84), type := 4, pos := "law.go:86", after := #[{ on := 7, ground := Go.Ground.data }, { on := 3, ground := Go.Ground.guard }], guard := some (3, false) }) (v := undef) rfl (by kernel_rfl) (by kernel_rfl) (by kernel_rfl) (fun _ _ _ h => h) (Or.inr ⟨by rfl, rfl⟩) hHeld1 ?_)
        try simp only [Act.put, List.setIfInBounds_toArray, List.set_cons_zero, List.set_cons_succ]
        first
        | (refine wpAnyH_take (i := 9) (oi := { dst := some 86, op := Go.Op.pick (Go.Operand.tmp 80) (Go.Operand.const (Go.Value.bool true)) (Go.Operand.tmp 85), type := 4, pos := "law.go:86", after := #[{ on := 3, ground := Go.Ground.data }, { on := 8, ground := Go.Ground.data }], guard := none }) (v := ?_) rfl (by kernel_rfl) (by kernel_rfl) (by kernel_rfl) (fun _ _ _ h => h) (Or.inl ⟨by rfl, ?_⟩) hHeld1 ?_
           rotate_left
           · ((intro w hSw; (try dsimp only at hSw); go_simp) <;> (first | with_reducible rfl | (rw [if_neg (by omega)]; done))))
        | (refine wpAnyH_take (i := 9) (oi := { dst := some 86, op := Go.Op.pick (Go.Operand.tmp 80) (Go.Operand.const (Go.Value.bool true)) (Go.Operand.tmp 85), type := 4, pos := "law.go:86", after := #[{ on := 3, ground := Go.Ground.data }, { on := 8, ground := Go.Ground.data }], guard := none }) (v := undef) rfl (by kernel_rfl) (by kernel_rfl) (by kernel_rfl) (fun _ _ _ h => h) (Or.inr ⟨by rfl, rfl⟩) hHeld1 ?_)
        try simp only [Act.put, List.setIfInBounds_toArray, List.set_cons_zero, List.set_cons_succ]
        refine wpAnyH_done (by kernel_rfl) ?_ _
        clear hHeld1
        go_wp2_with fail
        go_ret
        exact ⟨rfl, HB.out⟩
    | true =>
      obtain ⟨k, rfl⟩ : ∃ k : Nat, m = k := ⟨m.toNat, by have := (right_len hr).2.1; omega⟩
      have hk : k ≤ 128 := by have := right_len hr; omega
      have HRR := Lib.hid (rright_v ad a.length cp k (by omega) true hr)
      have HRPL := Lib.hid (fun w h => rplain_y a ad cp k (by omega) hr w h)
      simp only [Int.toNat_natCast] at HRPL
      by_cases hpa : plainS a k = a
      · have hpp : printPC a k = (printA a ++ 47 :: decs k, 0) := by unfold printPC; rw [if_pos ⟨hr, by simpa using hpa⟩, Int.toNat_natCast]
        have HPP := Lib.hid (app_v a ad cp k hac hcm (by omega) hpp)
        have hdk := decs_top k (by unfold top; omega)
        have HRDP := Lib.hid (areadp_v (printA a ++ 47 :: decs k) (by simp; omega) (refReadP_print hr hpa) a.length rfl)
        have HRPP := Lib.hid (fun w h => rpp_any a ad cp k w h hac hcm (by omega) (by omega))
        have HSM : Hid (∀ sd sc w, Bytes w (.slice sd a.length sc) (plainS a k) → Bytes w (.slice ad a.length cp) a → Calls Tryd.prog 11 #[.agg #[.slice sd a.length sc, .int .i64 k], .agg #[.slice ad a.length cp, .int .i64 k]] w fun e w' => e = .returned (.bool true) ∧ Below w.heap.size w w') :=
          Lib.hid (fun sd sc w h1 h2 => same4_v (plainS a k) a sd ad a.length (plainS_len a k) rfl sc cp k (by rw [hpa]; simp) w h1 h2)
        have HSQ : Hid (∀ qd qc w, Bytes w (.slice qd a.length qc) a → Bytes w (.slice ad a.length cp) a → Calls Tryd.prog 11 #[.agg #[.slice qd a.length qc, .int .i64 k], .agg #[.slice ad a.length cp, .int .i64 k]] w fun e w' => e = .returned (.bool true) ∧ Below w.heap.size w w') :=
          Lib.hid (fun sd sc w h1 h2 => same4_v a a sd ad a.length rfl rfl sc cp k (by simp) w h1 h2)
        have hTne : printA a ++ 47 :: decs k ≠ [] := by simp
        obtain ⟨t1, t2⟩ := str_nil4 hTne
        have htt : ((strB (printA a ++ 47 :: decs k)).toList == (strB (printA a ++ 47 :: decs k)).toList) = true := by simp
        clear hr hpc hpp hac hcm hac2 hn hPl hdk hpa hTne
        generalize printA a ++ 47 :: decs k = T at *
        generalize printA a = P at *
        rcases hn4 with e4 | ⟨e4, e16⟩
        all_goals
          go_enter Tryd.func4, Tryd.ntmps4
          go_wp2_with (first | (go_at_call 5; ((with_reducible refine (awake4 _).mono ?_); rintro e wn ⟨rfl, hb⟩; have c0 := cell_keep4 c0 hb; have c1 := cell_keep4 c1 hb; have HB := Lib.hid (Below.next HB.out hb); clear hb)) | (go_at_call 12; ((with_reducible refine (HPR.out _ (HVA.out.below HB.out)).mono ?_); rintro e wn ⟨rfl, hb⟩; have c0 := cell_keep4 c0 hb; have c1 := cell_keep4 c1 hb; have HB := Lib.hid (Below.next HB.out hb); clear hb)) | (go_at_call 13; ((with_reducible refine (HPP.out _ (HVA.out.below HB.out)).mono ?_); rintro e wn ⟨rfl, hb⟩; have c0 := cell_keep4 c0 hb; have c1 := cell_keep4 c1 hb; have HB := Lib.hid (Below.next HB.out hb); clear hb)) | (go_at_call 6; ((with_reducible refine (HRD.out _).mono ?_); rintro e wn ⟨qd, qc, rfl, hvq, hb⟩; have HVQ := Lib.hid hvq; clear hvq; have c0 := cell_keep4 c0 hb; have c1 := cell_keep4 c1 hb; have HB := Lib.hid (Below.next HB.out hb); clear hb)) | (go_at_call 14; ((with_reducible refine (HRPR.out _ (HVA.out.below HB.out)).mono ?_); rintro e wn ⟨rfl, hb⟩; have HVQ := Lib.hid (Bytes.below HVQ.out hb); have c0 := cell_keep4 c0 hb; have c1 := cell_keep4 c1 hb; have HB := Lib.hid (Below.next HB.out hb); clear hb)) | (go_at_call 10; ((with_reducible refine (same1_v a _ _ _ HVQ.out (HVA.out.below HB.out)).mono ?_); rintro e wm ⟨rfl, rfl⟩)) | fail)
          have HB : Hid (Below w.heap.size w wn.drew) := Lib.hid HB.out.drew
          have c0 : wn.drew.cell? ⟨w.heap.size, 0, none⟩ = some (.slice ad a.length cp) := c0
          have c1 : wn.drew.cell? ⟨w.heap.size, 1, none⟩ = some (.int .i64 k) := c1
          refine wp_region_held_drew (S := (fun W => W.cell? ⟨w.heap.size, 0, none⟩ = some (.slice ad a.length cp) ∧ W.cell? ⟨w.heap.size, 1, none⟩ = some (.int .i64 k))) (by kernel_rfl) ?_ (fun hHeld0 => ?_)
          · (try dsimp only); exact ⟨c0, c1⟩
          first
          | (refine wpAnyH_take (i := 0) (oi := { dst := some 77, op := Go.Op.load 30 (Go.Operand.tmp 1), type := 30, pos := "law.go:86", after := #[], guard := none }) (v := ?_) rfl (by kernel_rfl) (by kernel_rfl) (by kernel_rfl) (fun _ _ _ h => h) (Or.inl ⟨by rfl, ?_⟩) hHeld0 ?_
             rotate_left
             · ((intro w hSw; (try dsimp only at hSw); go_simp) <;> (first | with_reducible rfl | (rw [if_neg (by omega)]; done))))
          | (refine wpAnyH_take (i := 0) (oi := { dst := some 77, op := Go.Op.load 30 (Go.Operand.tmp 1), type := 30, pos := "law.go:86", after := #[], guard := none }) (v := undef) rfl (by kernel_rfl) (by kernel_rfl) (by kernel_rfl) (fun _ _ _ h => h) (Or.inr ⟨by rfl, rfl⟩) hHeld0 ?_)
          try simp only [Act.put, List.setIfInBounds_toArray, List.set_cons_zero, List.set_cons_succ]
          refine wpAnyH_ready (rs := [1]) (by kernel_rfl) (by simp) ?_
          refine AllReadyH.cons (o := { dst := some 78, op := Go.Op.call { callee := Go.Callee.value (Go.Operand.func 15), args := #[Go.Operand.tmp 77], argTypes := #[30] }, type := 4, pos := "law.go:86", after := #[{ on := 0, ground := Go.Ground.data }], guard := none }) rfl (fun Kr1 hK => ?_) AllReadyH.nil
          go_simp
          ((go_at_call 15; (with_reducible refine (HRR.out _).mono ?_); rintro e wn ⟨rfl, hb⟩))
          refine hK.out _ _ ?_ (fun hHeld1 => ?_)
          · (try dsimp only); exact ⟨cell_keep4 hHeld0.1 hb, cell_keep4 hHeld0.2 hb⟩
          have HB := Lib.hid (Below.next HB.out hb)
          clear hb
          clear hK Kr1 hHeld0
          try simp only [Act.put, List.setIfInBounds_toArray, List.set_cons_zero, List.set_cons_succ]
          first
          | (refine wpAnyH_take (i := 2) (oi := { dst := some 79, op := Go.Op.unOp Go.UnOp.not 4 (Go.Operand.tmp 78), type := 4, pos := "law.go:86", after := #[{ on := 1, ground := Go.Ground.data }], guard := none }) (v := ?_) rfl (by kernel_rfl) (by kernel_rfl) (by kernel_rfl) (fun _ _ _ h => h) (Or.inl ⟨by rfl, ?_⟩) hHeld1 ?_
             rotate_left
             · ((intro w hSw; (try dsimp only at hSw); go_simp) <;> (first | with_reducible rfl | (rw [if_neg (by omega)]; done))))
          | (refine wpAnyH_take (i := 2) (oi := { dst := some 79, op := Go.Op.unOp Go.UnOp.not 4 (Go.Operand.tmp 78), type := 4, pos := "law.go:86", after := #[{ on := 1, ground := Go.Ground.data }], guard := none }) (v := undef) rfl (by kernel_rfl) (by kernel_rfl) (by kernel_rfl) (fun _ _ _ h => h) (Or.inr ⟨by rfl, rfl⟩) hHeld1 ?_)
          try simp only [Act.put, List.setIfInBounds_toArray, List.set_cons_zero, List.set_cons_succ]
          first
          | (refine wpAnyH_take (i := 3) (oi := { dst := some 80, op := Go.Op.move (Go.Operand.tmp 79), type := 4, pos := "law.go:86", after := #[{ on := 2, ground := Go.Ground.data }, { on := 1, ground := Go.Ground.chain }], guard := none }) (v := ?_) rfl (by kernel_rfl) (by kernel_rfl) (by kernel_rfl) (fun _ _ _ h => h) (Or.inl ⟨by rfl, ?_⟩) hHeld1 ?_
             rotate_left
             · ((intro w hSw; (try dsimp only at hSw); go_simp) <;> (first | with_reducible rfl | (rw [if_neg (by omega)]; done))))
          | (refine wpAnyH_take (i := 3) (oi := { dst := some 80, op := Go.Op.move (Go.Operand.tmp 79), type := 4, pos := "law.go:86", after := #[{ on := 2, ground := Go.Ground.data }, { on := 1, ground := Go.Ground.chain }], guard := none }) (v := undef) rfl (by kernel_rfl) (by kernel_rfl) (by kernel_rfl) (fun _ _ _ h => h) (Or.inr ⟨by rfl, rfl⟩) hHeld1 ?_)
          try simp only [Act.put, List.setIfInBounds_toArray, List.set_cons_zero, List.set_cons_succ]
          first
          | (refine wpAnyH_take (i := 4) (oi := { dst := some 81, op := Go.Op.load 30 (Go.Operand.tmp 1), type := 30, pos := "law.go:86", after := #[{ on := 3, ground := Go.Ground.guard }], guard := some (3, false) }) (v := ?_) rfl (by kernel_rfl) (by kernel_rfl) (by kernel_rfl) (fun _ _ _ h => h) (Or.inl ⟨by rfl, ?_⟩) hHeld1 ?_
             rotate_left
             · ((intro w hSw; (try dsimp only at hSw); go_simp) <;> (first | with_reducible rfl | (rw [if_neg (by omega)]; done))))
          | (refine wpAnyH_take (i := 4) (oi := { dst := some 81, op := Go.Op.load 30 (Go.Operand.tmp 1), type := 30, pos := "law.go:86", after := #[{ on := 3, ground := Go.Ground.guard }], guard := some (3, false) }) (v := undef) rfl (by kernel_rfl) (by kernel_rfl) (by kernel_rfl) (fun _ _ _ h => h) (Or.inr ⟨by rfl, rfl⟩) hHeld1 ?_)
          try simp only [Act.put, List.setIfInBounds_toArray, List.set_cons_zero, List.set_cons_succ]
          first
          | (refine wpAnyH_take (i := 6) (oi := { dst := some 83, op := Go.Op.load 30 (Go.Operand.tmp 1), type := 30, pos := "law.go:86", after := #[{ on := 3, ground := Go.Ground.guard }], guard := some (3, false) }) (v := ?_) rfl (by kernel_rfl) (by kernel_rfl) (by kernel_rfl) (fun _ _ _ h => h) (Or.inl ⟨by rfl, ?_⟩) hHeld1 ?_
             rotate_left
             · ((intro w hSw; (try dsimp only at hSw); go_simp) <;> (first | with_reducible rfl | (rw [if_neg (by omega)]; done))))
          | (refine wpAnyH_take (i := 6) (oi := { dst := some 83, op := Go.Op.load 30 (Go.Operand.tmp 1), type := 30, pos := "law.go:86", after := #[{ on := 3, ground := Go.Ground.guard }], guard := some (3, false) }) (v := undef) rfl (by kernel_rfl) (by kernel_rfl) (by kernel_rfl) (fun _ _ _ h => h) (Or.inr ⟨by rfl, rfl⟩) hHeld1 ?_)
          try simp only [Act.put, List.setIfInBounds_toArray, List.set_cons_zero, List.set_cons_succ]
          refine wpAnyH_ready (rs := [5]) (by kernel_rfl) (by simp) ?_
          refine AllReadyH.cons (o := { dst := some 82, op := Go.Op.call { callee := Go.Callee.value (Go.Operand.func 16), args := #[Go.Operand.tmp 81], argTypes := #[30] }, type := 30, pos := "law.go:86", after := #[{ on := 4, ground := Go.Ground.data }, { on := 3, ground := Go.Ground.chain }, { on := 3, ground := Go.Ground.guard }], guard := some (3, false) }) rfl (fun Kr5 hK => ?_) AllReadyH.nil
          go_simp
          ((go_at_call 16; (with_reducible refine (HRPL.out _ (HVA.out.below HB.out)).mono ?_); rintro e wn ⟨sd, sc, rfl, hvs, hb⟩; have HVS := Lib.hid hvs; clear hvs))
          refine hK.out _ _ ?_ (fun hHeld2 => ?_)
          · (try dsimp only); exact ⟨cell_keep4 hHeld1.1 hb, cell_keep4 hHeld1.2 hb⟩
          have HB := Lib.hid (Below.next HB.out hb)
          clear hb
          clear hK Kr5 hHeld1
          try simp only [Act.put, List.setIfInBounds_toArray, List.set_cons_zero, List.set_cons_succ]
          refine wpAnyH_ready (rs := [7]) (by kernel_rfl) (by simp) ?_
          refine AllReadyH.cons (o := { dst := some 84, op := Go.Op.call { callee := Go.Callee.value (Go.Operand.func 11), args := #[Go.Operand.tmp 82, Go.Operand.tmp 83], argTypes := #[30, 30] }, type := 4, pos := "law.go:86", after := #[{ on := 5, ground := Go.Ground.data }, { on := 6, ground := Go.Ground.data }, { on := 5, ground := Go.Ground.chain }, { on := 3, ground := Go.Ground.guard }], guard := some (3, false) }) rfl (fun Kr7 hK => ?_) AllReadyH.nil
          go_simp
          ((go_at_call 11; (with_reducible refine (HSM.out sd sc _ HVS.out (HVA.out.below HB.out)).mono ?_); rintro e wn ⟨rfl, hb⟩))
          refine hK.out _ _ ?_ (fun hHeld3 => ?_)
          · (try dsimp only); exact ⟨cell_keep4 hHeld2.1 hb, cell_keep4 hHeld2.2 hb⟩
          have HB := Lib.hid (Below.next HB.out hb)
          have c0 := cell_keep4 hHeld2.1 hb
          have c1 := cell_keep4 hHeld2.2 hb
          clear hb
          clear hK Kr7 hHeld2
          try simp only [Act.put, List.setIfInBounds_toArray, List.set_cons_zero, List.set_cons_succ]
          first
          | (refine wpAnyH_take (i := 8) (oi := { dst := some 85, op := Go.Op.unOp Go.UnOp.not 4 (Go.Operand.tmp 84), type := 4, pos := "law.go:86", after := #[{ on := 7, ground := Go.Ground.data }, { on := 3, ground := Go.Ground.guard }], guard := some (3, false) }) (v := ?_) rfl (by kernel_rfl) (by kernel_rfl) (by kernel_rfl) (fun _ _ _ h => h) (Or.inl ⟨by rfl, ?_⟩) hHeld3 ?_
             rotate_left
             · ((intro w hSw; (try dsimp only at hSw); go_simp) <;> (first | with_reducible rfl | (rw [if_neg (by omega)]; done))))
          | (refine wpAnyH_take (i := 8) (oi := { dst := some 85, op := Go.Op.unOp Go.UnOp.not 4 (Go.Operand.tmp 84), type := 4, pos := "law.go:86", after := #[{ on := 7, ground := Go.Ground.data }, { on := 3, ground := Go.Ground.guard }], guard := some (3, false) }) (v := undef) rfl (by kernel_rfl) (by kernel_rfl) (by kernel_rfl) (fun _ _ _ h => h) (Or.inr ⟨by rfl, rfl⟩) hHeld3 ?_)
          try simp only [Act.put, List.setIfInBounds_toArray, List.set_cons_zero, List.set_cons_succ]
          first
          | (refine wpAnyH_take (i := 9) (oi := { dst := some 86, op := Go.Op.pick (Go.Operand.tmp 80) (Go.Operand.const (Go.Value.bool true)) (Go.Operand.tmp 85), type := 4, pos := "law.go:86", after := #[{ on := 3, ground := Go.Ground.data }, { on := 8, ground := Go.Ground.data }], guard := none }) (v := ?_) rfl (by kernel_rfl) (by kernel_rfl) (by kernel_rfl) (fun _ _ _ h => h) (Or.inl ⟨by rfl, ?_⟩) hHeld3 ?_
             rotate_left
             · ((intro w hSw; (try dsimp only at hSw); go_simp) <;> (first | with_reducible rfl | (rw [if_neg (by omega)]; done))))
          | (refine wpAnyH_take (i := 9) (oi := { dst := some 86, op := Go.Op.pick (Go.Operand.tmp 80) (Go.Operand.const (Go.Value.bool true)) (Go.Operand.tmp 85), type := 4, pos := "law.go:86", after := #[{ on := 3, ground := Go.Ground.data }, { on := 8, ground := Go.Ground.data }], guard := none }) (v := undef) rfl (by kernel_rfl) (by kernel_rfl) (by kernel_rfl) (fun _ _ _ h => h) (Or.inr ⟨by rfl, rfl⟩) hHeld3 ?_)
          try simp only [Act.put, List.setIfInBounds_toArray, List.set_cons_zero, List.set_cons_succ]
          refine wpAnyH_done (by kernel_rfl) ?_ _
          clear hHeld3
          go_wp2_with (first | (go_at_call 8; ((with_reducible refine (HRDP.out _).mono ?_); rintro e wn ⟨qd, qc, rfl, hvq, hb⟩; have HVQ := Lib.hid hvq; clear hvq; have c0 := cell_keep4 c0 hb; have c1 := cell_keep4 c1 hb; have HB := Lib.hid (Below.next HB.out hb); clear hb; have c0o := fun o => cell_keep4 c0 (below_one (w := wn) o); have c1o := fun o => cell_keep4 c1 (below_one (w := wn) o))) | (go_at_call 17; ((with_reducible refine (HRPP.out _ (HVA.out.below (HB.out.alloc HB.out.size _))).mono ?_); rintro e wp ⟨rfl, hb⟩; have c0 := cell_keep4 (c0o _) hb; have c1 := cell_keep4 (c1o _) hb; have c2 : wp.cell? ⟨wn.heap.size, 0, none⟩ = some (.slice qd a.length qc) := cell_keep4 (cell_of (heap_alloc_new wn (.cells #[.slice qd a.length qc, .int .i64 k] 30)) 0 rfl) hb; have c3 : wp.cell? ⟨wn.heap.size, 1, none⟩ = some (.int .i64 k) := cell_keep4 (cell_of (heap_alloc_new wn (.cells #[.slice qd a.length qc, .int .i64 k] 30)) 1 rfl) hb; have HVQ := Lib.hid (Bytes.below (HVQ.out.below (below_one (.cells #[.slice qd a.length qc, .int .i64 k] 30))) hb); have HB := Lib.hid (Below.next (HB.out.alloc HB.out.size _) hb); clear hb)) | (go_at_call 11; ((with_reducible refine (HSQ.out qd qc _ HVQ.out (HVA.out.below HB.out)).mono ?_); rintro e wn ⟨rfl, hb⟩; have c0 := cell_keep4 c0 hb; have c1 := cell_keep4 c1 hb; have HB := Lib.hid (Below.next HB.out hb); clear hb)) | fail)
          go_ret
          exact ⟨rfl, HB.out⟩
      · have hpp : printPC a k = ([], 3) := by unfold printPC; rw [if_neg (by rw [Int.toNat_natCast]; exact fun h => hpa h.2)]
        have HPP := Lib.hid (app_v a ad cp k hac hcm (by omega) hpp)
        have HSM : Hid (∀ sd sc w, Bytes w (.slice sd a.length sc) (plainS a k) → Bytes w (.slice ad a.length cp) a → Calls Tryd.prog 11 #[.agg #[.slice sd a.length sc, .int .i64 k], .agg #[.slice ad a.length cp, .int .i64 k]] w fun e w' => e = .returned (.bool false) ∧ Below w.heap.size w w') :=
          Lib.hid (fun sd sc w h1 h2 => same4_v (plainS a k) a sd ad a.length (plainS_len a k) rfl sc cp k (by simpa using hpa) w h1 h2)
        clear hr hpc hpp hac hcm hac2 hn hPl hpa
        generalize printA a = P at *
        rcases hn4 with e4 | ⟨e4, e16⟩
        all_goals
          go_enter Tryd.func4, Tryd.ntmps4
          go_wp2_with (first | (go_at_call 5; ((with_reducible refine (awake4 _).mono ?_); rintro e wn ⟨rfl, hb⟩; have c0 := cell_keep4 c0 hb; have c1 := cell_keep4 c1 hb; have HB := Lib.hid (Below.next HB.out hb); clear hb)) | (go_at_call 12; ((with_reducible refine (HPR.out _ (HVA.out.below HB.out)).mono ?_); rintro e wn ⟨rfl, hb⟩; have c0 := cell_keep4 c0 hb; have c1 := cell_keep4 c1 hb; have HB := Lib.hid (Below.next HB.out hb); clear hb)) | (go_at_call 13; ((with_reducible refine (HPP.out _ (HVA.out.below HB.out)).mono ?_); rintro e wn ⟨rfl, hb⟩; have c0 := cell_keep4 c0 hb; have c1 := cell_keep4 c1 hb; have HB := Lib.hid (Below.next HB.out hb); clear hb)) | (go_at_call 6; ((with_reducible refine (HRD.out _).mono ?_); rintro e wn ⟨qd, qc, rfl, hvq, hb⟩; have HVQ := Lib.hid hvq; clear hvq; have c0 := cell_keep4 c0 hb; have c1 := cell_keep4 c1 hb; have HB := Lib.hid (Below.next HB.out hb); clear hb)) | (go_at_call 14; ((with_reducible refine (HRPR.out _ (HVA.out.below HB.out)).mono ?_); rintro e wn ⟨rfl, hb⟩; have HVQ := Lib.hid (Bytes.below HVQ.out hb); have c0 := cell_keep4 c0 hb; have c1 := cell_keep4 c1 hb; have HB := Lib.hid (Below.next HB.out hb); clear hb)) | (go_at_call 10; ((with_reducible refine (same1_v a _ _ _ HVQ.out (HVA.out.below HB.out)).mono ?_); rintro e wm ⟨rfl, rfl⟩)) | fail)
          have HB : Hid (Below w.heap.size w wn.drew) := Lib.hid HB.out.drew
          have c0 : wn.drew.cell? ⟨w.heap.size, 0, none⟩ = some (.slice ad a.length cp) := c0
          have c1 : wn.drew.cell? ⟨w.heap.size, 1, none⟩ = some (.int .i64 k) := c1
          refine wp_region_held_drew (S := (fun W => W.cell? ⟨w.heap.size, 0, none⟩ = some (.slice ad a.length cp) ∧ W.cell? ⟨w.heap.size, 1, none⟩ = some (.int .i64 k))) (by kernel_rfl) ?_ (fun hHeld0 => ?_)
          · (try dsimp only); exact ⟨c0, c1⟩
          first
          | (refine wpAnyH_take (i := 0) (oi := { dst := some 77, op := Go.Op.load 30 (Go.Operand.tmp 1), type := 30, pos := "law.go:86", after := #[], guard := none }) (v := ?_) rfl (by kernel_rfl) (by kernel_rfl) (by kernel_rfl) (fun _ _ _ h => h) (Or.inl ⟨by rfl, ?_⟩) hHeld0 ?_
             rotate_left
             · ((intro w hSw; (try dsimp only at hSw); go_simp) <;> (first | with_reducible rfl | (rw [if_neg (by omega)]; done))))
          | (refine wpAnyH_take (i := 0) (oi := { dst := some 77, op := Go.Op.load 30 (Go.Operand.tmp 1), type := 30, pos := "law.go:86", after := #[], guard := none }) (v := undef) rfl (by kernel_rfl) (by kernel_rfl) (by kernel_rfl) (fun _ _ _ h => h) (Or.inr ⟨by rfl, rfl⟩) hHeld0 ?_)
          try simp only [Act.put, List.setIfInBounds_toArray, List.set_cons_zero, List.set_cons_succ]
          refine wpAnyH_ready (rs := [1]) (by kernel_rfl) (by simp) ?_
          refine AllReadyH.cons (o := { dst := some 78, op := Go.Op.call { callee := Go.Callee.value (Go.Operand.func 15), args := #[Go.Operand.tmp 77], argTypes := #[30] }, type := 4, pos := "law.go:86", after := #[{ on := 0, ground := Go.Ground.data }], guard := none }) rfl (fun Kr1 hK => ?_) AllReadyH.nil
          go_simp
          ((go_at_call 15; (with_reducible refine (HRR.out _).mono ?_); rintro e wn ⟨rfl, hb⟩))
          refine hK.out _ _ ?_ (fun hHeld1 => ?_)
          · (try dsimp only); exact ⟨cell_keep4 hHeld0.1 hb, cell_keep4 hHeld0.2 hb⟩
          have HB := Lib.hid (Below.next HB.out hb)
          clear hb
          clear hK Kr1 hHeld0
          try simp only [Act.put, List.setIfInBounds_toArray, List.set_cons_zero, List.set_cons_succ]
          first
          | (refine wpAnyH_take (i := 2) (oi := { dst := some 79, op := Go.Op.unOp Go.UnOp.not 4 (Go.Operand.tmp 78), type := 4, pos := "law.go:86", after := #[{ on := 1, ground := Go.Ground.data }], guard := none }) (v := ?_) rfl (by kernel_rfl) (by kernel_rfl) (by kernel_rfl) (fun _ _ _ h => h) (Or.inl ⟨by rfl, ?_⟩) hHeld1 ?_
             rotate_left
             · ((intro w hSw; (try dsimp only at hSw); go_simp) <;> (first | with_reducible rfl | (rw [if_neg (by omega)]; done))))
          | (refine wpAnyH_take (i := 2) (oi := { dst := some 79, op := Go.Op.unOp Go.UnOp.not 4 (Go.Operand.tmp 78), type := 4, pos := "law.go:86", after := #[{ on := 1, ground := Go.Ground.data }], guard := none }) (v := undef) rfl (by kernel_rfl) (by kernel_rfl) (by kernel_rfl) (fun _ _ _ h => h) (Or.inr ⟨by rfl, rfl⟩) hHeld1 ?_)
          try simp only [Act.put, List.setIfInBounds_toArray, List.set_cons_zero, List.set_cons_succ]
          first
          | (refine wpAnyH_take (i := 3) (oi := { dst := some 80, op := Go.Op.move (Go.Operand.tmp 79), type := 4, pos := "law.go:86", after := #[{ on := 2, ground := Go.Ground.data }, { on := 1, ground := Go.Ground.chain }], guard := none }) (v := ?_) rfl (by kernel_rfl) (by kernel_rfl) (by kernel_rfl) (fun _ _ _ h => h) (Or.inl ⟨by rfl, ?_⟩) hHeld1 ?_
             rotate_left
             · ((intro w hSw; (try dsimp only at hSw); go_simp) <;> (first | with_reducible rfl | (rw [if_neg (by omega)]; done))))
          | (refine wpAnyH_take (i := 3) (oi := { dst := some 80, op := Go.Op.move (Go.Operand.tmp 79), type := 4, pos := "law.go:86", after := #[{ on := 2, ground := Go.Ground.data }, { on := 1, ground := Go.Ground.chain }], guard := none }) (v := undef) rfl (by kernel_rfl) (by kernel_rfl) (by kernel_rfl) (fun _ _ _ h => h) (Or.inr ⟨by rfl, rfl⟩) hHeld1 ?_)
          try simp only [Act.put, List.setIfInBounds_toArray, List.set_cons_zero, List.set_cons_succ]
          first
          | (refine wpAnyH_take (i := 4) (oi := { dst := some 81, op := Go.Op.load 30 (Go.Operand.tmp 1), type := 30, pos := "law.go:86", after := #[{ on := 3, ground := Go.Ground.guard }], guard := some (3, false) }) (v := ?_) rfl (by kernel_rfl) (by kernel_rfl) (by kernel_rfl) (fun _ _ _ h => h) (Or.inl ⟨by rfl, ?_⟩) hHeld1 ?_
             rotate_left
             · ((intro w hSw; (try dsimp only at hSw); go_simp) <;> (first | with_reducible rfl | (rw [if_neg (by omega)]; done))))
          | (refine wpAnyH_take (i := 4) (oi := { dst := some 81, op := Go.Op.load 30 (Go.Operand.tmp 1), type := 30, pos := "law.go:86", after := #[{ on := 3, ground := Go.Ground.guard }], guard := some (3, false) }) (v := undef) rfl (by kernel_rfl) (by kernel_rfl) (by kernel_rfl) (fun _ _ _ h => h) (Or.inr ⟨by rfl, rfl⟩) hHeld1 ?_)
          try simp only [Act.put, List.setIfInBounds_toArray, List.set_cons_zero, List.set_cons_succ]
          first
          | (refine wpAnyH_take (i := 6) (oi := { dst := some 83, op := Go.Op.load 30 (Go.Operand.tmp 1), type := 30, pos := "law.go:86", after := #[{ on := 3, ground := Go.Ground.guard }], guard := some (3, false) }) (v := ?_) rfl (by kernel_rfl) (by kernel_rfl) (by kernel_rfl) (fun _ _ _ h => h) (Or.inl ⟨by rfl, ?_⟩) hHeld1 ?_
             rotate_left
             · ((intro w hSw; (try dsimp only at hSw); go_simp) <;> (first | with_reducible rfl | (rw [if_neg (by omega)]; done))))
          | (refine wpAnyH_take (i := 6) (oi := { dst := some 83, op := Go.Op.load 30 (Go.Operand.tmp 1), type := 30, pos := "law.go:86", after := #[{ on := 3, ground := Go.Ground.guard }], guard := some (3, false) }) (v := undef) rfl (by kernel_rfl) (by kernel_rfl) (by kernel_rfl) (fun _ _ _ h => h) (Or.inr ⟨by rfl, rfl⟩) hHeld1 ?_)
          try simp only [Act.put, List.setIfInBounds_toArray, List.set_cons_zero, List.set_cons_succ]
          refine wpAnyH_ready (rs := [5]) (by kernel_rfl) (by simp) ?_
          refine AllReadyH.cons (o := { dst := some 82, op := Go.Op.call { callee := Go.Callee.value (Go.Operand.func 16), args := #[Go.Operand.tmp 81], argTypes := #[30] }, type := 30, pos := "law.go:86", after := #[{ on := 4, ground := Go.Ground.data }, { on := 3, ground := Go.Ground.chain }, { on := 3, ground := Go.Ground.guard }], guard := some (3, false) }) rfl (fun Kr5 hK => ?_) AllReadyH.nil
          go_simp
          ((go_at_call 16; (with_reducible refine (HRPL.out _ (HVA.out.below HB.out)).mono ?_); rintro e wn ⟨sd, sc, rfl, hvs, hb⟩; have HVS := Lib.hid hvs; clear hvs))
          refine hK.out _ _ ?_ (fun hHeld2 => ?_)
          · (try dsimp only); exact ⟨cell_keep4 hHeld1.1 hb, cell_keep4 hHeld1.2 hb⟩
          have HB := Lib.hid (Below.next HB.out hb)
          clear hb
          clear hK Kr5 hHeld1
          try simp only [Act.put, List.setIfInBounds_toArray, List.set_cons_zero, List.set_cons_succ]
          refine wpAnyH_ready (rs := [7]) (by kernel_rfl) (by simp) ?_
          refine AllReadyH.cons (o := { dst := some 84, op := Go.Op.call { callee := Go.Callee.value (Go.Operand.func 11), args := #[Go.Operand.tmp 82, Go.Operand.tmp 83], argTypes := #[30, 30] }, type := 4, pos := "law.go:86", after := #[{ on := 5, ground := Go.Ground.data }, { on := 6, ground := Go.Ground.data }, { on := 5, ground := Go.Ground.chain }, { on := 3, ground := Go.Ground.guard }], guard := some (3, false) }) rfl (fun Kr7 hK => ?_) AllReadyH.nil
          go_simp
          ((go_at_call 11; (with_reducible refine (HSM.out sd sc _ HVS.out (HVA.out.below HB.out)).mono ?_); rintro e wn ⟨rfl, hb⟩))
          refine hK.out _ _ ?_ (fun hHeld3 => ?_)
          · (try dsimp only); exact ⟨cell_keep4 hHeld2.1 hb, cell_keep4 hHeld2.2 hb⟩
          have HB := Lib.hid (Below.next HB.out hb)
          have c0 := cell_keep4 hHeld2.1 hb
          have c1 := cell_keep4 hHeld2.2 hb
          clear hb
          clear hK Kr7 hHeld2
          try simp only [Act.put, List.setIfInBounds_toArray, List.set_cons_zero, List.set_cons_succ]
          first
          | (refine wpAnyH_take (i := 8) (oi := { dst := some 85, op := Go.Op.unOp Go.UnOp.not 4 (Go.Operand.tmp 84), type := 4, pos := "law.go:86", after := #[{ on := 7, ground := Go.Ground.data }, { on := 3, ground := Go.Ground.guard }], guard := some (3, false) }) (v := ?_) rfl (by kernel_rfl) (by kernel_rfl) (by kernel_rfl) (fun _ _ _ h => h) (Or.inl ⟨by rfl, ?_⟩) hHeld3 ?_
             rotate_left
             · ((intro w hSw; (try dsimp only at hSw); go_simp) <;> (first | with_reducible rfl | (rw [if_neg (by omega)]; done))))
          | (refine wpAnyH_take (i := 8) (oi := { dst := some 85, op := Go.Op.unOp Go.UnOp.not 4 (Go.Operand.tmp 84), type := 4, pos := "law.go:86", after := #[{ on := 7, ground := Go.Ground.data }, { on := 3, ground := Go.Ground.guard }], guard := some (3, false) }) (v := undef) rfl (by kernel_rfl) (by kernel_rfl) (by kernel_rfl) (fun _ _ _ h => h) (Or.inr ⟨by rfl, rfl⟩) hHeld3 ?_)
          try simp only [Act.put, List.setIfInBounds_toArray, List.set_cons_zero, List.set_cons_succ]
          first
          | (refine wpAnyH_take (i := 9) (oi := { dst := some 86, op := Go.Op.pick (Go.Operand.tmp 80) (Go.Operand.const (Go.Value.bool true)) (Go.Operand.tmp 85), type := 4, pos := "law.go:86", after := #[{ on := 3, ground := Go.Ground.data }, { on := 8, ground := Go.Ground.data }], guard := none }) (v := ?_) rfl (by kernel_rfl) (by kernel_rfl) (by kernel_rfl) (fun _ _ _ h => h) (Or.inl ⟨by rfl, ?_⟩) hHeld3 ?_
             rotate_left
             · ((intro w hSw; (try dsimp only at hSw); go_simp) <;> (first | with_reducible rfl | (rw [if_neg (by omega)]; done))))
          | (refine wpAnyH_take (i := 9) (oi := { dst := some 86, op := Go.Op.pick (Go.Operand.tmp 80) (Go.Operand.const (Go.Value.bool true)) (Go.Operand.tmp 85), type := 4, pos := "law.go:86", after := #[{ on := 3, ground := Go.Ground.data }, { on := 8, ground := Go.Ground.data }], guard := none }) (v := undef) rfl (by kernel_rfl) (by kernel_rfl) (by kernel_rfl) (fun _ _ _ h => h) (Or.inr ⟨by rfl, rfl⟩) hHeld3 ?_)
          try simp only [Act.put, List.setIfInBounds_toArray, List.set_cons_zero, List.set_cons_succ]
          refine wpAnyH_done (by kernel_rfl) ?_ _
          clear hHeld3
          go_wp2_with fail
          go_ret
          exact ⟨rfl, HB.out⟩
  · have hpc : printC a = ([], 3) := by unfold printC; rw [if_neg hn]
    have hpp : printPC a m = ([], 3) := by
      unfold printPC; rw [if_neg]
      rintro ⟨h, _⟩
      exact hn (right_len h).1
    have HPR := Lib.hid (aprint_v a ad cp hac hcm (by omega) hpc)
    have HPP := Lib.hid (app_v a ad cp m hac hcm (by omega) hpp)
    have e4 : ((a.length : Int) != 4) = true := bnne_i (by omega)
    have e16 : ((a.length : Int) != 16) = true := bnne_i (by omega)
    clear hpc hpp hac hcm hac2 hn
    go_enter Tryd.func4, Tryd.ntmps4
    go_wp2_with (first | (go_at_call 5; ((with_reducible refine (awake4 _).mono ?_); rintro e wn ⟨rfl, hb⟩; have c0 := cell_keep4 c0 hb; have c1 := cell_keep4 c1 hb; have HB := Lib.hid (Below.next HB.out hb); clear hb)) | (go_at_call 12; ((with_reducible refine (HPR.out _ (HVA.out.below HB.out)).mono ?_); rintro e wn ⟨rfl, hb⟩; have c0 := cell_keep4 c0 hb; have c1 := cell_keep4 c1 hb; have HB := Lib.hid (Below.next HB.out hb); clear hb)) | (go_at_call 13; ((with_reducible refine (HPP.out _ (HVA.out.below HB.out)).mono ?_); rintro e wn ⟨rfl, hb⟩; have c0 := cell_keep4 c0 hb; have c1 := cell_keep4 c1 hb; have HB := Lib.hid (Below.next HB.out hb); clear hb)) | fail)
    go_ret
    exact ⟨rfl, HB.out⟩
end Go.Proofs.YtbaceiohcbhpaaaDoor
