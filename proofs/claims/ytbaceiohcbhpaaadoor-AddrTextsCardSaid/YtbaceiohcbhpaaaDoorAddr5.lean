import Derived.Test.YtbaceiohcbhpaaaDoorAddr4
namespace Go.Proofs.YtbaceiohcbhpaaaDoor
set_option linter.unusedVariables false
set_option linter.unusedSimpArgs false
set_option maxRecDepth 100000
open Go.RowKit

theorem same_c (va vb : Value) (la lb : List UInt8) (r : Bool) (hr : (la == lb) = r) (w : World) (ha : Bytes w va la) (hb : Bytes w vb lb) : Calls Tryd.prog 10 #[va, vb] w fun e w' => e = .returned (.bool r) ∧ w = w' := by
  subst hr; exact same_any va vb la lb w ha hb
theorem rsame4_any (a b : List UInt8) (ad bd : Option Addr) (cp cq : Nat) (m n : Int) (w : World) (ha : Bytes w (.slice ad a.length cp) a) (hb : Bytes w (.slice bd b.length cq) b) :
    Calls Tryd.prog 11 #[.agg #[.slice ad a.length cp, .int .i64 m], .agg #[.slice bd b.length cq, .int .i64 n]] w (RightRet w ((m == n) && (a == b))) := by
  have HVA : Hid (Bytes ((w.alloc (.cells #[.slice ad a.length cp, .int .i64 m] 30)).alloc (.cells #[.slice bd b.length cq, .int .i64 n] 30)) (.slice ad a.length cp) a) := Lib.hid (ha.below (((Below.refl _ _).alloc (Nat.le_refl _) _).alloc (by simp) _))
  have HVB : Hid (Bytes ((w.alloc (.cells #[.slice ad a.length cp, .int .i64 m] 30)).alloc (.cells #[.slice bd b.length cq, .int .i64 n] 30)) (.slice bd b.length cq) b) := Lib.hid (hb.below (((Below.refl _ _).alloc (Nat.le_refl _) _).alloc (by simp) _))
  obtain ⟨r, hr⟩ : ∃ r, (a == b) = r := ⟨_, rfl⟩
  have HSM := Lib.hid (fun w h1 h2 => same_c (.slice ad a.length cp) (.slice bd b.length cq) a b r hr w h1 h2)
  rw [hr]
  clear ha hb hr
  cases hmn : (m == n) with
  | false =>
    go_enter Tryd.func11, Tryd.ntmps11
    go_wp2_with (first | (go_at_call 10; ((with_reducible refine (HSM.out _ HVA.out HVB.out).mono ?_); rintro e w3 ⟨rfl, rfl⟩)) | fail)
    go_ret
    exact ⟨rfl, ((Below.refl _ _).alloc (Nat.le_refl _) _).alloc (by simp) _⟩
  | true =>
    go_enter Tryd.func11, Tryd.ntmps11
    go_wp2_with (first | (go_at_call 10; ((with_reducible refine (HSM.out _ HVA.out HVB.out).mono ?_); rintro e w3 ⟨rfl, rfl⟩)) | fail)
    go_ret
    exact ⟨ret_bool (by simp), ((Below.refl _ _).alloc (Nat.le_refl _) _).alloc (by simp) _⟩
theorem app47 (S : List UInt8) : strB S ++ ⟨#[47]⟩ = strB (S ++ [47]) := by rw [show (⟨#[47]⟩ : ByteArray) = strB [47] from rfl, strB_app]
theorem sz47 : (⟨#[47]⟩ : ByteArray).size = 1 := rfl
theorem printA_len (a : List UInt8) (h : a.length ≤ 1000) : (printA a).length ≤ 30000 := by
  have := prt_len a.length a a.length
  unfold printA; omega
theorem cell_keep4 {w w' : World} {b i : Nat} {v : Value} (h : w.cell? ⟨b, i, none⟩ = some v) (hb : Below w.heap.size w w') : w'.cell? ⟨b, i, none⟩ = some v :=
  (hb.cell (p := ⟨b, i, none⟩) (World.block_lt_of_cell? w _ h)).trans h
theorem rpp_any (a : List UInt8) (ad : Option Addr) (cp : Nat) (m : Nat) (w : World) (ha : Bytes w (.slice ad a.length cp) a) (hcp : a.length ≤ cp) (hcm : cp ≤ maxLen) (hal : a.length ≤ 1000) (hm : m ≤ 1000) :
    Calls Tryd.prog 17 #[.agg #[.slice ad a.length cp, .int .i64 m]] w fun e w' => e = .returned (.string (strB (printA a ++ 47 :: decs m))) ∧ Below w.heap.size w w' := by
  have hPA := fun w h => rprintA_any ad cp a w h hcp hcm hal
  have HPA := Lib.hid hPA
  have hPR := fun w => rprint_any m (by unfold top; omega) w
  have HPR : Hid (∀ w, Calls Tryd.prog 30 #[.int .u64 m] w fun e w' => e = .returned (.string (strB (decs m))) ∧ Below w.heap.size w w') := Lib.hid hPR
  have hl1 := printA_len a hal
  have hl2 := decs_top m (by unfold top; omega)
  have HT : Hid ((strB (printA a) ++ ⟨#[47]⟩) ++ strB (decs m) = strB (printA a ++ 47 :: decs m)) := Lib.hid (by rw [app47, strB_app]; simp)
  have hs1 := strB_size (printA a)
  have hs2 := strB_size (decs m)
  have hs3 := sz47
  have hmi : (m : Int) ≤ 1000 := by omega
  have hm0 : (0 : Int) ≤ m := by omega
  have HV : Hid (∀ n, Bytes ((w.alloc (.cells #[.slice ad a.length cp, .int .i64 m] 30)).drewN n) (.slice ad a.length cp) a) := Lib.hid (fun n => ha.below (below_dr (below_one _) n))
  have HB1 : Hid (Below w.heap.size w (w.alloc (.cells #[.slice ad a.length cp, .int .i64 m] 30)).drew) := Lib.hid (((Below.refl _ _).alloc (Nat.le_refl _) _).drew)
  have HV1 : Hid (Bytes (w.alloc (.cells #[.slice ad a.length cp, .int .i64 m] 30)).drew (.slice ad a.length cp) a) := Lib.hid (ha.below (below_one _).drew)
  have hbx := heap_alloc_new w (.cells #[.slice ad a.length cp, .int .i64 m] 30)
  have c0 : (w.alloc (.cells #[.slice ad a.length cp, .int .i64 m] 30)).drew.cell? ⟨w.heap.size, 0, none⟩ = some (.slice ad a.length cp) := cell_of hbx 0 rfl
  have c1 : (w.alloc (.cells #[.slice ad a.length cp, .int .i64 m] 30)).drew.cell? ⟨w.heap.size, 1, none⟩ = some (.int .i64 m) := cell_of hbx 1 rfl
  clear ha hPA hPR hbx
  generalize printA a = P at *
  generalize decs m = D at *
  have hwm : IntKind.u64.wrap (m : Int) = (m : Int) := by simp only [IntKind.wrap, IntKind.bits, IntKind.signed]; simp; omega
  go_enter Tryd.func17, Tryd.ntmps17
  go_wp2_with fail
  have HB := HB1
  refine wp_region_held_drew (S := (fun W => W.cell? ⟨w.heap.size, 0, none⟩ = some (.slice ad a.length cp) ∧ W.cell? ⟨w.heap.size, 1, none⟩ = some (.int .i64 m))) (by kernel_rfl) ?_ (fun hHeld0 => ?_)
  · (try dsimp only); exact ⟨c0, c1⟩
  first
  | (refine wpAnyH_take (i := 0) (oi := { dst := some 3, op := Go.Op.fieldAddr 30 (Go.Operand.tmp 1) 0, type := 0, pos := "ref.go:64", after := #[], guard := none }) (v := ?_) rfl (by kernel_rfl) (by kernel_rfl) (by kernel_rfl) (fun _ _ _ h => h) (Or.inl ⟨by rfl, ?_⟩) hHeld0 ?_
     rotate_left
     · ((intro w hSw; (try dsimp only at hSw); go_simp) <;> (first | with_reducible rfl | (rw [if_neg (by omega)]; done))))
  | (refine wpAnyH_take (i := 0) (oi := { dst := some 3, op := Go.Op.fieldAddr 30 (Go.Operand.tmp 1) 0, type := 0, pos := "ref.go:64", after := #[], guard := none }) (v := undef) rfl (by kernel_rfl) (by kernel_rfl) (by kernel_rfl) (fun _ _ _ h => h) (Or.inr ⟨by rfl, rfl⟩) hHeld0 ?_)
  try simp only [Act.put, List.setIfInBounds_toArray, List.set_cons_zero, List.set_cons_succ]
  first
  | (refine wpAnyH_take (i := 1) (oi := { dst := some 4, op := Go.Op.load 23 (Go.Operand.tmp 3), type := 23, pos := "ref.go:64", after := #[{ on := 0, ground := Go.Ground.data }], guard := none }) (v := ?_) rfl (by kernel_rfl) (by kernel_rfl) (by kernel_rfl) (fun _ _ _ h => h) (Or.inl ⟨by rfl, ?_⟩) hHeld0 ?_
     rotate_left
     · ((intro w hSw; (try dsimp only at hSw); go_simp) <;> (first | with_reducible rfl | (rw [if_neg (by omega)]; done))))
  | (refine wpAnyH_take (i := 1) (oi := { dst := some 4, op := Go.Op.load 23 (Go.Operand.tmp 3), type := 23, pos := "ref.go:64", after := #[{ on := 0, ground := Go.Ground.data }], guard := none }) (v := undef) rfl (by kernel_rfl) (by kernel_rfl) (by kernel_rfl) (fun _ _ _ h => h) (Or.inr ⟨by rfl, rfl⟩) hHeld0 ?_)
  try simp only [Act.put, List.setIfInBounds_toArray, List.set_cons_zero, List.set_cons_succ]
  first
  | (refine wpAnyH_take (i := 4) (oi := { dst := some 7, op := Go.Op.fieldAddr 30 (Go.Operand.tmp 1) 1, type := 0, pos := "ref.go:64", after := #[], guard := none }) (v := ?_) rfl (by kernel_rfl) (by kernel_rfl) (by kernel_rfl) (fun _ _ _ h => h) (Or.inl ⟨by rfl, ?_⟩) hHeld0 ?_
     rotate_left
     · ((intro w hSw; (try dsimp only at hSw); go_simp) <;> (first | with_reducible rfl | (rw [if_neg (by omega)]; done))))
  | (refine wpAnyH_take (i := 4) (oi := { dst := some 7, op := Go.Op.fieldAddr 30 (Go.Operand.tmp 1) 1, type := 0, pos := "ref.go:64", after := #[], guard := none }) (v := undef) rfl (by kernel_rfl) (by kernel_rfl) (by kernel_rfl) (fun _ _ _ h => h) (Or.inr ⟨by rfl, rfl⟩) hHeld0 ?_)
  try simp only [Act.put, List.setIfInBounds_toArray, List.set_cons_zero, List.set_cons_succ]
  first
  | (refine wpAnyH_take (i := 5) (oi := { dst := some 8, op := Go.Op.load 3 (Go.Operand.tmp 7), type := 3, pos := "ref.go:64", after := #[{ on := 4, ground := Go.Ground.data }], guard := none }) (v := ?_) rfl (by kernel_rfl) (by kernel_rfl) (by kernel_rfl) (fun _ _ _ h => h) (Or.inl ⟨by rfl, ?_⟩) hHeld0 ?_
     rotate_left
     · ((intro w hSw; (try dsimp only at hSw); go_simp) <;> (first | with_reducible rfl | (rw [if_neg (by omega)]; done))))
  | (refine wpAnyH_take (i := 5) (oi := { dst := some 8, op := Go.Op.load 3 (Go.Operand.tmp 7), type := 3, pos := "ref.go:64", after := #[{ on := 4, ground := Go.Ground.data }], guard := none }) (v := undef) rfl (by kernel_rfl) (by kernel_rfl) (by kernel_rfl) (fun _ _ _ h => h) (Or.inr ⟨by rfl, rfl⟩) hHeld0 ?_)
  try simp only [Act.put, List.setIfInBounds_toArray, List.set_cons_zero, List.set_cons_succ]
  first
  | (refine wpAnyH_take (i := 6) (oi := { dst := some 9, op := Go.Op.convert 3 46 (Go.Operand.tmp 8), type := 46, pos := "ref.go:64", after := #[{ on := 5, ground := Go.Ground.data }], guard := none }) (v := ?_) rfl (by kernel_rfl) (by kernel_rfl) (by kernel_rfl) (fun _ _ _ h => h) (Or.inl ⟨by rfl, ?_⟩) hHeld0 ?_
     rotate_left
     · ((intro w hSw; (try dsimp only at hSw); go_simp) <;> (first | with_reducible rfl | (rw [if_neg (by omega)]; done))))
  | (refine wpAnyH_take (i := 6) (oi := { dst := some 9, op := Go.Op.convert 3 46 (Go.Operand.tmp 8), type := 46, pos := "ref.go:64", after := #[{ on := 5, ground := Go.Ground.data }], guard := none }) (v := undef) rfl (by kernel_rfl) (by kernel_rfl) (by kernel_rfl) (fun _ _ _ h => h) (Or.inr ⟨by rfl, rfl⟩) hHeld0 ?_)
  try simp only [Act.put, List.setIfInBounds_toArray, List.set_cons_zero, List.set_cons_succ]
  refine wpAnyH_ready (rs := [2]) (by kernel_rfl) (by simp) ?_
  refine AllReadyH.cons (o := { dst := some 5, op := Go.Op.call { callee := Go.Callee.value (Go.Operand.func 14), args := #[Go.Operand.tmp 4], argTypes := #[23] }, type := 9, pos := "ref.go:64", after := #[{ on := 1, ground := Go.Ground.data }], guard := none }) rfl (fun Kr2 hK => ?_) AllReadyH.nil
  go_simp
  (go_at_call 14; (with_reducible refine (HPA.out _ HV1.out).mono ?_); rintro e wn ⟨rfl, hb⟩)
  refine hK.out _ _ ?_ (fun hHeld1 => ?_)
  · (try dsimp only); exact ⟨cell_keep4 hHeld0.1 hb, cell_keep4 hHeld0.2 hb⟩
  have HB := Lib.hid (Below.next HB.out hb)
  clear hb
  clear hK Kr2 hHeld0
  try simp only [Act.put, List.setIfInBounds_toArray, List.set_cons_zero, List.set_cons_succ]
  first
  | (refine wpAnyH_take (i := 3) (oi := { dst := some 6, op := Go.Op.binOp Go.BinOp.add 9 (Go.Operand.tmp 5) (Go.Operand.const (Go.Value.string { data := #[47] })) 9, type := 9, pos := "ref.go:64", after := #[{ on := 2, ground := Go.Ground.data }], guard := none }) (v := ?_) rfl (by kernel_rfl) (by kernel_rfl) (by kernel_rfl) (fun _ _ _ h => h) (Or.inl ⟨by rfl, ?_⟩) hHeld1 ?_
     rotate_left
     · ((intro w hSw; (try dsimp only at hSw); go_simp) <;> (first | with_reducible rfl | (rw [if_neg (by omega)]; done))))
  | (refine wpAnyH_take (i := 3) (oi := { dst := some 6, op := Go.Op.binOp Go.BinOp.add 9 (Go.Operand.tmp 5) (Go.Operand.const (Go.Value.string { data := #[47] })) 9, type := 9, pos := "ref.go:64", after := #[{ on := 2, ground := Go.Ground.data }], guard := none }) (v := undef) rfl (by kernel_rfl) (by kernel_rfl) (by kernel_rfl) (fun _ _ _ h => h) (Or.inr ⟨by rfl, rfl⟩) hHeld1 ?_)
  try simp only [Act.put, List.setIfInBounds_toArray, List.set_cons_zero, List.set_cons_succ]
  refine wpAnyH_ready (rs := [7]) (by kernel_rfl) (by simp) ?_
  refine AllReadyH.cons (o := { dst := some 10, op := Go.Op.call { callee := Go.Callee.value (Go.Operand.func 30), args := #[Go.Operand.tmp 9], argTypes := #[46] }, type := 9, pos := "ref.go:64", after := #[{ on := 6, ground := Go.Ground.data }, { on := 2, ground := Go.Ground.chain }], guard := none }) rfl (fun Kr7 hK => ?_) AllReadyH.nil
  go_simp
  (go_at_call 30; (with_reducible refine (HPR.out _).mono ?_); rintro e wn ⟨rfl, hb⟩)
  refine hK.out _ _ ?_ (fun hHeld2 => ?_)
  · (try dsimp only); exact ⟨cell_keep4 hHeld1.1 hb, cell_keep4 hHeld1.2 hb⟩
  have HB := Lib.hid (Below.next HB.out hb)
  clear hb
  clear hK Kr7 hHeld1
  try simp only [Act.put, List.setIfInBounds_toArray, List.set_cons_zero, List.set_cons_succ]
  first
  | (refine wpAnyH_take (i := 8) (oi := { dst := some 11, op := Go.Op.binOp Go.BinOp.add 9 (Go.Operand.tmp 6) (Go.Operand.tmp 10) 9, type := 9, pos := "ref.go:64", after := #[{ on := 3, ground := Go.Ground.data }, { on := 7, ground := Go.Ground.data }], guard := none }) (v := ?_) rfl (by kernel_rfl) (by kernel_rfl) (by kernel_rfl) (fun _ _ _ h => h) (Or.inl ⟨by rfl, ?_⟩) hHeld2 ?_
     rotate_left
     · ((intro w hSw; (try dsimp only at hSw); go_simp) <;> (first | with_reducible rfl | (rw [if_neg (by omega)]; done))))
  | (refine wpAnyH_take (i := 8) (oi := { dst := some 11, op := Go.Op.binOp Go.BinOp.add 9 (Go.Operand.tmp 6) (Go.Operand.tmp 10) 9, type := 9, pos := "ref.go:64", after := #[{ on := 3, ground := Go.Ground.data }, { on := 7, ground := Go.Ground.data }], guard := none }) (v := undef) rfl (by kernel_rfl) (by kernel_rfl) (by kernel_rfl) (fun _ _ _ h => h) (Or.inr ⟨by rfl, rfl⟩) hHeld2 ?_)
  try simp only [Act.put, List.setIfInBounds_toArray, List.set_cons_zero, List.set_cons_succ]
  first
  | (refine wpAnyH_take (i := 9) (oi := { dst := some 2, op := Go.Op.assign (Go.Operand.tmp 11), type := 9, pos := "ref.go:64", after := #[{ on := 8, ground := Go.Ground.data }, { on := 7, ground := Go.Ground.chain }, { on := 0, ground := Go.Ground.phase }, { on := 1, ground := Go.Ground.phase }, { on := 2, ground := Go.Ground.phase }, { on := 3, ground := Go.Ground.phase }, { on := 4, ground := Go.Ground.phase }, { on := 5, ground := Go.Ground.phase }, { on := 6, ground := Go.Ground.phase }, { on := 7, ground := Go.Ground.phase }, { on := 8, ground := Go.Ground.phase }], guard := none }) (v := ?_) rfl (by kernel_rfl) (by kernel_rfl) (by kernel_rfl) (fun _ _ _ h => h) (Or.inl ⟨by rfl, ?_⟩) hHeld2 ?_
     rotate_left
     · ((intro w hSw; (try dsimp only at hSw); go_simp) <;> (first | with_reducible rfl | (rw [if_neg (by omega)]; done))))
  | (refine wpAnyH_take (i := 9) (oi := { dst := some 2, op := Go.Op.assign (Go.Operand.tmp 11), type := 9, pos := "ref.go:64", after := #[{ on := 8, ground := Go.Ground.data }, { on := 7, ground := Go.Ground.chain }, { on := 0, ground := Go.Ground.phase }, { on := 1, ground := Go.Ground.phase }, { on := 2, ground := Go.Ground.phase }, { on := 3, ground := Go.Ground.phase }, { on := 4, ground := Go.Ground.phase }, { on := 5, ground := Go.Ground.phase }, { on := 6, ground := Go.Ground.phase }, { on := 7, ground := Go.Ground.phase }, { on := 8, ground := Go.Ground.phase }], guard := none }) (v := undef) rfl (by kernel_rfl) (by kernel_rfl) (by kernel_rfl) (fun _ _ _ h => h) (Or.inr ⟨by rfl, rfl⟩) hHeld2 ?_)
  try simp only [Act.put, List.setIfInBounds_toArray, List.set_cons_zero, List.set_cons_succ]
  refine wpAnyH_done (by kernel_rfl) ?_ _
  clear hHeld2
  go_wp2_with fail
  go_ret
  exact ⟨ret_str HT.out, HB.out⟩
end Go.Proofs.YtbaceiohcbhpaaaDoor
