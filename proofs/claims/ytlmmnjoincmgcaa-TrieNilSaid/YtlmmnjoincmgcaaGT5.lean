/- Texts of this seat, merged: Tri9, Tri10. -/
import Derived.Test.YtlmmnjoincmgcaaGT4
namespace Go.Proofs.Ytlmmnjoincmgcaa
set_option linter.unusedVariables false
set_option linter.unusedSimpArgs false
set_option maxRecDepth 100000
open Go.RowKit
/-- rows as the program tells them: three cells each, the addresses somewhere -/
def ToldAt (w : World) (a : Option Addr) (vs : List Rw) : Prop := ∀ i r, vs[i]? = some r → ∃ b off ad cp, a = some ⟨b, off, none⟩ ∧ w.cell? ⟨b, off + i * 3, none⟩ = some (.slice ad r.adr.length cp) ∧ Bytes w (.slice ad r.adr.length cp) r.adr ∧ w.cell? ⟨b, off + i * 3 + 1, none⟩ = some (.int .i64 r.bits) ∧ w.cell? ⟨b, off + i * 3 + 2, none⟩ = some (.int .i64 r.own)
/-- prefixes as the program tells them: two cells each -/
def OfAt (w : World) (a : Option Addr) (vs : List Rw) : Prop := ∀ i r, vs[i]? = some r → ∃ b off ad cp, a = some ⟨b, off, none⟩ ∧ w.cell? ⟨b, off + i * 2, none⟩ = some (.slice ad r.adr.length cp) ∧ Bytes w (.slice ad r.adr.length cp) r.adr ∧ w.cell? ⟨b, off + i * 2 + 1, none⟩ = some (.int .i64 r.bits)
theorem ToldAt.below {w w' : World} {a : Option Addr} {vs : List Rw} (h : ToldAt w a vs) (hb : Below w.heap.size w w') : ToldAt w' a vs := by
  intro i r hr
  obtain ⟨b, off, ad, cp, e, h1, h2, h3, h4⟩ := h i r hr
  exact ⟨b, off, ad, cp, e, cell_keep4 h1 hb, h2.below hb, cell_keep4 h3 hb, cell_keep4 h4 hb⟩
theorem OfAt.below {w w' : World} {a : Option Addr} {vs : List Rw} (h : OfAt w a vs) (hb : Below w.heap.size w w') : OfAt w' a vs := by
  intro i r hr
  obtain ⟨b, off, ad, cp, e, h1, h2, h3⟩ := h i r hr
  exact ⟨b, off, ad, cp, e, cell_keep4 h1 hb, h2.below hb, cell_keep4 h3 hb⟩
def ofV (vs : List Rw) (o : Int) : List Rw := vs.filter fun r => r.own == o
theorem ofV_next {vs : List Rw} {k : Nat} {r : Rw} {o : Int} (hr : vs[k]? = some r) : ofV (vs.take (k + 1)) o = if r.own = o then ofV (vs.take k) o ++ [r] else ofV (vs.take k) o := by
  have hlt := (List.getElem?_eq_some_iff.1 hr).1
  have e : vs[k] = r := (List.getElem?_eq_some_iff.1 hr).2
  unfold ofV
  rw [List.take_succ_eq_append_getElem hlt, e, List.filter_append]
  by_cases h : r.own = o
  · rw [if_pos h]; simp [h]
  · rw [if_neg h]; simp [h]
theorem ofV_at {vs : List Rw} {k : Nat} {r : Rw} {o : Int} (hr : vs[k]? = some r) (ho : r.own = o) : (ofV vs o)[(ofV (vs.take k) o).length]? = some r := by
  have h1 : ofV vs o = ofV (vs.take (k + 1)) o ++ ofV (vs.drop (k + 1)) o := by
    unfold ofV
    rw [← List.filter_append, List.take_append_drop]
  rw [h1, ofV_next hr, if_pos ho, List.append_assoc, List.getElem?_append_right (Nat.le_refl _), Nat.sub_self]
  rfl
theorem ofV_len (vs : List Rw) (k : Nat) (o : Int) : (ofV (vs.take k) o).length ≤ vs.length := by
  have h1 := List.length_filter_le (fun r : Rw => r.own == o) (vs.take k)
  have h2 := List.length_take_le' k vs
  unfold ofV
  omega
def RowsTold (vs : List Rw) (w : World) (e : Ending) (w' : World) : Prop := ∃ a cap, e = .returned (.slice a vs.length cap) ∧ ToldAt w' a vs ∧ Below w.heap.size w w'
def OfTold (vs : List Rw) (w : World) (e : Ending) (w' : World) : Prop := ∃ a cap, e = .returned (.slice a vs.length cap) ∧ OfAt w' a vs ∧ Below w.heap.size w w'
set_option maxHeartbeats 2000000 in
theorem even_any (B : Nat) (a : Option Addr) (cap : Nat) (vs : List Rw) (o : Int) (w : World) (T : World → Prop) (hv : RowsAt w a cap vs) (ha : AdrOk w vs) (hl : vs.length ≤ 1000)
    (hT : ∀ w w', T w → Below w.heap.size w w' → T w') (hR : ∀ w, T w → Calls Try.prog 18 #[.pointer (some ⟨B, 0, none⟩)] w (RowsTold vs w))
    (hO : ∀ w, T w → Calls Try.prog 19 #[.pointer (some ⟨B, 0, none⟩), .int .i64 o] w (OfTold (ofV vs o) w)) (h : T w) :
    Calls Try.prog 17 #[.pointer (some ⟨B, 0, none⟩), .slice a vs.length cap, .int .i64 o] w fun e w' => e = .returned (.bool true) ∧ Below w.heap.size w w' := by
  have HV := Lib.hid hv
  have HA := Lib.hid ha
  have HL := Lib.hid hl
  have HT := Lib.hid h
  have HTB := Lib.hid hT
  have HRW := Lib.hid hR
  have HOF := Lib.hid hO
  unfold RowsTold at HRW
  unfold OfTold at HOF
  have hl0 : (vs.length : Int) ≤ 1000 := by omega
  have hlo : (ofV vs o).length ≤ 1000 := by have := ofV_len vs vs.length o; rw [List.take_length] at this; omega
  have HLO := Lib.hid hlo
  have hlo0 : ((ofV vs o).length : Int) ≤ 1000 := by omega
  clear hv ha hl h hT hR hO hlo
  go_enter Try.func17, Try.ntmps17
  go_wp2_with (first | (go_at_call 18; ((with_reducible refine (HRW.out _ HT.out).mono ?_); rintro e w2 ⟨a2, cap2, rfl, hu, hb2⟩; have HU := Lib.hid hu; have HB := Lib.hid hb2; have HT := Lib.hid (HTB.out _ _ HT.out hb2); clear hu hb2)) | (go_at_call 19; ((with_reducible refine (HOF.out _ HT.out).mono ?_); rintro e w3 ⟨a3, cap3, rfl, hu, hb3⟩; have HOT := Lib.hid hu; have HU := Lib.hid (HU.out.below hb3); have HB := Lib.hid (Below.next HB.out hb3); clear hu hb3)) | fail)
  clear HT HTB HRW HOF
  have HV := Lib.hid (HV.out.below HB.out)
  have HA := Lib.hid (HA.out.below HB.out)
  go_loopw [8, 10] (fun n i wr => ∃ k : Nat, i = .int .i64 k ∧ k ≤ vs.length ∧ n = .int .i64 ((ofV (vs.take k) o).length : Nat) ∧ Below w3.heap.size w3 wr) (fun n i _ => vs.length - (intOf i).toNat)
  case atStart => exact ⟨0, rfl, Nat.zero_le _, rfl, Below.refl _ _⟩
  case round =>
    obtain ⟨k, rfl, hk, rfl, hbw⟩ := hrel
    have HBW := Lib.hid hbw
    clear hbw
    by_cases hlt : k < vs.length
    · obtain ⟨r, hr⟩ : ∃ r, vs[k]? = some r := ⟨vs[k], List.getElem?_eq_getElem hlt⟩
      have hmem : r ∈ vs := List.mem_of_getElem? hr
      obtain ⟨b, off, rfl, q0, q1, q2⟩ := rows_cell (HV.out.below (Below.drew HBW.out)) hr
      unfold Rw.sl at q0
      obtain ⟨b2, off2, ad2, cp2, rfl, p0, hby, p1, p2⟩ := (HU.out.below (Below.drew HBW.out)) k r hr
      have HQ0 := Lib.hid q0
      have HQ1 := Lib.hid q1
      have HQ2 := Lib.hid q2
      have HP0 := Lib.hid p0
      have HP1 := Lib.hid p1
      have HP2 := Lib.hid p2
      have hk0 : (0 : Int) ≤ k := by omega
      have hk1 : (k : Int) < vs.length := by omega
      have HNX := Lib.hid (ofV_next (o := o) hr)
      have HAT := Lib.hid (fun h => ofV_at (o := o) hr h)
      have HLT := Lib.hid hlt
      have HAR : Hid (Bytes wr.drew (.slice r.ad r.adr.length r.cp) r.adr) := Lib.hid ((HA.out r hmem).1.below (Below.drew HBW.out))
      have HVB : Hid (Bytes wr.drew (.slice ad2 r.adr.length cp2) r.adr) := Lib.hid hby
      have HSM : Hid (∀ w, Bytes w (.slice ad2 r.adr.length cp2) r.adr → Bytes w (.slice r.ad r.adr.length r.cp) r.adr → Calls Try.prog 24 #[.agg #[.slice ad2 r.adr.length cp2, .int .i64 r.bits], .agg #[.slice r.ad r.adr.length r.cp, .int .i64 r.bits]] w (RightRet w true)) := Lib.hid (fun w h1 h2 => by have := rsame4_any r.adr r.adr ad2 r.ad cp2 r.cp r.bits r.bits w h1 h2; simpa using this)
      clear hr hmem hlt hby
      go_wp2_with fail
      refine wp_region_held_drew (S := (fun W => W.cell? ⟨b, off + k * 3, none⟩ = some (.slice r.ad r.adr.length r.cp) ∧ W.cell? ⟨b, off + k * 3 + 1, none⟩ = some (.int .i64 r.bits) ∧ W.cell? ⟨b, off + k * 3 + 2, none⟩ = some (.int .i64 r.own) ∧ W.cell? ⟨b2, off2 + k * 3, none⟩ = some (.slice ad2 r.adr.length cp2) ∧ W.cell? ⟨b2, off2 + k * 3 + 1, none⟩ = some (.int .i64 r.bits) ∧ W.cell? ⟨b2, off2 + k * 3 + 2, none⟩ = some (.int .i64 r.own))) (by kernel_rfl) ?_ (fun hHeld0 => ?_)
      · (try dsimp only); exact ⟨q0, q1, q2, p0, p1, p2⟩
      first
      | (refine wpAnyH_take (i := 0) (oi := { dst := some 27, op := Go.Op.move (Go.Operand.tmp 7), type := 46, pos := "law.go:37", after := #[], guard := none }) (v := ?_) rfl (by kernel_rfl) (by kernel_rfl) (by kernel_rfl) (fun _ _ _ h => h) (Or.inl ⟨by rfl, ?_⟩) hHeld0 ?_
         rotate_left
         · ((intro w hSw; (try dsimp only at hSw); go_simp) <;> (first | with_reducible rfl | (rw [if_neg (by omega)]; done))))
      | (refine wpAnyH_take (i := 0) (oi := { dst := some 27, op := Go.Op.move (Go.Operand.tmp 7), type := 46, pos := "law.go:37", after := #[], guard := none }) (v := undef) rfl (by kernel_rfl) (by kernel_rfl) (by kernel_rfl) (fun _ _ _ h => h) (Or.inr ⟨by rfl, rfl⟩) hHeld0 ?_)
      try simp only [Act.put, List.setIfInBounds_toArray, List.set_cons_zero, List.set_cons_succ]
      first
      | (refine wpAnyH_take (i := 1) (oi := { dst := some 28, op := Go.Op.move (Go.Operand.tmp 10), type := 3, pos := "law.go:37", after := #[], guard := none }) (v := ?_) rfl (by kernel_rfl) (by kernel_rfl) (by kernel_rfl) (fun _ _ _ h => h) (Or.inl ⟨by rfl, ?_⟩) hHeld0 ?_
         rotate_left
         · ((intro w hSw; (try dsimp only at hSw); go_simp) <;> (first | with_reducible rfl | (rw [if_neg (by omega)]; done))))
      | (refine wpAnyH_take (i := 1) (oi := { dst := some 28, op := Go.Op.move (Go.Operand.tmp 10), type := 3, pos := "law.go:37", after := #[], guard := none }) (v := undef) rfl (by kernel_rfl) (by kernel_rfl) (by kernel_rfl) (fun _ _ _ h => h) (Or.inr ⟨by rfl, rfl⟩) hHeld0 ?_)
      try simp only [Act.put, List.setIfInBounds_toArray, List.set_cons_zero, List.set_cons_succ]
      first
      | (refine wpAnyH_take (i := 2) (oi := { dst := some 29, op := Go.Op.indexAddr 46 (Go.Operand.tmp 27) (Go.Operand.tmp 28), type := 0, pos := "law.go:37", after := #[{ on := 0, ground := Go.Ground.data }, { on := 1, ground := Go.Ground.data }], guard := none }) (v := ?_) rfl (by kernel_rfl) (by kernel_rfl) (by kernel_rfl) (fun _ _ _ h => h) (Or.inl ⟨by rfl, ?_⟩) hHeld0 ?_
         rotate_left
         · ((intro w hSw; (try dsimp only at hSw); go_simp) <;> (first | with_reducible rfl | (rw [if_neg (by omega)]; done))))
      | (refine wpAnyH_take (i := 2) (oi := { dst := some 29, op := Go.Op.indexAddr 46 (Go.Operand.tmp 27) (Go.Operand.tmp 28), type := 0, pos := "law.go:37", after := #[{ on := 0, ground := Go.Ground.data }, { on := 1, ground := Go.Ground.data }], guard := none }) (v := undef) rfl (by kernel_rfl) (by kernel_rfl) (by kernel_rfl) (fun _ _ _ h => h) (Or.inr ⟨by rfl, rfl⟩) hHeld0 ?_)
      try simp only [Act.put, List.setIfInBounds_toArray, List.set_cons_zero, List.set_cons_succ]
      first
      | (refine wpAnyH_take (i := 3) (oi := { dst := some 30, op := Go.Op.fieldAddr 72 (Go.Operand.tmp 29) 1, type := 0, pos := "law.go:37", after := #[{ on := 2, ground := Go.Ground.data }], guard := none }) (v := ?_) rfl (by kernel_rfl) (by kernel_rfl) (by kernel_rfl) (fun _ _ _ h => h) (Or.inl ⟨by rfl, ?_⟩) hHeld0 ?_
         rotate_left
         · ((intro w hSw; (try dsimp only at hSw); go_simp) <;> (first | with_reducible rfl | (rw [if_neg (by omega)]; done))))
      | (refine wpAnyH_take (i := 3) (oi := { dst := some 30, op := Go.Op.fieldAddr 72 (Go.Operand.tmp 29) 1, type := 0, pos := "law.go:37", after := #[{ on := 2, ground := Go.Ground.data }], guard := none }) (v := undef) rfl (by kernel_rfl) (by kernel_rfl) (by kernel_rfl) (fun _ _ _ h => h) (Or.inr ⟨by rfl, rfl⟩) hHeld0 ?_)
      try simp only [Act.put, List.setIfInBounds_toArray, List.set_cons_zero, List.set_cons_succ]
      first
      | (refine wpAnyH_take (i := 4) (oi := { dst := some 31, op := Go.Op.load 3 (Go.Operand.tmp 30), type := 3, pos := "law.go:37", after := #[{ on := 3, ground := Go.Ground.data }], guard := none }) (v := ?_) rfl (by kernel_rfl) (by kernel_rfl) (by kernel_rfl) (fun _ _ _ h => h) (Or.inl ⟨by rfl, ?_⟩) hHeld0 ?_
         rotate_left
         · ((intro w hSw; (try dsimp only at hSw); go_simp) <;> (first | with_reducible rfl | (rw [if_neg (by omega)]; done))))
      | (refine wpAnyH_take (i := 4) (oi := { dst := some 31, op := Go.Op.load 3 (Go.Operand.tmp 30), type := 3, pos := "law.go:37", after := #[{ on := 3, ground := Go.Ground.data }], guard := none }) (v := undef) rfl (by kernel_rfl) (by kernel_rfl) (by kernel_rfl) (fun _ _ _ h => h) (Or.inr ⟨by rfl, rfl⟩) hHeld0 ?_)
      try simp only [Act.put, List.setIfInBounds_toArray, List.set_cons_zero, List.set_cons_succ]
      first
      | (refine wpAnyH_take (i := 5) (oi := { dst := some 32, op := Go.Op.move (Go.Operand.tmp 1), type := 27, pos := "law.go:37", after := #[], guard := none }) (v := ?_) rfl (by kernel_rfl) (by kernel_rfl) (by kernel_rfl) (fun _ _ _ h => h) (Or.inl ⟨by rfl, ?_⟩) hHeld0 ?_
         rotate_left
         · ((intro w hSw; (try dsimp only at hSw); go_simp) <;> (first | with_reducible rfl | (rw [if_neg (by omega)]; done))))
      | (refine wpAnyH_take (i := 5) (oi := { dst := some 32, op := Go.Op.move (Go.Operand.tmp 1), type := 27, pos := "law.go:37", after := #[], guard := none }) (v := undef) rfl (by kernel_rfl) (by kernel_rfl) (by kernel_rfl) (fun _ _ _ h => h) (Or.inr ⟨by rfl, rfl⟩) hHeld0 ?_)
      try simp only [Act.put, List.setIfInBounds_toArray, List.set_cons_zero, List.set_cons_succ]
      first
      | (refine wpAnyH_take (i := 6) (oi := { dst := some 33, op := Go.Op.move (Go.Operand.tmp 10), type := 3, pos := "law.go:37", after := #[], guard := none }) (v := ?_) rfl (by kernel_rfl) (by kernel_rfl) (by kernel_rfl) (fun _ _ _ h => h) (Or.inl ⟨by rfl, ?_⟩) hHeld0 ?_
         rotate_left
         · ((intro w hSw; (try dsimp only at hSw); go_simp) <;> (first | with_reducible rfl | (rw [if_neg (by omega)]; done))))
      | (refine wpAnyH_take (i := 6) (oi := { dst := some 33, op := Go.Op.move (Go.Operand.tmp 10), type := 3, pos := "law.go:37", after := #[], guard := none }) (v := undef) rfl (by kernel_rfl) (by kernel_rfl) (by kernel_rfl) (fun _ _ _ h => h) (Or.inr ⟨by rfl, rfl⟩) hHeld0 ?_)
      try simp only [Act.put, List.setIfInBounds_toArray, List.set_cons_zero, List.set_cons_succ]
      first
      | (refine wpAnyH_take (i := 7) (oi := { dst := some 34, op := Go.Op.indexAddr 27 (Go.Operand.tmp 32) (Go.Operand.tmp 33), type := 0, pos := "law.go:37", after := #[{ on := 5, ground := Go.Ground.data }, { on := 6, ground := Go.Ground.data }], guard := none }) (v := ?_) rfl (by kernel_rfl) (by kernel_rfl) (by kernel_rfl) (fun _ _ _ h => h) (Or.inl ⟨by rfl, ?_⟩) hHeld0 ?_
         rotate_left
         · ((intro w hSw; (try dsimp only at hSw); go_simp) <;> (first | with_reducible rfl | (rw [if_neg (by omega)]; done))))
      | (refine wpAnyH_take (i := 7) (oi := { dst := some 34, op := Go.Op.indexAddr 27 (Go.Operand.tmp 32) (Go.Operand.tmp 33), type := 0, pos := "law.go:37", after := #[{ on := 5, ground := Go.Ground.data }, { on := 6, ground := Go.Ground.data }], guard := none }) (v := undef) rfl (by kernel_rfl) (by kernel_rfl) (by kernel_rfl) (fun _ _ _ h => h) (Or.inr ⟨by rfl, rfl⟩) hHeld0 ?_)
      try simp only [Act.put, List.setIfInBounds_toArray, List.set_cons_zero, List.set_cons_succ]
      first
      | (refine wpAnyH_take (i := 8) (oi := { dst := some 35, op := Go.Op.fieldAddr 62 (Go.Operand.tmp 34) 1, type := 0, pos := "law.go:37", after := #[{ on := 7, ground := Go.Ground.data }], guard := none }) (v := ?_) rfl (by kernel_rfl) (by kernel_rfl) (by kernel_rfl) (fun _ _ _ h => h) (Or.inl ⟨by rfl, ?_⟩) hHeld0 ?_
         rotate_left
         · ((intro w hSw; (try dsimp only at hSw); go_simp) <;> (first | with_reducible rfl | (rw [if_neg (by omega)]; done))))
      | (refine wpAnyH_take (i := 8) (oi := { dst := some 35, op := Go.Op.fieldAddr 62 (Go.Operand.tmp 34) 1, type := 0, pos := "law.go:37", after := #[{ on := 7, ground := Go.Ground.data }], guard := none }) (v := undef) rfl (by kernel_rfl) (by kernel_rfl) (by kernel_rfl) (fun _ _ _ h => h) (Or.inr ⟨by rfl, rfl⟩) hHeld0 ?_)
      try simp only [Act.put, List.setIfInBounds_toArray, List.set_cons_zero, List.set_cons_succ]
      first
      | (refine wpAnyH_take (i := 9) (oi := { dst := some 36, op := Go.Op.load 3 (Go.Operand.tmp 35), type := 3, pos := "law.go:37", after := #[{ on := 8, ground := Go.Ground.data }], guard := none }) (v := ?_) rfl (by kernel_rfl) (by kernel_rfl) (by kernel_rfl) (fun _ _ _ h => h) (Or.inl ⟨by rfl, ?_⟩) hHeld0 ?_
         rotate_left
         · ((intro w hSw; (try dsimp only at hSw); go_simp) <;> (first | with_reducible rfl | (rw [if_neg (by omega)]; done))))
      | (refine wpAnyH_take (i := 9) (oi := { dst := some 36, op := Go.Op.load 3 (Go.Operand.tmp 35), type := 3, pos := "law.go:37", after := #[{ on := 8, ground := Go.Ground.data }], guard := none }) (v := undef) rfl (by kernel_rfl) (by kernel_rfl) (by kernel_rfl) (fun _ _ _ h => h) (Or.inr ⟨by rfl, rfl⟩) hHeld0 ?_)
      try simp only [Act.put, List.setIfInBounds_toArray, List.set_cons_zero, List.set_cons_succ]
      first
      | (refine wpAnyH_take (i := 10) (oi := { dst := some 37, op := Go.Op.binOp Go.BinOp.neq 3 (Go.Operand.tmp 31) (Go.Operand.tmp 36) 3, type := 4, pos := "law.go:37", after := #[{ on := 4, ground := Go.Ground.data }, { on := 9, ground := Go.Ground.data }], guard := none }) (v := ?_) rfl (by kernel_rfl) (by kernel_rfl) (by kernel_rfl) (fun _ _ _ h => h) (Or.inl ⟨by rfl, ?_⟩) hHeld0 ?_
         rotate_left
         · ((intro w hSw; (try dsimp only at hSw); go_simp) <;> (first | with_reducible rfl | (rw [if_neg (by omega)]; done))))
      | (refine wpAnyH_take (i := 10) (oi := { dst := some 37, op := Go.Op.binOp Go.BinOp.neq 3 (Go.Operand.tmp 31) (Go.Operand.tmp 36) 3, type := 4, pos := "law.go:37", after := #[{ on := 4, ground := Go.Ground.data }, { on := 9, ground := Go.Ground.data }], guard := none }) (v := undef) rfl (by kernel_rfl) (by kernel_rfl) (by kernel_rfl) (fun _ _ _ h => h) (Or.inr ⟨by rfl, rfl⟩) hHeld0 ?_)
      try simp only [Act.put, List.setIfInBounds_toArray, List.set_cons_zero, List.set_cons_succ]
      first
      | (refine wpAnyH_take (i := 11) (oi := { dst := some 38, op := Go.Op.move (Go.Operand.tmp 37), type := 4, pos := "law.go:37", after := #[{ on := 10, ground := Go.Ground.data }], guard := none }) (v := ?_) rfl (by kernel_rfl) (by kernel_rfl) (by kernel_rfl) (fun _ _ _ h => h) (Or.inl ⟨by rfl, ?_⟩) hHeld0 ?_
         rotate_left
         · ((intro w hSw; (try dsimp only at hSw); go_simp) <;> (first | with_reducible rfl | (rw [if_neg (by omega)]; done))))
      | (refine wpAnyH_take (i := 11) (oi := { dst := some 38, op := Go.Op.move (Go.Operand.tmp 37), type := 4, pos := "law.go:37", after := #[{ on := 10, ground := Go.Ground.data }], guard := none }) (v := undef) rfl (by kernel_rfl) (by kernel_rfl) (by kernel_rfl) (fun _ _ _ h => h) (Or.inr ⟨by rfl, rfl⟩) hHeld0 ?_)
      try simp only [Act.put, List.setIfInBounds_toArray, List.set_cons_zero, List.set_cons_succ]
      first
      | (refine wpAnyH_take (i := 12) (oi := { dst := some 39, op := Go.Op.move (Go.Operand.tmp 7), type := 46, pos := "law.go:37", after := #[{ on := 11, ground := Go.Ground.guard }], guard := some (11, false) }) (v := ?_) rfl (by kernel_rfl) (by kernel_rfl) (by kernel_rfl) (fun _ _ _ h => h) (Or.inl ⟨by rfl, ?_⟩) hHeld0 ?_
         rotate_left
         · ((intro w hSw; (try dsimp only at hSw); go_simp) <;> (first | with_reducible rfl | (rw [if_neg (by omega)]; done))))
      | (refine wpAnyH_take (i := 12) (oi := { dst := some 39, op := Go.Op.move (Go.Operand.tmp 7), type := 46, pos := "law.go:37", after := #[{ on := 11, ground := Go.Ground.guard }], guard := some (11, false) }) (v := undef) rfl (by kernel_rfl) (by kernel_rfl) (by kernel_rfl) (fun _ _ _ h => h) (Or.inr ⟨by rfl, rfl⟩) hHeld0 ?_)
      try simp only [Act.put, List.setIfInBounds_toArray, List.set_cons_zero, List.set_cons_succ]
      first
      | (refine wpAnyH_take (i := 13) (oi := { dst := some 40, op := Go.Op.move (Go.Operand.tmp 10), type := 3, pos := "law.go:37", after := #[{ on := 11, ground := Go.Ground.guard }], guard := some (11, false) }) (v := ?_) rfl (by kernel_rfl) (by kernel_rfl) (by kernel_rfl) (fun _ _ _ h => h) (Or.inl ⟨by rfl, ?_⟩) hHeld0 ?_
         rotate_left
         · ((intro w hSw; (try dsimp only at hSw); go_simp) <;> (first | with_reducible rfl | (rw [if_neg (by omega)]; done))))
      | (refine wpAnyH_take (i := 13) (oi := { dst := some 40, op := Go.Op.move (Go.Operand.tmp 10), type := 3, pos := "law.go:37", after := #[{ on := 11, ground := Go.Ground.guard }], guard := some (11, false) }) (v := undef) rfl (by kernel_rfl) (by kernel_rfl) (by kernel_rfl) (fun _ _ _ h => h) (Or.inr ⟨by rfl, rfl⟩) hHeld0 ?_)
      try simp only [Act.put, List.setIfInBounds_toArray, List.set_cons_zero, List.set_cons_succ]
      first
      | (refine wpAnyH_take (i := 14) (oi := { dst := some 41, op := Go.Op.indexAddr 46 (Go.Operand.tmp 39) (Go.Operand.tmp 40), type := 0, pos := "law.go:37", after := #[{ on := 12, ground := Go.Ground.data }, { on := 13, ground := Go.Ground.data }, { on := 11, ground := Go.Ground.guard }], guard := some (11, false) }) (v := ?_) rfl (by kernel_rfl) (by kernel_rfl) (by kernel_rfl) (fun _ _ _ h => h) (Or.inl ⟨by rfl, ?_⟩) hHeld0 ?_
         rotate_left
         · ((intro w hSw; (try dsimp only at hSw); go_simp) <;> (first | with_reducible rfl | (rw [if_neg (by omega)]; done))))
      | (refine wpAnyH_take (i := 14) (oi := { dst := some 41, op := Go.Op.indexAddr 46 (Go.Operand.tmp 39) (Go.Operand.tmp 40), type := 0, pos := "law.go:37", after := #[{ on := 12, ground := Go.Ground.data }, { on := 13, ground := Go.Ground.data }, { on := 11, ground := Go.Ground.guard }], guard := some (11, false) }) (v := undef) rfl (by kernel_rfl) (by kernel_rfl) (by kernel_rfl) (fun _ _ _ h => h) (Or.inr ⟨by rfl, rfl⟩) hHeld0 ?_)
      try simp only [Act.put, List.setIfInBounds_toArray, List.set_cons_zero, List.set_cons_succ]
      first
      | (refine wpAnyH_take (i := 15) (oi := { dst := some 42, op := Go.Op.fieldAddr 72 (Go.Operand.tmp 41) 0, type := 0, pos := "law.go:37", after := #[{ on := 14, ground := Go.Ground.data }, { on := 11, ground := Go.Ground.guard }], guard := some (11, false) }) (v := ?_) rfl (by kernel_rfl) (by kernel_rfl) (by kernel_rfl) (fun _ _ _ h => h) (Or.inl ⟨by rfl, ?_⟩) hHeld0 ?_
         rotate_left
         · ((intro w hSw; (try dsimp only at hSw); go_simp) <;> (first | with_reducible rfl | (rw [if_neg (by omega)]; done))))
      | (refine wpAnyH_take (i := 15) (oi := { dst := some 42, op := Go.Op.fieldAddr 72 (Go.Operand.tmp 41) 0, type := 0, pos := "law.go:37", after := #[{ on := 14, ground := Go.Ground.data }, { on := 11, ground := Go.Ground.guard }], guard := some (11, false) }) (v := undef) rfl (by kernel_rfl) (by kernel_rfl) (by kernel_rfl) (fun _ _ _ h => h) (Or.inr ⟨by rfl, rfl⟩) hHeld0 ?_)
      try simp only [Act.put, List.setIfInBounds_toArray, List.set_cons_zero, List.set_cons_succ]
      first
      | (refine wpAnyH_take (i := 16) (oi := { dst := some 43, op := Go.Op.load 29 (Go.Operand.tmp 42), type := 29, pos := "law.go:37", after := #[{ on := 15, ground := Go.Ground.data }, { on := 11, ground := Go.Ground.guard }], guard := some (11, false) }) (v := ?_) rfl (by kernel_rfl) (by kernel_rfl) (by kernel_rfl) (fun _ _ _ h => h) (Or.inl ⟨by rfl, ?_⟩) hHeld0 ?_
         rotate_left
         · ((intro w hSw; (try dsimp only at hSw); go_simp) <;> (first | with_reducible rfl | (rw [if_neg (by omega)]; done))))
      | (refine wpAnyH_take (i := 16) (oi := { dst := some 43, op := Go.Op.load 29 (Go.Operand.tmp 42), type := 29, pos := "law.go:37", after := #[{ on := 15, ground := Go.Ground.data }, { on := 11, ground := Go.Ground.guard }], guard := some (11, false) }) (v := undef) rfl (by kernel_rfl) (by kernel_rfl) (by kernel_rfl) (fun _ _ _ h => h) (Or.inr ⟨by rfl, rfl⟩) hHeld0 ?_)
      try simp only [Act.put, List.setIfInBounds_toArray, List.set_cons_zero, List.set_cons_succ]
      first
      | (refine wpAnyH_take (i := 17) (oi := { dst := some 44, op := Go.Op.move (Go.Operand.tmp 1), type := 27, pos := "law.go:37", after := #[{ on := 11, ground := Go.Ground.guard }], guard := some (11, false) }) (v := ?_) rfl (by kernel_rfl) (by kernel_rfl) (by kernel_rfl) (fun _ _ _ h => h) (Or.inl ⟨by rfl, ?_⟩) hHeld0 ?_
         rotate_left
         · ((intro w hSw; (try dsimp only at hSw); go_simp) <;> (first | with_reducible rfl | (rw [if_neg (by omega)]; done))))
      | (refine wpAnyH_take (i := 17) (oi := { dst := some 44, op := Go.Op.move (Go.Operand.tmp 1), type := 27, pos := "law.go:37", after := #[{ on := 11, ground := Go.Ground.guard }], guard := some (11, false) }) (v := undef) rfl (by kernel_rfl) (by kernel_rfl) (by kernel_rfl) (fun _ _ _ h => h) (Or.inr ⟨by rfl, rfl⟩) hHeld0 ?_)
      try simp only [Act.put, List.setIfInBounds_toArray, List.set_cons_zero, List.set_cons_succ]
      first
      | (refine wpAnyH_take (i := 18) (oi := { dst := some 45, op := Go.Op.move (Go.Operand.tmp 10), type := 3, pos := "law.go:37", after := #[{ on := 11, ground := Go.Ground.guard }], guard := some (11, false) }) (v := ?_) rfl (by kernel_rfl) (by kernel_rfl) (by kernel_rfl) (fun _ _ _ h => h) (Or.inl ⟨by rfl, ?_⟩) hHeld0 ?_
         rotate_left
         · ((intro w hSw; (try dsimp only at hSw); go_simp) <;> (first | with_reducible rfl | (rw [if_neg (by omega)]; done))))
      | (refine wpAnyH_take (i := 18) (oi := { dst := some 45, op := Go.Op.move (Go.Operand.tmp 10), type := 3, pos := "law.go:37", after := #[{ on := 11, ground := Go.Ground.guard }], guard := some (11, false) }) (v := undef) rfl (by kernel_rfl) (by kernel_rfl) (by kernel_rfl) (fun _ _ _ h => h) (Or.inr ⟨by rfl, rfl⟩) hHeld0 ?_)
      try simp only [Act.put, List.setIfInBounds_toArray, List.set_cons_zero, List.set_cons_succ]
      first
      | (refine wpAnyH_take (i := 19) (oi := { dst := some 46, op := Go.Op.indexAddr 27 (Go.Operand.tmp 44) (Go.Operand.tmp 45), type := 0, pos := "law.go:37", after := #[{ on := 17, ground := Go.Ground.data }, { on := 18, ground := Go.Ground.data }, { on := 11, ground := Go.Ground.guard }], guard := some (11, false) }) (v := ?_) rfl (by kernel_rfl) (by kernel_rfl) (by kernel_rfl) (fun _ _ _ h => h) (Or.inl ⟨by rfl, ?_⟩) hHeld0 ?_
         rotate_left
         · ((intro w hSw; (try dsimp only at hSw); go_simp) <;> (first | with_reducible rfl | (rw [if_neg (by omega)]; done))))
      | (refine wpAnyH_take (i := 19) (oi := { dst := some 46, op := Go.Op.indexAddr 27 (Go.Operand.tmp 44) (Go.Operand.tmp 45), type := 0, pos := "law.go:37", after := #[{ on := 17, ground := Go.Ground.data }, { on := 18, ground := Go.Ground.data }, { on := 11, ground := Go.Ground.guard }], guard := some (11, false) }) (v := undef) rfl (by kernel_rfl) (by kernel_rfl) (by kernel_rfl) (fun _ _ _ h => h) (Or.inr ⟨by rfl, rfl⟩) hHeld0 ?_)
      try simp only [Act.put, List.setIfInBounds_toArray, List.set_cons_zero, List.set_cons_succ]
      first
      | (refine wpAnyH_take (i := 20) (oi := { dst := some 47, op := Go.Op.fieldAddr 62 (Go.Operand.tmp 46) 0, type := 0, pos := "law.go:37", after := #[{ on := 19, ground := Go.Ground.data }, { on := 11, ground := Go.Ground.guard }], guard := some (11, false) }) (v := ?_) rfl (by kernel_rfl) (by kernel_rfl) (by kernel_rfl) (fun _ _ _ h => h) (Or.inl ⟨by rfl, ?_⟩) hHeld0 ?_
         rotate_left
         · ((intro w hSw; (try dsimp only at hSw); go_simp) <;> (first | with_reducible rfl | (rw [if_neg (by omega)]; done))))
      | (refine wpAnyH_take (i := 20) (oi := { dst := some 47, op := Go.Op.fieldAddr 62 (Go.Operand.tmp 46) 0, type := 0, pos := "law.go:37", after := #[{ on := 19, ground := Go.Ground.data }, { on := 11, ground := Go.Ground.guard }], guard := some (11, false) }) (v := undef) rfl (by kernel_rfl) (by kernel_rfl) (by kernel_rfl) (fun _ _ _ h => h) (Or.inr ⟨by rfl, rfl⟩) hHeld0 ?_)
      try simp only [Act.put, List.setIfInBounds_toArray, List.set_cons_zero, List.set_cons_succ]
      first
      | (refine wpAnyH_take (i := 21) (oi := { dst := some 48, op := Go.Op.load 29 (Go.Operand.tmp 47), type := 29, pos := "law.go:37", after := #[{ on := 20, ground := Go.Ground.data }, { on := 11, ground := Go.Ground.guard }], guard := some (11, false) }) (v := ?_) rfl (by kernel_rfl) (by kernel_rfl) (by kernel_rfl) (fun _ _ _ h => h) (Or.inl ⟨by rfl, ?_⟩) hHeld0 ?_
         rotate_left
         · ((intro w hSw; (try dsimp only at hSw); go_simp) <;> (first | with_reducible rfl | (rw [if_neg (by omega)]; done))))
      | (refine wpAnyH_take (i := 21) (oi := { dst := some 48, op := Go.Op.load 29 (Go.Operand.tmp 47), type := 29, pos := "law.go:37", after := #[{ on := 20, ground := Go.Ground.data }, { on := 11, ground := Go.Ground.guard }], guard := some (11, false) }) (v := undef) rfl (by kernel_rfl) (by kernel_rfl) (by kernel_rfl) (fun _ _ _ h => h) (Or.inr ⟨by rfl, rfl⟩) hHeld0 ?_)
      try simp only [Act.put, List.setIfInBounds_toArray, List.set_cons_zero, List.set_cons_succ]
      refine wpAnyH_ready (rs := [22]) (by kernel_rfl) (by simp) ?_
      refine AllReadyH.cons (o := { dst := some 49, op := Go.Op.call { callee := Go.Callee.value (Go.Operand.func 24), args := #[Go.Operand.tmp 43, Go.Operand.tmp 48], argTypes := #[29, 29] }, type := 4, pos := "law.go:37", after := #[{ on := 16, ground := Go.Ground.data }, { on := 21, ground := Go.Ground.data }, { on := 11, ground := Go.Ground.chain }, { on := 11, ground := Go.Ground.guard }], guard := some (11, false) }) rfl (fun Kr22 hK => ?_) AllReadyH.nil
      go_simp
      (go_at_call 24; (with_reducible refine (HSM.out _ HVB.out HAR.out).mono ?_); rintro e w4 ⟨rfl, hb4⟩; have HB4 := Lib.hid hb4; clear hb4)
      refine hK.out _ _ ?_ (fun hHeld1 => ?_)
      · (try dsimp only); exact ⟨cell_keep4 HQ0.out HB4.out, cell_keep4 HQ1.out HB4.out, cell_keep4 HQ2.out HB4.out, cell_keep4 HP0.out HB4.out, cell_keep4 HP1.out HB4.out, cell_keep4 HP2.out HB4.out⟩
      clear hK Kr22 hHeld0
      try simp only [Act.put, List.setIfInBounds_toArray, List.set_cons_zero, List.set_cons_succ]
      first
      | (refine wpAnyH_take (i := 23) (oi := { dst := some 50, op := Go.Op.unOp Go.UnOp.not 4 (Go.Operand.tmp 49), type := 4, pos := "law.go:37", after := #[{ on := 22, ground := Go.Ground.data }, { on := 11, ground := Go.Ground.guard }], guard := some (11, false) }) (v := ?_) rfl (by kernel_rfl) (by kernel_rfl) (by kernel_rfl) (fun _ _ _ h => h) (Or.inl ⟨by rfl, ?_⟩) hHeld1 ?_
         rotate_left
         · ((intro w hSw; (try dsimp only at hSw); go_simp) <;> (first | with_reducible rfl | (rw [if_neg (by omega)]; done))))
      | (refine wpAnyH_take (i := 23) (oi := { dst := some 50, op := Go.Op.unOp Go.UnOp.not 4 (Go.Operand.tmp 49), type := 4, pos := "law.go:37", after := #[{ on := 22, ground := Go.Ground.data }, { on := 11, ground := Go.Ground.guard }], guard := some (11, false) }) (v := undef) rfl (by kernel_rfl) (by kernel_rfl) (by kernel_rfl) (fun _ _ _ h => h) (Or.inr ⟨by rfl, rfl⟩) hHeld1 ?_)
      try simp only [Act.put, List.setIfInBounds_toArray, List.set_cons_zero, List.set_cons_succ]
      first
      | (refine wpAnyH_take (i := 24) (oi := { dst := some 51, op := Go.Op.pick (Go.Operand.tmp 38) (Go.Operand.const (Go.Value.bool true)) (Go.Operand.tmp 50), type := 4, pos := "law.go:37", after := #[{ on := 11, ground := Go.Ground.data }, { on := 23, ground := Go.Ground.data }], guard := none }) (v := ?_) rfl (by kernel_rfl) (by kernel_rfl) (by kernel_rfl) (fun _ _ _ h => h) (Or.inl ⟨by rfl, ?_⟩) hHeld1 ?_
         rotate_left
         · ((intro w hSw; (try dsimp only at hSw); go_simp) <;> (first | with_reducible rfl | (rw [if_neg (by omega)]; done))))
      | (refine wpAnyH_take (i := 24) (oi := { dst := some 51, op := Go.Op.pick (Go.Operand.tmp 38) (Go.Operand.const (Go.Value.bool true)) (Go.Operand.tmp 50), type := 4, pos := "law.go:37", after := #[{ on := 11, ground := Go.Ground.data }, { on := 23, ground := Go.Ground.data }], guard := none }) (v := undef) rfl (by kernel_rfl) (by kernel_rfl) (by kernel_rfl) (fun _ _ _ h => h) (Or.inr ⟨by rfl, rfl⟩) hHeld1 ?_)
      try simp only [Act.put, List.setIfInBounds_toArray, List.set_cons_zero, List.set_cons_succ]
      refine wpAnyH_done (by kernel_rfl) ?_ _
      clear hHeld1
      have HBW := Lib.hid (Below.next (Below.drew HBW.out) HB4.out)
      have q2 := cell_keep4 HQ2.out HB4.out
      by_cases ho : r.own = o
      · rw [if_pos ho] at HNX
        have hat := HAT.out ho
        have hnl := (List.getElem?_eq_some_iff.1 hat).1
        obtain ⟨b3, off3, ad3, cp3, rfl, s0, hby3, s1⟩ := (HOT.out.below HBW.out) _ r hat
        have hn0 : (((ofV (vs.take k) o).length : Int) == ((ofV vs o).length : Int)) = false := beqf (by omega)
        have HNL := Lib.hid hnl
        have HEN : Hid ((ofV (vs.take (k + 1)) o).length = (ofV (vs.take k) o).length + 1) := Lib.hid (by rw [HNX.out]; simp)
        have ho1 : (r.own == o) = true := by simp [ho]
        have hnn : (((ofV (vs.take k) o).length : Nat) : Int) < (ofV vs o).length := by omega
        clear hat hnl HAT HNX ho
        generalize (ofV (vs.take k) o).length = n at *
        have hn1 : (0 : Int) ≤ n := by omega
        have HS0 := Lib.hid (cell_keep4 s0 (Below.drew (Below.refl _ _)))
        have HS1 := Lib.hid (cell_keep4 s1 (Below.drew (Below.refl _ _)))
        have HQ0 := Lib.hid (cell_keep4 HQ0.out (Below.next HB4.out (Below.drew (Below.refl _ _))))
        have HQ1 := Lib.hid (cell_keep4 HQ1.out (Below.next HB4.out (Below.drew (Below.refl _ _))))
        have HAR := Lib.hid (HAR.out.below (Below.next HB4.out (Below.drew (Below.refl _ _))))
        have HVB := Lib.hid (hby3.below (Below.drew (Below.refl _ _)))
        have HSM : Hid (∀ w, Bytes w (.slice ad3 r.adr.length cp3) r.adr → Bytes w (.slice r.ad r.adr.length r.cp) r.adr → Calls Try.prog 24 #[.agg #[.slice ad3 r.adr.length cp3, .int .i64 r.bits], .agg #[.slice r.ad r.adr.length r.cp, .int .i64 r.bits]] w (RightRet w true)) := Lib.hid (fun w h1 h2 => by have := rsame4_any r.adr r.adr ad3 r.ad cp3 r.cp r.bits r.bits w h1 h2; simpa using this)
        clear hby3 s0 s1 q0 q1 p0 p1 p2
        go_wp2_with fail
        have q0 := HQ0.out
        have q1 := HQ1.out
        have s0 := HS0.out
        have s1 := HS1.out
        refine wp_region_held_drew (S := (fun W => W.cell? ⟨b, off + k * 3, none⟩ = some (.slice r.ad r.adr.length r.cp) ∧ W.cell? ⟨b, off + k * 3 + 1, none⟩ = some (.int .i64 r.bits) ∧ W.cell? ⟨b3, off3 + n * 2, none⟩ = some (.slice ad3 r.adr.length cp3) ∧ W.cell? ⟨b3, off3 + n * 2 + 1, none⟩ = some (.int .i64 r.bits))) (by kernel_rfl) ?_ (fun hHeld0 => ?_)
        · (try dsimp only); exact ⟨q0, q1, s0, s1⟩
        first
        | (refine wpAnyH_take (i := 0) (oi := { dst := some 59, op := Go.Op.move (Go.Operand.tmp 8), type := 3, pos := "law.go:41", after := #[], guard := none }) (v := ?_) rfl (by kernel_rfl) (by kernel_rfl) (by kernel_rfl) (fun _ _ _ h => h) (Or.inl ⟨by rfl, ?_⟩) hHeld0 ?_
           rotate_left
           · ((intro w hSw; (try dsimp only at hSw); go_simp) <;> (first | with_reducible rfl | (rw [if_neg (by omega)]; done))))
        | (refine wpAnyH_take (i := 0) (oi := { dst := some 59, op := Go.Op.move (Go.Operand.tmp 8), type := 3, pos := "law.go:41", after := #[], guard := none }) (v := undef) rfl (by kernel_rfl) (by kernel_rfl) (by kernel_rfl) (fun _ _ _ h => h) (Or.inr ⟨by rfl, rfl⟩) hHeld0 ?_)
        try simp only [Act.put, List.setIfInBounds_toArray, List.set_cons_zero, List.set_cons_succ]
        first
        | (refine wpAnyH_take (i := 1) (oi := { dst := some 60, op := Go.Op.move (Go.Operand.tmp 9), type := 48, pos := "law.go:41", after := #[], guard := none }) (v := ?_) rfl (by kernel_rfl) (by kernel_rfl) (by kernel_rfl) (fun _ _ _ h => h) (Or.inl ⟨by rfl, ?_⟩) hHeld0 ?_
           rotate_left
           · ((intro w hSw; (try dsimp only at hSw); go_simp) <;> (first | with_reducible rfl | (rw [if_neg (by omega)]; done))))
        | (refine wpAnyH_take (i := 1) (oi := { dst := some 60, op := Go.Op.move (Go.Operand.tmp 9), type := 48, pos := "law.go:41", after := #[], guard := none }) (v := undef) rfl (by kernel_rfl) (by kernel_rfl) (by kernel_rfl) (fun _ _ _ h => h) (Or.inr ⟨by rfl, rfl⟩) hHeld0 ?_)
        try simp only [Act.put, List.setIfInBounds_toArray, List.set_cons_zero, List.set_cons_succ]
        first
        | (refine wpAnyH_take (i := 2) (oi := { dst := some 61, op := Go.Op.call { callee := Go.Callee.builtin Go.Builtin.len, args := #[Go.Operand.tmp 60], argTypes := #[48] }, type := 3, pos := "law.go:41", after := #[{ on := 1, ground := Go.Ground.data }], guard := none }) (v := ?_) rfl (by kernel_rfl) (by kernel_rfl) (by kernel_rfl) (fun _ _ _ h => h) (Or.inl ⟨by rfl, ?_⟩) hHeld0 ?_
           rotate_left
           · ((intro w hSw; (try dsimp only at hSw); go_simp) <;> (first | with_reducible rfl | (rw [if_neg (by omega)]; done))))
        | (refine wpAnyH_take (i := 2) (oi := { dst := some 61, op := Go.Op.call { callee := Go.Callee.builtin Go.Builtin.len, args := #[Go.Operand.tmp 60], argTypes := #[48] }, type := 3, pos := "law.go:41", after := #[{ on := 1, ground := Go.Ground.data }], guard := none }) (v := undef) rfl (by kernel_rfl) (by kernel_rfl) (by kernel_rfl) (fun _ _ _ h => h) (Or.inr ⟨by rfl, rfl⟩) hHeld0 ?_)
        try simp only [Act.put, List.setIfInBounds_toArray, List.set_cons_zero, List.set_cons_succ]
        first
        | (refine wpAnyH_take (i := 3) (oi := { dst := some 62, op := Go.Op.binOp Go.BinOp.eql 3 (Go.Operand.tmp 59) (Go.Operand.tmp 61) 3, type := 4, pos := "law.go:41", after := #[{ on := 0, ground := Go.Ground.data }, { on := 2, ground := Go.Ground.data }], guard := none }) (v := ?_) rfl (by kernel_rfl) (by kernel_rfl) (by kernel_rfl) (fun _ _ _ h => h) (Or.inl ⟨by rfl, ?_⟩) hHeld0 ?_
           rotate_left
           · ((intro w hSw; (try dsimp only at hSw); go_simp) <;> (first | with_reducible rfl | (rw [if_neg (by omega)]; done))))
        | (refine wpAnyH_take (i := 3) (oi := { dst := some 62, op := Go.Op.binOp Go.BinOp.eql 3 (Go.Operand.tmp 59) (Go.Operand.tmp 61) 3, type := 4, pos := "law.go:41", after := #[{ on := 0, ground := Go.Ground.data }, { on := 2, ground := Go.Ground.data }], guard := none }) (v := undef) rfl (by kernel_rfl) (by kernel_rfl) (by kernel_rfl) (fun _ _ _ h => h) (Or.inr ⟨by rfl, rfl⟩) hHeld0 ?_)
        try simp only [Act.put, List.setIfInBounds_toArray, List.set_cons_zero, List.set_cons_succ]
        first
        | (refine wpAnyH_take (i := 4) (oi := { dst := some 63, op := Go.Op.move (Go.Operand.tmp 62), type := 4, pos := "law.go:41", after := #[{ on := 3, ground := Go.Ground.data }], guard := none }) (v := ?_) rfl (by kernel_rfl) (by kernel_rfl) (by kernel_rfl) (fun _ _ _ h => h) (Or.inl ⟨by rfl, ?_⟩) hHeld0 ?_
           rotate_left
           · ((intro w hSw; (try dsimp only at hSw); go_simp) <;> (first | with_reducible rfl | (rw [if_neg (by omega)]; done))))
        | (refine wpAnyH_take (i := 4) (oi := { dst := some 63, op := Go.Op.move (Go.Operand.tmp 62), type := 4, pos := "law.go:41", after := #[{ on := 3, ground := Go.Ground.data }], guard := none }) (v := undef) rfl (by kernel_rfl) (by kernel_rfl) (by kernel_rfl) (fun _ _ _ h => h) (Or.inr ⟨by rfl, rfl⟩) hHeld0 ?_)
        try simp only [Act.put, List.setIfInBounds_toArray, List.set_cons_zero, List.set_cons_succ]
        first
        | (refine wpAnyH_take (i := 5) (oi := { dst := some 64, op := Go.Op.move (Go.Operand.tmp 9), type := 48, pos := "law.go:41", after := #[{ on := 4, ground := Go.Ground.guard }], guard := some (4, false) }) (v := ?_) rfl (by kernel_rfl) (by kernel_rfl) (by kernel_rfl) (fun _ _ _ h => h) (Or.inl ⟨by rfl, ?_⟩) hHeld0 ?_
           rotate_left
           · ((intro w hSw; (try dsimp only at hSw); go_simp) <;> (first | with_reducible rfl | (rw [if_neg (by omega)]; done))))
        | (refine wpAnyH_take (i := 5) (oi := { dst := some 64, op := Go.Op.move (Go.Operand.tmp 9), type := 48, pos := "law.go:41", after := #[{ on := 4, ground := Go.Ground.guard }], guard := some (4, false) }) (v := undef) rfl (by kernel_rfl) (by kernel_rfl) (by kernel_rfl) (fun _ _ _ h => h) (Or.inr ⟨by rfl, rfl⟩) hHeld0 ?_)
        try simp only [Act.put, List.setIfInBounds_toArray, List.set_cons_zero, List.set_cons_succ]
        first
        | (refine wpAnyH_take (i := 6) (oi := { dst := some 65, op := Go.Op.move (Go.Operand.tmp 8), type := 3, pos := "law.go:41", after := #[{ on := 4, ground := Go.Ground.guard }], guard := some (4, false) }) (v := ?_) rfl (by kernel_rfl) (by kernel_rfl) (by kernel_rfl) (fun _ _ _ h => h) (Or.inl ⟨by rfl, ?_⟩) hHeld0 ?_
           rotate_left
           · ((intro w hSw; (try dsimp only at hSw); go_simp) <;> (first | with_reducible rfl | (rw [if_neg (by omega)]; done))))
        | (refine wpAnyH_take (i := 6) (oi := { dst := some 65, op := Go.Op.move (Go.Operand.tmp 8), type := 3, pos := "law.go:41", after := #[{ on := 4, ground := Go.Ground.guard }], guard := some (4, false) }) (v := undef) rfl (by kernel_rfl) (by kernel_rfl) (by kernel_rfl) (fun _ _ _ h => h) (Or.inr ⟨by rfl, rfl⟩) hHeld0 ?_)
        try simp only [Act.put, List.setIfInBounds_toArray, List.set_cons_zero, List.set_cons_succ]
        first
        | (refine wpAnyH_take (i := 7) (oi := { dst := some 66, op := Go.Op.indexAddr 48 (Go.Operand.tmp 64) (Go.Operand.tmp 65), type := 0, pos := "law.go:41", after := #[{ on := 5, ground := Go.Ground.data }, { on := 6, ground := Go.Ground.data }, { on := 4, ground := Go.Ground.guard }], guard := some (4, false) }) (v := ?_) rfl (by kernel_rfl) (by kernel_rfl) (by kernel_rfl) (fun _ _ _ h => h) (Or.inl ⟨by rfl, ?_⟩) hHeld0 ?_
           rotate_left
           · ((intro w hSw; (try dsimp only at hSw); go_simp) <;> (first | with_reducible rfl | (rw [if_neg (by omega)]; done))))
        | (refine wpAnyH_take (i := 7) (oi := { dst := some 66, op := Go.Op.indexAddr 48 (Go.Operand.tmp 64) (Go.Operand.tmp 65), type := 0, pos := "law.go:41", after := #[{ on := 5, ground := Go.Ground.data }, { on := 6, ground := Go.Ground.data }, { on := 4, ground := Go.Ground.guard }], guard := some (4, false) }) (v := undef) rfl (by kernel_rfl) (by kernel_rfl) (by kernel_rfl) (fun _ _ _ h => h) (Or.inr ⟨by rfl, rfl⟩) hHeld0 ?_)
        try simp only [Act.put, List.setIfInBounds_toArray, List.set_cons_zero, List.set_cons_succ]
        first
        | (refine wpAnyH_take (i := 8) (oi := { dst := some 67, op := Go.Op.load 29 (Go.Operand.tmp 66), type := 29, pos := "law.go:41", after := #[{ on := 7, ground := Go.Ground.data }, { on := 4, ground := Go.Ground.guard }], guard := some (4, false) }) (v := ?_) rfl (by kernel_rfl) (by kernel_rfl) (by kernel_rfl) (fun _ _ _ h => h) (Or.inl ⟨by rfl, ?_⟩) hHeld0 ?_
           rotate_left
           · ((intro w hSw; (try dsimp only at hSw); go_simp) <;> (first | with_reducible rfl | (rw [if_neg (by omega)]; done))))
        | (refine wpAnyH_take (i := 8) (oi := { dst := some 67, op := Go.Op.load 29 (Go.Operand.tmp 66), type := 29, pos := "law.go:41", after := #[{ on := 7, ground := Go.Ground.data }, { on := 4, ground := Go.Ground.guard }], guard := some (4, false) }) (v := undef) rfl (by kernel_rfl) (by kernel_rfl) (by kernel_rfl) (fun _ _ _ h => h) (Or.inr ⟨by rfl, rfl⟩) hHeld0 ?_)
        try simp only [Act.put, List.setIfInBounds_toArray, List.set_cons_zero, List.set_cons_succ]
        first
        | (refine wpAnyH_take (i := 9) (oi := { dst := some 68, op := Go.Op.move (Go.Operand.tmp 1), type := 27, pos := "law.go:41", after := #[{ on := 4, ground := Go.Ground.guard }], guard := some (4, false) }) (v := ?_) rfl (by kernel_rfl) (by kernel_rfl) (by kernel_rfl) (fun _ _ _ h => h) (Or.inl ⟨by rfl, ?_⟩) hHeld0 ?_
           rotate_left
           · ((intro w hSw; (try dsimp only at hSw); go_simp) <;> (first | with_reducible rfl | (rw [if_neg (by omega)]; done))))
        | (refine wpAnyH_take (i := 9) (oi := { dst := some 68, op := Go.Op.move (Go.Operand.tmp 1), type := 27, pos := "law.go:41", after := #[{ on := 4, ground := Go.Ground.guard }], guard := some (4, false) }) (v := undef) rfl (by kernel_rfl) (by kernel_rfl) (by kernel_rfl) (fun _ _ _ h => h) (Or.inr ⟨by rfl, rfl⟩) hHeld0 ?_)
        try simp only [Act.put, List.setIfInBounds_toArray, List.set_cons_zero, List.set_cons_succ]
        first
        | (refine wpAnyH_take (i := 10) (oi := { dst := some 69, op := Go.Op.move (Go.Operand.tmp 10), type := 3, pos := "law.go:41", after := #[{ on := 4, ground := Go.Ground.guard }], guard := some (4, false) }) (v := ?_) rfl (by kernel_rfl) (by kernel_rfl) (by kernel_rfl) (fun _ _ _ h => h) (Or.inl ⟨by rfl, ?_⟩) hHeld0 ?_
           rotate_left
           · ((intro w hSw; (try dsimp only at hSw); go_simp) <;> (first | with_reducible rfl | (rw [if_neg (by omega)]; done))))
        | (refine wpAnyH_take (i := 10) (oi := { dst := some 69, op := Go.Op.move (Go.Operand.tmp 10), type := 3, pos := "law.go:41", after := #[{ on := 4, ground := Go.Ground.guard }], guard := some (4, false) }) (v := undef) rfl (by kernel_rfl) (by kernel_rfl) (by kernel_rfl) (fun _ _ _ h => h) (Or.inr ⟨by rfl, rfl⟩) hHeld0 ?_)
        try simp only [Act.put, List.setIfInBounds_toArray, List.set_cons_zero, List.set_cons_succ]
        first
        | (refine wpAnyH_take (i := 11) (oi := { dst := some 70, op := Go.Op.indexAddr 27 (Go.Operand.tmp 68) (Go.Operand.tmp 69), type := 0, pos := "law.go:41", after := #[{ on := 9, ground := Go.Ground.data }, { on := 10, ground := Go.Ground.data }, { on := 4, ground := Go.Ground.guard }], guard := some (4, false) }) (v := ?_) rfl (by kernel_rfl) (by kernel_rfl) (by kernel_rfl) (fun _ _ _ h => h) (Or.inl ⟨by rfl, ?_⟩) hHeld0 ?_
           rotate_left
           · ((intro w hSw; (try dsimp only at hSw); go_simp) <;> (first | with_reducible rfl | (rw [if_neg (by omega)]; done))))
        | (refine wpAnyH_take (i := 11) (oi := { dst := some 70, op := Go.Op.indexAddr 27 (Go.Operand.tmp 68) (Go.Operand.tmp 69), type := 0, pos := "law.go:41", after := #[{ on := 9, ground := Go.Ground.data }, { on := 10, ground := Go.Ground.data }, { on := 4, ground := Go.Ground.guard }], guard := some (4, false) }) (v := undef) rfl (by kernel_rfl) (by kernel_rfl) (by kernel_rfl) (fun _ _ _ h => h) (Or.inr ⟨by rfl, rfl⟩) hHeld0 ?_)
        try simp only [Act.put, List.setIfInBounds_toArray, List.set_cons_zero, List.set_cons_succ]
        first
        | (refine wpAnyH_take (i := 12) (oi := { dst := some 71, op := Go.Op.fieldAddr 62 (Go.Operand.tmp 70) 0, type := 0, pos := "law.go:41", after := #[{ on := 11, ground := Go.Ground.data }, { on := 4, ground := Go.Ground.guard }], guard := some (4, false) }) (v := ?_) rfl (by kernel_rfl) (by kernel_rfl) (by kernel_rfl) (fun _ _ _ h => h) (Or.inl ⟨by rfl, ?_⟩) hHeld0 ?_
           rotate_left
           · ((intro w hSw; (try dsimp only at hSw); go_simp) <;> (first | with_reducible rfl | (rw [if_neg (by omega)]; done))))
        | (refine wpAnyH_take (i := 12) (oi := { dst := some 71, op := Go.Op.fieldAddr 62 (Go.Operand.tmp 70) 0, type := 0, pos := "law.go:41", after := #[{ on := 11, ground := Go.Ground.data }, { on := 4, ground := Go.Ground.guard }], guard := some (4, false) }) (v := undef) rfl (by kernel_rfl) (by kernel_rfl) (by kernel_rfl) (fun _ _ _ h => h) (Or.inr ⟨by rfl, rfl⟩) hHeld0 ?_)
        try simp only [Act.put, List.setIfInBounds_toArray, List.set_cons_zero, List.set_cons_succ]
        first
        | (refine wpAnyH_take (i := 13) (oi := { dst := some 72, op := Go.Op.load 29 (Go.Operand.tmp 71), type := 29, pos := "law.go:41", after := #[{ on := 12, ground := Go.Ground.data }, { on := 4, ground := Go.Ground.guard }], guard := some (4, false) }) (v := ?_) rfl (by kernel_rfl) (by kernel_rfl) (by kernel_rfl) (fun _ _ _ h => h) (Or.inl ⟨by rfl, ?_⟩) hHeld0 ?_
           rotate_left
           · ((intro w hSw; (try dsimp only at hSw); go_simp) <;> (first | with_reducible rfl | (rw [if_neg (by omega)]; done))))
        | (refine wpAnyH_take (i := 13) (oi := { dst := some 72, op := Go.Op.load 29 (Go.Operand.tmp 71), type := 29, pos := "law.go:41", after := #[{ on := 12, ground := Go.Ground.data }, { on := 4, ground := Go.Ground.guard }], guard := some (4, false) }) (v := undef) rfl (by kernel_rfl) (by kernel_rfl) (by kernel_rfl) (fun _ _ _ h => h) (Or.inr ⟨by rfl, rfl⟩) hHeld0 ?_)
        try simp only [Act.put, List.setIfInBounds_toArray, List.set_cons_zero, List.set_cons_succ]
        refine wpAnyH_ready (rs := [14]) (by kernel_rfl) (by simp) ?_
        refine AllReadyH.cons (o := { dst := some 73, op := Go.Op.call { callee := Go.Callee.value (Go.Operand.func 24), args := #[Go.Operand.tmp 67, Go.Operand.tmp 72], argTypes := #[29, 29] }, type := 4, pos := "law.go:41", after := #[{ on := 8, ground := Go.Ground.data }, { on := 13, ground := Go.Ground.data }, { on := 4, ground := Go.Ground.chain }, { on := 4, ground := Go.Ground.guard }], guard := some (4, false) }) rfl (fun Kr14 hK => ?_) AllReadyH.nil
        go_simp
        (go_at_call 24; (with_reducible refine (HSM.out _ HVB.out HAR.out).mono ?_); rintro e w5 ⟨rfl, hb4⟩; have HB5 := Lib.hid hb4; clear hb4)
        refine hK.out _ _ ?_ (fun hHeld1 => ?_)
        · (try dsimp only); exact ⟨cell_keep4 HQ0.out HB5.out, cell_keep4 HQ1.out HB5.out, cell_keep4 HS0.out HB5.out, cell_keep4 HS1.out HB5.out⟩
        clear hK Kr14 hHeld0
        try simp only [Act.put, List.setIfInBounds_toArray, List.set_cons_zero, List.set_cons_succ]
        first
        | (refine wpAnyH_take (i := 15) (oi := { dst := some 74, op := Go.Op.unOp Go.UnOp.not 4 (Go.Operand.tmp 73), type := 4, pos := "law.go:41", after := #[{ on := 14, ground := Go.Ground.data }, { on := 4, ground := Go.Ground.guard }], guard := some (4, false) }) (v := ?_) rfl (by kernel_rfl) (by kernel_rfl) (by kernel_rfl) (fun _ _ _ h => h) (Or.inl ⟨by rfl, ?_⟩) hHeld1 ?_
           rotate_left
           · ((intro w hSw; (try dsimp only at hSw); go_simp) <;> (first | with_reducible rfl | (rw [if_neg (by omega)]; done))))
        | (refine wpAnyH_take (i := 15) (oi := { dst := some 74, op := Go.Op.unOp Go.UnOp.not 4 (Go.Operand.tmp 73), type := 4, pos := "law.go:41", after := #[{ on := 14, ground := Go.Ground.data }, { on := 4, ground := Go.Ground.guard }], guard := some (4, false) }) (v := undef) rfl (by kernel_rfl) (by kernel_rfl) (by kernel_rfl) (fun _ _ _ h => h) (Or.inr ⟨by rfl, rfl⟩) hHeld1 ?_)
        try simp only [Act.put, List.setIfInBounds_toArray, List.set_cons_zero, List.set_cons_succ]
        first
        | (refine wpAnyH_take (i := 16) (oi := { dst := some 75, op := Go.Op.pick (Go.Operand.tmp 63) (Go.Operand.const (Go.Value.bool true)) (Go.Operand.tmp 74), type := 4, pos := "law.go:41", after := #[{ on := 4, ground := Go.Ground.data }, { on := 15, ground := Go.Ground.data }], guard := none }) (v := ?_) rfl (by kernel_rfl) (by kernel_rfl) (by kernel_rfl) (fun _ _ _ h => h) (Or.inl ⟨by rfl, ?_⟩) hHeld1 ?_
           rotate_left
           · ((intro w hSw; (try dsimp only at hSw); go_simp) <;> (first | with_reducible rfl | (rw [if_neg (by omega)]; done))))
        | (refine wpAnyH_take (i := 16) (oi := { dst := some 75, op := Go.Op.pick (Go.Operand.tmp 63) (Go.Operand.const (Go.Value.bool true)) (Go.Operand.tmp 74), type := 4, pos := "law.go:41", after := #[{ on := 4, ground := Go.Ground.data }, { on := 15, ground := Go.Ground.data }], guard := none }) (v := undef) rfl (by kernel_rfl) (by kernel_rfl) (by kernel_rfl) (fun _ _ _ h => h) (Or.inr ⟨by rfl, rfl⟩) hHeld1 ?_)
        try simp only [Act.put, List.setIfInBounds_toArray, List.set_cons_zero, List.set_cons_succ]
        refine wpAnyH_done (by kernel_rfl) ?_ _
        clear hHeld1
        go_wp2_with fail
        go_roundw
        case rel => exact ⟨k + 1, by go_num, HLT.out, by rw [HEN.out]; go_num, Below.next (Below.drew HBW.out) HB5.out⟩
        case measure => simp [intOf]; omega
      · rw [if_neg ho] at HNX
        have ho1 : (r.own == o) = false := beqf ho
        clear ho HAT
        go_wp2_with fail
        go_roundw
        case rel => exact ⟨k + 1, by go_num, HLT.out, by rw [HNX.out], HBW.out⟩
        case measure => simp [intOf]; omega
    · obtain rfl : k = vs.length := by omega
      rw [List.take_length]
      go_wp2_with fail
      go_ret
      exact ⟨ret_bool (by simp), Below.next HB.out HBW.out⟩
end Go.Proofs.Ytlmmnjoincmgcaa

namespace Go.Proofs.Ytlmmnjoincmgcaa
set_option linter.unusedVariables false
set_option linter.unusedSimpArgs false
set_option maxRecDepth 100000
open Go.RowKit
/-- a call of the program that changes its own table only: what lies below the base, bytes, the reference's rows and boxes of prefixes stay -/
structure Keeps (base : Nat) (w w' : World) : Prop where
  bel : Below base w w'
  blk : ∀ (k : Nat) (cur : Array Value) (t : TypeId) (fz : Nat × Nat), w.heap[k]? = some (.cells cur t fz) → (t = 5 ∨ t = 62 ∨ t = 29) → w'.heap[k]? = some (.cells cur t fz)
theorem heap_lt {w : World} {k : Nat} {o : Obj} (h : w.heap[k]? = some o) : k < w.heap.size := (Array.getElem?_eq_some_iff.1 h).1
theorem TypAt.keeps {base : Nat} {w w' : World} {a : Option Addr} {t : TypeId} (h : TypAt w a t) (hk : Keeps base w w') (ht : t = 5 ∨ t = 62 ∨ t = 29) : TypAt w' a t := by
  intro b off x e
  obtain ⟨cur, fz, hc⟩ := h b off x e
  exact ⟨cur, fz, hk.blk b cur t fz hc ht⟩
theorem keeps_cell {base : Nat} {w w' : World} {b off : Nat} {t : TypeId} {x : Option (List Nat)} (h : TypAt w (some ⟨b, off, none⟩) t) (hk : Keeps base w w') (ht : t = 5 ∨ t = 62 ∨ t = 29) (i : Nat) : w'.cell? ⟨b, i, none⟩ = w.cell? ⟨b, i, none⟩ := by
  obtain ⟨cur, fz, hc⟩ := h b off none rfl
  exact World.cell?_of_block ((hk.blk b cur t fz hc ht).trans hc.symm)
theorem RowsAt.keeps {base : Nat} {w w' : World} {a : Option Addr} {cap : Nat} {vs : List Rw} (h : RowsAt w a cap vs) (hk : Keeps base w w') : RowsAt w' a cap vs := by
  refine ⟨h.le, h.max, h.nil, h.frm, h.typ.keeps hk (.inr (.inl rfl)), ?_⟩
  rcases h.at' with h2 | ⟨b, off, rfl, hc⟩
  · exact .inl h2
  · exact .inr ⟨b, off, rfl, fun j u hj => (keeps_cell (x := none) h.typ hk (.inr (.inl rfl)) _).trans (hc j u hj)⟩
theorem bytes_keeps {base : Nat} {w w' : World} {a : Option Addr} {n cp : Nat} {l : List UInt8} (h : Bytes w (.slice a n cp) l) (ht : TypAt w a 5) (hk : Keeps base w w') : Bytes w' (.slice a n cp) l := by
  obtain ⟨a2, cp2, e, h2⟩ := h
  refine ⟨a2, cp2, e, ?_⟩
  injection e with e1 e2 e3
  subst e1
  rcases h2 with h2 | ⟨b, off, rfl, hc⟩
  · exact .inl h2
  · exact .inr ⟨b, off, rfl, fun i hi => (keeps_cell (x := none) ht hk (.inl rfl) _).trans (hc i hi)⟩
theorem AdrOk.keeps {base : Nat} {w w' : World} {vs : List Rw} (h : AdrOk w vs) (hk : Keeps base w w') : AdrOk w' vs := fun r hr => ⟨bytes_keeps (h r hr).1 (h r hr).2 hk, (h r hr).2.keeps hk (.inl rfl)⟩
/-- what is asked of the program: T w base B vs: the table in block B has these rows, and nothing of it lies below the base -/
structure TrieC (T : World → Nat → Nat → List Rw → Prop) : Prop where
  below : ∀ w w' base B vs, T w base B vs → Below w.heap.size w w' → T w' base B vs
  new : ∀ w, Calls Try.prog 6 #[] w fun e w' => ∃ B, e = .returned (.pointer (some ⟨B, 0, none⟩)) ∧ T w' w.heap.size B [] ∧ Below w.heap.size w w'
  putNo : ∀ w base B vs ad cp adr bits own, T w base B vs → vs.length ≤ 60 → Bytes w (.slice ad adr.length cp) adr → adr.length ≤ 40 → rightP adr.length bits = false →
    Calls Try.prog 8 #[.pointer (some ⟨B, 0, none⟩), .agg #[.slice ad adr.length cp, .int .i64 bits], .int .i64 own] w fun e w' => e = .returned (.int .i64 3) ∧ T w' base B vs ∧ Keeps base w w'
  putArg : ∀ w base B vs ad cp adr bits own, T w base B vs → vs.length ≤ 60 → Bytes w (.slice ad adr.length cp) adr → adr.length ≤ 40 → rightP adr.length bits = true → own < 0 →
    Calls Try.prog 8 #[.pointer (some ⟨B, 0, none⟩), .agg #[.slice ad adr.length cp, .int .i64 bits], .int .i64 own] w fun e w' => e = .returned (.int .i64 2) ∧ T w' base B vs ∧ Keeps base w w'
  put : ∀ w base B vs ad cp adr bits own, T w base B vs → vs.length ≤ 60 → Bytes w (.slice ad adr.length cp) adr → adr.length ≤ 40 → rightP adr.length bits = true → ¬ own < 0 →
    Calls Try.prog 8 #[.pointer (some ⟨B, 0, none⟩), .agg #[.slice ad adr.length cp, .int .i64 bits], .int .i64 own] w fun e w' => e = .returned (.int .i64 0) ∧ (∀ pa pc, T w' base B (putV vs ⟨pa, pc, plainS adr bits.toNat, bits, own⟩)) ∧ Keeps base w w'
  delNo : ∀ w base B vs ad cp adr bits, T w base B vs → vs.length ≤ 60 → Bytes w (.slice ad adr.length cp) adr → adr.length ≤ 40 → rightP adr.length bits = false →
    Calls Try.prog 12 #[.pointer (some ⟨B, 0, none⟩), .agg #[.slice ad adr.length cp, .int .i64 bits]] w fun e w' => e = .returned (.bool false) ∧ T w' base B vs ∧ Keeps base w w'
  del : ∀ w base B vs ad cp adr bits, T w base B vs → vs.length ≤ 60 → Bytes w (.slice ad adr.length cp) adr → adr.length ≤ 40 → rightP adr.length bits = true →
    Calls Try.prog 12 #[.pointer (some ⟨B, 0, none⟩), .agg #[.slice ad adr.length cp, .int .i64 bits]] w fun e w' => e = .returned (.bool (delV vs (plainS adr bits.toNat) bits).2) ∧ T w' base B (delV vs (plainS adr bits.toNat) bits).1 ∧ Keeps base w w'
  drop : ∀ w base B vs own, T w base B vs → vs.length ≤ 60 →
    Calls Try.prog 14 #[.pointer (some ⟨B, 0, none⟩), .int .i64 own] w fun e w' => e = .returned (.int .i64 ((vs.length : Int) - (dropV vs own).length)) ∧ T w' base B (dropV vs own) ∧ Keeps base w w'
  owner : ∀ w base B vs v A, T w base B vs → vs.length ≤ 60 → Bytes w v A → A.length ≤ 40 →
    Calls Try.prog 15 #[.pointer (some ⟨B, 0, none⟩), v] w (OwnerRet (ownerV vs A) w)
  rows : ∀ w base B vs, T w base B vs → vs.length ≤ 60 → Calls Try.prog 18 #[.pointer (some ⟨B, 0, none⟩)] w (RowsTold vs w)
  of : ∀ w base B vs own, T w base B vs → vs.length ≤ 60 → Calls Try.prog 19 #[.pointer (some ⟨B, 0, none⟩), .int .i64 own] w (OfTold (ofV vs own) w)
/-- an act as it lies in memory -/
structure Ac where
  kind : Int
  ad : Option Addr
  cp : Nat
  adr : List UInt8
  bits : Int
  own : Int
def ActsAt (w : World) (a : Option Addr) (ls : List Ac) : Prop := ∀ i x, ls[i]? = some x → ∃ b off, a = some ⟨b, off, none⟩ ∧ w.cell? ⟨b, off + i * 4, none⟩ = some (.int .u8 x.kind) ∧ w.cell? ⟨b, off + i * 4 + 1, none⟩ = some (.slice x.ad x.adr.length x.cp) ∧ w.cell? ⟨b, off + i * 4 + 2, none⟩ = some (.int .i64 x.bits) ∧ w.cell? ⟨b, off + i * 4 + 3, none⟩ = some (.int .i64 x.own) ∧ Bytes w (.slice x.ad x.adr.length x.cp) x.adr
theorem ActsAt.below {w w' : World} {a : Option Addr} {ls : List Ac} (h : ActsAt w a ls) (hb : Below w.heap.size w w') : ActsAt w' a ls := by
  intro i x hx
  obtain ⟨b, off, e, h0, h1, h2, h3, h4⟩ := h i x hx
  exact ⟨b, off, e, cell_keep4 h0 hb, cell_keep4 h1 hb, cell_keep4 h2 hb, cell_keep4 h3 hb, h4.below hb⟩
/-- the table and the reference's rows, side by side, since the world w -/
structure TrInv (T : World → Nat → Nat → List Rw → Prop) (w W : World) (base B : Nat) (vs : List Rw) (a : Option Addr) (cap : Nat) : Prop where
  siz : w.heap.size ≤ base
  bel : Below w.heap.size w W
  tab : T W base B vs
  row : RowsAt W a cap vs
  adr : AdrOk W vs
  sh : ∀ r ∈ vs, r.adr.length ≤ 40
theorem TrInv.below {T : World → Nat → Nat → List Rw → Prop} (C : TrieC T) {w W W' : World} {base B : Nat} {vs : List Rw} {a : Option Addr} {cap : Nat} (h : TrInv T w W base B vs a cap) (hb : Below W.heap.size W W') : TrInv T w W' base B vs a cap :=
  ⟨h.siz, Below.next h.bel hb, C.below _ _ _ _ _ h.tab hb, h.row.below hb, h.adr.below hb, h.sh⟩
/-- the table has other rows, the reference hasn't yet -/
structure TrMid (T : World → Nat → Nat → List Rw → Prop) (w W : World) (base : Nat) (vs : List Rw) (a : Option Addr) (cap : Nat) : Prop where
  siz : w.heap.size ≤ base
  bel : Below w.heap.size w W
  row : RowsAt W a cap vs
  adr : AdrOk W vs
  sh : ∀ r ∈ vs, r.adr.length ≤ 40
theorem TrInv.keeps {T : World → Nat → Nat → List Rw → Prop} {w W W' : World} {base B : Nat} {vs : List Rw} {a : Option Addr} {cap : Nat} (h : TrInv T w W base B vs a cap) (hk : Keeps base W W') : TrMid T w W' base vs a cap :=
  ⟨h.siz, h.bel.trans (hk.bel.mono h.siz), h.row.keeps hk, h.adr.keeps hk, h.sh⟩
theorem TrMid.below {T : World → Nat → Nat → List Rw → Prop} {w W W' : World} {base : Nat} {vs : List Rw} {a : Option Addr} {cap : Nat} (h : TrMid T w W base vs a cap) (hb : Below W.heap.size W W') : TrMid T w W' base vs a cap :=
  ⟨h.siz, Below.next h.bel hb, h.row.below hb, h.adr.below hb, h.sh⟩
theorem TrMid.done {T : World → Nat → Nat → List Rw → Prop} {w W : World} {base B : Nat} {vs vs2 : List Rw} {a a2 : Option Addr} {cap cap2 : Nat} (h : TrMid T w W base vs a cap) (ht : T W base B vs2) (hr : RowsAt W a2 cap2 vs2) (ha : AdrOk W vs2) (hs : ∀ r ∈ vs2, r.adr.length ≤ 40) : TrInv T w W base B vs2 a2 cap2 :=
  ⟨h.siz, h.bel, ht, hr, ha, hs⟩
theorem putV_mem {vs : List Rw} {p r : Rw} (h : r ∈ putV vs p) : r ∈ vs ∨ r = p := by
  unfold putV at h
  rcases List.mem_append.1 h with h | h
  · rcases List.mem_append.1 h with h | h
    · exact .inl (delV_sub _ _ _ _ (List.mem_of_mem_take h))
    · exact .inr (List.mem_singleton.1 h)
  · exact .inl (delV_sub _ _ _ _ (List.mem_of_mem_drop h))
theorem putV_len (vs : List Rw) (p : Rw) : (putV vs p).length ≤ vs.length + 1 := by
  have h1 := delV_len vs p.adr p.bits
  unfold putV
  simp only [List.length_append, List.length_take, List.length_drop, List.length_cons, List.length_nil]
  omega
theorem AdrOk.put {w : World} {vs : List Rw} {p : Rw} (h : AdrOk w vs) (hb : Bytes w p.sl p.adr) (ht : TypAt w p.ad 5) : AdrOk w (putV vs p) := by
  intro r hr
  rcases putV_mem hr with hr | rfl
  · exact h r hr
  · exact ⟨hb, ht⟩
end Go.Proofs.Ytlmmnjoincmgcaa
