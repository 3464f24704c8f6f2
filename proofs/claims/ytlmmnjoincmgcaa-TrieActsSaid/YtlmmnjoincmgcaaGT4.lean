/- Texts of this seat, merged: Tri7, Tri8. -/
import Derived.Test.YtlmmnjoincmgcaaGT3
namespace Go.Proofs.Ytlmmnjoincmgcaa
set_option linter.unusedVariables false
set_option linter.unusedSimpArgs false
set_option maxRecDepth 100000
open Go.RowKit
/-- how many rows stand ahead of a prefix, from the first one on -/
def aheadV (vs : List Rw) (adr : List UInt8) (bits : Int) : Nat := (vs.takeWhile fun r => beforeP r.adr r.bits adr bits).length
def putV (vs : List Rw) (p : Rw) : List Rw := ((delV vs p.adr p.bits).1.take (aheadV (delV vs p.adr p.bits).1 p.adr p.bits) ++ [p]) ++ (delV vs p.adr p.bits).1.drop (aheadV (delV vs p.adr p.bits).1 p.adr p.bits)
theorem ahead_le (vs : List Rw) (adr : List UInt8) (bits : Int) : aheadV vs adr bits ≤ vs.length := (List.takeWhile_sublist _).length_le
theorem ahead_at {vs : List Rw} {adr : List UInt8} {bits : Int} : ∀ {k : Nat}, k ≤ vs.length → (∀ r ∈ vs.take k, beforeP r.adr r.bits adr bits = true) → (k = vs.length ∨ ∃ r, vs[k]? = some r ∧ beforeP r.adr r.bits adr bits = false) → aheadV vs adr bits = k := by
  unfold aheadV
  induction vs with
  | nil => intro k hk _ _; simp at hk; simp [hk]
  | cons x vs ih =>
    intro k hk ht hd
    cases k with
    | zero =>
      rcases hd with hd | ⟨r, hr, hb⟩
      · simp at hd
      · have : x = r := by simpa using hr
        subst this
        simp [List.takeWhile, hb]
    | succ k =>
      have hx := ht x (by simp)
      simp only [List.takeWhile, hx, List.length_cons]
      rw [ih (k := k) (by simpa using hk) (fun r hr => ht r (by simp [hr])) (by
        rcases hd with hd | ⟨r, hr, hb⟩
        · left; simpa using hd
        · right; exact ⟨r, by simpa using hr, hb⟩)]
theorem all_next_bef {vs : List Rw} {k : Nat} {r : Rw} {adr : List UInt8} {bits : Int} (h : ∀ r ∈ vs.take k, beforeP r.adr r.bits adr bits = true) (hr : vs[k]? = some r) (hq : beforeP r.adr r.bits adr bits = true) : ∀ r ∈ vs.take (k + 1), beforeP r.adr r.bits adr bits = true := by
  have hlt := (List.getElem?_eq_some_iff.1 hr).1
  have e : vs[k] = r := (List.getElem?_eq_some_iff.1 hr).2
  intro x hx
  rw [List.take_succ_eq_append_getElem hlt, e] at hx
  rcases List.mem_append.1 hx with hx | hx
  · exact h x hx
  · rw [List.mem_singleton.1 hx]; exact hq
theorem RowsAt.grown {w w' : World} {b off cap j : Nat} {vs : List Rw} (h : RowsAt w (some ⟨b, off, none⟩) cap vs) (hg : w.grownBy w' (some j)) (hne : b ≠ j) : RowsAt w' (some ⟨b, off, none⟩) cap vs := by
  have hb : w'.heap[b]? = w.heap[b]? := by
    obtain ⟨cur, fz, hc⟩ := h.typ b off none rfl
    exact hg.block b (Array.getElem?_eq_some_iff.1 hc).1 (fun e => hne (by cases e; rfl))
  refine ⟨h.le, h.max, h.nil, h.frm, ?_, ?_⟩
  · intro b' off' x' e
    obtain ⟨cur, fz, hc⟩ := h.typ b' off' x' e
    cases e
    exact ⟨cur, fz, hb.trans hc⟩
  · rcases h.at' with h4 | ⟨b', off', e, hc⟩
    · exact .inl h4
    · cases e
      exact .inr ⟨b, off, rfl, fun j u hj => (World.cell?_of_block (a := ⟨b, off + j, none⟩) hb).trans (hc j u hj)⟩
set_option maxHeartbeats 4000000 in
theorem rput_any (a : Option Addr) (cap : Nat) (vs : List Rw) (pa : Option Addr) (pc : Nat) (adr : List UInt8) (bits o : Int) (w : World) (hv : RowsAt w a cap vs) (ha : AdrOk w vs) (hp : Bytes w (.slice pa adr.length pc) adr) (hl : vs.length ≤ 1000) :
    Calls Try.prog 9 #[.slice a vs.length cap, .agg #[.slice pa adr.length pc, .int .i64 bits], .int .i64 o] w (RowsRet (putV vs ⟨pa, pc, adr, bits, o⟩) w) := by
  obtain ⟨w1, hw1⟩ : ∃ w1, w1 = w.alloc (.cells #[.slice pa adr.length pc, .int .i64 bits] 29) := ⟨_, rfl⟩
  have b1 : Below w.heap.size w w1 := by rw [hw1]; exact (Below.refl _ _).alloc (Nat.le_refl _) _
  have x1 : w1.heap[w.heap.size]? = some (.cells #[.slice pa adr.length pc, .int .i64 bits] 29 (0, 0)) := by rw [hw1]; exact heap_alloc_new w _
  have HB1 := Lib.hid b1
  have HX1 := Lib.hid x1
  have HAO := Lib.hid (ha.below b1)
  have HPO := Lib.hid (hp.below b1)
  have HL := Lib.hid hl
  have HDL := Lib.hid (rdel_any a cap vs pa pc adr bits w1 (hv.below b1) (ha.below b1) (hp.below b1) hl)
  have HDS := Lib.hid (delV_sub vs adr bits)
  have HDN := Lib.hid (delV_len vs adr bits)
  have HPV : Hid (∀ L, L = (delV vs adr bits).1 → putV vs ⟨pa, pc, adr, bits, o⟩ = (L.take (aheadV L adr bits) ++ [⟨pa, pc, adr, bits, o⟩]) ++ L.drop (aheadV L adr bits)) := Lib.hid (fun L h => by subst h; rfl)
  have c0 : w1.cell? ⟨w.heap.size, 0, none⟩ = some (.slice pa adr.length pc) := cell_of x1 0 rfl
  have c1 : w1.cell? ⟨w.heap.size, 1, none⟩ = some (.int .i64 bits) := cell_of x1 1 rfl
  obtain ⟨P, hP⟩ : ∃ P, P = putV vs ⟨pa, pc, adr, bits, o⟩ := ⟨_, rfl⟩
  rw [← hP] at HPV ⊢
  unfold DelRet at HDL
  generalize (delV vs adr bits).2 = gone at *
  obtain ⟨D, hD⟩ : ∃ D, D = (delV vs adr bits).1 := ⟨_, rfl⟩
  rw [← hD] at HDL HDS HDN
  have HPV := Lib.hid (HPV.out D hD)
  clear b1 x1 hv ha hp hl hP hD
  go_enter Try.func9, Try.ntmps9
  go_wp2_with fail
  rw [← hw1]
  clear hw1
  go_wp2_with (first | (go_at_call 11; ((with_reducible refine (HDL.out).mono ?_); rintro e w2 ⟨a2, cap2, rfl, hrow, hb2⟩; have HV := Lib.hid hrow; have HB2 := Lib.hid hb2; clear hrow hb2)) | fail)
  have HL2 : Hid (D.length ≤ 1000) := Lib.hid (Nat.le_trans HDN.out HL.out)
  have hl0 : (D.length : Int) ≤ 1000 := by have := HL2.out; omega
  clear c0 c1
  go_loopw [7] (fun i wr => ∃ k : Nat, i = .int .i64 k ∧ k ≤ D.length ∧ (∀ r ∈ D.take k, beforeP r.adr r.bits adr bits = true) ∧ Below w2.heap.size w2 wr) (fun i _ => D.length - (intOf i).toNat)
  case atStart => exact ⟨0, rfl, Nat.zero_le _, by simp, Below.refl _ _⟩
  case round =>
    obtain ⟨k, rfl, hk, hall, hbw⟩ := hrel
    have HBW := Lib.hid hbw
    have HALL := Lib.hid hall
    have HB3 := Lib.hid (Below.next HB2.out HBW.out)
    clear hbw hall
    have x0 : wr.drew.cell? ⟨w.heap.size, 0, none⟩ = some (.slice pa adr.length pc) := cell_keep4 (cell_of HX1.out 0 rfl) (Below.drew HB3.out)
    have x1 : wr.drew.cell? ⟨w.heap.size, 1, none⟩ = some (.int .i64 bits) := cell_keep4 (cell_of HX1.out 1 rfl) (Below.drew HB3.out)
    have hk0 : (0 : Int) ≤ k := by omega
    by_cases hlt : k < D.length
    · obtain ⟨r, hr⟩ : ∃ r, D[k]? = some r := ⟨D[k], List.getElem?_eq_getElem hlt⟩
      have hmem : r ∈ D := List.mem_of_getElem? hr
      obtain ⟨b, off, rfl, q0, q1, q2⟩ := rows_cell (HV.out.below (Below.drew HBW.out)) hr
      unfold Rw.sl at q0
      have hk1 : (k : Int) < D.length := by omega
      have HQ0 := Lib.hid q0
      have HQ1 := Lib.hid q1
      have HX2 := Lib.hid x0
      have HX3 := Lib.hid x1
      have HR := Lib.hid hr
      have HLT := Lib.hid hlt
      have HAR : Hid (Bytes wr.drew (.slice r.ad r.adr.length r.cp) r.adr) := Lib.hid ((HAO.out r (HDS.out r hmem)).1.below (Below.drew HB3.out))
      have HPR : Hid (Bytes wr.drew (.slice pa adr.length pc) adr) := Lib.hid (HPO.out.below (Below.drew HB3.out))
      have HBF : Hid (∀ w, Bytes w (.slice r.ad r.adr.length r.cp) r.adr → Bytes w (.slice pa adr.length pc) adr → Calls Try.prog 22 #[.agg #[.slice r.ad r.adr.length r.cp, .int .i64 r.bits], .agg #[.slice pa adr.length pc, .int .i64 bits]] w (RightRet w (beforeP r.adr r.bits adr bits))) := Lib.hid (fun w h1 h2 => rbefore_any r.adr adr r.ad pa r.cp pc r.bits bits w h1 h2)
      clear hr hmem hlt q2
      cases hbf : beforeP r.adr r.bits adr bits with
      | true =>
        rw [hbf] at HBF
        have HT := Lib.hid hbf
        clear hbf
        go_wp2_with fail
        refine wp_region_held_drew (S := (fun W => W.cell? ⟨b, off + k * 3, none⟩ = some (.slice r.ad r.adr.length r.cp) ∧ W.cell? ⟨b, off + k * 3 + 1, none⟩ = some (.int .i64 r.bits) ∧ W.cell? ⟨w.heap.size, 0, none⟩ = some (.slice pa adr.length pc) ∧ W.cell? ⟨w.heap.size, 1, none⟩ = some (.int .i64 bits))) (by kernel_rfl) ?_ (fun hHeld0 => ?_)
        · (try dsimp only); exact ⟨q0, q1, x0, x1⟩
        first
        | (refine wpAnyH_take (i := 0) (oi := { dst := some 15, op := Go.Op.move (Go.Operand.tmp 7), type := 3, pos := "ref.go:40", after := #[], guard := none }) (v := ?_) rfl (by kernel_rfl) (by kernel_rfl) (by kernel_rfl) (fun _ _ _ h => h) (Or.inl ⟨by rfl, ?_⟩) hHeld0 ?_
           rotate_left
           · ((intro w hSw; (try dsimp only at hSw); go_simp) <;> (first | with_reducible rfl | (rw [if_neg (by omega)]; done))))
        | (refine wpAnyH_take (i := 0) (oi := { dst := some 15, op := Go.Op.move (Go.Operand.tmp 7), type := 3, pos := "ref.go:40", after := #[], guard := none }) (v := undef) rfl (by kernel_rfl) (by kernel_rfl) (by kernel_rfl) (fun _ _ _ h => h) (Or.inr ⟨by rfl, rfl⟩) hHeld0 ?_)
        try simp only [Act.put, List.setIfInBounds_toArray, List.set_cons_zero, List.set_cons_succ]
        first
        | (refine wpAnyH_take (i := 1) (oi := { dst := some 16, op := Go.Op.move (Go.Operand.tmp 0), type := 27, pos := "ref.go:40", after := #[], guard := none }) (v := ?_) rfl (by kernel_rfl) (by kernel_rfl) (by kernel_rfl) (fun _ _ _ h => h) (Or.inl ⟨by rfl, ?_⟩) hHeld0 ?_
           rotate_left
           · ((intro w hSw; (try dsimp only at hSw); go_simp) <;> (first | with_reducible rfl | (rw [if_neg (by omega)]; done))))
        | (refine wpAnyH_take (i := 1) (oi := { dst := some 16, op := Go.Op.move (Go.Operand.tmp 0), type := 27, pos := "ref.go:40", after := #[], guard := none }) (v := undef) rfl (by kernel_rfl) (by kernel_rfl) (by kernel_rfl) (fun _ _ _ h => h) (Or.inr ⟨by rfl, rfl⟩) hHeld0 ?_)
        try simp only [Act.put, List.setIfInBounds_toArray, List.set_cons_zero, List.set_cons_succ]
        first
        | (refine wpAnyH_take (i := 2) (oi := { dst := some 17, op := Go.Op.call { callee := Go.Callee.builtin Go.Builtin.len, args := #[Go.Operand.tmp 16], argTypes := #[27] }, type := 3, pos := "ref.go:40", after := #[{ on := 1, ground := Go.Ground.data }], guard := none }) (v := ?_) rfl (by kernel_rfl) (by kernel_rfl) (by kernel_rfl) (fun _ _ _ h => h) (Or.inl ⟨by rfl, ?_⟩) hHeld0 ?_
           rotate_left
           · ((intro w hSw; (try dsimp only at hSw); go_simp) <;> (first | with_reducible rfl | (rw [if_neg (by omega)]; done))))
        | (refine wpAnyH_take (i := 2) (oi := { dst := some 17, op := Go.Op.call { callee := Go.Callee.builtin Go.Builtin.len, args := #[Go.Operand.tmp 16], argTypes := #[27] }, type := 3, pos := "ref.go:40", after := #[{ on := 1, ground := Go.Ground.data }], guard := none }) (v := undef) rfl (by kernel_rfl) (by kernel_rfl) (by kernel_rfl) (fun _ _ _ h => h) (Or.inr ⟨by rfl, rfl⟩) hHeld0 ?_)
        try simp only [Act.put, List.setIfInBounds_toArray, List.set_cons_zero, List.set_cons_succ]
        first
        | (refine wpAnyH_take (i := 3) (oi := { dst := some 18, op := Go.Op.binOp Go.BinOp.lss 3 (Go.Operand.tmp 15) (Go.Operand.tmp 17) 3, type := 4, pos := "ref.go:40", after := #[{ on := 0, ground := Go.Ground.data }, { on := 2, ground := Go.Ground.data }], guard := none }) (v := ?_) rfl (by kernel_rfl) (by kernel_rfl) (by kernel_rfl) (fun _ _ _ h => h) (Or.inl ⟨by rfl, ?_⟩) hHeld0 ?_
           rotate_left
           · ((intro w hSw; (try dsimp only at hSw); go_simp) <;> (first | with_reducible rfl | (rw [if_neg (by omega)]; done))))
        | (refine wpAnyH_take (i := 3) (oi := { dst := some 18, op := Go.Op.binOp Go.BinOp.lss 3 (Go.Operand.tmp 15) (Go.Operand.tmp 17) 3, type := 4, pos := "ref.go:40", after := #[{ on := 0, ground := Go.Ground.data }, { on := 2, ground := Go.Ground.data }], guard := none }) (v := undef) rfl (by kernel_rfl) (by kernel_rfl) (by kernel_rfl) (fun _ _ _ h => h) (Or.inr ⟨by rfl, rfl⟩) hHeld0 ?_)
        try simp only [Act.put, List.setIfInBounds_toArray, List.set_cons_zero, List.set_cons_succ]
        first
        | (refine wpAnyH_take (i := 4) (oi := { dst := some 19, op := Go.Op.move (Go.Operand.tmp 18), type := 4, pos := "ref.go:40", after := #[{ on := 3, ground := Go.Ground.data }], guard := none }) (v := ?_) rfl (by kernel_rfl) (by kernel_rfl) (by kernel_rfl) (fun _ _ _ h => h) (Or.inl ⟨by rfl, ?_⟩) hHeld0 ?_
           rotate_left
           · ((intro w hSw; (try dsimp only at hSw); go_simp) <;> (first | with_reducible rfl | (rw [if_neg (by omega)]; done))))
        | (refine wpAnyH_take (i := 4) (oi := { dst := some 19, op := Go.Op.move (Go.Operand.tmp 18), type := 4, pos := "ref.go:40", after := #[{ on := 3, ground := Go.Ground.data }], guard := none }) (v := undef) rfl (by kernel_rfl) (by kernel_rfl) (by kernel_rfl) (fun _ _ _ h => h) (Or.inr ⟨by rfl, rfl⟩) hHeld0 ?_)
        try simp only [Act.put, List.setIfInBounds_toArray, List.set_cons_zero, List.set_cons_succ]
        first
        | (refine wpAnyH_take (i := 5) (oi := { dst := some 20, op := Go.Op.move (Go.Operand.tmp 0), type := 27, pos := "ref.go:40", after := #[{ on := 4, ground := Go.Ground.guard }], guard := some (4, true) }) (v := ?_) rfl (by kernel_rfl) (by kernel_rfl) (by kernel_rfl) (fun _ _ _ h => h) (Or.inl ⟨by rfl, ?_⟩) hHeld0 ?_
           rotate_left
           · ((intro w hSw; (try dsimp only at hSw); go_simp) <;> (first | with_reducible rfl | (rw [if_neg (by omega)]; done))))
        | (refine wpAnyH_take (i := 5) (oi := { dst := some 20, op := Go.Op.move (Go.Operand.tmp 0), type := 27, pos := "ref.go:40", after := #[{ on := 4, ground := Go.Ground.guard }], guard := some (4, true) }) (v := undef) rfl (by kernel_rfl) (by kernel_rfl) (by kernel_rfl) (fun _ _ _ h => h) (Or.inr ⟨by rfl, rfl⟩) hHeld0 ?_)
        try simp only [Act.put, List.setIfInBounds_toArray, List.set_cons_zero, List.set_cons_succ]
        first
        | (refine wpAnyH_take (i := 6) (oi := { dst := some 21, op := Go.Op.move (Go.Operand.tmp 7), type := 3, pos := "ref.go:40", after := #[{ on := 4, ground := Go.Ground.guard }], guard := some (4, true) }) (v := ?_) rfl (by kernel_rfl) (by kernel_rfl) (by kernel_rfl) (fun _ _ _ h => h) (Or.inl ⟨by rfl, ?_⟩) hHeld0 ?_
           rotate_left
           · ((intro w hSw; (try dsimp only at hSw); go_simp) <;> (first | with_reducible rfl | (rw [if_neg (by omega)]; done))))
        | (refine wpAnyH_take (i := 6) (oi := { dst := some 21, op := Go.Op.move (Go.Operand.tmp 7), type := 3, pos := "ref.go:40", after := #[{ on := 4, ground := Go.Ground.guard }], guard := some (4, true) }) (v := undef) rfl (by kernel_rfl) (by kernel_rfl) (by kernel_rfl) (fun _ _ _ h => h) (Or.inr ⟨by rfl, rfl⟩) hHeld0 ?_)
        try simp only [Act.put, List.setIfInBounds_toArray, List.set_cons_zero, List.set_cons_succ]
        first
        | (refine wpAnyH_take (i := 7) (oi := { dst := some 22, op := Go.Op.indexAddr 27 (Go.Operand.tmp 20) (Go.Operand.tmp 21), type := 0, pos := "ref.go:40", after := #[{ on := 5, ground := Go.Ground.data }, { on := 6, ground := Go.Ground.data }, { on := 4, ground := Go.Ground.guard }], guard := some (4, true) }) (v := ?_) rfl (by kernel_rfl) (by kernel_rfl) (by kernel_rfl) (fun _ _ _ h => h) (Or.inl ⟨by rfl, ?_⟩) hHeld0 ?_
           rotate_left
           · ((intro w hSw; (try dsimp only at hSw); go_simp) <;> (first | with_reducible rfl | (rw [if_neg (by omega)]; done))))
        | (refine wpAnyH_take (i := 7) (oi := { dst := some 22, op := Go.Op.indexAddr 27 (Go.Operand.tmp 20) (Go.Operand.tmp 21), type := 0, pos := "ref.go:40", after := #[{ on := 5, ground := Go.Ground.data }, { on := 6, ground := Go.Ground.data }, { on := 4, ground := Go.Ground.guard }], guard := some (4, true) }) (v := undef) rfl (by kernel_rfl) (by kernel_rfl) (by kernel_rfl) (fun _ _ _ h => h) (Or.inr ⟨by rfl, rfl⟩) hHeld0 ?_)
        try simp only [Act.put, List.setIfInBounds_toArray, List.set_cons_zero, List.set_cons_succ]
        first
        | (refine wpAnyH_take (i := 8) (oi := { dst := some 23, op := Go.Op.fieldAddr 62 (Go.Operand.tmp 22) 0, type := 0, pos := "ref.go:40", after := #[{ on := 7, ground := Go.Ground.data }, { on := 4, ground := Go.Ground.guard }], guard := some (4, true) }) (v := ?_) rfl (by kernel_rfl) (by kernel_rfl) (by kernel_rfl) (fun _ _ _ h => h) (Or.inl ⟨by rfl, ?_⟩) hHeld0 ?_
           rotate_left
           · ((intro w hSw; (try dsimp only at hSw); go_simp) <;> (first | with_reducible rfl | (rw [if_neg (by omega)]; done))))
        | (refine wpAnyH_take (i := 8) (oi := { dst := some 23, op := Go.Op.fieldAddr 62 (Go.Operand.tmp 22) 0, type := 0, pos := "ref.go:40", after := #[{ on := 7, ground := Go.Ground.data }, { on := 4, ground := Go.Ground.guard }], guard := some (4, true) }) (v := undef) rfl (by kernel_rfl) (by kernel_rfl) (by kernel_rfl) (fun _ _ _ h => h) (Or.inr ⟨by rfl, rfl⟩) hHeld0 ?_)
        try simp only [Act.put, List.setIfInBounds_toArray, List.set_cons_zero, List.set_cons_succ]
        first
        | (refine wpAnyH_take (i := 9) (oi := { dst := some 24, op := Go.Op.load 29 (Go.Operand.tmp 23), type := 29, pos := "ref.go:40", after := #[{ on := 8, ground := Go.Ground.data }, { on := 4, ground := Go.Ground.guard }], guard := some (4, true) }) (v := ?_) rfl (by kernel_rfl) (by kernel_rfl) (by kernel_rfl) (fun _ _ _ h => h) (Or.inl ⟨by rfl, ?_⟩) hHeld0 ?_
           rotate_left
           · ((intro w hSw; (try dsimp only at hSw); go_simp) <;> (first | with_reducible rfl | (rw [if_neg (by omega)]; done))))
        | (refine wpAnyH_take (i := 9) (oi := { dst := some 24, op := Go.Op.load 29 (Go.Operand.tmp 23), type := 29, pos := "ref.go:40", after := #[{ on := 8, ground := Go.Ground.data }, { on := 4, ground := Go.Ground.guard }], guard := some (4, true) }) (v := undef) rfl (by kernel_rfl) (by kernel_rfl) (by kernel_rfl) (fun _ _ _ h => h) (Or.inr ⟨by rfl, rfl⟩) hHeld0 ?_)
        try simp only [Act.put, List.setIfInBounds_toArray, List.set_cons_zero, List.set_cons_succ]
        first
        | (refine wpAnyH_take (i := 10) (oi := { dst := some 25, op := Go.Op.load 29 (Go.Operand.tmp 4), type := 29, pos := "ref.go:40", after := #[{ on := 4, ground := Go.Ground.guard }], guard := some (4, true) }) (v := ?_) rfl (by kernel_rfl) (by kernel_rfl) (by kernel_rfl) (fun _ _ _ h => h) (Or.inl ⟨by rfl, ?_⟩) hHeld0 ?_
           rotate_left
           · ((intro w hSw; (try dsimp only at hSw); go_simp) <;> (first | with_reducible rfl | (rw [if_neg (by omega)]; done))))
        | (refine wpAnyH_take (i := 10) (oi := { dst := some 25, op := Go.Op.load 29 (Go.Operand.tmp 4), type := 29, pos := "ref.go:40", after := #[{ on := 4, ground := Go.Ground.guard }], guard := some (4, true) }) (v := undef) rfl (by kernel_rfl) (by kernel_rfl) (by kernel_rfl) (fun _ _ _ h => h) (Or.inr ⟨by rfl, rfl⟩) hHeld0 ?_)
        try simp only [Act.put, List.setIfInBounds_toArray, List.set_cons_zero, List.set_cons_succ]
        refine wpAnyH_ready (rs := [11]) (by kernel_rfl) (by simp) ?_
        refine AllReadyH.cons (o := { dst := some 26, op := Go.Op.call { callee := Go.Callee.value (Go.Operand.func 22), args := #[Go.Operand.tmp 24, Go.Operand.tmp 25], argTypes := #[29, 29] }, type := 4, pos := "ref.go:40", after := #[{ on := 9, ground := Go.Ground.data }, { on := 10, ground := Go.Ground.data }, { on := 4, ground := Go.Ground.chain }, { on := 4, ground := Go.Ground.guard }], guard := some (4, true) }) rfl (fun Kr11 hK => ?_) AllReadyH.nil
        go_simp
        (go_at_call 22; (with_reducible refine (HBF.out _ HAR.out HPR.out).mono ?_); rintro e w4 ⟨rfl, hb4⟩; have HB4 := Lib.hid hb4; have q0 := cell_keep4 HQ0.out HB4.out; have q1 := cell_keep4 HQ1.out HB4.out; have x0 := cell_keep4 HX2.out HB4.out; have x1 := cell_keep4 HX3.out HB4.out; clear hb4)
        refine hK.out _ _ ?_ (fun hHeld1 => ?_)
        · (try dsimp only); exact ⟨q0, q1, x0, x1⟩
        clear hK Kr11 hHeld0
        try simp only [Act.put, List.setIfInBounds_toArray, List.set_cons_zero, List.set_cons_succ]
        first
        | (refine wpAnyH_take (i := 12) (oi := { dst := some 27, op := Go.Op.pick (Go.Operand.tmp 19) (Go.Operand.tmp 26) (Go.Operand.const (Go.Value.bool false)), type := 4, pos := "ref.go:40", after := #[{ on := 4, ground := Go.Ground.data }, { on := 11, ground := Go.Ground.data }], guard := none }) (v := ?_) rfl (by kernel_rfl) (by kernel_rfl) (by kernel_rfl) (fun _ _ _ h => h) (Or.inl ⟨by rfl, ?_⟩) hHeld1 ?_
           rotate_left
           · ((intro w hSw; (try dsimp only at hSw); go_simp) <;> (first | with_reducible rfl | (rw [if_neg (by omega)]; done))))
        | (refine wpAnyH_take (i := 12) (oi := { dst := some 27, op := Go.Op.pick (Go.Operand.tmp 19) (Go.Operand.tmp 26) (Go.Operand.const (Go.Value.bool false)), type := 4, pos := "ref.go:40", after := #[{ on := 4, ground := Go.Ground.data }, { on := 11, ground := Go.Ground.data }], guard := none }) (v := undef) rfl (by kernel_rfl) (by kernel_rfl) (by kernel_rfl) (fun _ _ _ h => h) (Or.inr ⟨by rfl, rfl⟩) hHeld1 ?_)
        try simp only [Act.put, List.setIfInBounds_toArray, List.set_cons_zero, List.set_cons_succ]
        refine wpAnyH_done (by kernel_rfl) ?_ _
        clear hHeld1
        go_wp2_with fail
        go_roundw
        case rel => exact ⟨k + 1, by go_num, HLT.out, all_next_bef HALL.out HR.out HT.out, Below.next (Below.drew HBW.out) HB4.out⟩
        case measure => simp [intOf]; omega
      | false =>
        rw [hbf] at HBF
        have HAT : Hid (aheadV D adr bits = k) := Lib.hid (ahead_at hk HALL.out (.inr ⟨r, HR.out, hbf⟩))
        clear hbf
        go_wp2_with fail
        refine wp_region_held_drew (S := (fun W => W.cell? ⟨b, off + k * 3, none⟩ = some (.slice r.ad r.adr.length r.cp) ∧ W.cell? ⟨b, off + k * 3 + 1, none⟩ = some (.int .i64 r.bits) ∧ W.cell? ⟨w.heap.size, 0, none⟩ = some (.slice pa adr.length pc) ∧ W.cell? ⟨w.heap.size, 1, none⟩ = some (.int .i64 bits))) (by kernel_rfl) ?_ (fun hHeld0 => ?_)
        · (try dsimp only); exact ⟨q0, q1, x0, x1⟩
        first
        | (refine wpAnyH_take (i := 0) (oi := { dst := some 15, op := Go.Op.move (Go.Operand.tmp 7), type := 3, pos := "ref.go:40", after := #[], guard := none }) (v := ?_) rfl (by kernel_rfl) (by kernel_rfl) (by kernel_rfl) (fun _ _ _ h => h) (Or.inl ⟨by rfl, ?_⟩) hHeld0 ?_
           rotate_left
           · ((intro w hSw; (try dsimp only at hSw); go_simp) <;> (first | with_reducible rfl | (rw [if_neg (by omega)]; done))))
        | (refine wpAnyH_take (i := 0) (oi := { dst := some 15, op := Go.Op.move (Go.Operand.tmp 7), type := 3, pos := "ref.go:40", after := #[], guard := none }) (v := undef) rfl (by kernel_rfl) (by kernel_rfl) (by kernel_rfl) (fun _ _ _ h => h) (Or.inr ⟨by rfl, rfl⟩) hHeld0 ?_)
        try simp only [Act.put, List.setIfInBounds_toArray, List.set_cons_zero, List.set_cons_succ]
        first
        | (refine wpAnyH_take (i := 1) (oi := { dst := some 16, op := Go.Op.move (Go.Operand.tmp 0), type := 27, pos := "ref.go:40", after := #[], guard := none }) (v := ?_) rfl (by kernel_rfl) (by kernel_rfl) (by kernel_rfl) (fun _ _ _ h => h) (Or.inl ⟨by rfl, ?_⟩) hHeld0 ?_
           rotate_left
           · ((intro w hSw; (try dsimp only at hSw); go_simp) <;> (first | with_reducible rfl | (rw [if_neg (by omega)]; done))))
        | (refine wpAnyH_take (i := 1) (oi := { dst := some 16, op := Go.Op.move (Go.Operand.tmp 0), type := 27, pos := "ref.go:40", after := #[], guard := none }) (v := undef) rfl (by kernel_rfl) (by kernel_rfl) (by kernel_rfl) (fun _ _ _ h => h) (Or.inr ⟨by rfl, rfl⟩) hHeld0 ?_)
        try simp only [Act.put, List.setIfInBounds_toArray, List.set_cons_zero, List.set_cons_succ]
        first
        | (refine wpAnyH_take (i := 2) (oi := { dst := some 17, op := Go.Op.call { callee := Go.Callee.builtin Go.Builtin.len, args := #[Go.Operand.tmp 16], argTypes := #[27] }, type := 3, pos := "ref.go:40", after := #[{ on := 1, ground := Go.Ground.data }], guard := none }) (v := ?_) rfl (by kernel_rfl) (by kernel_rfl) (by kernel_rfl) (fun _ _ _ h => h) (Or.inl ⟨by rfl, ?_⟩) hHeld0 ?_
           rotate_left
           · ((intro w hSw; (try dsimp only at hSw); go_simp) <;> (first | with_reducible rfl | (rw [if_neg (by omega)]; done))))
        | (refine wpAnyH_take (i := 2) (oi := { dst := some 17, op := Go.Op.call { callee := Go.Callee.builtin Go.Builtin.len, args := #[Go.Operand.tmp 16], argTypes := #[27] }, type := 3, pos := "ref.go:40", after := #[{ on := 1, ground := Go.Ground.data }], guard := none }) (v := undef) rfl (by kernel_rfl) (by kernel_rfl) (by kernel_rfl) (fun _ _ _ h => h) (Or.inr ⟨by rfl, rfl⟩) hHeld0 ?_)
        try simp only [Act.put, List.setIfInBounds_toArray, List.set_cons_zero, List.set_cons_succ]
        first
        | (refine wpAnyH_take (i := 3) (oi := { dst := some 18, op := Go.Op.binOp Go.BinOp.lss 3 (Go.Operand.tmp 15) (Go.Operand.tmp 17) 3, type := 4, pos := "ref.go:40", after := #[{ on := 0, ground := Go.Ground.data }, { on := 2, ground := Go.Ground.data }], guard := none }) (v := ?_) rfl (by kernel_rfl) (by kernel_rfl) (by kernel_rfl) (fun _ _ _ h => h) (Or.inl ⟨by rfl, ?_⟩) hHeld0 ?_
           rotate_left
           · ((intro w hSw; (try dsimp only at hSw); go_simp) <;> (first | with_reducible rfl | (rw [if_neg (by omega)]; done))))
        | (refine wpAnyH_take (i := 3) (oi := { dst := some 18, op := Go.Op.binOp Go.BinOp.lss 3 (Go.Operand.tmp 15) (Go.Operand.tmp 17) 3, type := 4, pos := "ref.go:40", after := #[{ on := 0, ground := Go.Ground.data }, { on := 2, ground := Go.Ground.data }], guard := none }) (v := undef) rfl (by kernel_rfl) (by kernel_rfl) (by kernel_rfl) (fun _ _ _ h => h) (Or.inr ⟨by rfl, rfl⟩) hHeld0 ?_)
        try simp only [Act.put, List.setIfInBounds_toArray, List.set_cons_zero, List.set_cons_succ]
        first
        | (refine wpAnyH_take (i := 4) (oi := { dst := some 19, op := Go.Op.move (Go.Operand.tmp 18), type := 4, pos := "ref.go:40", after := #[{ on := 3, ground := Go.Ground.data }], guard := none }) (v := ?_) rfl (by kernel_rfl) (by kernel_rfl) (by kernel_rfl) (fun _ _ _ h => h) (Or.inl ⟨by rfl, ?_⟩) hHeld0 ?_
           rotate_left
           · ((intro w hSw; (try dsimp only at hSw); go_simp) <;> (first | with_reducible rfl | (rw [if_neg (by omega)]; done))))
        | (refine wpAnyH_take (i := 4) (oi := { dst := some 19, op := Go.Op.move (Go.Operand.tmp 18), type := 4, pos := "ref.go:40", after := #[{ on := 3, ground := Go.Ground.data }], guard := none }) (v := undef) rfl (by kernel_rfl) (by kernel_rfl) (by kernel_rfl) (fun _ _ _ h => h) (Or.inr ⟨by rfl, rfl⟩) hHeld0 ?_)
        try simp only [Act.put, List.setIfInBounds_toArray, List.set_cons_zero, List.set_cons_succ]
        first
        | (refine wpAnyH_take (i := 5) (oi := { dst := some 20, op := Go.Op.move (Go.Operand.tmp 0), type := 27, pos := "ref.go:40", after := #[{ on := 4, ground := Go.Ground.guard }], guard := some (4, true) }) (v := ?_) rfl (by kernel_rfl) (by kernel_rfl) (by kernel_rfl) (fun _ _ _ h => h) (Or.inl ⟨by rfl, ?_⟩) hHeld0 ?_
           rotate_left
           · ((intro w hSw; (try dsimp only at hSw); go_simp) <;> (first | with_reducible rfl | (rw [if_neg (by omega)]; done))))
        | (refine wpAnyH_take (i := 5) (oi := { dst := some 20, op := Go.Op.move (Go.Operand.tmp 0), type := 27, pos := "ref.go:40", after := #[{ on := 4, ground := Go.Ground.guard }], guard := some (4, true) }) (v := undef) rfl (by kernel_rfl) (by kernel_rfl) (by kernel_rfl) (fun _ _ _ h => h) (Or.inr ⟨by rfl, rfl⟩) hHeld0 ?_)
        try simp only [Act.put, List.setIfInBounds_toArray, List.set_cons_zero, List.set_cons_succ]
        first
        | (refine wpAnyH_take (i := 6) (oi := { dst := some 21, op := Go.Op.move (Go.Operand.tmp 7), type := 3, pos := "ref.go:40", after := #[{ on := 4, ground := Go.Ground.guard }], guard := some (4, true) }) (v := ?_) rfl (by kernel_rfl) (by kernel_rfl) (by kernel_rfl) (fun _ _ _ h => h) (Or.inl ⟨by rfl, ?_⟩) hHeld0 ?_
           rotate_left
           · ((intro w hSw; (try dsimp only at hSw); go_simp) <;> (first | with_reducible rfl | (rw [if_neg (by omega)]; done))))
        | (refine wpAnyH_take (i := 6) (oi := { dst := some 21, op := Go.Op.move (Go.Operand.tmp 7), type := 3, pos := "ref.go:40", after := #[{ on := 4, ground := Go.Ground.guard }], guard := some (4, true) }) (v := undef) rfl (by kernel_rfl) (by kernel_rfl) (by kernel_rfl) (fun _ _ _ h => h) (Or.inr ⟨by rfl, rfl⟩) hHeld0 ?_)
        try simp only [Act.put, List.setIfInBounds_toArray, List.set_cons_zero, List.set_cons_succ]
        first
        | (refine wpAnyH_take (i := 7) (oi := { dst := some 22, op := Go.Op.indexAddr 27 (Go.Operand.tmp 20) (Go.Operand.tmp 21), type := 0, pos := "ref.go:40", after := #[{ on := 5, ground := Go.Ground.data }, { on := 6, ground := Go.Ground.data }, { on := 4, ground := Go.Ground.guard }], guard := some (4, true) }) (v := ?_) rfl (by kernel_rfl) (by kernel_rfl) (by kernel_rfl) (fun _ _ _ h => h) (Or.inl ⟨by rfl, ?_⟩) hHeld0 ?_
           rotate_left
           · ((intro w hSw; (try dsimp only at hSw); go_simp) <;> (first | with_reducible rfl | (rw [if_neg (by omega)]; done))))
        | (refine wpAnyH_take (i := 7) (oi := { dst := some 22, op := Go.Op.indexAddr 27 (Go.Operand.tmp 20) (Go.Operand.tmp 21), type := 0, pos := "ref.go:40", after := #[{ on := 5, ground := Go.Ground.data }, { on := 6, ground := Go.Ground.data }, { on := 4, ground := Go.Ground.guard }], guard := some (4, true) }) (v := undef) rfl (by kernel_rfl) (by kernel_rfl) (by kernel_rfl) (fun _ _ _ h => h) (Or.inr ⟨by rfl, rfl⟩) hHeld0 ?_)
        try simp only [Act.put, List.setIfInBounds_toArray, List.set_cons_zero, List.set_cons_succ]
        first
        | (refine wpAnyH_take (i := 8) (oi := { dst := some 23, op := Go.Op.fieldAddr 62 (Go.Operand.tmp 22) 0, type := 0, pos := "ref.go:40", after := #[{ on := 7, ground := Go.Ground.data }, { on := 4, ground := Go.Ground.guard }], guard := some (4, true) }) (v := ?_) rfl (by kernel_rfl) (by kernel_rfl) (by kernel_rfl) (fun _ _ _ h => h) (Or.inl ⟨by rfl, ?_⟩) hHeld0 ?_
           rotate_left
           · ((intro w hSw; (try dsimp only at hSw); go_simp) <;> (first | with_reducible rfl | (rw [if_neg (by omega)]; done))))
        | (refine wpAnyH_take (i := 8) (oi := { dst := some 23, op := Go.Op.fieldAddr 62 (Go.Operand.tmp 22) 0, type := 0, pos := "ref.go:40", after := #[{ on := 7, ground := Go.Ground.data }, { on := 4, ground := Go.Ground.guard }], guard := some (4, true) }) (v := undef) rfl (by kernel_rfl) (by kernel_rfl) (by kernel_rfl) (fun _ _ _ h => h) (Or.inr ⟨by rfl, rfl⟩) hHeld0 ?_)
        try simp only [Act.put, List.setIfInBounds_toArray, List.set_cons_zero, List.set_cons_succ]
        first
        | (refine wpAnyH_take (i := 9) (oi := { dst := some 24, op := Go.Op.load 29 (Go.Operand.tmp 23), type := 29, pos := "ref.go:40", after := #[{ on := 8, ground := Go.Ground.data }, { on := 4, ground := Go.Ground.guard }], guard := some (4, true) }) (v := ?_) rfl (by kernel_rfl) (by kernel_rfl) (by kernel_rfl) (fun _ _ _ h => h) (Or.inl ⟨by rfl, ?_⟩) hHeld0 ?_
           rotate_left
           · ((intro w hSw; (try dsimp only at hSw); go_simp) <;> (first | with_reducible rfl | (rw [if_neg (by omega)]; done))))
        | (refine wpAnyH_take (i := 9) (oi := { dst := some 24, op := Go.Op.load 29 (Go.Operand.tmp 23), type := 29, pos := "ref.go:40", after := #[{ on := 8, ground := Go.Ground.data }, { on := 4, ground := Go.Ground.guard }], guard := some (4, true) }) (v := undef) rfl (by kernel_rfl) (by kernel_rfl) (by kernel_rfl) (fun _ _ _ h => h) (Or.inr ⟨by rfl, rfl⟩) hHeld0 ?_)
        try simp only [Act.put, List.setIfInBounds_toArray, List.set_cons_zero, List.set_cons_succ]
        first
        | (refine wpAnyH_take (i := 10) (oi := { dst := some 25, op := Go.Op.load 29 (Go.Operand.tmp 4), type := 29, pos := "ref.go:40", after := #[{ on := 4, ground := Go.Ground.guard }], guard := some (4, true) }) (v := ?_) rfl (by kernel_rfl) (by kernel_rfl) (by kernel_rfl) (fun _ _ _ h => h) (Or.inl ⟨by rfl, ?_⟩) hHeld0 ?_
           rotate_left
           · ((intro w hSw; (try dsimp only at hSw); go_simp) <;> (first | with_reducible rfl | (rw [if_neg (by omega)]; done))))
        | (refine wpAnyH_take (i := 10) (oi := { dst := some 25, op := Go.Op.load 29 (Go.Operand.tmp 4), type := 29, pos := "ref.go:40", after := #[{ on := 4, ground := Go.Ground.guard }], guard := some (4, true) }) (v := undef) rfl (by kernel_rfl) (by kernel_rfl) (by kernel_rfl) (fun _ _ _ h => h) (Or.inr ⟨by rfl, rfl⟩) hHeld0 ?_)
        try simp only [Act.put, List.setIfInBounds_toArray, List.set_cons_zero, List.set_cons_succ]
        refine wpAnyH_ready (rs := [11]) (by kernel_rfl) (by simp) ?_
        refine AllReadyH.cons (o := { dst := some 26, op := Go.Op.call { callee := Go.Callee.value (Go.Operand.func 22), args := #[Go.Operand.tmp 24, Go.Operand.tmp 25], argTypes := #[29, 29] }, type := 4, pos := "ref.go:40", after := #[{ on := 9, ground := Go.Ground.data }, { on := 10, ground := Go.Ground.data }, { on := 4, ground := Go.Ground.chain }, { on := 4, ground := Go.Ground.guard }], guard := some (4, true) }) rfl (fun Kr11 hK => ?_) AllReadyH.nil
        go_simp
        (go_at_call 22; (with_reducible refine (HBF.out _ HAR.out HPR.out).mono ?_); rintro e w4 ⟨rfl, hb4⟩; have HB4 := Lib.hid hb4; have q0 := cell_keep4 HQ0.out HB4.out; have q1 := cell_keep4 HQ1.out HB4.out; have x0 := cell_keep4 HX2.out HB4.out; have x1 := cell_keep4 HX3.out HB4.out; clear hb4)
        refine hK.out _ _ ?_ (fun hHeld1 => ?_)
        · (try dsimp only); exact ⟨q0, q1, x0, x1⟩
        clear hK Kr11 hHeld0
        try simp only [Act.put, List.setIfInBounds_toArray, List.set_cons_zero, List.set_cons_succ]
        first
        | (refine wpAnyH_take (i := 12) (oi := { dst := some 27, op := Go.Op.pick (Go.Operand.tmp 19) (Go.Operand.tmp 26) (Go.Operand.const (Go.Value.bool false)), type := 4, pos := "ref.go:40", after := #[{ on := 4, ground := Go.Ground.data }, { on := 11, ground := Go.Ground.data }], guard := none }) (v := ?_) rfl (by kernel_rfl) (by kernel_rfl) (by kernel_rfl) (fun _ _ _ h => h) (Or.inl ⟨by rfl, ?_⟩) hHeld1 ?_
           rotate_left
           · ((intro w hSw; (try dsimp only at hSw); go_simp) <;> (first | with_reducible rfl | (rw [if_neg (by omega)]; done))))
        | (refine wpAnyH_take (i := 12) (oi := { dst := some 27, op := Go.Op.pick (Go.Operand.tmp 19) (Go.Operand.tmp 26) (Go.Operand.const (Go.Value.bool false)), type := 4, pos := "ref.go:40", after := #[{ on := 4, ground := Go.Ground.data }, { on := 11, ground := Go.Ground.data }], guard := none }) (v := undef) rfl (by kernel_rfl) (by kernel_rfl) (by kernel_rfl) (fun _ _ _ h => h) (Or.inr ⟨by rfl, rfl⟩) hHeld1 ?_)
        try simp only [Act.put, List.setIfInBounds_toArray, List.set_cons_zero, List.set_cons_succ]
        refine wpAnyH_done (by kernel_rfl) ?_ _
        clear hHeld1
        go_wp2_with fail
        have HBX := Lib.hid (Below.next (Below.drew HBW.out) HB4.out)
        clear x0 x1 q0 q1 hk1
        have HB8 := Lib.hid (Below.next HB2.out HBX.out)
        have HV4 := Lib.hid (HV.out.below HBX.out)
        have HLK : Hid (k ≤ D.length) := Lib.hid hk
        have hle := HV4.out.le
        have hk2 : (k : Int) ≤ cap2 := by omega
        have hk3 : (k : Int) ≤ D.length := by omega
        have hlen : (D.take k).length = k := by rw [List.length_take]; omega
        have HLE := Lib.hid hlen
        have HBA : Hid (Below w4.heap.size w4 ((w4.alloc (.cells #[] 62)).drew)) := Lib.hid (Below.drew ((Below.refl _ _).alloc (Nat.le_refl _) _))
        have HO1 : Hid (((w4.alloc (.cells #[] 62)).drew).ownsRow w4.heap.size 62 3 (.slice (some ⟨w4.heap.size, 0, none⟩) 0 0) 0 []) := Lib.hid (World.ownsRow_made (w := w4) (base := w4.heap.size) (size := 3) (e := 62) #[] 0 (Nat.le_refl _) (by decide) rfl)
        have HVT : Hid (RowsAt ((w4.alloc (.cells #[] 62)).drew) (some ⟨b, off, none⟩) cap2 (D.take k)) := Lib.hid (rows_take (HV4.out.below HBA.out) k hk)
        have z0 : w4.cell? ⟨w.heap.size, 0, none⟩ = some (.slice pa adr.length pc) := cell_keep4 (cell_of HX1.out 0 rfl) HB8.out
        have z1 : w4.cell? ⟨w.heap.size, 1, none⟩ = some (.int .i64 bits) := cell_keep4 (cell_of HX1.out 1 rfl) HB8.out
        have HZ0 := Lib.hid z0
        have HZ1 := Lib.hid z1
        have HAD : Hid (((if cap2 = k then some (⟨b, off, none⟩ : Addr) else some (⟨b, off + k * 3, none⟩ : Addr)) = some ⟨b, off, none⟩ ∧ k = cap2) ∨ (if cap2 = k then some (⟨b, off, none⟩ : Addr) else some (⟨b, off + k * 3, none⟩ : Addr)) = some ⟨b, off + k * 3, none⟩) := Lib.hid (by
          by_cases hc : cap2 = k
          · left; rw [if_pos hc]; exact ⟨rfl, hc.symm⟩
          · right; rw [if_neg hc])
        have y0 : ((w4.alloc (.cells #[] 62)).drew).cell? ⟨w.heap.size, 0, none⟩ = some (.slice pa adr.length pc) := cell_keep4 z0 HBA.out
        have y1 : ((w4.alloc (.cells #[] 62)).drew).cell? ⟨w.heap.size, 1, none⟩ = some (.int .i64 bits) := cell_keep4 z1 HBA.out
        have HBB : Hid (Below w4.heap.size w4 (((w4.alloc (.cells #[] 62)).alloc (.cells #[.slice pa adr.length pc, .int .i64 bits, .int .i64 o] 62)).drew)) := Lib.hid (Below.drew (((Below.refl _ _).alloc (Nat.le_refl _) _).alloc (by simp) _))
        have HBC : Hid (Below w4.heap.size w4 (((w4.alloc (.cells #[.slice pa adr.length pc, .int .i64 bits, .int .i64 o] 62)).alloc (.cells #[] 62)).drew)) := Lib.hid (Below.drew (((Below.refl _ _).alloc (Nat.le_refl _) _).alloc (by simp) _))
        have HOB : Hid ((((w4.alloc (.cells #[] 62)).alloc (.cells #[.slice pa adr.length pc, .int .i64 bits, .int .i64 o] 62)).drew).ownsRow w4.heap.size 62 3 (.slice (some ⟨w4.heap.size, 0, none⟩) 0 0) 0 []) := Lib.hid ((World.ownsRow_made (w := w4) (base := w4.heap.size) (size := 3) (e := 62) #[] 0 (Nat.le_refl _) (by decide) rfl).alloc _)
        have HOC : Hid ((((w4.alloc (.cells #[.slice pa adr.length pc, .int .i64 bits, .int .i64 o] 62)).alloc (.cells #[] 62)).drew).ownsRow w4.heap.size 62 3 (.slice (some ⟨w4.heap.size + 1, 0, none⟩) 0 0) 0 []) := Lib.hid (by
          have h := World.ownsRow_made (w := w4.alloc (.cells #[.slice pa adr.length pc, .int .i64 bits, .int .i64 o] 62)) (base := w4.heap.size) (size := 3) (e := 62) #[] 0 (by simp) (by decide) rfl
          rw [show (w4.alloc (.cells #[.slice pa adr.length pc, .int .i64 bits, .int .i64 o] 62)).heap.size = w4.heap.size + 1 by simp] at h
          exact h)
        have HVB : Hid (RowsAt (((w4.alloc (.cells #[] 62)).alloc (.cells #[.slice pa adr.length pc, .int .i64 bits, .int .i64 o] 62)).drew) (some ⟨b, off, none⟩) cap2 (D.take k)) := Lib.hid (rows_take (HV4.out.below HBB.out) k hk)
        have HVC : Hid (RowsAt (((w4.alloc (.cells #[.slice pa adr.length pc, .int .i64 bits, .int .i64 o] 62)).alloc (.cells #[] 62)).drew) (some ⟨b, off, none⟩) cap2 (D.take k)) := Lib.hid (rows_take (HV4.out.below HBC.out) k hk)
        have HRB : Hid (RowsAt (((w4.alloc (.cells #[] 62)).alloc (.cells #[.slice pa adr.length pc, .int .i64 bits, .int .i64 o] 62)).drew) (some ⟨w4.heap.size + 1, 0, none⟩) 1 [(⟨pa, pc, adr, bits, o⟩ : Rw)]) := Lib.hid (by
          have h := rows_one (w4.alloc (.cells #[] 62)) (⟨pa, pc, adr, bits, o⟩ : Rw)
          rw [show (w4.alloc (.cells #[] 62)).heap.size = w4.heap.size + 1 by simp] at h
          exact h.below (Below.drew (Below.refl _ _)))
        have HRC : Hid (RowsAt (((w4.alloc (.cells #[.slice pa adr.length pc, .int .i64 bits, .int .i64 o] 62)).alloc (.cells #[] 62)).drew) (some ⟨w4.heap.size, 0, none⟩) 1 [(⟨pa, pc, adr, bits, o⟩ : Rw)]) := Lib.hid ((rows_one w4 (⟨pa, pc, adr, bits, o⟩ : Rw)).below (Below.drew ((Below.refl _ _).alloc (Nat.le_refl _) _)))
        have y2 : ∀ o', (w4.alloc o').cell? ⟨w.heap.size, 0, none⟩ = some (.slice pa adr.length pc) := fun o' => cell_keep4 z0 ((Below.refl _ _).alloc (Nat.le_refl _) _)
        have y3 : ∀ o', (w4.alloc o').cell? ⟨w.heap.size, 1, none⟩ = some (.int .i64 bits) := fun o' => cell_keep4 z1 ((Below.refl _ _).alloc (Nat.le_refl _) _)
        clear hle hlen hk
        go_region_law (first | (refine step_append_rows (by rfl) _ _ (by rfl) w4.heap.size (.slice (some ⟨w4.heap.size, 0, none⟩) 0 0) 0 [] (by rfl) HO1.out (some ⟨b, off, none⟩) k cap2 (D.take k) (by rfl) HLE.out.symm HVT.out (by have := HLE.out; have := HL2.out; omega) HBA.out.size ?_; intro v1 w5 hown hgrow; rw [Nat.zero_add, List.nil_append, HLE.out] at hown; have HO2 := Lib.hid hown; have HB5 := Lib.hid (HBA.out.grown hgrow HBA.out.size (fun k hk => by cases hk; exact Nat.le_refl _)); have x0 := cell_keep4 HZ0.out HB5.out; have x1 := cell_keep4 HZ1.out HB5.out; clear hown hgrow) | (refine step_append_rows (by rfl) _ _ (by rfl) w4.heap.size (.slice (some ⟨w4.heap.size, 0, none⟩) 0 0) 0 [] (by rfl) HOB.out (some ⟨b, off, none⟩) k cap2 (D.take k) (by rfl) HLE.out.symm HVB.out (by have := HLE.out; have := HL2.out; omega) HBB.out.size ?_; intro v1 w5 hown hgrow; rw [Nat.zero_add, List.nil_append, HLE.out] at hown; have HO2 := Lib.hid hown; have HB5 := Lib.hid (HBB.out.grown hgrow HBB.out.size (fun k hk => by simp [Value.ownBlock] at hk; omega)); have x0 := cell_keep4 HZ0.out HB5.out; have x1 := cell_keep4 HZ1.out HB5.out; have HR5 := Lib.hid (RowsAt.grown HRB.out hgrow (by simp)); clear hown hgrow) | (refine step_append_rows (by rfl) _ _ (by rfl) w4.heap.size (.slice (some ⟨w4.heap.size + 1, 0, none⟩) 0 0) 0 [] (by rfl) HOC.out (some ⟨b, off, none⟩) k cap2 (D.take k) (by rfl) HLE.out.symm HVC.out (by have := HLE.out; have := HL2.out; omega) HBC.out.size ?_; intro v1 w5 hown hgrow; rw [Nat.zero_add, List.nil_append, HLE.out] at hown; have HO2 := Lib.hid hown; have HB5 := Lib.hid (HBC.out.grown hgrow HBC.out.size (fun k hk => by simp [Value.ownBlock] at hk; omega)); have x0 := cell_keep4 HZ0.out HB5.out; have x1 := cell_keep4 HZ1.out HB5.out; have HR5 := Lib.hid (RowsAt.grown HRC.out hgrow (by simp)); clear hown hgrow) | (refine step_append_rows (by rfl) _ _ (by rfl) w4.heap.size v1 k (cellsR (D.take k)) (by rfl) (HO2.out.alloc _) (some ⟨w5.heap.size, 0, none⟩) 1 1 [(⟨pa, pc, adr, bits, o⟩ : Rw)] (by rfl) rfl (rows_one w5 (⟨pa, pc, adr, bits, o⟩ : Rw)) (by have := HL2.out; have := HLK.out; simp; omega) (by have := HB5.out.size; simp; omega) ?_; intro v2 w6 hown hgrow; have HO3 := Lib.hid hown; have HB6 := Lib.hid ((HB5.out.alloc HB5.out.size _).grown hgrow (by have := HB5.out.size; simp; omega) (fun k hk => (HO2.out.lt k hk).1)); clear hown hgrow) | (refine step_append_rows (by rfl) _ _ (by rfl) w4.heap.size v1 k (cellsR (D.take k)) (by rfl) HO2.out (some ⟨w4.heap.size + 1, 0, none⟩) 1 1 [(⟨pa, pc, adr, bits, o⟩ : Rw)] (by rfl) rfl HR5.out (by have := HL2.out; have := HLK.out; simp; omega) HB5.out.size ?_; intro v2 w6 hown hgrow; have HO3 := Lib.hid hown; have HB6 := Lib.hid (HB5.out.grown hgrow HB5.out.size (fun k hk => (HO2.out.lt k hk).1)); clear hown hgrow) | (refine step_append_rows (by rfl) _ _ (by rfl) w4.heap.size v1 k (cellsR (D.take k)) (by rfl) HO2.out (some ⟨w4.heap.size, 0, none⟩) 1 1 [(⟨pa, pc, adr, bits, o⟩ : Rw)] (by rfl) rfl HR5.out (by have := HL2.out; have := HLK.out; simp; omega) HB5.out.size ?_; intro v2 w6 hown hgrow; have HO3 := Lib.hid hown; have HB6 := Lib.hid (HB5.out.grown hgrow HB5.out.size (fun k hk => (HO2.out.lt k hk).1)); clear hown hgrow) | fail)
        go_wp2_with (first | (at_builtin; refine wpList_append_rows rfl _ _ rfl w4.heap.size v2 (k + 1) (cellsR (D.take k) ++ cellsR [(⟨pa, pc, adr, bits, o⟩ : Rw)]) rfl HO3.out ((if cap2 = k then some (⟨b, off, none⟩ : Addr) else some (⟨b, off + k * 3, none⟩ : Addr))) (D.length - k) (cap2 - k) (D.drop k) rfl (by rw [List.length_drop]) (rows_drop (HV4.out.below HB6.out) k HLK.out HAD.out) (by have := HL2.out; have := HLK.out; rw [List.length_drop]; omega) HB6.out.size ?_; intro v3 w7 hown hgrow; have HO7 := Lib.hid hown; have HB7 := Lib.hid (HB6.out.grown hgrow HB6.out.size (fun k hk => (HO3.out.lt k hk).1)); clear hown hgrow) | fail)
        all_goals
          have hown := HO7.out
          rw [← cellsR_app, ← cellsR_app] at hown
          obtain ⟨hn, a6, cap6, rfl, hrow⟩ := rows_own hown
          rw [HPV.out, HAT.out]
          go_ret
          exact ⟨a6, cap6, rfl, hrow, Below.next HB1.out (Below.next HB8.out HB7.out)⟩
    · have hkD : k = D.length := by omega
      have HAT : Hid (aheadV D adr bits = k) := Lib.hid (ahead_at hk HALL.out (.inl hkD))
      have hlt0 : ¬ (k : Int) < D.length := by omega
      have hlt2 : ¬ k < D.length := by omega
      clear hlt
      cases a2 with
      | none =>
        have hc0 := HV.out.nil rfl
        have hD0 : D = [] := List.length_eq_zero_iff.mp (by have := HV.out.le; omega)
        subst hc0
        subst hD0
        obtain rfl : k = 0 := by simpa using hk
        clear x0 x1 hkD
        go_wp2_with fail
        refine wp_region_held_drew (S := (fun _ => True)) (by kernel_rfl) ?_ (fun hHeld0 => ?_)
        · (try dsimp only); all_goals trivial
        first
        | (refine wpAnyH_take (i := 0) (oi := { dst := some 15, op := Go.Op.move (Go.Operand.tmp 7), type := 3, pos := "ref.go:40", after := #[], guard := none }) (v := ?_) rfl (by kernel_rfl) (by kernel_rfl) (by kernel_rfl) (fun _ _ _ h => h) (Or.inl ⟨by rfl, ?_⟩) hHeld0 ?_
           rotate_left
           · ((intro w hSw; (try dsimp only at hSw); go_simp) <;> (first | with_reducible rfl | (rw [if_neg (by omega)]; done))))
        | (refine wpAnyH_take (i := 0) (oi := { dst := some 15, op := Go.Op.move (Go.Operand.tmp 7), type := 3, pos := "ref.go:40", after := #[], guard := none }) (v := undef) rfl (by kernel_rfl) (by kernel_rfl) (by kernel_rfl) (fun _ _ _ h => h) (Or.inr ⟨by rfl, rfl⟩) hHeld0 ?_)
        try simp only [Act.put, List.setIfInBounds_toArray, List.set_cons_zero, List.set_cons_succ]
        first
        | (refine wpAnyH_take (i := 1) (oi := { dst := some 16, op := Go.Op.move (Go.Operand.tmp 0), type := 27, pos := "ref.go:40", after := #[], guard := none }) (v := ?_) rfl (by kernel_rfl) (by kernel_rfl) (by kernel_rfl) (fun _ _ _ h => h) (Or.inl ⟨by rfl, ?_⟩) hHeld0 ?_
           rotate_left
           · ((intro w hSw; (try dsimp only at hSw); go_simp) <;> (first | with_reducible rfl | (rw [if_neg (by omega)]; done))))
        | (refine wpAnyH_take (i := 1) (oi := { dst := some 16, op := Go.Op.move (Go.Operand.tmp 0), type := 27, pos := "ref.go:40", after := #[], guard := none }) (v := undef) rfl (by kernel_rfl) (by kernel_rfl) (by kernel_rfl) (fun _ _ _ h => h) (Or.inr ⟨by rfl, rfl⟩) hHeld0 ?_)
        try simp only [Act.put, List.setIfInBounds_toArray, List.set_cons_zero, List.set_cons_succ]
        first
        | (refine wpAnyH_take (i := 2) (oi := { dst := some 17, op := Go.Op.call { callee := Go.Callee.builtin Go.Builtin.len, args := #[Go.Operand.tmp 16], argTypes := #[27] }, type := 3, pos := "ref.go:40", after := #[{ on := 1, ground := Go.Ground.data }], guard := none }) (v := ?_) rfl (by kernel_rfl) (by kernel_rfl) (by kernel_rfl) (fun _ _ _ h => h) (Or.inl ⟨by rfl, ?_⟩) hHeld0 ?_
           rotate_left
           · ((intro w hSw; (try dsimp only at hSw); go_simp) <;> (first | with_reducible rfl | (rw [if_neg (by omega)]; done))))
        | (refine wpAnyH_take (i := 2) (oi := { dst := some 17, op := Go.Op.call { callee := Go.Callee.builtin Go.Builtin.len, args := #[Go.Operand.tmp 16], argTypes := #[27] }, type := 3, pos := "ref.go:40", after := #[{ on := 1, ground := Go.Ground.data }], guard := none }) (v := undef) rfl (by kernel_rfl) (by kernel_rfl) (by kernel_rfl) (fun _ _ _ h => h) (Or.inr ⟨by rfl, rfl⟩) hHeld0 ?_)
        try simp only [Act.put, List.setIfInBounds_toArray, List.set_cons_zero, List.set_cons_succ]
        first
        | (refine wpAnyH_take (i := 3) (oi := { dst := some 18, op := Go.Op.binOp Go.BinOp.lss 3 (Go.Operand.tmp 15) (Go.Operand.tmp 17) 3, type := 4, pos := "ref.go:40", after := #[{ on := 0, ground := Go.Ground.data }, { on := 2, ground := Go.Ground.data }], guard := none }) (v := ?_) rfl (by kernel_rfl) (by kernel_rfl) (by kernel_rfl) (fun _ _ _ h => h) (Or.inl ⟨by rfl, ?_⟩) hHeld0 ?_
           rotate_left
           · ((intro w hSw; (try dsimp only at hSw); go_simp) <;> (first | with_reducible rfl | (rw [if_neg (by omega)]; done))))
        | (refine wpAnyH_take (i := 3) (oi := { dst := some 18, op := Go.Op.binOp Go.BinOp.lss 3 (Go.Operand.tmp 15) (Go.Operand.tmp 17) 3, type := 4, pos := "ref.go:40", after := #[{ on := 0, ground := Go.Ground.data }, { on := 2, ground := Go.Ground.data }], guard := none }) (v := undef) rfl (by kernel_rfl) (by kernel_rfl) (by kernel_rfl) (fun _ _ _ h => h) (Or.inr ⟨by rfl, rfl⟩) hHeld0 ?_)
        try simp only [Act.put, List.setIfInBounds_toArray, List.set_cons_zero, List.set_cons_succ]
        first
        | (refine wpAnyH_take (i := 4) (oi := { dst := some 19, op := Go.Op.move (Go.Operand.tmp 18), type := 4, pos := "ref.go:40", after := #[{ on := 3, ground := Go.Ground.data }], guard := none }) (v := ?_) rfl (by kernel_rfl) (by kernel_rfl) (by kernel_rfl) (fun _ _ _ h => h) (Or.inl ⟨by rfl, ?_⟩) hHeld0 ?_
           rotate_left
           · ((intro w hSw; (try dsimp only at hSw); go_simp) <;> (first | with_reducible rfl | (rw [if_neg (by omega)]; done))))
        | (refine wpAnyH_take (i := 4) (oi := { dst := some 19, op := Go.Op.move (Go.Operand.tmp 18), type := 4, pos := "ref.go:40", after := #[{ on := 3, ground := Go.Ground.data }], guard := none }) (v := undef) rfl (by kernel_rfl) (by kernel_rfl) (by kernel_rfl) (fun _ _ _ h => h) (Or.inr ⟨by rfl, rfl⟩) hHeld0 ?_)
        try simp only [Act.put, List.setIfInBounds_toArray, List.set_cons_zero, List.set_cons_succ]
        refine wpAnyH_take (i := 5) (oi := { dst := some 20, op := Go.Op.move (Go.Operand.tmp 0), type := 27, pos := "ref.go:40", after := #[{ on := 4, ground := Go.Ground.guard }], guard := some (4, true) }) (v := undef) rfl (by kernel_rfl) (by kernel_rfl) (by kernel_rfl) (fun _ _ _ h => h) (Or.inr ⟨by rfl, rfl⟩) hHeld0 ?_
        try simp only [Act.put, List.setIfInBounds_toArray, List.set_cons_zero, List.set_cons_succ]
        refine wpAnyH_take (i := 6) (oi := { dst := some 21, op := Go.Op.move (Go.Operand.tmp 7), type := 3, pos := "ref.go:40", after := #[{ on := 4, ground := Go.Ground.guard }], guard := some (4, true) }) (v := undef) rfl (by kernel_rfl) (by kernel_rfl) (by kernel_rfl) (fun _ _ _ h => h) (Or.inr ⟨by rfl, rfl⟩) hHeld0 ?_
        try simp only [Act.put, List.setIfInBounds_toArray, List.set_cons_zero, List.set_cons_succ]
        refine wpAnyH_take (i := 7) (oi := { dst := some 22, op := Go.Op.indexAddr 27 (Go.Operand.tmp 20) (Go.Operand.tmp 21), type := 0, pos := "ref.go:40", after := #[{ on := 5, ground := Go.Ground.data }, { on := 6, ground := Go.Ground.data }, { on := 4, ground := Go.Ground.guard }], guard := some (4, true) }) (v := undef) rfl (by kernel_rfl) (by kernel_rfl) (by kernel_rfl) (fun _ _ _ h => h) (Or.inr ⟨by rfl, rfl⟩) hHeld0 ?_
        try simp only [Act.put, List.setIfInBounds_toArray, List.set_cons_zero, List.set_cons_succ]
        refine wpAnyH_take (i := 8) (oi := { dst := some 23, op := Go.Op.fieldAddr 62 (Go.Operand.tmp 22) 0, type := 0, pos := "ref.go:40", after := #[{ on := 7, ground := Go.Ground.data }, { on := 4, ground := Go.Ground.guard }], guard := some (4, true) }) (v := undef) rfl (by kernel_rfl) (by kernel_rfl) (by kernel_rfl) (fun _ _ _ h => h) (Or.inr ⟨by rfl, rfl⟩) hHeld0 ?_
        try simp only [Act.put, List.setIfInBounds_toArray, List.set_cons_zero, List.set_cons_succ]
        refine wpAnyH_take (i := 9) (oi := { dst := some 24, op := Go.Op.load 29 (Go.Operand.tmp 23), type := 29, pos := "ref.go:40", after := #[{ on := 8, ground := Go.Ground.data }, { on := 4, ground := Go.Ground.guard }], guard := some (4, true) }) (v := undef) rfl (by kernel_rfl) (by kernel_rfl) (by kernel_rfl) (fun _ _ _ h => h) (Or.inr ⟨by rfl, rfl⟩) hHeld0 ?_
        try simp only [Act.put, List.setIfInBounds_toArray, List.set_cons_zero, List.set_cons_succ]
        refine wpAnyH_take (i := 10) (oi := { dst := some 25, op := Go.Op.load 29 (Go.Operand.tmp 4), type := 29, pos := "ref.go:40", after := #[{ on := 4, ground := Go.Ground.guard }], guard := some (4, true) }) (v := undef) rfl (by kernel_rfl) (by kernel_rfl) (by kernel_rfl) (fun _ _ _ h => h) (Or.inr ⟨by rfl, rfl⟩) hHeld0 ?_
        try simp only [Act.put, List.setIfInBounds_toArray, List.set_cons_zero, List.set_cons_succ]
        refine wpAnyH_take (i := 11) (oi := { dst := some 26, op := Go.Op.call { callee := Go.Callee.value (Go.Operand.func 22), args := #[Go.Operand.tmp 24, Go.Operand.tmp 25], argTypes := #[29, 29] }, type := 4, pos := "ref.go:40", after := #[{ on := 9, ground := Go.Ground.data }, { on := 10, ground := Go.Ground.data }, { on := 4, ground := Go.Ground.chain }, { on := 4, ground := Go.Ground.guard }], guard := some (4, true) }) (v := undef) rfl (by kernel_rfl) (by kernel_rfl) (by kernel_rfl) (fun _ _ _ h => h) (Or.inr ⟨by rfl, rfl⟩) hHeld0 ?_
        try simp only [Act.put, List.setIfInBounds_toArray, List.set_cons_zero, List.set_cons_succ]
        first
        | (refine wpAnyH_take (i := 12) (oi := { dst := some 27, op := Go.Op.pick (Go.Operand.tmp 19) (Go.Operand.tmp 26) (Go.Operand.const (Go.Value.bool false)), type := 4, pos := "ref.go:40", after := #[{ on := 4, ground := Go.Ground.data }, { on := 11, ground := Go.Ground.data }], guard := none }) (v := ?_) rfl (by kernel_rfl) (by kernel_rfl) (by kernel_rfl) (fun _ _ _ h => h) (Or.inl ⟨by rfl, ?_⟩) hHeld0 ?_
           rotate_left
           · ((intro w hSw; (try dsimp only at hSw); go_simp) <;> (first | with_reducible rfl | (rw [if_neg (by omega)]; done))))
        | (refine wpAnyH_take (i := 12) (oi := { dst := some 27, op := Go.Op.pick (Go.Operand.tmp 19) (Go.Operand.tmp 26) (Go.Operand.const (Go.Value.bool false)), type := 4, pos := "ref.go:40", after := #[{ on := 4, ground := Go.Ground.data }, { on := 11, ground := Go.Ground.data }], guard := none }) (v := undef) rfl (by kernel_rfl) (by kernel_rfl) (by kernel_rfl) (fun _ _ _ h => h) (Or.inr ⟨by rfl, rfl⟩) hHeld0 ?_)
        try simp only [Act.put, List.setIfInBounds_toArray, List.set_cons_zero, List.set_cons_succ]
        refine wpAnyH_done (by kernel_rfl) ?_ _
        clear hHeld0
        go_wp2_with fail
        have HBX : Hid (Below w2.heap.size w2 wr.drew) := Lib.hid (Below.drew HBW.out)
        generalize wr.drew = w4 at *
        have HB8 := Lib.hid (Below.next HB2.out HBX.out)
        have HBA : Hid (Below w4.heap.size w4 ((w4.alloc (.cells #[] 62)).drew)) := Lib.hid (Below.drew ((Below.refl _ _).alloc (Nat.le_refl _) _))
        have HO1 : Hid (((w4.alloc (.cells #[] 62)).drew).ownsRow w4.heap.size 62 3 (.slice (some ⟨w4.heap.size, 0, none⟩) 0 0) 0 []) := Lib.hid (World.ownsRow_made (w := w4) (base := w4.heap.size) (size := 3) (e := 62) #[] 0 (Nat.le_refl _) (by decide) rfl)
        have z0 : w4.cell? ⟨w.heap.size, 0, none⟩ = some (.slice pa adr.length pc) := cell_keep4 (cell_of HX1.out 0 rfl) HB8.out
        have z1 : w4.cell? ⟨w.heap.size, 1, none⟩ = some (.int .i64 bits) := cell_keep4 (cell_of HX1.out 1 rfl) HB8.out
        have HZ0 := Lib.hid z0
        have HZ1 := Lib.hid z1
        have y0 : ((w4.alloc (.cells #[] 62)).drew).cell? ⟨w.heap.size, 0, none⟩ = some (.slice pa adr.length pc) := cell_keep4 z0 HBA.out
        have y1 : ((w4.alloc (.cells #[] 62)).drew).cell? ⟨w.heap.size, 1, none⟩ = some (.int .i64 bits) := cell_keep4 z1 HBA.out
        have HBB : Hid (Below w4.heap.size w4 (((w4.alloc (.cells #[] 62)).alloc (.cells #[.slice pa adr.length pc, .int .i64 bits, .int .i64 o] 62)).drew)) := Lib.hid (Below.drew (((Below.refl _ _).alloc (Nat.le_refl _) _).alloc (by simp) _))
        have HBC : Hid (Below w4.heap.size w4 (((w4.alloc (.cells #[.slice pa adr.length pc, .int .i64 bits, .int .i64 o] 62)).alloc (.cells #[] 62)).drew)) := Lib.hid (Below.drew (((Below.refl _ _).alloc (Nat.le_refl _) _).alloc (by simp) _))
        have HOB : Hid ((((w4.alloc (.cells #[] 62)).alloc (.cells #[.slice pa adr.length pc, .int .i64 bits, .int .i64 o] 62)).drew).ownsRow w4.heap.size 62 3 (.slice (some ⟨w4.heap.size, 0, none⟩) 0 0) 0 []) := Lib.hid ((World.ownsRow_made (w := w4) (base := w4.heap.size) (size := 3) (e := 62) #[] 0 (Nat.le_refl _) (by decide) rfl).alloc _)
        have HOC : Hid ((((w4.alloc (.cells #[.slice pa adr.length pc, .int .i64 bits, .int .i64 o] 62)).alloc (.cells #[] 62)).drew).ownsRow w4.heap.size 62 3 (.slice (some ⟨w4.heap.size + 1, 0, none⟩) 0 0) 0 []) := Lib.hid (by
          have h := World.ownsRow_made (w := w4.alloc (.cells #[.slice pa adr.length pc, .int .i64 bits, .int .i64 o] 62)) (base := w4.heap.size) (size := 3) (e := 62) #[] 0 (by simp) (by decide) rfl
          rw [show (w4.alloc (.cells #[.slice pa adr.length pc, .int .i64 bits, .int .i64 o] 62)).heap.size = w4.heap.size + 1 by simp] at h
          exact h)
        have HRB : Hid (RowsAt (((w4.alloc (.cells #[] 62)).alloc (.cells #[.slice pa adr.length pc, .int .i64 bits, .int .i64 o] 62)).drew) (some ⟨w4.heap.size + 1, 0, none⟩) 1 [(⟨pa, pc, adr, bits, o⟩ : Rw)]) := Lib.hid (by
          have h := rows_one (w4.alloc (.cells #[] 62)) (⟨pa, pc, adr, bits, o⟩ : Rw)
          rw [show (w4.alloc (.cells #[] 62)).heap.size = w4.heap.size + 1 by simp] at h
          exact h.below (Below.drew (Below.refl _ _)))
        have HRC : Hid (RowsAt (((w4.alloc (.cells #[.slice pa adr.length pc, .int .i64 bits, .int .i64 o] 62)).alloc (.cells #[] 62)).drew) (some ⟨w4.heap.size, 0, none⟩) 1 [(⟨pa, pc, adr, bits, o⟩ : Rw)]) := Lib.hid ((rows_one w4 (⟨pa, pc, adr, bits, o⟩ : Rw)).below (Below.drew ((Below.refl _ _).alloc (Nat.le_refl _) _)))
        have y2 : ∀ o', (w4.alloc o').cell? ⟨w.heap.size, 0, none⟩ = some (.slice pa adr.length pc) := fun o' => cell_keep4 z0 ((Below.refl _ _).alloc (Nat.le_refl _) _)
        have y3 : ∀ o', (w4.alloc o').cell? ⟨w.heap.size, 1, none⟩ = some (.int .i64 bits) := fun o' => cell_keep4 z1 ((Below.refl _ _).alloc (Nat.le_refl _) _)
        go_region_law (first | (refine step_append_rows (by rfl) _ _ (by rfl) w4.heap.size (.slice (some ⟨w4.heap.size, 0, none⟩) 0 0) 0 [] (by rfl) HO1.out none 0 0 [] (by rfl) rfl (rows_nil _) (by simp) HBA.out.size ?_; intro v1 w5 hown hgrow; have HO2 : Hid (w5.ownsRow w4.heap.size 62 3 v1 0 []) := Lib.hid hown; have HB5 := Lib.hid (HBA.out.grown hgrow HBA.out.size (fun k hk => by cases hk; exact Nat.le_refl _)); have x0 := cell_keep4 HZ0.out HB5.out; have x1 := cell_keep4 HZ1.out HB5.out; clear hown hgrow) | (refine step_append_rows (by rfl) _ _ (by rfl) w4.heap.size (.slice (some ⟨w4.heap.size, 0, none⟩) 0 0) 0 [] (by rfl) HOB.out none 0 0 [] (by rfl) rfl (rows_nil _) (by simp) HBB.out.size ?_; intro v1 w5 hown hgrow; have HO2 : Hid (w5.ownsRow w4.heap.size 62 3 v1 0 []) := Lib.hid hown; have HB5 := Lib.hid (HBB.out.grown hgrow HBB.out.size (fun k hk => by simp [Value.ownBlock] at hk; omega)); have x0 := cell_keep4 HZ0.out HB5.out; have x1 := cell_keep4 HZ1.out HB5.out; have HR5 := Lib.hid (RowsAt.grown HRB.out hgrow (by simp)); clear hown hgrow) | (refine step_append_rows (by rfl) _ _ (by rfl) w4.heap.size (.slice (some ⟨w4.heap.size + 1, 0, none⟩) 0 0) 0 [] (by rfl) HOC.out none 0 0 [] (by rfl) rfl (rows_nil _) (by simp) HBC.out.size ?_; intro v1 w5 hown hgrow; have HO2 : Hid (w5.ownsRow w4.heap.size 62 3 v1 0 []) := Lib.hid hown; have HB5 := Lib.hid (HBC.out.grown hgrow HBC.out.size (fun k hk => by simp [Value.ownBlock] at hk; omega)); have x0 := cell_keep4 HZ0.out HB5.out; have x1 := cell_keep4 HZ1.out HB5.out; have HR5 := Lib.hid (RowsAt.grown HRC.out hgrow (by simp)); clear hown hgrow) | (refine step_append_rows (by rfl) _ _ (by rfl) w4.heap.size v1 0 [] (by rfl) (HO2.out.alloc _) (some ⟨w5.heap.size, 0, none⟩) 1 1 [(⟨pa, pc, adr, bits, o⟩ : Rw)] (by rfl) rfl (rows_one w5 (⟨pa, pc, adr, bits, o⟩ : Rw)) (by simp) (by have := HB5.out.size; simp; omega) ?_; intro v2 w6 hown hgrow; have HO3 : Hid (w6.ownsRow w4.heap.size 62 3 v2 1 (cellsR [(⟨pa, pc, adr, bits, o⟩ : Rw)])) := Lib.hid hown; have HB6 := Lib.hid ((HB5.out.alloc HB5.out.size _).grown hgrow (by have := HB5.out.size; simp; omega) (fun k hk => (HO2.out.lt k hk).1)); clear hown hgrow) | (refine step_append_rows (by rfl) _ _ (by rfl) w4.heap.size v1 0 [] (by rfl) HO2.out (some ⟨w4.heap.size + 1, 0, none⟩) 1 1 [(⟨pa, pc, adr, bits, o⟩ : Rw)] (by rfl) rfl HR5.out (by simp) HB5.out.size ?_; intro v2 w6 hown hgrow; have HO3 : Hid (w6.ownsRow w4.heap.size 62 3 v2 1 (cellsR [(⟨pa, pc, adr, bits, o⟩ : Rw)])) := Lib.hid hown; have HB6 := Lib.hid (HB5.out.grown hgrow HB5.out.size (fun k hk => (HO2.out.lt k hk).1)); clear hown hgrow) | (refine step_append_rows (by rfl) _ _ (by rfl) w4.heap.size v1 0 [] (by rfl) HO2.out (some ⟨w4.heap.size, 0, none⟩) 1 1 [(⟨pa, pc, adr, bits, o⟩ : Rw)] (by rfl) rfl HR5.out (by simp) HB5.out.size ?_; intro v2 w6 hown hgrow; have HO3 : Hid (w6.ownsRow w4.heap.size 62 3 v2 1 (cellsR [(⟨pa, pc, adr, bits, o⟩ : Rw)])) := Lib.hid hown; have HB6 := Lib.hid (HB5.out.grown hgrow HB5.out.size (fun k hk => (HO2.out.lt k hk).1)); clear hown hgrow) | fail)
        go_wp2_with (first | (at_builtin; refine wpList_append_rows rfl _ _ rfl w4.heap.size v2 1 (cellsR [(⟨pa, pc, adr, bits, o⟩ : Rw)]) rfl HO3.out none 0 0 [] rfl rfl (rows_nil _) (by simp) HB6.out.size ?_; intro v3 w7 hown hgrow; have HO7 := Lib.hid hown; have HB7 := Lib.hid (HB6.out.grown hgrow HB6.out.size (fun k hk => (HO3.out.lt k hk).1)); clear hown hgrow) | fail)
        all_goals
          have hown : w7.ownsRow w4.heap.size 62 3 v3 1 (cellsR [(⟨pa, pc, adr, bits, o⟩ : Rw)]) := HO7.out
          obtain ⟨hn, a6, cap6, rfl, hrow⟩ := rows_own hown
          rw [HPV.out]
          go_ret
          exact ⟨a6, cap6, rfl, hrow, Below.next HB1.out (Below.next HB8.out HB7.out)⟩
      | some x =>
        obtain ⟨b, off, sp⟩ := x
        obtain rfl : sp = none := HV.out.frm _ rfl
        clear x0 x1 hkD
        go_wp2_with fail
        refine wp_region_held_drew (S := (fun _ => True)) (by kernel_rfl) ?_ (fun hHeld0 => ?_)
        · (try dsimp only); all_goals trivial
        first
        | (refine wpAnyH_take (i := 0) (oi := { dst := some 15, op := Go.Op.move (Go.Operand.tmp 7), type := 3, pos := "ref.go:40", after := #[], guard := none }) (v := ?_) rfl (by kernel_rfl) (by kernel_rfl) (by kernel_rfl) (fun _ _ _ h => h) (Or.inl ⟨by rfl, ?_⟩) hHeld0 ?_
           rotate_left
           · ((intro w hSw; (try dsimp only at hSw); go_simp) <;> (first | with_reducible rfl | (rw [if_neg (by omega)]; done))))
        | (refine wpAnyH_take (i := 0) (oi := { dst := some 15, op := Go.Op.move (Go.Operand.tmp 7), type := 3, pos := "ref.go:40", after := #[], guard := none }) (v := undef) rfl (by kernel_rfl) (by kernel_rfl) (by kernel_rfl) (fun _ _ _ h => h) (Or.inr ⟨by rfl, rfl⟩) hHeld0 ?_)
        try simp only [Act.put, List.setIfInBounds_toArray, List.set_cons_zero, List.set_cons_succ]
        first
        | (refine wpAnyH_take (i := 1) (oi := { dst := some 16, op := Go.Op.move (Go.Operand.tmp 0), type := 27, pos := "ref.go:40", after := #[], guard := none }) (v := ?_) rfl (by kernel_rfl) (by kernel_rfl) (by kernel_rfl) (fun _ _ _ h => h) (Or.inl ⟨by rfl, ?_⟩) hHeld0 ?_
           rotate_left
           · ((intro w hSw; (try dsimp only at hSw); go_simp) <;> (first | with_reducible rfl | (rw [if_neg (by omega)]; done))))
        | (refine wpAnyH_take (i := 1) (oi := { dst := some 16, op := Go.Op.move (Go.Operand.tmp 0), type := 27, pos := "ref.go:40", after := #[], guard := none }) (v := undef) rfl (by kernel_rfl) (by kernel_rfl) (by kernel_rfl) (fun _ _ _ h => h) (Or.inr ⟨by rfl, rfl⟩) hHeld0 ?_)
        try simp only [Act.put, List.setIfInBounds_toArray, List.set_cons_zero, List.set_cons_succ]
        first
        | (refine wpAnyH_take (i := 2) (oi := { dst := some 17, op := Go.Op.call { callee := Go.Callee.builtin Go.Builtin.len, args := #[Go.Operand.tmp 16], argTypes := #[27] }, type := 3, pos := "ref.go:40", after := #[{ on := 1, ground := Go.Ground.data }], guard := none }) (v := ?_) rfl (by kernel_rfl) (by kernel_rfl) (by kernel_rfl) (fun _ _ _ h => h) (Or.inl ⟨by rfl, ?_⟩) hHeld0 ?_
           rotate_left
           · ((intro w hSw; (try dsimp only at hSw); go_simp) <;> (first | with_reducible rfl | (rw [if_neg (by omega)]; done))))
        | (refine wpAnyH_take (i := 2) (oi := { dst := some 17, op := Go.Op.call { callee := Go.Callee.builtin Go.Builtin.len, args := #[Go.Operand.tmp 16], argTypes := #[27] }, type := 3, pos := "ref.go:40", after := #[{ on := 1, ground := Go.Ground.data }], guard := none }) (v := undef) rfl (by kernel_rfl) (by kernel_rfl) (by kernel_rfl) (fun _ _ _ h => h) (Or.inr ⟨by rfl, rfl⟩) hHeld0 ?_)
        try simp only [Act.put, List.setIfInBounds_toArray, List.set_cons_zero, List.set_cons_succ]
        first
        | (refine wpAnyH_take (i := 3) (oi := { dst := some 18, op := Go.Op.binOp Go.BinOp.lss 3 (Go.Operand.tmp 15) (Go.Operand.tmp 17) 3, type := 4, pos := "ref.go:40", after := #[{ on := 0, ground := Go.Ground.data }, { on := 2, ground := Go.Ground.data }], guard := none }) (v := ?_) rfl (by kernel_rfl) (by kernel_rfl) (by kernel_rfl) (fun _ _ _ h => h) (Or.inl ⟨by rfl, ?_⟩) hHeld0 ?_
           rotate_left
           · ((intro w hSw; (try dsimp only at hSw); go_simp) <;> (first | with_reducible rfl | (rw [if_neg (by omega)]; done))))
        | (refine wpAnyH_take (i := 3) (oi := { dst := some 18, op := Go.Op.binOp Go.BinOp.lss 3 (Go.Operand.tmp 15) (Go.Operand.tmp 17) 3, type := 4, pos := "ref.go:40", after := #[{ on := 0, ground := Go.Ground.data }, { on := 2, ground := Go.Ground.data }], guard := none }) (v := undef) rfl (by kernel_rfl) (by kernel_rfl) (by kernel_rfl) (fun _ _ _ h => h) (Or.inr ⟨by rfl, rfl⟩) hHeld0 ?_)
        try simp only [Act.put, List.setIfInBounds_toArray, List.set_cons_zero, List.set_cons_succ]
        first
        | (refine wpAnyH_take (i := 4) (oi := { dst := some 19, op := Go.Op.move (Go.Operand.tmp 18), type := 4, pos := "ref.go:40", after := #[{ on := 3, ground := Go.Ground.data }], guard := none }) (v := ?_) rfl (by kernel_rfl) (by kernel_rfl) (by kernel_rfl) (fun _ _ _ h => h) (Or.inl ⟨by rfl, ?_⟩) hHeld0 ?_
           rotate_left
           · ((intro w hSw; (try dsimp only at hSw); go_simp) <;> (first | with_reducible rfl | (rw [if_neg (by omega)]; done))))
        | (refine wpAnyH_take (i := 4) (oi := { dst := some 19, op := Go.Op.move (Go.Operand.tmp 18), type := 4, pos := "ref.go:40", after := #[{ on := 3, ground := Go.Ground.data }], guard := none }) (v := undef) rfl (by kernel_rfl) (by kernel_rfl) (by kernel_rfl) (fun _ _ _ h => h) (Or.inr ⟨by rfl, rfl⟩) hHeld0 ?_)
        try simp only [Act.put, List.setIfInBounds_toArray, List.set_cons_zero, List.set_cons_succ]
        refine wpAnyH_take (i := 5) (oi := { dst := some 20, op := Go.Op.move (Go.Operand.tmp 0), type := 27, pos := "ref.go:40", after := #[{ on := 4, ground := Go.Ground.guard }], guard := some (4, true) }) (v := undef) rfl (by kernel_rfl) (by kernel_rfl) (by kernel_rfl) (fun _ _ _ h => h) (Or.inr ⟨by rfl, rfl⟩) hHeld0 ?_
        try simp only [Act.put, List.setIfInBounds_toArray, List.set_cons_zero, List.set_cons_succ]
        refine wpAnyH_take (i := 6) (oi := { dst := some 21, op := Go.Op.move (Go.Operand.tmp 7), type := 3, pos := "ref.go:40", after := #[{ on := 4, ground := Go.Ground.guard }], guard := some (4, true) }) (v := undef) rfl (by kernel_rfl) (by kernel_rfl) (by kernel_rfl) (fun _ _ _ h => h) (Or.inr ⟨by rfl, rfl⟩) hHeld0 ?_
        try simp only [Act.put, List.setIfInBounds_toArray, List.set_cons_zero, List.set_cons_succ]
        refine wpAnyH_take (i := 7) (oi := { dst := some 22, op := Go.Op.indexAddr 27 (Go.Operand.tmp 20) (Go.Operand.tmp 21), type := 0, pos := "ref.go:40", after := #[{ on := 5, ground := Go.Ground.data }, { on := 6, ground := Go.Ground.data }, { on := 4, ground := Go.Ground.guard }], guard := some (4, true) }) (v := undef) rfl (by kernel_rfl) (by kernel_rfl) (by kernel_rfl) (fun _ _ _ h => h) (Or.inr ⟨by rfl, rfl⟩) hHeld0 ?_
        try simp only [Act.put, List.setIfInBounds_toArray, List.set_cons_zero, List.set_cons_succ]
        refine wpAnyH_take (i := 8) (oi := { dst := some 23, op := Go.Op.fieldAddr 62 (Go.Operand.tmp 22) 0, type := 0, pos := "ref.go:40", after := #[{ on := 7, ground := Go.Ground.data }, { on := 4, ground := Go.Ground.guard }], guard := some (4, true) }) (v := undef) rfl (by kernel_rfl) (by kernel_rfl) (by kernel_rfl) (fun _ _ _ h => h) (Or.inr ⟨by rfl, rfl⟩) hHeld0 ?_
        try simp only [Act.put, List.setIfInBounds_toArray, List.set_cons_zero, List.set_cons_succ]
        refine wpAnyH_take (i := 9) (oi := { dst := some 24, op := Go.Op.load 29 (Go.Operand.tmp 23), type := 29, pos := "ref.go:40", after := #[{ on := 8, ground := Go.Ground.data }, { on := 4, ground := Go.Ground.guard }], guard := some (4, true) }) (v := undef) rfl (by kernel_rfl) (by kernel_rfl) (by kernel_rfl) (fun _ _ _ h => h) (Or.inr ⟨by rfl, rfl⟩) hHeld0 ?_
        try simp only [Act.put, List.setIfInBounds_toArray, List.set_cons_zero, List.set_cons_succ]
        refine wpAnyH_take (i := 10) (oi := { dst := some 25, op := Go.Op.load 29 (Go.Operand.tmp 4), type := 29, pos := "ref.go:40", after := #[{ on := 4, ground := Go.Ground.guard }], guard := some (4, true) }) (v := undef) rfl (by kernel_rfl) (by kernel_rfl) (by kernel_rfl) (fun _ _ _ h => h) (Or.inr ⟨by rfl, rfl⟩) hHeld0 ?_
        try simp only [Act.put, List.setIfInBounds_toArray, List.set_cons_zero, List.set_cons_succ]
        refine wpAnyH_take (i := 11) (oi := { dst := some 26, op := Go.Op.call { callee := Go.Callee.value (Go.Operand.func 22), args := #[Go.Operand.tmp 24, Go.Operand.tmp 25], argTypes := #[29, 29] }, type := 4, pos := "ref.go:40", after := #[{ on := 9, ground := Go.Ground.data }, { on := 10, ground := Go.Ground.data }, { on := 4, ground := Go.Ground.chain }, { on := 4, ground := Go.Ground.guard }], guard := some (4, true) }) (v := undef) rfl (by kernel_rfl) (by kernel_rfl) (by kernel_rfl) (fun _ _ _ h => h) (Or.inr ⟨by rfl, rfl⟩) hHeld0 ?_
        try simp only [Act.put, List.setIfInBounds_toArray, List.set_cons_zero, List.set_cons_succ]
        first
        | (refine wpAnyH_take (i := 12) (oi := { dst := some 27, op := Go.Op.pick (Go.Operand.tmp 19) (Go.Operand.tmp 26) (Go.Operand.const (Go.Value.bool false)), type := 4, pos := "ref.go:40", after := #[{ on := 4, ground := Go.Ground.data }, { on := 11, ground := Go.Ground.data }], guard := none }) (v := ?_) rfl (by kernel_rfl) (by kernel_rfl) (by kernel_rfl) (fun _ _ _ h => h) (Or.inl ⟨by rfl, ?_⟩) hHeld0 ?_
           rotate_left
           · ((intro w hSw; (try dsimp only at hSw); go_simp) <;> (first | with_reducible rfl | (rw [if_neg (by omega)]; done))))
        | (refine wpAnyH_take (i := 12) (oi := { dst := some 27, op := Go.Op.pick (Go.Operand.tmp 19) (Go.Operand.tmp 26) (Go.Operand.const (Go.Value.bool false)), type := 4, pos := "ref.go:40", after := #[{ on := 4, ground := Go.Ground.data }, { on := 11, ground := Go.Ground.data }], guard := none }) (v := undef) rfl (by kernel_rfl) (by kernel_rfl) (by kernel_rfl) (fun _ _ _ h => h) (Or.inr ⟨by rfl, rfl⟩) hHeld0 ?_)
        try simp only [Act.put, List.setIfInBounds_toArray, List.set_cons_zero, List.set_cons_succ]
        refine wpAnyH_done (by kernel_rfl) ?_ _
        clear hHeld0
        go_wp2_with fail
        have HBX : Hid (Below w2.heap.size w2 wr.drew) := Lib.hid (Below.drew HBW.out)
        generalize wr.drew = w4 at *
        have HB8 := Lib.hid (Below.next HB2.out HBX.out)
        have HV4 := Lib.hid (HV.out.below HBX.out)
        have HLK : Hid (k ≤ D.length) := Lib.hid hk
        have hle := HV4.out.le
        have hk2 : (k : Int) ≤ cap2 := by omega
        have hk3 : (k : Int) ≤ D.length := by omega
        have hlen : (D.take k).length = k := by rw [List.length_take]; omega
        have HLE := Lib.hid hlen
        have HBA : Hid (Below w4.heap.size w4 ((w4.alloc (.cells #[] 62)).drew)) := Lib.hid (Below.drew ((Below.refl _ _).alloc (Nat.le_refl _) _))
        have HO1 : Hid (((w4.alloc (.cells #[] 62)).drew).ownsRow w4.heap.size 62 3 (.slice (some ⟨w4.heap.size, 0, none⟩) 0 0) 0 []) := Lib.hid (World.ownsRow_made (w := w4) (base := w4.heap.size) (size := 3) (e := 62) #[] 0 (Nat.le_refl _) (by decide) rfl)
        have HVT : Hid (RowsAt ((w4.alloc (.cells #[] 62)).drew) (some ⟨b, off, none⟩) cap2 (D.take k)) := Lib.hid (rows_take (HV4.out.below HBA.out) k hk)
        have z0 : w4.cell? ⟨w.heap.size, 0, none⟩ = some (.slice pa adr.length pc) := cell_keep4 (cell_of HX1.out 0 rfl) HB8.out
        have z1 : w4.cell? ⟨w.heap.size, 1, none⟩ = some (.int .i64 bits) := cell_keep4 (cell_of HX1.out 1 rfl) HB8.out
        have HZ0 := Lib.hid z0
        have HZ1 := Lib.hid z1
        have HAD : Hid (((if cap2 = k then some (⟨b, off, none⟩ : Addr) else some (⟨b, off + k * 3, none⟩ : Addr)) = some ⟨b, off, none⟩ ∧ k = cap2) ∨ (if cap2 = k then some (⟨b, off, none⟩ : Addr) else some (⟨b, off + k * 3, none⟩ : Addr)) = some ⟨b, off + k * 3, none⟩) := Lib.hid (by
          by_cases hc : cap2 = k
          · left; rw [if_pos hc]; exact ⟨rfl, hc.symm⟩
          · right; rw [if_neg hc])
        have y0 : ((w4.alloc (.cells #[] 62)).drew).cell? ⟨w.heap.size, 0, none⟩ = some (.slice pa adr.length pc) := cell_keep4 z0 HBA.out
        have y1 : ((w4.alloc (.cells #[] 62)).drew).cell? ⟨w.heap.size, 1, none⟩ = some (.int .i64 bits) := cell_keep4 z1 HBA.out
        have HBB : Hid (Below w4.heap.size w4 (((w4.alloc (.cells #[] 62)).alloc (.cells #[.slice pa adr.length pc, .int .i64 bits, .int .i64 o] 62)).drew)) := Lib.hid (Below.drew (((Below.refl _ _).alloc (Nat.le_refl _) _).alloc (by simp) _))
        have HBC : Hid (Below w4.heap.size w4 (((w4.alloc (.cells #[.slice pa adr.length pc, .int .i64 bits, .int .i64 o] 62)).alloc (.cells #[] 62)).drew)) := Lib.hid (Below.drew (((Below.refl _ _).alloc (Nat.le_refl _) _).alloc (by simp) _))
        have HOB : Hid ((((w4.alloc (.cells #[] 62)).alloc (.cells #[.slice pa adr.length pc, .int .i64 bits, .int .i64 o] 62)).drew).ownsRow w4.heap.size 62 3 (.slice (some ⟨w4.heap.size, 0, none⟩) 0 0) 0 []) := Lib.hid ((World.ownsRow_made (w := w4) (base := w4.heap.size) (size := 3) (e := 62) #[] 0 (Nat.le_refl _) (by decide) rfl).alloc _)
        have HOC : Hid ((((w4.alloc (.cells #[.slice pa adr.length pc, .int .i64 bits, .int .i64 o] 62)).alloc (.cells #[] 62)).drew).ownsRow w4.heap.size 62 3 (.slice (some ⟨w4.heap.size + 1, 0, none⟩) 0 0) 0 []) := Lib.hid (by
          have h := World.ownsRow_made (w := w4.alloc (.cells #[.slice pa adr.length pc, .int .i64 bits, .int .i64 o] 62)) (base := w4.heap.size) (size := 3) (e := 62) #[] 0 (by simp) (by decide) rfl
          rw [show (w4.alloc (.cells #[.slice pa adr.length pc, .int .i64 bits, .int .i64 o] 62)).heap.size = w4.heap.size + 1 by simp] at h
          exact h)
        have HVB : Hid (RowsAt (((w4.alloc (.cells #[] 62)).alloc (.cells #[.slice pa adr.length pc, .int .i64 bits, .int .i64 o] 62)).drew) (some ⟨b, off, none⟩) cap2 (D.take k)) := Lib.hid (rows_take (HV4.out.below HBB.out) k hk)
        have HVC : Hid (RowsAt (((w4.alloc (.cells #[.slice pa adr.length pc, .int .i64 bits, .int .i64 o] 62)).alloc (.cells #[] 62)).drew) (some ⟨b, off, none⟩) cap2 (D.take k)) := Lib.hid (rows_take (HV4.out.below HBC.out) k hk)
        have HRB : Hid (RowsAt (((w4.alloc (.cells #[] 62)).alloc (.cells #[.slice pa adr.length pc, .int .i64 bits, .int .i64 o] 62)).drew) (some ⟨w4.heap.size + 1, 0, none⟩) 1 [(⟨pa, pc, adr, bits, o⟩ : Rw)]) := Lib.hid (by
          have h := rows_one (w4.alloc (.cells #[] 62)) (⟨pa, pc, adr, bits, o⟩ : Rw)
          rw [show (w4.alloc (.cells #[] 62)).heap.size = w4.heap.size + 1 by simp] at h
          exact h.below (Below.drew (Below.refl _ _)))
        have HRC : Hid (RowsAt (((w4.alloc (.cells #[.slice pa adr.length pc, .int .i64 bits, .int .i64 o] 62)).alloc (.cells #[] 62)).drew) (some ⟨w4.heap.size, 0, none⟩) 1 [(⟨pa, pc, adr, bits, o⟩ : Rw)]) := Lib.hid ((rows_one w4 (⟨pa, pc, adr, bits, o⟩ : Rw)).below (Below.drew ((Below.refl _ _).alloc (Nat.le_refl _) _)))
        have y2 : ∀ o', (w4.alloc o').cell? ⟨w.heap.size, 0, none⟩ = some (.slice pa adr.length pc) := fun o' => cell_keep4 z0 ((Below.refl _ _).alloc (Nat.le_refl _) _)
        have y3 : ∀ o', (w4.alloc o').cell? ⟨w.heap.size, 1, none⟩ = some (.int .i64 bits) := fun o' => cell_keep4 z1 ((Below.refl _ _).alloc (Nat.le_refl _) _)
        clear hle hlen hk
        go_region_law (first | (refine step_append_rows (by rfl) _ _ (by rfl) w4.heap.size (.slice (some ⟨w4.heap.size, 0, none⟩) 0 0) 0 [] (by rfl) HO1.out (some ⟨b, off, none⟩) k cap2 (D.take k) (by rfl) HLE.out.symm HVT.out (by have := HLE.out; have := HL2.out; omega) HBA.out.size ?_; intro v1 w5 hown hgrow; rw [Nat.zero_add, List.nil_append, HLE.out] at hown; have HO2 := Lib.hid hown; have HB5 := Lib.hid (HBA.out.grown hgrow HBA.out.size (fun k hk => by cases hk; exact Nat.le_refl _)); have x0 := cell_keep4 HZ0.out HB5.out; have x1 := cell_keep4 HZ1.out HB5.out; clear hown hgrow) | (refine step_append_rows (by rfl) _ _ (by rfl) w4.heap.size (.slice (some ⟨w4.heap.size, 0, none⟩) 0 0) 0 [] (by rfl) HOB.out (some ⟨b, off, none⟩) k cap2 (D.take k) (by rfl) HLE.out.symm HVB.out (by have := HLE.out; have := HL2.out; omega) HBB.out.size ?_; intro v1 w5 hown hgrow; rw [Nat.zero_add, List.nil_append, HLE.out] at hown; have HO2 := Lib.hid hown; have HB5 := Lib.hid (HBB.out.grown hgrow HBB.out.size (fun k hk => by simp [Value.ownBlock] at hk; omega)); have x0 := cell_keep4 HZ0.out HB5.out; have x1 := cell_keep4 HZ1.out HB5.out; have HR5 := Lib.hid (RowsAt.grown HRB.out hgrow (by simp)); clear hown hgrow) | (refine step_append_rows (by rfl) _ _ (by rfl) w4.heap.size (.slice (some ⟨w4.heap.size + 1, 0, none⟩) 0 0) 0 [] (by rfl) HOC.out (some ⟨b, off, none⟩) k cap2 (D.take k) (by rfl) HLE.out.symm HVC.out (by have := HLE.out; have := HL2.out; omega) HBC.out.size ?_; intro v1 w5 hown hgrow; rw [Nat.zero_add, List.nil_append, HLE.out] at hown; have HO2 := Lib.hid hown; have HB5 := Lib.hid (HBC.out.grown hgrow HBC.out.size (fun k hk => by simp [Value.ownBlock] at hk; omega)); have x0 := cell_keep4 HZ0.out HB5.out; have x1 := cell_keep4 HZ1.out HB5.out; have HR5 := Lib.hid (RowsAt.grown HRC.out hgrow (by simp)); clear hown hgrow) | (refine step_append_rows (by rfl) _ _ (by rfl) w4.heap.size v1 k (cellsR (D.take k)) (by rfl) (HO2.out.alloc _) (some ⟨w5.heap.size, 0, none⟩) 1 1 [(⟨pa, pc, adr, bits, o⟩ : Rw)] (by rfl) rfl (rows_one w5 (⟨pa, pc, adr, bits, o⟩ : Rw)) (by have := HL2.out; have := HLK.out; simp; omega) (by have := HB5.out.size; simp; omega) ?_; intro v2 w6 hown hgrow; have HO3 := Lib.hid hown; have HB6 := Lib.hid ((HB5.out.alloc HB5.out.size _).grown hgrow (by have := HB5.out.size; simp; omega) (fun k hk => (HO2.out.lt k hk).1)); clear hown hgrow) | (refine step_append_rows (by rfl) _ _ (by rfl) w4.heap.size v1 k (cellsR (D.take k)) (by rfl) HO2.out (some ⟨w4.heap.size + 1, 0, none⟩) 1 1 [(⟨pa, pc, adr, bits, o⟩ : Rw)] (by rfl) rfl HR5.out (by have := HL2.out; have := HLK.out; simp; omega) HB5.out.size ?_; intro v2 w6 hown hgrow; have HO3 := Lib.hid hown; have HB6 := Lib.hid (HB5.out.grown hgrow HB5.out.size (fun k hk => (HO2.out.lt k hk).1)); clear hown hgrow) | (refine step_append_rows (by rfl) _ _ (by rfl) w4.heap.size v1 k (cellsR (D.take k)) (by rfl) HO2.out (some ⟨w4.heap.size, 0, none⟩) 1 1 [(⟨pa, pc, adr, bits, o⟩ : Rw)] (by rfl) rfl HR5.out (by have := HL2.out; have := HLK.out; simp; omega) HB5.out.size ?_; intro v2 w6 hown hgrow; have HO3 := Lib.hid hown; have HB6 := Lib.hid (HB5.out.grown hgrow HB5.out.size (fun k hk => (HO2.out.lt k hk).1)); clear hown hgrow) | fail)
        go_wp2_with (first | (at_builtin; refine wpList_append_rows rfl _ _ rfl w4.heap.size v2 (k + 1) (cellsR (D.take k) ++ cellsR [(⟨pa, pc, adr, bits, o⟩ : Rw)]) rfl HO3.out ((if cap2 = k then some (⟨b, off, none⟩ : Addr) else some (⟨b, off + k * 3, none⟩ : Addr))) (D.length - k) (cap2 - k) (D.drop k) rfl (by rw [List.length_drop]) (rows_drop (HV4.out.below HB6.out) k HLK.out HAD.out) (by have := HL2.out; have := HLK.out; rw [List.length_drop]; omega) HB6.out.size ?_; intro v3 w7 hown hgrow; have HO7 := Lib.hid hown; have HB7 := Lib.hid (HB6.out.grown hgrow HB6.out.size (fun k hk => (HO3.out.lt k hk).1)); clear hown hgrow) | fail)
        all_goals
          have hown := HO7.out
          rw [← cellsR_app, ← cellsR_app] at hown
          obtain ⟨hn, a6, cap6, rfl, hrow⟩ := rows_own hown
          rw [HPV.out, HAT.out]
          go_ret
          exact ⟨a6, cap6, rfl, hrow, Below.next HB1.out (Below.next HB8.out HB7.out)⟩
end Go.Proofs.Ytlmmnjoincmgcaa

namespace Go.Proofs.Ytlmmnjoincmgcaa
set_option linter.unusedVariables false
set_option linter.unusedSimpArgs false
set_option maxRecDepth 100000
open Go.RowKit

/-! Plain's result lies in a block of bytes: what AdrOk wants of a row that is put. -/
def PlainRetT (w : World) (L : List UInt8) (bits : Int) (e : Ending) (w' : World) : Prop := ∃ ad cp, e = .returned (.agg #[.slice ad L.length cp, .int .i64 bits]) ∧ Bytes w' (.slice ad L.length cp) L ∧ L.length ≤ cp ∧ cp ≤ L.length ∧ TypAt w' ad 5 ∧ Below w.heap.size w w'
theorem plain_typ {w wr : World} {a : List UInt8} {ad : Option Addr} {cp : Nat} {bits : Int} {k : Nat} (h : PlainW w wr a ad cp bits k) (v0 v1 : Value) :
    TypAt ((wr.setCell ⟨w.heap.size + 1, 0, none⟩ v0).setCell ⟨w.heap.size + 1, 1, none⟩ v1) (some ⟨w.heap.size + 1 + 1, 0, none⟩) 5 := by
  intro b off x e
  cases e
  have : ∀ i v (W : World), (W.setCell ⟨w.heap.size + 1, i, none⟩ v).heap[w.heap.size + 1 + 1]? = W.heap[w.heap.size + 1 + 1]? := fun i v W => by
    simp [World.setCell, Array.getElem?_modify]
  exact ⟨_, _, ((this 1 v1 _).trans (this 0 v0 _)).trans h.2.2.1⟩
theorem rplain_typ (a : List UInt8) (ad : Option Addr) (cp : Nat) (bits : Int) (w : World) (ha : Bytes w (.slice ad a.length cp) a) (hal : a.length ≤ 100000) (hb0 : 0 ≤ bits) (hb8 : bits ≤ 8 * a.length) :
    Calls Try.prog 10 #[.agg #[.slice ad a.length cp, .int .i64 bits]] w (PlainRetT w (plainS a bits.toNat) bits) := by
  obtain ⟨i0, hi0, hz0, hz1, hz2⟩ := info_parts Try.info5
  have hali : (a.length : Int) ≤ 100000 := by omega
  have HVA := Lib.hid ha
  clear ha
  go_enter Try.func10, Try.ntmps10
  go_wp2_with (first | (at_make; (refine wpList_make_full _ rfl _ _ 23 rfl (w.heap.size + 2) 5 i0 _ 1 Try.underlying23 hi0 hz0 hz1 .i64 .i64 _ _ a.length rfl rfl rfl rfl (by rw [hz2]; omega) (by unfold maxLen; omega) (by simp) ?_; intro w3 hown hgrow)) | fail)
  have hst : PlainW w w3 a ad cp bits 0 := plain_start hown hgrow
  have HST := Lib.hid hst
  clear hown hgrow hi0 hz0 hz1 hz2 hst
  go_loopw [4] (fun i wr => ∃ k : Nat, i = .int .i64 k ∧ (k : Int) ≤ bits ∧ PlainW w wr a ad cp bits k) (fun i _ => bits.toNat - (intOf i).toNat)
  case atStart => exact ⟨0, rfl, by omega, HST.out⟩
  case round =>
    obtain ⟨k, rfl, hk, hpw⟩ := hrel
    have HPW := Lib.hid hpw
    have d0 : wr.cell? ⟨w.heap.size, 0, none⟩ = some (.slice ad a.length cp) := cell_of hpw.1 0 rfl
    have d1 : wr.cell? ⟨w.heap.size, 1, none⟩ = some (.int .i64 bits) := cell_of hpw.1 1 rfl
    by_cases hlt : (k : Int) < bits
    · have hka : k / 8 < a.length := by omega
      have c1 : wr.cell? ⟨w.heap.size + 1 + 1, k / 8, none⟩ = some (.int .u8 ((plainS a k).getD (k / 8) 0).toNat) := cell_of hpw.2.2.1 _ (cells_at (by rw [plainS_len]; exact hka))
      have f1 : wr.frozen? ⟨w.heap.size + 1 + 1, k / 8, none⟩ = false := free_of hpw.2.2.1 _
      have hy : ((plainS a k).getD (k / 8) 0).toNat + bitAt a k * 2 ^ (7 - k % 8) < 256 := plain_bd (by omega)
      have HN := Lib.hid (plainS_next (a := a) (i := k) (by omega))
      obtain ⟨x, hx⟩ : ∃ x, bitAt a k = x := ⟨_, rfl⟩
      have hx2 : x ≤ 1 := by rw [← hx]; unfold bitAt; omega
      rw [hx] at hy HN
      obtain ⟨y, hyy⟩ : ∃ y, ((plainS a k).getD (k / 8) 0).toNat = y := ⟨_, rfl⟩
      rw [hyy] at hy c1 HN
      have HXA := Lib.hid hx
      have HKA := Lib.hid hka
      have HAL := Lib.hid hal
      have HVB : Hid (Bytes wr (.slice ad a.length cp) a) := Lib.hid (HVA.out.below hpw.2.2.2)
      have HY := Lib.hid hy
      have hi0 : (0 : Int) ≤ k := by omega
      have hi1 : (0 : Int) ≤ (k : Int) / 8 := by omega
      have hi2 : (k : Int) / 8 < a.length := by omega
      have hi3 : (k : Int) ≤ 1000000 := by omega
      have hr0 : (0 : Int) ≤ (k : Int) % 8 := by omega
      have hr1 : (k : Int) % 8 ≤ 7 := by omega
      have HK1 : Hid (((k + 1 : Nat) : Int) ≤ bits) := Lib.hid (by omega)
      have HMS : Hid (bits.toNat - (intOf (.int .i64 ((k : Int) + 1))).toNat < bits.toNat - (intOf (.int .i64 (k : Int))).toNat) := Lib.hid (by simp [intOf]; omega)
      clear hpw hx hyy hka hal hy
      have hw1 := wrap_i64 ((k : Int) / 8) (by omega) (by omega)
      have ht1 : ((k : Int) / 8).toNat = k / 8 := by omega
      have hw2 := wrap_i64 ((k : Int) % 8) (by omega) (by omega)
      have hw3 := wrap_i64 (7 - (k : Int) % 8) (by omega) (by omega)
      have hm : (k : Int).tmod 8 = (k : Int) % 8 := Int.tmod_eq_emod_of_nonneg hi0
      have ht3 : (7 - (k : Int) % 8).toNat = 7 - k % 8 := by omega
      have hp : x * 2 ^ (7 - k % 8) < 256 := by have := HY.out; omega
      have he2 : (x : Int) * 2 ^ (7 - k % 8) = ((x * 2 ^ (7 - k % 8) : Nat) : Int) := by simp
      have hw4 : IntKind.u8.wrap ((x : Int) * 2 ^ (7 - k % 8)) = ((x * 2 ^ (7 - k % 8) : Nat) : Int) := by rw [he2, wrap_u8 _ (by omega) (by omega)]
      clear he2
      have HV : Hid (((y : Int) + (x : Int) * 2 ^ (7 - k % 8)) % 256 = ((y + x * 2 ^ (7 - k % 8) : Nat) : Int)) := Lib.hid (by
        have e3 : (y : Int) + (x : Int) * 2 ^ (7 - k % 8) = ((y + x * 2 ^ (7 - k % 8) : Nat) : Int) := by simp
        rw [e3, Int.emod_eq_of_lt (by omega) (by have := HY.out; omega)])
      have hw5 : IntKind.u8.wrap ((y : Int) + ((x * 2 ^ (7 - k % 8) : Nat) : Int)) = ((y + x * 2 ^ (7 - k % 8) : Nat) : Int) := by
        rw [wrap_u8 _ (by omega) (by have := HY.out; omega)]
        simp
      clear hp
      go_wp2_with fail
      refine wp_region_still_tail 18 (by kernel_rfl) (by kernel_rfl) ?_
      simp only [List.take_succ_cons, List.take_zero, List.drop_succ_cons, List.drop_zero]
      repeat still_step
      still_call (rbit_v _ _ k wr.drew HVB.out HKA.out HAL.out x HXA.out)
      repeat still_step
      try refine wpStill_nil ?_
      clear hw1 ht1 hw2 hw3 ht3 hm hw4 hw5
      change wpList _ _ _ _ _ wr.drew
      go_wp2_with fail
      go_roundw
      case rel => exact ⟨k + 1, by go_num, HK1.out, plain_step HPW.out HN.out HY.out HV.out⟩
      case measure => exact HMS.out
    · have HPB : Hid (bits.toNat = k) := Lib.hid (by omega)
      have d2 : wr.cell? ⟨w.heap.size + 1, 0, none⟩ = some (.slice none 0 0) := cell_of hpw.2.1 0 rfl
      have d3 : wr.cell? ⟨w.heap.size + 1, 1, none⟩ = some (.int .i64 0) := cell_of hpw.2.1 1 rfl
      have g2 := fun i => free_of hpw.2.1 i
      clear hpw
      go_wp2_with fail
      have HE := plain_end HPW.out (.slice (some ⟨w.heap.size + 1 + 1, 0, none⟩) a.length a.length) (.int .i64 bits)
      rw [plainS_len] at HE
      have HTY := plain_typ HPW.out (.slice (some ⟨w.heap.size + 1 + 1, 0, none⟩) a.length a.length) (.int .i64 bits)
      refine bodyPost_ret (plain_results _ _ _ _ _ _ HE.1 _ rfl) rfl ⟨some ⟨w.heap.size + 1 + 1, 0, none⟩, a.length, ?_, ?_, ?_, ?_, HTY, HE.2.2⟩
      · rw [plainS_len]
      · rw [HPB.out, plainS_len]; exact HE.2.1
      · rw [plainS_len]; exact Nat.le_refl _
      · rw [plainS_len]; exact Nat.le_refl _
end Go.Proofs.Ytlmmnjoincmgcaa
