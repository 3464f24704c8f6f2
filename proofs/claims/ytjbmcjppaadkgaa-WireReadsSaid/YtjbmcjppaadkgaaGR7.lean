/- Texts of this seat, merged: Wire10, Wire11, Wire12, Wire13, Wire14, Wire2. -/
import Derived.Test.YtjbmcjppaadkgaaGR6
import Derived.Laws.EntriesVeiled
namespace Go.Proofs.Ytjbmcjppaadkgaa
set_option linter.unusedVariables false
set_option linter.unusedSimpArgs false
set_option maxRecDepth 100000
open Go.RowKit
def upd {α : Type} (f : Nat → α) (c : Nat) (v : α) : Nat → α := fun i => if i = c then v else f i
def msgC (k : Int) (N : Nat → Nat) (X : Nat → ByteArray) : Array Value := #[.int .i64 k, .int .u32 (N 1 : Nat), .int .u32 (N 2 : Nat), .int .u64 (N 3 : Nat), .string (X 4), .string (X 5), .string (X 6), .string (X 7), .string (X 8), .string (X 9), .string (X 10), .string (X 11), .string (X 12)]
def MsgAt (w : World) (B : Nat) (k : Int) (N : Nat → Nat) (X : Nat → ByteArray) : Prop := w.heap[B]? = some (.cells (msgC k N X) 25 (0, 0))
theorem msg_set32 {w : World} {B c u : Nat} {k : Int} {N : Nat → Nat} {X : Nat → ByteArray} (h : MsgAt w B k N X) (hc : c = 1 ∨ c = 2) : MsgAt (w.setCell ⟨B, c, none⟩ (.int .u32 (u : Nat))) B k (upd N c u) X := by
  unfold MsgAt at h ⊢
  rw [set_block h]
  rcases hc with rfl | rfl <;> simp [msgC, upd]
theorem msg_set64 {w : World} {B c u : Nat} {k : Int} {N : Nat → Nat} {X : Nat → ByteArray} (h : MsgAt w B k N X) (hc : c = 3) : MsgAt (w.setCell ⟨B, c, none⟩ (.int .u64 (u : Nat))) B k (upd N c u) X := by
  unfold MsgAt at h ⊢
  rw [set_block h]
  subst hc
  simp [msgC, upd]
theorem msg_setx {w : World} {B c : Nat} {s : ByteArray} {k : Int} {N : Nat → Nat} {X : Nat → ByteArray} (h : MsgAt w B k N X) (h1 : 4 ≤ c) (h2 : c ≤ 12) : MsgAt (w.setCell ⟨B, c, none⟩ (.string s)) B k N (upd X c s) := by
  unfold MsgAt at h ⊢
  rw [set_block h]
  have : c = 4 ∨ c = 5 ∨ c = 6 ∨ c = 7 ∨ c = 8 ∨ c = 9 ∨ c = 10 ∨ c = 11 ∨ c = 12 := by omega
  rcases this with rfl | rfl | rfl | rfl | rfl | rfl | rfl | rfl | rfl <;> simp [msgC, upd]
theorem msg_c32 {w : World} {B c : Nat} {k : Int} {N : Nat → Nat} {X : Nat → ByteArray} (h : MsgAt w B k N X) (hc : c = 1 ∨ c = 2) : w.cell? ⟨B, c, none⟩ = some (.int .u32 (N c : Nat)) := by
  rcases hc with rfl | rfl <;> exact cell_of h _ rfl
theorem msg_c64 {w : World} {B c : Nat} {k : Int} {N : Nat → Nat} {X : Nat → ByteArray} (h : MsgAt w B k N X) (hc : c = 3) : w.cell? ⟨B, c, none⟩ = some (.int .u64 (N c : Nat)) := by
  subst hc
  exact cell_of h _ rfl
theorem msg_cx {w : World} {B c : Nat} {k : Int} {N : Nat → Nat} {X : Nat → ByteArray} (h : MsgAt w B k N X) (h1 : 4 ≤ c) (h2 : c ≤ 12) : w.cell? ⟨B, c, none⟩ = some (.string (X c)) := by
  have : c = 4 ∨ c = 5 ∨ c = 6 ∨ c = 7 ∨ c = 8 ∨ c = 9 ∨ c = 10 ∨ c = 11 ∨ c = 12 := by omega
  rcases this with rfl | rfl | rfl | rfl | rfl | rfl | rfl | rfl | rfl <;> exact cell_of h _ rfl
theorem msg_below {w w' : World} {B : Nat} {k : Int} {N : Nat → Nat} {X : Nat → ByteArray} (h : MsgAt w B k N X) (hb : Below w.heap.size w w') : MsgAt w' B k N X := by
  unfold MsgAt at h ⊢
  rw [hb.block B (Array.getElem?_eq_some_iff.1 h).1]
  exact h
theorem grown_of_below {w w' : World} {row : Option Nat} (h : Below w.heap.size w w') : w.grownBy w' row := ⟨h.os, h.tape, h.output, h.size, fun k hk _ => h.block k hk⟩
theorem grown_tr {a b c : World} {row : Option Nat} (h : a.grownBy b row) (h2 : b.grownBy c row) : a.grownBy c row :=
  ⟨h2.os.trans h.os, h2.tape.trans h.tape, h2.output.trans h.output, Nat.le_trans h.size h2.size, fun k hk hn => (h2.block k (Nat.lt_of_lt_of_le hk h.size) hn).trans (h.block k hk hn)⟩
theorem grown_setB (w : World) (B c : Nat) (v : Value) : w.grownBy (w.setCell ⟨B, c, none⟩ v) (some B) :=
  ⟨rfl, rfl, rfl, by simp [World.setCell], fun k _ hk => Below.heap_setCell w ⟨B, c, none⟩ v k (fun e => hk (by rw [e]))⟩
theorem grown_cell {w w' : World} {B b i : Nat} {v : Value} (h : w.grownBy w' (some B)) (hb : b ≠ B) (hc : w.cell? ⟨b, i, none⟩ = some v) : w'.cell? ⟨b, i, none⟩ = some v :=
  (World.cell?_of_block (h.block b (World.block_lt_of_cell? w _ hc) (fun e => hb (by cases e; rfl)))).trans hc
theorem grown_part {w w' : World} {B b : Nat} {v : Value} {l : List UInt8} (h : w.grownBy w' (some B)) (hb : b ≠ B) (hp : PartB w b v l) : PartB w' b v l := by
  obtain ⟨off, cp, rfl, h1, h2, h3⟩ := hp
  exact ⟨off, cp, rfl, h1, h2, fun i hi => grown_cell h hb (h3 i hi)⟩
/-- what a field's reader does to the message -/
def RdRet (w : World) (b B : Nat) (k : Int) (r : Nat × List UInt8 × (Nat → Nat) × (Nat → ByteArray)) (e : Ending) (w' : World) : Prop :=
  ∃ v, e = .returned (.tuple #[v, .int .i64 r.1]) ∧ (r.1 = 0 → PartB w' b v r.2.1) ∧ MsgAt w' B k r.2.2.1 r.2.2.2 ∧ w.grownBy w' (some B)
def rdNum (n c : Nat) (l : List UInt8) (N : Nat → Nat) (X : Nat → ByteArray) : Nat × List UInt8 × (Nat → Nat) × (Nat → ByteArray) :=
  if l.length < n then (4, [], N, X) else (0, l.drop n, upd N c (valB (l.take n)), X)
set_option maxHeartbeats 1000000 in
theorem r4_any (b : Nat) (v : Value) (l : List UInt8) (bp bs B c : Nat) (k : Int) (N : Nat → Nat) (X : Nat → ByteArray) (w : World) (hv : PartB w b v l) (hl : l.length ≤ 10000000) (hbB : b ≠ B) (hsB : bs ≠ B) (hm : MsgAt w B k N X) (hc : c = 1 ∨ c = 2)
    (cp : w.cell? ⟨bp, 0, none⟩ = some (.pointer (some ⟨B, c, none⟩))) (cs : w.cell? ⟨bs, 0, none⟩ = some (.int .i64 4)) :
    Calls Try.prog 45 #[v, .pointer (some ⟨bs, 0, none⟩), .pointer (some ⟨bp, 0, none⟩)] w (RdRet w b B k (rdNum 4 c l N X)) := by
  have hpart := hv
  obtain ⟨off, cq, rfl, hc1, hc2, hcell⟩ := hv
  have hcpi : (cq : Int) ≤ 9223372036854775807 := by unfold maxLen at hc2; omega
  by_cases h4 : l.length < 4
  · have HZ : Hid (rdNum 4 c l N X = (4, [], N, X)) := Lib.hid (by unfold rdNum; rw [if_pos h4])
    have h4i : (l.length : Int) < 4 := by omega
    clear hcell hpart
    go_enter Try.func45, Try.ntmps45
    go_wp2_with fail
    go_ret2
    rw [HZ.out]
    exact ⟨_, rfl, fun h => absurd h (by simp), hm, grown_of_below (Below.refl _ _)⟩
  · have h4i : ¬ (l.length : Int) < 4 := by omega
    have hq4 : (4 : Int) ≤ cq := by omega
    have hlow := low_any _ _ w.drew ((part_take (c := cq) hcell 4 (by omega)).below (Below.refl _ _).drew) (by rw [List.length_take]; omega)
    have hvlt := valB_lt (l.take 4)
    rw [List.length_take, Nat.min_eq_left (by omega)] at hvlt
    have HZ : Hid (rdNum 4 c l N X = (0, l.drop 4, upd N c (valB (l.take 4)), X)) := Lib.hid (by unfold rdNum; rw [if_neg h4])
    generalize valB (l.take 4) = x at *
    have hwx : IntKind.u32.wrap (x : Int) = x := by rw [IntKind.wrap_u32]; omega
    have HLOW := Lib.hid (hlow.mono fun e w' h => (⟨h.1, h.2.symm⟩ : e = .returned (.int .u64 (x : Nat)) ∧ w' = w.drew))
    have ym : w.drew.cell? ⟨B, c, none⟩ = some (.int .u32 (N c : Nat)) := msg_c32 hm hc
    have yf : w.drew.frozen? ⟨B, c, none⟩ = false := free_of hm c
    have ys : ((w.drew.setCell ⟨B, c, none⟩ (.int .u32 (x : Nat)))).cell? ⟨bs, 0, none⟩ = some (.int .i64 4) := grown_cell (grown_setB w.drew B c _) hsB cs
    have HM : Hid (MsgAt ((w.drew.setCell ⟨B, c, none⟩ (.int .u32 (x : Nat)))) B k (upd N c x) X) := Lib.hid (msg_set32 (w := w.drew) hm hc)
    have HG : Hid (w.grownBy ((w.drew.setCell ⟨B, c, none⟩ (.int .u32 (x : Nat)))) (some B)) := Lib.hid (grown_tr (grown_of_below (Below.refl _ _).drew) (grown_setB w.drew B c _))
    have HP : Hid (PartB ((w.drew.setCell ⟨B, c, none⟩ (.int .u32 (x : Nat)))) b (.slice (some ⟨b, off, none⟩) l.length cq) l) := Lib.hid (grown_part HG.out hbB hpart)
    clear hcell hpart hlow hm
    by_cases hcp : cq = 4
    · subst hcp
      have hl4 : l.length = 4 := by omega
      go_enter Try.func45, Try.ntmps45
      go_wp2_with fail
      go_still_tail 7, (by kernel_rfl)
      still_call (HLOW.out)
      repeat still_step
      try refine wpStill_nil ?_
      change wpList _ _ _ _ _ w.drew
      go_wp2
      go_ret2
      rw [HZ.out]
      exact ⟨_, rfl, fun _ => part_end hl4 (by decide), HM.out, HG.out⟩
    · go_enter Try.func45, Try.ntmps45
      go_wp2_with fail
      go_still_tail 7, (by kernel_rfl)
      still_call (HLOW.out)
      repeat still_step
      try refine wpStill_nil ?_
      change wpList _ _ _ _ _ w.drew
      go_wp2
      go_ret2
      rw [HZ.out]
      obtain ⟨off', cp', he, h1, h2, h3⟩ := HP.out
      cases he
      exact ⟨_, rfl, fun _ => part_drop h1 h2 h3 4 (by omega) (by first | rfl | omega) (by first | rfl | omega), HM.out, HG.out⟩
set_option maxHeartbeats 1000000 in
theorem r8_any (b : Nat) (v : Value) (l : List UInt8) (bp bs B c : Nat) (k : Int) (N : Nat → Nat) (X : Nat → ByteArray) (w : World) (hv : PartB w b v l) (hl : l.length ≤ 10000000) (hbB : b ≠ B) (hsB : bs ≠ B) (hm : MsgAt w B k N X) (hc : c = 3)
    (cp : w.cell? ⟨bp, 0, none⟩ = some (.pointer (some ⟨B, c, none⟩))) (cs : w.cell? ⟨bs, 0, none⟩ = some (.int .i64 8)) :
    Calls Try.prog 52 #[v, .pointer (some ⟨bs, 0, none⟩), .pointer (some ⟨bp, 0, none⟩)] w (RdRet w b B k (rdNum 8 c l N X)) := by
  have hpart := hv
  have HC := Lib.hid hc
  clear hc
  obtain ⟨off, cq, rfl, hc1, hc2, hcell⟩ := hv
  have hcpi : (cq : Int) ≤ 9223372036854775807 := by unfold maxLen at hc2; omega
  by_cases h4 : l.length < 8
  · have HZ : Hid (rdNum 8 c l N X = (4, [], N, X)) := Lib.hid (by unfold rdNum; rw [if_pos h4])
    have h4i : (l.length : Int) < 8 := by omega
    clear hcell hpart
    go_enter Try.func52, Try.ntmps52
    go_wp2_with fail
    go_ret2
    rw [HZ.out]
    exact ⟨_, rfl, fun h => absurd h (by simp), hm, grown_of_below (Below.refl _ _)⟩
  · have h4i : ¬ (l.length : Int) < 8 := by omega
    have hq4 : (8 : Int) ≤ cq := by omega
    have hlow := low_any _ _ w.drew ((part_take (c := cq) hcell 8 (by omega)).below (Below.refl _ _).drew) (by rw [List.length_take]; omega)
    have hvlt := valB_lt (l.take 8)
    rw [List.length_take, Nat.min_eq_left (by omega)] at hvlt
    have HZ : Hid (rdNum 8 c l N X = (0, l.drop 8, upd N c (valB (l.take 8)), X)) := Lib.hid (by unfold rdNum; rw [if_neg h4])
    generalize valB (l.take 8) = x at *
    have HLOW := Lib.hid (hlow.mono fun e w' h => (⟨h.1, h.2.symm⟩ : e = .returned (.int .u64 (x : Nat)) ∧ w' = w.drew))
    have ym : w.drew.cell? ⟨B, c, none⟩ = some (.int .u64 (N c : Nat)) := msg_c64 hm HC.out
    have yf : w.drew.frozen? ⟨B, c, none⟩ = false := free_of hm c
    have ys : ((w.drew.setCell ⟨B, c, none⟩ (.int .u64 (x : Nat)))).cell? ⟨bs, 0, none⟩ = some (.int .i64 8) := grown_cell (grown_setB w.drew B c _) hsB cs
    have HM : Hid (MsgAt ((w.drew.setCell ⟨B, c, none⟩ (.int .u64 (x : Nat)))) B k (upd N c x) X) := Lib.hid (msg_set64 (w := w.drew) hm HC.out)
    have HG : Hid (w.grownBy ((w.drew.setCell ⟨B, c, none⟩ (.int .u64 (x : Nat)))) (some B)) := Lib.hid (grown_tr (grown_of_below (Below.refl _ _).drew) (grown_setB w.drew B c _))
    have HP : Hid (PartB ((w.drew.setCell ⟨B, c, none⟩ (.int .u64 (x : Nat)))) b (.slice (some ⟨b, off, none⟩) l.length cq) l) := Lib.hid (grown_part HG.out hbB hpart)
    clear hcell hpart hlow hm
    by_cases hcp : cq = 8
    · subst hcp
      have hl4 : l.length = 8 := by omega
      go_enter Try.func52, Try.ntmps52
      go_wp2_with fail
      go_still_tail 6, (by kernel_rfl)
      still_call (HLOW.out)
      repeat still_step
      try refine wpStill_nil ?_
      change wpList _ _ _ _ _ w.drew
      go_wp2
      go_ret2
      rw [HZ.out]
      exact ⟨_, rfl, fun _ => part_end hl4 (by decide), HM.out, HG.out⟩
    · go_enter Try.func52, Try.ntmps52
      go_wp2_with fail
      go_still_tail 6, (by kernel_rfl)
      still_call (HLOW.out)
      repeat still_step
      try refine wpStill_nil ?_
      change wpList _ _ _ _ _ w.drew
      go_wp2
      go_ret2
      rw [HZ.out]
      obtain ⟨off', cp', he, h1, h2, h3⟩ := HP.out
      cases he
      exact ⟨_, rfl, fun _ => part_drop h1 h2 h3 8 (by omega) (by first | rfl | omega) (by first | rfl | omega), HM.out, HG.out⟩
def rdTxt (c : Nat) (l : List UInt8) (N : Nat → Nat) (X : Nat → ByteArray) : Nat × List UInt8 × (Nat → Nat) × (Nat → ByteArray) :=
  if (cutTxt l).1 = 0 ∧ isL (cutTxt l).2.1 = false then (3, [], N, X) else ((cutTxt l).1, (cutTxt l).2.2, N, upd X c (strB (cutTxt l).2.1))
theorem cut_codes (l : List UInt8) : cutTxt l = (4, [], []) ∨ ∃ t r, cutTxt l = (0, t, r) ∧ t.length ≤ l.length ∧ r.length ≤ l.length := by
  unfold cutTxt
  split
  · exact .inl rfl
  split
  · exact .inl rfl
  · refine .inr ⟨_, _, rfl, ?_, ?_⟩
    · unfold bsub; simp; omega
    · simp
set_option maxHeartbeats 1000000 in
theorem rt_any (b : Nat) (v : Value) (l : List UInt8) (bt B c : Nat) (k : Int) (N : Nat → Nat) (X : Nat → ByteArray) (w : World) (hv : PartB w b v l) (hl : l.length ≤ 10000000) (hbB : b ≠ B) (hm : MsgAt w B k N X) (h1 : 4 ≤ c) (h2 : c ≤ 12)
    (cp : w.cell? ⟨bt, 0, none⟩ = some (.pointer (some ⟨B, c, none⟩))) :
    Calls Try.prog 48 #[v, .pointer (some ⟨bt, 0, none⟩)] w (RdRet w b B k (rdTxt c l N X)) := by
  have HCUT := cut_any b v l w hv hl
  have HM := Lib.hid hm
  clear hm hv
  rcases cut_codes l with hc | ⟨t, r, hc, htl, hrl⟩
  · have HZ : Hid (rdTxt c l N X = (4, [], N, upd X c ⟨#[]⟩)) := Lib.hid (by unfold rdTxt; rw [hc]; rfl)
    rw [hc] at HCUT
    unfold CutTRet at HCUT
    dsimp only at HCUT
    rw [show strB [] = (⟨#[]⟩ : ByteArray) from rfl] at HCUT
    have HCUT := Lib.hid HCUT
    clear hc
    go_enter Try.func48, Try.ntmps48
    go_wp2_with (first | (go_at_call 49; ((with_reducible refine (HCUT.out).mono ?_); rintro e w2 ⟨v2, rfl, hp2, hb2⟩; (try dsimp only); have q0 := (hb2.cell (p := ⟨bt, 0, none⟩) (World.block_lt_of_cell? w _ cp)).trans cp; have HP2 := Lib.hid hp2; have HB2 := Lib.hid hb2; have HM2 := Lib.hid (msg_below HM.out hb2); have x2 := msg_cx HM2.out h1 h2; have f2 : w2.frozen? ⟨B, c, none⟩ = false := free_of HM2.out c; clear hp2 hb2)) | fail)
    go_ret2
    rw [HZ.out]
    exact ⟨_, rfl, fun h => absurd h (by simp), msg_setx HM2.out h1 h2, grown_tr (grown_of_below HB2.out) (grown_setB _ _ _ _)⟩
  · rw [hc] at HCUT
    unfold CutTRet at HCUT
    dsimp only at HCUT
    have HCUT := Lib.hid HCUT
    have hkd := fun w => kind_any (strB t) (by rw [strB_size]; unfold maxLen; omega) w
    rw [show (strB t).data.toList = t from by simp [strB]] at hkd
    cases hL : isL t with
    | false =>
      have HZ : Hid (rdTxt c l N X = (3, [], N, X)) := Lib.hid (by unfold rdTxt; rw [hc]; exact if_pos ⟨rfl, hL⟩)
      have hk0 : (lookR t).1 = 0 := by unfold isL at hL; have := of_decide_eq_false hL; omega
      rw [hk0] at hkd
      have HKD := Lib.hid (show ∀ w, Calls Try.prog 50 #[.string (strB t)] w fun e w' => e = .returned (.int .i64 0) ∧ Below w.heap.size w w' from hkd)
      clear hc hkd hL hk0
      go_enter Try.func48, Try.ntmps48
      go_wp2_with (first | (go_at_call 49; ((with_reducible refine (HCUT.out).mono ?_); rintro e w2 ⟨v2, rfl, hp2, hb2⟩; (try dsimp only); have q0 := (hb2.cell (p := ⟨bt, 0, none⟩) (World.block_lt_of_cell? w _ cp)).trans cp; have HP2 := Lib.hid hp2; have HB2 := Lib.hid hb2; have HM2 := Lib.hid (msg_below HM.out hb2); have x2 := msg_cx HM2.out h1 h2; have f2 : w2.frozen? ⟨B, c, none⟩ = false := free_of HM2.out c; clear hp2 hb2)) | (go_at_call 50; ((with_reducible refine (HKD.out w2).mono ?_); rintro e w3 ⟨rfl, hb3⟩; (try dsimp only); have q1 := (hb3.cell (p := ⟨bt, 0, none⟩) (World.block_lt_of_cell? w2 _ q0)).trans q0; have HB3 := Lib.hid hb3; have HM3 := Lib.hid (msg_below HM2.out hb3); have x3 := msg_cx HM3.out h1 h2; have f3 : w3.frozen? ⟨B, c, none⟩ = false := free_of HM3.out c; clear hb3)) | fail)
      go_ret2
      rw [HZ.out]
      exact ⟨_, rfl, fun h => absurd h (by simp), HM3.out, grown_of_below (Below.next HB2.out HB3.out)⟩
    | true =>
      have HZ : Hid (rdTxt c l N X = (0, r, N, upd X c (strB t))) := Lib.hid (by unfold rdTxt; rw [hc]; exact if_neg (fun h => by rw [hL] at h; exact absurd h.2 (by decide)))
      have hk0 : 0 < (lookR t).1 := by unfold isL at hL; exact of_decide_eq_true hL
      generalize (lookR t).1 = kk at *
      have HKD := Lib.hid hkd
      have hkn : ¬ (kk : Int) = 0 := by omega
      clear hc hkd hL hk0
      go_enter Try.func48, Try.ntmps48
      go_wp2_with (first | (go_at_call 49; ((with_reducible refine (HCUT.out).mono ?_); rintro e w2 ⟨v2, rfl, hp2, hb2⟩; (try dsimp only); have q0 := (hb2.cell (p := ⟨bt, 0, none⟩) (World.block_lt_of_cell? w _ cp)).trans cp; have HP2 := Lib.hid hp2; have HB2 := Lib.hid hb2; have HM2 := Lib.hid (msg_below HM.out hb2); have x2 := msg_cx HM2.out h1 h2; have f2 : w2.frozen? ⟨B, c, none⟩ = false := free_of HM2.out c; clear hp2 hb2)) | (go_at_call 50; ((with_reducible refine (HKD.out w2).mono ?_); rintro e w3 ⟨rfl, hb3⟩; (try dsimp only); have q1 := (hb3.cell (p := ⟨bt, 0, none⟩) (World.block_lt_of_cell? w2 _ q0)).trans q0; have HB3 := Lib.hid hb3; have HM3 := Lib.hid (msg_below HM2.out hb3); have x3 := msg_cx HM3.out h1 h2; have f3 : w3.frozen? ⟨B, c, none⟩ = false := free_of HM3.out c; clear hb3)) | fail)
      go_ret2
      rw [HZ.out]
      exact ⟨_, rfl, fun _ => grown_part (grown_setB w3 B c _) hbB ((HP2.out trivial).below HB3.out), msg_setx HM3.out h1 h2, grown_tr (grown_of_below (Below.next HB2.out HB3.out)) (grown_setB _ _ _ _)⟩
end Go.Proofs.Ytjbmcjppaadkgaa

namespace Go.Proofs.Ytjbmcjppaadkgaa
set_option linter.unusedVariables false
set_option linter.unusedSimpArgs false
set_option maxRecDepth 100000
open Go.RowKit
theorem cells3 {W : World} {b : Nat} {T : TypeId} {v0 v1 v2 : Value} (h : W.heap[b]? = some (.cells #[v0, v1, v2] T (0, 0))) :
    W.cell? ⟨b, 0, none⟩ = some v0 ∧ W.cell? ⟨b, 1, none⟩ = some v1 ∧ W.cell? ⟨b, 2, none⟩ = some v2 := ⟨cell_of h 0 rfl, cell_of h 1 rfl, cell_of h 2 rfl⟩
theorem res_cell3 {fn : Func} {t : Tmp} {T : TypeId} (hr : fn.results = #[.cell t 48]) (W : World) (b : Nat) (v0 v1 v2 : Value) (h : W.heap[b]? = some (.cells #[v0, v1, v2] T (0, 0))) (tm : Array Value) (h2 : tm.getD t undef = .pointer (some ⟨b, 0, none⟩)) :
    (results fn tm).run Try.prog W = .ok (.agg #[v0, v1, v2]) W := by
  obtain ⟨c0, c1, c2⟩ := cells3 h
  have e2 : tm[t]?.getD undef = .pointer (some ⟨b, 0, none⟩) := by simpa using h2
  simp [results, hr, go_sem, e2, c0, c1, c2]
theorem set3_block {W : World} {b : Nat} {T : TypeId} {x0 x1 x2 : Value} (h : W.heap[b]? = some (.cells #[x0, x1, x2] T (0, 0))) (v0 v1 v2 : Value) :
    (((W.setCell ⟨b, 0, none⟩ v0).setCell ⟨b, 1, none⟩ v1).setCell ⟨b, 2, none⟩ v2).heap[b]? = some (.cells #[v0, v1, v2] T (0, 0)) := by
  have h0 : (W.setCell ⟨b, 0, none⟩ v0).heap[b]? = some (.cells #[v0, x1, x2] T (0, 0)) := set_block (i := 0) (v := v0) h
  have h1 : ((W.setCell ⟨b, 0, none⟩ v0).setCell ⟨b, 1, none⟩ v1).heap[b]? = some (.cells #[v0, v1, x2] T (0, 0)) := set_block (i := 1) (v := v1) h0
  exact set_block (i := 2) (v := v2) h1
def fdZ : Value := .agg #[.func (.func 41) #[] #[], .func (.func 43) #[] #[], .pointer none]
def fd4 (bp bs : Nat) : Value := .agg #[.func (.func 44) #[] #[.pointer (some ⟨bp, 0, none⟩), .pointer (some ⟨bs, 0, none⟩)], .func (.func 45) #[] #[.pointer (some ⟨bs, 0, none⟩), .pointer (some ⟨bp, 0, none⟩)], .pointer none]
def fd8 (bp bs : Nat) : Value := .agg #[.func (.func 51) #[] #[.pointer (some ⟨bp, 0, none⟩), .pointer (some ⟨bs, 0, none⟩)], .func (.func 52) #[] #[.pointer (some ⟨bs, 0, none⟩), .pointer (some ⟨bp, 0, none⟩)], .pointer none]
def fdT (bt : Nat) (p : Value) : Value := .agg #[.func (.func 47) #[] #[.pointer (some ⟨bt, 0, none⟩)], .func (.func 48) #[] #[.pointer (some ⟨bt, 0, none⟩)], p]
theorem new2 (w : World) (o1 o2 : Obj) : ((w.alloc o1).alloc o2).heap[w.heap.size + 1]? = some o2 := by
  have h := heap_alloc_new (w.alloc o1) o2
  have s : (w.alloc o1).heap.size = w.heap.size + 1 := by simp
  rw [s] at h
  exact h
theorem new3 (w : World) (o1 o2 o3 : Obj) : (((w.alloc o1).alloc o2).alloc o3).heap[w.heap.size + 1 + 1]? = some o3 := by
  have h := new2 (w.alloc o1) o2 o3
  have s : (w.alloc o1).heap.size = w.heap.size + 1 := by simp
  rw [s] at h
  exact h
theorem old1 {w : World} {b i : Nat} {v : Value} (o : Obj) (h : w.cell? ⟨b, i, none⟩ = some v) : (w.alloc o).cell? ⟨b, i, none⟩ = some v := cell_keep4 h (below_one o)
theorem mkz_any (w : World) : Calls Try.prog 33 #[] w fun e w' => e = .returned fdZ ∧ Below w.heap.size w w' := by
  have hx := heap_alloc_new w (.cells #[.nilFunc, .nilFunc, .pointer none] 48)
  go_enter Try.func33, Try.ntmps33
  go_wp2_with fail
  exact bodyPost_ret (res_cell3 (t := 0) rfl _ _ _ _ _ (heap_alloc_new w _) _ rfl) rfl ⟨rfl, below_one _⟩
theorem mk4_any (q : Addr) (w : World) : Calls Try.prog 34 #[.pointer (some q), .int .i64 4] w fun e w' => ∃ bp bs, e = .returned (fd4 bp bs) ∧ w'.cell? ⟨bp, 0, none⟩ = some (.pointer (some q)) ∧ w'.cell? ⟨bs, 0, none⟩ = some (.int .i64 4) ∧ w.heap.size ≤ bp ∧ w.heap.size ≤ bs ∧ Below w.heap.size w w' := by
  go_enter Try.func34, Try.ntmps34
  go_wp2_with fail
  refine bodyPost_ret (res_cell3 (t := 4) rfl _ _ _ _ _ (new3 w _ _ _) _ rfl) rfl ⟨w.heap.size, w.heap.size + 1, rfl, ?_, ?_, Nat.le_refl _, Nat.le_succ _, ?_⟩
  · exact old1 _ (old1 _ (cell_of (heap_alloc_new w _) 0 rfl))
  · exact old1 _ (cell_of (new2 w _ _) 0 rfl)
  · exact Below.next (Below.next (below_one _) (below_one _)) (below_one _)
theorem mk8_any (q : Addr) (w : World) : Calls Try.prog 36 #[.pointer (some q), .int .i64 8] w fun e w' => ∃ bp bs, e = .returned (fd8 bp bs) ∧ w'.cell? ⟨bp, 0, none⟩ = some (.pointer (some q)) ∧ w'.cell? ⟨bs, 0, none⟩ = some (.int .i64 8) ∧ w.heap.size ≤ bp ∧ w.heap.size ≤ bs ∧ Below w.heap.size w w' := by
  go_enter Try.func36, Try.ntmps36
  go_wp2_with fail
  refine bodyPost_ret (res_cell3 (t := 4) rfl _ _ _ _ _ (new3 w _ _ _) _ rfl) rfl ⟨w.heap.size, w.heap.size + 1, rfl, ?_, ?_, Nat.le_refl _, Nat.le_succ _, ?_⟩
  · exact old1 _ (old1 _ (cell_of (heap_alloc_new w _) 0 rfl))
  · exact old1 _ (cell_of (new2 w _ _) 0 rfl)
  · exact Below.next (Below.next (below_one _) (below_one _)) (below_one _)
theorem mkt_any (q : Addr) (w : World) : Calls Try.prog 35 #[.pointer (some q)] w fun e w' => ∃ bt, e = .returned (fdT bt (.pointer (some q))) ∧ w'.cell? ⟨bt, 0, none⟩ = some (.pointer (some q)) ∧ w.heap.size ≤ bt ∧ Below w.heap.size w w' := by
  go_enter Try.func35, Try.ntmps35
  go_wp2_with fail
  refine bodyPost_ret (res_cell3 (t := 2) rfl _ _ _ _ _ (new2 w _ _) _ rfl) rfl ⟨w.heap.size, rfl, ?_, Nat.le_refl _, ?_⟩
  · exact old1 _ (cell_of (heap_alloc_new w _) 0 rfl)
  · exact Below.next (below_one _) (below_one _)
end Go.Proofs.Ytjbmcjppaadkgaa

namespace Go.Proofs.Ytjbmcjppaadkgaa
set_option linter.unusedVariables false
set_option linter.unusedSimpArgs false
set_option maxRecDepth 100000
open Go.RowKit
/-- a field: the noughts, a number in four or eight bytes, a text; the latter with the cell of the message -/
inductive Fd where
  | z : Fd
  | n4 : Nat → Fd
  | n8 : Nat → Fd
  | t : Nat → Fd
def FdIs (w : World) (B : Nat) : Fd → Value → Prop
  | .z, v => v = fdZ
  | .n4 c, v => ∃ bp bs, v = fd4 bp bs ∧ bp ≠ B ∧ bs ≠ B ∧ w.cell? ⟨bp, 0, none⟩ = some (.pointer (some ⟨B, c, none⟩)) ∧ w.cell? ⟨bs, 0, none⟩ = some (.int .i64 4)
  | .n8 c, v => ∃ bp bs, v = fd8 bp bs ∧ bp ≠ B ∧ bs ≠ B ∧ w.cell? ⟨bp, 0, none⟩ = some (.pointer (some ⟨B, c, none⟩)) ∧ w.cell? ⟨bs, 0, none⟩ = some (.int .i64 8)
  | .t c, v => ∃ bt, v = fdT bt (.pointer (some ⟨B, c, none⟩)) ∧ bt ≠ B ∧ w.cell? ⟨bt, 0, none⟩ = some (.pointer (some ⟨B, c, none⟩))
theorem FdIs.grown {w w' : World} {B : Nat} {f : Fd} {v : Value} (h : FdIs w B f v) (hg : w.grownBy w' (some B)) : FdIs w' B f v := by
  cases f with
  | z => exact h
  | n4 c => obtain ⟨bp, bs, h1, h2, h3, h4, h5⟩ := h; exact ⟨bp, bs, h1, h2, h3, grown_cell hg h2 h4, grown_cell hg h3 h5⟩
  | n8 c => obtain ⟨bp, bs, h1, h2, h3, h4, h5⟩ := h; exact ⟨bp, bs, h1, h2, h3, grown_cell hg h2 h4, grown_cell hg h3 h5⟩
  | t c => obtain ⟨bt, h1, h2, h3⟩ := h; exact ⟨bt, h1, h2, grown_cell hg h2 h3⟩
def FdsIs (w : World) (B : Nat) : List Fd → List Value → Prop
  | [], [] => True
  | f :: fs, v :: vs => FdIs w B f v ∧ FdsIs w B fs vs
  | _, _ => False
theorem FdsIs.grown {w w' : World} {B : Nat} (hg : w.grownBy w' (some B)) : ∀ {fs : List Fd} {vs : List Value}, FdsIs w B fs vs → FdsIs w' B fs vs
  | [], [], _ => trivial
  | _ :: _, _ :: _, h => ⟨h.1.grown hg, FdsIs.grown hg h.2⟩
theorem FdsIs.snoc {w : World} {B : Nat} {f : Fd} {v : Value} (h : FdIs w B f v) : ∀ {fs : List Fd} {vs : List Value}, FdsIs w B fs vs → FdsIs w B (fs ++ [f]) (vs ++ [v])
  | [], [], _ => ⟨h, trivial⟩
  | _ :: _, _ :: _, k => ⟨k.1, FdsIs.snoc h k.2⟩
theorem fds_next {w w' : World} {B : Nat} {f : Fd} {v : Value} {fs : List Fd} {vs : List Value} (h : FdsIs w B fs vs) (hb : Below w.heap.size w w') (hf : FdIs w' B f v) : FdsIs w' B (fs ++ [f]) (vs ++ [v]) :=
  FdsIs.snoc hf (h.grown (grown_of_below hb))
/-- a row of fields in memory -/
def FieldsAt (w : World) (g : Nat) (vs : List Value) : Prop :=
  ∀ i v, vs[i]? = some v → ∃ a b c, v = .agg #[a, b, c] ∧ w.cell? ⟨g, i * 3, none⟩ = some a ∧ w.cell? ⟨g, i * 3 + 1, none⟩ = some b ∧ w.cell? ⟨g, i * 3 + 2, none⟩ = some c
def RowRet (w : World) (B : Nat) (fs : List Fd) (e : Ending) (w' : World) : Prop :=
  ∃ g vs, e = .returned (.slice (some ⟨g, 0, none⟩) fs.length fs.length) ∧ w.heap.size ≤ g ∧ FieldsAt w' g vs ∧ FdsIs w' B fs vs ∧ Below w.heap.size w w'
theorem fields4 {w : World} {g : Nat} {T : TypeId} {a0 b0 c0 a1 b1 c1 a2 b2 c2 a3 b3 c3 : Value} (h : w.heap[g]? = some (.cells #[a0, b0, c0, a1, b1, c1, a2, b2, c2, a3, b3, c3] T (0, 0))) : FieldsAt w g [.agg #[a0, b0, c0], .agg #[a1, b1, c1], .agg #[a2, b2, c2], .agg #[a3, b3, c3]] := by
  intro i v hv
  have hi : i < 4 := (List.getElem?_eq_some_iff.1 hv).1
  have : i = 0 ∨ i = 1 ∨ i = 2 ∨ i = 3 := by omega
  rcases this with rfl | rfl | rfl | rfl <;> (cases hv; exact ⟨_, _, _, rfl, cell_of h _ rfl, cell_of h _ rfl, cell_of h _ rfl⟩)
theorem fields7 {w : World} {g : Nat} {T : TypeId} {a0 b0 c0 a1 b1 c1 a2 b2 c2 a3 b3 c3 a4 b4 c4 a5 b5 c5 a6 b6 c6 : Value} (h : w.heap[g]? = some (.cells #[a0, b0, c0, a1, b1, c1, a2, b2, c2, a3, b3, c3, a4, b4, c4, a5, b5, c5, a6, b6, c6] T (0, 0))) : FieldsAt w g [.agg #[a0, b0, c0], .agg #[a1, b1, c1], .agg #[a2, b2, c2], .agg #[a3, b3, c3], .agg #[a4, b4, c4], .agg #[a5, b5, c5], .agg #[a6, b6, c6]] := by
  intro i v hv
  have hi : i < 7 := (List.getElem?_eq_some_iff.1 hv).1
  have : i = 0 ∨ i = 1 ∨ i = 2 ∨ i = 3 ∨ i = 4 ∨ i = 5 ∨ i = 6 := by omega
  rcases this with rfl | rfl | rfl | rfl | rfl | rfl | rfl <;> (cases hv; exact ⟨_, _, _, rfl, cell_of h _ rfl, cell_of h _ rfl, cell_of h _ rfl⟩)
set_option maxHeartbeats 4000000 in
theorem row_1 (B : Nat) (w : World) (hc : w.cell? ⟨B, 0, none⟩ = some (.int .i64 1)) : Calls Try.prog 19 #[.pointer (some ⟨B, 0, none⟩)] w (RowRet w B [.z, .n4 1, .t 4, .t 5, .t 6, .t 11, .t 12]) := by
  have hBl := World.block_lt_of_cell? w _ hc
  have HF : Hid (FdsIs w.drew B [] []) := Lib.hid trivial
  have HB : Hid (Below w.heap.size w w.drew) := Lib.hid (Below.refl _ _).drew
  go_enter Try.func19, Try.ntmps19
  go_wp2_with fail
  go_region_held3 (fun _ => True) (trivial) (first | (go_at_call 33; ((with_reducible refine (mkz_any _).mono ?_); rintro e w2 ⟨rfl, hb⟩; (try dsimp only [fdZ]); have HF := Lib.hid (fds_next HF.out hb (show FdIs w2 B .z fdZ from rfl)); have HB := Lib.hid (HB.out.trans (hb.mono HB.out.size)); clear hb)) | (go_at_call 34; ((with_reducible refine (mk4_any _ _).mono ?_); rintro e w2 ⟨bp, bs, rfl, h1, h2, h3, h4, hb⟩; (try dsimp only [fd4]); have HF := Lib.hid (fds_next HF.out hb (show FdIs w2 B (.n4 _) (fd4 bp bs) from ⟨bp, bs, rfl, (by have := HB.out.size; omega), (by have := HB.out.size; omega), h1, h2⟩)); have HB := Lib.hid (HB.out.trans (hb.mono HB.out.size)); clear hb h1 h2 h3 h4)) | (go_at_call 36; ((with_reducible refine (mk8_any _ _).mono ?_); rintro e w2 ⟨bp, bs, rfl, h1, h2, h3, h4, hb⟩; (try dsimp only [fd8]); have HF := Lib.hid (fds_next HF.out hb (show FdIs w2 B (.n8 _) (fd8 bp bs) from ⟨bp, bs, rfl, (by have := HB.out.size; omega), (by have := HB.out.size; omega), h1, h2⟩)); have HB := Lib.hid (HB.out.trans (hb.mono HB.out.size)); clear hb h1 h2 h3 h4)) | (go_at_call 35; ((with_reducible refine (mkt_any _ _).mono ?_); rintro e w2 ⟨bt, rfl, h1, h2, hb⟩; (try dsimp only [fdT]); have HF := Lib.hid (fds_next HF.out hb (show FdIs w2 B (.t _) (fdT bt _) from ⟨bt, rfl, (by have := HB.out.size; omega), h1⟩)); have HB := Lib.hid (HB.out.trans (hb.mono HB.out.size)); clear hb h1 h2)))
  all_goals
    go_wp2_with fail
    go_ret
    exact ⟨w2.heap.size, _, rfl, HB.out.size, (fields7 (heap_alloc_new w2 _)), HF.out.grown (grown_of_below (below_one _)), HB.out.alloc HB.out.size _⟩
set_option maxHeartbeats 4000000 in
theorem row_2 (B : Nat) (w : World) (hc : w.cell? ⟨B, 0, none⟩ = some (.int .i64 2)) : Calls Try.prog 19 #[.pointer (some ⟨B, 0, none⟩)] w (RowRet w B [.z, .n4 1, .n4 2, .t 4, .t 7, .t 11, .t 12]) := by
  have hBl := World.block_lt_of_cell? w _ hc
  have HF : Hid (FdsIs w.drew B [] []) := Lib.hid trivial
  have HB : Hid (Below w.heap.size w w.drew) := Lib.hid (Below.refl _ _).drew
  go_enter Try.func19, Try.ntmps19
  go_wp2_with fail
  go_region_held3 (fun _ => True) (trivial) (first | (go_at_call 33; ((with_reducible refine (mkz_any _).mono ?_); rintro e w2 ⟨rfl, hb⟩; (try dsimp only [fdZ]); have HF := Lib.hid (fds_next HF.out hb (show FdIs w2 B .z fdZ from rfl)); have HB := Lib.hid (HB.out.trans (hb.mono HB.out.size)); clear hb)) | (go_at_call 34; ((with_reducible refine (mk4_any _ _).mono ?_); rintro e w2 ⟨bp, bs, rfl, h1, h2, h3, h4, hb⟩; (try dsimp only [fd4]); have HF := Lib.hid (fds_next HF.out hb (show FdIs w2 B (.n4 _) (fd4 bp bs) from ⟨bp, bs, rfl, (by have := HB.out.size; omega), (by have := HB.out.size; omega), h1, h2⟩)); have HB := Lib.hid (HB.out.trans (hb.mono HB.out.size)); clear hb h1 h2 h3 h4)) | (go_at_call 36; ((with_reducible refine (mk8_any _ _).mono ?_); rintro e w2 ⟨bp, bs, rfl, h1, h2, h3, h4, hb⟩; (try dsimp only [fd8]); have HF := Lib.hid (fds_next HF.out hb (show FdIs w2 B (.n8 _) (fd8 bp bs) from ⟨bp, bs, rfl, (by have := HB.out.size; omega), (by have := HB.out.size; omega), h1, h2⟩)); have HB := Lib.hid (HB.out.trans (hb.mono HB.out.size)); clear hb h1 h2 h3 h4)) | (go_at_call 35; ((with_reducible refine (mkt_any _ _).mono ?_); rintro e w2 ⟨bt, rfl, h1, h2, hb⟩; (try dsimp only [fdT]); have HF := Lib.hid (fds_next HF.out hb (show FdIs w2 B (.t _) (fdT bt _) from ⟨bt, rfl, (by have := HB.out.size; omega), h1⟩)); have HB := Lib.hid (HB.out.trans (hb.mono HB.out.size)); clear hb h1 h2)))
  all_goals
    go_wp2_with fail
    go_ret
    exact ⟨w2.heap.size, _, rfl, HB.out.size, (fields7 (heap_alloc_new w2 _)), HF.out.grown (grown_of_below (below_one _)), HB.out.alloc HB.out.size _⟩
set_option maxHeartbeats 4000000 in
theorem row_3 (B : Nat) (w : World) (hc : w.cell? ⟨B, 0, none⟩ = some (.int .i64 3)) : Calls Try.prog 19 #[.pointer (some ⟨B, 0, none⟩)] w (RowRet w B [.z, .n4 2, .t 8, .t 9]) := by
  have hBl := World.block_lt_of_cell? w _ hc
  have HF : Hid (FdsIs w.drew B [] []) := Lib.hid trivial
  have HB : Hid (Below w.heap.size w w.drew) := Lib.hid (Below.refl _ _).drew
  go_enter Try.func19, Try.ntmps19
  go_wp2_with fail
  go_region_held3 (fun _ => True) (trivial) (first | (go_at_call 33; ((with_reducible refine (mkz_any _).mono ?_); rintro e w2 ⟨rfl, hb⟩; (try dsimp only [fdZ]); have HF := Lib.hid (fds_next HF.out hb (show FdIs w2 B .z fdZ from rfl)); have HB := Lib.hid (HB.out.trans (hb.mono HB.out.size)); clear hb)) | (go_at_call 34; ((with_reducible refine (mk4_any _ _).mono ?_); rintro e w2 ⟨bp, bs, rfl, h1, h2, h3, h4, hb⟩; (try dsimp only [fd4]); have HF := Lib.hid (fds_next HF.out hb (show FdIs w2 B (.n4 _) (fd4 bp bs) from ⟨bp, bs, rfl, (by have := HB.out.size; omega), (by have := HB.out.size; omega), h1, h2⟩)); have HB := Lib.hid (HB.out.trans (hb.mono HB.out.size)); clear hb h1 h2 h3 h4)) | (go_at_call 36; ((with_reducible refine (mk8_any _ _).mono ?_); rintro e w2 ⟨bp, bs, rfl, h1, h2, h3, h4, hb⟩; (try dsimp only [fd8]); have HF := Lib.hid (fds_next HF.out hb (show FdIs w2 B (.n8 _) (fd8 bp bs) from ⟨bp, bs, rfl, (by have := HB.out.size; omega), (by have := HB.out.size; omega), h1, h2⟩)); have HB := Lib.hid (HB.out.trans (hb.mono HB.out.size)); clear hb h1 h2 h3 h4)) | (go_at_call 35; ((with_reducible refine (mkt_any _ _).mono ?_); rintro e w2 ⟨bt, rfl, h1, h2, hb⟩; (try dsimp only [fdT]); have HF := Lib.hid (fds_next HF.out hb (show FdIs w2 B (.t _) (fdT bt _) from ⟨bt, rfl, (by have := HB.out.size; omega), h1⟩)); have HB := Lib.hid (HB.out.trans (hb.mono HB.out.size)); clear hb h1 h2)))
  all_goals
    go_wp2_with fail
    go_ret
    exact ⟨w2.heap.size, _, rfl, HB.out.size, (fields4 (heap_alloc_new w2 _)), HF.out.grown (grown_of_below (below_one _)), HB.out.alloc HB.out.size _⟩
set_option maxHeartbeats 4000000 in
theorem row_4 (B : Nat) (w : World) (hc : w.cell? ⟨B, 0, none⟩ = some (.int .i64 4)) : Calls Try.prog 19 #[.pointer (some ⟨B, 0, none⟩)] w (RowRet w B [.z, .n4 2, .n8 3, .t 10]) := by
  have hBl := World.block_lt_of_cell? w _ hc
  have HF : Hid (FdsIs w.drew B [] []) := Lib.hid trivial
  have HB : Hid (Below w.heap.size w w.drew) := Lib.hid (Below.refl _ _).drew
  go_enter Try.func19, Try.ntmps19
  go_wp2_with fail
  go_region_held3 (fun _ => True) (trivial) (first | (go_at_call 33; ((with_reducible refine (mkz_any _).mono ?_); rintro e w2 ⟨rfl, hb⟩; (try dsimp only [fdZ]); have HF := Lib.hid (fds_next HF.out hb (show FdIs w2 B .z fdZ from rfl)); have HB := Lib.hid (HB.out.trans (hb.mono HB.out.size)); clear hb)) | (go_at_call 34; ((with_reducible refine (mk4_any _ _).mono ?_); rintro e w2 ⟨bp, bs, rfl, h1, h2, h3, h4, hb⟩; (try dsimp only [fd4]); have HF := Lib.hid (fds_next HF.out hb (show FdIs w2 B (.n4 _) (fd4 bp bs) from ⟨bp, bs, rfl, (by have := HB.out.size; omega), (by have := HB.out.size; omega), h1, h2⟩)); have HB := Lib.hid (HB.out.trans (hb.mono HB.out.size)); clear hb h1 h2 h3 h4)) | (go_at_call 36; ((with_reducible refine (mk8_any _ _).mono ?_); rintro e w2 ⟨bp, bs, rfl, h1, h2, h3, h4, hb⟩; (try dsimp only [fd8]); have HF := Lib.hid (fds_next HF.out hb (show FdIs w2 B (.n8 _) (fd8 bp bs) from ⟨bp, bs, rfl, (by have := HB.out.size; omega), (by have := HB.out.size; omega), h1, h2⟩)); have HB := Lib.hid (HB.out.trans (hb.mono HB.out.size)); clear hb h1 h2 h3 h4)) | (go_at_call 35; ((with_reducible refine (mkt_any _ _).mono ?_); rintro e w2 ⟨bt, rfl, h1, h2, hb⟩; (try dsimp only [fdT]); have HF := Lib.hid (fds_next HF.out hb (show FdIs w2 B (.t _) (fdT bt _) from ⟨bt, rfl, (by have := HB.out.size; omega), h1⟩)); have HB := Lib.hid (HB.out.trans (hb.mono HB.out.size)); clear hb h1 h2)))
  all_goals
    go_wp2_with fail
    go_ret
    exact ⟨w2.heap.size, _, rfl, HB.out.size, (fields4 (heap_alloc_new w2 _)), HF.out.grown (grown_of_below (below_one _)), HB.out.alloc HB.out.size _⟩
theorem row_no (B : Nat) (k : Int) (w : World) (hc : w.cell? ⟨B, 0, none⟩ = some (.int .i64 k)) (h1 : k ≠ 1) (h2 : k ≠ 2) (h3 : k ≠ 3) (h4 : k ≠ 4) :
    Calls Try.prog 19 #[.pointer (some ⟨B, 0, none⟩)] w fun e w' => e = .returned (.slice none 0 0) ∧ w' = w := by
  have e1 : (k == 1) = false := beqf h1
  have e2 : (k == 2) = false := beqf h2
  have e3 : (k == 3) = false := beqf h3
  have e4 : (k == 4) = false := beqf h4
  clear h1 h2 h3 h4
  go_enter Try.func19, Try.ntmps19
  go_wp2_with fail
  go_ret
  exact ⟨rfl, rfl⟩
end Go.Proofs.Ytjbmcjppaadkgaa

namespace Go.Proofs.Ytjbmcjppaadkgaa
set_option linter.unusedVariables false
set_option linter.unusedSimpArgs false
set_option maxRecDepth 100000
open Go.RowKit
def FdOk : Fd → Prop
  | .z => True
  | .n4 c => c = 1 ∨ c = 2
  | .n8 c => c = 3
  | .t c => 4 ≤ c ∧ c ≤ 12
structure NumOk (N : Nat → Nat) : Prop where
  n1 : N 1 < 4294967296
  n2 : N 2 < 4294967296
  n3 : N 3 < 18446744073709551616
def pF (N : Nat → Nat) (X : Nat → ByteArray) : Fd → List UInt8 → Nat × List UInt8
  | .z, L => (0, L ++ numB 0 3)
  | .n4 c, L => (0, L ++ numB (N c) 4)
  | .n8 c, L => (0, L ++ numB (N c) 8)
  | .t c, L => if 65535 < (X c).size then (3, []) else (0, L ++ numB (X c).size 2 ++ (X c).data.toList)
def pAll (N : Nat → Nat) (X : Nat → ByteArray) : List Fd → List UInt8 → Nat × List UInt8
  | [], L => (0, L)
  | f :: fs, L => if (pF N X f L).1 = 0 then pAll N X fs (pF N X f L).2 else pF N X f L
def pCont (N : Nat → Nat) (X : Nat → ByteArray) (fs : List Fd) (r : Nat × List UInt8) : Nat × List UInt8 := if r.1 = 0 then pAll N X fs r.2 else r
theorem pAll_cons (N : Nat → Nat) (X : Nat → ByteArray) (f : Fd) (fs : List Fd) (L : List UInt8) : pAll N X (f :: fs) L = pCont N X fs (pF N X f L) := rfl
theorem pF_len (N : Nat → Nat) (X : Nat → ByteArray) (f : Fd) (L : List UInt8) : (pF N X f L).2.length ≤ L.length + 65537 := by
  cases f with
  | z => simp [pF, numB_len]
  | n4 c => simp [pF, numB_len]
  | n8 c => simp [pF, numB_len]
  | t c =>
    simp only [pF]
    split
    · simp
    · simp [numB_len]; omega
theorem row_alloc {w : World} {base : Nat} {v : Value} {L : List UInt8} (h : RowB w base v L) (o : Obj) : RowB (w.alloc o) base v L := by
  unfold RowB at h ⊢
  exact h.alloc o
theorem pf_any (f : Fd) (fv v : Value) (L : List UInt8) (base B : Nat) (k : Int) (N : Nat → Nat) (X : Nat → ByteArray) (w0 w : World) (hf : FdIs w0 B f fv) (hok : FdOk f) (hm : MsgAt w0 B k N X) (hN : NumOk N) (h0 : w0.heap.size ≤ base) (hb0 : Below base w0 w)
    (hv : RowB w base v L) (hbase : base ≤ w.heap.size) (hL : L.length ≤ 1000000) : Calls Try.prog 21 #[fv, v] w (PrRet w base (pF N X f L)) := by
  cases f with
  | z =>
    obtain rfl : fv = fdZ := hf
    have HC := Lib.hid (fun W (h : RowB W base v L) (hs : base ≤ W.heap.size) => p0_any v L base W h hs hL)
    unfold fdZ
    go_enter Try.func21, Try.ntmps21
    go_wp2_with (first | (go_at_call 41; ((with_reducible refine (HC.out _ (row_alloc hv _) (by simp; omega)).mono ?_); rintro e w2 ⟨v', rfl, hr, hb⟩)) | fail)
    go_ret2
    exact ⟨_, rfl, fun _ => hr trivial, (Below.refl _ _).alloc hbase _ |>.trans hb⟩
  | n4 c =>
    obtain ⟨bp, bs, rfl, n1, n2, c1, c2⟩ := hf
    have hlt1 := World.block_lt_of_cell? w0 _ c1
    have hlt2 := World.block_lt_of_cell? w0 _ c2
    have hBl := (Array.getElem?_eq_some_iff.1 hm).1
    have hcN : N c < 4294967296 := by rcases hok with rfl | rfl; exact hN.n1; exact hN.n2
    have q1 := (hb0.cell (p := ⟨bp, 0, none⟩) (Nat.lt_of_lt_of_le hlt1 h0)).trans c1
    have q2 := (hb0.cell (p := ⟨bs, 0, none⟩) (Nat.lt_of_lt_of_le hlt2 h0)).trans c2
    have q3 := (hb0.cell (p := ⟨B, c, none⟩) (Nat.lt_of_lt_of_le hBl h0)).trans (msg_c32 hm hok)
    have HC := Lib.hid (fun o => p4_any v L base bp bs B c (N c) (w.alloc o) (row_alloc hv o) (by simp; omega) hL hcN (old1 o q1) (old1 o q2) (old1 o q3))
    clear q1 q2 q3 c1 c2 hok
    unfold fd4
    go_enter Try.func21, Try.ntmps21
    go_wp2_with (first | (go_at_call 44; ((with_reducible refine (HC.out _).mono ?_); rintro e w2 ⟨v', rfl, hr, hb⟩)) | fail)
    go_ret2
    exact ⟨_, rfl, fun _ => hr trivial, (Below.refl _ _).alloc hbase _ |>.trans hb⟩
  | n8 c =>
    obtain ⟨bp, bs, rfl, n1, n2, c1, c2⟩ := hf
    have hlt1 := World.block_lt_of_cell? w0 _ c1
    have hlt2 := World.block_lt_of_cell? w0 _ c2
    have hBl := (Array.getElem?_eq_some_iff.1 hm).1
    have hcN : N c < 18446744073709551616 := by obtain rfl : c = 3 := hok; exact hN.n3
    have q1 := (hb0.cell (p := ⟨bp, 0, none⟩) (Nat.lt_of_lt_of_le hlt1 h0)).trans c1
    have q2 := (hb0.cell (p := ⟨bs, 0, none⟩) (Nat.lt_of_lt_of_le hlt2 h0)).trans c2
    have q3 := (hb0.cell (p := ⟨B, c, none⟩) (Nat.lt_of_lt_of_le hBl h0)).trans (msg_c64 hm hok)
    have HC := Lib.hid (fun o => p8_any v L base bp bs B c (N c) (w.alloc o) (row_alloc hv o) (by simp; omega) hL hcN (old1 o q1) (old1 o q2) (old1 o q3))
    clear q1 q2 q3 c1 c2 hok
    unfold fd8
    go_enter Try.func21, Try.ntmps21
    go_wp2_with (first | (go_at_call 51; ((with_reducible refine (HC.out _).mono ?_); rintro e w2 ⟨v', rfl, hr, hb⟩)) | fail)
    go_ret2
    exact ⟨_, rfl, fun _ => hr trivial, (Below.refl _ _).alloc hbase _ |>.trans hb⟩
  | t c =>
    obtain ⟨bt, rfl, n1, c1⟩ := hf
    have hlt1 := World.block_lt_of_cell? w0 _ c1
    have hBl := (Array.getElem?_eq_some_iff.1 hm).1
    have q1 := (hb0.cell (p := ⟨bt, 0, none⟩) (Nat.lt_of_lt_of_le hlt1 h0)).trans c1
    have q3 := (hb0.cell (p := ⟨B, c, none⟩) (Nat.lt_of_lt_of_le hBl h0)).trans (msg_cx hm hok.1 hok.2)
    have HC := Lib.hid (fun o => pt_any v L base bt B c (X c) (w.alloc o) (row_alloc hv o) (by simp; omega) hL (Nat.lt_of_lt_of_le hlt1 h0) (Nat.lt_of_lt_of_le hBl h0) (old1 o q1) (old1 o q3))
    clear q1 q3 c1 hok
    unfold fdT
    unfold PrRet at HC ⊢
    simp only [pF]
    generalize (if 65535 < (X c).size then (3, []) else (0, L ++ numB (X c).size 2 ++ (X c).data.toList)) = R at *
    obtain ⟨rc, rl⟩ := R
    dsimp only at HC ⊢
    go_enter Try.func21, Try.ntmps21
    go_wp2_with (first | (go_at_call 47; ((with_reducible refine (HC.out _).mono ?_); rintro e w2 ⟨v', rfl, hr, hb⟩)) | fail)
    go_ret2
    exact ⟨_, rfl, hr, (Below.refl _ _).alloc hbase _ |>.trans hb⟩
theorem fds_len {w : World} {B : Nat} : ∀ {fs : List Fd} {vs : List Value}, FdsIs w B fs vs → vs.length = fs.length
  | [], [], _ => rfl
  | _ :: _, _ :: _, h => congrArg (· + 1) (fds_len h.2)
theorem fds_get {w : World} {B : Nat} : ∀ {fs : List Fd} {vs : List Value} {i : Nat} {f : Fd}, FdsIs w B fs vs → fs[i]? = some f → ∃ v, vs[i]? = some v ∧ FdIs w B f v
  | _ :: _, v :: _, 0, f, h, hf => by cases hf; exact ⟨v, rfl, h.1⟩
  | _ :: _, _ :: _, i + 1, f, h, hf => fds_get (i := i) h.2 hf
  | [], _, _, _, _, hf => by cases hf
  | _ :: _, [], _, _, h, _ => h.elim
set_option maxHeartbeats 1000000 in
theorem walkP_any (g : Nat) (fs : List Fd) (vs : List Value) (v : Value) (L : List UInt8) (base B : Nat) (k : Int) (N : Nat → Nat) (X : Nat → ByteArray) (w0 w : World) (hfs : FieldsAt w0 g vs) (hf : FdsIs w0 B fs vs) (hok : ∀ f ∈ fs, FdOk f) (hm : MsgAt w0 B k N X) (hN : NumOk N)
    (h0 : w0.heap.size ≤ base) (hb0 : Below base w0 w) (hv : RowB w base v L) (hbase : base ≤ w.heap.size) (hL : L.length ≤ 10) (hn : fs.length ≤ 7) :
    Calls Try.prog 20 #[.slice (some ⟨g, 0, none⟩) fs.length fs.length, v, .func (.func 21) #[] #[]] w (PrRet w base (pAll N X fs L)) := by
  go_enter Try.func20, Try.ntmps20
  go_wp2_with fail
  refine wp_scope_goto 0 (fun n a' w' => ∃ (v' : Value) (i : Nat) (r : Nat × List UInt8), ∃ (u3 u4 u5 u6 u7 u10 u11 u12 u13 u14 u15 u16 u17 u18 u19 u20 u21 u22 u23 u24 u25 u26 u27 u28 u29 u30 u31 : Value), a' = { tmps := #[.slice (some ⟨g, 0, none⟩) fs.length fs.length, v', .func (.func 21) #[] #[], u3, u4, u5, u6, u7, .int .i64 (i : Nat), .int .i64 (r.1 : Nat), u10, u11, u12, u13, u14, u15, u16, u17, u18, u19, u20, u21, u22, u23, u24, u25, u26, u27, u28, u29, u30, u31], defers := [] } ∧ i ≤ fs.length ∧ n = fs.length - i ∧ (r.1 = 0 → RowB w' base v' r.2) ∧ r.2.length ≤ 10 + i * 70000 ∧ pAll N X fs L = pCont N X (fs.drop i) r ∧ Below base w w') rfl ?_ ?_
  · intro R hpass hout
    go_wp2
    go_step3
    go_step
    go_step
    exact hpass _ _ _ ⟨v, 0, (0, L), _, _, _, _, _, _, _, _, _, _, _, _, _, _, _, _, _, _, _, _, _, _, _, _, _, _, _, rfl, Nat.zero_le _, rfl, fun _ => hv, by simpa using hL, rfl, Below.refl _ _⟩
  · intro n a' wr hrel J hJ
    obtain ⟨v', i, r, u3, u4, u5, u6, u7, u10, u11, u12, u13, u14, u15, u16, u17, u18, u19, u20, u21, u22, u23, u24, u25, u26, u27, u28, u29, u30, u31, rfl, hi, hnn, hrow, hlen, hz, hb⟩ := hrel
    subst hnn
    obtain ⟨e, Li⟩ := r
    have HJ := Lib.hid hJ
    have HZ := Lib.hid hz
    have HB := Lib.hid hb
    have HR := Lib.hid hrow
    clear hJ hz hb hrow
    by_cases he : e = 0
    · subst he
      by_cases hlt : i < fs.length
      · obtain ⟨f, hfi⟩ : ∃ f, fs[i]? = some f := ⟨_, List.getElem?_eq_getElem hlt⟩
        obtain ⟨fv, hvi, hF⟩ := fds_get hf hfi
        obtain ⟨a, b, c, rfl, c0, c1, c2⟩ := hfs i fv hvi
        have hbb := hb0.trans HB.out
        have hg0 := World.block_lt_of_cell? w0 _ c0
        have q0 := (hbb.cell (p := ⟨g, i * 3, none⟩) (Nat.lt_of_lt_of_le hg0 h0)).trans c0
        have q1 := (hbb.cell (p := ⟨g, i * 3 + 1, none⟩) (Nat.lt_of_lt_of_le hg0 h0)).trans c1
        have q2 := (hbb.cell (p := ⟨g, i * 3 + 2, none⟩) (Nat.lt_of_lt_of_le hg0 h0)).trans c2
        have HC := pf_any f _ v' Li base B k N X w0 wr hF (hok f (List.mem_of_getElem? hfi)) hm hN h0 hbb (HR.out rfl) (Nat.le_trans hbase HB.out.size) (by dsimp only at hlen; omega)
        have hd : fs.drop i = f :: fs.drop (i + 1) := by
          rw [List.drop_eq_getElem_cons hlt]
          rw [List.getElem?_eq_getElem hlt] at hfi
          cases hfi; rfl
        have HZ2 : Hid (pAll N X fs L = pCont N X (fs.drop (i + 1)) (pF N X f Li)) := Lib.hid (by rw [HZ.out, hd]; rfl)
        have hl2 := pF_len N X f Li
        generalize pF N X f Li = R at *
        obtain ⟨rc, rl⟩ := R
        unfold PrRet at HC
        dsimp only at HC hl2 hlen
        have HC := Lib.hid HC
        have HL2 : Hid (rl.length ≤ 10 + (i + 1) * 70000) := Lib.hid (by omega)
        have hii : (i : Int) < fs.length := by omega
        have hin : ¬ (i : Int) = fs.length := by omega
        clear hd hl2 hlen hfi hvi hF c0 c1 c2 hbb
        go_wp2_with (first | (go_at_call 21; ((with_reducible refine (HC.out).mono ?_); rintro e w2 ⟨v2, rfl, hr2, hb2⟩)) | fail)
        go_step3
        refine jump_back (HJ.out (fs.length - (i + 1)) _ _ (by omega) ⟨v2, i + 1, (rc, rl), _, _, _, _, _, _, _, _, _, _, _, _, _, _, _, _, _, _, _, _, _, _, _, _, _, _, _, rfl, hlt, rfl, hr2, HL2.out, HZ2.out, HB.out.trans hb2⟩)
      · obtain rfl : i = fs.length := by omega
        have HZ2 : Hid (pAll N X fs L = (0, Li)) := Lib.hid (by rw [HZ.out, List.drop_length]; rfl)
        go_wp2_with fail
        refine jump_ret ?_
        go_ret2
        rw [HZ2.out]
        exact ⟨_, rfl, fun _ => HR.out trivial, HB.out⟩
    · have HZ2 : Hid (pAll N X fs L = (e, Li)) := Lib.hid (by rw [HZ.out]; unfold pCont; exact if_neg he)
      have hei : ((e : Int) != 0) = true := bnet (by omega)
      go_wp2_with fail
      all_goals
        refine jump_ret ?_
        go_ret2
        rw [HZ2.out]
        exact ⟨_, rfl, fun h => absurd h he, HB.out⟩
end Go.Proofs.Ytjbmcjppaadkgaa

namespace Go.Proofs.Ytjbmcjppaadkgaa
set_option linter.unusedVariables false
set_option linter.unusedSimpArgs false
set_option maxRecDepth 100000
open Go.RowKit
def rF (N : Nat → Nat) (X : Nat → ByteArray) : Fd → List UInt8 → Nat × List UInt8 × (Nat → Nat) × (Nat → ByteArray)
  | .z, l => ((zr 3 l).1, (zr 3 l).2, N, X)
  | .n4 c, l => rdNum 4 c l N X
  | .n8 c, l => rdNum 8 c l N X
  | .t c, l => rdTxt c l N X
def rAll : List Fd → List UInt8 → (Nat → Nat) → (Nat → ByteArray) → Nat × List UInt8 × (Nat → Nat) × (Nat → ByteArray)
  | [], l, N, X => (0, l, N, X)
  | f :: fs, l, N, X => if (rF N X f l).1 = 0 then rAll fs (rF N X f l).2.1 (rF N X f l).2.2.1 (rF N X f l).2.2.2 else rF N X f l
def rCont (fs : List Fd) (r : Nat × List UInt8 × (Nat → Nat) × (Nat → ByteArray)) : Nat × List UInt8 × (Nat → Nat) × (Nat → ByteArray) := if r.1 = 0 then rAll fs r.2.1 r.2.2.1 r.2.2.2 else r
theorem zr_len : ∀ (n : Nat) (l : List UInt8), (zr n l).2.length ≤ l.length
  | 0, _ => Nat.le_refl _
  | _ + 1, [] => Nat.le_refl _
  | n + 1, x :: r => by
    show (if x = 0 then zr n r else (3, [])).2.length ≤ _
    split
    · exact Nat.le_trans (zr_len n r) (by simp)
    · simp
theorem rF_len (N : Nat → Nat) (X : Nat → ByteArray) (f : Fd) (l : List UInt8) : (rF N X f l).2.1.length ≤ l.length := by
  cases f with
  | z => exact zr_len 3 l
  | n4 c => simp only [rF, rdNum]; split <;> simp
  | n8 c => simp only [rF, rdNum]; split <;> simp
  | t c =>
    simp only [rF, rdTxt]
    split
    · simp
    · rcases cut_codes l with h | ⟨t, r, h, h1, h2⟩
      · rw [h]; simp
      · rw [h]; exact h2
set_option maxHeartbeats 1000000 in
theorem rf_any (f : Fd) (fv v : Value) (l : List UInt8) (b B : Nat) (k : Int) (N : Nat → Nat) (X : Nat → ByteArray) (w : World) (hf : FdIs w B f fv) (hok : FdOk f) (hm : MsgAt w B k N X) (hv : PartB w b v l) (hbB : b ≠ B) (hl : l.length ≤ 10000000) :
    Calls Try.prog 28 #[fv, v] w (RdRet w b B k (rF N X f l)) := by
  have hb1 := fun o => below_one (w := w) o
  have HM := Lib.hid (fun o => msg_below hm (hb1 o))
  have HV := Lib.hid (fun o => hv.below (hb1 o))
  clear hm hv hb1
  cases f with
  | z =>
    obtain rfl : fv = fdZ := hf
    have HC := Lib.hid (fun o => noughts_any b v l (w.alloc o) (HV.out o) hl)
    unfold fdZ
    unfold CutRet at HC
    unfold RdRet
    simp only [rF]
    generalize zr 3 l = R at *
    obtain ⟨rc, rl⟩ := R
    dsimp only at HC ⊢
    go_enter Try.func28, Try.ntmps28
    go_wp2_with (first | (go_at_call 43; ((with_reducible refine (HC.out _).mono ?_); rintro e w2 ⟨v', rfl, hp2, hb2⟩)) | fail)
    go_ret2
    exact ⟨_, rfl, hp2, msg_below (HM.out _) hb2, grown_of_below (Below.next (below_one _) hb2)⟩
  | n4 c =>
    obtain ⟨bp, bs, rfl, n1, n2, c1, c2⟩ := hf
    have HC := Lib.hid (fun o => r4_any b v l bp bs B c k N X (w.alloc o) (HV.out o) hl hbB n2 (HM.out o) hok (old1 o c1) (old1 o c2))
    clear c1 c2 hok
    unfold fd4
    unfold RdRet at HC ⊢
    simp only [rF]
    generalize rdNum 4 c l N X = R at *
    obtain ⟨rc, rl, rN, rX⟩ := R
    dsimp only at HC ⊢
    go_enter Try.func28, Try.ntmps28
    go_wp2_with (first | (go_at_call 45; ((with_reducible refine (HC.out _).mono ?_); rintro e w2 ⟨v', rfl, hp2, hm2, hg2⟩)) | fail)
    go_ret2
    exact ⟨_, rfl, hp2, hm2, grown_tr (grown_of_below (below_one _)) hg2⟩
  | n8 c =>
    obtain ⟨bp, bs, rfl, n1, n2, c1, c2⟩ := hf
    have HC := Lib.hid (fun o => r8_any b v l bp bs B c k N X (w.alloc o) (HV.out o) hl hbB n2 (HM.out o) hok (old1 o c1) (old1 o c2))
    clear c1 c2 hok
    unfold fd8
    unfold RdRet at HC ⊢
    simp only [rF]
    generalize rdNum 8 c l N X = R at *
    obtain ⟨rc, rl, rN, rX⟩ := R
    dsimp only at HC ⊢
    go_enter Try.func28, Try.ntmps28
    go_wp2_with (first | (go_at_call 52; ((with_reducible refine (HC.out _).mono ?_); rintro e w2 ⟨v', rfl, hp2, hm2, hg2⟩)) | fail)
    go_ret2
    exact ⟨_, rfl, hp2, hm2, grown_tr (grown_of_below (below_one _)) hg2⟩
  | t c =>
    obtain ⟨bt, rfl, n1, c1⟩ := hf
    have HC := Lib.hid (fun o => rt_any b v l bt B c k N X (w.alloc o) (HV.out o) hl hbB (HM.out o) hok.1 hok.2 (old1 o c1))
    clear c1 hok
    unfold fdT
    unfold RdRet at HC ⊢
    simp only [rF]
    generalize rdTxt c l N X = R at *
    obtain ⟨rc, rl, rN, rX⟩ := R
    dsimp only at HC ⊢
    go_enter Try.func28, Try.ntmps28
    go_wp2_with (first | (go_at_call 48; ((with_reducible refine (HC.out _).mono ?_); rintro e w2 ⟨v', rfl, hp2, hm2, hg2⟩)) | fail)
    go_ret2
    exact ⟨_, rfl, hp2, hm2, grown_tr (grown_of_below (below_one _)) hg2⟩
set_option maxHeartbeats 1000000 in
theorem walkR_any (g : Nat) (fs : List Fd) (vs : List Value) (v : Value) (l : List UInt8) (b B : Nat) (k : Int) (N : Nat → Nat) (X : Nat → ByteArray) (w : World) (hfs : FieldsAt w g vs) (hgB : g ≠ B) (hf : FdsIs w B fs vs) (hok : ∀ f ∈ fs, FdOk f) (hm : MsgAt w B k N X)
    (hv : PartB w b v l) (hbB : b ≠ B) (hl : l.length ≤ 10000000) (hn : fs.length ≤ 7) :
    Calls Try.prog 20 #[.slice (some ⟨g, 0, none⟩) fs.length fs.length, v, .func (.func 28) #[] #[]] w (RdRet w b B k (rAll fs l N X)) := by
  go_enter Try.func20, Try.ntmps20
  go_wp2_with fail
  refine wp_scope_goto 0 (fun n a' w' => ∃ (v' : Value) (i : Nat) (r : Nat × List UInt8 × (Nat → Nat) × (Nat → ByteArray)), ∃ (u3 u4 u5 u6 u7 u10 u11 u12 u13 u14 u15 u16 u17 u18 u19 u20 u21 u22 u23 u24 u25 u26 u27 u28 u29 u30 u31 : Value), a' = { tmps := #[.slice (some ⟨g, 0, none⟩) fs.length fs.length, v', .func (.func 28) #[] #[], u3, u4, u5, u6, u7, .int .i64 (i : Nat), .int .i64 (r.1 : Nat), u10, u11, u12, u13, u14, u15, u16, u17, u18, u19, u20, u21, u22, u23, u24, u25, u26, u27, u28, u29, u30, u31], defers := [] } ∧ i ≤ fs.length ∧ n = fs.length - i ∧ (r.1 = 0 → PartB w' b v' r.2.1) ∧ r.2.1.length ≤ l.length ∧ rAll fs l N X = rCont (fs.drop i) r ∧ MsgAt w' B k r.2.2.1 r.2.2.2 ∧ w.grownBy w' (some B)) rfl ?_ ?_
  · intro R hpass hout
    go_wp2
    go_step3
    go_step
    go_step
    exact hpass _ _ _ ⟨v, 0, (0, l, N, X), _, _, _, _, _, _, _, _, _, _, _, _, _, _, _, _, _, _, _, _, _, _, _, _, _, _, _, rfl, Nat.zero_le _, rfl, fun _ => hv, Nat.le_refl _, rfl, hm, grown_of_below (Below.refl _ _)⟩
  · intro n a' wr hrel J hJ
    obtain ⟨v', i, r, u3, u4, u5, u6, u7, u10, u11, u12, u13, u14, u15, u16, u17, u18, u19, u20, u21, u22, u23, u24, u25, u26, u27, u28, u29, u30, u31, rfl, hi, hnn, hrow, hlen, hz, hmr, hb⟩ := hrel
    subst hnn
    obtain ⟨e, Li, Ni, Xi⟩ := r
    have HJ := Lib.hid hJ
    have HZ := Lib.hid hz
    have HB := Lib.hid hb
    have HR := Lib.hid hrow
    have HM := Lib.hid hmr
    clear hJ hz hb hrow hmr hm hv
    by_cases he : e = 0
    · subst he
      by_cases hlt : i < fs.length
      · obtain ⟨f, hfi⟩ : ∃ f, fs[i]? = some f := ⟨_, List.getElem?_eq_getElem hlt⟩
        obtain ⟨fv, hvi, hF⟩ := fds_get hf hfi
        obtain ⟨a, b', c, rfl, c0, c1, c2⟩ := hfs i fv hvi
        have q0 := grown_cell HB.out hgB c0
        have q1 := grown_cell HB.out hgB c1
        have q2 := grown_cell HB.out hgB c2
        have HC := rf_any f _ v' Li b B k Ni Xi wr (hF.grown HB.out) (hok f (List.mem_of_getElem? hfi)) HM.out (HR.out rfl) hbB (Nat.le_trans hlen hl)
        have hd : fs.drop i = f :: fs.drop (i + 1) := by
          rw [List.drop_eq_getElem_cons hlt]
          rw [List.getElem?_eq_getElem hlt] at hfi
          cases hfi; rfl
        have HZ2 : Hid (rAll fs l N X = rCont (fs.drop (i + 1)) (rF Ni Xi f Li)) := Lib.hid (by rw [HZ.out, hd]; rfl)
        have hl2 := rF_len Ni Xi f Li
        generalize rF Ni Xi f Li = R at *
        obtain ⟨rc, rl, rN, rX⟩ := R
        unfold RdRet at HC
        dsimp only at HC hl2 hlen
        have HC := Lib.hid HC
        have HL2 : Hid (rl.length ≤ l.length) := Lib.hid (by omega)
        have hii : (i : Int) < fs.length := by omega
        have hin : ¬ (i : Int) = fs.length := by omega
        clear hd hl2 hlen hfi hvi hF c0 c1 c2
        go_wp2_with (first | (go_at_call 28; ((with_reducible refine (HC.out).mono ?_); rintro e w2 ⟨v2, rfl, hr2, hm2, hb2⟩)) | fail)
        go_step3
        refine jump_back (HJ.out (fs.length - (i + 1)) _ _ (by omega) ⟨v2, i + 1, (rc, rl, rN, rX), _, _, _, _, _, _, _, _, _, _, _, _, _, _, _, _, _, _, _, _, _, _, _, _, _, _, _, rfl, hlt, rfl, hr2, HL2.out, HZ2.out, hm2, grown_tr HB.out hb2⟩)
      · obtain rfl : i = fs.length := by omega
        have HZ2 : Hid (rAll fs l N X = (0, Li, Ni, Xi)) := Lib.hid (by rw [HZ.out, List.drop_length]; rfl)
        go_wp2_with fail
        refine jump_ret ?_
        go_ret2
        rw [HZ2.out]
        exact ⟨_, rfl, fun _ => HR.out trivial, HM.out, HB.out⟩
    · have HZ2 : Hid (rAll fs l N X = (e, Li, Ni, Xi)) := Lib.hid (by rw [HZ.out]; unfold rCont; exact if_neg he)
      have hei : ((e : Int) != 0) = true := bnet (by omega)
      go_wp2_with fail
      all_goals
        refine jump_ret ?_
        go_ret2
        rw [HZ2.out]
        exact ⟨_, rfl, fun h => absurd h he, HM.out, HB.out⟩
end Go.Proofs.Ytjbmcjppaadkgaa

namespace Go.Proofs.Ytjbmcjppaadkgaa
set_option linter.unusedVariables false
set_option linter.unusedSimpArgs false
set_option maxRecDepth 100000
open Go.RowKit
structure Msg where
  k : Int
  s : Nat
  r : Nat
  c : Nat
  a4 : ByteArray
  a5 : ByteArray
  a6 : ByteArray
  a7 : ByteArray
  a8 : ByteArray
  a9 : ByteArray
  a10 : ByteArray
  a11 : ByteArray
  a12 : ByteArray
theorem cells13 {W : World} {b : Nat} {T : TypeId} {v0 v1 v2 v3 v4 v5 v6 v7 v8 v9 v10 v11 v12 : Value} (h : W.heap[b]? = some (.cells #[v0, v1, v2, v3, v4, v5, v6, v7, v8, v9, v10, v11, v12] T (0, 0))) :
    W.cell? ⟨b, 0, none⟩ = some v0 ∧ W.cell? ⟨b, 1, none⟩ = some v1 ∧ W.cell? ⟨b, 2, none⟩ = some v2 ∧ W.cell? ⟨b, 3, none⟩ = some v3 ∧ W.cell? ⟨b, 4, none⟩ = some v4 ∧ W.cell? ⟨b, 5, none⟩ = some v5 ∧ W.cell? ⟨b, 6, none⟩ = some v6 ∧ W.cell? ⟨b, 7, none⟩ = some v7 ∧ W.cell? ⟨b, 8, none⟩ = some v8 ∧ W.cell? ⟨b, 9, none⟩ = some v9 ∧ W.cell? ⟨b, 10, none⟩ = some v10 ∧ W.cell? ⟨b, 11, none⟩ = some v11 ∧ W.cell? ⟨b, 12, none⟩ = some v12 :=
  ⟨cell_of h 0 rfl, cell_of h 1 rfl, cell_of h 2 rfl, cell_of h 3 rfl, cell_of h 4 rfl, cell_of h 5 rfl, cell_of h 6 rfl, cell_of h 7 rfl, cell_of h 8 rfl, cell_of h 9 rfl, cell_of h 10 rfl, cell_of h 11 rfl, cell_of h 12 rfl⟩
theorem rheavy_any (k : Int) (s r c : Nat) (a4 a5 a6 a7 a8 a9 a10 a11 a12 : ByteArray) (most : Int) (w : World) : Calls Try.prog 6 #[.agg #[.int .i64 k, .int .u32 (s : Nat), .int .u32 (r : Nat), .int .u64 (c : Nat), .string a4, .string a5, .string a6, .string a7, .string a8, .string a9, .string a10, .string a11, .string a12], .int .i64 most] w fun e w' => (∃ b, e = .returned (.bool b)) ∧ Below w.heap.size w w' := by
  have hx := heap_alloc_new w (.cells #[.int .i64 k, .int .u32 (s : Nat), .int .u32 (r : Nat), .int .u64 (c : Nat), .string a4, .string a5, .string a6, .string a7, .string a8, .string a9, .string a10, .string a11, .string a12] 25)
  obtain ⟨c0, c1, c2, c3, c4, c5, c6, c7, c8, c9, c10, c11, c12⟩ := cells13 hx
  go_enter Try.func6, Try.ntmps6
  go_wp2_with fail
  go_ret
  exact ⟨⟨_, rfl⟩, below_one _⟩
theorem rheavy_small (k : Int) (s r c : Nat) (a4 a5 a6 a7 a8 a9 a10 a11 a12 : ByteArray) (most : Int) (h4 : a4.size ≤ 100000) (h5 : a5.size ≤ 100000) (h6 : a6.size ≤ 100000) (h7 : a7.size ≤ 100000) (h8 : a8.size ≤ 100000) (h9 : a9.size ≤ 100000) (h10 : a10.size ≤ 100000) (h11 : a11.size ≤ 100000) (h12 : a12.size ≤ 100000) (w : World) :
    Calls Try.prog 6 #[.agg #[.int .i64 k, .int .u32 (s : Nat), .int .u32 (r : Nat), .int .u64 (c : Nat), .string a4, .string a5, .string a6, .string a7, .string a8, .string a9, .string a10, .string a11, .string a12], .int .i64 most] w fun e w' => e = .returned (.bool (decide (most < a4.size + a5.size + a6.size + a7.size + a8.size + a9.size + a10.size + a11.size + a12.size))) ∧ Below w.heap.size w w' := by
  have hx := heap_alloc_new w (.cells #[.int .i64 k, .int .u32 (s : Nat), .int .u32 (r : Nat), .int .u64 (c : Nat), .string a4, .string a5, .string a6, .string a7, .string a8, .string a9, .string a10, .string a11, .string a12] 25)
  obtain ⟨c0, c1, c2, c3, c4, c5, c6, c7, c8, c9, c10, c11, c12⟩ := cells13 hx
  have i4 : (a4.size : Int) ≤ 100000 := by omega
  have i5 : (a5.size : Int) ≤ 100000 := by omega
  have i6 : (a6.size : Int) ≤ 100000 := by omega
  have i7 : (a7.size : Int) ≤ 100000 := by omega
  have i8 : (a8.size : Int) ≤ 100000 := by omega
  have i9 : (a9.size : Int) ≤ 100000 := by omega
  have i10 : (a10.size : Int) ≤ 100000 := by omega
  have i11 : (a11.size : Int) ≤ 100000 := by omega
  have i12 : (a12.size : Int) ≤ 100000 := by omega
  go_enter Try.func6, Try.ntmps6
  go_wp2_with fail
  go_ret
  exact ⟨rfl, below_one _⟩
/-! the terms of a row -/
def rowM (k : Int) (a4 a5 a6 a7 a8 a9 a10 a11 a12 : ByteArray) : List (List UInt8) :=
  if k = 1 then [a4.data.toList, a5.data.toList, a6.data.toList, a11.data.toList, a12.data.toList]
  else if k = 2 then [a4.data.toList, a7.data.toList, a11.data.toList, a12.data.toList]
  else if k = 3 then [a8.data.toList, a9.data.toList]
  else if k = 4 then [a10.data.toList] else []
def TermsRet (w : World) (l : List (List UInt8)) (e : Ending) (w' : World) : Prop := ∃ v, e = .returned v ∧ Strs w' v l ∧ Below w.heap.size w w'
theorem strv_self (a : ByteArray) : strV a.data.toList = .string a := by simp [strV, strB]
theorem strs_blk {W : World} {b : Nat} {l : List (List UInt8)} {T : TypeId} (h : W.heap[b]? = some (.cells (l.map strV).toArray T (0, 0))) : Strs W (.slice (some ⟨b, 0, none⟩) l.length l.length) l := by
  refine ⟨_, _, rfl, fun h => (by cases h), .inr ⟨b, 0, rfl, fun i hi => ?_⟩⟩
  rw [Nat.zero_add]
  exact cell_of h i (by simp [List.getElem?_eq_getElem hi, List.getD])
theorem rterms_any (k : Int) (s r c : Nat) (a4 a5 a6 a7 a8 a9 a10 a11 a12 : ByteArray) (w : World) : Calls Try.prog 15 #[.agg #[.int .i64 k, .int .u32 (s : Nat), .int .u32 (r : Nat), .int .u64 (c : Nat), .string a4, .string a5, .string a6, .string a7, .string a8, .string a9, .string a10, .string a11, .string a12]] w (TermsRet w (rowM k a4 a5 a6 a7 a8 a9 a10 a11 a12)) := by
  have hx := heap_alloc_new w (.cells #[.int .i64 k, .int .u32 (s : Nat), .int .u32 (r : Nat), .int .u64 (c : Nat), .string a4, .string a5, .string a6, .string a7, .string a8, .string a9, .string a10, .string a11, .string a12] 25)
  have hb := below_one (w := w) (.cells #[.int .i64 k, .int .u32 (s : Nat), .int .u32 (r : Nat), .int .u64 (c : Nat), .string a4, .string a5, .string a6, .string a7, .string a8, .string a9, .string a10, .string a11, .string a12] 25)
  obtain ⟨c0, c1, c2, c3, c4, c5, c6, c7, c8, c9, c10, c11, c12⟩ := cells13 hx
  have s1 : (w.alloc (.cells #[.int .i64 k, .int .u32 (s : Nat), .int .u32 (r : Nat), .int .u64 (c : Nat), .string a4, .string a5, .string a6, .string a7, .string a8, .string a9, .string a10, .string a11, .string a12] 25)).heap.size = w.heap.size + 1 := by simp
  have hst : ∀ (l : List (List UInt8)), Strs ((w.alloc (.cells #[.int .i64 k, .int .u32 (s : Nat), .int .u32 (r : Nat), .int .u64 (c : Nat), .string a4, .string a5, .string a6, .string a7, .string a8, .string a9, .string a10, .string a11, .string a12] 25)).alloc (.cells (l.map strV).toArray 9)) (.slice (some ⟨w.heap.size + 1, 0, none⟩) l.length l.length) l := fun l => by
    have h := heap_alloc_new (w.alloc (.cells #[.int .i64 k, .int .u32 (s : Nat), .int .u32 (r : Nat), .int .u64 (c : Nat), .string a4, .string a5, .string a6, .string a7, .string a8, .string a9, .string a10, .string a11, .string a12] 25)) (.cells (l.map strV).toArray 9)
    rw [s1] at h
    exact strs_blk h
  by_cases h1 : k = 1
  · subst h1
    have hs := hst [a4.data.toList, a5.data.toList, a6.data.toList, a11.data.toList, a12.data.toList]
    simp only [List.map_cons, List.map_nil, strv_self] at hs
    go_enter Try.func15, Try.ntmps15
    go_wp2_with fail
    go_ret
    exact ⟨_, rfl, hs, Below.next hb (below_one _)⟩
  have e1 : (k == 1) = false := beqf h1
  by_cases h2 : k = 2
  · subst h2
    have hs := hst [a4.data.toList, a7.data.toList, a11.data.toList, a12.data.toList]
    simp only [List.map_cons, List.map_nil, strv_self] at hs
    go_enter Try.func15, Try.ntmps15
    go_wp2_with fail
    go_ret
    exact ⟨_, rfl, hs, Below.next hb (below_one _)⟩
  have e2 : (k == 2) = false := beqf h2
  by_cases h3 : k = 3
  · subst h3
    have hs := hst [a8.data.toList, a9.data.toList]
    simp only [List.map_cons, List.map_nil, strv_self] at hs
    go_enter Try.func15, Try.ntmps15
    go_wp2_with fail
    go_ret
    exact ⟨_, rfl, hs, Below.next hb (below_one _)⟩
  have e3 : (k == 3) = false := beqf h3
  by_cases h4 : k = 4
  · subst h4
    have hs := hst [a10.data.toList]
    simp only [List.map_cons, List.map_nil, strv_self] at hs
    go_enter Try.func15, Try.ntmps15
    go_wp2_with fail
    go_ret
    exact ⟨_, rfl, hs, Below.next hb (below_one _)⟩
  have e4 : (k == 4) = false := beqf h4
  have HR : Hid (rowM k a4 a5 a6 a7 a8 a9 a10 a11 a12 = []) := Lib.hid (by unfold rowM; rw [if_neg h1, if_neg h2, if_neg h3, if_neg h4])
  clear h1 h2 h3 h4
  go_enter Try.func15, Try.ntmps15
  go_wp2_with fail
  go_ret
  exact ⟨_, rfl, by rw [HR.out]; exact strs_nil _, hb⟩
end Go.Proofs.Ytjbmcjppaadkgaa
