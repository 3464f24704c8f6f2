/- know's reader: a piece, by contract, out of what stands inside its brackets. -/
import Derived.Test.YteiadbiopcidmaaKnow2
import Derived.StillTailTactics
namespace Go.Proofs.Yteiadbiopcidmaa
set_option linter.unusedVariables false
set_option linter.unusedSimpArgs false
set_option maxRecDepth 100000
open Go.RowKit

theorem bne_ik {b c : Int} (h : b ≠ c) : (b == c) = false := beqf h
theorem wrap_s64k (a : Int) (h0 : -9223372036854775808 ≤ a) (h : a < 9223372036854775808) : IntKind.i64.wrap a = a := by
  rw [IntKind.wrap_i64]; omega
theorem kkind_any (t : ByteArray) (ht : 0 < t.size) (k : Nat) (hk : kindOf (t.data.toList.headD 0) = k) (w : World) :
    Calls Try.prog 24 #[.string t] w fun e w' => e = .returned (.int .i64 k) ∧ w = w' := by
  have hd : t.data.toList.headD 0 = t[0] := by
    have := head_of t ht
    rw [List.headD_eq_head?_getD, this]; rfl
  obtain ⟨c, hc⟩ : ∃ c, t[0] = c := ⟨_, rfl⟩
  rw [hd, hc] at hk
  have hcb := UInt8.toNat_lt c
  have hle := kindOf_le c
  rw [hk] at hle
  have HX : Hid (∀ w, Calls Try.prog 35 #[.string ⟨#[48, 97, 110, 120, 112, 100, 104, 107, 109, 115, 108]⟩, .int .u8 c.toNat] w fun e w' => e = .returned (.int .i64 ((k : Int) - 1)) ∧ w = w') := Lib.hid (fun w => kind_idx _ k (by rw [← hk]; congr 1; simp) w)
  have hw := wrap_s64k ((k : Int) - 1) (by omega) (by omega)
  clear hd hk
  go_enter Try.func24, Try.ntmps24
  go_wp2_with (first | (go_at_call 35; ((with_reducible refine (HX.out _).mono ?_); rintro e w2 ⟨rfl, rfl⟩)) | fail)
  go_ret
  exact ⟨ret_int (by omega), rfl⟩
theorem PieceAt.low {a b : Nat} {w : World} (hab : a ≤ b) {t : Tm} {B : Nat} (h : PieceAt (Fr b) w t B) : PieceAt (Fr a) w t B := h.inHeap fun k hk _ => Nat.le_trans hab hk
theorem PiecesAt.low {a b : Nat} {w : World} (hab : a ≤ b) {ts : List Tm} {bs : List Nat} (h : PiecesAt (Fr b) w ts bs) : PiecesAt (Fr a) w ts bs := h.inHeap fun k hk _ => Nat.le_trans hab hk
theorem take_fore (a b : List UInt8) : (a ++ b).take ((a ++ b).length - b.length) = a := by simp
theorem drop_fore (a b : List UInt8) : (a ++ b).drop a.length = b := by simp
theorem partOf_kR (l : List UInt8) : partOf l (kR l) = kW l := by
  have := take_fore (kW l) (kR l)
  rw [kW_R] at this; exact this
theorem drop_kW (l : List UInt8) : l.drop (kW l).length = kR l := by
  have := drop_fore (kW l) (kR l)
  rw [kW_R] at this; exact this
def PieceOK (w : World) (R : Nat) (s : ByteArray) (tm : Tm) (rest : List UInt8) (e : Ending) (w' : World) : Prop :=
  ∃ B, e = .returned (.pointer (some ⟨B, 0, none⟩)) ∧ PieceAt (Fr w.heap.size) w' tm B ∧ RK w' R s (posOf s rest) ∧ w.grownBy w' (some R)
def InsideOK (w : World) (R : Nat) (s : ByteArray) (ps : List Tm) (rest : List UInt8) (e : Ending) (w' : World) : Prop :=
  ∃ a n c bs, e = .returned (.slice a n c) ∧ PtrRow w' (.slice a n c) bs ∧ rowOk (Fr w.heap.size) (.slice a n c) bs ∧ PiecesAt (Fr w.heap.size) w' ps bs ∧ RK w' R s (posOf s rest) ∧ w.grownBy w' (some R)
theorem kPieceS_cases {L : KLoop} {l rest : List UInt8} {tm : Tm} (hL : ∀ acc l ps r, L acc l = some (ps, r) → r <:+ l) (h : kPieceS L l = some (tm, rest)) : kW l ≠ [] ∧ rest <:+ kR l ∧
    (((kR l).head? = some 40 ∧ ∃ ps0 ps, L [] (kR l) = some (ps0, rest) ∧ fixParts (kindOf (l.headD 0)) ps0 = some ps ∧ tm = .mk (kindOf (l.headD 0)) (partOf l rest) ps) ∨
     ((kR l).head? ≠ some 40 ∧ kindOf (l.headD 0) ≠ 8 ∧ kindOf (l.headD 0) ≠ 10 ∧ rest = kR l ∧ tm = .mk (kindOf (l.headD 0)) (partOf l rest) [])) := by
  unfold kPieceS at h
  split at h
  · cases h
  · rename_i hw
    refine ⟨hw, ?_⟩
    split at h
    · rename_i h40
      cases hx : L [] (kR l) with
      | none => rw [hx] at h; cases h
      | some x =>
        rw [hx] at h
        simp only [Option.bind_some] at h
        cases hf : fixParts (kindOf (l.headD 0)) x.1 with
        | none => rw [hf] at h; cases h
        | some ps =>
          rw [hf] at h
          cases h
          exact ⟨hL _ _ _ _ hx, .inl ⟨h40, x.1, ps, rfl, hf, rfl⟩⟩
    · rename_i h40
      cases hf : fixParts (kindOf (l.headD 0)) [] with
      | none => rw [hf] at h; cases h
      | some ps =>
        rw [hf] at h
        cases h
        unfold fixParts at hf
        split at hf
        · cases hf
        · rename_i hk
          cases hf
          refine ⟨List.suffix_refl _, .inr ⟨h40, by omega, by omega, rfl, ?_⟩⟩
          rw [partOf_kR]
theorem ptr_at {w : World} {R : Nat} {s : ByteArray} {p : Nat} {o : Obj} (h : RK w R s p) : RK (w.alloc o) R s p := (Below.heap_alloc w o R h.lt).trans h
theorem grown_newset {w a : World} {row : Option Nat} {B i : Nat} {v : Value} (h : w.grownBy a row) (hB : w.heap.size ≤ B) : w.grownBy (a.setCell ⟨B, i, none⟩ v) row :=
  ⟨h.os, h.tape, h.output, by simpa using h.size, fun k hk hne => (heap_set_other (by omega)).trans (h.block k hk hne)⟩
theorem grown_alloc {w a : World} {row : Option Nat} (h : w.grownBy a row) (o : Obj) : w.grownBy (a.alloc o) row := grown_trans h (World.grownBy_alloc a o row)
theorem ptr_nil (w : World) : PtrRow w (.slice none 0 0) [] := ⟨none, 0, rfl, Nat.le_refl _, Nat.zero_le _, .inl rfl⟩
theorem row_nil (ok : Nat → Prop) (v : Value) : rowOk ok v [] := fun h => absurd rfl h
theorem piece_end {w w5 W7 : World} {B k b : Nat} {x : ByteArray} {tx : List UInt8} {v : Value} {bs : List Nat} {ps : List Tm} (hx : x = strB tx) (hB : w.heap.size ≤ B) (hb : B < b) (hpb : W7.heap[B]? = some (.cells #[.int .i64 k, .string x, v] 64 (0, 0)))
    (hg : w5.grownBy W7 (some B)) (hr : PtrRow w5 v bs) (hf : rowOk (Fr b) v bs) (hp : PiecesAt (Fr b) w5 ps bs) : PieceAt (Fr w.heap.size) W7 (.mk k tx ps) B := by
  unfold PieceAt
  subst hx
  have hrow : ∀ r, some B = some r → ¬ Fr b r := fun r e h => by cases e; unfold Fr at h; omega
  exact ⟨hB, v, bs, hpb, hr.kept hf hg hrow, fun h0 q n c e => Nat.le_trans (by omega) (hf h0 q n c e), PiecesAt.low (by omega) (PiecesAt.kept hg hrow hp)⟩
theorem ptr_tail {w : World} {g off n c b : Nat} {r : List Nat} {A : Addr} (h : PtrRow w (.slice (some ⟨g, off, none⟩) n c) (b :: r)) (hA : A.block = g ∧ (r = [] ∨ A = ⟨g, off + 1, none⟩)) : PtrRow w (.slice (some A) (n - 1) (c - 1)) r := by
  obtain ⟨a, cap, e, h1, h2, h3⟩ := h
  cases e
  refine ⟨_, _, rfl, by simp at h1; omega, by omega, ?_⟩
  rcases hA.2 with h4 | h4
  · exact .inl h4
  · right
    subst h4
    refine ⟨g, off + 1, rfl, fun i hi => ?_⟩
    rcases h3 with h3 | ⟨g2, o2, e2, h3⟩
    · cases h3
    · cases e2
      have := h3 (i + 1) (by simp; omega)
      rw [show off + (i + 1) = off + 1 + i by omega] at this
      simpa using this
/-- the piece's block, as it is laid -/
def PB (w : World) (B : Nat) (k : Nat) (x : ByteArray) (v : Value) : Prop := w.heap[B]? = some (.cells #[.int .i64 k, .string x, v] 64 (0, 0))
set_option maxHeartbeats 8000000 in
theorem kpiece_leaf (s : ByteArray) (hs : s.size ≤ 1000000) (R p : Nat) (w : World) (hp : p ≤ s.size) (h : RK w R s p) (l : List UInt8) (hl : s.data.toList.drop p = l) (k : Nat) (hk : kindOf (l.headD 0) = k) (hw0 : kW l ≠ []) (h40 : (kR l).head? ≠ some 40) (h8 : k ≠ 8) (h10 : k ≠ 10) :
    Calls Try.prog 21 #[.pointer (some ⟨R, 0, none⟩)] w (PieceOK w R s (.mk k (partOf l (kR l)) []) (kR l)) := by
  have hlen : l.length = s.size - p := by rw [← hl]; simp
  have hwl : (kW l).length + (kR l).length = l.length := by rw [← List.length_append, kW_R]
  have hwp : 0 < (kW l).length := List.length_pos_iff.2 hw0
  obtain ⟨q, hq⟩ : ∃ q, p + (kW l).length = q := ⟨_, rfl⟩
  have hqs : q ≤ s.size := by omega
  have hqpos : posOf s (kR l) = q := by unfold posOf; omega
  have hkR : s.data.toList.drop q = kR l := by
    rw [← hq, ← List.drop_drop, hl, drop_kW]
  have HWD : Hid (∀ w, RK w R s p → Calls Try.prog 31 #[.pointer (some ⟨R, 0, none⟩)] w fun e w' => (∃ v, e = .returned v) ∧ RK w' R s q ∧ w.grownBy w' (some R)) := Lib.hid (fun w h => by
    have := kword_any s p R w (by unfold maxLen; omega) hp h
    rw [hl, hq] at this; exact this)
  have hext : s.extract p s.size = strB l := by
    rw [slice_str s p s.size hp (Nat.le_refl _), ← hl]
    unfold sub strB; congr 2
    rw [List.take_of_length_le (by simp)]
  have hkl : 0 < l.length := by omega
  have HKD : Hid (∀ w, Calls Try.prog 24 #[.string (s.extract p s.size)] w fun e w' => e = .returned (.int .i64 k) ∧ w = w') := Lib.hid (fun w => by
    rw [hext]; exact kkind_any (strB l) (by rw [strB_size]; exact hkl) k (by exact hk) w)
  obtain ⟨x, hx⟩ : ∃ x, byteAt s q = x := ⟨_, rfl⟩
  have hx40 : (x == 40) = false := by
    refine beqf fun e => h40 ?_
    rw [← hkR]
    exact (head_byte s q 40 (by decide)).2 (by rw [hx, e]; rfl)
  have HNX : Hid (∀ w, RK w R s q → Calls Try.prog 32 #[.pointer (some ⟨R, 0, none⟩)] w fun e w' => e = .returned (.int .u8 x) ∧ ∃ n, w' = w.drewN n) := Lib.hid (fun w h => by rw [← hx]; exact knext_any s q R w (by unfold maxLen; omega) hqs h)
  have hk8 : ((k : Int) == 8) = false := bne_ik (by omega)
  have hk10 : ((k : Int) == 10) = false := bne_ik (by omega)
  have HTX : Hid (s.extract p q = strB (partOf l (kR l))) := Lib.hid (by
    have := part_eq s p (kR l) (by rw [hqpos]; omega) (by rw [hqpos]; exact hqs) (by omega)
    rw [hqpos, hl] at this; exact this)
  have hp0 : (0 : Int) ≤ p := by omega
  have hp1 : (p : Int) ≤ s.size := by omega
  have hq0 : (0 : Int) ≤ q := by omega
  have hq1 : (q : Int) ≤ s.size := by omega
  have hpq : (p : Int) ≤ q := by omega
  have g0 := h.c0
  have g1 := h.c1
  have HR := Lib.hid h
  have HQP := Lib.hid hqpos
  clear h hl hk hw0 h40 hlen hwl hwp hq hqpos hkR hext hkl hx
  go_enter Try.func21, Try.ntmps21
  go_wp2_with (first | (go_at_call 31; ((with_reducible refine (HWD.out _ HR.out).mono ?_); rintro e w2 ⟨⟨vw, rfl⟩, hr2, hg2⟩; have HR2 := Lib.hid hr2; have HG2 := Lib.hid hg2; have x0 := hr2.c0; have x1 := hr2.c1; clear hr2 hg2)) | (go_at_call 24; ((with_reducible refine (HKD.out _).mono ?_); rintro e w3 ⟨rfl, rfl⟩)) | (go_at_call 32; ((with_reducible refine (HNX.out _ (ptr_at HR2.out)).mono ?_); rintro e w4 ⟨rfl, n4, rfl⟩)) | fail)
  have HB4 : Hid (PB (((w2.alloc (.cells #[.int .i64 k, .string ⟨#[]⟩, .slice none 0 0] 64)).drewN n4)) w2.heap.size k ⟨#[]⟩ (.slice none 0 0)) := Lib.hid (heap_alloc_new w2 _)
  have HR4 : Hid (RK (((w2.alloc (.cells #[.int .i64 k, .string ⟨#[]⟩, .slice none 0 0] 64)).drewN n4)) R s q) := Lib.hid (ptr_at HR2.out)
  have HG4 : Hid (w.grownBy (((w2.alloc (.cells #[.int .i64 k, .string ⟨#[]⟩, .slice none 0 0] 64)).drewN n4)) (some R)) := Lib.hid (grown_trans (grown_alloc HG2.out (.cells #[.int .i64 k, .string ⟨#[]⟩, .slice none 0 0] 64)) (grown_drewN _ n4 _))
  have hne : R ≠ w2.heap.size := by have := HR2.out.lt; omega
  have hsz := HG2.out.size
  obtain ⟨B, hB⟩ : ∃ B, w2.heap.size = B := ⟨_, rfl⟩
  rw [hB] at HB4 hne hsz ⊢
  generalize (((w2.alloc (.cells #[.int .i64 k, .string ⟨#[]⟩, .slice none 0 0] 64)).drewN n4)) = W4 at *
  have y0 := HR4.out.c0
  have y1 := HR4.out.c1
  have z1 : W4.cell? ⟨B, 1, none⟩ = some (.string ⟨#[]⟩) := cell_of HB4.out 1 rfl
  have zf : W4.frozen? ⟨B, 1, none⟩ = false := free_of HB4.out 1
  refine wp_region_still_tail 13 (by kernel_rfl) (by kernel_rfl) ?_
  simp only [List.take_succ_cons, List.take_zero, List.drop_succ_cons, List.drop_zero]
  repeat still_step
  try refine wpStill_nil ?_
  change wpList _ _ _ _ _ W4.drew
  go_wp2_with fail
  go_ret
  refine ⟨B, rfl, ?_, ?_, ?_⟩
  · unfold PieceAt
    refine ⟨hsz, .slice none 0 0, [], ?_, ptr_nil _, row_nil _ _, by unfold PiecesAt; rfl⟩
    rw [← HTX.out]
    exact heap_set (i := 1) (v := .string (s.extract p q)) HB4.out
  · rw [HQP.out]
    exact (heap_set_other hne).trans HR4.out
  · exact grown_trans (grown_newset HG4.out hsz) (grown_drewN _ 1 _)
theorem open_row {w : World} {ia : Option Addr} {il ic b : Nat} {bs : List Nat} {t : Tm} {ps : List Tm} (hr : PtrRow w (.slice ia il ic) bs) (hp : PiecesAt (Fr b) w (t :: ps) bs) :
    ∃ g off b0 r, ia = some ⟨g, off, none⟩ ∧ il = r.length + 1 ∧ bs = b0 :: r ∧ PiecesAt (Fr b) w ps r ∧ r.length + 1 ≤ ic ∧ ic ≤ maxLen := by
  unfold PiecesAt at hp
  obtain ⟨b0, r, rfl, _, h2⟩ := hp
  obtain ⟨a, cap, e, h3, h4, h5⟩ := hr
  cases e
  rcases h5 with h5 | ⟨g, off, rfl, _⟩
  · cases h5
  · exact ⟨g, off, b0, r, rfl, by simp, rfl, h2, by simpa using h3, h4⟩
theorem RK.grown {w w' : World} {R : Nat} {s : ByteArray} {p : Nat} (h : RK w R s p) {row : Option Nat} (hg : w.grownBy w' row) (hne : some R ≠ row) : RK w' R s p := (hg.block R h.lt hne).trans h
theorem PB.grown {w w' : World} {B k : Nat} {x : ByteArray} {v : Value} (h : PB w B k x v) {row : Option Nat} (hg : w.grownBy w' row) (hne : some B ≠ row) : PB w' B k x v := (hg.block B (Array.getElem?_eq_some_iff.1 h).1 hne).trans h
set_option maxHeartbeats 8000000 in
theorem kpiece_node (s : ByteArray) (hs : s.size ≤ 1000000) (R p : Nat) (w : World) (hp : p ≤ s.size) (h : RK w R s p) (l : List UInt8) (hl : s.data.toList.drop p = l) (k : Nat) (hk : kindOf (l.headD 0) = k) (hw0 : kW l ≠ []) (h40 : (kR l).head? = some 40)
    (ps0 ps : List Tm) (rest : List UInt8) (hrest : rest <:+ kR l) (hfix : fixParts k ps0 = some ps) (hI : ∀ q w, q ≤ s.size → s.data.toList.drop q = kR l → RK w R s q → Calls Try.prog 33 #[.pointer (some ⟨R, 0, none⟩)] w (InsideOK w R s ps0 rest)) :
    Calls Try.prog 21 #[.pointer (some ⟨R, 0, none⟩)] w (PieceOK w R s (.mk k (partOf l rest) ps) rest) := by
  have hlen : l.length = s.size - p := by rw [← hl]; simp
  have hwl : (kW l).length + (kR l).length = l.length := by rw [← List.length_append, kW_R]
  have hwp : 0 < (kW l).length := List.length_pos_iff.2 hw0
  obtain ⟨q, hq⟩ : ∃ q, p + (kW l).length = q := ⟨_, rfl⟩
  have hqs : q ≤ s.size := by omega
  have hkR : s.data.toList.drop q = kR l := by
    rw [← hq, ← List.drop_drop, hl, drop_kW]
  have HWD : Hid (∀ w, RK w R s p → Calls Try.prog 31 #[.pointer (some ⟨R, 0, none⟩)] w fun e w' => (∃ v, e = .returned v) ∧ RK w' R s q ∧ w.grownBy w' (some R)) := Lib.hid (fun w h => by
    have := kword_any s p R w (by unfold maxLen; omega) hp h
    rw [hl, hq] at this; exact this)
  have hext : s.extract p s.size = strB l := by
    rw [slice_str s p s.size hp (Nat.le_refl _), ← hl]
    unfold sub strB; congr 2
    rw [List.take_of_length_le (by simp)]
  have hkl : 0 < l.length := by omega
  have HKD : Hid (∀ w, Calls Try.prog 24 #[.string (s.extract p s.size)] w fun e w' => e = .returned (.int .i64 k) ∧ w = w') := Lib.hid (fun w => by
    rw [hext]; exact kkind_any (strB l) (by rw [strB_size]; exact hkl) k (by exact hk) w)
  have hx40 : byteAt s q = 40 := (head_byte s q 40 (by decide)).1 (by rw [hkR]; exact h40)
  have HNX : Hid (∀ w, RK w R s q → Calls Try.prog 32 #[.pointer (some ⟨R, 0, none⟩)] w fun e w' => e = .returned (.int .u8 40) ∧ ∃ n, w' = w.drewN n) := Lib.hid (fun w h => by rw [← hx40]; exact knext_any s q R w (by unfold maxLen; omega) hqs h)
  have HIN : Hid (∀ w, RK w R s q → Calls Try.prog 33 #[.pointer (some ⟨R, 0, none⟩)] w (InsideOK w R s ps0 rest)) := Lib.hid (fun w h => hI q w hqs hkR h)
  obtain ⟨q2, hq2⟩ : ∃ q2, posOf s rest = q2 := ⟨_, rfl⟩
  have hrl := hrest.length_le
  have hq2e : q2 = s.size - rest.length := by rw [← hq2]; rfl
  have hpq2 : p ≤ q2 := by omega
  have hq2s : q2 ≤ s.size := by omega
  have HTX : Hid (s.extract p q2 = strB (partOf l rest)) := Lib.hid (by
    have := part_eq s p rest (by rw [hq2]; exact hpq2) (by rw [hq2]; exact hq2s) (by omega)
    rw [hq2, hl] at this; exact this)
  have hp0 : (0 : Int) ≤ p := by omega
  have hp1 : (p : Int) ≤ s.size := by omega
  have hq0 : (0 : Int) ≤ q2 := by omega
  have hq1 : (q2 : Int) ≤ s.size := by omega
  have hpq : (p : Int) ≤ q2 := by omega
  have g0 := h.c0
  have g1 := h.c1
  have HR := Lib.hid h
  have HQ2 := Lib.hid hq2
  have HFX := Lib.hid hfix
  have hkle : k ≤ 11 := by rw [← hk]; exact kindOf_le _
  clear h hl hk hw0 h40 hlen hwl hwp hq hkR hext hkl hx40 hI hrest hrl hq2 hq2e hfix
  have hcase : k = 8 ∨ k = 10 ∨ (k ≠ 8 ∧ k ≠ 10) := by omega
  rcases hcase with hk | hk | ⟨h8, h10⟩
  · subst hk
    obtain ⟨t0, HF⟩ : ∃ t0, Hid (ps0 = t0 :: ps) := by
      have := HFX.out
      unfold fixParts at this
      rw [if_pos (by omega)] at this
      cases ps0 with
      | nil => cases this
      | cons a b => cases this; exact ⟨a, Lib.hid rfl⟩
    have HIN : Hid (∀ w, RK w R s q → Calls Try.prog 33 #[.pointer (some ⟨R, 0, none⟩)] w (InsideOK w R s (t0 :: ps) rest)) := by rw [← HF.out]; exact HIN
    clear HF HFX
    go_enter Try.func21, Try.ntmps21
    go_wp2_with (first | (go_at_call 31; ((with_reducible refine (HWD.out _ HR.out).mono ?_); rintro e w2 ⟨⟨vw, rfl⟩, hr2, hg2⟩; have HR2 := Lib.hid hr2; have HG2 := Lib.hid hg2; have x0 := hr2.c0; have x1 := hr2.c1; clear hr2 hg2)) | (go_at_call 24; ((with_reducible refine (HKD.out _).mono ?_); rintro e w3 ⟨rfl, rfl⟩)) | (go_at_call 32; ((with_reducible refine (HNX.out _ (ptr_at HR2.out)).mono ?_); rintro e w4 ⟨rfl, n4, rfl⟩; have HB4 : Hid (PB (((w2.alloc (.cells #[.int .i64 8, .string ⟨#[]⟩, .slice none 0 0] 64)).drewN n4)) w2.heap.size 8 ⟨#[]⟩ (.slice none 0 0)) := Lib.hid (heap_alloc_new w2 _); have HR4 : Hid (RK (((w2.alloc (.cells #[.int .i64 8, .string ⟨#[]⟩, .slice none 0 0] 64)).drewN n4)) R s q) := Lib.hid (ptr_at HR2.out); have HG4 : Hid (w.grownBy (((w2.alloc (.cells #[.int .i64 8, .string ⟨#[]⟩, .slice none 0 0] 64)).drewN n4)) (some R)) := Lib.hid (grown_trans (grown_alloc HG2.out (.cells #[.int .i64 8, .string ⟨#[]⟩, .slice none 0 0] 64)) (grown_drewN _ n4 _)); have hne : R ≠ w2.heap.size := (by have := HR2.out.lt; omega); have hsz := HG2.out.size; have hszB : w2.heap.size < (((w2.alloc (.cells #[.int .i64 8, .string ⟨#[]⟩, .slice none 0 0] 64)).drewN n4)).heap.size := (Array.getElem?_eq_some_iff.1 HB4.out).1; obtain ⟨B, hB⟩ : ∃ B, w2.heap.size = B := ⟨_, rfl⟩; rw [hB] at HB4 hne hsz hszB ⊢; generalize (((w2.alloc (.cells #[.int .i64 8, .string ⟨#[]⟩, .slice none 0 0] 64)).drewN n4)) = W4 at *)) | (go_at_call 33; ((with_reducible refine (HIN.out _ HR4.out).mono ?_); rintro e w5 ⟨ia, il, ic, bs, rfl, hpr, hrf, hps, hr5, hg5⟩; obtain ⟨g, off, b0, r, rfl, rfl, rfl, hps2, hc1, hc2⟩ := open_row hpr hps; have HPR := Lib.hid hpr; have HRF := Lib.hid hrf; have HPS := Lib.hid hps2; have HR5 := Lib.hid hr5; have HG5 := Lib.hid hg5; have HB5 := Lib.hid (HB4.out.grown hg5 (fun e => hne (by cases e; rfl))); have z2 : w5.cell? ⟨B, 2, none⟩ = some (.slice none 0 0) := cell_of HB5.out 2 rfl; have z0 : w5.cell? ⟨B, 0, none⟩ = some (.int .i64 8) := cell_of HB5.out 0 rfl; have zf := fun i => free_of HB5.out i; have HLE := Lib.hid hg5.size; unfold maxLen at hc2; have q0 : (1 : Int) ≤ ((r.length + 1 : Nat) : Int) := (by omega); have q1 : ((r.length + 1 : Nat) : Int) ≤ (ic : Int) := (by omega); clear hpr hrf hps hps2 hr5 hg5)) | fail)
    all_goals first
      | (
        have hi : ic = 1 := by omega
        subst hi
        have HPV : Hid (PtrRow w5 (.slice (some ⟨g, off, none⟩) r.length 0) r) := Lib.hid (ptr_tail HPR.out ⟨rfl, .inl (List.eq_nil_of_length_eq_zero (by omega))⟩)
        have HRV : Hid (rowOk (Fr W4.heap.size) (.slice (some ⟨g, off, none⟩) r.length 0) r) := Lib.hid (fun h0 a n c e => by cases e; exact HRF.out (fun e => by cases e) ⟨g, off, none⟩ _ _ rfl)
        have HB6 : Hid (PB ((w5.setCell ⟨B, 2, none⟩ (.slice (some ⟨g, off, none⟩) (r.length + 1) 1)).setCell ⟨B, 2, none⟩ (.slice (some ⟨g, off, none⟩) r.length 0)) B 8 ⟨#[]⟩ (.slice (some ⟨g, off, none⟩) r.length 0)) := Lib.hid (heap_set (i := 2) (heap_set (i := 2) HB5.out))
        have HR6 : Hid (RK ((w5.setCell ⟨B, 2, none⟩ (.slice (some ⟨g, off, none⟩) (r.length + 1) 1)).setCell ⟨B, 2, none⟩ (.slice (some ⟨g, off, none⟩) r.length 0)) R s q2) := Lib.hid ((heap_set_other hne).trans ((heap_set_other hne).trans (by have := HR5.out; rw [HQ2.out] at this; exact this)))
        have HG6 : Hid (w5.grownBy ((w5.setCell ⟨B, 2, none⟩ (.slice (some ⟨g, off, none⟩) (r.length + 1) 1)).setCell ⟨B, 2, none⟩ (.slice (some ⟨g, off, none⟩) r.length 0)) (some B)) := Lib.hid (grown_trans (grown_set _ _ _ _) (grown_set _ _ _ _))
        clear z2 z0 zf
        generalize ((w5.setCell ⟨B, 2, none⟩ (.slice (some ⟨g, off, none⟩) (r.length + 1) 1)).setCell ⟨B, 2, none⟩ (.slice (some ⟨g, off, none⟩) r.length 0)) = W6 at *
        have y0 := HR6.out.c0
        have y1 := HR6.out.c1
        have z1 : W6.cell? ⟨B, 1, none⟩ = some (.string ⟨#[]⟩) := cell_of HB6.out 1 rfl
        have zf : W6.frozen? ⟨B, 1, none⟩ = false := free_of HB6.out 1
        refine wp_region_still_tail 13 (by kernel_rfl) (by kernel_rfl) ?_
        simp only [List.take_succ_cons, List.take_zero, List.drop_succ_cons, List.drop_zero]
        repeat still_step
        try refine wpStill_nil ?_
        change wpList _ _ _ _ _ W6.drew
        go_wp2_with fail
        go_ret
        refine ⟨B, rfl, piece_end HTX.out hsz hszB (heap_set (i := 1) (v := .string (s.extract p q2)) HB6.out) (grown_trans HG6.out (grown_trans (grown_set _ _ _ _) (grown_drewN _ 1 _))) HPV.out HRV.out HPS.out, ?_, ?_⟩
        · rw [HQ2.out]
          exact (heap_set_other hne).trans HR6.out
        · have h5 := grown_trans HG4.out HG5.out
          have h6 : w.grownBy W6 (some R) := ⟨HG6.out.os.trans h5.os, HG6.out.tape.trans h5.tape, HG6.out.output.trans h5.output, Nat.le_trans h5.size HG6.out.size, fun j hj hne => (HG6.out.block j (Nat.lt_of_lt_of_le hj h5.size) (fun e => by cases e; omega)).trans (h5.block j hj hne)⟩
          exact grown_trans (grown_newset h6 hsz) (grown_drewN _ 1 _))
      | (
        skip
        have HPV : Hid (PtrRow w5 (.slice (some ⟨g, off + 1, none⟩) r.length (ic - 1)) r) := Lib.hid (ptr_tail HPR.out ⟨rfl, .inr rfl⟩)
        have HRV : Hid (rowOk (Fr W4.heap.size) (.slice (some ⟨g, off + 1, none⟩) r.length (ic - 1)) r) := Lib.hid (fun h0 a n c e => by cases e; exact HRF.out (fun e => by cases e) ⟨g, off, none⟩ _ _ rfl)
        have HB6 : Hid (PB ((w5.setCell ⟨B, 2, none⟩ (.slice (some ⟨g, off, none⟩) (r.length + 1) ic)).setCell ⟨B, 2, none⟩ (.slice (some ⟨g, off + 1, none⟩) r.length (ic - 1))) B 8 ⟨#[]⟩ (.slice (some ⟨g, off + 1, none⟩) r.length (ic - 1))) := Lib.hid (heap_set (i := 2) (heap_set (i := 2) HB5.out))
        have HR6 : Hid (RK ((w5.setCell ⟨B, 2, none⟩ (.slice (some ⟨g, off, none⟩) (r.length + 1) ic)).setCell ⟨B, 2, none⟩ (.slice (some ⟨g, off + 1, none⟩) r.length (ic - 1))) R s q2) := Lib.hid ((heap_set_other hne).trans ((heap_set_other hne).trans (by have := HR5.out; rw [HQ2.out] at this; exact this)))
        have HG6 : Hid (w5.grownBy ((w5.setCell ⟨B, 2, none⟩ (.slice (some ⟨g, off, none⟩) (r.length + 1) ic)).setCell ⟨B, 2, none⟩ (.slice (some ⟨g, off + 1, none⟩) r.length (ic - 1))) (some B)) := Lib.hid (grown_trans (grown_set _ _ _ _) (grown_set _ _ _ _))
        clear z2 z0 zf
        generalize ((w5.setCell ⟨B, 2, none⟩ (.slice (some ⟨g, off, none⟩) (r.length + 1) ic)).setCell ⟨B, 2, none⟩ (.slice (some ⟨g, off + 1, none⟩) r.length (ic - 1))) = W6 at *
        have y0 := HR6.out.c0
        have y1 := HR6.out.c1
        have z1 : W6.cell? ⟨B, 1, none⟩ = some (.string ⟨#[]⟩) := cell_of HB6.out 1 rfl
        have zf : W6.frozen? ⟨B, 1, none⟩ = false := free_of HB6.out 1
        refine wp_region_still_tail 13 (by kernel_rfl) (by kernel_rfl) ?_
        simp only [List.take_succ_cons, List.take_zero, List.drop_succ_cons, List.drop_zero]
        repeat still_step
        try refine wpStill_nil ?_
        change wpList _ _ _ _ _ W6.drew
        go_wp2_with fail
        go_ret
        refine ⟨B, rfl, piece_end HTX.out hsz hszB (heap_set (i := 1) (v := .string (s.extract p q2)) HB6.out) (grown_trans HG6.out (grown_trans (grown_set _ _ _ _) (grown_drewN _ 1 _))) HPV.out HRV.out HPS.out, ?_, ?_⟩
        · rw [HQ2.out]
          exact (heap_set_other hne).trans HR6.out
        · have h5 := grown_trans HG4.out HG5.out
          have h6 : w.grownBy W6 (some R) := ⟨HG6.out.os.trans h5.os, HG6.out.tape.trans h5.tape, HG6.out.output.trans h5.output, Nat.le_trans h5.size HG6.out.size, fun j hj hne => (HG6.out.block j (Nat.lt_of_lt_of_le hj h5.size) (fun e => by cases e; omega)).trans (h5.block j hj hne)⟩
          exact grown_trans (grown_newset h6 hsz) (grown_drewN _ 1 _))
  · subst hk
    obtain ⟨t0, HF⟩ : ∃ t0, Hid (ps0 = t0 :: ps) := by
      have := HFX.out
      unfold fixParts at this
      rw [if_pos (by omega)] at this
      cases ps0 with
      | nil => cases this
      | cons a b => cases this; exact ⟨a, Lib.hid rfl⟩
    have HIN : Hid (∀ w, RK w R s q → Calls Try.prog 33 #[.pointer (some ⟨R, 0, none⟩)] w (InsideOK w R s (t0 :: ps) rest)) := by rw [← HF.out]; exact HIN
    clear HF HFX
    go_enter Try.func21, Try.ntmps21
    go_wp2_with (first | (go_at_call 31; ((with_reducible refine (HWD.out _ HR.out).mono ?_); rintro e w2 ⟨⟨vw, rfl⟩, hr2, hg2⟩; have HR2 := Lib.hid hr2; have HG2 := Lib.hid hg2; have x0 := hr2.c0; have x1 := hr2.c1; clear hr2 hg2)) | (go_at_call 24; ((with_reducible refine (HKD.out _).mono ?_); rintro e w3 ⟨rfl, rfl⟩)) | (go_at_call 32; ((with_reducible refine (HNX.out _ (ptr_at HR2.out)).mono ?_); rintro e w4 ⟨rfl, n4, rfl⟩; have HB4 : Hid (PB (((w2.alloc (.cells #[.int .i64 10, .string ⟨#[]⟩, .slice none 0 0] 64)).drewN n4)) w2.heap.size 10 ⟨#[]⟩ (.slice none 0 0)) := Lib.hid (heap_alloc_new w2 _); have HR4 : Hid (RK (((w2.alloc (.cells #[.int .i64 10, .string ⟨#[]⟩, .slice none 0 0] 64)).drewN n4)) R s q) := Lib.hid (ptr_at HR2.out); have HG4 : Hid (w.grownBy (((w2.alloc (.cells #[.int .i64 10, .string ⟨#[]⟩, .slice none 0 0] 64)).drewN n4)) (some R)) := Lib.hid (grown_trans (grown_alloc HG2.out (.cells #[.int .i64 10, .string ⟨#[]⟩, .slice none 0 0] 64)) (grown_drewN _ n4 _)); have hne : R ≠ w2.heap.size := (by have := HR2.out.lt; omega); have hsz := HG2.out.size; have hszB : w2.heap.size < (((w2.alloc (.cells #[.int .i64 10, .string ⟨#[]⟩, .slice none 0 0] 64)).drewN n4)).heap.size := (Array.getElem?_eq_some_iff.1 HB4.out).1; obtain ⟨B, hB⟩ : ∃ B, w2.heap.size = B := ⟨_, rfl⟩; rw [hB] at HB4 hne hsz hszB ⊢; generalize (((w2.alloc (.cells #[.int .i64 10, .string ⟨#[]⟩, .slice none 0 0] 64)).drewN n4)) = W4 at *)) | (go_at_call 33; ((with_reducible refine (HIN.out _ HR4.out).mono ?_); rintro e w5 ⟨ia, il, ic, bs, rfl, hpr, hrf, hps, hr5, hg5⟩; obtain ⟨g, off, b0, r, rfl, rfl, rfl, hps2, hc1, hc2⟩ := open_row hpr hps; have HPR := Lib.hid hpr; have HRF := Lib.hid hrf; have HPS := Lib.hid hps2; have HR5 := Lib.hid hr5; have HG5 := Lib.hid hg5; have HB5 := Lib.hid (HB4.out.grown hg5 (fun e => hne (by cases e; rfl))); have z2 : w5.cell? ⟨B, 2, none⟩ = some (.slice none 0 0) := cell_of HB5.out 2 rfl; have z0 : w5.cell? ⟨B, 0, none⟩ = some (.int .i64 10) := cell_of HB5.out 0 rfl; have zf := fun i => free_of HB5.out i; have HLE := Lib.hid hg5.size; unfold maxLen at hc2; have q0 : (1 : Int) ≤ ((r.length + 1 : Nat) : Int) := (by omega); have q1 : ((r.length + 1 : Nat) : Int) ≤ (ic : Int) := (by omega); clear hpr hrf hps hps2 hr5 hg5)) | fail)
    all_goals first
      | (
        have hi : ic = 1 := by omega
        subst hi
        have HPV : Hid (PtrRow w5 (.slice (some ⟨g, off, none⟩) r.length 0) r) := Lib.hid (ptr_tail HPR.out ⟨rfl, .inl (List.eq_nil_of_length_eq_zero (by omega))⟩)
        have HRV : Hid (rowOk (Fr W4.heap.size) (.slice (some ⟨g, off, none⟩) r.length 0) r) := Lib.hid (fun h0 a n c e => by cases e; exact HRF.out (fun e => by cases e) ⟨g, off, none⟩ _ _ rfl)
        have HB6 : Hid (PB ((w5.setCell ⟨B, 2, none⟩ (.slice (some ⟨g, off, none⟩) (r.length + 1) 1)).setCell ⟨B, 2, none⟩ (.slice (some ⟨g, off, none⟩) r.length 0)) B 10 ⟨#[]⟩ (.slice (some ⟨g, off, none⟩) r.length 0)) := Lib.hid (heap_set (i := 2) (heap_set (i := 2) HB5.out))
        have HR6 : Hid (RK ((w5.setCell ⟨B, 2, none⟩ (.slice (some ⟨g, off, none⟩) (r.length + 1) 1)).setCell ⟨B, 2, none⟩ (.slice (some ⟨g, off, none⟩) r.length 0)) R s q2) := Lib.hid ((heap_set_other hne).trans ((heap_set_other hne).trans (by have := HR5.out; rw [HQ2.out] at this; exact this)))
        have HG6 : Hid (w5.grownBy ((w5.setCell ⟨B, 2, none⟩ (.slice (some ⟨g, off, none⟩) (r.length + 1) 1)).setCell ⟨B, 2, none⟩ (.slice (some ⟨g, off, none⟩) r.length 0)) (some B)) := Lib.hid (grown_trans (grown_set _ _ _ _) (grown_set _ _ _ _))
        clear z2 z0 zf
        generalize ((w5.setCell ⟨B, 2, none⟩ (.slice (some ⟨g, off, none⟩) (r.length + 1) 1)).setCell ⟨B, 2, none⟩ (.slice (some ⟨g, off, none⟩) r.length 0)) = W6 at *
        have y0 := HR6.out.c0
        have y1 := HR6.out.c1
        have z1 : W6.cell? ⟨B, 1, none⟩ = some (.string ⟨#[]⟩) := cell_of HB6.out 1 rfl
        have zf : W6.frozen? ⟨B, 1, none⟩ = false := free_of HB6.out 1
        refine wp_region_still_tail 13 (by kernel_rfl) (by kernel_rfl) ?_
        simp only [List.take_succ_cons, List.take_zero, List.drop_succ_cons, List.drop_zero]
        repeat still_step
        try refine wpStill_nil ?_
        change wpList _ _ _ _ _ W6.drew
        go_wp2_with fail
        go_ret
        refine ⟨B, rfl, piece_end HTX.out hsz hszB (heap_set (i := 1) (v := .string (s.extract p q2)) HB6.out) (grown_trans HG6.out (grown_trans (grown_set _ _ _ _) (grown_drewN _ 1 _))) HPV.out HRV.out HPS.out, ?_, ?_⟩
        · rw [HQ2.out]
          exact (heap_set_other hne).trans HR6.out
        · have h5 := grown_trans HG4.out HG5.out
          have h6 : w.grownBy W6 (some R) := ⟨HG6.out.os.trans h5.os, HG6.out.tape.trans h5.tape, HG6.out.output.trans h5.output, Nat.le_trans h5.size HG6.out.size, fun j hj hne => (HG6.out.block j (Nat.lt_of_lt_of_le hj h5.size) (fun e => by cases e; omega)).trans (h5.block j hj hne)⟩
          exact grown_trans (grown_newset h6 hsz) (grown_drewN _ 1 _))
      | (
        skip
        have HPV : Hid (PtrRow w5 (.slice (some ⟨g, off + 1, none⟩) r.length (ic - 1)) r) := Lib.hid (ptr_tail HPR.out ⟨rfl, .inr rfl⟩)
        have HRV : Hid (rowOk (Fr W4.heap.size) (.slice (some ⟨g, off + 1, none⟩) r.length (ic - 1)) r) := Lib.hid (fun h0 a n c e => by cases e; exact HRF.out (fun e => by cases e) ⟨g, off, none⟩ _ _ rfl)
        have HB6 : Hid (PB ((w5.setCell ⟨B, 2, none⟩ (.slice (some ⟨g, off, none⟩) (r.length + 1) ic)).setCell ⟨B, 2, none⟩ (.slice (some ⟨g, off + 1, none⟩) r.length (ic - 1))) B 10 ⟨#[]⟩ (.slice (some ⟨g, off + 1, none⟩) r.length (ic - 1))) := Lib.hid (heap_set (i := 2) (heap_set (i := 2) HB5.out))
        have HR6 : Hid (RK ((w5.setCell ⟨B, 2, none⟩ (.slice (some ⟨g, off, none⟩) (r.length + 1) ic)).setCell ⟨B, 2, none⟩ (.slice (some ⟨g, off + 1, none⟩) r.length (ic - 1))) R s q2) := Lib.hid ((heap_set_other hne).trans ((heap_set_other hne).trans (by have := HR5.out; rw [HQ2.out] at this; exact this)))
        have HG6 : Hid (w5.grownBy ((w5.setCell ⟨B, 2, none⟩ (.slice (some ⟨g, off, none⟩) (r.length + 1) ic)).setCell ⟨B, 2, none⟩ (.slice (some ⟨g, off + 1, none⟩) r.length (ic - 1))) (some B)) := Lib.hid (grown_trans (grown_set _ _ _ _) (grown_set _ _ _ _))
        clear z2 z0 zf
        generalize ((w5.setCell ⟨B, 2, none⟩ (.slice (some ⟨g, off, none⟩) (r.length + 1) ic)).setCell ⟨B, 2, none⟩ (.slice (some ⟨g, off + 1, none⟩) r.length (ic - 1))) = W6 at *
        have y0 := HR6.out.c0
        have y1 := HR6.out.c1
        have z1 : W6.cell? ⟨B, 1, none⟩ = some (.string ⟨#[]⟩) := cell_of HB6.out 1 rfl
        have zf : W6.frozen? ⟨B, 1, none⟩ = false := free_of HB6.out 1
        refine wp_region_still_tail 13 (by kernel_rfl) (by kernel_rfl) ?_
        simp only [List.take_succ_cons, List.take_zero, List.drop_succ_cons, List.drop_zero]
        repeat still_step
        try refine wpStill_nil ?_
        change wpList _ _ _ _ _ W6.drew
        go_wp2_with fail
        go_ret
        refine ⟨B, rfl, piece_end HTX.out hsz hszB (heap_set (i := 1) (v := .string (s.extract p q2)) HB6.out) (grown_trans HG6.out (grown_trans (grown_set _ _ _ _) (grown_drewN _ 1 _))) HPV.out HRV.out HPS.out, ?_, ?_⟩
        · rw [HQ2.out]
          exact (heap_set_other hne).trans HR6.out
        · have h5 := grown_trans HG4.out HG5.out
          have h6 : w.grownBy W6 (some R) := ⟨HG6.out.os.trans h5.os, HG6.out.tape.trans h5.tape, HG6.out.output.trans h5.output, Nat.le_trans h5.size HG6.out.size, fun j hj hne => (HG6.out.block j (Nat.lt_of_lt_of_le hj h5.size) (fun e => by cases e; omega)).trans (h5.block j hj hne)⟩
          exact grown_trans (grown_newset h6 hsz) (grown_drewN _ 1 _))
  · have hk8 : ((k : Int) == 8) = false := bne_ik (by omega)
    have hk10 : ((k : Int) == 10) = false := bne_ik (by omega)
    have HF : Hid (ps0 = ps) := Lib.hid (by have := HFX.out; unfold fixParts at this; rw [if_neg (by omega)] at this; exact Option.some.inj this)
    clear h8 h10
    go_enter Try.func21, Try.ntmps21
    go_wp2_with (first | (go_at_call 31; ((with_reducible refine (HWD.out _ HR.out).mono ?_); rintro e w2 ⟨⟨vw, rfl⟩, hr2, hg2⟩; have HR2 := Lib.hid hr2; have HG2 := Lib.hid hg2; have x0 := hr2.c0; have x1 := hr2.c1; clear hr2 hg2)) | (go_at_call 24; ((with_reducible refine (HKD.out _).mono ?_); rintro e w3 ⟨rfl, rfl⟩)) | (go_at_call 32; ((with_reducible refine (HNX.out _ (ptr_at HR2.out)).mono ?_); rintro e w4 ⟨rfl, n4, rfl⟩; have HB4 : Hid (PB (((w2.alloc (.cells #[.int .i64 k, .string ⟨#[]⟩, .slice none 0 0] 64)).drewN n4)) w2.heap.size k ⟨#[]⟩ (.slice none 0 0)) := Lib.hid (heap_alloc_new w2 _); have HR4 : Hid (RK (((w2.alloc (.cells #[.int .i64 k, .string ⟨#[]⟩, .slice none 0 0] 64)).drewN n4)) R s q) := Lib.hid (ptr_at HR2.out); have HG4 : Hid (w.grownBy (((w2.alloc (.cells #[.int .i64 k, .string ⟨#[]⟩, .slice none 0 0] 64)).drewN n4)) (some R)) := Lib.hid (grown_trans (grown_alloc HG2.out (.cells #[.int .i64 k, .string ⟨#[]⟩, .slice none 0 0] 64)) (grown_drewN _ n4 _)); have hne : R ≠ w2.heap.size := (by have := HR2.out.lt; omega); have hsz := HG2.out.size; have hszB : w2.heap.size < (((w2.alloc (.cells #[.int .i64 k, .string ⟨#[]⟩, .slice none 0 0] 64)).drewN n4)).heap.size := (Array.getElem?_eq_some_iff.1 HB4.out).1; obtain ⟨B, hB⟩ : ∃ B, w2.heap.size = B := ⟨_, rfl⟩; rw [hB] at HB4 hne hsz hszB ⊢; generalize (((w2.alloc (.cells #[.int .i64 k, .string ⟨#[]⟩, .slice none 0 0] 64)).drewN n4)) = W4 at *)) | (go_at_call 33; ((with_reducible refine (HIN.out _ HR4.out).mono ?_); rintro e w5 ⟨ia, il, ic, bs, rfl, hpr, hrf, hps, hr5, hg5⟩; have HPR := Lib.hid hpr; have HRF := Lib.hid hrf; have HPS := Lib.hid hps; have HR5 := Lib.hid hr5; have HG5 := Lib.hid hg5; have HB5 := Lib.hid (HB4.out.grown hg5 (fun e => hne (by cases e; rfl))); have z2 : w5.cell? ⟨B, 2, none⟩ = some (.slice none 0 0) := cell_of HB5.out 2 rfl; have z0 : w5.cell? ⟨B, 0, none⟩ = some (.int .i64 k) := cell_of HB5.out 0 rfl; have zf := fun i => free_of HB5.out i; have HLE := Lib.hid hg5.size; clear hpr hrf hps hr5 hg5)) | fail)
    have HB6 : Hid (PB (w5.setCell ⟨B, 2, none⟩ (.slice ia il ic)) B k ⟨#[]⟩ (.slice ia il ic)) := Lib.hid (heap_set (i := 2) HB5.out)
    have HR6 : Hid (RK (w5.setCell ⟨B, 2, none⟩ (.slice ia il ic)) R s q2) := Lib.hid ((heap_set_other hne).trans (by have := HR5.out; rw [HQ2.out] at this; exact this))
    have HG6 : Hid (w5.grownBy (w5.setCell ⟨B, 2, none⟩ (.slice ia il ic)) (some B)) := Lib.hid (grown_set _ _ _ _)
    clear z2 z0 zf
    generalize (w5.setCell ⟨B, 2, none⟩ (.slice ia il ic)) = W6 at *
    have y0 := HR6.out.c0
    have y1 := HR6.out.c1
    have z1 : W6.cell? ⟨B, 1, none⟩ = some (.string ⟨#[]⟩) := cell_of HB6.out 1 rfl
    have zf : W6.frozen? ⟨B, 1, none⟩ = false := free_of HB6.out 1
    refine wp_region_still_tail 13 (by kernel_rfl) (by kernel_rfl) ?_
    simp only [List.take_succ_cons, List.take_zero, List.drop_succ_cons, List.drop_zero]
    repeat still_step
    try refine wpStill_nil ?_
    change wpList _ _ _ _ _ W6.drew
    go_wp2_with fail
    go_ret
    refine ⟨B, rfl, piece_end HTX.out hsz hszB (heap_set (i := 1) (v := .string (s.extract p q2)) HB6.out) (grown_trans HG6.out (grown_trans (grown_set _ _ _ _) (grown_drewN _ 1 _))) HPR.out HRF.out (by have := HPS.out; rw [HF.out] at this; exact this), ?_, ?_⟩
    · rw [HQ2.out]
      exact (heap_set_other hne).trans HR6.out
    · have h5 := grown_trans HG4.out HG5.out
      have h6 : w.grownBy W6 (some R) := ⟨HG6.out.os.trans h5.os, HG6.out.tape.trans h5.tape, HG6.out.output.trans h5.output, Nat.le_trans h5.size HG6.out.size, fun j hj hne => (HG6.out.block j (Nat.lt_of_lt_of_le hj h5.size) (fun e => by cases e; omega)).trans (h5.block j hj hne)⟩
      exact grown_trans (grown_newset h6 hsz) (grown_drewN _ 1 _)
end Go.Proofs.Yteiadbiopcidmaa
