/- Texts of this seat, merged: AddrP4, Tm1, Tm2, Tm3, Tm4. -/
import Derived.Test.YtlmmnjoincmgcaaGT7
namespace Go.Proofs.Ytlmmnjoincmgcaa
set_option linter.unusedVariables false
set_option linter.unusedSimpArgs false
set_option maxRecDepth 100000
open Go.RowKit Go.Shelf
attribute [local go_sem] Oper.semAt_some

/-! which bits of two bytes are the same -/
theorem keepH_eq {x y r : Nat} : keepH x r = keepH y r ↔ x / 2 ^ (8 - r) = y / 2 ^ (8 - r) := by
  unfold keepH
  constructor
  · intro h
    exact Nat.eq_of_mul_eq_mul_right (Nat.pow_pos (by omega)) h
  · intro h; rw [h]
theorem div_bits {x y : Nat} (hx : x < 256) (hy : y < 256) : ∀ r, r ≤ 8 → (x / 2 ^ (8 - r) = y / 2 ^ (8 - r) ↔ ∀ j, j < r → x / 2 ^ (7 - j) % 2 = y / 2 ^ (7 - j) % 2)
  | 0, _ => by
    constructor
    · intro _ j hj; omega
    · intro _; rw [Nat.div_eq_of_lt hx, Nat.div_eq_of_lt hy]
  | r + 1, hr => by
    have ih := div_bits hx hy r (by omega)
    have e1 : ∀ z, z / 2 ^ (8 - r) = z / 2 ^ (7 - r) / 2 := fun z => by rw [show 8 - r = (7 - r) + 1 by omega, Nat.pow_succ, Nat.div_div_eq_div_mul]
    rw [e1, e1] at ih
    rw [show 8 - (r + 1) = 7 - r by omega]
    constructor
    · intro h j hj
      by_cases hjr : j = r
      · subst hjr; rw [h]
      · exact ih.1 (by rw [h]) j (by omega)
    · intro h
      have h1 := ih.2 fun j hj => h j (by omega)
      have h2 := h r (by omega)
      omega
theorem keepH_bits {x y r : Nat} (hx : x < 256) (hy : y < 256) (hr : r ≤ 8) : keepH x r = keepH y r ↔ ∀ j, j < r → x / 2 ^ (7 - j) % 2 = y / 2 ^ (7 - j) % 2 := keepH_eq.trans (div_bits hx hy r hr)
/-- what is left of two bytes' difference, of which r bits count -/
def zInt (x y : UInt8) (r : Nat) : Int := bits BinOp.and IntKind.u8 (bits BinOp.xor IntKind.u8 (x.toNat : Int) (y.toNat : Int)) (maskN r : Nat)
theorem xor_nat (x y : UInt8) : bits BinOp.xor IntKind.u8 (x.toNat : Int) (y.toNat : Int) = (((x ^^^ y).toNat : Nat) : Int) := by
  have hx := UInt8.toNat_lt x
  have hy := UInt8.toNat_lt y
  have hz := UInt8.toNat_lt (x ^^^ y)
  have e : ∀ u : UInt8, (BitVec.ofInt 8 (u.toNat : Int)).toNat = u.toNat := fun u => by
    have := UInt8.toNat_lt u
    rw [BitVec.toNat_ofInt]
    omega
  have e2 : (BitVec.ofInt 8 (x.toNat : Int) ^^^ BitVec.ofInt 8 (y.toNat : Int)).toNat = (x ^^^ y).toNat := by
    rw [BitVec.toNat_xor, e, e, UInt8.toNat_xor]
  show IntKind.u8.wrap (((BitVec.ofInt 8 (x.toNat : Int) ^^^ BitVec.ofInt 8 (y.toNat : Int)).toNat : Nat) : Int) = _
  rw [e2, wrap_u8 _ (by omega) (by omega)]
theorem xor_zero {a b : Nat} (h : a ^^^ b = 0) : a = b := by
  have h1 : a ^^^ b ^^^ b = b := by rw [h, Nat.zero_xor]
  rw [Nat.xor_assoc, Nat.xor_self, Nat.xor_zero] at h1
  exact h1
theorem zInt_eq (x y : UInt8) (r : Nat) (hr : r ≤ 8) : (zInt x y r = 0) ↔ keepH x.toNat r = keepH y.toNat r := by
  unfold zInt
  rw [xor_nat, mask_keep _ _ hr, keepH_eq]
  unfold keepH
  rw [UInt8.toNat_xor]
  constructor
  · intro h
    have h1 : (x.toNat ^^^ y.toNat) / 2 ^ (8 - r) = 0 := by
      have h2 : (x.toNat ^^^ y.toNat) / 2 ^ (8 - r) * 2 ^ (8 - r) = 0 := by omega
      rcases Nat.mul_eq_zero.1 h2 with h3 | h3
      · exact h3
      · exact absurd h3 (Nat.ne_of_gt (Nat.pow_pos (by omega)))
    rw [← Nat.shiftRight_eq_div_pow, Nat.shiftRight_xor_distrib] at h1
    rw [← Nat.shiftRight_eq_div_pow, ← Nat.shiftRight_eq_div_pow]
    exact xor_zero h1
  · intro h
    have h1 : (x.toNat ^^^ y.toNat) / 2 ^ (8 - r) = 0 := by
      rw [← Nat.shiftRight_eq_div_pow, Nat.shiftRight_xor_distrib]
      rw [← Nat.shiftRight_eq_div_pow, ← Nat.shiftRight_eq_div_pow] at h
      rw [h]; exact Nat.xor_self _
    rw [h1]; simp
/-- the first bits of the pairs are the same -/
def okP (bits : Int) (l : List (UInt8 × UInt8)) : Prop := ∀ q, q < l.length → zInt (l.getD q (0, 0)).1 (l.getD q (0, 0)).2 (clampN (bits - 8 * q)) = 0
theorem okP_nil (bits : Int) : okP bits [] := fun q h => absurd h (by simp)
theorem okP_next {bits : Int} {l : List (UInt8 × UInt8)} {x : UInt8 × UInt8} (h : okP bits l) (hx : zInt x.1 x.2 (clampN (bits - 8 * l.length)) = 0) : okP bits (l ++ [x]) := by
  intro q hq
  rw [List.length_append, List.length_singleton] at hq
  by_cases he : q < l.length
  · have := h q he
    simp only [List.getD, List.getElem?_append_left he] at this ⊢
    exact this
  · obtain rfl : q = l.length := by omega
    simp only [List.getD, List.getElem?_concat_length, Option.getD_some]
    exact hx
theorem okP_bad {bits : Int} {l : List (UInt8 × UInt8)} {x : UInt8 × UInt8} (hx : zInt x.1 x.2 (clampN (bits - 8 * l.length)) ≠ 0) : ¬ okP bits (l ++ [x]) := by
  intro h
  have := h l.length (by simp)
  simp only [List.getD, List.getElem?_concat_length, Option.getD_some] at this
  exact hx this
theorem okP_take {bits : Int} {l : List (UInt8 × UInt8)} (h : okP bits l) (k : Nat) : okP bits (l.take k) := by
  intro q hq
  rw [List.length_take] at hq
  have := h q (by omega)
  simp only [List.getD, List.getElem?_take] at this ⊢
  rw [if_pos (by omega)]
  exact this
theorem okP_has {a b : List UInt8} {bits : Int} (hr : rightP a.length bits = true) (hl : a.length = b.length) : hasP a bits b = true ↔ okP bits (a.zip b) := by
  obtain ⟨hlen, hb0, hb8⟩ := right_len hr
  have hz : (a.zip b).length = a.length := by rw [List.length_zip]; omega
  have hget : ∀ q, q < a.length → (a.zip b).getD q (0, 0) = (a.getD q 0, b.getD q 0) := fun q hq => by
    have hqb : q < b.length := by omega
    have hqz : q < (a.zip b).length := by rw [hz]; exact hq
    simp [List.getD, List.getElem?_eq_getElem hq, List.getElem?_eq_getElem hqb, List.getElem?_eq_getElem hqz]
  have hk : ∀ q, q < a.length → (zInt (a.getD q 0) (b.getD q 0) (clampN (bits - 8 * q)) = 0 ↔ ∀ j, j < clampN (bits - 8 * q) → bitAt b (8 * q + j) = bitAt a (8 * q + j)) := fun q hq => by
    rw [zInt_eq _ _ _ (clampN_le _), keepH_bits (UInt8.toNat_lt _) (UInt8.toNat_lt _) (clampN_le _)]
    have hc := clampN_le (bits - 8 * q)
    constructor
    · intro h j hj
      have := h j hj
      unfold bitAt
      rw [show (8 * q + j) / 8 = q by omega, show (8 * q + j) % 8 = j by omega]
      exact this.symm
    · intro h j hj
      have := h j hj
      unfold bitAt at this
      rw [show (8 * q + j) / 8 = q by omega, show (8 * q + j) % 8 = j by omega] at this
      exact this.symm
  unfold hasP
  rw [hr, show (b.length == a.length) = true by simpa using hl.symm]
  simp only [Bool.true_and, List.all_eq_true, List.mem_range, beq_iff_eq]
  constructor
  · intro h q hq
    rw [hz] at hq
    rw [hget q hq]
    refine (hk q hq).2 fun j hj => h _ ?_
    unfold clampN at hj; omega
  · intro h i hi
    have hq : i / 8 < a.length := by omega
    have h1 := h (i / 8) (by rw [hz]; exact hq)
    rw [hget _ hq] at h1
    have h2 := (hk _ hq).1 h1 (i % 8) (by unfold clampN; omega)
    rw [show 8 * (i / 8) + i % 8 = i by omega] at h2
    exact h2
theorem has_results (W : World) (b : Nat) (r : Bool) (h : W.cell? ⟨b, 0, none⟩ = some (.bool r)) (T : Array Value) (h2 : T.getD 4 undef = .pointer (some ⟨b, 0, none⟩)) :
    (results Try.f30 T).run Try.prog W = .ok (.bool r) W := by
  have e2 : T[4]?.getD undef = .pointer (some ⟨b, 0, none⟩) := by simpa using h2
  simp [results, Try.results30, go_sem, e2, h]
set_option maxHeartbeats 8000000 in
theorem ahas_any (a b : List UInt8) (ad bd : Option Addr) (cp cb : Nat) (bits : Int) (w : World) (ha : Bytes w (.slice ad a.length cp) a) (hb : Bytes w (.slice bd b.length cb) b) (hac : a.length ≤ cp) (hcm : cp ≤ maxLen) (hbc : b.length ≤ cb) (hbm : cb ≤ maxLen) (hal : a.length ≤ 1000) (hbl : b.length ≤ 1000) :
    Calls Try.prog 30 #[.agg #[.slice ad a.length cp, .int .i64 bits], .slice bd b.length cb] w (RightRet w (hasP a bits b)) := by
  have e0 := heap_alloc_new w (.cells #[.slice ad a.length cp, .int .i64 bits] 29)
  have e1 := heap_alloc_new (w.alloc (.cells #[.slice ad a.length cp, .int .i64 bits] 29)) (.cells #[.bool false] 4)
  have s1 : (w.alloc (.cells #[.slice ad a.length cp, .int .i64 bits] 29)).heap.size = w.heap.size + 1 := by simp
  rw [s1] at e1
  have k0 := (below_one (w := w.alloc (.cells #[.slice ad a.length cp, .int .i64 bits] 29)) (.cells #[.bool false] 4)).block w.heap.size (by rw [s1]; omega)
  rw [e0] at k0
  have HK0 := Lib.hid k0
  have HK1 := Lib.hid e1
  have HB0 : Hid (Below w.heap.size w ((w.alloc (.cells #[.slice ad a.length cp, .int .i64 bits] 29)).alloc (.cells #[.bool false] 4))) := Lib.hid (((Below.refl _ _).alloc (Nat.le_refl _) _).alloc (by simp) _)
  have c0 : (((w.alloc (.cells #[.slice ad a.length cp, .int .i64 bits] 29)).alloc (.cells #[.bool false] 4))).cell? ⟨w.heap.size, 0, none⟩ = some (.slice ad a.length cp) := cell_of k0 0 rfl
  have c1 : (((w.alloc (.cells #[.slice ad a.length cp, .int .i64 bits] 29)).alloc (.cells #[.bool false] 4))).cell? ⟨w.heap.size, 1, none⟩ = some (.int .i64 bits) := cell_of k0 1 rfl
  have HVA := Lib.hid ha
  have HVB := Lib.hid hb
  have hali : (a.length : Int) ≤ 1000 := by omega
  have hbli : (b.length : Int) ≤ 1000 := by omega
  clear e0 e1 s1 k0 ha hb
  cases hr : rightP a.length bits with
  | false =>
    have HR : Hid (hasP a bits b = false) := Lib.hid (by unfold hasP; rw [hr]; rfl)
    have HRI := Lib.hid (aright_v ad a.length cp bits (by omega) false hr)
    clear hr
    (refine calls_of_wp_marks Try.func30 rfl ?_; simp only [Try.ntmps30, List.size_toArray, List.length_cons, List.length_nil, Nat.reduceAdd, Nat.reduceSub, Array.replicate_succ, Array.replicate_zero, List.push_toArray, List.append_toArray, List.nil_append, List.cons_append])
    go_wp2_with (first | (go_at_call 29; ((with_reducible refine (HRI.out _).mono ?_); rintro e w2 ⟨rfl, hb2⟩; have hx0 := (hb2.block _ (by simp only [World.size_alloc]; omega)).trans HK0.out; have hx1 := (hb2.block _ (by simp only [World.size_alloc]; omega)).trans HK1.out; have HX0 := Lib.hid hx0; have HX1 := Lib.hid hx1; have HB := Lib.hid (Below.next HB0.out hb2); have hsz : w.heap.size + 2 ≤ w2.heap.size := (by have := hb2.size; simp only [World.size_alloc] at this; omega); have c0 : w2.cell? ⟨w.heap.size, 0, none⟩ = some (.slice ad a.length cp) := cell_of hx0 0 rfl; have c1 : w2.cell? ⟨w.heap.size, 1, none⟩ = some (.int .i64 bits) := cell_of hx0 1 rfl; have cA : ∀ o, (w2.alloc o).cell? ⟨w.heap.size, 0, none⟩ = some (.slice ad a.length cp) := fun o => cell_of (((below_one o).block _ (Array.getElem?_eq_some_iff.1 hx0).1).trans hx0) 0 rfl; have d0 : w2.cell? ⟨w.heap.size + 1, 0, none⟩ = some (.bool false) := cell_of hx1 0 rfl; have g1 := fun i => free_of hx1 i; clear hb2 hx0 hx1)) | fail)
    refine postM_ret (has_results _ _ false (World.cell?_setCell_same' _ _ _ (by rw [d0]; rfl)) _ rfl) rfl ⟨ret_bool HR.out.symm, HB.out.setCell (by simp) _⟩
  | true =>
    by_cases hlen : b.length = a.length
    · have hne : ((b.length : Int) != a.length) = false := bneq_i (by omega)
      have HRI := Lib.hid (aright_v ad a.length cp bits (by omega) true hr)
      have HOK := Lib.hid (okP_has (b := b) hr hlen.symm)
      obtain ⟨hlen4, hb0, hb8⟩ := right_len hr
      have HAT := Lib.hid (bytes_cell HVA.out (by omega))
      have HBT := Lib.hid (bytes_cell HVB.out (by omega))
      have H0 : Hid (0 < a.length) := Lib.hid (by omega)
      clear hr hlen4
      (refine calls_of_wp_marks Try.func30 rfl ?_; simp only [Try.ntmps30, List.size_toArray, List.length_cons, List.length_nil, Nat.reduceAdd, Nat.reduceSub, Array.replicate_succ, Array.replicate_zero, List.push_toArray, List.append_toArray, List.nil_append, List.cons_append])
      go_wp2_with (first | (go_at_call 29; ((with_reducible refine (HRI.out _).mono ?_); rintro e w2 ⟨rfl, hb2⟩; have hx0 := (hb2.block _ (by simp only [World.size_alloc]; omega)).trans HK0.out; have hx1 := (hb2.block _ (by simp only [World.size_alloc]; omega)).trans HK1.out; have HX0 := Lib.hid hx0; have HX1 := Lib.hid hx1; have HB := Lib.hid (Below.next HB0.out hb2); have hsz : w.heap.size + 2 ≤ w2.heap.size := (by have := hb2.size; simp only [World.size_alloc] at this; omega); have c0 : w2.cell? ⟨w.heap.size, 0, none⟩ = some (.slice ad a.length cp) := cell_of hx0 0 rfl; have c1 : w2.cell? ⟨w.heap.size, 1, none⟩ = some (.int .i64 bits) := cell_of hx0 1 rfl; have cA : ∀ o, (w2.alloc o).cell? ⟨w.heap.size, 0, none⟩ = some (.slice ad a.length cp) := fun o => cell_of (((below_one o).block _ (Array.getElem?_eq_some_iff.1 hx0).1).trans hx0) 0 rfl; have d0 : w2.cell? ⟨w.heap.size + 1, 0, none⟩ = some (.bool false) := cell_of hx1 0 rfl; have g1 := fun i => free_of hx1 i; clear hb2 hx0 hx1)) | (go_at_call 44; ((with_reducible refine (pairs_any _ _ _ _ _ _ _).mono ?_); rintro e w3 ⟨rfl, rfl⟩)) | fail)
      obtain ⟨bk, off, rfl, hca⟩ := HAT.out
      obtain ⟨bl, ofl, rfl, hcb⟩ := HBT.out
      obtain ⟨L, hL⟩ : ∃ L, w2.heap.size = L := ⟨_, rfl⟩
      rw [hL] at hsz ⊢
      have eL := heap_alloc_new w2 (.cells #[.int .i64 bits] 3)
      have eA := heap_alloc_new (w2.alloc (.cells #[.int .i64 bits] 3)) (.cells #[.slice (some ⟨bk, off, none⟩) a.length cp] 23)
      have eB := heap_alloc_new ((w2.alloc (.cells #[.int .i64 bits] 3)).alloc (.cells #[.slice (some ⟨bk, off, none⟩) a.length cp] 23)) (.cells #[.slice (some ⟨bl, ofl, none⟩) a.length cb] 23)
      simp only [World.size_alloc, hL] at eL eA eB
      have hb5 : Below (L + 2) ((w2.alloc (.cells #[.int .i64 bits] 3)).alloc (.cells #[.slice (some ⟨bk, off, none⟩) a.length cp] 23)) (((w2.alloc (.cells #[.int .i64 bits] 3)).alloc (.cells #[.slice (some ⟨bk, off, none⟩) a.length cp] 23)).alloc (.cells #[.slice (some ⟨bl, ofl, none⟩) a.length cb] 23)) := (Below.refl _ _).alloc (by simp [hL]) _
      have hb4 : Below (L + 1) (w2.alloc (.cells #[.int .i64 bits] 3)) ((w2.alloc (.cells #[.int .i64 bits] 3)).alloc (.cells #[.slice (some ⟨bk, off, none⟩) a.length cp] 23)) := (Below.refl _ _).alloc (by simp [hL]) _
      have hb3 : Below L w2 (w2.alloc (.cells #[.int .i64 bits] 3)) := (Below.refl _ _).alloc (by rw [hL]; exact Nat.le_refl _) _
      obtain ⟨W0, hW0⟩ : ∃ W0, ((w2.alloc (.cells #[.int .i64 bits] 3)).alloc (.cells #[.slice (some ⟨bk, off, none⟩) a.length cp] 23)).alloc (.cells #[.slice (some ⟨bl, ofl, none⟩) a.length cb] 23) = W0 := ⟨_, rfl⟩
      have hs0 : W0.heap.size = L + 1 + 1 + 1 := by rw [← hW0]; simp [hL]
      rw [hW0] at eB hb5 ⊢
      have fL := (hb5.block L (by omega)).trans ((hb4.block L (by omega)).trans eL)
      have fA := (hb5.block (L + 1) (by omega)).trans eA
      have fR : W0.heap[w.heap.size + 1]? = some (.cells #[.bool false] 4 (0, 0)) := (hb5.block _ (by omega)).trans ((hb4.block _ (by omega)).trans ((hb3.block _ (by omega)).trans HX1.out))
      have hB0 : Below w.heap.size w W0 := HB.out.trans (((hb3.mono (by omega)).trans (hb4.mono (by omega))).trans (hb5.mono (by omega)))
      have HK : Hid _ := Lib.hid (pairs_stops Fence.wide (9 - 1) (openF_wide _) rfl (by decide) (L + 1) (L + 1 + 1) w.heap.size bk off bl ofl cp cb a b hlen.symm hal W0 (by omega) (by omega) (by omega) (cell_of fA 0 rfl) (by rw [hlen]; exact cell_of eB 0 rfl)
        ⟨World.block_lt_of_cell? w _ (hca 0 H0.out), fun i hi => (hB0.cell (p := ⟨bk, off + i, none⟩) (World.block_lt_of_cell? w _ (hca i hi))).trans (hca i hi)⟩
        ⟨World.block_lt_of_cell? w _ (hcb 0 (by have := H0.out; omega)), fun i hi => (hB0.cell (p := ⟨bl, ofl + i, none⟩) (World.block_lt_of_cell? w _ (hcb i hi))).trans (hcb i hi)⟩)
      refine wpIn_wide.1 (wpIn_rangeFunc_ownG (n := 9) rfl (by decide) (gf := 47) (lb := #[.pointer (some ⟨L + 1, 0, none⟩), .pointer (some ⟨L + 1 + 1, 0, none⟩)]) rfl trivial (enters_of Try.func47 (by kernel_rfl) rfl)
        HK.out kpB_t (kpB_b (by omega) (by omega) (by omega)) (Below.refl _ _) (fun _ => rfl)
        (fun pre W => (okP bits pre ∧ W.cell? ⟨L, 0, none⟩ = some (.int .i64 (bits - 8 * pre.length)) ∧ W.frozen? ⟨L, 0, none⟩ = false ∧ W.cell? ⟨w.heap.size + 1, 0, none⟩ = some (.bool false) ∧ W.frozen? ⟨w.heap.size + 1, 0, none⟩ = false) ∧ Below w.heap.size w W)
        (fun c pre W => (c = .ret ∧ ¬ okP bits pre ∧ W.cell? ⟨w.heap.size + 1, 0, none⟩ = some (.bool false)) ∧ Below w.heap.size w W)
        (OwnFrom.and (Own.from (fun s A B row hs hg hr => ⟨hs.1, cell_kept hs.2.1 hg hr, (frozen_kept hs.2.1 hg hr).trans hs.2.2.1, cell_kept hs.2.2.2.1 hg hr, (frozen_kept hs.2.2.2.1 hg hr).trans hs.2.2.2.2⟩) _) (ownFrom_below (Nat.le_refl _) (by omega)))
        (fun c => OwnFrom.and (Own.from (fun s A B row hs hg hr => ⟨hs.1, hs.2.1, cell_kept hs.2.2 hg hr⟩) _) (ownFrom_below (Nat.le_refl _) (by omega)))
        ⟨⟨okP_nil _, by simpa using cell_of fL 0 rfl, free_of fL 0, cell_of fR 0 rfl, free_of fR 0⟩, hB0⟩ ?a1 ?assign ?body ?done ?stop)
      case assign =>
        intro l x W K hK
        gi_wp2
        exact hK
      case body =>
        rintro l pre x W ⟨⟨hok, hcl, hfl, hcr, hfr⟩, hB⟩ hpre
        obtain ⟨lv, hlv⟩ : ∃ lv, bits - 8 * (pre.length : Int) = lv := ⟨_, rfl⟩
        obtain ⟨mk, hmk⟩ : ∃ m, maskN (clampN lv) = m := ⟨_, rfl⟩
        rw [hlv] at hcl
        have HM : Hid (∀ w, CallsIn (Fence.wide.inRound l) (9 - 1 - 1 - 1) Try.prog 37 #[.int .i64 lv] w fun e w' => e = .returned (.int .u8 (mk : Int)) ∧ w' = w) := Lib.hid (fun w => CallsIn.inRound l (callsIn_wide.2 (by rw [← hmk]; exact mask_any _ (by omega) (by omega) w)))
        have HZ : Hid (zInt x.1 x.2 (clampN (bits - 8 * pre.length)) = Go.bits BinOp.and IntKind.u8 (Go.bits BinOp.xor IntKind.u8 (x.1.toNat : Int) (x.2.toNat : Int)) (mk : Int)) := Lib.hid (by rw [hlv, ← hmk]; rfl)
        obtain ⟨z, hz⟩ : ∃ z, Go.bits BinOp.and IntKind.u8 (Go.bits BinOp.xor IntKind.u8 (x.1.toNat : Int) (x.2.toNat : Int)) (mk : Int) = z := ⟨_, rfl⟩
        have HZ2 : Hid (zInt x.1 x.2 (clampN (bits - 8 * pre.length)) = z) := Lib.hid (HZ.out.trans hz)
        have hw := wrap_s64 (lv - 8) (by omega) (by omega)
        have HLV : Hid (lv - 8 = bits - 8 * ((pre ++ [x]).length : Nat)) := Lib.hid (by rw [List.length_append, List.length_singleton]; omega)
        have HOKP := Lib.hid hok
        have HBW := Lib.hid hB
        have HLN : Hid (w.heap.size + 2 ≤ L) := Lib.hid hsz
        clear hlv hmk hok hB HZ hsz hpre hs0
        by_cases h0 : z = 0
        · have hz0 : (z != 0) = false := bneq_i h0
          gi_wp2_with (refine ⟨trivial, ?_⟩; gi_at_call 37; (with_reducible refine (HM.out _).mono ?_); rintro e w' ⟨rfl, rfl⟩)
          refine ⟨(KeepsOthers.setCell _ _ _).from _, kpB_set (by have := HLN.out; omega) (by omega) (by omega), ⟨okP_next HOKP.out (HZ2.out.trans h0), ?_, ?_, ?_, ?_⟩, HBW.out.setCell (by have := HLN.out; show w.heap.size ≤ L; omega) _⟩
          · rw [← HLV.out]; exact World.cell?_setCell_same' _ _ _ (by rw [hcl]; rfl)
          · rw [World.frozen?_setCell]; exact hfl
          · have hne : w.heap.size + 1 ≠ L := by have := HLN.out; omega
            rw [← hcr]; simp [World.cell?, heap_other hne]
          · rw [World.frozen?_setCell]; exact hfr
        · have hz0 : (z != 0) = true := bnne_i h0
          gi_wp2_with (refine ⟨trivial, ?_⟩; gi_at_call 37; (with_reducible refine (HM.out _).mono ?_); rintro e w' ⟨rfl, rfl⟩)
          exact ⟨(KeepsOthers.setCell _ _ _).from _, ⟨rfl, okP_bad (by rw [HZ2.out]; exact h0), World.cell?_setCell_same' _ _ _ (by rw [hcr]; rfl)⟩, HBW.out.setCell (by simp) _⟩
      case done =>
        rintro D ys W hD rfl ⟨⟨hok, hcl, hfl, hcr, hfr⟩, hB⟩ hK
        have HR : Hid (hasP a bits b = true) := Lib.hid (HOK.out.2 hok)
        clear hok hcl hfl
        go_wp2_with fail
        have hK' := (KeepsOthers.setCell W ⟨w.heap.size + 1, 0, none⟩ (.bool true)).same D _ hK rfl
        exact postM_mark hK' rfl (has_results _ _ true (mark_cell (o := .deferred none) hK' (World.cell?_setCell_same' _ _ _ (by rw [hcr]; rfl))) _ rfl) ⟨ret_bool HR.out.symm, mark_below (hB.setCell (by simp) _) (by omega) hK'⟩
      case stop =>
        rintro D c pre W hD ⟨k, hk, rfl⟩ ⟨⟨rfl, hno, hcr⟩, hB⟩ hK
        have HR : Hid (hasP a bits b = false) := Lib.hid (by
          cases h : hasP a bits b with
          | false => rfl
          | true => exact absurd (okP_take (HOK.out.1 h) k) hno)
        refine wpIn_wide.2 ?_
        go_wp2_with fail
        exact postM_mark hK rfl (has_results _ _ false (mark_cell (o := .deferred none) hK hcr) _ rfl) ⟨ret_bool HR.out.symm, mark_below hB (by omega) hK⟩
    · have hne : ((b.length : Int) != a.length) = true := bnne_i (by omega)
      have HR : Hid (hasP a bits b = false) := Lib.hid (by unfold hasP; rw [show (b.length == a.length) = false by simpa using hlen]; simp)
      have HRI := Lib.hid (aright_v ad a.length cp bits (by omega) true hr)
      clear hr hlen
      (refine calls_of_wp_marks Try.func30 rfl ?_; simp only [Try.ntmps30, List.size_toArray, List.length_cons, List.length_nil, Nat.reduceAdd, Nat.reduceSub, Array.replicate_succ, Array.replicate_zero, List.push_toArray, List.append_toArray, List.nil_append, List.cons_append])
      go_wp2_with (first | (go_at_call 29; ((with_reducible refine (HRI.out _).mono ?_); rintro e w2 ⟨rfl, hb2⟩; have hx0 := (hb2.block _ (by simp only [World.size_alloc]; omega)).trans HK0.out; have hx1 := (hb2.block _ (by simp only [World.size_alloc]; omega)).trans HK1.out; have HX0 := Lib.hid hx0; have HX1 := Lib.hid hx1; have HB := Lib.hid (Below.next HB0.out hb2); have hsz : w.heap.size + 2 ≤ w2.heap.size := (by have := hb2.size; simp only [World.size_alloc] at this; omega); have c0 : w2.cell? ⟨w.heap.size, 0, none⟩ = some (.slice ad a.length cp) := cell_of hx0 0 rfl; have c1 : w2.cell? ⟨w.heap.size, 1, none⟩ = some (.int .i64 bits) := cell_of hx0 1 rfl; have cA : ∀ o, (w2.alloc o).cell? ⟨w.heap.size, 0, none⟩ = some (.slice ad a.length cp) := fun o => cell_of (((below_one o).block _ (Array.getElem?_eq_some_iff.1 hx0).1).trans hx0) 0 rfl; have d0 : w2.cell? ⟨w.heap.size + 1, 0, none⟩ = some (.bool false) := cell_of hx1 0 rfl; have g1 := fun i => free_of hx1 i; clear hb2 hx0 hx1)) | fail)
      refine postM_ret (has_results _ _ false (World.cell?_setCell_same' _ _ _ (by rw [d0]; rfl)) _ rfl) rfl ⟨ret_bool HR.out.symm, HB.out.setCell (by simp) _⟩
theorem within_eq (a b : List UInt8) (m n : Int) : withinP a m b n = (rightP a.length m && (decide (n ≤ m) && hasP b n a)) := by
  unfold withinP hasP
  cases rightP a.length m <;> cases rightP b.length n <;> cases h : (a.length == b.length) <;> cases decide (n ≤ m) <;> simp
set_option maxHeartbeats 4000000 in
theorem awithin_any (a b : List UInt8) (ad bd : Option Addr) (cp cb : Nat) (m n : Int) (w : World) (ha : Bytes w (.slice ad a.length cp) a) (hb : Bytes w (.slice bd b.length cb) b) (hac : a.length ≤ cp) (hcm : cp ≤ maxLen) (hbc : b.length ≤ cb) (hbm : cb ≤ maxLen) (hal : a.length ≤ 1000) (hbl : b.length ≤ 1000) :
    Calls Try.prog 26 #[.agg #[.slice ad a.length cp, .int .i64 m], .agg #[.slice bd b.length cb, .int .i64 n]] w (RightRet w (withinP a m b n)) := by
  have e0 := heap_alloc_new w (.cells #[.slice ad a.length cp, .int .i64 m] 29)
  have e1 := heap_alloc_new (w.alloc (.cells #[.slice ad a.length cp, .int .i64 m] 29)) (.cells #[.slice bd b.length cb, .int .i64 n] 29)
  have s1 : (w.alloc (.cells #[.slice ad a.length cp, .int .i64 m] 29)).heap.size = w.heap.size + 1 := by simp
  rw [s1] at e1
  have k0 := (below_one (w := w.alloc (.cells #[.slice ad a.length cp, .int .i64 m] 29)) (.cells #[.slice bd b.length cb, .int .i64 n] 29)).block w.heap.size (by rw [s1]; omega)
  rw [e0] at k0
  have c0 : (((w.alloc (.cells #[.slice ad a.length cp, .int .i64 m] 29)).alloc (.cells #[.slice bd b.length cb, .int .i64 n] 29))).cell? ⟨w.heap.size, 0, none⟩ = some (.slice ad a.length cp) := cell_of k0 0 rfl
  have c1 : (((w.alloc (.cells #[.slice ad a.length cp, .int .i64 m] 29)).alloc (.cells #[.slice bd b.length cb, .int .i64 n] 29))).cell? ⟨w.heap.size, 1, none⟩ = some (.int .i64 m) := cell_of k0 1 rfl
  have c2 : (((w.alloc (.cells #[.slice ad a.length cp, .int .i64 m] 29)).alloc (.cells #[.slice bd b.length cb, .int .i64 n] 29))).cell? ⟨w.heap.size + 1, 0, none⟩ = some (.slice bd b.length cb) := cell_of e1 0 rfl
  have c3 : (((w.alloc (.cells #[.slice ad a.length cp, .int .i64 m] 29)).alloc (.cells #[.slice bd b.length cb, .int .i64 n] 29))).cell? ⟨w.heap.size + 1, 1, none⟩ = some (.int .i64 n) := cell_of e1 1 rfl
  have HB0 : Hid (Below w.heap.size w ((w.alloc (.cells #[.slice ad a.length cp, .int .i64 m] 29)).alloc (.cells #[.slice bd b.length cb, .int .i64 n] 29))) := Lib.hid (((Below.refl _ _).alloc (Nat.le_refl _) _).alloc (by simp) _)
  have HVA := Lib.hid ha
  have HVB := Lib.hid hb
  have HE := Lib.hid (within_eq a b m n)
  clear e0 e1 s1 k0 ha hb
  cases hr : rightP a.length m with
  | false =>
    have HR : Hid (withinP a m b n = false) := Lib.hid (by rw [HE.out, hr]; rfl)
    have HRI := Lib.hid (aright_v ad a.length cp m (by omega) false hr)
    clear hr
    go_enter Try.func26, Try.ntmps26
    go_wp2_with (first | (go_at_call 29; ((with_reducible refine (HRI.out _).mono ?_); rintro e w2 ⟨rfl, hb2⟩; have c0 := cell_keep4 c0 hb2; have c1 := cell_keep4 c1 hb2; have c2 := cell_keep4 c2 hb2; have c3 := cell_keep4 c3 hb2; have HB := Lib.hid (Below.next HB0.out hb2); clear hb2)) | fail)
    go_ret
    exact ⟨ret_bool HR.out.symm, HB.out⟩
  | true =>
    have HRI := Lib.hid (aright_v ad a.length cp m (by omega) true hr)
    by_cases hnm : n ≤ m
    · obtain ⟨h, hh⟩ : ∃ h, hasP b n a = h := ⟨_, rfl⟩
      have HR : Hid (withinP a m b n = h) := Lib.hid (by rw [HE.out, hr, hh, decide_eq_true hnm]; rfl)
      have HHA : Hid (∀ w, Bytes w (.slice bd b.length cb) b → Bytes w (.slice ad a.length cp) a → Calls Try.prog 30 #[.agg #[.slice bd b.length cb, .int .i64 n], .slice ad a.length cp] w fun e w' => e = .returned (.bool h) ∧ Below w.heap.size w w') :=
        Lib.hid (fun w h1 h2 => by rw [← hh]; exact ahas_any b a bd ad cb cp n w h1 h2 hbc hbm hac hcm hbl hal)
      clear hr hh
      go_enter Try.func26, Try.ntmps26
      go_wp2_with (first | (go_at_call 29; ((with_reducible refine (HRI.out _).mono ?_); rintro e w2 ⟨rfl, hb2⟩; have c0 := cell_keep4 c0 hb2; have c1 := cell_keep4 c1 hb2; have c2 := cell_keep4 c2 hb2; have c3 := cell_keep4 c3 hb2; have HB := Lib.hid (Below.next HB0.out hb2); clear hb2)) | (go_at_call 30; ((with_reducible refine (HHA.out _ (HVB.out.below HB.out) (HVA.out.below HB.out)).mono ?_); rintro e w3 ⟨rfl, hb3⟩; have HB2 := Lib.hid (Below.next HB.out hb3); clear hb3)) | fail)
      go_ret
      exact ⟨ret_bool HR.out.symm, HB2.out⟩
    · have HR : Hid (withinP a m b n = false) := Lib.hid (by rw [HE.out, decide_eq_false hnm]; simp)
      have hmn : m < n := by omega
      clear hr hnm
      go_enter Try.func26, Try.ntmps26
      go_wp2_with (first | (go_at_call 29; ((with_reducible refine (HRI.out _).mono ?_); rintro e w2 ⟨rfl, hb2⟩; have c0 := cell_keep4 c0 hb2; have c1 := cell_keep4 c1 hb2; have c2 := cell_keep4 c2 hb2; have c3 := cell_keep4 c3 hb2; have HB := Lib.hid (Below.next HB0.out hb2); clear hb2)) | fail)
      go_ret
      exact ⟨ret_bool HR.out.symm, HB.out⟩
end Go.Proofs.Ytlmmnjoincmgcaa

namespace Go.Proofs.Ytlmmnjoincmgcaa
set_option linter.unusedVariables false
set_option linter.unusedSimpArgs false
set_option maxRecDepth 100000
open Go.RowKit
theorem keep_bit {c r j : Nat} (hc : c < 256) (hr : r ≤ 8) (hj : j < 8) : keepH c r / 2 ^ (7 - j) % 2 = if j < r then c / 2 ^ (7 - j) % 2 else 0 := by
  have key : ∀ c : Fin 256, ∀ r : Fin 9, ∀ j : Fin 8, keepH c.val r.val / 2 ^ (7 - j.val) % 2 = if j.val < r.val then c.val / 2 ^ (7 - j.val) % 2 else 0 := by decide +kernel
  exact key ⟨c, hc⟩ ⟨r, by omega⟩ ⟨j, hj⟩
theorem bit_two (a : List UInt8) (j : Nat) : bitAt a j = 0 ∨ bitAt a j = 1 := by
  unfold bitAt
  omega
theorem bit_plain (a : List UInt8) (m : Nat) {j : Nat} (hj : j < 8 * a.length) : bitAt (plainS a m) j = if j < m then bitAt a j else 0 := by
  unfold bitAt
  rw [plainS_get (by omega), ← keepH_min, keep_bit (UInt8.toNat_lt _) (by omega) (by omega)]
  by_cases h : j < m
  · rw [if_pos h, if_pos (by omega)]
  · rw [if_neg h, if_neg (by omega)]
/-- the same first bits -/
def Agr (a b : List UInt8) (m : Nat) : Prop := ∀ j, j < m → bitAt a j = bitAt b j
theorem Agr.symm {a b : List UInt8} {m : Nat} (h : Agr a b m) : Agr b a m := fun j hj => (h j hj).symm
theorem Agr.trans {a b c : List UInt8} {m : Nat} (h : Agr a b m) (h2 : Agr b c m) : Agr a c m := fun j hj => (h j hj).trans (h2 j hj)
theorem Agr.mono {a b : List UInt8} {m n : Nat} (h : Agr a b m) (hn : n ≤ m) : Agr a b n := fun j hj => h j (by omega)
theorem Agr.refl (a : List UInt8) (m : Nat) : Agr a a m := fun _ _ => rfl
instance (a b : List UInt8) (m : Nat) : Decidable (Agr a b m) := inferInstanceAs (Decidable (∀ j, j < m → bitAt a j = bitAt b j))
theorem byte_ext {x y : Nat} (hx : x < 256) (hy : y < 256) (h : ∀ j, j < 8 → x / 2 ^ (7 - j) % 2 = y / 2 ^ (7 - j) % 2) : x = y := by
  have := (keepH_bits hx hy (Nat.le_refl 8)).2 h
  simpa [keepH] using this
theorem bits_ext {a b : List UInt8} (hl : a.length = b.length) (h : Agr a b (8 * a.length)) : a = b := by
  apply List.ext_getElem hl
  intro q h1 h2
  have : (a.getD q 0).toNat = (b.getD q 0).toNat := byte_ext (UInt8.toNat_lt _) (UInt8.toNat_lt _) fun j hj => by
    have := h (8 * q + j) (by omega)
    unfold bitAt at this
    rw [show (8 * q + j) / 8 = q by omega, show (8 * q + j) % 8 = j by omega] at this
    exact this
  have h3 := UInt8.toNat_inj.1 this
  simpa [List.getD, List.getElem?_eq_getElem h1, List.getElem?_eq_getElem h2] using h3
theorem plain_ext {a b : List UInt8} {m : Nat} (ha : plainS a m = a) (hb : plainS b m = b) (hl : a.length = b.length) (h : Agr a b m) : a = b := by
  refine bits_ext hl fun j hj => ?_
  have h1 := bit_plain a m hj
  have h2 := bit_plain b m (j := j) (by omega)
  rw [ha] at h1
  rw [hb] at h2
  by_cases hm : j < m
  · exact h j hm
  · rw [h1, h2, if_neg hm, if_neg hm]
theorem plain_agr (a : List UInt8) {m : Nat} (hm : m ≤ 8 * a.length) : Agr (plainS a m) a m := fun j hj => by
  rw [bit_plain a m (by omega), if_pos hj]
theorem plain_plain (a : List UInt8) (m : Nat) : plainS (plainS a m) m = plainS a m := by
  have hl : (plainS (plainS a m) m).length = (plainS a m).length := plainS_len _ _
  refine bits_ext hl fun j hj => ?_
  rw [hl] at hj
  rw [bit_plain _ m hj]
  by_cases h : j < m
  · rw [if_pos h]
  · rw [if_neg h, bit_plain a m (by rw [plainS_len] at hj; exact hj), if_neg h]
theorem plain_full (a : List UInt8) : plainS a (8 * a.length) = a := by
  have hl : (plainS a (8 * a.length)).length = a.length := plainS_len _ _
  refine bits_ext hl fun j hj => ?_
  rw [hl] at hj
  rw [bit_plain _ _ hj, if_pos hj]
theorem hasP_iff {a b : List UInt8} {m : Nat} (hr : rightP a.length m = true) : hasP a m b = true ↔ b.length = a.length ∧ Agr b a m := by
  unfold hasP
  rw [hr]
  simp only [Bool.true_and, Bool.and_eq_true, beq_iff_eq, List.all_eq_true, List.mem_range, Int.toNat_natCast]
  exact Iff.rfl
theorem withinP_iff {a b : List UInt8} {m n : Nat} (hl : a.length = b.length) (ha : rightP a.length m = true) (hb : rightP b.length n = true) : withinP a m b n = true ↔ n ≤ m ∧ Agr a b n := by
  unfold withinP
  rw [ha, hb]
  simp only [Bool.true_and, Bool.and_eq_true, beq_iff_eq, decide_eq_true_eq]
  rw [hasP_iff hb]
  constructor
  · rintro ⟨_, h1, _, h2⟩; exact ⟨by omega, h2⟩
  · rintro ⟨h1, h2⟩; exact ⟨hl, by omega, hl, h2⟩
theorem rightP_nat {n m : Nat} : rightP n m = true ↔ (n = 4 ∨ n = 16) ∧ m ≤ 8 * n := by
  unfold rightP
  simp only [Bool.and_eq_true, Bool.or_eq_true, beq_iff_eq, decide_eq_true_eq]
  constructor
  · rintro ⟨h, _, h2⟩; exact ⟨h, by omega⟩
  · rintro ⟨h, h2⟩; exact ⟨h, by omega, by omega⟩
/-! the order -/
theorem bl_irr (a : List UInt8) : Op.bytesLess a a = false := by
  induction a with
  | nil => rfl
  | cons x a ih => simp [Op.bytesLess, ih]
theorem bl_trans : ∀ {a b c : List UInt8}, Op.bytesLess a b = true → Op.bytesLess b c = true → Op.bytesLess a c = true
  | [], [], _, h, _ => by simp [Op.bytesLess] at h
  | [], _ :: _, [], _, h => by simp [Op.bytesLess] at h
  | [], _ :: _, _ :: _, _, _ => by simp [Op.bytesLess]
  | _ :: _, [], _, h, _ => by simp [Op.bytesLess] at h
  | _ :: _, _ :: _, [], _, h => by simp [Op.bytesLess] at h
  | x :: a, y :: b, z :: c, h, h2 => by
    simp only [Op.bytesLess, Bool.or_eq_true, Bool.and_eq_true, decide_eq_true_eq, beq_iff_eq] at h h2 ⊢
    rcases h with h | ⟨rfl, h⟩
    · rcases h2 with h2 | ⟨rfl, _⟩
      · exact .inl (UInt8.lt_trans h h2)
      · exact .inl h
    · rcases h2 with h2 | ⟨rfl, h2⟩
      · exact .inl h2
      · exact .inr ⟨rfl, bl_trans h h2⟩
theorem bl_total : ∀ {a b : List UInt8}, a.length = b.length → a ≠ b → Op.bytesLess a b = true ∨ Op.bytesLess b a = true
  | [], [], _, h => absurd rfl h
  | [], _ :: _, h, _ => by simp at h
  | _ :: _, [], h, _ => by simp at h
  | x :: a, y :: b, hl, h => by
    simp only [Op.bytesLess, Bool.or_eq_true, Bool.and_eq_true, decide_eq_true_eq, beq_iff_eq]
    by_cases e : x = y
    · subst e
      have := bl_total (a := a) (b := b) (by simpa using hl) (fun e => h (by rw [e]))
      rcases this with h | h
      · exact .inl (.inr ⟨rfl, h⟩)
      · exact .inr (.inr ⟨rfl, h⟩)
    · have h1 : x.toNat ≠ y.toNat := fun e2 => e (UInt8.toNat_inj.1 e2)
      have h2 : x.toNat < y.toNat ∨ y.toNat < x.toNat := by omega
      rcases h2 with h2 | h2
      · exact .inl (.inl (UInt8.lt_iff_toNat_lt.2 h2))
      · exact .inr (.inl (UInt8.lt_iff_toNat_lt.2 h2))
theorem byte_lt {x y r : Nat} (hx : x < 256) (hy : y < 256) (hr : r < 8) (h : ∀ j, j < r → x / 2 ^ (7 - j) % 2 = y / 2 ^ (7 - j) % 2) (h0 : x / 2 ^ (7 - r) % 2 = 0) (h1 : y / 2 ^ (7 - r) % 2 = 1) : x < y := by
  have e : x / 2 ^ (8 - r) = y / 2 ^ (8 - r) := (div_bits hx hy r (by omega)).2 h
  have s : 2 ^ (8 - r) = 2 * 2 ^ (7 - r) := by rw [show 8 - r = 7 - r + 1 by omega, Nat.pow_succ]; omega
  rw [s, Nat.mul_comm, ← Nat.div_div_eq_div_mul, ← Nat.div_div_eq_div_mul] at e
  have h2 : x / 2 ^ (7 - r) < y / 2 ^ (7 - r) := by omega
  rcases Nat.lt_or_ge x y with h3 | h3
  · exact h3
  · exact absurd (Nat.div_le_div_right (c := 2 ^ (7 - r)) h3) (by omega)
theorem bl_at : ∀ {a b : List UInt8} (q : Nat), q < a.length → a.length = b.length → (∀ i, i < q → a.getD i 0 = b.getD i 0) → (a.getD q 0).toNat < (b.getD q 0).toNat → Op.bytesLess a b = true
  | [], _, _, h, _, _, _ => by simp at h
  | _ :: _, [], _, _, h, _, _ => by simp at h
  | x :: a, y :: b, 0, _, _, _, h => by
    simp only [Op.bytesLess, Bool.or_eq_true, decide_eq_true_eq]
    exact .inl (UInt8.lt_iff_toNat_lt.2 (by simpa using h))
  | x :: a, y :: b, q + 1, hq, hl, he, h => by
    simp only [Op.bytesLess, Bool.or_eq_true, Bool.and_eq_true, decide_eq_true_eq, beq_iff_eq]
    refine .inr ⟨by simpa using he 0 (by omega), bl_at q (by simpa using hq) (by simpa using hl) (fun i hi => by simpa using he (i + 1) (by omega)) (by simpa using h)⟩
theorem bl_bit {a b : List UInt8} {k : Nat} (hl : a.length = b.length) (hk : k < 8 * a.length) (h : Agr a b k) (h0 : bitAt a k = 0) (h1 : bitAt b k = 1) : Op.bytesLess a b = true := by
  refine bl_at (k / 8) (by omega) hl (fun i hi => ?_) ?_
  · refine UInt8.toNat_inj.1 (byte_ext (UInt8.toNat_lt _) (UInt8.toNat_lt _) fun j hj => ?_)
    have := h (8 * i + j) (by omega)
    unfold bitAt at this
    rw [show (8 * i + j) / 8 = i by omega, show (8 * i + j) % 8 = j by omega] at this
    exact this
  · refine byte_lt (r := k % 8) (UInt8.toNat_lt _) (UInt8.toNat_lt _) (by omega) (fun j hj => ?_) h0 h1
    have := h (8 * (k / 8) + j) (by omega)
    unfold bitAt at this
    rw [show (8 * (k / 8) + j) / 8 = k / 8 by omega, show (8 * (k / 8) + j) % 8 = j by omega] at this
    exact this
theorem first_bit {a b : List UInt8} : ∀ {n : Nat}, ¬ Agr a b n → ∃ k, k < n ∧ Agr a b k ∧ bitAt a k ≠ bitAt b k
  | 0, h => absurd (fun j hj => by omega) h
  | n + 1, h => by
    by_cases h2 : Agr a b n
    · refine ⟨n, by omega, h2, fun e => h fun j hj => ?_⟩
      by_cases hj2 : j = n
      · rw [hj2]; exact e
      · exact h2 j (by omega)
    · obtain ⟨k, hk, h3, h4⟩ := first_bit h2
      exact ⟨k, by omega, h3, h4⟩
/-- a row as the law sees it -/
def Rw.key (r : Rw) : List UInt8 × Int × Int := (r.adr, r.bits, r.own)
def ltK (x y : List UInt8 × Int × Int) : Prop := beforeP x.1 x.2.1 y.1 y.2.1 = true
theorem ltK_irr (x : List UInt8 × Int × Int) : ¬ ltK x x := by simp [ltK, beforeP]
theorem ltK_trans {x y z : List UInt8 × Int × Int} (h : ltK x y) (h2 : ltK y z) : ltK x z := by
  unfold ltK beforeP at *
  by_cases e1 : x.1.length = y.1.length
  · rw [if_pos e1] at h
    by_cases e2 : y.1.length = z.1.length
    · rw [if_pos e2] at h2
      rw [if_pos (e1.trans e2)]
      by_cases f1 : x.1 = y.1
      · rw [if_pos f1] at h
        rw [f1]
        by_cases f2 : y.1 = z.1
        · rw [if_pos f2] at h2 ⊢
          simp only [decide_eq_true_eq] at *
          omega
        · rw [if_neg f2] at h2 ⊢
          exact h2
      · rw [if_neg f1] at h
        by_cases f2 : y.1 = z.1
        · rw [← f2, if_neg f1]; exact h
        · rw [if_neg f2] at h2
          have h3 := bl_trans h h2
          have f3 : x.1 ≠ z.1 := fun e => by rw [e, bl_irr] at h3; cases h3
          rw [if_neg f3]
          exact h3
    · rw [if_neg e2] at h2
      simp only [decide_eq_true_eq] at h2
      rw [if_neg (by omega)]
      simp only [decide_eq_true_eq]
      omega
  · rw [if_neg e1] at h
    simp only [decide_eq_true_eq] at h
    by_cases e2 : y.1.length = z.1.length
    · rw [if_neg (by omega)]
      simp only [decide_eq_true_eq]
      omega
    · rw [if_neg e2] at h2
      simp only [decide_eq_true_eq] at h2
      rw [if_neg (by omega)]
      simp only [decide_eq_true_eq]
      omega
theorem ltK_total {x y : List UInt8 × Int × Int} (h : ¬ (x.1 = y.1 ∧ x.2.1 = y.2.1)) : ltK x y ∨ ltK y x := by
  unfold ltK beforeP
  by_cases e1 : x.1.length = y.1.length
  · rw [if_pos e1, if_pos e1.symm]
    by_cases f1 : x.1 = y.1
    · rw [if_pos f1, if_pos f1.symm]
      simp only [decide_eq_true_eq]
      have : x.2.1 ≠ y.2.1 := fun e => h ⟨f1, e⟩
      omega
    · rw [if_neg f1, if_neg (fun e => f1 e.symm)]
      exact bl_total e1 f1
  · rw [if_neg e1, if_neg (fun e => e1 e.symm)]
    simp only [decide_eq_true_eq]
    omega
theorem ltK_ne {x y : List UInt8 × Int × Int} (h : ltK x y) : ¬ (x.1 = y.1 ∧ x.2.1 = y.2.1) := by
  rintro ⟨h1, h2⟩
  unfold ltK beforeP at h
  rw [h1, h2] at h
  simp at h
/-- two lists in order with the same things are the same -/
theorem sorted_ext {K : Type} {lt : K → K → Prop} (irr : ∀ x, ¬ lt x x) (tr : ∀ {x y z}, lt x y → lt y z → lt x z) : ∀ {xs ys : List K}, xs.Pairwise lt → ys.Pairwise lt → (∀ z, z ∈ xs ↔ z ∈ ys) → xs = ys
  | [], [], _, _, _ => rfl
  | [], y :: ys, _, _, h => absurd ((h y).2 (by simp)) (by simp)
  | x :: xs, [], _, _, h => absurd ((h x).1 (by simp)) (by simp)
  | x :: xs, y :: ys, h1, h2, h => by
    rw [List.pairwise_cons] at h1 h2
    have e : x = y := by
      rcases List.mem_cons.1 ((h x).1 (by simp)) with e | hx
      · exact e
      · rcases List.mem_cons.1 ((h y).2 (by simp)) with e | hy
        · exact e.symm
        · exact absurd (tr (h2.1 x hx) (h1.1 y hy)) (irr y)
    subst e
    congr 1
    refine sorted_ext irr tr h1.2 h2.2 fun z => ?_
    constructor
    · intro hz
      rcases List.mem_cons.1 ((h z).1 (List.mem_cons_of_mem _ hz)) with e | h3
      · subst e; exact absurd (h1.1 z hz) (irr z)
      · exact h3
    · intro hz
      rcases List.mem_cons.1 ((h z).2 (List.mem_cons_of_mem _ hz)) with e | h3
      · subst e; exact absurd (h2.1 z hz) (irr z)
      · exact h3
def Srt (vs : List Rw) : Prop := (vs.map Rw.key).Pairwise ltK
theorem srt_ext {vs : List Rw} {ks : List (List UInt8 × Int × Int)} (h1 : Srt vs) (h2 : ks.Pairwise ltK) (h : ∀ z, z ∈ vs.map Rw.key ↔ z ∈ ks) : vs.map Rw.key = ks := sorted_ext ltK_irr ltK_trans h1 h2 h
end Go.Proofs.Ytlmmnjoincmgcaa

namespace Go.Proofs.Ytlmmnjoincmgcaa
set_option linter.unusedVariables false
set_option linter.unusedSimpArgs false
set_option maxRecDepth 100000
open Go.RowKit
abbrev Ky := List UInt8 × Int × Int
def SameK (z : Ky) (a : List UInt8) (m : Int) : Prop := z.1 = a ∧ z.2.1 = m
instance (z : Ky) (a : List UInt8) (m : Int) : Decidable (SameK z a m) := inferInstanceAs (Decidable (_ ∧ _))
theorem isP_iff (r : Rw) (a : List UInt8) (m : Int) : isP r a m = true ↔ SameK r.key a m := by
  unfold isP SameK Rw.key
  simp only [Bool.and_eq_true, beq_iff_eq]
  exact And.comm
theorem srt_cons {r : Rw} {vs : List Rw} : Srt (r :: vs) ↔ (∀ z ∈ vs.map Rw.key, ltK r.key z) ∧ Srt vs := by
  unfold Srt
  rw [List.map_cons, List.pairwise_cons]
theorem del_mem : ∀ {vs : List Rw}, Srt vs → ∀ (a : List UInt8) (m : Int) (z : Ky), z ∈ (delV vs a m).1.map Rw.key ↔ z ∈ vs.map Rw.key ∧ ¬ SameK z a m
  | [], _, a, m, z => by simp [delV]
  | r :: vs, h, a, m, z => by
    obtain ⟨h1, h2⟩ := srt_cons.1 h
    unfold delV
    cases hp : isP r a m with
    | true =>
      rw [if_pos rfl]
      have hk := (isP_iff r a m).1 hp
      simp only [List.map_cons, List.mem_cons]
      constructor
      · intro hz
        refine ⟨.inr hz, fun hs => ltK_ne (h1 z hz) ⟨hk.1.trans hs.1.symm, hk.2.trans hs.2.symm⟩⟩
      · rintro ⟨rfl | hz, hn⟩
        · exact absurd hk hn
        · exact hz
    | false =>
      rw [if_neg (by simp)]
      have hk : ¬ SameK r.key a m := fun e => by rw [(isP_iff r a m).2 e] at hp; cases hp
      simp only [List.map_cons, List.mem_cons, del_mem h2 a m z]
      constructor
      · rintro (rfl | ⟨hz, hn⟩)
        · exact ⟨.inl rfl, hk⟩
        · exact ⟨.inr hz, hn⟩
      · rintro ⟨rfl | hz, hn⟩
        · exact .inl rfl
        · exact .inr ⟨hz, hn⟩
theorem del_srt : ∀ {vs : List Rw}, Srt vs → ∀ (a : List UInt8) (m : Int), Srt (delV vs a m).1
  | [], _, a, m => by simp [delV, Srt]
  | r :: vs, h, a, m => by
    obtain ⟨h1, h2⟩ := srt_cons.1 h
    unfold delV
    cases hp : isP r a m with
    | true => rw [if_pos rfl]; exact h2
    | false =>
      rw [if_neg (by simp)]
      exact srt_cons.2 ⟨fun z hz => h1 z ((del_mem h2 a m z).1 hz).1, del_srt h2 a m⟩
theorem del_was (vs : List Rw) (a : List UInt8) (m : Int) : (delV vs a m).2 = true ↔ ∃ z ∈ vs.map Rw.key, SameK z a m := by
  induction vs with
  | nil => simp [delV]
  | cons r vs ih =>
    unfold delV
    cases hp : isP r a m with
    | true => rw [if_pos rfl]; simp only [List.map_cons, List.mem_cons, true_iff]; exact ⟨r.key, .inl rfl, (isP_iff r a m).1 hp⟩
    | false =>
      rw [if_neg (by simp)]
      have hk : ¬ SameK r.key a m := fun e => by rw [(isP_iff r a m).2 e] at hp; cases hp
      simp only [ih, List.map_cons, List.mem_cons]
      constructor
      · rintro ⟨z, hz, hs⟩; exact ⟨z, .inr hz, hs⟩
      · rintro ⟨z, rfl | hz, hs⟩
        · exact absurd hs hk
        · exact ⟨z, hz, hs⟩
theorem take_while {α : Type} (p : α → Bool) : ∀ l : List α, l.take (l.takeWhile p).length = l.takeWhile p
  | [] => rfl
  | x :: l => by
    cases h : p x with
    | true => simp [List.takeWhile_cons, h, take_while p l]
    | false => simp [List.takeWhile_cons, h]
theorem drop_while {α : Type} (p : α → Bool) : ∀ l : List α, l.drop (l.takeWhile p).length = l.dropWhile p
  | [] => rfl
  | x :: l => by
    cases h : p x with
    | true => simp [List.takeWhile_cons, List.dropWhile_cons, h, drop_while p l]
    | false => simp [List.takeWhile_cons, List.dropWhile_cons, h]
theorem ahead_take (vs : List Rw) (a : List UInt8) (m : Int) : vs.take (aheadV vs a m) = vs.takeWhile (fun r => beforeP r.adr r.bits a m) := take_while _ vs
theorem ahead_drop (vs : List Rw) (a : List UInt8) (m : Int) : vs.drop (aheadV vs a m) = vs.dropWhile (fun r => beforeP r.adr r.bits a m) := drop_while _ vs
theorem put_mem {vs : List Rw} (h : Srt vs) (p : Rw) (z : Ky) : z ∈ (putV vs p).map Rw.key ↔ (z ∈ vs.map Rw.key ∧ ¬ SameK z p.adr p.bits) ∨ z = p.key := by
  rw [← del_mem h]
  unfold putV
  generalize (delV vs p.adr p.bits).1 = L
  have e : L.map Rw.key = (L.take (aheadV L p.adr p.bits)).map Rw.key ++ (L.drop (aheadV L p.adr p.bits)).map Rw.key := by rw [← List.map_append, List.take_append_drop]
  rw [e]
  simp only [List.map_append, List.mem_append, List.map_cons, List.map_nil, List.mem_singleton]
  constructor
  · rintro ((h | h) | h)
    · exact .inl (.inl h)
    · exact .inr h
    · exact .inl (.inr h)
  · rintro ((h | h) | h)
    · exact .inl (.inl h)
    · exact .inr h
    · exact .inl (.inr h)
theorem put_srt {vs : List Rw} (h : Srt vs) (p : Rw) : Srt (putV vs p) := by
  have h1 := del_srt h p.adr p.bits
  have h2 : ∀ z ∈ (delV vs p.adr p.bits).1.map Rw.key, ¬ SameK z p.adr p.bits := fun z hz => ((del_mem h _ _ z).1 hz).2
  unfold putV
  rw [ahead_take, ahead_drop]
  generalize (delV vs p.adr p.bits).1 = L at *
  have key : ∀ (L : List Rw), Srt L → (∀ z ∈ L.map Rw.key, ¬ SameK z p.adr p.bits) → Srt ((L.takeWhile (fun r => beforeP r.adr r.bits p.adr p.bits) ++ [p]) ++ L.dropWhile (fun r => beforeP r.adr r.bits p.adr p.bits)) ∧ (∀ z ∈ ((L.takeWhile (fun r => beforeP r.adr r.bits p.adr p.bits) ++ [p]) ++ L.dropWhile (fun r => beforeP r.adr r.bits p.adr p.bits)).map Rw.key, z ∈ L.map Rw.key ∨ z = p.key) := by
    intro L
    induction L with
    | nil => intro _ _; simp [Srt]
    | cons r L ih =>
      intro hs hn
      obtain ⟨h1, h2⟩ := srt_cons.1 hs
      obtain ⟨i1, i2⟩ := ih h2 (fun z hz => hn z (by simp only [List.map_cons, List.mem_cons]; exact .inr hz))
      cases hb : beforeP r.adr r.bits p.adr p.bits with
      | true =>
        simp only [List.takeWhile_cons, List.dropWhile_cons, hb, if_true, List.cons_append]
        refine ⟨srt_cons.2 ⟨fun z hz => ?_, i1⟩, fun z hz => ?_⟩
        · rcases i2 z hz with h3 | rfl
          · exact h1 z h3
          · exact hb
        · simp only [List.map_cons, List.mem_cons] at hz ⊢
          rcases hz with rfl | hz
          · exact .inl (.inl rfl)
          · rcases i2 z hz with h3 | h3
            · exact .inl (.inr h3)
            · exact .inr h3
      | false =>
        simp only [List.takeWhile_cons, List.dropWhile_cons, hb, Bool.false_eq_true, if_false, List.nil_append, List.singleton_append]
        have hp : ltK p.key r.key := by
          rcases ltK_total (x := p.key) (y := r.key) (fun e => hn r.key (by simp) ⟨e.1.symm, e.2.symm⟩) with h3 | h3
          · exact h3
          · have h4 : beforeP r.adr r.bits p.adr p.bits = true := h3
            rw [hb] at h4; cases h4
        refine ⟨srt_cons.2 ⟨fun z hz => ?_, hs⟩, fun z hz => ?_⟩
        · simp only [List.map_cons, List.mem_cons] at hz
          rcases hz with rfl | hz
          · exact hp
          · exact ltK_trans hp (h1 z hz)
        · rw [List.map_cons, List.mem_cons] at hz
          rcases hz with rfl | hz
          · exact .inr rfl
          · exact .inl hz
  exact (key L h1 h2).1
theorem drop_map (vs : List Rw) (o : Int) : (dropV vs o).map Rw.key = (vs.map Rw.key).filter (fun z => !(z.2.2 == o)) := by
  unfold dropV
  rw [List.filter_map]
  rfl
theorem of_map (vs : List Rw) (o : Int) : (ofV vs o).map Rw.key = (vs.map Rw.key).filter (fun z => z.2.2 == o) := by
  unfold ofV
  rw [List.filter_map]
  rfl
theorem drop_srt {vs : List Rw} (h : Srt vs) (o : Int) : Srt (dropV vs o) := by
  unfold Srt
  rw [drop_map]
  exact List.Pairwise.filter _ h
theorem drop_of (vs : List Rw) (o : Int) : (dropV vs o).length + (ofV vs o).length = vs.length := by
  induction vs with
  | nil => rfl
  | cons r vs ih =>
    unfold dropV ofV at *
    by_cases h : r.own = o
    · simp [h]; omega
    · simp [h]; omega
/-! whose an address is -/
theorem best_none (A : List UInt8) : ∀ (vs : List Rw) (i : Nat), (∀ r ∈ vs, hasP r.adr r.bits A = false) → bestV A vs none i = none
  | [], _, _ => rfl
  | r :: vs, i, h => by
    unfold bestV
    rw [h r (by simp)]
    exact best_none A vs (i + 1) (fun x hx => h x (List.mem_cons_of_mem _ hx))
theorem best_keep (A : List UInt8) : ∀ (vs : List Rw) (i j : Nat) (x : Rw), (∀ r ∈ vs, hasP r.adr r.bits A = true → r.bits ≤ x.bits) → bestV A vs (some (j, x)) i = some (j, x)
  | [], _, _, _, _ => rfl
  | r :: vs, i, j, x, h => by
    unfold bestV
    have : (hasP r.adr r.bits A && decide (x.bits < r.bits)) = false := by
      cases hh : hasP r.adr r.bits A with
      | false => rfl
      | true =>
        have := h r (by simp) hh
        simp only [Bool.true_and, decide_eq_false_iff_not]
        omega
    simp only [this]
    exact best_keep A vs (i + 1) j x (fun y hy => h y (List.mem_cons_of_mem _ hy))
theorem best_some (A : List UInt8) : ∀ (vs : List Rw) (b : Option (Nat × Rw)) (i : Nat) (z : Ky), z ∈ vs.map Rw.key → hasP z.1 z.2.1 A = true →
    (∀ y ∈ vs.map Rw.key, hasP y.1 y.2.1 A = true → y.2.1 < z.2.1 ∨ y = z) → (∀ j x, b = some (j, x) → x.bits < z.2.1) → ∃ j x, bestV A vs b i = some (j, x) ∧ x.own = z.2.2
  | [], _, _, _, h, _, _, _ => by simp at h
  | r :: vs, b, i, z, hz, hh, hm, hb => by
    obtain ⟨c, hc⟩ : ∃ c, (hasP r.adr r.bits A && (match b with | none => true | some (_, x) => decide (x.bits < r.bits))) = c := ⟨_, rfl⟩
    have e1 : bestV A (r :: vs) b i = bestV A vs (if c = true then some (i, r) else b) (i + 1) := by rw [← hc]; rfl
    rw [e1]
    by_cases e : r.key = z
    · have h1 : hasP r.adr r.bits A = true := by rw [← e] at hh; exact hh
      have h2 : c = true := by
        rw [← hc, h1]
        cases b with
        | none => rfl
        | some y =>
          have := hb y.1 y.2 rfl
          rw [← e] at this
          simp only [Bool.true_and]
          exact decide_eq_true this
      rw [h2, if_pos rfl, best_keep A vs (i + 1) i r (fun y hy hy2 => ?_)]
      · exact ⟨i, r, rfl, by rw [← e]; rfl⟩
      · rcases hm y.key (by simp only [List.map_cons, List.mem_cons]; exact .inr (List.mem_map_of_mem hy)) hy2 with h3 | h3
        · rw [← e] at h3
          exact Int.le_of_lt h3
        · rw [← e] at h3
          have : y.bits = r.bits := congrArg (fun k : Ky => k.2.1) h3
          omega
    · have hz2 : z ∈ vs.map Rw.key := by
        simp only [List.map_cons, List.mem_cons] at hz
        rcases hz with h3 | h3
        · exact absurd h3.symm e
        · exact h3
      refine best_some A vs _ (i + 1) z hz2 hh (fun y hy => hm y (by simp only [List.map_cons, List.mem_cons]; exact .inr hy)) ?_
      intro j x hx
      cases c with
      | true =>
        rw [if_pos rfl] at hx
        simp only [Option.some.injEq, Prod.mk.injEq] at hx
        obtain ⟨_, rfl⟩ := hx
        have hc1 : hasP r.adr r.bits A = true := by
          rw [Bool.and_eq_true] at hc
          exact hc.1
        rcases hm r.key (by simp) hc1 with h3 | h3
        · exact h3
        · exact absurd h3 e
      | false =>
        rw [if_neg (by simp)] at hx
        exact hb j x hx
theorem owner_none {vs : List Rw} {A : List UInt8} (h : ∀ z ∈ vs.map Rw.key, hasP z.1 z.2.1 A = false) : ownerV vs A = (0, false) := by
  unfold ownerV bestK
  rw [List.take_length, best_none A vs 0 (fun r hr => h r.key (List.mem_map_of_mem hr))]
theorem owner_some {vs : List Rw} {A : List UInt8} {z : Ky} (hz : z ∈ vs.map Rw.key) (hh : hasP z.1 z.2.1 A = true) (hm : ∀ y ∈ vs.map Rw.key, hasP y.1 y.2.1 A = true → y.2.1 < z.2.1 ∨ y = z) : ownerV vs A = (z.2.2, true) := by
  unfold ownerV bestK
  obtain ⟨j, x, h1, h2⟩ := best_some A vs none 0 z hz hh hm (fun j x e => by cases e)
  rw [List.take_length, h1]
  simp only [h2]
end Go.Proofs.Ytlmmnjoincmgcaa

namespace Go.Proofs.Ytlmmnjoincmgcaa
set_option linter.unusedVariables false
set_option linter.unusedSimpArgs false
set_option maxRecDepth 100000
open Go.RowKit
/-- a trie: nothing, or a node in a block -/
inductive Tr where
  | nil : Tr
  | node (b : Nat) (ad : Option Addr) (cp : Nat) (adr : List UInt8) (bits : Nat) (own : Int) (l r : Tr) : Tr
def Tr.ptr : Tr → Value
  | .nil => .pointer none
  | .node b _ _ _ _ _ _ _ => .pointer (some ⟨b, 0, none⟩)
def Tr.All (P : List UInt8 → Nat → Prop) : Tr → Prop
  | .nil => True
  | .node _ _ _ a m _ l r => P a m ∧ l.All P ∧ r.All P
theorem Tr.All.mono {P Q : List UInt8 → Nat → Prop} (h : ∀ a m, P a m → Q a m) : ∀ {t : Tr}, t.All P → t.All Q
  | .nil, _ => trivial
  | .node _ _ _ _ _ _ _ _, ht => ⟨h _ _ ht.1, ht.2.1.mono h, ht.2.2.mono h⟩
/-- a prefix that lies in a plain one, by the bit behind its own -/
def Und (a : List UInt8) (m d : Nat) (x : List UInt8) (n : Nat) : Prop := m < n ∧ Agr x a m ∧ bitAt x m = d
def Tr.Wf (s : Nat) : Tr → Prop
  | .nil => True
  | .node _ _ _ a m o l r => (a.length = s ∧ m ≤ 8 * s ∧ plainS a m = a ∧ (o = -1 ∨ 0 ≤ o)) ∧ (l.All (Und a m 0) ∧ r.All (Und a m 1)) ∧ l.Wf s ∧ r.Wf s
def ownR (a : List UInt8) (m : Nat) (o : Int) : List Ky := if o = -1 then [] else [(a, (m : Int), o)]
def Tr.rows : Tr → List Ky
  | .nil => []
  | .node _ _ _ a m o l r => ownR a m o ++ (l.rows ++ r.rows)
theorem rows_node (b : Nat) (ad : Option Addr) (cp : Nat) (a : List UInt8) (m : Nat) (o : Int) (l r : Tr) : (Tr.node b ad cp a m o l r).rows = ownR a m o ++ (l.rows ++ r.rows) := rfl
theorem ownR_mem {a : List UInt8} {m : Nat} {o : Int} {z : Ky} : z ∈ ownR a m o ↔ z = (a, (m : Int), o) ∧ o ≠ -1 := by
  unfold ownR
  by_cases h : o = -1
  · rw [if_pos h]; simp [h]
  · rw [if_neg h]; simp [h]
theorem rows_all {P : List UInt8 → Nat → Prop} : ∀ {t : Tr}, t.All P → ∀ z ∈ t.rows, ∃ m : Nat, z.2.1 = m ∧ P z.1 m
  | .nil, _, z, hz => by simp [Tr.rows] at hz
  | .node _ _ _ a m o l r, h, z, hz => by
    rcases List.mem_append.1 hz with h1 | h1
    · obtain ⟨rfl, _⟩ := ownR_mem.1 h1
      exact ⟨m, rfl, h.1⟩
    · rcases List.mem_append.1 h1 with h2 | h2
      · exact rows_all h.2.1 z h2
      · exact rows_all h.2.2 z h2
theorem rows_wf {s : Nat} : ∀ {t : Tr}, t.Wf s → ∀ z ∈ t.rows, z.1.length = s ∧ 0 ≤ z.2.2 ∧ ∃ m : Nat, z.2.1 = m ∧ m ≤ 8 * s ∧ plainS z.1 m = z.1
  | .nil, _, z, hz => by simp [Tr.rows] at hz
  | .node _ _ _ a m o l r, h, z, hz => by
    rcases List.mem_append.1 hz with h1 | h1
    · obtain ⟨rfl, h2⟩ := ownR_mem.1 h1
      exact ⟨h.1.1, h.1.2.2.2.resolve_left h2, m, rfl, h.1.2.1, h.1.2.2.1⟩
    · rcases List.mem_append.1 h1 with h2 | h2
      · exact rows_wf h.2.2.1 z h2
      · exact rows_wf h.2.2.2 z h2
theorem und_lt {a x : List UInt8} {m d n : Nat} {o p : Int} (hl : x.length = a.length) (ha : plainS a m = a) (hx : n ≤ 8 * a.length) (h : Und a m d x n) : ltK (a, (m : Int), o) (x, (n : Int), p) := by
  obtain ⟨h1, h2, h3⟩ := h
  unfold ltK beforeP
  rw [if_pos hl.symm]
  by_cases e : a = x
  · rw [if_pos e]
    simp only [decide_eq_true_eq]
    omega
  · rw [if_neg e]
    have hn : ¬ Agr a x (8 * a.length) := fun h4 => e (bits_ext hl.symm h4)
    obtain ⟨k, hk, h4, h5⟩ := first_bit hn
    have hm : m ≤ k := by
      rcases Nat.lt_or_ge k m with h6 | h6
      · exact absurd (h2 k h6).symm h5
      · exact h6
    have h6 : bitAt a k = 0 := by
      have := bit_plain a m hk
      rw [ha] at this
      rw [this, if_neg (by omega)]
    have h7 : bitAt x k = 1 := by
      rcases bit_two x k with h8 | h8
      · exact absurd (h6.trans h8.symm) h5
      · exact h8
    exact bl_bit hl.symm hk h4 h6 h7
theorem und_two {a x y : List UInt8} {m n k : Nat} {o p : Int} (hx : x.length = a.length) (hy : y.length = a.length) (hn : n ≤ 8 * a.length) (h : Und a m 0 x n) (h2 : Und a m 1 y k) : ltK (x, (n : Int), o) (y, (k : Int), p) := by
  unfold ltK beforeP
  rw [if_pos (hx.trans hy.symm)]
  have h3 := bl_bit (a := x) (b := y) (k := m) (hx.trans hy.symm) (by have := h.1; omega) (h.2.1.trans h2.2.1.symm) h.2.2 h2.2.2
  have h4 : x ≠ y := fun e => by rw [e, bl_irr] at h3; cases h3
  rw [if_neg h4]
  exact h3
theorem rows_srt {s : Nat} : ∀ {t : Tr}, t.Wf s → t.rows.Pairwise ltK
  | .nil, _ => List.Pairwise.nil
  | .node _ _ _ a m o l r, h => by
    obtain ⟨⟨h1, h2, h3, h4⟩, ⟨h5, h6⟩, h7, h8⟩ := h
    unfold Tr.rows
    rw [List.pairwise_append, List.pairwise_append]
    refine ⟨?_, ⟨rows_srt h7, rows_srt h8, ?_⟩, ?_⟩
    · unfold ownR; split <;> simp
    · intro x hx y hy
      obtain ⟨n, e1, u1⟩ := rows_all h5 x hx
      obtain ⟨k, e2, u2⟩ := rows_all h6 y hy
      obtain ⟨l1, _, n', e3, b1, _⟩ := rows_wf h7 x hx
      obtain ⟨l2, _⟩ := rows_wf h8 y hy
      obtain ⟨xa, xm, xo⟩ := x
      obtain ⟨ya, ym, yo⟩ := y
      simp only at e1 e2 e3 l1 l2 u1 u2
      subst e1 e2
      exact und_two (l1.trans h1.symm) (l2.trans h1.symm) (by omega) u1 u2
    · intro x hx y hy
      obtain ⟨rfl, _⟩ := ownR_mem.1 hx
      rcases List.mem_append.1 hy with hy | hy
      · obtain ⟨n, e1, u1⟩ := rows_all h5 y hy
        obtain ⟨l1, _, n', e3, b1, _⟩ := rows_wf h7 y hy
        obtain ⟨ya, ym, yo⟩ := y
        simp only at e1 e3 l1 u1
        subst e1
        exact und_lt (l1.trans h1.symm) h3 (by omega) u1
      · obtain ⟨n, e1, u1⟩ := rows_all h6 y hy
        obtain ⟨l1, _, n', e3, b1, _⟩ := rows_wf h8 y hy
        obtain ⟨ya, ym, yo⟩ := y
        simp only at e1 e3 l1 u1
        subst e1
        exact und_lt (l1.trans h1.symm) h3 (by omega) u1
/-! frames: a way down, the innermost one first -/
structure Fr where
  b : Nat
  ad : Option Addr
  cp : Nat
  adr : List UInt8
  bits : Nat
  own : Int
  d : Nat
  sib : Tr
def plug (f : Fr) (t : Tr) : Tr := .node f.b f.ad f.cp f.adr f.bits f.own (if f.d = 0 then t else f.sib) (if f.d = 0 then f.sib else t)
def fill : List Fr → Tr → Tr
  | [], t => t
  | f :: fs, t => fill fs (plug f t)
def wayF (q : List UInt8) (m : Nat) : Tr → List Fr → List Fr × Tr
  | .nil, fs => (fs, .nil)
  | .node b ad cp a n o l r, fs => if n < m ∧ Agr q a n then (if bitAt q n = 0 then wayF q m l (⟨b, ad, cp, a, n, o, 0, r⟩ :: fs) else wayF q m r (⟨b, ad, cp, a, n, o, 1, l⟩ :: fs)) else (fs, .node b ad cp a n o l r)
theorem way_fill (q : List UInt8) (m : Nat) : ∀ (t : Tr) (fs : List Fr), fill (wayF q m t fs).1 (wayF q m t fs).2 = fill fs t
  | .nil, fs => rfl
  | .node b ad cp a n o l r, fs => by
    unfold wayF
    by_cases h : n < m ∧ Agr q a n
    · rw [if_pos h]
      by_cases h2 : bitAt q n = 0
      · rw [if_pos h2, way_fill q m l]; rfl
      · rw [if_neg h2, way_fill q m r]; rfl
    · rw [if_neg h]
def OnWay (q : List UInt8) (m : Nat) (f : Fr) : Prop := f.bits < m ∧ Agr q f.adr f.bits ∧ f.d = bitAt q f.bits
theorem way_on (q : List UInt8) (m : Nat) : ∀ (t : Tr) (fs : List Fr), (∀ f ∈ fs, OnWay q m f) → ∀ f ∈ (wayF q m t fs).1, OnWay q m f
  | .nil, fs, h => h
  | .node b ad cp a n o l r, fs, h => by
    unfold wayF
    by_cases h1 : n < m ∧ Agr q a n
    · rw [if_pos h1]
      by_cases h2 : bitAt q n = 0
      · rw [if_pos h2]
        refine way_on q m l _ fun f hf => ?_
        rcases List.mem_cons.1 hf with rfl | hf
        · exact ⟨h1.1, h1.2, h2.symm⟩
        · exact h f hf
      · rw [if_neg h2]
        refine way_on q m r _ fun f hf => ?_
        rcases List.mem_cons.1 hf with rfl | hf
        · exact ⟨h1.1, h1.2, ((bit_two q n).resolve_left h2).symm⟩
        · exact h f hf
    · rw [if_neg h1]; exact h
def Ends (q : List UInt8) (m : Nat) : Tr → Prop
  | .nil => True
  | .node _ _ _ a n _ _ _ => ¬ (n < m ∧ Agr q a n)
theorem way_end (q : List UInt8) (m : Nat) : ∀ (t : Tr) (fs : List Fr), Ends q m (wayF q m t fs).2
  | .nil, fs => trivial
  | .node b ad cp a n o l r, fs => by
    unfold wayF
    by_cases h1 : n < m ∧ Agr q a n
    · rw [if_pos h1]
      by_cases h2 : bitAt q n = 0
      · rw [if_pos h2]; exact way_end q m l _
      · rw [if_neg h2]; exact way_end q m r _
    · rw [if_neg h1]; exact h1
theorem way_plug {q : List UInt8} {m : Nat} {f : Fr} (h : OnWay q m f) (x : Tr) (acc : List Fr) : wayF q m (plug f x) acc = wayF q m x (f :: acc) := by
  obtain ⟨b, ad, cp, a, n, o, d, sib⟩ := f
  obtain ⟨h1, h2, h3⟩ := h
  simp only at h1 h2 h3
  unfold plug
  conv => lhs; unfold wayF
  rw [if_pos ⟨h1, h2⟩, ← h3]
  by_cases h4 : d = 0
  · subst h4; simp
  · have h5 : d = 1 := by rcases bit_two q n with h6 | h6 <;> omega
    subst h5; simp
theorem way_into {q : List UInt8} {m : Nat} : ∀ (fs : List Fr), (∀ f ∈ fs, OnWay q m f) → ∀ (x : Tr) (acc : List Fr), wayF q m (fill fs x) acc = wayF q m x (fs ++ acc)
  | [], _, x, acc => rfl
  | f :: fs, h, x, acc => by
    show wayF q m (fill fs (plug f x)) acc = _
    rw [way_into fs (fun g hg => h g (List.mem_cons_of_mem _ hg)), way_plug (h f (by simp))]
    rfl
/-- frames one in the other -/
def Ctx (s : Nat) : List Fr → Prop
  | [] => True
  | f :: fs => (f.adr.length = s ∧ f.bits ≤ 8 * s ∧ plainS f.adr f.bits = f.adr ∧ (f.own = -1 ∨ 0 ≤ f.own)) ∧ f.sib.All (Und f.adr f.bits (1 - f.d)) ∧ f.sib.Wf s ∧ (∀ g ∈ fs, Und g.adr g.bits g.d f.adr f.bits ∧ f.sib.All (Und g.adr g.bits g.d)) ∧ Ctx s fs
theorem wf_fill {s : Nat} : ∀ {fs : List Fr}, (∀ f ∈ fs, f.d = 0 ∨ f.d = 1) → ∀ {e : Tr}, (fill fs e).Wf s ↔ Ctx s fs ∧ e.Wf s ∧ ∀ f ∈ fs, e.All (Und f.adr f.bits f.d)
  | [], _, e => by simp [fill, Ctx]
  | f :: fs, hd, e => by
    have ih := wf_fill (s := s) (fs := fs) (fun g hg => hd g (List.mem_cons_of_mem _ hg)) (e := plug f e)
    show (fill fs (plug f e)).Wf s ↔ _
    rw [ih]
    obtain ⟨b, ad, cp, a, n, o, d, sib⟩ := f
    have h0 := hd ⟨b, ad, cp, a, n, o, d, sib⟩ (by simp)
    simp only at h0
    unfold plug
    rcases h0 with rfl | rfl
    · simp only [if_true, Tr.Wf, Tr.All, Ctx, List.mem_cons, Nat.sub_zero]
      constructor
      · rintro ⟨h1, ⟨h2, ⟨h3, h4⟩, h5, h6⟩, h7⟩
        refine ⟨⟨h2, h4, h6, fun g hg => ⟨(h7 g hg).1, (h7 g hg).2.2⟩, h1⟩, h5, ?_⟩
        rintro g (rfl | hg)
        · exact h3
        · exact (h7 g hg).2.1
      · rintro ⟨⟨h2, h4, h6, h7, h1⟩, h5, h8⟩
        exact ⟨h1, ⟨h2, ⟨h8 _ (.inl rfl), h4⟩, h5, h6⟩, fun g hg => ⟨(h7 g hg).1, h8 g (.inr hg), (h7 g hg).2⟩⟩
    · simp only [Nat.one_ne_zero, if_false, Tr.Wf, Tr.All, Ctx, List.mem_cons, Nat.sub_self]
      constructor
      · rintro ⟨h1, ⟨h2, ⟨h3, h4⟩, h5, h6⟩, h7⟩
        refine ⟨⟨h2, h3, h5, fun g hg => ⟨(h7 g hg).1, (h7 g hg).2.1⟩, h1⟩, h6, ?_⟩
        rintro g (rfl | hg)
        · exact h4
        · exact (h7 g hg).2.2
      · rintro ⟨⟨h2, h4, h6, h7, h1⟩, h5, h8⟩
        exact ⟨h1, ⟨h2, ⟨h4, h8 _ (.inl rfl)⟩, h6, h5⟩, fun g hg => ⟨(h7 g hg).1, (h7 g hg).2, h8 g (.inr hg)⟩⟩
theorem on_d {q : List UInt8} {m : Nat} {fs : List Fr} (h : ∀ f ∈ fs, OnWay q m f) : ∀ f ∈ fs, f.d = 0 ∨ f.d = 1 := fun f hf => by
  rw [(h f hf).2.2]; exact bit_two q f.bits
theorem rows_plug (f : Fr) (e : Tr) : ∃ A C, ∀ e, (plug f e).rows = A ++ e.rows ++ C := by
  by_cases h : f.d = 0
  · exact ⟨ownR f.adr f.bits f.own, f.sib.rows, fun e => by unfold plug; rw [if_pos h, if_pos h]; simp [Tr.rows]⟩
  · exact ⟨ownR f.adr f.bits f.own ++ f.sib.rows, [], fun e => by unfold plug; rw [if_neg h, if_neg h]; simp [Tr.rows]⟩
theorem rows_fill : ∀ (fs : List Fr), ∃ A C, ∀ e, (fill fs e).rows = A ++ e.rows ++ C
  | [] => ⟨[], [], fun e => by simp [fill]⟩
  | f :: fs => by
    obtain ⟨A, C, h⟩ := rows_fill fs
    obtain ⟨A2, C2, h2⟩ := rows_plug f .nil
    exact ⟨A ++ A2, C2 ++ C, fun e => by show (fill fs (plug f e)).rows = _; rw [h, h2]; simp⟩
theorem rows_mem {z : Ky} : ∀ {fs : List Fr} {e : Tr}, z ∈ (fill fs e).rows ↔ z ∈ e.rows ∨ ∃ f ∈ fs, (z = (f.adr, (f.bits : Int), f.own) ∧ f.own ≠ -1) ∨ z ∈ f.sib.rows
  | [], e => by simp [fill]
  | f :: fs, e => by
    show z ∈ (fill fs (plug f e)).rows ↔ _
    rw [rows_mem]
    have h1 : z ∈ (plug f e).rows ↔ z ∈ e.rows ∨ (z = (f.adr, (f.bits : Int), f.own) ∧ f.own ≠ -1) ∨ z ∈ f.sib.rows := by
      unfold plug
      rw [rows_node, List.mem_append, List.mem_append, ownR_mem]
      by_cases h : f.d = 0
      · rw [if_pos h, if_pos h]
        constructor
        · rintro (h | h | h)
          · exact .inr (.inl h)
          · exact .inl h
          · exact .inr (.inr h)
        · rintro (h | h | h)
          · exact .inr (.inl h)
          · exact .inl h
          · exact .inr (.inr h)
      · rw [if_neg h, if_neg h]
        constructor
        · rintro (h | h | h)
          · exact .inr (.inl h)
          · exact .inr (.inr h)
          · exact .inl h
        · rintro (h | h | h)
          · exact .inr (.inr h)
          · exact .inl h
          · exact .inr (.inl h)
    rw [h1]
    simp only [List.mem_cons]
    constructor
    · rintro ((h | h) | ⟨g, hg, h⟩)
      · exact .inl h
      · exact .inr ⟨f, .inl rfl, h⟩
      · exact .inr ⟨g, .inr hg, h⟩
    · rintro (h | ⟨g, rfl | hg, h⟩)
      · exact .inl (.inl h)
      · exact .inl (.inr h)
      · exact .inr ⟨g, hg, h⟩
end Go.Proofs.Ytlmmnjoincmgcaa

namespace Go.Proofs.Ytlmmnjoincmgcaa
set_option linter.unusedVariables false
set_option linter.unusedSimpArgs false
set_option maxRecDepth 100000
open Go.RowKit
theorem wf_swap {s : Nat} {fs : List Fr} (hd : ∀ f ∈ fs, f.d = 0 ∨ f.d = 1) {e e' : Tr} (h : (fill fs e).Wf s) (he : e'.Wf s) (ha : ∀ f ∈ fs, e'.All (Und f.adr f.bits f.d)) : (fill fs e').Wf s :=
  (wf_fill hd).2 ⟨((wf_fill hd).1 h).1, he, ha⟩
theorem wf_own {s : Nat} {fs : List Fr} (hd : ∀ f ∈ fs, f.d = 0 ∨ f.d = 1) {b b' cp cp' m : Nat} {ad ad' : Option Addr} {q : List UInt8} {o o' : Int} {l r : Tr} (h : (fill fs (.node b ad cp q m o l r)).Wf s) (ho : o' = -1 ∨ 0 ≤ o') : (fill fs (.node b' ad' cp' q m o' l r)).Wf s := by
  obtain ⟨h1, h2, h3⟩ := (wf_fill hd).1 h
  refine wf_swap hd h ⟨⟨h2.1.1, h2.1.2.1, h2.1.2.2.1, ho⟩, h2.2.1, h2.2.2⟩ h3
theorem node_rows {s : Nat} {fs : List Fr} (hd : ∀ f ∈ fs, f.d = 0 ∨ f.d = 1) {b cp m : Nat} {ad : Option Addr} {q : List UInt8} {o : Int} {l r : Tr} (h : (fill fs (.node b ad cp q m o l r)).Wf s) (b' : Nat) (ad' : Option Addr) (cp' : Nat) (o' : Int) (z : Ky) :
    z ∈ (fill fs (.node b' ad' cp' q m o' l r)).rows ↔ (z ∈ (fill fs (.node b ad cp q m o l r)).rows ∧ ¬ SameK z q m) ∨ (o' ≠ -1 ∧ z = (q, (m : Int), o')) := by
  obtain ⟨A, C, hr⟩ := rows_fill fs
  have hs := rows_srt (wf_own (b' := b) (ad' := ad) (cp' := cp) (o' := 0) hd h (.inr (Int.le_refl _)))
  rw [hr, rows_node] at hs
  have hz0 : ownR q m 0 = [(q, (m : Int), 0)] := by unfold ownR; rw [if_neg (by decide)]
  rw [hz0] at hs
  have key : ∀ z, z ∈ A ∨ z ∈ l.rows ∨ z ∈ r.rows ∨ z ∈ C → ¬ SameK z q m := by
    rw [List.pairwise_append, List.pairwise_append] at hs
    obtain ⟨⟨_, h1, h2⟩, _, h3⟩ := hs
    rintro z (hz | hz | hz | hz) hk
    · exact ltK_ne (h2 z hz (q, (m : Int), 0) (by simp)) ⟨hk.1, hk.2⟩
    · simp only [List.singleton_append, List.pairwise_cons] at h1
      exact ltK_ne (h1.1 z (List.mem_append_left _ hz)) ⟨hk.1.symm, hk.2.symm⟩
    · simp only [List.singleton_append, List.pairwise_cons] at h1
      exact ltK_ne (h1.1 z (List.mem_append_right _ hz)) ⟨hk.1.symm, hk.2.symm⟩
    · exact ltK_ne (h3 (q, (m : Int), 0) (by simp) z hz) ⟨hk.1.symm, hk.2.symm⟩
  rw [hr, hr, rows_node, rows_node]
  simp only [List.mem_append, ownR_mem]
  constructor
  · rintro ((h | ⟨h, h2⟩ | h | h) | h)
    · exact .inl ⟨.inl (.inl h), key z (.inl h)⟩
    · exact .inr ⟨h2, h⟩
    · exact .inl ⟨.inl (.inr (.inr (.inl h))), key z (.inr (.inl h))⟩
    · exact .inl ⟨.inl (.inr (.inr (.inr h))), key z (.inr (.inr (.inl h)))⟩
    · exact .inl ⟨.inr h, key z (.inr (.inr (.inr h)))⟩
  · rintro (⟨(h | ⟨h, h2⟩ | h | h) | h, hn⟩ | ⟨h2, h⟩)
    · exact .inl (.inl h)
    · exact absurd (by rw [h]; exact ⟨rfl, rfl⟩) hn
    · exact .inl (.inr (.inr (.inl h)))
    · exact .inl (.inr (.inr (.inr h)))
    · exact .inr h
    · exact .inl (.inr (.inl ⟨h, h2⟩))
theorem ends_is {q a : List UInt8} {m n b cp : Nat} {ad : Option Addr} {o : Int} {l r : Tr} (h : Ends q m (.node b ad cp a n o l r)) (hn : n ≤ m) (hg : Agr q a n) (hq : plainS q m = q) (ha : plainS a n = a) (hl : q.length = a.length) : a = q ∧ n = m := by
  have e : n = m := by
    rcases Nat.lt_or_ge n m with h1 | h1
    · exact absurd ⟨h1, hg⟩ h
    · omega
  subst e
  exact ⟨plain_ext ha hq hl.symm hg.symm, rfl⟩
theorem miss_rows {s : Nat} {fs : List Fr} {q : List UInt8} {m : Nat} {e : Tr} (hon : ∀ f ∈ fs, OnWay q m f) (he : Ends q m e) (h : (fill fs e).Wf s) (hm : ∀ b ad cp o l r, e = .node b ad cp q m o l r → o = -1) : ∀ z ∈ (fill fs e).rows, ¬ SameK z q m := by
  intro z hz hk
  obtain ⟨h1, h2, h3⟩ := (wf_fill (on_d hon)).1 h
  have hctx : ∀ {fs : List Fr}, Ctx s fs → ∀ f ∈ fs, f.sib.All (Und f.adr f.bits (1 - f.d)) := by
    intro fs
    induction fs with
    | nil => intro _ f hf; simp at hf
    | cons g gs ih =>
      intro hc f hf
      rcases List.mem_cons.1 hf with rfl | hf
      · exact hc.2.1
      · exact ih hc.2.2.2.2 f hf
  rcases rows_mem.1 hz with hz | ⟨f, hf, ⟨rfl, _⟩ | hz⟩
  · cases e with
    | nil => simp [Tr.rows] at hz
    | node b ad cp a n o l r =>
      rw [rows_node, List.mem_append, List.mem_append, ownR_mem] at hz
      rcases hz with ⟨rfl, ho⟩ | hz
      · obtain ⟨rfl, e2⟩ := hk
        have e3 : n = m := by simp only at e2; omega
        subst e3
        exact ho (hm _ _ _ _ _ _ rfl)
      · have : ∃ d k, z.2.1 = (k : Nat) ∧ Und a n d z.1 k := by
          rcases hz with hz | hz
          · obtain ⟨k, e1, u⟩ := rows_all h2.2.1.1 z hz; exact ⟨0, k, e1, u⟩
          · obtain ⟨k, e1, u⟩ := rows_all h2.2.1.2 z hz; exact ⟨1, k, e1, u⟩
        obtain ⟨d, k, e1, u⟩ := this
        have e2 : k = m := by have := hk.2; omega
        rw [hk.1, e2] at u
        exact he ⟨u.1, u.2.1⟩
  · have := (hon f hf).1
    have h4 := hk.2
    simp only at h4
    omega
  · obtain ⟨k, e1, u⟩ := rows_all (hctx h1 f hf) z hz
    rw [hk.1] at u
    have h4 := u.2.2
    have h5 := (hon f hf).2.2
    have h6 := on_d hon f hf
    omega
/-! what has to stay -/
def need : Tr → Tr
  | .nil => .nil
  | .node b ad cp a n o l r => if o ≠ -1 then .node b ad cp a n o l r else match l, r with
    | .nil, r => r
    | l, .nil => l
    | l, r => .node b ad cp a n o l r
theorem need_cases (b : Nat) (ad : Option Addr) (cp : Nat) (a : List UInt8) (n : Nat) (o : Int) (l r : Tr) :
    (need (.node b ad cp a n o l r) = .node b ad cp a n o l r) ∨ (o = -1 ∧ l = .nil ∧ need (.node b ad cp a n o l r) = r) ∨ (o = -1 ∧ r = .nil ∧ need (.node b ad cp a n o l r) = l) := by
  by_cases h : o ≠ -1
  · left; simp [need, h]
  · have h2 : o = -1 := by omega
    cases l with
    | nil => right; left; exact ⟨h2, rfl, by simp [need, h2]⟩
    | node =>
      cases r with
      | nil => right; right; exact ⟨h2, rfl, by simp [need, h2]⟩
      | node => left; simp [need, h2]
theorem need_rows : ∀ t : Tr, (need t).rows = t.rows
  | .nil => rfl
  | .node b ad cp a n o l r => by
    rcases need_cases b ad cp a n o l r with h | ⟨rfl, rfl, h⟩ | ⟨rfl, rfl, h⟩
    · rw [h]
    · rw [h]; simp [Tr.rows, ownR]
    · rw [h]; simp [Tr.rows, ownR]
theorem need_wf {s : Nat} : ∀ {t : Tr}, t.Wf s → (need t).Wf s
  | .nil, _ => trivial
  | .node b ad cp a n o l r, hw => by
    rcases need_cases b ad cp a n o l r with h | ⟨rfl, rfl, h⟩ | ⟨rfl, rfl, h⟩
    · rw [h]; exact hw
    · rw [h]; exact hw.2.2.2
    · rw [h]; exact hw.2.2.1
theorem need_all {P : List UInt8 → Nat → Prop} : ∀ {t : Tr}, t.All P → (need t).All P
  | .nil, _ => trivial
  | .node b ad cp a n o l r, hw => by
    rcases need_cases b ad cp a n o l r with h | ⟨rfl, rfl, h⟩ | ⟨rfl, rfl, h⟩
    · rw [h]; exact hw
    · rw [h]; exact hw.2.2
    · rw [h]; exact hw.2.1
theorem fill_need_wf {s : Nat} {fs : List Fr} (hd : ∀ f ∈ fs, f.d = 0 ∨ f.d = 1) {e : Tr} (h : (fill fs e).Wf s) : (fill fs (need e)).Wf s := by
  obtain ⟨h1, h2, h3⟩ := (wf_fill hd).1 h
  exact wf_swap hd h (need_wf h2) fun f hf => need_all (h3 f hf)
theorem fill_rows {fs : List Fr} {e e' : Tr} (h : e'.rows = e.rows) : (fill fs e').rows = (fill fs e).rows := by
  obtain ⟨A, C, hr⟩ := rows_fill fs
  rw [hr, hr, h]
/-! where there is none, it is made -/
/-- the way of q ends where q is, or where nothing is -/
def Ready (q : List UInt8) (m : Nat) (t : Tr) : Prop := (wayF q m t []).2 = .nil ∨ ∃ b ad cp o l r, (wayF q m t []).2 = .node b ad cp q m o l r
theorem new_wf {s : Nat} {fs : List Fr} {q : List UInt8} {m : Nat} (hon : ∀ f ∈ fs, OnWay q m f) (hq : plainS q m = q) (hl : q.length = s) (hm : m ≤ 8 * s) (h : (fill fs .nil).Wf s) (b : Nat) (ad : Option Addr) (cp : Nat) : (fill fs (.node b ad cp q m (-1) .nil .nil)).Wf s := by
  refine wf_swap (on_d hon) h ⟨⟨hl, hm, hq, .inl rfl⟩, ⟨trivial, trivial⟩, trivial, trivial⟩ fun f hf => ⟨⟨(hon f hf).1, (hon f hf).2.1, (hon f hf).2.2.symm⟩, trivial, trivial⟩
/-- the node above both -/
def aboveF (q : List UInt8) (c : Nat) (a : List UInt8) (b : Nat) (ad : Option Addr) (cp : Nat) : Fr := ⟨b, ad, cp, plainS q c, c, -1, bitAt a c, .nil⟩
theorem above_rows {q a : List UInt8} {c b cp : Nat} {ad : Option Addr} (e : Tr) : (plug (aboveF q c a b ad cp) e).rows = e.rows := by
  unfold plug aboveF
  simp only [rows_node, ownR, if_true]
  by_cases h : bitAt a c = 0
  · rw [if_pos h, if_pos h]; simp [Tr.rows]
  · rw [if_neg h, if_neg h]; simp [Tr.rows]
theorem above_wf {s : Nat} {fs : List Fr} {q a : List UInt8} {m n c : Nat} {b0 cp0 : Nat} {ad0 : Option Addr} {o : Int} {l r : Tr} (hon : ∀ f ∈ fs, OnWay q m f) (hl : q.length = s) (hm : m ≤ 8 * s)
    (h : (fill fs (.node b0 ad0 cp0 a n o l r)).Wf s) (hc : c ≤ m) (hcn : c < n) (hg : Agr q a c) (he : c = m ∨ bitAt q c ≠ bitAt a c) (b : Nat) (ad : Option Addr) (cp : Nat) :
    (fill fs (plug (aboveF q c a b ad cp) (.node b0 ad0 cp0 a n o l r))).Wf s := by
  obtain ⟨h1, h2, h3⟩ := (wf_fill (on_d hon)).1 h
  have hp : Agr (plainS q c) q c := plain_agr q (by omega)
  have hpa : Agr (plainS q c) a c := hp.trans hg
  have hbc := bit_two a c
  have hd2 : ∀ f ∈ aboveF q c a b ad cp :: fs, f.d = 0 ∨ f.d = 1 := by
    intro f hf
    rcases List.mem_cons.1 hf with rfl | hf
    · exact hbc
    · exact on_d hon f hf
  have hlt : ∀ f ∈ fs, f.bits < c := by
    intro f hf
    obtain ⟨o1, o2, o3⟩ := hon f hf
    obtain ⟨u1, u2, u3⟩ := (h3 f hf).1
    rcases Nat.lt_or_ge f.bits c with h4 | h4
    · exact h4
    · rcases he with rfl | he
      · omega
      · refine absurd ?_ he
        rcases Nat.lt_or_ge c f.bits with h5 | h5
        · exact (o2 c h5).trans (u2 c h5).symm
        · obtain rfl : f.bits = c := by omega
          rw [← o3, u3]
  have hun : ∀ f ∈ fs, Und f.adr f.bits f.d (plainS q c) c := by
    intro f hf
    obtain ⟨o1, o2, o3⟩ := hon f hf
    have h4 := hlt f hf
    exact ⟨h4, (hp.mono (by omega)).trans o2, by rw [hp f.bits h4]; exact o3.symm⟩
  have hk : ∀ (d : Nat) (x : List UInt8) (k : Nat), Und a n d x k → Und (plainS q c) c (bitAt a c) x k := by
    rintro d x k ⟨u1, u2, u3⟩
    exact ⟨by omega, (u2.mono (by omega)).trans hpa.symm, u2 c hcn⟩
  show (fill (aboveF q c a b ad cp :: fs) (.node b0 ad0 cp0 a n o l r)).Wf s
  refine (wf_fill hd2).2 ⟨⟨⟨by simp only [aboveF]; rw [plainS_len]; exact hl, by simp only [aboveF]; omega, plain_plain q c, .inl rfl⟩, trivial, trivial, fun g hg => ⟨hun g hg, trivial⟩, h1⟩, h2, fun f hf => ?_⟩
  rcases List.mem_cons.1 hf with rfl | hf
  · exact ⟨⟨hcn, hpa.symm, rfl⟩, h2.2.1.1.mono (hk 0), h2.2.1.2.mono (hk 1)⟩
  · exact h3 f hf
theorem above_ready {fs : List Fr} {q a : List UInt8} {m n c : Nat} {b0 cp0 : Nat} {ad0 : Option Addr} {o : Int} {l r : Tr} (hon : ∀ f ∈ fs, OnWay q m f) (hq : plainS q m = q) (hm : m ≤ 8 * q.length) (hc : c ≤ m) (he : c = m ∨ bitAt q c ≠ bitAt a c) (b : Nat) (ad : Option Addr) (cp : Nat) :
    Ready q m (fill fs (plug (aboveF q c a b ad cp) (.node b0 ad0 cp0 a n o l r))) := by
  unfold Ready
  rw [way_into fs hon, List.append_nil]
  unfold plug aboveF
  simp only
  unfold wayF
  by_cases h : c < m
  · have hne : bitAt q c ≠ bitAt a c := he.resolve_left (by omega)
    rw [if_pos ⟨h, (plain_agr q (by omega)).symm⟩]
    left
    rcases bit_two q c with h1 | h1
    · have h2 : bitAt a c = 1 := by have := bit_two a c; omega
      rw [if_pos h1, h2]; rfl
    · have h2 : bitAt a c = 0 := by have := bit_two a c; omega
      rw [if_neg (by omega), h2]; rfl
  · obtain rfl : c = m := by omega
    rw [if_neg (fun h2 => h h2.1), hq]
    exact .inr ⟨_, _, _, _, _, _, rfl⟩
theorem ready_new {q : List UInt8} {m : Nat} {t : Tr} (h : (wayF q m t []).2 = .nil) : Ready q m t := .inl h
/-! whose an address is -/
def ownF : List Fr → Int × Bool
  | [] => (0, false)
  | f :: fs => if f.own = -1 then ownF fs else (f.own, true)
/-- is it one whose owner has the address? -/
def hitT (A : List UInt8) : Tr → Prop
  | .nil => False
  | .node _ _ _ a n o _ _ => o ≠ -1 ∧ Agr A a n
def ownTr : Tr → Int
  | .nil => 0
  | .node _ _ _ _ _ o _ _ => o
theorem ctx_sib {s : Nat} : ∀ {fs : List Fr}, Ctx s fs → ∀ f ∈ fs, f.sib.All (Und f.adr f.bits (1 - f.d)) ∧ (f.adr.length = s ∧ f.bits ≤ 8 * s) ∧ f.sib.Wf s ∧ (f.own = -1 ∨ 0 ≤ f.own)
  | [], _, f, hf => by simp at hf
  | g :: gs, hc, f, hf => by
    rcases List.mem_cons.1 hf with rfl | hf
    · exact ⟨hc.2.1, ⟨hc.1.1, hc.1.2.1⟩, hc.2.2.1, hc.1.2.2.2⟩
    · exact ctx_sib hc.2.2.2.2 f hf
/-- of all that lies in a filled way, only what is on it has the address -/
theorem has_cases {s : Nat} {fs : List Fr} {A : List UInt8} {e : Tr} (hA : A.length = s) (hon : ∀ f ∈ fs, OnWay A (8 * s) f) (he : Ends A (8 * s) e) (h : (fill fs e).Wf s) {z : Ky} (hz : z ∈ (fill fs e).rows) (hh : hasP z.1 z.2.1 A = true) :
    (∃ b ad cp l r, e = .node b ad cp z.1 z.2.1.toNat z.2.2 l r ∧ hitT A e) ∨ ∃ f ∈ fs, z = (f.adr, (f.bits : Int), f.own) ∧ f.own ≠ -1 := by
  obtain ⟨h1, h2, h3⟩ := (wf_fill (on_d hon)).1 h
  obtain ⟨z1, z2, k, z3, z4, z5⟩ := rows_wf h z hz
  have hag : Agr A z.1 k := by
    have hr : rightP z.1.length k = true := by
      unfold hasP at hh
      rw [z3] at hh
      simp only [Bool.and_eq_true] at hh
      exact hh.1
    rw [z3] at hh
    exact ((hasP_iff hr).1 hh).2
  rcases rows_mem.1 hz with hz | ⟨f, hf, hz | hz⟩
  · cases e with
    | nil => simp [Tr.rows] at hz
    | node b ad cp a n o l r =>
      rw [rows_node, List.mem_append, List.mem_append, ownR_mem] at hz
      rcases hz with ⟨rfl, ho⟩ | hz
      · simp only at z3
        have : k = n := by omega
        subst this
        exact .inl ⟨b, ad, cp, l, r, by simp, ho, hag⟩
      · have : ∃ d i, z.2.1 = (i : Nat) ∧ Und a n d z.1 i := by
          rcases hz with hz | hz
          · obtain ⟨k, e1, u⟩ := rows_all h2.2.1.1 z hz; exact ⟨0, k, e1, u⟩
          · obtain ⟨k, e1, u⟩ := rows_all h2.2.1.2 z hz; exact ⟨1, k, e1, u⟩
        obtain ⟨d, i, e1, u⟩ := this
        have e2 : i = k := by omega
        subst e2
        refine absurd ⟨by have := u.1; omega, ?_⟩ he
        exact (hag.mono (by have := u.1; omega)).trans u.2.1
  · exact .inr ⟨f, hf, hz⟩
  · obtain ⟨i, e1, u⟩ := rows_all (ctx_sib h1 f hf).1 z hz
    have e2 : i = k := by omega
    subst e2
    have h4 := hag f.bits u.1
    have h5 := u.2.2
    have h6 := (hon f hf).2.2
    have h7 := on_d hon f hf
    omega
theorem frames_lt {s : Nat} : ∀ {fs : List Fr}, Ctx s fs → ∀ {i j : Nat} {f g : Fr}, i < j → fs[i]? = some f → fs[j]? = some g → g.bits < f.bits
  | [], _, _, _, _, _, _, h, _ => by simp at h
  | x :: fs, hc, 0, j + 1, f, g, _, hi, hj => by
    simp only [List.getElem?_cons_zero, Option.some.injEq] at hi
    subst hi
    simp only [List.getElem?_cons_succ] at hj
    exact (hc.2.2.2.1 g (List.mem_of_getElem? hj)).1.1
  | x :: fs, hc, i + 1, j + 1, f, g, hij, hi, hj => by
    simp only [List.getElem?_cons_succ] at hi hj
    exact frames_lt hc.2.2.2.2 (by omega) hi hj
  | x :: fs, hc, i, 0, f, g, hij, hi, hj => by omega
/-- the owner that is found on the way back -/
theorem ownF_cases : ∀ fs : List Fr, (ownF fs = (0, false) ∧ ∀ f ∈ fs, f.own = -1) ∨ ∃ (i : Nat) (f : Fr), fs[i]? = some f ∧ f.own ≠ -1 ∧ ownF fs = (f.own, true) ∧ ∀ (j : Nat) (g : Fr), fs[j]? = some g → g.own ≠ -1 → i ≤ j
  | [] => .inl ⟨rfl, fun f hf => by simp at hf⟩
  | f :: fs => by
    unfold ownF
    by_cases h : f.own = -1
    · rw [if_pos h]
      rcases ownF_cases fs with ⟨h1, h2⟩ | ⟨i, g, h1, h2, h3, h4⟩
      · refine .inl ⟨h1, fun g hg => ?_⟩
        rcases List.mem_cons.1 hg with rfl | hg
        · exact h
        · exact h2 g hg
      · refine .inr ⟨i + 1, g, by simpa using h1, h2, h3, fun j x hj hx => ?_⟩
        cases j with
        | zero =>
          simp only [List.getElem?_cons_zero, Option.some.injEq] at hj
          subst hj; exact absurd h hx
        | succ j => have := h4 j x (by simpa using hj) hx; omega
    · rw [if_neg h]
      exact .inr ⟨0, f, rfl, h, rfl, fun _ _ _ _ => Nat.zero_le _⟩
def ownT (A : List UInt8) (fs : List Fr) (e : Tr) (x : Int × Bool) : Prop := (hitT A e ∧ x = (ownTr e, true)) ∨ (¬ hitT A e ∧ x = ownF fs)
theorem owner_way {s : Nat} {fs : List Fr} {A : List UInt8} {e : Tr} (hA : A.length = s) (hs : s = 4 ∨ s = 16) (hon : ∀ f ∈ fs, OnWay A (8 * s) f) (he : Ends A (8 * s) e) (h : (fill fs e).Wf s) {vs : List Rw} (hv : ∀ z, z.1.length = s → (z ∈ vs.map Rw.key ↔ z ∈ (fill fs e).rows)) {x : Int × Bool} (hx : ownT A fs e x) :
    ownerV vs A = x := by
  obtain ⟨h1, h2, h3⟩ := (wf_fill (on_d hon)).1 h
  have hlen : ∀ z : Ky, hasP z.1 z.2.1 A = true → z.1.length = s := by
    intro z hz
    unfold hasP at hz
    simp only [Bool.and_eq_true, beq_iff_eq] at hz
    exact hz.2.1.symm.trans hA
  have hfr : ∀ f ∈ fs, hasP f.adr (f.bits : Int) A = true := by
    intro f hf
    obtain ⟨_, ⟨l1, l2⟩, _⟩ := ctx_sib h1 f hf
    exact (hasP_iff (rightP_nat.2 ⟨by omega, by omega⟩)).2 ⟨by omega, (hon f hf).2.1⟩
  rcases hx with ⟨hit, rfl⟩ | ⟨hit, rfl⟩
  · cases e with
    | nil => exact absurd hit id
    | node b ad cp a n o l r =>
      obtain ⟨ho, hag⟩ := hit
      have hz : (a, (n : Int), o) ∈ (fill fs (.node b ad cp a n o l r)).rows := rows_mem.2 (.inl (by rw [rows_node, List.mem_append, ownR_mem]; exact .inl ⟨rfl, ho⟩))
      have hla : a.length = s := h2.1.1
      have hn8 := h2.1.2.1
      have hhas : hasP a (n : Int) A = true := (hasP_iff (rightP_nat.2 ⟨by omega, by omega⟩)).2 ⟨by omega, hag⟩
      refine owner_some (z := (a, (n : Int), o)) ((hv _ h2.1.1).2 hz) hhas fun y hy hy2 => ?_
      rcases has_cases hA hon he h ((hv y (hlen y hy2)).1 hy) hy2 with ⟨b', ad', cp', l', r', e1, _⟩ | ⟨f, hf, rfl, _⟩
      · right
        injection e1 with _ _ _ e2 e3 e4 _ _
        obtain ⟨_, _, k, e5, _⟩ := rows_wf h y ((hv y (hlen y hy2)).1 hy)
        obtain ⟨y1, y2, y3⟩ := y
        simp only at e2 e3 e4 e5
        subst e2; subst e4; subst e5
        rw [e3]; simp
      · left
        have := (h3 f hf).1.1
        simp only
        omega
  · have hnoe : ∀ z ∈ vs.map Rw.key, hasP z.1 z.2.1 A = true → ∃ f ∈ fs, z = (f.adr, (f.bits : Int), f.own) ∧ f.own ≠ -1 := by
      intro z hz hh
      rcases has_cases hA hon he h ((hv z (hlen z hh)).1 hz) hh with ⟨_, _, _, _, _, _, e2⟩ | h4
      · exact absurd e2 hit
      · exact h4
    rcases ownF_cases fs with ⟨e1, h4⟩ | ⟨i, f, hi, h4, e1, h5⟩
    · rw [e1]
      refine owner_none fun z hz => ?_
      cases hh : hasP z.1 z.2.1 A with
      | false => rfl
      | true =>
        obtain ⟨f, hf, _, hn⟩ := hnoe z hz hh
        exact absurd (h4 f hf) hn
    · rw [e1]
      have hf := List.mem_of_getElem? hi
      refine owner_some (z := (f.adr, (f.bits : Int), f.own)) ((hv _ (ctx_sib h1 f hf).2.1.1).2 (rows_mem.2 (.inr ⟨f, hf, .inl ⟨rfl, h4⟩⟩))) (hfr f hf) fun y hy hy2 => ?_
      obtain ⟨g, hg, rfl, hn⟩ := hnoe y hy hy2
      obtain ⟨j, hj⟩ := List.getElem?_of_mem hg
      have h6 := h5 j g hj hn
      rcases Nat.lt_or_ge i j with h7 | h7
      · left
        have := frames_lt h1 h7 hi hj
        simp only
        omega
      · obtain rfl : i = j := by omega
        rw [hi] at hj
        injection hj with hj
        right; rw [hj]
end Go.Proofs.Ytlmmnjoincmgcaa
