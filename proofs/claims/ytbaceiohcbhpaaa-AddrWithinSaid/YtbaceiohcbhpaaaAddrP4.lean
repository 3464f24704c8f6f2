/- The program's Has and Within, by contract. -/
import Derived.Test.YtbaceiohcbhpaaaAddrP3
namespace Go.Proofs.Ytbaceiohcbhpaaa
set_option linter.unusedVariables false
set_option linter.unusedSimpArgs false
set_option maxRecDepth 100000
open Go.RowKit Go.Shelf
attribute [local go_sem] Oper.semAt_some

/-! which bits of two bytes are the same -/
theorem keepH_eq {x y r : Nat} : keepH x r = keepH y r ↔ x / 2 ^ (8 - r) = y / 2 ^ (8 - r) := by
  unfold keepH
  constructor
  · intro h
    exact Nat.eq_of_mul_eq_mul_right (Nat.pow_pos (by omega)) h
  · intro h; rw [h]
theorem div_bits {x y : Nat} (hx : x < 256) (hy : y < 256) : ∀ r, r ≤ 8 → (x / 2 ^ (8 - r) = y / 2 ^ (8 - r) ↔ ∀ j, j < r → x / 2 ^ (7 - j) % 2 = y / 2 ^ (7 - j) % 2)
  | 0, _ => by
    constructor
    · intro _ j hj; omega
    · intro _; rw [Nat.div_eq_of_lt hx, Nat.div_eq_of_lt hy]
  | r + 1, hr => by
    have ih := div_bits hx hy r (by omega)
    have e1 : ∀ z, z / 2 ^ (8 - r) = z / 2 ^ (7 - r) / 2 := fun z => by rw [show 8 - r = (7 - r) + 1 by omega, Nat.pow_succ, Nat.div_div_eq_div_mul]
    rw [e1, e1] at ih
    rw [show 8 - (r + 1) = 7 - r by omega]
    constructor
    · intro h j hj
      by_cases hjr : j = r
      · subst hjr; rw [h]
      · exact ih.1 (by rw [h]) j (by omega)
    · intro h
      have h1 := ih.2 fun j hj => h j (by omega)
      have h2 := h r (by omega)
      omega
theorem keepH_bits {x y r : Nat} (hx : x < 256) (hy : y < 256) (hr : r ≤ 8) : keepH x r = keepH y r ↔ ∀ j, j < r → x / 2 ^ (7 - j) % 2 = y / 2 ^ (7 - j) % 2 := keepH_eq.trans (div_bits hx hy r hr)
/-- what is left of two bytes' difference, of which r bits count -/
def zInt (x y : UInt8) (r : Nat) : Int := bits BinOp.and IntKind.u8 (bits BinOp.xor IntKind.u8 (x.toNat : Int) (y.toNat : Int)) (maskN r : Nat)
theorem xor_nat (x y : UInt8) : bits BinOp.xor IntKind.u8 (x.toNat : Int) (y.toNat : Int) = (((x ^^^ y).toNat : Nat) : Int) := by
  have hx := UInt8.toNat_lt x
  have hy := UInt8.toNat_lt y
  have hz := UInt8.toNat_lt (x ^^^ y)
  have e : ∀ u : UInt8, (BitVec.ofInt 8 (u.toNat : Int)).toNat = u.toNat := fun u => by
    have := UInt8.toNat_lt u
    rw [BitVec.toNat_ofInt]
    omega
  have e2 : (BitVec.ofInt 8 (x.toNat : Int) ^^^ BitVec.ofInt 8 (y.toNat : Int)).toNat = (x ^^^ y).toNat := by
    rw [BitVec.toNat_xor, e, e, UInt8.toNat_xor]
  show IntKind.u8.wrap (((BitVec.ofInt 8 (x.toNat : Int) ^^^ BitVec.ofInt 8 (y.toNat : Int)).toNat : Nat) : Int) = _
  rw [e2, wrap_u8 _ (by omega) (by omega)]
theorem xor_zero {a b : Nat} (h : a ^^^ b = 0) : a = b := by
  have h1 : a ^^^ b ^^^ b = b := by rw [h, Nat.zero_xor]
  rw [Nat.xor_assoc, Nat.xor_self, Nat.xor_zero] at h1
  exact h1
theorem zInt_eq (x y : UInt8) (r : Nat) (hr : r ≤ 8) : (zInt x y r = 0) ↔ keepH x.toNat r = keepH y.toNat r := by
  unfold zInt
  rw [xor_nat, mask_keep _ _ hr, keepH_eq]
  unfold keepH
  rw [UInt8.toNat_xor]
  constructor
  · intro h
    have h1 : (x.toNat ^^^ y.toNat) / 2 ^ (8 - r) = 0 := by
      have h2 : (x.toNat ^^^ y.toNat) / 2 ^ (8 - r) * 2 ^ (8 - r) = 0 := by omega
      rcases Nat.mul_eq_zero.1 h2 with h3 | h3
      · exact h3
      · exact absurd h3 (Nat.ne_of_gt (Nat.pow_pos (by omega)))
    rw [← Nat.shiftRight_eq_div_pow, Nat.shiftRight_xor_distrib] at h1
    rw [← Nat.shiftRight_eq_div_pow, ← Nat.shiftRight_eq_div_pow]
    exact xor_zero h1
  · intro h
    have h1 : (x.toNat ^^^ y.toNat) / 2 ^ (8 - r) = 0 := by
      rw [← Nat.shiftRight_eq_div_pow, Nat.shiftRight_xor_distrib]
      rw [← Nat.shiftRight_eq_div_pow, ← Nat.shiftRight_eq_div_pow] at h
      rw [h]; exact Nat.xor_self _
    rw [h1]; simp
/-- the first bits of the pairs are the same -/
def okP (bits : Int) (l : List (UInt8 × UInt8)) : Prop := ∀ q, q < l.length → zInt (l.getD q (0, 0)).1 (l.getD q (0, 0)).2 (clampN (bits - 8 * q)) = 0
theorem okP_nil (bits : Int) : okP bits [] := fun q h => absurd h (by simp)
theorem okP_next {bits : Int} {l : List (UInt8 × UInt8)} {x : UInt8 × UInt8} (h : okP bits l) (hx : zInt x.1 x.2 (clampN (bits - 8 * l.length)) = 0) : okP bits (l ++ [x]) := by
  intro q hq
  rw [List.length_append, List.length_singleton] at hq
  by_cases he : q < l.length
  · have := h q he
    simp only [List.getD, List.getElem?_append_left he] at this ⊢
    exact this
  · obtain rfl : q = l.length := by omega
    simp only [List.getD, List.getElem?_concat_length, Option.getD_some]
    exact hx
theorem okP_bad {bits : Int} {l : List (UInt8 × UInt8)} {x : UInt8 × UInt8} (hx : zInt x.1 x.2 (clampN (bits - 8 * l.length)) ≠ 0) : ¬ okP bits (l ++ [x]) := by
  intro h
  have := h l.length (by simp)
  simp only [List.getD, List.getElem?_concat_length, Option.getD_some] at this
  exact hx this
theorem okP_take {bits : Int} {l : List (UInt8 × UInt8)} (h : okP bits l) (k : Nat) : okP bits (l.take k) := by
  intro q hq
  rw [List.length_take] at hq
  have := h q (by omega)
  simp only [List.getD, List.getElem?_take] at this ⊢
  rw [if_pos (by omega)]
  exact this
theorem okP_has {a b : List UInt8} {bits : Int} (hr : rightP a.length bits = true) (hl : a.length = b.length) : hasP a bits b = true ↔ okP bits (a.zip b) := by
  obtain ⟨hlen, hb0, hb8⟩ := right_len hr
  have hz : (a.zip b).length = a.length := by rw [List.length_zip]; omega
  have hget : ∀ q, q < a.length → (a.zip b).getD q (0, 0) = (a.getD q 0, b.getD q 0) := fun q hq => by
    have hqb : q < b.length := by omega
    have hqz : q < (a.zip b).length := by rw [hz]; exact hq
    simp [List.getD, List.getElem?_eq_getElem hq, List.getElem?_eq_getElem hqb, List.getElem?_eq_getElem hqz]
  have hk : ∀ q, q < a.length → (zInt (a.getD q 0) (b.getD q 0) (clampN (bits - 8 * q)) = 0 ↔ ∀ j, j < clampN (bits - 8 * q) → bitAt b (8 * q + j) = bitAt a (8 * q + j)) := fun q hq => by
    rw [zInt_eq _ _ _ (clampN_le _), keepH_bits (UInt8.toNat_lt _) (UInt8.toNat_lt _) (clampN_le _)]
    have hc := clampN_le (bits - 8 * q)
    constructor
    · intro h j hj
      have := h j hj
      unfold bitAt
      rw [show (8 * q + j) / 8 = q by omega, show (8 * q + j) % 8 = j by omega]
      exact this.symm
    · intro h j hj
      have := h j hj
      unfold bitAt at this
      rw [show (8 * q + j) / 8 = q by omega, show (8 * q + j) % 8 = j by omega] at this
      exact this.symm
  unfold hasP
  rw [hr, show (b.length == a.length) = true by simpa using hl.symm]
  simp only [Bool.true_and, List.all_eq_true, List.mem_range, beq_iff_eq]
  constructor
  · intro h q hq
    rw [hz] at hq
    rw [hget q hq]
    refine (hk q hq).2 fun j hj => h _ ?_
    unfold clampN at hj; omega
  · intro h i hi
    have hq : i / 8 < a.length := by omega
    have h1 := h (i / 8) (by rw [hz]; exact hq)
    rw [hget _ hq] at h1
    have h2 := (hk _ hq).1 h1 (i % 8) (by unfold clampN; omega)
    rw [show 8 * (i / 8) + i % 8 = i by omega] at h2
    exact h2
theorem has_results (W : World) (b : Nat) (r : Bool) (h : W.cell? ⟨b, 0, none⟩ = some (.bool r)) (T : Array Value) (h2 : T.getD 4 undef = .pointer (some ⟨b, 0, none⟩)) :
    (results Try.f9 T).run Try.prog W = .ok (.bool r) W := by
  have e2 : T[4]?.getD undef = .pointer (some ⟨b, 0, none⟩) := by simpa using h2
  simp [results, Try.results9, go_sem, e2, h]
set_option maxHeartbeats 8000000 in
theorem ahas_any (a b : List UInt8) (ad bd : Option Addr) (cp cb : Nat) (bits : Int) (w : World) (ha : Bytes w (.slice ad a.length cp) a) (hb : Bytes w (.slice bd b.length cb) b) (hac : a.length ≤ cp) (hcm : cp ≤ maxLen) (hbc : b.length ≤ cb) (hbm : cb ≤ maxLen) (hal : a.length ≤ 1000) (hbl : b.length ≤ 1000) :
    Calls Try.prog 9 #[.agg #[.slice ad a.length cp, .int .i64 bits], .slice bd b.length cb] w (RightRet w (hasP a bits b)) := by
  have e0 := heap_alloc_new w (.cells #[.slice ad a.length cp, .int .i64 bits] 24)
  have e1 := heap_alloc_new (w.alloc (.cells #[.slice ad a.length cp, .int .i64 bits] 24)) (.cells #[.bool false] 4)
  have s1 : (w.alloc (.cells #[.slice ad a.length cp, .int .i64 bits] 24)).heap.size = w.heap.size + 1 := by simp
  rw [s1] at e1
  have k0 := (below_one (w := w.alloc (.cells #[.slice ad a.length cp, .int .i64 bits] 24)) (.cells #[.bool false] 4)).block w.heap.size (by rw [s1]; omega)
  rw [e0] at k0
  have HK0 := Lib.hid k0
  have HK1 := Lib.hid e1
  have HB0 : Hid (Below w.heap.size w ((w.alloc (.cells #[.slice ad a.length cp, .int .i64 bits] 24)).alloc (.cells #[.bool false] 4))) := Lib.hid (((Below.refl _ _).alloc (Nat.le_refl _) _).alloc (by simp) _)
  have c0 : (((w.alloc (.cells #[.slice ad a.length cp, .int .i64 bits] 24)).alloc (.cells #[.bool false] 4))).cell? ⟨w.heap.size, 0, none⟩ = some (.slice ad a.length cp) := cell_of k0 0 rfl
  have c1 : (((w.alloc (.cells #[.slice ad a.length cp, .int .i64 bits] 24)).alloc (.cells #[.bool false] 4))).cell? ⟨w.heap.size, 1, none⟩ = some (.int .i64 bits) := cell_of k0 1 rfl
  have HVA := Lib.hid ha
  have HVB := Lib.hid hb
  have hali : (a.length : Int) ≤ 1000 := by omega
  have hbli : (b.length : Int) ≤ 1000 := by omega
  clear e0 e1 s1 k0 ha hb
  cases hr : rightP a.length bits with
  | false =>
    have HR : Hid (hasP a bits b = false) := Lib.hid (by unfold hasP; rw [hr]; rfl)
    have HRI := Lib.hid (aright_v ad a.length cp bits (by omega) false hr)
    clear hr
    (refine calls_of_wp_marks Try.func9 rfl ?_; simp only [Try.ntmps9, List.size_toArray, List.length_cons, List.length_nil, Nat.reduceAdd, Nat.reduceSub, Array.replicate_succ, Array.replicate_zero, List.push_toArray, List.append_toArray, List.nil_append, List.cons_append])
    go_wp2_with (first | (go_at_call 7; ((with_reducible refine (HRI.out _).mono ?_); rintro e w2 ⟨rfl, hb2⟩; have hx0 := (hb2.block _ (by simp only [World.size_alloc]; omega)).trans HK0.out; have hx1 := (hb2.block _ (by simp only [World.size_alloc]; omega)).trans HK1.out; have HX0 := Lib.hid hx0; have HX1 := Lib.hid hx1; have HB := Lib.hid (Below.next HB0.out hb2); have hsz : w.heap.size + 2 ≤ w2.heap.size := (by have := hb2.size; simp only [World.size_alloc] at this; omega); have c0 : w2.cell? ⟨w.heap.size, 0, none⟩ = some (.slice ad a.length cp) := cell_of hx0 0 rfl; have c1 : w2.cell? ⟨w.heap.size, 1, none⟩ = some (.int .i64 bits) := cell_of hx0 1 rfl; have cA : ∀ o, (w2.alloc o).cell? ⟨w.heap.size, 0, none⟩ = some (.slice ad a.length cp) := fun o => cell_of (((below_one o).block _ (Array.getElem?_eq_some_iff.1 hx0).1).trans hx0) 0 rfl; have d0 : w2.cell? ⟨w.heap.size + 1, 0, none⟩ = some (.bool false) := cell_of hx1 0 rfl; have g1 := fun i => free_of hx1 i; clear hb2 hx0 hx1)) | fail)
    refine postM_ret (has_results _ _ false (World.cell?_setCell_same' _ _ _ (by rw [d0]; rfl)) _ rfl) rfl ⟨ret_bool HR.out.symm, HB.out.setCell (by simp) _⟩
  | true =>
    by_cases hlen : b.length = a.length
    · have hne : ((b.length : Int) != a.length) = false := bneq_i (by omega)
      have HRI := Lib.hid (aright_v ad a.length cp bits (by omega) true hr)
      have HOK := Lib.hid (okP_has (b := b) hr hlen.symm)
      obtain ⟨hlen4, hb0, hb8⟩ := right_len hr
      have HAT := Lib.hid (bytes_cell HVA.out (by omega))
      have HBT := Lib.hid (bytes_cell HVB.out (by omega))
      have H0 : Hid (0 < a.length) := Lib.hid (by omega)
      clear hr hlen4
      (refine calls_of_wp_marks Try.func9 rfl ?_; simp only [Try.ntmps9, List.size_toArray, List.length_cons, List.length_nil, Nat.reduceAdd, Nat.reduceSub, Array.replicate_succ, Array.replicate_zero, List.push_toArray, List.append_toArray, List.nil_append, List.cons_append])
      go_wp2_with (first | (go_at_call 7; ((with_reducible refine (HRI.out _).mono ?_); rintro e w2 ⟨rfl, hb2⟩; have hx0 := (hb2.block _ (by simp only [World.size_alloc]; omega)).trans HK0.out; have hx1 := (hb2.block _ (by simp only [World.size_alloc]; omega)).trans HK1.out; have HX0 := Lib.hid hx0; have HX1 := Lib.hid hx1; have HB := Lib.hid (Below.next HB0.out hb2); have hsz : w.heap.size + 2 ≤ w2.heap.size := (by have := hb2.size; simp only [World.size_alloc] at this; omega); have c0 : w2.cell? ⟨w.heap.size, 0, none⟩ = some (.slice ad a.length cp) := cell_of hx0 0 rfl; have c1 : w2.cell? ⟨w.heap.size, 1, none⟩ = some (.int .i64 bits) := cell_of hx0 1 rfl; have cA : ∀ o, (w2.alloc o).cell? ⟨w.heap.size, 0, none⟩ = some (.slice ad a.length cp) := fun o => cell_of (((below_one o).block _ (Array.getElem?_eq_some_iff.1 hx0).1).trans hx0) 0 rfl; have d0 : w2.cell? ⟨w.heap.size + 1, 0, none⟩ = some (.bool false) := cell_of hx1 0 rfl; have g1 := fun i => free_of hx1 i; clear hb2 hx0 hx1)) | (go_at_call 18; ((with_reducible refine (pairs_any _ _ _ _ _ _ _).mono ?_); rintro e w3 ⟨rfl, rfl⟩)) | fail)
      obtain ⟨bk, off, rfl, hca⟩ := HAT.out
      obtain ⟨bl, ofl, rfl, hcb⟩ := HBT.out
      obtain ⟨L, hL⟩ : ∃ L, w2.heap.size = L := ⟨_, rfl⟩
      rw [hL] at hsz ⊢
      have eL := heap_alloc_new w2 (.cells #[.int .i64 bits] 3)
      have eA := heap_alloc_new (w2.alloc (.cells #[.int .i64 bits] 3)) (.cells #[.slice (some ⟨bk, off, none⟩) a.length cp] 22)
      have eB := heap_alloc_new ((w2.alloc (.cells #[.int .i64 bits] 3)).alloc (.cells #[.slice (some ⟨bk, off, none⟩) a.length cp] 22)) (.cells #[.slice (some ⟨bl, ofl, none⟩) a.length cb] 22)
      simp only [World.size_alloc, hL] at eL eA eB
      have hb5 : Below (L + 2) ((w2.alloc (.cells #[.int .i64 bits] 3)).alloc (.cells #[.slice (some ⟨bk, off, none⟩) a.length cp] 22)) (((w2.alloc (.cells #[.int .i64 bits] 3)).alloc (.cells #[.slice (some ⟨bk, off, none⟩) a.length cp] 22)).alloc (.cells #[.slice (some ⟨bl, ofl, none⟩) a.length cb] 22)) := (Below.refl _ _).alloc (by simp [hL]) _
      have hb4 : Below (L + 1) (w2.alloc (.cells #[.int .i64 bits] 3)) ((w2.alloc (.cells #[.int .i64 bits] 3)).alloc (.cells #[.slice (some ⟨bk, off, none⟩) a.length cp] 22)) := (Below.refl _ _).alloc (by simp [hL]) _
      have hb3 : Below L w2 (w2.alloc (.cells #[.int .i64 bits] 3)) := (Below.refl _ _).alloc (by rw [hL]; exact Nat.le_refl _) _
      obtain ⟨W0, hW0⟩ : ∃ W0, ((w2.alloc (.cells #[.int .i64 bits] 3)).alloc (.cells #[.slice (some ⟨bk, off, none⟩) a.length cp] 22)).alloc (.cells #[.slice (some ⟨bl, ofl, none⟩) a.length cb] 22) = W0 := ⟨_, rfl⟩
      have hs0 : W0.heap.size = L + 1 + 1 + 1 := by rw [← hW0]; simp [hL]
      rw [hW0] at eB hb5 ⊢
      have fL := (hb5.block L (by omega)).trans ((hb4.block L (by omega)).trans eL)
      have fA := (hb5.block (L + 1) (by omega)).trans eA
      have fR : W0.heap[w.heap.size + 1]? = some (.cells #[.bool false] 4 (0, 0)) := (hb5.block _ (by omega)).trans ((hb4.block _ (by omega)).trans ((hb3.block _ (by omega)).trans HX1.out))
      have hB0 : Below w.heap.size w W0 := HB.out.trans (((hb3.mono (by omega)).trans (hb4.mono (by omega))).trans (hb5.mono (by omega)))
      have HK : Hid _ := Lib.hid (pairs_stops Fence.wide (9 - 1) (openF_wide _) rfl (by decide) (L + 1) (L + 1 + 1) w.heap.size bk off bl ofl cp cb a b hlen.symm hal W0 (by omega) (by omega) (by omega) (cell_of fA 0 rfl) (by rw [hlen]; exact cell_of eB 0 rfl)
        ⟨World.block_lt_of_cell? w _ (hca 0 H0.out), fun i hi => (hB0.cell (p := ⟨bk, off + i, none⟩) (World.block_lt_of_cell? w _ (hca i hi))).trans (hca i hi)⟩
        ⟨World.block_lt_of_cell? w _ (hcb 0 (by have := H0.out; omega)), fun i hi => (hB0.cell (p := ⟨bl, ofl + i, none⟩) (World.block_lt_of_cell? w _ (hcb i hi))).trans (hcb i hi)⟩)
      refine wpIn_wide.1 (wpIn_rangeFunc_ownG (n := 9) rfl (by decide) (gf := 24) (lb := #[.pointer (some ⟨L + 1, 0, none⟩), .pointer (some ⟨L + 1 + 1, 0, none⟩)]) rfl trivial (enters_of Try.func24 (by kernel_rfl) rfl)
        HK.out kpB_t (kpB_b (by omega) (by omega) (by omega)) (Below.refl _ _) (fun _ => rfl)
        (fun pre W => (okP bits pre ∧ W.cell? ⟨L, 0, none⟩ = some (.int .i64 (bits - 8 * pre.length)) ∧ W.frozen? ⟨L, 0, none⟩ = false ∧ W.cell? ⟨w.heap.size + 1, 0, none⟩ = some (.bool false) ∧ W.frozen? ⟨w.heap.size + 1, 0, none⟩ = false) ∧ Below w.heap.size w W)
        (fun c pre W => (c = .ret ∧ ¬ okP bits pre ∧ W.cell? ⟨w.heap.size + 1, 0, none⟩ = some (.bool false)) ∧ Below w.heap.size w W)
        (OwnFrom.and (Own.from (fun s A B row hs hg hr => ⟨hs.1, cell_kept hs.2.1 hg hr, (frozen_kept hs.2.1 hg hr).trans hs.2.2.1, cell_kept hs.2.2.2.1 hg hr, (frozen_kept hs.2.2.2.1 hg hr).trans hs.2.2.2.2⟩) _) (ownFrom_below (Nat.le_refl _) (by omega)))
        (fun c => OwnFrom.and (Own.from (fun s A B row hs hg hr => ⟨hs.1, hs.2.1, cell_kept hs.2.2 hg hr⟩) _) (ownFrom_below (Nat.le_refl _) (by omega)))
        ⟨⟨okP_nil _, by simpa using cell_of fL 0 rfl, free_of fL 0, cell_of fR 0 rfl, free_of fR 0⟩, hB0⟩ ?a1 ?assign ?body ?done ?stop)
      case assign =>
        intro l x W K hK
        gi_wp2
        exact hK
      case body =>
        rintro l pre x W ⟨⟨hok, hcl, hfl, hcr, hfr⟩, hB⟩ hpre
        obtain ⟨lv, hlv⟩ : ∃ lv, bits - 8 * (pre.length : Int) = lv := ⟨_, rfl⟩
        obtain ⟨mk, hmk⟩ : ∃ m, maskN (clampN lv) = m := ⟨_, rfl⟩
        rw [hlv] at hcl
        have HM : Hid (∀ w, CallsIn (Fence.wide.inRound l) (9 - 1 - 1 - 1) Try.prog 16 #[.int .i64 lv] w fun e w' => e = .returned (.int .u8 (mk : Int)) ∧ w' = w) := Lib.hid (fun w => CallsIn.inRound l (callsIn_wide.2 (by rw [← hmk]; exact mask_any _ (by omega) (by omega) w)))
        have HZ : Hid (zInt x.1 x.2 (clampN (bits - 8 * pre.length)) = Go.bits BinOp.and IntKind.u8 (Go.bits BinOp.xor IntKind.u8 (x.1.toNat : Int) (x.2.toNat : Int)) (mk : Int)) := Lib.hid (by rw [hlv, ← hmk]; rfl)
        obtain ⟨z, hz⟩ : ∃ z, Go.bits BinOp.and IntKind.u8 (Go.bits BinOp.xor IntKind.u8 (x.1.toNat : Int) (x.2.toNat : Int)) (mk : Int) = z := ⟨_, rfl⟩
        have HZ2 : Hid (zInt x.1 x.2 (clampN (bits - 8 * pre.length)) = z) := Lib.hid (HZ.out.trans hz)
        have hw := wrap_s64 (lv - 8) (by omega) (by omega)
        have HLV : Hid (lv - 8 = bits - 8 * ((pre ++ [x]).length : Nat)) := Lib.hid (by rw [List.length_append, List.length_singleton]; omega)
        have HOKP := Lib.hid hok
        have HBW := Lib.hid hB
        have HLN : Hid (w.heap.size + 2 ≤ L) := Lib.hid hsz
        clear hlv hmk hok hB HZ hsz hpre hs0
        by_cases h0 : z = 0
        · have hz0 : (z != 0) = false := bneq_i h0
          gi_wp2_with (refine ⟨trivial, ?_⟩; gi_at_call 16; (with_reducible refine (HM.out _).mono ?_); rintro e w' ⟨rfl, rfl⟩)
          refine ⟨(KeepsOthers.setCell _ _ _).from _, kpB_set (by have := HLN.out; omega) (by omega) (by omega), ⟨okP_next HOKP.out (HZ2.out.trans h0), ?_, ?_, ?_, ?_⟩, HBW.out.setCell (by have := HLN.out; show w.heap.size ≤ L; omega) _⟩
          · rw [← HLV.out]; exact World.cell?_setCell_same' _ _ _ (by rw [hcl]; rfl)
          · rw [World.frozen?_setCell]; exact hfl
          · have hne : w.heap.size + 1 ≠ L := by have := HLN.out; omega
            rw [← hcr]; simp [World.cell?, heap_other hne]
          · rw [World.frozen?_setCell]; exact hfr
        · have hz0 : (z != 0) = true := bnne_i h0
          gi_wp2_with (refine ⟨trivial, ?_⟩; gi_at_call 16; (with_reducible refine (HM.out _).mono ?_); rintro e w' ⟨rfl, rfl⟩)
          exact ⟨(KeepsOthers.setCell _ _ _).from _, ⟨rfl, okP_bad (by rw [HZ2.out]; exact h0), World.cell?_setCell_same' _ _ _ (by rw [hcr]; rfl)⟩, HBW.out.setCell (by simp) _⟩
      case done =>
        rintro D ys W hD rfl ⟨⟨hok, hcl, hfl, hcr, hfr⟩, hB⟩ hK
        have HR : Hid (hasP a bits b = true) := Lib.hid (HOK.out.2 hok)
        clear hok hcl hfl
        go_wp2_with fail
        have hK' := (KeepsOthers.setCell W ⟨w.heap.size + 1, 0, none⟩ (.bool true)).same D _ hK rfl
        exact postM_mark hK' rfl (has_results _ _ true (mark_cell (o := .deferred none) hK' (World.cell?_setCell_same' _ _ _ (by rw [hcr]; rfl))) _ rfl) ⟨ret_bool HR.out.symm, mark_below (hB.setCell (by simp) _) (by omega) hK'⟩
      case stop =>
        rintro D c pre W hD ⟨k, hk, rfl⟩ ⟨⟨rfl, hno, hcr⟩, hB⟩ hK
        have HR : Hid (hasP a bits b = false) := Lib.hid (by
          cases h : hasP a bits b with
          | false => rfl
          | true => exact absurd (okP_take (HOK.out.1 h) k) hno)
        refine wpIn_wide.2 ?_
        go_wp2_with fail
        exact postM_mark hK rfl (has_results _ _ false (mark_cell (o := .deferred none) hK hcr) _ rfl) ⟨ret_bool HR.out.symm, mark_below hB (by omega) hK⟩
    · have hne : ((b.length : Int) != a.length) = true := bnne_i (by omega)
      have HR : Hid (hasP a bits b = false) := Lib.hid (by unfold hasP; rw [show (b.length == a.length) = false by simpa using hlen]; simp)
      have HRI := Lib.hid (aright_v ad a.length cp bits (by omega) true hr)
      clear hr hlen
      (refine calls_of_wp_marks Try.func9 rfl ?_; simp only [Try.ntmps9, List.size_toArray, List.length_cons, List.length_nil, Nat.reduceAdd, Nat.reduceSub, Array.replicate_succ, Array.replicate_zero, List.push_toArray, List.append_toArray, List.nil_append, List.cons_append])
      go_wp2_with (first | (go_at_call 7; ((with_reducible refine (HRI.out _).mono ?_); rintro e w2 ⟨rfl, hb2⟩; have hx0 := (hb2.block _ (by simp only [World.size_alloc]; omega)).trans HK0.out; have hx1 := (hb2.block _ (by simp only [World.size_alloc]; omega)).trans HK1.out; have HX0 := Lib.hid hx0; have HX1 := Lib.hid hx1; have HB := Lib.hid (Below.next HB0.out hb2); have hsz : w.heap.size + 2 ≤ w2.heap.size := (by have := hb2.size; simp only [World.size_alloc] at this; omega); have c0 : w2.cell? ⟨w.heap.size, 0, none⟩ = some (.slice ad a.length cp) := cell_of hx0 0 rfl; have c1 : w2.cell? ⟨w.heap.size, 1, none⟩ = some (.int .i64 bits) := cell_of hx0 1 rfl; have cA : ∀ o, (w2.alloc o).cell? ⟨w.heap.size, 0, none⟩ = some (.slice ad a.length cp) := fun o => cell_of (((below_one o).block _ (Array.getElem?_eq_some_iff.1 hx0).1).trans hx0) 0 rfl; have d0 : w2.cell? ⟨w.heap.size + 1, 0, none⟩ = some (.bool false) := cell_of hx1 0 rfl; have g1 := fun i => free_of hx1 i; clear hb2 hx0 hx1)) | fail)
      refine postM_ret (has_results _ _ false (World.cell?_setCell_same' _ _ _ (by rw [d0]; rfl)) _ rfl) rfl ⟨ret_bool HR.out.symm, HB.out.setCell (by simp) _⟩
theorem within_eq (a b : List UInt8) (m n : Int) : withinP a m b n = (rightP a.length m && (decide (n ≤ m) && hasP b n a)) := by
  unfold withinP hasP
  cases rightP a.length m <;> cases rightP b.length n <;> cases h : (a.length == b.length) <;> cases decide (n ≤ m) <;> simp
set_option maxHeartbeats 4000000 in
theorem awithin_any (a b : List UInt8) (ad bd : Option Addr) (cp cb : Nat) (m n : Int) (w : World) (ha : Bytes w (.slice ad a.length cp) a) (hb : Bytes w (.slice bd b.length cb) b) (hac : a.length ≤ cp) (hcm : cp ≤ maxLen) (hbc : b.length ≤ cb) (hbm : cb ≤ maxLen) (hal : a.length ≤ 1000) (hbl : b.length ≤ 1000) :
    Calls Try.prog 13 #[.agg #[.slice ad a.length cp, .int .i64 m], .agg #[.slice bd b.length cb, .int .i64 n]] w (RightRet w (withinP a m b n)) := by
  have e0 := heap_alloc_new w (.cells #[.slice ad a.length cp, .int .i64 m] 24)
  have e1 := heap_alloc_new (w.alloc (.cells #[.slice ad a.length cp, .int .i64 m] 24)) (.cells #[.slice bd b.length cb, .int .i64 n] 24)
  have s1 : (w.alloc (.cells #[.slice ad a.length cp, .int .i64 m] 24)).heap.size = w.heap.size + 1 := by simp
  rw [s1] at e1
  have k0 := (below_one (w := w.alloc (.cells #[.slice ad a.length cp, .int .i64 m] 24)) (.cells #[.slice bd b.length cb, .int .i64 n] 24)).block w.heap.size (by rw [s1]; omega)
  rw [e0] at k0
  have c0 : (((w.alloc (.cells #[.slice ad a.length cp, .int .i64 m] 24)).alloc (.cells #[.slice bd b.length cb, .int .i64 n] 24))).cell? ⟨w.heap.size, 0, none⟩ = some (.slice ad a.length cp) := cell_of k0 0 rfl
  have c1 : (((w.alloc (.cells #[.slice ad a.length cp, .int .i64 m] 24)).alloc (.cells #[.slice bd b.length cb, .int .i64 n] 24))).cell? ⟨w.heap.size, 1, none⟩ = some (.int .i64 m) := cell_of k0 1 rfl
  have c2 : (((w.alloc (.cells #[.slice ad a.length cp, .int .i64 m] 24)).alloc (.cells #[.slice bd b.length cb, .int .i64 n] 24))).cell? ⟨w.heap.size + 1, 0, none⟩ = some (.slice bd b.length cb) := cell_of e1 0 rfl
  have c3 : (((w.alloc (.cells #[.slice ad a.length cp, .int .i64 m] 24)).alloc (.cells #[.slice bd b.length cb, .int .i64 n] 24))).cell? ⟨w.heap.size + 1, 1, none⟩ = some (.int .i64 n) := cell_of e1 1 rfl
  have HB0 : Hid (Below w.heap.size w ((w.alloc (.cells #[.slice ad a.length cp, .int .i64 m] 24)).alloc (.cells #[.slice bd b.length cb, .int .i64 n] 24))) := Lib.hid (((Below.refl _ _).alloc (Nat.le_refl _) _).alloc (by simp) _)
  have HVA := Lib.hid ha
  have HVB := Lib.hid hb
  have HE := Lib.hid (within_eq a b m n)
  clear e0 e1 s1 k0 ha hb
  cases hr : rightP a.length m with
  | false =>
    have HR : Hid (withinP a m b n = false) := Lib.hid (by rw [HE.out, hr]; rfl)
    have HRI := Lib.hid (aright_v ad a.length cp m (by omega) false hr)
    clear hr
    go_enter Try.func13, Try.ntmps13
    go_wp2_with (first | (go_at_call 7; ((with_reducible refine (HRI.out _).mono ?_); rintro e w2 ⟨rfl, hb2⟩; have c0 := cell_keep4 c0 hb2; have c1 := cell_keep4 c1 hb2; have c2 := cell_keep4 c2 hb2; have c3 := cell_keep4 c3 hb2; have HB := Lib.hid (Below.next HB0.out hb2); clear hb2)) | fail)
    go_ret
    exact ⟨ret_bool HR.out.symm, HB.out⟩
  | true =>
    have HRI := Lib.hid (aright_v ad a.length cp m (by omega) true hr)
    by_cases hnm : n ≤ m
    · obtain ⟨h, hh⟩ : ∃ h, hasP b n a = h := ⟨_, rfl⟩
      have HR : Hid (withinP a m b n = h) := Lib.hid (by rw [HE.out, hr, hh, decide_eq_true hnm]; rfl)
      have HHA : Hid (∀ w, Bytes w (.slice bd b.length cb) b → Bytes w (.slice ad a.length cp) a → Calls Try.prog 9 #[.agg #[.slice bd b.length cb, .int .i64 n], .slice ad a.length cp] w fun e w' => e = .returned (.bool h) ∧ Below w.heap.size w w') :=
        Lib.hid (fun w h1 h2 => by rw [← hh]; exact ahas_any b a bd ad cb cp n w h1 h2 hbc hbm hac hcm hbl hal)
      clear hr hh
      go_enter Try.func13, Try.ntmps13
      go_wp2_with (first | (go_at_call 7; ((with_reducible refine (HRI.out _).mono ?_); rintro e w2 ⟨rfl, hb2⟩; have c0 := cell_keep4 c0 hb2; have c1 := cell_keep4 c1 hb2; have c2 := cell_keep4 c2 hb2; have c3 := cell_keep4 c3 hb2; have HB := Lib.hid (Below.next HB0.out hb2); clear hb2)) | (go_at_call 9; ((with_reducible refine (HHA.out _ (HVB.out.below HB.out) (HVA.out.below HB.out)).mono ?_); rintro e w3 ⟨rfl, hb3⟩; have HB2 := Lib.hid (Below.next HB.out hb3); clear hb3)) | fail)
      go_ret
      exact ⟨ret_bool HR.out.symm, HB2.out⟩
    · have HR : Hid (withinP a m b n = false) := Lib.hid (by rw [HE.out, decide_eq_false hnm]; simp)
      have hmn : m < n := by omega
      clear hr hnm
      go_enter Try.func13, Try.ntmps13
      go_wp2_with (first | (go_at_call 7; ((with_reducible refine (HRI.out _).mono ?_); rintro e w2 ⟨rfl, hb2⟩; have c0 := cell_keep4 c0 hb2; have c1 := cell_keep4 c1 hb2; have c2 := cell_keep4 c2 hb2; have c3 := cell_keep4 c3 hb2; have HB := Lib.hid (Below.next HB0.out hb2); clear hb2)) | fail)
      go_ret
      exact ⟨ret_bool HR.out.symm, HB.out⟩
end Go.Proofs.Ytbaceiohcbhpaaa
