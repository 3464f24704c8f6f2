import Derived.Test.YtbaceiohcbhpaaaDoorAddr2
import Derived.StillTailTactics
import Derived.OwnWalk
import Derived.Deep.RegionHeld3
namespace Go.Proofs.YtbaceiohcbhpaaaDoor
set_option linter.unusedVariables false
set_option linter.unusedSimpArgs false
set_option maxRecDepth 100000
open Go.RowKit

def keepH (c r : Nat) : Nat := c / 2 ^ (8 - r) * 2 ^ (8 - r)
theorem keepH_le (c r : Nat) : keepH c r ≤ c := Nat.div_mul_le_self c _
theorem keepH_next {c r : Nat} (hr : r < 8) : keepH c (r + 1) = keepH c r + c / 2 ^ (7 - r) % 2 * 2 ^ (7 - r) := by
  unfold keepH
  rw [show 8 - (r + 1) = 7 - r by omega, show 8 - r = (7 - r) + 1 by omega]
  obtain ⟨m, hm⟩ : ∃ m, 2 ^ (7 - r) = m := ⟨_, rfl⟩
  have hm0 : 0 < m := by rw [← hm]; exact Nat.pow_pos (by omega)
  rw [Nat.pow_succ, hm]
  rw [← Nat.div_div_eq_div_mul]
  have h1 : c / m = c / m / 2 * 2 + c / m % 2 := by omega
  conv => lhs; rw [h1]
  rw [Nat.add_mul, Nat.mul_assoc, Nat.mul_comm 2 m]
def plainS (a : List UInt8) (i : Nat) : List UInt8 := (List.range a.length).map fun q => UInt8.ofNat (keepH (a.getD q 0).toNat (i - 8 * q))
theorem plainS_len (a : List UInt8) (i : Nat) : (plainS a i).length = a.length := by simp [plainS]
theorem plainS_get {a : List UInt8} {i q : Nat} (hq : q < a.length) : ((plainS a i).getD q 0).toNat = keepH (a.getD q 0).toNat (i - 8 * q) := by
  have h1 := keepH_le (a.getD q 0).toNat (i - 8 * q)
  have h2 := UInt8.toNat_lt (a.getD q 0)
  unfold plainS
  simp only [List.getD, List.getElem?_map, List.getElem?_range hq]
  simp only [Option.map_some, Option.getD_some]
  simp only [List.getD] at h1 h2
  rw [UInt8.toNat_ofNat', Nat.mod_eq_of_lt (by omega)]
theorem plainS_zero (a : List UInt8) : plainS a 0 = List.replicate a.length 0 := by
  apply List.ext_getElem
  · simp [plainS]
  · intro q h1 h2
    simp [plainS]
    unfold keepH
    have h2 := UInt8.toNat_lt (a[q]?.getD 0)
    simp
theorem plainS_next {a : List UInt8} {i : Nat} (hi : i < 8 * a.length) : plainS a (i + 1) = (plainS a i).set (i / 8) (UInt8.ofNat (((plainS a i).getD (i / 8) 0).toNat + bitAt a i * 2 ^ (7 - i % 8))) := by
  have hq0 : i / 8 < a.length := by omega
  apply List.ext_getElem
  · simp [plainS]
  · intro q h1 h2
    have hq : q < a.length := by rw [plainS_len] at h1; exact h1
    by_cases he : q = i / 8
    · subst he
      rw [List.getElem_set_self]
      rw [plainS_get hq0]
      unfold bitAt
      rw [show i - 8 * (i / 8) = i % 8 by omega, ← keepH_next (by omega)]
      simp [plainS]
      rw [show i + 1 - 8 * (i / 8) = i % 8 + 1 by omega]
    · rw [List.getElem_set_ne (fun h => he h.symm)]
      simp only [plainS, List.getElem_map, List.getElem_range]
      congr 1
      by_cases hlt : q < i / 8
      · unfold keepH
        rw [show 8 - (i + 1 - 8 * q) = 0 by omega, show 8 - (i - 8 * q) = 0 by omega]
      · rw [show i + 1 - 8 * q = 0 by omega, show i - 8 * q = 0 by omega]
theorem cells_set (l : List UInt8) (q : Nat) (y : UInt8) : (cellsOf l).toArray.setIfInBounds q (.int .u8 y.toNat) = (cellsOf (l.set q y)).toArray := by
  unfold cellsOf
  simp [List.map_set]
theorem cells_at {l : List UInt8} {q : Nat} (h : q < l.length) : (cellsOf l).toArray[q]? = some (.int .u8 (l.getD q 0).toNat) := by
  unfold cellsOf
  simp [List.getElem?_eq_getElem h, List.getD]
theorem own_block {w : World} {base B n : Nat} {e : TypeId} {xs : List Value} (h : w.ownsRow base e 1 (.slice (some ⟨B, 0, none⟩) n n) n xs) : w.heap[B]? = some (.cells xs.toArray e (0, 0)) := by
  rcases h.2 with ⟨h1, _⟩ | ⟨g, cap, cur, h1, _, hg, _, _, hsz, htk⟩
  · cases h1
  · injection h1 with h2 h3 h4
    injection h2 with h5
    injection h5 with h6
    subst h6; subst h4
    rw [List.take_of_length_le (by rw [Array.length_toList]; omega)] at htk
    rw [hg, ← htk]
theorem set_block {w : World} {b i : Nat} {C : Array Value} {T : TypeId} {v : Value} (h : w.heap[b]? = some (.cells C T (0, 0))) : (w.setCell ⟨b, i, none⟩ v).heap[b]? = some (.cells (C.setIfInBounds i v) T (0, 0)) := by
  simp [World.setCell, Array.getElem?_modify, h]
theorem bytes_block {w : World} {B : Nat} {L : List UInt8} {T : TypeId} {cp : Nat} (h : w.heap[B]? = some (.cells (cellsOf L).toArray T (0, 0))) : Bytes w (.slice (some ⟨B, 0, none⟩) L.length cp) L := by
  refine ⟨_, _, rfl, .inr ⟨B, 0, rfl, fun i hi => ?_⟩⟩
  rw [Nat.zero_add]
  exact cell_of h i (cells_at hi)
theorem made_zero (n : Nat) : (madeCells (Value.cells (.int .u8 0)) (n * 1)).toList = cellsOf (List.replicate n 0) := by
  apply List.ext_getElem
  · simp [size_madeCells, cellsOf]
  · intro q h1 h2
    simp [madeCells, Value.cells, cellsOf]
    rw [Nat.mod_one]
    rfl
def PlainW (w wr : World) (a : List UInt8) (ad : Option Addr) (cp : Nat) (bits : Int) (k : Nat) : Prop :=
  wr.heap[w.heap.size]? = some (.cells #[.slice ad a.length cp, .int .i64 bits] 30 (0, 0)) ∧ wr.heap[w.heap.size + 1]? = some (.cells #[.slice none 0 0, .int .i64 0] 30 (0, 0)) ∧
  wr.heap[w.heap.size + 2]? = some (.cells (cellsOf (plainS a k)).toArray 5 (0, 0)) ∧ Below w.heap.size w wr
theorem plain_start {w w3 : World} {a : List UInt8} {ad : Option Addr} {cp : Nat} {bits : Int} {base : Nat}
    (hown : w3.ownsRow base 5 1 (.slice (some ⟨((w.alloc (.cells #[.slice ad a.length cp, .int .i64 bits] 30)).alloc (.cells #[.slice none 0 0, .int .i64 0] 30)).heap.size, 0, none⟩) a.length a.length) a.length (madeCells (Value.cells (.int .u8 0)) (a.length * 1)).toList)
    (hgrow : ((w.alloc (.cells #[.slice ad a.length cp, .int .i64 bits] 30)).alloc (.cells #[.slice none 0 0, .int .i64 0] 30)).grownBy w3 none) : PlainW w w3 a ad cp bits 0 := by
  have e0 := heap_alloc_new w (.cells #[.slice ad a.length cp, .int .i64 bits] 30)
  have e1 := heap_alloc_new (w.alloc (.cells #[.slice ad a.length cp, .int .i64 bits] 30)) (.cells #[.slice none 0 0, .int .i64 0] 30)
  have s1 : (w.alloc (.cells #[.slice ad a.length cp, .int .i64 bits] 30)).heap.size = w.heap.size + 1 := by simp
  have s2 : ((w.alloc (.cells #[.slice ad a.length cp, .int .i64 bits] 30)).alloc (.cells #[.slice none 0 0, .int .i64 0] 30)).heap.size = w.heap.size + 2 := by simp
  have b2 := own_block hown
  rw [s2] at b2
  rw [s1] at e1
  have k0 := (below_one (w := w.alloc (.cells #[.slice ad a.length cp, .int .i64 bits] 30)) (.cells #[.slice none 0 0, .int .i64 0] 30)).block w.heap.size (by rw [s1]; omega)
  refine ⟨?_, ?_, ?_, ?_⟩
  · rw [hgrow.block _ (by rw [s2]; omega) (by simp), k0]; exact e0
  · rw [hgrow.block _ (by rw [s2]; omega) (by simp)]; exact e1
  · rw [b2, made_zero, plainS_zero]
  · exact (((Below.refl _ _).alloc (Nat.le_refl _) _).alloc (by simp) _).grown hgrow (by rw [s2]; omega) (fun k hk => by cases hk)
theorem plain_bd {a : List UInt8} {k : Nat} (hk : k < 8 * a.length) : ((plainS a k).getD (k / 8) 0).toNat + bitAt a k * 2 ^ (7 - k % 8) < 256 := by
  have h1 := plainS_get (a := a) (i := k) (q := k / 8) (by omega)
  have h2 := keepH_le (a.getD (k / 8) 0).toNat (k % 8 + 1)
  rw [keepH_next (by omega)] at h2
  have h3 := UInt8.toNat_lt (a.getD (k / 8) 0)
  rw [h1, show k - 8 * (k / 8) = k % 8 by omega]
  unfold bitAt
  omega
theorem plain_step {w wr : World} {a : List UInt8} {ad : Option Addr} {cp : Nat} {bits : Int} {k x y : Nat} (h : PlainW w wr a ad cp bits k) (hn : plainS a (k + 1) = (plainS a k).set (k / 8) (UInt8.ofNat (y + x * 2 ^ (7 - k % 8)))) (hy : y + x * 2 ^ (7 - k % 8) < 256) {v : Int} (hv : v = ((y + x * 2 ^ (7 - k % 8) : Nat) : Int)) :
    PlainW w (wr.setCell ⟨w.heap.size + 1 + 1, k / 8, none⟩ (.int .u8 v)).drew a ad cp bits (k + 1) := by
  subst hv
  have hs : ∀ j v, j ≠ w.heap.size + 1 + 1 → (wr.setCell ⟨w.heap.size + 1 + 1, k / 8, none⟩ v).drew.heap[j]? = wr.heap[j]? := fun j v hj => by
    show (wr.setCell ⟨w.heap.size + 1 + 1, k / 8, none⟩ v).heap[j]? = wr.heap[j]?
    simp [World.setCell, Array.getElem?_modify, hj.symm]
  refine ⟨by rw [hs _ _ (by omega)]; exact h.1, by rw [hs _ _ (by omega)]; exact h.2.1, ?_, ((h.2.2.2).setCell (by simp; omega) _).drew⟩
  have hb : wr.heap[w.heap.size + 1 + 1]? = some (.cells (cellsOf (plainS a k)).toArray 5 (0, 0)) := h.2.2.1
  have h2 := set_block (i := k / 8) (v := .int .u8 ((y + x * 2 ^ (7 - k % 8) : Nat) : Int)) hb
  have e : ((y + x * 2 ^ (7 - k % 8) : Nat) : Int) = ((UInt8.ofNat (y + x * 2 ^ (7 - k % 8))).toNat : Int) := by
    rw [UInt8.toNat_ofNat', Nat.mod_eq_of_lt hy]
  rw [e, cells_set, ← hn] at h2
  rw [e]
  exact h2
theorem plain_results (W : World) (b : Nat) (ad : Option Addr) (n cp : Nat) (bits : Int) (h : W.heap[b]? = some (.cells #[.slice ad n cp, .int .i64 bits] 30 (0, 0))) (T : Array Value) (h2 : T.getD 2 undef = .pointer (some ⟨b, 0, none⟩)) :
    (results Tryd.f16 T).run Tryd.prog W = .ok (.agg #[.slice ad n cp, .int .i64 bits]) W := by
  have c0 := cell_of h 0 rfl; have c1 := cell_of h 1 rfl
  have e2 : T[2]?.getD undef = .pointer (some ⟨b, 0, none⟩) := by simpa using h2
  simp [results, Tryd.results16, go_sem, e2, c0, c1]
theorem plain_end {w wr : World} {a : List UInt8} {ad : Option Addr} {cp : Nat} {bits : Int} {k : Nat} (h : PlainW w wr a ad cp bits k) (v0 v1 : Value) :
    ((wr.setCell ⟨w.heap.size + 1, 0, none⟩ v0).setCell ⟨w.heap.size + 1, 1, none⟩ v1).heap[w.heap.size + 1]? = some (.cells #[v0, v1] 30 (0, 0)) ∧
    Bytes ((wr.setCell ⟨w.heap.size + 1, 0, none⟩ v0).setCell ⟨w.heap.size + 1, 1, none⟩ v1) (.slice (some ⟨w.heap.size + 1 + 1, 0, none⟩) (plainS a k).length (plainS a k).length) (plainS a k) ∧
    Below w.heap.size w ((wr.setCell ⟨w.heap.size + 1, 0, none⟩ v0).setCell ⟨w.heap.size + 1, 1, none⟩ v1) := by
  refine ⟨?_, ?_, ((h.2.2.2).setCell (by simp) _).setCell (by simp) _⟩
  · have e1 := set_block (i := 0) (v := v0) h.2.1
    have e2 := set_block (i := 1) (v := v1) e1
    exact e2
  · refine bytes_block (T := 5) ?_
    have : ∀ i v (W : World), (W.setCell ⟨w.heap.size + 1, i, none⟩ v).heap[w.heap.size + 1 + 1]? = W.heap[w.heap.size + 1 + 1]? := fun i v W => by
      simp [World.setCell, Array.getElem?_modify]
    rw [this, this]
    exact h.2.2.1
def PlainRet (w : World) (L : List UInt8) (bits : Int) (e : Ending) (w' : World) : Prop := ∃ ad cp, e = .returned (.agg #[.slice ad L.length cp, .int .i64 bits]) ∧ Bytes w' (.slice ad L.length cp) L ∧ Below w.heap.size w w'
theorem rplain_any (a : List UInt8) (ad : Option Addr) (cp : Nat) (bits : Int) (w : World) (ha : Bytes w (.slice ad a.length cp) a) (hal : a.length ≤ 100000) (hb0 : 0 ≤ bits) (hb8 : bits ≤ 8 * a.length) :
    Calls Tryd.prog 16 #[.agg #[.slice ad a.length cp, .int .i64 bits]] w (PlainRet w (plainS a bits.toNat) bits) := by
  obtain ⟨i0, hi0, hz0, hz1, hz2⟩ := info_parts Tryd.info5
  have hali : (a.length : Int) ≤ 100000 := by omega
  have HVA := Lib.hid ha
  clear ha
  go_enter Tryd.func16, Tryd.ntmps16
  go_wp2_with (first | (at_make; (refine wpList_make_full _ rfl _ _ 23 rfl (w.heap.size + 2) 5 i0 _ 1 Tryd.underlying23 hi0 hz0 hz1 .i64 .i64 _ _ a.length rfl rfl rfl rfl (by rw [hz2]; omega) (by unfold maxLen; omega) (by simp) ?_; intro w3 hown hgrow)) | fail)
  have hst : PlainW w w3 a ad cp bits 0 := plain_start hown hgrow
  have HST := Lib.hid hst
  clear hown hgrow hi0 hz0 hz1 hz2 hst
  go_loopw [4] (fun i wr => ∃ k : Nat, i = .int .i64 k ∧ (k : Int) ≤ bits ∧ PlainW w wr a ad cp bits k) (fun i _ => bits.toNat - (intOf i).toNat)
  case atStart => exact ⟨0, rfl, by omega, HST.out⟩
  case round =>
    obtain ⟨k, rfl, hk, hpw⟩ := hrel
    have HPW := Lib.hid hpw
    have d0 : wr.cell? ⟨w.heap.size, 0, none⟩ = some (.slice ad a.length cp) := cell_of hpw.1 0 rfl
    have d1 : wr.cell? ⟨w.heap.size, 1, none⟩ = some (.int .i64 bits) := cell_of hpw.1 1 rfl
    by_cases hlt : (k : Int) < bits
    · have hka : k / 8 < a.length := by omega
      have c1 : wr.cell? ⟨w.heap.size + 1 + 1, k / 8, none⟩ = some (.int .u8 ((plainS a k).getD (k / 8) 0).toNat) := cell_of hpw.2.2.1 _ (cells_at (by rw [plainS_len]; exact hka))
      have f1 : wr.frozen? ⟨w.heap.size + 1 + 1, k / 8, none⟩ = false := free_of hpw.2.2.1 _
      have hy : ((plainS a k).getD (k / 8) 0).toNat + bitAt a k * 2 ^ (7 - k % 8) < 256 := plain_bd (by omega)
      have HN := Lib.hid (plainS_next (a := a) (i := k) (by omega))
      obtain ⟨x, hx⟩ : ∃ x, bitAt a k = x := ⟨_, rfl⟩
      have hx2 : x ≤ 1 := by rw [← hx]; unfold bitAt; omega
      rw [hx] at hy HN
      obtain ⟨y, hyy⟩ : ∃ y, ((plainS a k).getD (k / 8) 0).toNat = y := ⟨_, rfl⟩
      rw [hyy] at hy c1 HN
      have HXA := Lib.hid hx
      have HKA := Lib.hid hka
      have HAL := Lib.hid hal
      have HVB : Hid (Bytes wr (.slice ad a.length cp) a) := Lib.hid (HVA.out.below hpw.2.2.2)
      have HY := Lib.hid hy
      have hi0 : (0 : Int) ≤ k := by omega
      have hi1 : (0 : Int) ≤ (k : Int) / 8 := by omega
      have hi2 : (k : Int) / 8 < a.length := by omega
      have hi3 : (k : Int) ≤ 1000000 := by omega
      have hr0 : (0 : Int) ≤ (k : Int) % 8 := by omega
      have hr1 : (k : Int) % 8 ≤ 7 := by omega
      have HK1 : Hid (((k + 1 : Nat) : Int) ≤ bits) := Lib.hid (by omega)
      have HMS : Hid (bits.toNat - (intOf (.int .i64 ((k : Int) + 1))).toNat < bits.toNat - (intOf (.int .i64 (k : Int))).toNat) := Lib.hid (by simp [intOf]; omega)
      clear hpw hx hyy hka hal hy
      have hw1 := wrap_i64 ((k : Int) / 8) (by omega) (by omega)
      have ht1 : ((k : Int) / 8).toNat = k / 8 := by omega
      have hw2 := wrap_i64 ((k : Int) % 8) (by omega) (by omega)
      have hw3 := wrap_i64 (7 - (k : Int) % 8) (by omega) (by omega)
      have hm : (k : Int).tmod 8 = (k : Int) % 8 := Int.tmod_eq_emod_of_nonneg hi0
      have ht3 : (7 - (k : Int) % 8).toNat = 7 - k % 8 := by omega
      have hp : x * 2 ^ (7 - k % 8) < 256 := by have := HY.out; omega
      have he2 : (x : Int) * 2 ^ (7 - k % 8) = ((x * 2 ^ (7 - k % 8) : Nat) : Int) := by simp
      have hw4 : IntKind.u8.wrap ((x : Int) * 2 ^ (7 - k % 8)) = ((x * 2 ^ (7 - k % 8) : Nat) : Int) := by rw [he2, wrap_u8 _ (by omega) (by omega)]
      clear he2
      have HV : Hid (((y : Int) + (x : Int) * 2 ^ (7 - k % 8)) % 256 = ((y + x * 2 ^ (7 - k % 8) : Nat) : Int)) := Lib.hid (by
        have e3 : (y : Int) + (x : Int) * 2 ^ (7 - k % 8) = ((y + x * 2 ^ (7 - k % 8) : Nat) : Int) := by simp
        rw [e3, Int.emod_eq_of_lt (by omega) (by have := HY.out; omega)])
      have hw5 : IntKind.u8.wrap ((y : Int) + ((x * 2 ^ (7 - k % 8) : Nat) : Int)) = ((y + x * 2 ^ (7 - k % 8) : Nat) : Int) := by
        rw [wrap_u8 _ (by omega) (by have := HY.out; omega)]
        simp
      clear hp
      go_wp2_with fail
      refine wp_region_still_tail 18 (by kernel_rfl) (by kernel_rfl) ?_
      simp only [List.take_succ_cons, List.take_zero, List.drop_succ_cons, List.drop_zero]
      repeat still_step
      still_call (rbit_v _ _ k wr.drew HVB.out HKA.out HAL.out x HXA.out)
      repeat still_step
      try refine wpStill_nil ?_
      clear hw1 ht1 hw2 hw3 ht3 hm hw4 hw5
      change wpList _ _ _ _ _ wr.drew
      go_wp2_with fail
      go_roundw
      case rel => exact ⟨k + 1, by go_num, HK1.out, plain_step HPW.out HN.out HY.out HV.out⟩
      case measure => exact HMS.out
    · have HPB : Hid (bits.toNat = k) := Lib.hid (by omega)
      have d2 : wr.cell? ⟨w.heap.size + 1, 0, none⟩ = some (.slice none 0 0) := cell_of hpw.2.1 0 rfl
      have d3 : wr.cell? ⟨w.heap.size + 1, 1, none⟩ = some (.int .i64 0) := cell_of hpw.2.1 1 rfl
      have g2 := fun i => free_of hpw.2.1 i
      clear hpw
      go_wp2_with fail
      have HE := plain_end HPW.out (.slice (some ⟨w.heap.size + 1 + 1, 0, none⟩) a.length a.length) (.int .i64 bits)
      rw [plainS_len] at HE
      refine bodyPost_ret (plain_results _ _ _ _ _ _ HE.1 _ rfl) rfl ⟨some ⟨w.heap.size + 1 + 1, 0, none⟩, a.length, ?_, ?_, HE.2.2⟩
      · rw [plainS_len]
      · rw [HPB.out, plainS_len]; exact HE.2.1
end Go.Proofs.YtbaceiohcbhpaaaDoor
