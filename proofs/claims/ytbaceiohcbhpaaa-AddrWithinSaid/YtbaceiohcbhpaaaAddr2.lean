import Derived.Test.YtbaceiohcbhpaaaAddr1
import Derived.Deep.LoopGhost
namespace Go.Proofs.Ytbaceiohcbhpaaa
set_option linter.unusedVariables false
set_option linter.unusedSimpArgs false
set_option maxRecDepth 100000
open Go.RowKit

theorem below_one {w : World} (o : Obj) : Below w.heap.size w (w.alloc o) := (Below.refl _ _).alloc (Nat.le_refl _) _
theorem below_dr {B : Nat} {w a : World} (h : Below B w a) (n : Nat) : Below B w (a.drewN n) := ⟨h.os, h.tape, h.output, h.size, h.block⟩
theorem all_next_bit {a b : List UInt8} {k : Nat} (h : ((List.range k).all fun i => bitAt b i == bitAt a i) = true) (he : bitAt b k = bitAt a k) : ((List.range (k + 1)).all fun i => bitAt b i == bitAt a i) = true := by
  rw [List.range_succ, List.all_append, h]
  simp [he]
theorem all_bad_bit {a b : List UInt8} {k m : Nat} (hk : k < m) (he : bitAt b k ≠ bitAt a k) : ((List.range m).all fun i => bitAt b i == bitAt a i) = false := by
  rw [List.all_eq_false]
  exact ⟨k, List.mem_range.2 hk, by simpa using he⟩
theorem right_len {n : Nat} {bits : Int} (h : rightP n bits = true) : (n = 4 ∨ n = 16) ∧ 0 ≤ bits ∧ bits ≤ 8 * n := by
  unfold rightP at h
  simp only [Bool.and_eq_true, Bool.or_eq_true, beq_iff_eq, decide_eq_true_eq] at h
  exact ⟨h.1, h.2.1, h.2.2⟩
theorem rright_v (ad : Option Addr) (n cp : Nat) (bits : Int) (hn : n ≤ 100000) (r : Bool) (hr : rightP n bits = r) (w : World) :
    Calls Try.prog 8 #[.agg #[.slice ad n cp, .int .i64 bits]] w fun e w' => e = .returned (.bool r) ∧ Below w.heap.size w w' := by
  subst hr; exact rright_any ad n cp bits hn w
theorem rbit_v (v : Value) (l : List UInt8) (i : Nat) (w : World) (hv : Bytes w v l) (hi : i / 8 < l.length) (hl : l.length ≤ 100000) (x : Nat) (hx : bitAt l i = x) :
    Calls Try.prog 19 #[v, .int .i64 i] w fun e w' => e = .returned (.int .u8 x) ∧ w' = w := by
  subst hx; exact rbit_any v l i w hv hi hl
def HasW (w wr : World) (ad : Option Addr) (n cp : Nat) (bits : Int) : Prop := wr.cell? ⟨w.heap.size, 0, none⟩ = some (.slice ad n cp) ∧ wr.cell? ⟨w.heap.size, 1, none⟩ = some (.int .i64 bits) ∧ Below w.heap.size w wr
theorem hasw_drew {w wr : World} {ad : Option Addr} {n cp : Nat} {bits : Int} (h : HasW w wr ad n cp bits) (m : Nat) : HasW w (wr.drewN m) ad n cp bits := ⟨h.1, h.2.1, below_dr h.2.2 m⟩
theorem rhas_any (a b : List UInt8) (ad : Option Addr) (vb : Value) (cp : Nat) (bits : Int) (w : World) (ha : Bytes w (.slice ad a.length cp) a) (hb : Bytes w vb b) (hal : a.length ≤ 100000) (hbl : b.length ≤ 100000) :
    Calls Try.prog 10 #[.agg #[.slice ad a.length cp, .int .i64 bits], vb] w (RightRet w (hasP a bits b)) := by
  have HVA0 := Lib.hid ha
  have HVB0 := Lib.hid hb
  obtain ⟨bd, cb, rfl, _⟩ := id hb
  have HAL := Lib.hid hal
  have HBL := Lib.hid hbl
  have hali : (a.length : Int) ≤ 100000 := by omega
  have hbli : (b.length : Int) ≤ 100000 := by omega
  clear ha hb
  cases hr : rightP a.length bits with
  | false =>
    have HR : Hid (hasP a bits b = false) := Lib.hid (by unfold hasP; rw [hr]; rfl)
    have HRI := Lib.hid (rright_v ad a.length cp bits hal false hr)
    clear hr hal hbl
    go_enter Try.func10, Try.ntmps10
    go_wp2_with (first | (go_at_call 8; ((with_reducible refine (HRI.out _).mono ?_); rintro e w2 ⟨rfl, hb2⟩; have hbx := (hb2.block _ (Array.getElem?_eq_some_iff.1 (heap_alloc_new w (.cells #[.slice ad a.length cp, .int .i64 bits] 24))).1).trans (heap_alloc_new w (.cells #[.slice ad a.length cp, .int .i64 bits] 24)); have HB := Lib.hid ((below_one (.cells #[.slice ad a.length cp, .int .i64 bits] 24)).trans (hb2.mono (by simp))); have HX := Lib.hid hbx; have c0 : w2.cell? ⟨w.heap.size, 0, none⟩ = some (.slice ad a.length cp) := cell_of hbx 0 rfl; have c1 : w2.cell? ⟨w.heap.size, 1, none⟩ = some (.int .i64 bits) := cell_of hbx 1 rfl; clear hb2 hbx)) | fail)
    go_ret
    exact ⟨ret_bool HR.out.symm, HB.out⟩
  | true =>
    have HRI := Lib.hid (rright_v ad a.length cp bits hal true hr)
    obtain ⟨hlen4, hb0, hb8⟩ := right_len hr
    by_cases hlen : b.length = a.length
    · have hne : ((b.length : Int) != a.length) = false := bneq_i (by omega)
      have HRR : Hid (hasP a bits b = (List.range bits.toNat).all fun i => bitAt b i == bitAt a i) := Lib.hid (by unfold hasP; rw [hr]; simp [hlen])
      have HLEN := Lib.hid hlen
      have HL4 := Lib.hid hlen4
      clear hr hlen hlen4 hal hbl
      go_enter Try.func10, Try.ntmps10
      go_wp2_with (first | (go_at_call 8; ((with_reducible refine (HRI.out _).mono ?_); rintro e w2 ⟨rfl, hb2⟩; have hbx := (hb2.block _ (Array.getElem?_eq_some_iff.1 (heap_alloc_new w (.cells #[.slice ad a.length cp, .int .i64 bits] 24))).1).trans (heap_alloc_new w (.cells #[.slice ad a.length cp, .int .i64 bits] 24)); have HB := Lib.hid ((below_one (.cells #[.slice ad a.length cp, .int .i64 bits] 24)).trans (hb2.mono (by simp))); have HX := Lib.hid hbx; have c0 : w2.cell? ⟨w.heap.size, 0, none⟩ = some (.slice ad a.length cp) := cell_of hbx 0 rfl; have c1 : w2.cell? ⟨w.heap.size, 1, none⟩ = some (.int .i64 bits) := cell_of hbx 1 rfl; clear hb2 hbx)) | fail)
      go_loopw [5] (fun i wr => ∃ k : Nat, i = .int .i64 k ∧ (k : Int) ≤ bits ∧ HasW w wr ad a.length cp bits ∧ ((List.range k).all fun i => bitAt b i == bitAt a i) = true) (fun i _ => bits.toNat - (intOf i).toNat)
      case atStart => exact ⟨0, rfl, by omega, ⟨c0, c1, HB.out⟩, rfl⟩
      case round =>
        obtain ⟨k, rfl, hk, ⟨d0, d1, hbw⟩, hall⟩ := hrel
        clear c0 c1
        have HW : Hid (HasW w wr ad a.length cp bits) := Lib.hid ⟨d0, d1, hbw⟩
        clear hbw
        have HALL := Lib.hid hall
        clear hall
        by_cases hlt : (k : Int) < bits
        · have HKA : Hid (k / 8 < a.length) := Lib.hid (by omega)
          have HKB : Hid (k / 8 < b.length) := Lib.hid (by rw [HLEN.out]; omega)
          obtain ⟨x, hx⟩ : ∃ x, bitAt b k = x := ⟨_, rfl⟩
          obtain ⟨y, hy⟩ : ∃ y, bitAt a k = y := ⟨_, rfl⟩
          have HXB := Lib.hid hx
          have HXA := Lib.hid hy
          have HVA : Hid (∀ n, Bytes (wr.drewN n) (.slice ad a.length cp) a) := Lib.hid (fun n => HVA0.out.below (below_dr HW.out.2.2 _))
          have HVB : Hid (∀ n, Bytes (wr.drewN n) (.slice bd b.length cb) b) := Lib.hid (fun n => HVB0.out.below (below_dr HW.out.2.2 _))
          by_cases hxy : x = y
          · have HN := Lib.hid (all_next_bit HALL.out (by rw [hx, hy, hxy]))
            have exy : ((x : Int) != y) = false := bneq_i (by omega)
            clear hx hy hxy
            go_wp2_with fail
            go_quiet (first | (go_at_call 19; with_reducible refine Calls.quiet_of_same (rbit_v _ _ k _ (HVB.out _) HKB.out HBL.out x HXB.out)) | (go_at_call 19; with_reducible refine Calls.quiet_of_same (rbit_v _ _ k _ (HVA.out _) HKA.out HAL.out y HXA.out)))
            go_wp2
            go_roundw
            case rel => exact ⟨k + 1, by go_num, by omega, hasw_drew HW.out _, HN.out⟩
            case measure => simp [intOf]; omega
          · have HN : Hid (hasP a bits b = false) := Lib.hid (by rw [HRR.out]; exact all_bad_bit (k := k) (by omega) (by rw [hx, hy]; exact hxy))
            have exy : ((x : Int) != y) = true := bnne_i (by omega)
            clear hx hy hxy
            go_wp2_with fail
            go_quiet (first | (go_at_call 19; with_reducible refine Calls.quiet_of_same (rbit_v _ _ k _ (HVB.out _) HKB.out HBL.out x HXB.out)) | (go_at_call 19; with_reducible refine Calls.quiet_of_same (rbit_v _ _ k _ (HVA.out _) HKA.out HAL.out y HXA.out)))
            go_wp2
            go_ret
            exact ⟨ret_bool HN.out.symm, below_dr HW.out.2.2 _⟩
        · have HN : Hid (hasP a bits b = true) := Lib.hid (by rw [HRR.out, show bits.toNat = k by omega]; exact HALL.out)
          go_wp2_with fail
          go_ret
          exact ⟨ret_bool HN.out.symm, HW.out.2.2⟩
    · have hne : ((b.length : Int) != a.length) = true := bnne_i (by omega)
      have HR : Hid (hasP a bits b = false) := Lib.hid (by unfold hasP; rw [show (b.length == a.length) = false by simpa using hlen]; simp)
      clear hr hlen hlen4 hal hbl
      go_enter Try.func10, Try.ntmps10
      go_wp2_with (first | (go_at_call 8; ((with_reducible refine (HRI.out _).mono ?_); rintro e w2 ⟨rfl, hb2⟩; have hbx := (hb2.block _ (Array.getElem?_eq_some_iff.1 (heap_alloc_new w (.cells #[.slice ad a.length cp, .int .i64 bits] 24))).1).trans (heap_alloc_new w (.cells #[.slice ad a.length cp, .int .i64 bits] 24)); have HB := Lib.hid ((below_one (.cells #[.slice ad a.length cp, .int .i64 bits] 24)).trans (hb2.mono (by simp))); have HX := Lib.hid hbx; have c0 : w2.cell? ⟨w.heap.size, 0, none⟩ = some (.slice ad a.length cp) := cell_of hbx 0 rfl; have c1 : w2.cell? ⟨w.heap.size, 1, none⟩ = some (.int .i64 bits) := cell_of hbx 1 rfl; clear hb2 hbx)) | fail)
      go_ret
      exact ⟨ret_bool HR.out.symm, HB.out⟩
end Go.Proofs.Ytbaceiohcbhpaaa
