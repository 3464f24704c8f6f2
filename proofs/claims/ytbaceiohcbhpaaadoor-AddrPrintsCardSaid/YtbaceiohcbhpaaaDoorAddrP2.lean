/- The program's Plain and isPlain, by contract. -/
import Derived.Test.YtbaceiohcbhpaaaDoorAddrP1
import Derived.Lib.SliceRun
import Derived.Deep.Onto
namespace Go.Proofs.YtbaceiohcbhpaaaDoor
set_option linter.unusedVariables false
set_option linter.unusedSimpArgs false
set_option maxRecDepth 100000
open Go.RowKit

theorem wrap_s64 (a : Int) (h0 : -9223372036854775808 ≤ a) (h : a < 9223372036854775808) : IntKind.i64.wrap a = a := by
  rw [IntKind.wrap_i64]; omega
theorem own_at {w : World} {base : Nat} {v : Value} {e : TypeId} {n : Nat} {xs : List Value} (h : w.ownsRow base e 1 v n xs) (h0 : 0 < n) : ∃ g cap, v = .slice (some ⟨g, 0, none⟩) n cap ∧ base ≤ g ∧ n ≤ cap ∧ cap ≤ maxLen := by
  rcases h.2 with ⟨_, h1⟩ | ⟨g, c, cur, h1, h2, _, h3, h4, _⟩
  · omega
  · exact ⟨g, c, h1, h2, h3, h4⟩
theorem own_bytes {w : World} {base : Nat} {a : List UInt8} {g c : Nat} (h : w.ownsRow base 5 1 (.slice (some ⟨g, 0, none⟩) a.length c) a.length (cellsOf a)) : Bytes w (.slice (some ⟨g, 0, none⟩) a.length c) a := by
  refine ⟨_, _, rfl, .inr ⟨g, 0, rfl, fun i hi => ?_⟩⟩
  rw [Nat.zero_add, h.cellAt i (by omega)]
  unfold cellsOf
  simp [List.getD, List.getElem?_eq_getElem hi]
def CloneRet (w : World) (a : List UInt8) (e : Ending) (w' : World) : Prop :=
  ∃ g c, e = .returned (.slice (some ⟨g, 0, none⟩) a.length c) ∧ w.heap.size ≤ g ∧ w'.ownsRow w.heap.size 5 1 (.slice (some ⟨g, 0, none⟩) a.length c) a.length (cellsOf a) ∧ a.length ≤ c ∧ c ≤ maxLen ∧ Below w.heap.size w w'
theorem bclone_any (a : List UInt8) (ad : Option Addr) (cp : Nat) (w : World) (ha : Bytes w (.slice ad a.length cp) a) (h0 : 0 < a.length) (hal : a.length ≤ 100000) :
    Calls Tryd.prog 34 #[.slice ad a.length cp] w (CloneRet w a) := by
  obtain ⟨b, off, rfl, _⟩ := bytes_cell ha h0
  have HV := Lib.hid ha
  clear ha
  have hq := Lib.run_eql_slice_nil (P := Tryd.prog) w 23 5 (some ⟨b, off, none⟩) a.length cp 0 0 Tryd.underlying23
  go_enter Tryd.func34, Tryd.ntmps34
  go_wp2_with (first | (at_builtin; refine wpList_append_bytes rfl _ _ rfl w.heap.size (.slice (some ⟨w.heap.size, 0, none⟩) 0 0) 0 [] rfl (World.ownsRow_made w #[] 0 (Nat.le_refl _) (by decide) rfl) (.slice (some ⟨b, off, none⟩) a.length cp) a rfl (HV.out.below (below_one _)) (fun n cap h => by cases h) (by simp; omega) (by simp) ?_; intro v' w4 hown hgrow) | fail)
  have hb : Below w.heap.size w w4 := (below_one _).grown hgrow (by simp) (fun k hk => by cases hk; simp)
  rw [Nat.zero_add, List.nil_append] at hown
  obtain ⟨g, c, rfl, hg, hnc, hcm⟩ := own_at hown h0
  go_ret
  exact ⟨g, c, rfl, hg, hown, hnc, hcm, hb⟩
/-! the bytes ahead of place i are cut to their bits -/
def plainU (a : List UInt8) (m i : Nat) : List UInt8 := (List.range a.length).map fun q => if q < i then UInt8.ofNat (keepH (a.getD q 0).toNat (m - 8 * q)) else a.getD q 0
theorem plainU_len (a : List UInt8) (m i : Nat) : (plainU a m i).length = a.length := by simp [plainU]
theorem plainU_zero (a : List UInt8) (m : Nat) : plainU a m 0 = a := by
  apply List.ext_getElem
  · simp [plainU]
  · intro q h1 h2
    simp [plainU, h2]
theorem plainU_all (a : List UInt8) (m : Nat) : plainU a m a.length = plainS a m := by
  apply List.ext_getElem
  · simp [plainU, plainS]
  · intro q h1 h2
    have hq : q < a.length := by rw [plainU_len] at h1; exact h1
    simp [plainU, plainS, hq]
theorem plainU_at {a : List UInt8} {m i : Nat} (hi : i < a.length) : (plainU a m i).getD i 0 = a.getD i 0 := by
  simp [plainU, List.getD, hi]
theorem plainU_next {a : List UInt8} {m i : Nat} (hi : i < a.length) : plainU a m (i + 1) = (plainU a m i).set i (UInt8.ofNat (keepH (a.getD i 0).toNat (m - 8 * i))) := by
  apply List.ext_getElem
  · simp [plainU]
  · intro q h1 h2
    by_cases he : q = i
    · subst he
      rw [List.getElem_set_self]
      simp [plainU]
    · rw [List.getElem_set_ne (fun h => he h.symm)]
      simp only [plainU, List.getElem_map, List.getElem_range]
      by_cases hlt : q < i
      · rw [if_pos hlt, if_pos (by omega)]
      · rw [if_neg hlt, if_neg (by omega)]
theorem keepH_min (c r : Nat) : keepH c (min r 8) = keepH c r := by
  unfold keepH
  rw [show 8 - min r 8 = 8 - r by omega]
theorem clamp_eq {bits : Int} (h0 : 0 ≤ bits) (i : Nat) : clampN (bits - 8 * i) = min (bits.toNat - 8 * i) 8 := by unfold clampN; omega
theorem mask_keep (u : UInt8) (k : Nat) (hk : k ≤ 8) : bits BinOp.and IntKind.u8 (u.toNat : Int) (maskN k : Nat) = ((keepH u.toNat k : Nat) : Int) := by
  have key : ∀ i : Fin 256, ∀ j : Fin 9, bits BinOp.and IntKind.u8 (i.val : Int) (maskN j.val : Nat) = ((keepH i.val j.val : Nat) : Int) := by decide +kernel
  exact key ⟨u.toNat, UInt8.toNat_lt u⟩ ⟨k, by omega⟩
theorem cells_snap (a : List UInt8) (m i x : Nat) (hi : i < a.length) (hx : x = keepH (a.getD i 0).toNat (m - 8 * i)) : (cellsOf (plainU a m i)).set i (.int .u8 (x : Int)) = cellsOf (plainU a m (i + 1)) := by
  have h1 := keepH_le (a.getD i 0).toNat (m - 8 * i)
  have h2 := UInt8.toNat_lt (a.getD i 0)
  rw [plainU_next hi]
  unfold cellsOf
  rw [List.map_set]
  congr 1
  rw [UInt8.toNat_ofNat', Nat.mod_eq_of_lt (by omega), hx]
def PlainPW (w wr : World) (a : List UInt8) (ad : Option Addr) (cp : Nat) (bits : Int) (g c k : Nat) : Prop :=
  wr.heap[w.heap.size]? = some (.cells #[.slice ad a.length cp, .int .i64 bits] 30 (0, 0)) ∧ wr.heap[w.heap.size + 1]? = some (.cells #[.slice none 0 0, .int .i64 0] 30 (0, 0)) ∧
  wr.ownsRow (w.heap.size + 2) 5 1 (.slice (some ⟨g, 0, none⟩) a.length c) a.length (cellsOf (plainU a bits.toNat k)) ∧ Below w.heap.size w wr
theorem heap_other {W : World} {g j k : Nat} {v : Value} (h : j ≠ g) : (W.setCell ⟨g, k, none⟩ v).heap[j]? = W.heap[j]? := by
  simp [World.setCell, Array.getElem?_modify, h.symm]
theorem plainp_step {w wr : World} {a : List UInt8} {ad : Option Addr} {cp : Nat} {bits : Int} {g c k x : Nat} {n : Nat} (h : PlainPW w wr a ad cp bits g c k) (hg : w.heap.size + 2 ≤ g) (hk : k < a.length) (hx : x = keepH (a.getD k 0).toNat (bits.toNat - 8 * k)) :
    PlainPW w ((wr.drewN n).setCell ⟨g, k, none⟩ (.int .u8 (x : Int))) a ad cp bits g c (k + 1) := by
  refine ⟨by rw [heap_other (by omega)]; exact h.1, by rw [heap_other (by omega)]; exact h.2.1, ?_, (below_dr h.2.2.2 n).setCell (by simp; omega) _⟩
  rw [← cells_snap a bits.toNat k x hk hx]
  have h2 : (wr.drewN n).ownsRow (w.heap.size + 2) 5 1 (.slice (some ⟨g, 0, none⟩) a.length c) a.length (cellsOf (plainU a bits.toNat k)) := h.2.2.1
  exact (h2.stored k _).1
theorem plainp_results (W : World) (b : Nat) (v0 v1 : Value) (h : W.heap[b]? = some (.cells #[v0, v1] 30 (0, 0))) (T : Array Value) (c : Int) (h2 : T.getD 2 undef = .pointer (some ⟨b, 0, none⟩)) (h3 : T.getD 3 undef = .int .i64 c) :
    (results Tryd.f18 T).run Tryd.prog W = .ok (.tuple #[.agg #[v0, v1], .int .i64 c]) W := by
  have c0 := cell_of h 0 rfl; have c1 := cell_of h 1 rfl
  have e2 : T[2]?.getD undef = .pointer (some ⟨b, 0, none⟩) := by simpa using h2
  have e3 : T[3]?.getD undef = .int .i64 c := by simpa using h3
  simp [results, Tryd.results18, go_sem, e2, e3, c0, c1]
set_option maxHeartbeats 8000000 in
theorem aplain_any (a : List UInt8) (ad : Option Addr) (cp : Nat) (bits : Int) (w : World) (ha : Bytes w (.slice ad a.length cp) a) (hac : a.length ≤ cp) (hcm : cp ≤ maxLen) (hal : a.length ≤ 1000) :
    Calls Tryd.prog 18 #[.agg #[.slice ad a.length cp, .int .i64 bits]] w (PlainRet4 w a bits) := by
  have e0 := heap_alloc_new w (.cells #[.slice ad a.length cp, .int .i64 bits] 30)
  have e1 := heap_alloc_new (w.alloc (.cells #[.slice ad a.length cp, .int .i64 bits] 30)) (.cells #[.slice none 0 0, .int .i64 0] 30)
  have s1 : (w.alloc (.cells #[.slice ad a.length cp, .int .i64 bits] 30)).heap.size = w.heap.size + 1 := by simp
  rw [s1] at e1
  have k0 := (below_one (w := w.alloc (.cells #[.slice ad a.length cp, .int .i64 bits] 30)) (.cells #[.slice none 0 0, .int .i64 0] 30)).block w.heap.size (by rw [s1]; omega)
  rw [e0] at k0
  have HK0 := Lib.hid k0
  have HK1 := Lib.hid e1
  have HB0 : Hid (Below w.heap.size w ((w.alloc (.cells #[.slice ad a.length cp, .int .i64 bits] 30)).alloc (.cells #[.slice none 0 0, .int .i64 0] 30))) := Lib.hid (((Below.refl _ _).alloc (Nat.le_refl _) _).alloc (by simp) _)
  have c0 : (((w.alloc (.cells #[.slice ad a.length cp, .int .i64 bits] 30)).alloc (.cells #[.slice none 0 0, .int .i64 0] 30))).cell? ⟨w.heap.size, 0, none⟩ = some (.slice ad a.length cp) := cell_of k0 0 rfl
  have c1 : (((w.alloc (.cells #[.slice ad a.length cp, .int .i64 bits] 30)).alloc (.cells #[.slice none 0 0, .int .i64 0] 30))).cell? ⟨w.heap.size, 1, none⟩ = some (.int .i64 bits) := cell_of k0 1 rfl
  have HVA := Lib.hid ha
  clear e0 e1 s1 k0 ha
  cases hr : rightP a.length bits with
  | false =>
    have HR : Hid (plainOf a bits = ([], 0, 3)) := Lib.hid (by unfold plainOf; rw [hr]; rfl)
    have HRI := Lib.hid (aright_v ad a.length cp bits (by omega) false hr)
    clear hr
    go_enter Tryd.func18, Tryd.ntmps18
    go_wp2_with (first | (go_at_call 33; ((with_reducible refine (HRI.out _).mono ?_); rintro e w2 ⟨rfl, hb2⟩; have hx0 := (hb2.block _ (by simp only [World.size_alloc]; omega)).trans HK0.out; have hx1 := (hb2.block _ (by simp only [World.size_alloc]; omega)).trans HK1.out; have HX0 := Lib.hid hx0; have HX1 := Lib.hid hx1; have HB := Lib.hid (Below.next HB0.out hb2); have hsz : w.heap.size + 2 ≤ w2.heap.size := (by have := hb2.size; simp only [World.size_alloc] at this; omega); have c0 : w2.cell? ⟨w.heap.size, 0, none⟩ = some (.slice ad a.length cp) := cell_of hx0 0 rfl; have c1 : w2.cell? ⟨w.heap.size, 1, none⟩ = some (.int .i64 bits) := cell_of hx0 1 rfl; have d0 : w2.cell? ⟨w.heap.size + 1, 0, none⟩ = some (.slice none 0 0) := cell_of hx1 0 rfl; have d1 : w2.cell? ⟨w.heap.size + 1, 1, none⟩ = some (.int .i64 0) := cell_of hx1 1 rfl; have g1 := fun i => free_of hx1 i; clear hb2 hx0 hx1)) | fail)
    have HE : ((w2.setCell ⟨w.heap.size + 1, 0, none⟩ (.slice none 0 0)).setCell ⟨w.heap.size + 1, 1, none⟩ (.int .i64 0)).heap[w.heap.size + 1]? = some (.cells #[.slice none 0 0, .int .i64 0] 30 (0, 0)) := set_block (i := 1) (v := .int .i64 0) (set_block (i := 0) (v := .slice none 0 0) HX1.out)
    refine bodyPost_ret (plainp_results _ _ _ _ HE _ 3 rfl rfl) rfl ⟨none, 0, ?_, ?_, ?_, ?_, ?_⟩
    · rw [HR.out]; rfl
    · rw [HR.out]; exact bytes_nil _
    · rw [HR.out]; exact Nat.le_refl _
    · exact Nat.zero_le _
    · exact (HB.out.setCell (by simp) _).setCell (by simp) _
  | true =>
    have HR : Hid (plainOf a bits = (plainS a bits.toNat, bits, 0)) := Lib.hid (by unfold plainOf; rw [hr]; rfl)
    have HRI := Lib.hid (aright_v ad a.length cp bits (by omega) true hr)
    obtain ⟨hlen4, hb0, hb8⟩ := right_len hr
    have h0 : 0 < a.length := by omega
    have HCL : Hid (∀ w, Bytes w (.slice ad a.length cp) a → Calls Tryd.prog 34 #[.slice ad a.length cp] w (CloneRet w a)) := Lib.hid (fun w h => bclone_any a ad cp w h h0 (by omega))
    clear hr hlen4
    have hali : (a.length : Int) ≤ 1000 := by omega
    go_enter Tryd.func18, Tryd.ntmps18
    go_wp2_with (first | (go_at_call 33; ((with_reducible refine (HRI.out _).mono ?_); rintro e w2 ⟨rfl, hb2⟩; have hx0 := (hb2.block _ (by simp only [World.size_alloc]; omega)).trans HK0.out; have hx1 := (hb2.block _ (by simp only [World.size_alloc]; omega)).trans HK1.out; have HX0 := Lib.hid hx0; have HX1 := Lib.hid hx1; have HB := Lib.hid (Below.next HB0.out hb2); have hsz : w.heap.size + 2 ≤ w2.heap.size := (by have := hb2.size; simp only [World.size_alloc] at this; omega); have c0 : w2.cell? ⟨w.heap.size, 0, none⟩ = some (.slice ad a.length cp) := cell_of hx0 0 rfl; have c1 : w2.cell? ⟨w.heap.size, 1, none⟩ = some (.int .i64 bits) := cell_of hx0 1 rfl; have d0 : w2.cell? ⟨w.heap.size + 1, 0, none⟩ = some (.slice none 0 0) := cell_of hx1 0 rfl; have d1 : w2.cell? ⟨w.heap.size + 1, 1, none⟩ = some (.int .i64 0) := cell_of hx1 1 rfl; have g1 := fun i => free_of hx1 i; clear hb2 hx0 hx1)) | (go_at_call 34; ((with_reducible refine (HCL.out _ (HVA.out.below HB.out)).mono ?_); rintro e w3 ⟨g, c, rfl, hg, hown, hnc, hcmm, hb3⟩; have HO := Lib.hid hown; have HB3 := Lib.hid hb3; have HG : Hid (w.heap.size + 2 ≤ g) := Lib.hid (by omega); have HNC := Lib.hid hnc; have HCM := Lib.hid hcmm; clear hown hb3 hg hnc hcmm)) | fail)
    have HST : Hid (PlainPW w w3 a ad cp bits g c 0) := Lib.hid ⟨(HB3.out.block _ (by omega)).trans HX0.out, (HB3.out.block _ (by omega)).trans HX1.out, by rw [plainU_zero]; exact HO.out.mono hsz, Below.next HB.out HB3.out⟩
    clear c0 c1 d0 d1 g1 HX0 HX1 HO
    go_loopw [15] (fun i wr => ∃ k : Nat, i = .int .i64 k ∧ k ≤ a.length ∧ PlainPW w wr a ad cp bits g c k) (fun i _ => a.length - (intOf i).toNat)
    case atStart => exact ⟨0, rfl, by omega, HST.out⟩
    case round =>
      obtain ⟨k, rfl, hk, hpw⟩ := hrel
      have HPW := Lib.hid hpw
      have d0 : wr.cell? ⟨w.heap.size, 0, none⟩ = some (.slice ad a.length cp) := cell_of hpw.1 0 rfl
      have d1 : wr.cell? ⟨w.heap.size, 1, none⟩ = some (.int .i64 bits) := cell_of hpw.1 1 rfl
      by_cases hlt : k < a.length
      · have c1 : wr.cell? ⟨g, k, none⟩ = some (.int .u8 (a.getD k 0).toNat) := by
          rw [hpw.2.2.1.cellAt k (by omega)]
          unfold cellsOf
          rw [List.getElem?_map, List.getElem?_eq_getElem (by rw [plainU_len]; exact hlt)]
          have := plainU_at (m := bits.toNat) hlt
          rw [List.getD, List.getElem?_eq_getElem (by rw [plainU_len]; exact hlt)] at this
          simp only [Option.getD_some] at this
          rw [this]; rfl
        have f1 : wr.frozen? ⟨g, k, none⟩ = false := hpw.2.2.1.frozenAt k
        have HLT := Lib.hid hlt
        obtain ⟨x, hx⟩ : ∃ x, keepH (a.getD k 0).toNat (bits.toNat - 8 * k) = x := ⟨_, rfl⟩
        obtain ⟨mk, hmk⟩ : ∃ m, maskN (clampN (bits - 8 * k)) = m := ⟨_, rfl⟩
        have hand : Go.bits BinOp.and IntKind.u8 ((a.getD k 0).toNat : Int) (mk : Int) = (x : Int) := by
          rw [← hmk, mask_keep _ _ (clampN_le _), clamp_eq hb0, keepH_min, hx]
        have HM : Hid (∀ w, Calls Tryd.prog 35 #[.int .i64 (bits - 8 * k)] w fun e w' => e = .returned (.int .u8 (mk : Int)) ∧ w' = w) := Lib.hid (fun w => by rw [← hmk]; exact mask_any _ (by omega) (by omega) w)
        have HX := Lib.hid hx
        generalize (a.getD k 0).toNat = y at c1 hand
        have hw1 := wrap_i64 (8 * (k : Int)) (by omega) (by omega)
        have hw2 := wrap_s64 (bits - 8 * (k : Int)) (by omega) (by omega)
        have hk0 : (0 : Int) ≤ k := by omega
        have hk1 : (k : Int) < a.length := by omega
        clear hpw hx hmk hlt
        have ht1 : (k : Int).toNat = k := by omega
        go_wp2_with fail
        refine wp_region_still_tail 12 (by kernel_rfl) (by kernel_rfl) ?_
        simp only [List.take_succ_cons, List.take_zero, List.drop_succ_cons, List.drop_zero]
        repeat still_step
        still_call (HM.out wr.drew)
        repeat still_step
        try refine wpStill_nil ?_
        change wpList _ _ _ _ _ wr.drew
        go_wp2_with fail
        go_roundw
        case rel => exact ⟨k + 1, by go_num, by omega, plainp_step (n := 1) HPW.out HG.out HLT.out HX.out.symm⟩
        case measure => simp [intOf]; omega
      · have HPB : Hid (k = a.length) := Lib.hid (by omega)
        have d2 : wr.cell? ⟨w.heap.size + 1, 0, none⟩ = some (.slice none 0 0) := cell_of hpw.2.1 0 rfl
        have d3 : wr.cell? ⟨w.heap.size + 1, 1, none⟩ = some (.int .i64 0) := cell_of hpw.2.1 1 rfl
        have g2 := fun i => free_of hpw.2.1 i
        clear hpw
        go_wp2_with fail
        have HE : ((wr.setCell ⟨w.heap.size + 1, 0, none⟩ (.slice (some ⟨g, 0, none⟩) a.length c)).setCell ⟨w.heap.size + 1, 1, none⟩ (.int .i64 bits)).heap[w.heap.size + 1]? = some (.cells #[.slice (some ⟨g, 0, none⟩) a.length c, .int .i64 bits] 30 (0, 0)) := set_block (i := 1) (v := .int .i64 bits) (set_block (i := 0) (v := .slice (some ⟨g, 0, none⟩) a.length c) HPW.out.2.1)
        have HL : (plainS a bits.toNat).length = a.length := plainS_len _ _
        refine bodyPost_ret (plainp_results _ _ _ _ HE _ 0 rfl rfl) rfl ⟨some ⟨g, 0, none⟩, c, ?_, ?_, ?_, HCM.out, ?_⟩
        · rw [HR.out, HL]
        · rw [HR.out]
          have h1 : wr.ownsRow (w.heap.size + 2) 5 1 (.slice (some ⟨g, 0, none⟩) a.length c) a.length (cellsOf (plainU a bits.toNat k)) := HPW.out.2.2.1
          rw [HPB.out, plainU_all] at h1
          have h2 : Bytes wr (.slice (some ⟨g, 0, none⟩) (plainS a bits.toNat).length c) (plainS a bits.toNat) := own_bytes (by rw [HL]; exact h1)
          obtain ⟨q, cq, hq, h3⟩ := h2
          refine ⟨q, cq, hq, h3.imp id ?_⟩
          rintro ⟨b, off, he, hc⟩
          refine ⟨b, off, he, fun i hi => ?_⟩
          subst he
          injection hq with h4
          injection h4 with h5
          injection h5 with h6 h7
          subst h6 h7
          have hne : g ≠ w.heap.size + 1 := by have := HG.out; omega
          rw [← hc i hi]
          simp [World.cell?, heap_other hne]
        · rw [HR.out, HL]; exact HNC.out
        · exact ((HPW.out.2.2.2).setCell (by simp) _).setCell (by simp) _
theorem conv_bytes {w : World} {ad : Option Addr} {cp : Nat} {l : List UInt8} (h : Bytes w (.slice ad l.length cp) l) (h0 : 0 < l.length) : ∃ b off, ad = some ⟨b, off, none⟩ ∧ (convert 23 9 (.slice (some ⟨b, off, none⟩) l.length cp)).run Tryd.prog w = .ok (.string (strB l)) w := by
  obtain ⟨b, off, rfl, hc⟩ := bytes_cell h h0
  refine ⟨b, off, rfl, run_convert_bytes_back _ _ _ _ _ _ l Tryd.underlying23 Tryd.underlying5 Tryd.underlying9 fun j hj => ?_⟩
  rw [add_at, hc j hj]
  simp [List.getD, List.getElem?_eq_getElem hj]
theorem bequal_any (a b : List UInt8) (ad bd : Option Addr) (cp cb : Nat) (w : World) (ha : Bytes w (.slice ad a.length cp) a) (hb : Bytes w (.slice bd b.length cb) b) (h0 : 0 < a.length) (h1 : 0 < b.length) :
    Calls Tryd.prog 42 #[.slice ad a.length cp, .slice bd b.length cb] w fun e w' => e = .returned (.bool (a == b)) ∧ w' = w := by
  obtain ⟨b1, o1, rfl, q1⟩ := conv_bytes ha h0
  obtain ⟨b2, o2, rfl, q2⟩ := conv_bytes hb h1
  have HE : Hid (((strB a).toList == (strB b).toList) = (a == b)) := Lib.hid (strs4_eq a b)
  clear ha hb
  go_enter Tryd.func42, Tryd.ntmps42
  go_wp2_with fail
  go_ret
  exact ⟨ret_bool HE.out, rfl⟩
def isPlainB (a : List UInt8) (bits : Int) : Bool := rightP a.length bits && (plainS a bits.toNat == a)
theorem aisplain_any (a : List UInt8) (ad : Option Addr) (cp : Nat) (bits : Int) (w : World) (ha : Bytes w (.slice ad a.length cp) a) (hac : a.length ≤ cp) (hcm : cp ≤ maxLen) (hal : a.length ≤ 1000) :
    Calls Tryd.prog 25 #[.agg #[.slice ad a.length cp, .int .i64 bits]] w (RightRet w (isPlainB a bits)) := by
  have e0 := heap_alloc_new w (.cells #[.slice ad a.length cp, .int .i64 bits] 30)
  have c0 : (w.alloc (.cells #[.slice ad a.length cp, .int .i64 bits] 30)).cell? ⟨w.heap.size, 0, none⟩ = some (.slice ad a.length cp) := cell_of e0 0 rfl
  have c1 : (w.alloc (.cells #[.slice ad a.length cp, .int .i64 bits] 30)).cell? ⟨w.heap.size, 1, none⟩ = some (.int .i64 bits) := cell_of e0 1 rfl
  have HK := Lib.hid e0
  have HVA := Lib.hid ha
  have HPL : Hid (∀ w, Bytes w (.slice ad a.length cp) a → Calls Tryd.prog 18 #[.agg #[.slice ad a.length cp, .int .i64 bits]] w (PlainRet4 w a bits)) := Lib.hid (fun w h => aplain_any a ad cp bits w h hac hcm hal)
  clear e0 ha
  cases hr : rightP a.length bits with
  | false =>
    have HR : Hid (plainOf a bits = ([], 0, 3)) := Lib.hid (by unfold plainOf; rw [hr]; rfl)
    have HI : Hid (isPlainB a bits = false) := Lib.hid (by unfold isPlainB; rw [hr]; rfl)
    clear hr
    go_enter Tryd.func25, Tryd.ntmps25
    go_wp2_with (first | (go_at_call 18; ((with_reducible refine (HPL.out _ (HVA.out.below (below_one _))).mono ?_); rintro e w2 ⟨qd, cq, rfl, hv, hl, hm, hb2⟩; rw [HR.out] at hv hl ⊢; have HB := Lib.hid ((below_one (.cells #[.slice ad a.length cp, .int .i64 bits] 30)).trans (hb2.mono (by simp))); clear hb2 hv)) | fail)
    go_ret
    exact ⟨ret_bool HI.out.symm, HB.out.alloc HB.out.size _⟩
  | true =>
    have HR : Hid (plainOf a bits = (plainS a bits.toNat, bits, 0)) := Lib.hid (by unfold plainOf; rw [hr]; rfl)
    have HI : Hid (isPlainB a bits = (plainS a bits.toNat == a)) := Lib.hid (by unfold isPlainB; rw [hr]; rfl)
    have HLP : Hid ((plainS a bits.toNat).length = a.length) := Lib.hid (plainS_len _ _)
    obtain ⟨hlen4, hb0, hb8⟩ := right_len hr
    have h0 : 0 < a.length := by omega
    have HQ : Hid (∀ w qd cq, Bytes w (.slice qd (plainS a bits.toNat).length cq) (plainS a bits.toNat) → Bytes w (.slice ad a.length cp) a → Calls Tryd.prog 42 #[.slice qd (plainS a bits.toNat).length cq, .slice ad a.length cp] w fun e w' => e = .returned (.bool (isPlainB a bits)) ∧ w' = w) :=
      Lib.hid (fun w qd cq h1 h2 => by rw [HI.out]; exact bequal_any _ _ _ _ _ _ w h1 h2 (by rw [HLP.out]; exact h0) h0)
    clear hr hlen4
    generalize plainS a bits.toNat = S at *
    go_enter Tryd.func25, Tryd.ntmps25
    go_wp2_with (first | (go_at_call 18; ((with_reducible refine (HPL.out _ (HVA.out.below (below_one _))).mono ?_); rintro e w2 ⟨qd, cq, rfl, hv, hl, hm, hb2⟩; rw [HR.out] at hv hl ⊢; have HVS := Lib.hid hv; have hbx := (hb2.block _ (by simp)).trans HK.out; have hbx2 := fun o => ((below_one (w := w2) o).block _ (Array.getElem?_eq_some_iff.1 hbx).1).trans hbx; have c0 : ∀ o, (w2.alloc o).cell? ⟨w.heap.size, 0, none⟩ = some (.slice ad a.length cp) := fun o => cell_of (hbx2 o) 0 rfl; have HB := Lib.hid ((below_one (.cells #[.slice ad a.length cp, .int .i64 bits] 30)).trans (hb2.mono (by simp))); clear hb2 hv hbx hbx2)) | (go_at_call 42; ((with_reducible refine (HQ.out _ _ _ (HVS.out.below (below_one _)) (HVA.out.below (HB.out.alloc HB.out.size _))).mono ?_); rintro e w3 ⟨rfl, rfl⟩)) | fail)
    go_ret
    exact ⟨rfl, HB.out.alloc HB.out.size _⟩
end Go.Proofs.YtbaceiohcbhpaaaDoor
