import Derived.Test.YtelfcdfbhnkakaaTerm17
namespace Go.Proofs.Ytelfcdfbhnkakaa
set_option linter.unusedVariables false
set_option linter.unusedSimpArgs false
set_option maxRecDepth 100000
open Go.RowKit

theorem strs_two (w : World) (x y : List UInt8) : Strs (w.alloc (.cells #[.string (strB x), .string (strB y)] 9)).drew (.slice (some ⟨w.heap.size, 0, none⟩) 2 2) [x, y] := by
  have h : (w.alloc (.cells #[.string (strB x), .string (strB y)] 9)).heap[w.heap.size]? = some (.cells #[.string (strB x), .string (strB y)] 9 (0, 0)) := heap_alloc_new w _
  refine ⟨_, 2, rfl, (fun h => by cases h), .inr ⟨_, 0, rfl, fun i hi => ?_⟩⟩
  rw [Nat.zero_add]
  match i, hi with
  | 0, _ => exact cell_of h 0 rfl
  | 1, _ => exact cell_of h 1 rfl
set_option maxHeartbeats 4000000 in
theorem make_sorted (k : Nat) (sh : Shape) (hs : shapeOf k = some sh) (n : Nat) (hn18 : n ≤ top) (vb vl : Value) (b : List UInt8) (l : List (List UInt8)) (w : World) (hb : Bytes w vb b) (hl : Strs w vl l) (hbl : k = 4 → b.length ≤ 32768) (hll : l.length ≤ maxLen) (ht : total l ≤ 65536)
    (x0 x1 : List UInt8) (hlx : l = [x0, x1]) (ho : sh.ordered = true) (hle : leL x0 x1 = false) (hblm : b.length ≤ maxLen) :
    Calls Try.prog 15 #[.int .i64 k, .int .u64 n, vb, vl] w fun e w' => e = .returned (.string (strB (pickR k (wText k n b [x1, x0]) [x1, x0]))) ∧ Below w.heap.size w w' := by
  have hz := zero_lit
  have hzf := zero_found
  obtain ⟨f1, f2, f3, f4, f5⟩ := shape_facts hs
  have hlk := look_sh (w.alloc (.map (esN 11) 11)) w.heap.size k sh (MapKept.heap_alloc w _).1 f5 hs
  have HL := Lib.hid hl
  have HBY := Lib.hid hb
  have HW := Lib.hid (make_w1 w sh)
  have HSH := Lib.hid hs
  have ht2 : total [x1, x0] ≤ 65536 := by rw [hlx] at ht; simp [total] at ht ⊢; omega
  have HT2 := Lib.hid ht2
  have H4 := Lib.hid hbl
  have hsm : smallF 65536 l = true := (small_total l 65536).2 ht
  have hhex : (sh.hex = true ∧ b.length ≤ 32768) ∨ sh.hex = false := by
    cases hx : sh.hex with
    | true => exact .inl ⟨rfl, hbl (f2.1 hx)⟩
    | false => exact .inr rfl
  obtain ⟨k2, n2, ps, hx⟩ : ∃ k2 n2 ps, lookR (wText k n b [x1, x0]) = (k2, n2, ps) := ⟨_, _, _, rfl⟩
  obtain ⟨nb, hnb⟩ : ∃ nb, numb k2 = nb := ⟨_, rfl⟩
  have HNB := Lib.hid hnb
  have hP : pickR k (wText k n b [x1, x0]) [x1, x0] = if k2 = k ∧ ps = [x1, x0] then wText k n b [x1, x0] else [] := by unfold pickR; rw [hx]
  have HP := Lib.hid hP
  have hTs : (strB (wText k n b [x1, x0])).size ≤ maxLen := by
    have := wText_len k n b [x1, x0] hn18 ht2 hbl
    rw [strB_size]; unfold maxLen; omega
  have hps : ps.length ≤ maxLen := by
    have := lookR_len (wText k n b [x1, x0])
    rw [hx] at this; unfold maxLen; simp at this; omega
  obtain ⟨T, hT⟩ : ∃ T, wText k n b [x1, x0] = T := ⟨_, rfl⟩
  rw [hT] at hx hTs
  rw [hT] at HP
  have HTX : Hid (strB (wText k n b [x1, x0]) = strB T) := Lib.hid (by rw [hT])
  have HX : Hid (lookR (strB T).data.toList = (k2, n2, ps)) := Lib.hid hx
  rw [hT]
  obtain ⟨ab, cb, rfl, hb⟩ := hb
  obtain ⟨al, cl, rfl, hnl, hl⟩ := hl
  unfold maxLen at hblm
  have hend : (k2 ≠ k) ∨ (k2 = k ∧ (ps == [x1, x0]) = false) ∨ (k2 = k ∧ (ps == [x1, x0]) = true) := by
    cases (ps == [x1, x0]) <;> simp <;> omega
  clear f1 f2 f3 f4 hs hbl ht ht2 hP hnb hT hx hb hnl
  subst hlx
  have hl2i : (((2 : Nat) : Int) == 2) = true := rfl
  have hgt := str_gt (a := x0) (b := x1)
  rw [hle] at hgt
  obtain ⟨bl, ol, rfl, hc⟩ : ∃ b off, al = some ⟨b, off, none⟩ ∧ ∀ i, i < [x0, x1].length → w.cell? ⟨b, off + i, none⟩ = some (strV ([x0, x1].getD i [])) := by
    rcases hl with h | h
    · cases h
    · exact h
  have HL2 : Hid (Strs w (.slice (some ⟨bl, ol, none⟩) 2 cl) [x0, x1]) := Lib.hid HL.out
  have hbb := World.block_lt_of_cell? w _ (hc 0 (by simp))
  have s0 := fun o1 o2 => alloc_cell o2 (by simp; exact Nat.lt_succ_of_lt hbb) (alloc_cell o1 hbb (hc 0 (by simp)))
  have s1 := fun o1 o2 => alloc_cell o2 (by simp; exact Nat.lt_succ_of_lt hbb) (alloc_cell o1 hbb (hc 1 (by simp)))
  simp only [strV, Nat.add_zero, Bool.not_false, List.getD_cons_zero, List.getD_cons_succ] at s0 s1 hgt
  clear hc hbb hle
  rcases hhex with ⟨hx, h1⟩ | hx
  all_goals
    rcases hend with he | ⟨he, heq⟩ | ⟨he, heq⟩
    · have HO : Hid (pickR k T [x1, x0] = []) := Lib.hid (by rw [HP.out, if_neg (fun h => he h.1)])
      have hk2 : ((k2 : Int) != k) = true := by simp; omega
      clear he
      rw [hx, ho] at HW
      go_enter Try.func15, Try.ntmps15
      go_wp2_with (first | (go_at_call 29; ((with_reducible refine (shapes_any _).mono ?_); rintro e w' ⟨rfl, rfl⟩)) | (go_at_call 30; ((with_reducible refine (small_any _ [x0, x1] _ (HL2.out.below HW.out) hll).mono ?_); rintro e w' ⟨rfl, rfl⟩)) | fail)
      go_quiet (fail)
      go_wp2_with fail
      (have hwq0 : ∃ wq, (((w.alloc (.map (esN 11) 11)).alloc (.cells #[.bool sh.numbered, .int .u64 sh.low, .int .u64 sh.high, .bool sh.hex, .int .i64 sh.least, .int .i64 sh.most, .bool sh.ordered] 58))).drewN nq = wq := ⟨_, rfl⟩; have hbq0 : ∀ wq, (((w.alloc (.map (esN 11) 11)).alloc (.cells #[.bool sh.numbered, .int .u64 sh.low, .int .u64 sh.high, .bool sh.hex, .int .i64 sh.least, .int .i64 sh.most, .bool sh.ordered] 58))).drewN nq = wq → wq.heap[w.heap.size + 1]? = some (.cells #[.bool sh.numbered, .int .u64 sh.low, .int .u64 sh.high, .bool sh.hex, .int .i64 sh.least, .int .i64 sh.most, .bool sh.ordered] 58) := (fun wq h => by subst h; have e1 : (w.alloc (.map (esN 11) 11)).heap.size = w.heap.size + 1 := (by simp); have h2 := heap_alloc_new (w.alloc (.map (esN 11) 11)) (.cells #[.bool sh.numbered, .int .u64 sh.low, .int .u64 sh.high, .bool sh.hex, .int .i64 sh.least, .int .i64 sh.most, .bool sh.ordered] 58); rw [e1] at h2; exact h2); have hW2 := HW.out; rw [hx, ho] at hwq0 hbq0; obtain ⟨wq, hwq⟩ := hwq0; have hbq := hbq0 wq hwq; have t0 : wq.cell? ⟨bl, ol, none⟩ = some (.string (strB x0)) := (by rw [← hwq]; exact s0 _ _); have t1 : wq.cell? ⟨bl, ol + 1, none⟩ = some (.string (strB x1)) := (by rw [← hwq]; exact s1 _ _); have hWQ : Below w.heap.size w wq := (by rw [← hwq]; exact below_drewN hW2 nq); rw [hwq]; have HWQ := Lib.hid hWQ; have hbq2 := fun o => keep_alloc (w := wq) hbq o; have b0 := fun o => cell_of (hbq2 o) 0 rfl; have b1 := fun o => cell_of (hbq2 o) 1 rfl; have b2 := fun o => cell_of (hbq2 o) 2 rfl; have b3 := fun o => cell_of (hbq2 o) 3 rfl; have b4 := fun o => cell_of (hbq2 o) 4 rfl; have b5 := fun o => cell_of (hbq2 o) 5 rfl; have b6 := fun o => cell_of (hbq2 o) 6 rfl; clear hwq hbq hbq0 hbq2 hW2 hWQ s0 s1)
      go_still_tail 6, (by kernel_rfl)
      go_wp2_with fail
      (have HWS : Hid (Below w.heap.size w (wq.alloc (.cells #[.string (strB x1), .string (strB x0)] 9)).drew) := Lib.hid ((HWQ.out.alloc HWQ.out.size _).drew); have HSS : Hid (Strs (wq.alloc (.cells #[.string (strB x1), .string (strB x0)] 9)).drew (.slice (some ⟨wq.heap.size, 0, none⟩) 2 2) [x1, x0]) := Lib.hid (strs_two wq x1 x0))
      go_wp2_with (first | (go_at_call 31; ((with_reducible refine (write_any k n sh HSH.out _ _ _ (by simp [shapeV, *]) b [x1, x0] _ (HBY.out.below HWS.out) HSS.out HT2.out hn18 H4.out).mono ?_); rintro e w5 ⟨rfl, hb5⟩; rw [HTX.out]; have hw5 : Below w.heap.size w w5 := HWS.out.trans (hb5.mono HWS.out.size); have HSS5 := Lib.hid (HSS.out.below hb5); have HW5 := Lib.hid hw5; clear hb5 hw5)) | (go_at_call 27; ((with_reducible refine (look_v (strB T) hTs _ k2 n2 nb ps HX.out HNB.out).mono ?_); rintro e w6 ⟨ad, cp, rfl, hS, hB⟩; have hw6 : Below w.heap.size w w6 := HW5.out.trans (hB.mono HW5.out.size); have HSS6 := Lib.hid (HSS5.out.below hB); have HW6 := Lib.hid hw6; have HS := Lib.hid hS; clear hB hS hw6)) | (go_at_call 32; ((with_reducible refine (equal_any _ _ ps [x1, x0] _ (HS.out.below ((Below.refl _ _).alloc (Nat.le_refl _) _)) (HSS6.out.below ((Below.refl _ _).alloc (Nat.le_refl _) _)) hps (by simp; unfold maxLen; omega)).mono ?_); rintro e w' ⟨rfl, q7, rfl⟩)) | fail)
      go_ret
      exact ⟨ret_str (by rw [HO.out]; rfl), HW6.out.alloc HW6.out.size _⟩
    · have HO : Hid (pickR k T [x1, x0] = []) := Lib.hid (by rw [HP.out, if_neg (fun h => by have h2 := h.2; subst h2; simp at heq)])
      have hk2 : ((k2 : Int) != k) = false := by simp [he]
      clear he
      rw [hx, ho] at HW
      go_enter Try.func15, Try.ntmps15
      go_wp2_with (first | (go_at_call 29; ((with_reducible refine (shapes_any _).mono ?_); rintro e w' ⟨rfl, rfl⟩)) | (go_at_call 30; ((with_reducible refine (small_any _ [x0, x1] _ (HL2.out.below HW.out) hll).mono ?_); rintro e w' ⟨rfl, rfl⟩)) | fail)
      go_quiet (fail)
      go_wp2_with fail
      (have hwq0 : ∃ wq, (((w.alloc (.map (esN 11) 11)).alloc (.cells #[.bool sh.numbered, .int .u64 sh.low, .int .u64 sh.high, .bool sh.hex, .int .i64 sh.least, .int .i64 sh.most, .bool sh.ordered] 58))).drewN nq = wq := ⟨_, rfl⟩; have hbq0 : ∀ wq, (((w.alloc (.map (esN 11) 11)).alloc (.cells #[.bool sh.numbered, .int .u64 sh.low, .int .u64 sh.high, .bool sh.hex, .int .i64 sh.least, .int .i64 sh.most, .bool sh.ordered] 58))).drewN nq = wq → wq.heap[w.heap.size + 1]? = some (.cells #[.bool sh.numbered, .int .u64 sh.low, .int .u64 sh.high, .bool sh.hex, .int .i64 sh.least, .int .i64 sh.most, .bool sh.ordered] 58) := (fun wq h => by subst h; have e1 : (w.alloc (.map (esN 11) 11)).heap.size = w.heap.size + 1 := (by simp); have h2 := heap_alloc_new (w.alloc (.map (esN 11) 11)) (.cells #[.bool sh.numbered, .int .u64 sh.low, .int .u64 sh.high, .bool sh.hex, .int .i64 sh.least, .int .i64 sh.most, .bool sh.ordered] 58); rw [e1] at h2; exact h2); have hW2 := HW.out; rw [hx, ho] at hwq0 hbq0; obtain ⟨wq, hwq⟩ := hwq0; have hbq := hbq0 wq hwq; have t0 : wq.cell? ⟨bl, ol, none⟩ = some (.string (strB x0)) := (by rw [← hwq]; exact s0 _ _); have t1 : wq.cell? ⟨bl, ol + 1, none⟩ = some (.string (strB x1)) := (by rw [← hwq]; exact s1 _ _); have hWQ : Below w.heap.size w wq := (by rw [← hwq]; exact below_drewN hW2 nq); rw [hwq]; have HWQ := Lib.hid hWQ; have hbq2 := fun o => keep_alloc (w := wq) hbq o; have b0 := fun o => cell_of (hbq2 o) 0 rfl; have b1 := fun o => cell_of (hbq2 o) 1 rfl; have b2 := fun o => cell_of (hbq2 o) 2 rfl; have b3 := fun o => cell_of (hbq2 o) 3 rfl; have b4 := fun o => cell_of (hbq2 o) 4 rfl; have b5 := fun o => cell_of (hbq2 o) 5 rfl; have b6 := fun o => cell_of (hbq2 o) 6 rfl; clear hwq hbq hbq0 hbq2 hW2 hWQ s0 s1)
      go_still_tail 6, (by kernel_rfl)
      go_wp2_with fail
      (have HWS : Hid (Below w.heap.size w (wq.alloc (.cells #[.string (strB x1), .string (strB x0)] 9)).drew) := Lib.hid ((HWQ.out.alloc HWQ.out.size _).drew); have HSS : Hid (Strs (wq.alloc (.cells #[.string (strB x1), .string (strB x0)] 9)).drew (.slice (some ⟨wq.heap.size, 0, none⟩) 2 2) [x1, x0]) := Lib.hid (strs_two wq x1 x0))
      go_wp2_with (first | (go_at_call 31; ((with_reducible refine (write_any k n sh HSH.out _ _ _ (by simp [shapeV, *]) b [x1, x0] _ (HBY.out.below HWS.out) HSS.out HT2.out hn18 H4.out).mono ?_); rintro e w5 ⟨rfl, hb5⟩; rw [HTX.out]; have hw5 : Below w.heap.size w w5 := HWS.out.trans (hb5.mono HWS.out.size); have HSS5 := Lib.hid (HSS.out.below hb5); have HW5 := Lib.hid hw5; clear hb5 hw5)) | (go_at_call 27; ((with_reducible refine (look_v (strB T) hTs _ k2 n2 nb ps HX.out HNB.out).mono ?_); rintro e w6 ⟨ad, cp, rfl, hS, hB⟩; have hw6 : Below w.heap.size w w6 := HW5.out.trans (hB.mono HW5.out.size); have HSS6 := Lib.hid (HSS5.out.below hB); have HW6 := Lib.hid hw6; have HS := Lib.hid hS; clear hB hS hw6)) | (go_at_call 32; ((with_reducible refine (equal_any _ _ ps [x1, x0] _ (HS.out.below ((Below.refl _ _).alloc (Nat.le_refl _) _)) (HSS6.out.below ((Below.refl _ _).alloc (Nat.le_refl _) _)) hps (by simp; unfold maxLen; omega)).mono ?_); rintro e w' ⟨rfl, q7, rfl⟩)) | fail)
      go_ret
      exact ⟨ret_str (by rw [HO.out]; rfl), below_drewN (HW6.out.alloc HW6.out.size _) _⟩
    · have HO : Hid (pickR k T [x1, x0] = T) := Lib.hid (by rw [HP.out, if_pos ⟨he, by simpa using heq⟩])
      have hk2 : ((k2 : Int) != k) = false := by simp [he]
      clear he
      rw [hx, ho] at HW
      go_enter Try.func15, Try.ntmps15
      go_wp2_with (first | (go_at_call 29; ((with_reducible refine (shapes_any _).mono ?_); rintro e w' ⟨rfl, rfl⟩)) | (go_at_call 30; ((with_reducible refine (small_any _ [x0, x1] _ (HL2.out.below HW.out) hll).mono ?_); rintro e w' ⟨rfl, rfl⟩)) | fail)
      go_quiet (fail)
      go_wp2_with fail
      (have hwq0 : ∃ wq, (((w.alloc (.map (esN 11) 11)).alloc (.cells #[.bool sh.numbered, .int .u64 sh.low, .int .u64 sh.high, .bool sh.hex, .int .i64 sh.least, .int .i64 sh.most, .bool sh.ordered] 58))).drewN nq = wq := ⟨_, rfl⟩; have hbq0 : ∀ wq, (((w.alloc (.map (esN 11) 11)).alloc (.cells #[.bool sh.numbered, .int .u64 sh.low, .int .u64 sh.high, .bool sh.hex, .int .i64 sh.least, .int .i64 sh.most, .bool sh.ordered] 58))).drewN nq = wq → wq.heap[w.heap.size + 1]? = some (.cells #[.bool sh.numbered, .int .u64 sh.low, .int .u64 sh.high, .bool sh.hex, .int .i64 sh.least, .int .i64 sh.most, .bool sh.ordered] 58) := (fun wq h => by subst h; have e1 : (w.alloc (.map (esN 11) 11)).heap.size = w.heap.size + 1 := (by simp); have h2 := heap_alloc_new (w.alloc (.map (esN 11) 11)) (.cells #[.bool sh.numbered, .int .u64 sh.low, .int .u64 sh.high, .bool sh.hex, .int .i64 sh.least, .int .i64 sh.most, .bool sh.ordered] 58); rw [e1] at h2; exact h2); have hW2 := HW.out; rw [hx, ho] at hwq0 hbq0; obtain ⟨wq, hwq⟩ := hwq0; have hbq := hbq0 wq hwq; have t0 : wq.cell? ⟨bl, ol, none⟩ = some (.string (strB x0)) := (by rw [← hwq]; exact s0 _ _); have t1 : wq.cell? ⟨bl, ol + 1, none⟩ = some (.string (strB x1)) := (by rw [← hwq]; exact s1 _ _); have hWQ : Below w.heap.size w wq := (by rw [← hwq]; exact below_drewN hW2 nq); rw [hwq]; have HWQ := Lib.hid hWQ; have hbq2 := fun o => keep_alloc (w := wq) hbq o; have b0 := fun o => cell_of (hbq2 o) 0 rfl; have b1 := fun o => cell_of (hbq2 o) 1 rfl; have b2 := fun o => cell_of (hbq2 o) 2 rfl; have b3 := fun o => cell_of (hbq2 o) 3 rfl; have b4 := fun o => cell_of (hbq2 o) 4 rfl; have b5 := fun o => cell_of (hbq2 o) 5 rfl; have b6 := fun o => cell_of (hbq2 o) 6 rfl; clear hwq hbq hbq0 hbq2 hW2 hWQ s0 s1)
      go_still_tail 6, (by kernel_rfl)
      go_wp2_with fail
      (have HWS : Hid (Below w.heap.size w (wq.alloc (.cells #[.string (strB x1), .string (strB x0)] 9)).drew) := Lib.hid ((HWQ.out.alloc HWQ.out.size _).drew); have HSS : Hid (Strs (wq.alloc (.cells #[.string (strB x1), .string (strB x0)] 9)).drew (.slice (some ⟨wq.heap.size, 0, none⟩) 2 2) [x1, x0]) := Lib.hid (strs_two wq x1 x0))
      go_wp2_with (first | (go_at_call 31; ((with_reducible refine (write_any k n sh HSH.out _ _ _ (by simp [shapeV, *]) b [x1, x0] _ (HBY.out.below HWS.out) HSS.out HT2.out hn18 H4.out).mono ?_); rintro e w5 ⟨rfl, hb5⟩; rw [HTX.out]; have hw5 : Below w.heap.size w w5 := HWS.out.trans (hb5.mono HWS.out.size); have HSS5 := Lib.hid (HSS.out.below hb5); have HW5 := Lib.hid hw5; clear hb5 hw5)) | (go_at_call 27; ((with_reducible refine (look_v (strB T) hTs _ k2 n2 nb ps HX.out HNB.out).mono ?_); rintro e w6 ⟨ad, cp, rfl, hS, hB⟩; have hw6 : Below w.heap.size w w6 := HW5.out.trans (hB.mono HW5.out.size); have HSS6 := Lib.hid (HSS5.out.below hB); have HW6 := Lib.hid hw6; have HS := Lib.hid hS; clear hB hS hw6)) | (go_at_call 32; ((with_reducible refine (equal_any _ _ ps [x1, x0] _ (HS.out.below ((Below.refl _ _).alloc (Nat.le_refl _) _)) (HSS6.out.below ((Below.refl _ _).alloc (Nat.le_refl _) _)) hps (by simp; unfold maxLen; omega)).mono ?_); rintro e w' ⟨rfl, q7, rfl⟩)) | fail)
      go_ret
      exact ⟨ret_str (by rw [HO.out]), below_drewN (HW6.out.alloc HW6.out.size _) _⟩
end Go.Proofs.Ytelfcdfbhnkakaa
