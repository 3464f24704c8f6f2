import Derived.Test.YtelfcdfbhnkakaaTerm14
namespace Go.Proofs.Ytelfcdfbhnkakaa
set_option linter.unusedVariables false
set_option linter.unusedSimpArgs false
set_option maxRecDepth 100000
open Go.RowKit

theorem decs_len20 {n : Nat} (h : n ≤ top) : (decs n).length ≤ 20 := decs_top n h

set_option maxHeartbeats 1000000 in
theorem write_numb (k n : Nat) (sh : Shape) (hs : shapeOf k = some sh) (vb vl : Value) (b : List UInt8) (l : List (List UInt8)) (w : World) (hb : Bytes w vb b) (hl : Strs w vl l) (ht : total l ≤ 65536) (hn : numb k = true) (hn18 : n ≤ top) :
    Calls Try.prog 31 #[.int .i64 k, shapeV sh, .int .u64 n, vb, vl] w fun e w' => e = .returned (.string (strB (wText k n b l))) ∧ Below w.heap.size w w' := by
  obtain ⟨f1, f2, f3, f4, f5⟩ := shape_facts hs
  have hnn : sh.numbered = true := by rw [f1, hn]
  have hhx : sh.hex = false := by cases hx : sh.hex; rfl; have h4 := f2.1 hx; subst h4; cases hn
  have hitems : itemsOf k n b = [decs n] := by unfold itemsOf; rw [if_pos hn]
  have HJ : Hid (joined k n b l = Lib.join (decs n :: l) [44]) := Lib.hid (by unfold joined; rw [hitems]; rfl)
  have HL := Lib.hid hl
  have hj := join_len (decs n :: l)
  have htt : total (decs n :: l) ≤ total l + (decs n).length + 1 := by simp [total]; omega
  have hxl : (decs n).length ≤ 65536 := by have := decs_len20 hn18; omega
  have hll : l.length ≤ 65536 := by unfold total at ht; omega
  have hsl := sign_slice f4 f5
  have hjs := strB_size (Lib.join (decs n :: l) [44])
  have hp := strB_size1
  have hp2 := strB_size2
  have hs1 := strB_size [signOf k]
  simp only [List.length_singleton] at hs1
  have hJ : ∀ (w : World) (B : Nat) (v : Value), w.ownsRow B 9 1 v (decs n :: l).length ((decs n :: l).map strV) → Calls Try.prog 48 #[v, .string ⟨#[44]⟩] w fun e w' => e = .returned (.string (strB (Lib.join (decs n :: l) [44]))) ∧ Below w.heap.size w w' := fun w B v h => join_own h (by simp; omega) (by omega)
  have HJOIN := Lib.hid hJ
  clear hJ
  generalize Lib.join (decs n :: l) [44] = j at *
  have hjb : j.length ≤ 262144 := by omega
  have F3 := Lib.hid f3
  have HB := Lib.hid hb
  obtain ⟨i0, hi0, hz0, hz1, hz2⟩ := info_parts Try.infoStr
  clear hl hitems f1 f2 f3 hb hs ht htt hj 
  by_cases hk : 5 ≤ k
  · have hmo : 0 < sh.most := F3.out.2 hk
    have HT := Lib.hid (text_paren k n b l hk)
    clear hk
    go_enter Try.func31, Try.ntmps31
    go_wp2_with (first | (go_at_call 46; ((with_reducible refine (print_any n hn18 _).mono ?_); rintro e w1 ⟨rfl, hb1⟩; have hbx1 := (hb1.block w.heap.size (by simp)).trans (heap_alloc_new w _); have y0 := cell_of hbx1 0 rfl; have y3 := cell_of hbx1 3 rfl; have y5 := cell_of hbx1 5 rfl; have hbw : Below w.heap.size w w1 := ((Below.refl _ _).alloc (Nat.le_refl _) _).trans (hb1.mono (by simp)); have HBX1 := Lib.hid hbx1; have HBZ : Hid (w.heap.size + 1 ≤ w1.heap.size) := Lib.hid (Array.getElem?_eq_some_iff.1 hbx1).1; have HBW := Lib.hid hbw; clear hb1 hbx1 hbw)) | (at_builtin; (refine wpList_append_own _ rfl _ _ 25 rfl (w.heap.size + 1) 9 i0 _ 1 16 Try.underlying25 hi0 hz0 hz1 hz2 rfl (by decide) (.slice none 0 0) 0 [] rfl (World.ownsRow_nil _ _ _ _) ⟨w1.heap.size, 0, none⟩ 1 1 [strV (decs n)] rfl rfl (World.news_of_block (cs := #[strV (decs n)]) (t := 9) (fr := (0, 0)) (heap_alloc_new w1 _)) (by simp [Value.oneCell', strV]) (by unfold maxLen; omega) (by omega) (by have h1 := HBZ.out; simp; omega) ?_); intro v1 w2 hown1 hg1 _; have hbx2 := keep_far (keep_alloc HBX1.out _) hg1 (by simp [Value.ownBlock]); have z3 := cell_of hbx2 3 rfl; have z5 := cell_of hbx2 5 rfl; have hbw2 : Below w.heap.size w w2 := (HBW.out.alloc HBW.out.size _).grown hg1 (by have h1 := HBW.out.size; simp; omega) (fun k hk => by cases hk); have HBX2 := Lib.hid hbx2; have HBZ2 : Hid (w.heap.size + 1 ≤ w2.heap.size) := Lib.hid (Array.getElem?_eq_some_iff.1 hbx2).1; have HBW2 := Lib.hid hbw2; have HO1 := Lib.hid hown1; clear hown1 hg1 hbx2 hbw2) | (at_builtin; (refine wpList_append_strs rfl _ _ rfl (w.heap.size + 1) v1 1 [strV (decs n)] rfl HO1.out _ l rfl (HL.out.below HBW2.out) (by omega) HBZ2.out ?_); intro v' w2b hown hgrow; have hown2 : w2b.ownsRow (w.heap.size + 1) 9 1 v' (decs n :: l).length ((decs n :: l).map strV) := (by simpa [Nat.add_comm] using hown); have hb2 : Below w.heap.size w w2b := HBW2.out.grown hgrow HBW2.out.size (fun k hk => by have := (HO1.out.lt k hk).1; omega); have HOWN := Lib.hid hown2; have HB2 := Lib.hid hb2; have hbx := keep_far HBX2.out hgrow (fun e => own_ne HO1.out (Nat.lt_succ_self _) e.symm); have HBX := Lib.hid hbx; clear hown hown2 hgrow hb2 hbx) | (go_at_call 48; ((with_reducible refine (HJOIN.out _ _ _ HOWN.out).mono ?_); rintro e w3 ⟨rfl, hb3⟩; have hbx3 := (hb3.block _ (Array.getElem?_eq_some_iff.1 HBX.out).1).trans HBX.out; have x5 := cell_of hbx3 5 rfl; have HB3 := Lib.hid hb3; clear hb3 hbx3)) | fail)
    go_ret
    exact ⟨ret_str (by have h := HT.out; rw [HJ.out] at h; exact h), HB2.out.trans (HB3.out.mono HB2.out.size)⟩
  · have hmo : ¬ 0 < sh.most := fun h => hk (F3.out.1 h)
    have HT := Lib.hid (text_bare k n b l hk)
    clear hk
    go_enter Try.func31, Try.ntmps31
    go_wp2_with (first | (go_at_call 46; ((with_reducible refine (print_any n hn18 _).mono ?_); rintro e w1 ⟨rfl, hb1⟩; have hbx1 := (hb1.block w.heap.size (by simp)).trans (heap_alloc_new w _); have y0 := cell_of hbx1 0 rfl; have y3 := cell_of hbx1 3 rfl; have y5 := cell_of hbx1 5 rfl; have hbw : Below w.heap.size w w1 := ((Below.refl _ _).alloc (Nat.le_refl _) _).trans (hb1.mono (by simp)); have HBX1 := Lib.hid hbx1; have HBZ : Hid (w.heap.size + 1 ≤ w1.heap.size) := Lib.hid (Array.getElem?_eq_some_iff.1 hbx1).1; have HBW := Lib.hid hbw; clear hb1 hbx1 hbw)) | (at_builtin; (refine wpList_append_own _ rfl _ _ 25 rfl (w.heap.size + 1) 9 i0 _ 1 16 Try.underlying25 hi0 hz0 hz1 hz2 rfl (by decide) (.slice none 0 0) 0 [] rfl (World.ownsRow_nil _ _ _ _) ⟨w1.heap.size, 0, none⟩ 1 1 [strV (decs n)] rfl rfl (World.news_of_block (cs := #[strV (decs n)]) (t := 9) (fr := (0, 0)) (heap_alloc_new w1 _)) (by simp [Value.oneCell', strV]) (by unfold maxLen; omega) (by omega) (by have h1 := HBZ.out; simp; omega) ?_); intro v1 w2 hown1 hg1 _; have hbx2 := keep_far (keep_alloc HBX1.out _) hg1 (by simp [Value.ownBlock]); have z3 := cell_of hbx2 3 rfl; have z5 := cell_of hbx2 5 rfl; have hbw2 : Below w.heap.size w w2 := (HBW.out.alloc HBW.out.size _).grown hg1 (by have h1 := HBW.out.size; simp; omega) (fun k hk => by cases hk); have HBX2 := Lib.hid hbx2; have HBZ2 : Hid (w.heap.size + 1 ≤ w2.heap.size) := Lib.hid (Array.getElem?_eq_some_iff.1 hbx2).1; have HBW2 := Lib.hid hbw2; have HO1 := Lib.hid hown1; clear hown1 hg1 hbx2 hbw2) | (at_builtin; (refine wpList_append_strs rfl _ _ rfl (w.heap.size + 1) v1 1 [strV (decs n)] rfl HO1.out _ l rfl (HL.out.below HBW2.out) (by omega) HBZ2.out ?_); intro v' w2b hown hgrow; have hown2 : w2b.ownsRow (w.heap.size + 1) 9 1 v' (decs n :: l).length ((decs n :: l).map strV) := (by simpa [Nat.add_comm] using hown); have hb2 : Below w.heap.size w w2b := HBW2.out.grown hgrow HBW2.out.size (fun k hk => by have := (HO1.out.lt k hk).1; omega); have HOWN := Lib.hid hown2; have HB2 := Lib.hid hb2; have hbx := keep_far HBX2.out hgrow (fun e => own_ne HO1.out (Nat.lt_succ_self _) e.symm); have HBX := Lib.hid hbx; clear hown hown2 hgrow hb2 hbx) | (go_at_call 48; ((with_reducible refine (HJOIN.out _ _ _ HOWN.out).mono ?_); rintro e w3 ⟨rfl, hb3⟩; have hbx3 := (hb3.block _ (Array.getElem?_eq_some_iff.1 HBX.out).1).trans HBX.out; have x5 := cell_of hbx3 5 rfl; have HB3 := Lib.hid hb3; clear hb3 hbx3)) | fail)
    go_ret
    exact ⟨ret_str (by have h := HT.out; rw [HJ.out] at h; exact h), HB2.out.trans (HB3.out.mono HB2.out.size)⟩

set_option maxHeartbeats 1000000 in
theorem write_hex (k n : Nat) (sh : Shape) (hs : shapeOf k = some sh) (vb vl : Value) (b : List UInt8) (l : List (List UInt8)) (w : World) (hb : Bytes w vb b) (hl : Strs w vl l) (ht : total l ≤ 65536) (h4 : k = 4) (hbl : b.length ≤ 32768) :
    Calls Try.prog 31 #[.int .i64 k, shapeV sh, .int .u64 n, vb, vl] w fun e w' => e = .returned (.string (strB (wText k n b l))) ∧ Below w.heap.size w w' := by
  obtain ⟨f1, f2, f3, f4, f5⟩ := shape_facts hs
  have hnn : sh.numbered = false := by rw [f1, h4]; rfl
  have hhx : sh.hex = true := f2.2 h4
  have hitems : itemsOf k n b = [hexOf b] := by unfold itemsOf; rw [if_neg (by rw [h4]; decide), if_pos h4]
  have HJ : Hid (joined k n b l = Lib.join (hexOf b :: l) [44]) := Lib.hid (by unfold joined; rw [hitems]; rfl)
  have HL := Lib.hid hl
  have hj := join_len (hexOf b :: l)
  have htt : total (hexOf b :: l) ≤ total l + (hexOf b).length + 1 := by simp [total]; omega
  have hxl : (hexOf b).length ≤ 65536 := by rw [hexOf_length]; omega
  have hll : l.length ≤ 65536 := by unfold total at ht; omega
  have hsl := sign_slice f4 f5
  have hjs := strB_size (Lib.join (hexOf b :: l) [44])
  have hp := strB_size1
  have hp2 := strB_size2
  have hs1 := strB_size [signOf k]
  simp only [List.length_singleton] at hs1
  have hJ : ∀ (w : World) (B : Nat) (v : Value), w.ownsRow B 9 1 v (hexOf b :: l).length ((hexOf b :: l).map strV) → Calls Try.prog 48 #[v, .string ⟨#[44]⟩] w fun e w' => e = .returned (.string (strB (Lib.join (hexOf b :: l) [44]))) ∧ Below w.heap.size w w' := fun w B v h => join_own h (by simp; omega) (by omega)
  have HJOIN := Lib.hid hJ
  clear hJ
  generalize Lib.join (hexOf b :: l) [44] = j at *
  have hjb : j.length ≤ 262144 := by omega
  have F3 := Lib.hid f3
  have HB := Lib.hid hb
  obtain ⟨i0, hi0, hz0, hz1, hz2⟩ := info_parts Try.infoStr
  clear hl hitems f1 f2 f3 hb hs ht htt hj h4
  by_cases hk : 5 ≤ k
  · have hmo : 0 < sh.most := F3.out.2 hk
    have HT := Lib.hid (text_paren k n b l hk)
    clear hk
    go_enter Try.func31, Try.ntmps31
    go_wp2_with (first | (go_at_call 47; ((with_reducible refine (hex_any _ _ _ (HB.out.below ((Below.refl _ _).alloc (Nat.le_refl _) _)) (by omega)).mono ?_); rintro e w1 ⟨rfl, hb1⟩; have hbx1 := (hb1.block w.heap.size (by simp)).trans (heap_alloc_new w _); have y0 := cell_of hbx1 0 rfl; have y3 := cell_of hbx1 3 rfl; have y5 := cell_of hbx1 5 rfl; have hbw : Below w.heap.size w w1 := ((Below.refl _ _).alloc (Nat.le_refl _) _).trans (hb1.mono (by simp)); have HBX1 := Lib.hid hbx1; have HBZ : Hid (w.heap.size + 1 ≤ w1.heap.size) := Lib.hid (Array.getElem?_eq_some_iff.1 hbx1).1; have HBW := Lib.hid hbw; clear hb1 hbx1 hbw)) | (at_builtin; (refine wpList_append_own _ rfl _ _ 25 rfl (w.heap.size + 1) 9 i0 _ 1 16 Try.underlying25 hi0 hz0 hz1 hz2 rfl (by decide) (.slice none 0 0) 0 [] rfl (World.ownsRow_nil _ _ _ _) ⟨w1.heap.size, 0, none⟩ 1 1 [strV (hexOf b)] rfl rfl (World.news_of_block (cs := #[strV (hexOf b)]) (t := 9) (fr := (0, 0)) (heap_alloc_new w1 _)) (by simp [Value.oneCell', strV]) (by unfold maxLen; omega) (by omega) (by have h1 := HBZ.out; simp; omega) ?_); intro v1 w2 hown1 hg1 _; have hbx2 := keep_far (keep_alloc HBX1.out _) hg1 (by simp [Value.ownBlock]); have z3 := cell_of hbx2 3 rfl; have z5 := cell_of hbx2 5 rfl; have hbw2 : Below w.heap.size w w2 := (HBW.out.alloc HBW.out.size _).grown hg1 (by have h1 := HBW.out.size; simp; omega) (fun k hk => by cases hk); have HBX2 := Lib.hid hbx2; have HBZ2 : Hid (w.heap.size + 1 ≤ w2.heap.size) := Lib.hid (Array.getElem?_eq_some_iff.1 hbx2).1; have HBW2 := Lib.hid hbw2; have HO1 := Lib.hid hown1; clear hown1 hg1 hbx2 hbw2) | (at_builtin; (refine wpList_append_strs rfl _ _ rfl (w.heap.size + 1) v1 1 [strV (hexOf b)] rfl HO1.out _ l rfl (HL.out.below HBW2.out) (by omega) HBZ2.out ?_); intro v' w2b hown hgrow; have hown2 : w2b.ownsRow (w.heap.size + 1) 9 1 v' (hexOf b :: l).length ((hexOf b :: l).map strV) := (by simpa [Nat.add_comm] using hown); have hb2 : Below w.heap.size w w2b := HBW2.out.grown hgrow HBW2.out.size (fun k hk => by have := (HO1.out.lt k hk).1; omega); have HOWN := Lib.hid hown2; have HB2 := Lib.hid hb2; have hbx := keep_far HBX2.out hgrow (fun e => own_ne HO1.out (Nat.lt_succ_self _) e.symm); have HBX := Lib.hid hbx; clear hown hown2 hgrow hb2 hbx) | (go_at_call 48; ((with_reducible refine (HJOIN.out _ _ _ HOWN.out).mono ?_); rintro e w3 ⟨rfl, hb3⟩; have hbx3 := (hb3.block _ (Array.getElem?_eq_some_iff.1 HBX.out).1).trans HBX.out; have x5 := cell_of hbx3 5 rfl; have HB3 := Lib.hid hb3; clear hb3 hbx3)) | fail)
    go_ret
    exact ⟨ret_str (by have h := HT.out; rw [HJ.out] at h; exact h), HB2.out.trans (HB3.out.mono HB2.out.size)⟩
  · have hmo : ¬ 0 < sh.most := fun h => hk (F3.out.1 h)
    have HT := Lib.hid (text_bare k n b l hk)
    clear hk
    go_enter Try.func31, Try.ntmps31
    go_wp2_with (first | (go_at_call 47; ((with_reducible refine (hex_any _ _ _ (HB.out.below ((Below.refl _ _).alloc (Nat.le_refl _) _)) (by omega)).mono ?_); rintro e w1 ⟨rfl, hb1⟩; have hbx1 := (hb1.block w.heap.size (by simp)).trans (heap_alloc_new w _); have y0 := cell_of hbx1 0 rfl; have y3 := cell_of hbx1 3 rfl; have y5 := cell_of hbx1 5 rfl; have hbw : Below w.heap.size w w1 := ((Below.refl _ _).alloc (Nat.le_refl _) _).trans (hb1.mono (by simp)); have HBX1 := Lib.hid hbx1; have HBZ : Hid (w.heap.size + 1 ≤ w1.heap.size) := Lib.hid (Array.getElem?_eq_some_iff.1 hbx1).1; have HBW := Lib.hid hbw; clear hb1 hbx1 hbw)) | (at_builtin; (refine wpList_append_own _ rfl _ _ 25 rfl (w.heap.size + 1) 9 i0 _ 1 16 Try.underlying25 hi0 hz0 hz1 hz2 rfl (by decide) (.slice none 0 0) 0 [] rfl (World.ownsRow_nil _ _ _ _) ⟨w1.heap.size, 0, none⟩ 1 1 [strV (hexOf b)] rfl rfl (World.news_of_block (cs := #[strV (hexOf b)]) (t := 9) (fr := (0, 0)) (heap_alloc_new w1 _)) (by simp [Value.oneCell', strV]) (by unfold maxLen; omega) (by omega) (by have h1 := HBZ.out; simp; omega) ?_); intro v1 w2 hown1 hg1 _; have hbx2 := keep_far (keep_alloc HBX1.out _) hg1 (by simp [Value.ownBlock]); have z3 := cell_of hbx2 3 rfl; have z5 := cell_of hbx2 5 rfl; have hbw2 : Below w.heap.size w w2 := (HBW.out.alloc HBW.out.size _).grown hg1 (by have h1 := HBW.out.size; simp; omega) (fun k hk => by cases hk); have HBX2 := Lib.hid hbx2; have HBZ2 : Hid (w.heap.size + 1 ≤ w2.heap.size) := Lib.hid (Array.getElem?_eq_some_iff.1 hbx2).1; have HBW2 := Lib.hid hbw2; have HO1 := Lib.hid hown1; clear hown1 hg1 hbx2 hbw2) | (at_builtin; (refine wpList_append_strs rfl _ _ rfl (w.heap.size + 1) v1 1 [strV (hexOf b)] rfl HO1.out _ l rfl (HL.out.below HBW2.out) (by omega) HBZ2.out ?_); intro v' w2b hown hgrow; have hown2 : w2b.ownsRow (w.heap.size + 1) 9 1 v' (hexOf b :: l).length ((hexOf b :: l).map strV) := (by simpa [Nat.add_comm] using hown); have hb2 : Below w.heap.size w w2b := HBW2.out.grown hgrow HBW2.out.size (fun k hk => by have := (HO1.out.lt k hk).1; omega); have HOWN := Lib.hid hown2; have HB2 := Lib.hid hb2; have hbx := keep_far HBX2.out hgrow (fun e => own_ne HO1.out (Nat.lt_succ_self _) e.symm); have HBX := Lib.hid hbx; clear hown hown2 hgrow hb2 hbx) | (go_at_call 48; ((with_reducible refine (HJOIN.out _ _ _ HOWN.out).mono ?_); rintro e w3 ⟨rfl, hb3⟩; have hbx3 := (hb3.block _ (Array.getElem?_eq_some_iff.1 HBX.out).1).trans HBX.out; have x5 := cell_of hbx3 5 rfl; have HB3 := Lib.hid hb3; clear hb3 hbx3)) | fail)
    go_ret
    exact ⟨ret_str (by have h := HT.out; rw [HJ.out] at h; exact h), HB2.out.trans (HB3.out.mono HB2.out.size)⟩
end Go.Proofs.Ytelfcdfbhnkakaa
