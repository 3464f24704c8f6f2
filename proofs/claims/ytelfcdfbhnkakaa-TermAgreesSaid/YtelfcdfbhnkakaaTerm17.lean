import Derived.Test.YtelfcdfbhnkakaaTerm16
import Derived.StillTailTactics
namespace Go.Proofs.Ytelfcdfbhnkakaa
set_option linter.unusedVariables false
set_option linter.unusedSimpArgs false
set_option maxRecDepth 100000
open Go.RowKit

/-- what Make tells behind the writing: the text, if it is just this term -/
def pickR (k : Nat) (T : List UInt8) (l : List (List UInt8)) : List UInt8 := if (lookR T).1 = k ∧ (lookR T).2.2 = l then T else []

theorem lookR_len (t : List UInt8) : (lookR t).2.2.length ≤ 65536 := by
  unfold lookR
  cases hq : qLook t with
  | none => simp
  | some x =>
    obtain ⟨k, n, ps⟩ := x
    obtain ⟨sh, hs, h1, h2⟩ := look_count hq
    have : sh.most ≤ 65536 := by
      rcases shape_cases hs with e | e | e | e | e | e | e | e | e | e | e
      all_goals (rw [e] at hs; simp only [shapeOf, Option.some.injEq] at hs; subst hs; decide)
    show ps.length ≤ 65536
    omega
theorem wText_len (k n : Nat) (b : List UInt8) (l : List (List UInt8)) (hn : n ≤ top) (ht : total l ≤ 65536) (hb : k = 4 → b.length ≤ 32768) : (wText k n b l).length ≤ 200000 := by
  have hj : (joined k n b l).length ≤ 150000 := by
    unfold joined
    refine Nat.le_trans (join_len _) ?_
    unfold itemsOf
    split
    · have := decs_len20 hn
      simp [total] at ht ⊢; omega
    · split
      · rename_i h
        have h2 := hexOf_length b
        have h3 := hb h
        simp [total] at ht ⊢; omega
      · simp [total] at ht ⊢; omega
  unfold wText
  split <;> simp <;> omega
set_option maxHeartbeats 4000000 in
theorem make_plain (k : Nat) (sh : Shape) (hs : shapeOf k = some sh) (n : Nat) (hn18 : n ≤ top) (vb vl : Value) (b : List UInt8) (l : List (List UInt8)) (w : World) (hb : Bytes w vb b) (hl : Strs w vl l) (hbl : k = 4 → b.length ≤ 32768) (hll : l.length ≤ maxLen) (ht : total l ≤ 65536)
    (hord : sh.ordered = false ∨ (sh.ordered = true ∧ l.length ≠ 2) ∨ (sh.ordered = true ∧ l.length = 2 ∧ leL (l.getD 0 []) (l.getD 1 []) = true)) (hblm : b.length ≤ maxLen) :
    Calls Try.prog 15 #[.int .i64 k, .int .u64 n, vb, vl] w fun e w' => e = .returned (.string (strB (pickR k (wText k n b l) l))) ∧ Below w.heap.size w w' := by
  have hz := zero_lit
  have hzf := zero_found
  obtain ⟨f1, f2, f3, f4, f5⟩ := shape_facts hs
  have hlk := look_sh (w.alloc (.map (esN 11) 11)) w.heap.size k sh (MapKept.heap_alloc w _).1 f5 hs
  have HL := Lib.hid hl
  have HBY := Lib.hid hb
  have HW := Lib.hid (make_w1 w sh)
  have HSH := Lib.hid hs
  have HT := Lib.hid ht
  have H4 := Lib.hid hbl
  have hsm : smallF 65536 l = true := (small_total l 65536).2 ht
  have hhex : (sh.hex = true ∧ b.length ≤ 32768) ∨ sh.hex = false := by
    cases hx : sh.hex with
    | true => exact .inl ⟨rfl, hbl (f2.1 hx)⟩
    | false => exact .inr rfl
  obtain ⟨k2, n2, ps, hx⟩ : ∃ k2 n2 ps, lookR (wText k n b l) = (k2, n2, ps) := ⟨_, _, _, rfl⟩
  obtain ⟨nb, hnb⟩ : ∃ nb, numb k2 = nb := ⟨_, rfl⟩
  have HNB := Lib.hid hnb
  have hP : pickR k (wText k n b l) l = if k2 = k ∧ ps = l then wText k n b l else [] := by unfold pickR; rw [hx]
  have HP := Lib.hid hP
  have hTs : (strB (wText k n b l)).size ≤ maxLen := by
    have := wText_len k n b l hn18 ht hbl
    rw [strB_size]; unfold maxLen; omega
  have hps : ps.length ≤ maxLen := by
    have := lookR_len (wText k n b l)
    rw [hx] at this; unfold maxLen; simp at this; omega
  obtain ⟨T, hT⟩ : ∃ T, wText k n b l = T := ⟨_, rfl⟩
  rw [hT] at hx hTs
  rw [hT] at HP
  have HTX : Hid (strB (wText k n b l) = strB T) := Lib.hid (by rw [hT])
  have HX : Hid (lookR (strB T).data.toList = (k2, n2, ps)) := Lib.hid hx
  rw [hT]
  obtain ⟨ab, cb, rfl, hb⟩ := hb
  obtain ⟨al, cl, rfl, hnl, hl⟩ := hl
  unfold maxLen at hblm
  have hend : (k2 ≠ k) ∨ (k2 = k ∧ (ps == l) = false) ∨ (k2 = k ∧ (ps == l) = true) := by
    cases (ps == l) <;> simp <;> omega
  clear f1 f2 f3 f4 hs hbl ht hP hnb hT hx hb hnl
  rcases hord with ho | ⟨ho, hl2⟩ | ⟨ho, hl2, hle⟩
  · clear hl
    rcases hhex with ⟨hx, h1⟩ | hx
    all_goals
      rcases hend with he | ⟨he, heq⟩ | ⟨he, heq⟩
      · have HO : Hid (pickR k T l = []) := Lib.hid (by rw [HP.out, if_neg (fun h => he h.1)])
        have hk2 : ((k2 : Int) != k) = true := by simp; omega
        clear he
        rw [hx, ho] at HW
        go_enter Try.func15, Try.ntmps15
        go_wp2_with (first | (go_at_call 29; ((with_reducible refine (shapes_any _).mono ?_); rintro e w' ⟨rfl, rfl⟩)) | (go_at_call 30; ((with_reducible refine (small_any _ l _ (HL.out.below HW.out) hll).mono ?_); rintro e w' ⟨rfl, rfl⟩)) | fail)
        go_quiet (fail)
        go_wp2_with (first | (go_at_call 31; ((with_reducible refine (write_any k n sh HSH.out _ _ _ (by simp [shapeV, *]) b l _ (HBY.out.below (below_drewN HW.out nq)) (HL.out.below (below_drewN HW.out nq)) HT.out hn18 H4.out).mono ?_); rintro e w5 ⟨rfl, hb5⟩; rw [HTX.out]; have hw5 : Below w.heap.size w w5 := (below_drewN HW.out nq).trans (hb5.mono (by have := HW.out.size; exact this)); have HW5 := Lib.hid hw5; clear hb5 hw5)) | (go_at_call 27; ((with_reducible refine (look_v (strB T) hTs _ k2 n2 nb ps HX.out HNB.out).mono ?_); rintro e w6 ⟨ad, cp, rfl, hS, hB⟩; have hw6 : Below w.heap.size w w6 := HW5.out.trans (hB.mono HW5.out.size); have HW6 := Lib.hid hw6; have HS := Lib.hid hS; clear hB hS hw6)) | (go_at_call 32; ((with_reducible refine (equal_any _ _ ps l _ (HS.out.below ((Below.refl _ _).alloc (Nat.le_refl _) _)) (HL.out.below (HW6.out.alloc HW6.out.size _)) hps hll).mono ?_); rintro e w' ⟨rfl, q7, rfl⟩)) | fail)
        go_ret
        exact ⟨ret_str (by rw [HO.out]; rfl), HW6.out.alloc HW6.out.size _⟩
      · have HO : Hid (pickR k T l = []) := Lib.hid (by rw [HP.out, if_neg (fun h => by have h2 := h.2; subst h2; simp at heq)])
        have hk2 : ((k2 : Int) != k) = false := by simp [he]
        clear he
        rw [hx, ho] at HW
        go_enter Try.func15, Try.ntmps15
        go_wp2_with (first | (go_at_call 29; ((with_reducible refine (shapes_any _).mono ?_); rintro e w' ⟨rfl, rfl⟩)) | (go_at_call 30; ((with_reducible refine (small_any _ l _ (HL.out.below HW.out) hll).mono ?_); rintro e w' ⟨rfl, rfl⟩)) | fail)
        go_quiet (fail)
        go_wp2_with (first | (go_at_call 31; ((with_reducible refine (write_any k n sh HSH.out _ _ _ (by simp [shapeV, *]) b l _ (HBY.out.below (below_drewN HW.out nq)) (HL.out.below (below_drewN HW.out nq)) HT.out hn18 H4.out).mono ?_); rintro e w5 ⟨rfl, hb5⟩; rw [HTX.out]; have hw5 : Below w.heap.size w w5 := (below_drewN HW.out nq).trans (hb5.mono (by have := HW.out.size; exact this)); have HW5 := Lib.hid hw5; clear hb5 hw5)) | (go_at_call 27; ((with_reducible refine (look_v (strB T) hTs _ k2 n2 nb ps HX.out HNB.out).mono ?_); rintro e w6 ⟨ad, cp, rfl, hS, hB⟩; have hw6 : Below w.heap.size w w6 := HW5.out.trans (hB.mono HW5.out.size); have HW6 := Lib.hid hw6; have HS := Lib.hid hS; clear hB hS hw6)) | (go_at_call 32; ((with_reducible refine (equal_any _ _ ps l _ (HS.out.below ((Below.refl _ _).alloc (Nat.le_refl _) _)) (HL.out.below (HW6.out.alloc HW6.out.size _)) hps hll).mono ?_); rintro e w' ⟨rfl, q7, rfl⟩)) | fail)
        go_ret
        exact ⟨ret_str (by rw [HO.out]; rfl), below_drewN (HW6.out.alloc HW6.out.size _) _⟩
      · have HO : Hid (pickR k T l = T) := Lib.hid (by rw [HP.out, if_pos ⟨he, by simpa using heq⟩])
        have hk2 : ((k2 : Int) != k) = false := by simp [he]
        clear he
        rw [hx, ho] at HW
        go_enter Try.func15, Try.ntmps15
        go_wp2_with (first | (go_at_call 29; ((with_reducible refine (shapes_any _).mono ?_); rintro e w' ⟨rfl, rfl⟩)) | (go_at_call 30; ((with_reducible refine (small_any _ l _ (HL.out.below HW.out) hll).mono ?_); rintro e w' ⟨rfl, rfl⟩)) | fail)
        go_quiet (fail)
        go_wp2_with (first | (go_at_call 31; ((with_reducible refine (write_any k n sh HSH.out _ _ _ (by simp [shapeV, *]) b l _ (HBY.out.below (below_drewN HW.out nq)) (HL.out.below (below_drewN HW.out nq)) HT.out hn18 H4.out).mono ?_); rintro e w5 ⟨rfl, hb5⟩; rw [HTX.out]; have hw5 : Below w.heap.size w w5 := (below_drewN HW.out nq).trans (hb5.mono (by have := HW.out.size; exact this)); have HW5 := Lib.hid hw5; clear hb5 hw5)) | (go_at_call 27; ((with_reducible refine (look_v (strB T) hTs _ k2 n2 nb ps HX.out HNB.out).mono ?_); rintro e w6 ⟨ad, cp, rfl, hS, hB⟩; have hw6 : Below w.heap.size w w6 := HW5.out.trans (hB.mono HW5.out.size); have HW6 := Lib.hid hw6; have HS := Lib.hid hS; clear hB hS hw6)) | (go_at_call 32; ((with_reducible refine (equal_any _ _ ps l _ (HS.out.below ((Below.refl _ _).alloc (Nat.le_refl _) _)) (HL.out.below (HW6.out.alloc HW6.out.size _)) hps hll).mono ?_); rintro e w' ⟨rfl, q7, rfl⟩)) | fail)
        go_ret
        exact ⟨ret_str (by rw [HO.out]), below_drewN (HW6.out.alloc HW6.out.size _) _⟩
  · clear hl
    have hl2i : ((l.length : Int) == 2) = false := beqf (by omega)
    clear hl2
    rcases hhex with ⟨hx, h1⟩ | hx
    all_goals
      rcases hend with he | ⟨he, heq⟩ | ⟨he, heq⟩
      · have HO : Hid (pickR k T l = []) := Lib.hid (by rw [HP.out, if_neg (fun h => he h.1)])
        have hk2 : ((k2 : Int) != k) = true := by simp; omega
        clear he
        rw [hx, ho] at HW
        go_enter Try.func15, Try.ntmps15
        go_wp2_with (first | (go_at_call 29; ((with_reducible refine (shapes_any _).mono ?_); rintro e w' ⟨rfl, rfl⟩)) | (go_at_call 30; ((with_reducible refine (small_any _ l _ (HL.out.below HW.out) hll).mono ?_); rintro e w' ⟨rfl, rfl⟩)) | fail)
        go_quiet (fail)
        go_wp2_with (first | (go_at_call 31; ((with_reducible refine (write_any k n sh HSH.out _ _ _ (by simp [shapeV, *]) b l _ (HBY.out.below (below_drewN HW.out nq)) (HL.out.below (below_drewN HW.out nq)) HT.out hn18 H4.out).mono ?_); rintro e w5 ⟨rfl, hb5⟩; rw [HTX.out]; have hw5 : Below w.heap.size w w5 := (below_drewN HW.out nq).trans (hb5.mono (by have := HW.out.size; exact this)); have HW5 := Lib.hid hw5; clear hb5 hw5)) | (go_at_call 27; ((with_reducible refine (look_v (strB T) hTs _ k2 n2 nb ps HX.out HNB.out).mono ?_); rintro e w6 ⟨ad, cp, rfl, hS, hB⟩; have hw6 : Below w.heap.size w w6 := HW5.out.trans (hB.mono HW5.out.size); have HW6 := Lib.hid hw6; have HS := Lib.hid hS; clear hB hS hw6)) | (go_at_call 32; ((with_reducible refine (equal_any _ _ ps l _ (HS.out.below ((Below.refl _ _).alloc (Nat.le_refl _) _)) (HL.out.below (HW6.out.alloc HW6.out.size _)) hps hll).mono ?_); rintro e w' ⟨rfl, q7, rfl⟩)) | fail)
        go_ret
        exact ⟨ret_str (by rw [HO.out]; rfl), HW6.out.alloc HW6.out.size _⟩
      · have HO : Hid (pickR k T l = []) := Lib.hid (by rw [HP.out, if_neg (fun h => by have h2 := h.2; subst h2; simp at heq)])
        have hk2 : ((k2 : Int) != k) = false := by simp [he]
        clear he
        rw [hx, ho] at HW
        go_enter Try.func15, Try.ntmps15
        go_wp2_with (first | (go_at_call 29; ((with_reducible refine (shapes_any _).mono ?_); rintro e w' ⟨rfl, rfl⟩)) | (go_at_call 30; ((with_reducible refine (small_any _ l _ (HL.out.below HW.out) hll).mono ?_); rintro e w' ⟨rfl, rfl⟩)) | fail)
        go_quiet (fail)
        go_wp2_with (first | (go_at_call 31; ((with_reducible refine (write_any k n sh HSH.out _ _ _ (by simp [shapeV, *]) b l _ (HBY.out.below (below_drewN HW.out nq)) (HL.out.below (below_drewN HW.out nq)) HT.out hn18 H4.out).mono ?_); rintro e w5 ⟨rfl, hb5⟩; rw [HTX.out]; have hw5 : Below w.heap.size w w5 := (below_drewN HW.out nq).trans (hb5.mono (by have := HW.out.size; exact this)); have HW5 := Lib.hid hw5; clear hb5 hw5)) | (go_at_call 27; ((with_reducible refine (look_v (strB T) hTs _ k2 n2 nb ps HX.out HNB.out).mono ?_); rintro e w6 ⟨ad, cp, rfl, hS, hB⟩; have hw6 : Below w.heap.size w w6 := HW5.out.trans (hB.mono HW5.out.size); have HW6 := Lib.hid hw6; have HS := Lib.hid hS; clear hB hS hw6)) | (go_at_call 32; ((with_reducible refine (equal_any _ _ ps l _ (HS.out.below ((Below.refl _ _).alloc (Nat.le_refl _) _)) (HL.out.below (HW6.out.alloc HW6.out.size _)) hps hll).mono ?_); rintro e w' ⟨rfl, q7, rfl⟩)) | fail)
        go_ret
        exact ⟨ret_str (by rw [HO.out]; rfl), below_drewN (HW6.out.alloc HW6.out.size _) _⟩
      · have HO : Hid (pickR k T l = T) := Lib.hid (by rw [HP.out, if_pos ⟨he, by simpa using heq⟩])
        have hk2 : ((k2 : Int) != k) = false := by simp [he]
        clear he
        rw [hx, ho] at HW
        go_enter Try.func15, Try.ntmps15
        go_wp2_with (first | (go_at_call 29; ((with_reducible refine (shapes_any _).mono ?_); rintro e w' ⟨rfl, rfl⟩)) | (go_at_call 30; ((with_reducible refine (small_any _ l _ (HL.out.below HW.out) hll).mono ?_); rintro e w' ⟨rfl, rfl⟩)) | fail)
        go_quiet (fail)
        go_wp2_with (first | (go_at_call 31; ((with_reducible refine (write_any k n sh HSH.out _ _ _ (by simp [shapeV, *]) b l _ (HBY.out.below (below_drewN HW.out nq)) (HL.out.below (below_drewN HW.out nq)) HT.out hn18 H4.out).mono ?_); rintro e w5 ⟨rfl, hb5⟩; rw [HTX.out]; have hw5 : Below w.heap.size w w5 := (below_drewN HW.out nq).trans (hb5.mono (by have := HW.out.size; exact this)); have HW5 := Lib.hid hw5; clear hb5 hw5)) | (go_at_call 27; ((with_reducible refine (look_v (strB T) hTs _ k2 n2 nb ps HX.out HNB.out).mono ?_); rintro e w6 ⟨ad, cp, rfl, hS, hB⟩; have hw6 : Below w.heap.size w w6 := HW5.out.trans (hB.mono HW5.out.size); have HW6 := Lib.hid hw6; have HS := Lib.hid hS; clear hB hS hw6)) | (go_at_call 32; ((with_reducible refine (equal_any _ _ ps l _ (HS.out.below ((Below.refl _ _).alloc (Nat.le_refl _) _)) (HL.out.below (HW6.out.alloc HW6.out.size _)) hps hll).mono ?_); rintro e w' ⟨rfl, q7, rfl⟩)) | fail)
        go_ret
        exact ⟨ret_str (by rw [HO.out]), below_drewN (HW6.out.alloc HW6.out.size _) _⟩
  · have hl2i : ((l.length : Int) == 2) = true := by rw [hl2]; rfl
    have hgt := str_gt (a := l.getD 0 []) (b := l.getD 1 [])
    rw [hle] at hgt
    obtain ⟨bl, ol, rfl, hc⟩ : ∃ b off, al = some ⟨b, off, none⟩ ∧ ∀ i, i < l.length → w.cell? ⟨b, off + i, none⟩ = some (strV (l.getD i [])) := by
      rcases hl with rfl | h
      · simp at hl2
      · exact h
    have hbb := World.block_lt_of_cell? w _ (hc 0 (by omega))
    have s0 := fun o1 o2 => alloc_cell o2 (by simp; exact Nat.lt_succ_of_lt hbb) (alloc_cell o1 hbb (hc 0 (by omega)))
    have s1 := fun o1 o2 => alloc_cell o2 (by simp; exact Nat.lt_succ_of_lt hbb) (alloc_cell o1 hbb (hc 1 (by omega)))
    simp only [strV, Nat.add_zero, Bool.not_true] at s0 s1 hgt
    have hi0 : (0 : Int) < (l.length : Int) := by omega
    have hi1 : (1 : Int) < (l.length : Int) := by omega
    have hj0 : 0 < l.length := by omega
    have hj1 : 1 < l.length := by omega
    clear hc hbb hle hl2
    generalize l.getD 0 [] = x0 at *
    generalize l.getD 1 [] = x1 at *
    rcases hhex with ⟨hx, h1⟩ | hx
    all_goals
      rcases hend with he | ⟨he, heq⟩ | ⟨he, heq⟩
      · have HO : Hid (pickR k T l = []) := Lib.hid (by rw [HP.out, if_neg (fun h => he h.1)])
        have hk2 : ((k2 : Int) != k) = true := by simp; omega
        clear he
        rw [hx, ho] at HW
        go_enter Try.func15, Try.ntmps15
        go_wp2_with (first | (go_at_call 29; ((with_reducible refine (shapes_any _).mono ?_); rintro e w' ⟨rfl, rfl⟩)) | (go_at_call 30; ((with_reducible refine (small_any _ l _ (HL.out.below HW.out) hll).mono ?_); rintro e w' ⟨rfl, rfl⟩)) | fail)
        go_quiet (fail)
        go_wp2_with (first | (go_at_call 31; ((with_reducible refine (write_any k n sh HSH.out _ _ _ (by simp [shapeV, *]) b l _ (HBY.out.below (below_drewN HW.out nq)) (HL.out.below (below_drewN HW.out nq)) HT.out hn18 H4.out).mono ?_); rintro e w5 ⟨rfl, hb5⟩; rw [HTX.out]; have hw5 : Below w.heap.size w w5 := (below_drewN HW.out nq).trans (hb5.mono (by have := HW.out.size; exact this)); have HW5 := Lib.hid hw5; clear hb5 hw5)) | (go_at_call 27; ((with_reducible refine (look_v (strB T) hTs _ k2 n2 nb ps HX.out HNB.out).mono ?_); rintro e w6 ⟨ad, cp, rfl, hS, hB⟩; have hw6 : Below w.heap.size w w6 := HW5.out.trans (hB.mono HW5.out.size); have HW6 := Lib.hid hw6; have HS := Lib.hid hS; clear hB hS hw6)) | (go_at_call 32; ((with_reducible refine (equal_any _ _ ps l _ (HS.out.below ((Below.refl _ _).alloc (Nat.le_refl _) _)) (HL.out.below (HW6.out.alloc HW6.out.size _)) hps hll).mono ?_); rintro e w' ⟨rfl, q7, rfl⟩)) | fail)
        go_ret
        exact ⟨ret_str (by rw [HO.out]; rfl), HW6.out.alloc HW6.out.size _⟩
      · have HO : Hid (pickR k T l = []) := Lib.hid (by rw [HP.out, if_neg (fun h => by have h2 := h.2; subst h2; simp at heq)])
        have hk2 : ((k2 : Int) != k) = false := by simp [he]
        clear he
        rw [hx, ho] at HW
        go_enter Try.func15, Try.ntmps15
        go_wp2_with (first | (go_at_call 29; ((with_reducible refine (shapes_any _).mono ?_); rintro e w' ⟨rfl, rfl⟩)) | (go_at_call 30; ((with_reducible refine (small_any _ l _ (HL.out.below HW.out) hll).mono ?_); rintro e w' ⟨rfl, rfl⟩)) | fail)
        go_quiet (fail)
        go_wp2_with (first | (go_at_call 31; ((with_reducible refine (write_any k n sh HSH.out _ _ _ (by simp [shapeV, *]) b l _ (HBY.out.below (below_drewN HW.out nq)) (HL.out.below (below_drewN HW.out nq)) HT.out hn18 H4.out).mono ?_); rintro e w5 ⟨rfl, hb5⟩; rw [HTX.out]; have hw5 : Below w.heap.size w w5 := (below_drewN HW.out nq).trans (hb5.mono (by have := HW.out.size; exact this)); have HW5 := Lib.hid hw5; clear hb5 hw5)) | (go_at_call 27; ((with_reducible refine (look_v (strB T) hTs _ k2 n2 nb ps HX.out HNB.out).mono ?_); rintro e w6 ⟨ad, cp, rfl, hS, hB⟩; have hw6 : Below w.heap.size w w6 := HW5.out.trans (hB.mono HW5.out.size); have HW6 := Lib.hid hw6; have HS := Lib.hid hS; clear hB hS hw6)) | (go_at_call 32; ((with_reducible refine (equal_any _ _ ps l _ (HS.out.below ((Below.refl _ _).alloc (Nat.le_refl _) _)) (HL.out.below (HW6.out.alloc HW6.out.size _)) hps hll).mono ?_); rintro e w' ⟨rfl, q7, rfl⟩)) | fail)
        go_ret
        exact ⟨ret_str (by rw [HO.out]; rfl), below_drewN (HW6.out.alloc HW6.out.size _) _⟩
      · have HO : Hid (pickR k T l = T) := Lib.hid (by rw [HP.out, if_pos ⟨he, by simpa using heq⟩])
        have hk2 : ((k2 : Int) != k) = false := by simp [he]
        clear he
        rw [hx, ho] at HW
        go_enter Try.func15, Try.ntmps15
        go_wp2_with (first | (go_at_call 29; ((with_reducible refine (shapes_any _).mono ?_); rintro e w' ⟨rfl, rfl⟩)) | (go_at_call 30; ((with_reducible refine (small_any _ l _ (HL.out.below HW.out) hll).mono ?_); rintro e w' ⟨rfl, rfl⟩)) | fail)
        go_quiet (fail)
        go_wp2_with (first | (go_at_call 31; ((with_reducible refine (write_any k n sh HSH.out _ _ _ (by simp [shapeV, *]) b l _ (HBY.out.below (below_drewN HW.out nq)) (HL.out.below (below_drewN HW.out nq)) HT.out hn18 H4.out).mono ?_); rintro e w5 ⟨rfl, hb5⟩; rw [HTX.out]; have hw5 : Below w.heap.size w w5 := (below_drewN HW.out nq).trans (hb5.mono (by have := HW.out.size; exact this)); have HW5 := Lib.hid hw5; clear hb5 hw5)) | (go_at_call 27; ((with_reducible refine (look_v (strB T) hTs _ k2 n2 nb ps HX.out HNB.out).mono ?_); rintro e w6 ⟨ad, cp, rfl, hS, hB⟩; have hw6 : Below w.heap.size w w6 := HW5.out.trans (hB.mono HW5.out.size); have HW6 := Lib.hid hw6; have HS := Lib.hid hS; clear hB hS hw6)) | (go_at_call 32; ((with_reducible refine (equal_any _ _ ps l _ (HS.out.below ((Below.refl _ _).alloc (Nat.le_refl _) _)) (HL.out.below (HW6.out.alloc HW6.out.size _)) hps hll).mono ?_); rintro e w' ⟨rfl, q7, rfl⟩)) | fail)
        go_ret
        exact ⟨ret_str (by rw [HO.out]), below_drewN (HW6.out.alloc HW6.out.size _) _⟩
end Go.Proofs.Ytelfcdfbhnkakaa
