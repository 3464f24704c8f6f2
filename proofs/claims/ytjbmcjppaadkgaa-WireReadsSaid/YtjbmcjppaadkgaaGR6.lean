/- Texts of this seat, merged: Term17, TermMath4, TermMath5. -/
import Derived.Test.YtjbmcjppaadkgaaGR5
import Derived.StillTailTactics
namespace Go.Proofs.Ytjbmcjppaadkgaa
set_option linter.unusedVariables false
set_option linter.unusedSimpArgs false
set_option maxRecDepth 100000
open Go.RowKit

/-- what Make tells behind the writing: the text, if it is just this term -/
def pickR (k : Nat) (T : List UInt8) (l : List (List UInt8)) : List UInt8 := if (lookR T).1 = k ∧ (lookR T).2.2 = l then T else []

theorem lookR_len (t : List UInt8) : (lookR t).2.2.length ≤ 65536 := by
  unfold lookR
  cases hq : qLook t with
  | none => simp
  | some x =>
    obtain ⟨k, n, ps⟩ := x
    obtain ⟨sh, hs, h1, h2⟩ := look_count hq
    have : sh.most ≤ 65536 := by
      rcases shape_cases hs with e | e | e | e | e | e | e | e | e | e | e
      all_goals (rw [e] at hs; simp only [shapeOf, Option.some.injEq] at hs; subst hs; decide)
    show ps.length ≤ 65536
    omega
theorem wText_len (k n : Nat) (b : List UInt8) (l : List (List UInt8)) (hn : n ≤ top) (ht : total l ≤ 65536) (hb : k = 4 → b.length ≤ 32768) : (wText k n b l).length ≤ 200000 := by
  have hj : (joined k n b l).length ≤ 150000 := by
    unfold joined
    refine Nat.le_trans (join_len _) ?_
    unfold itemsOf
    split
    · have := decs_len20 hn
      simp [total] at ht ⊢; omega
    · split
      · rename_i h
        have h2 := hexOf_length b
        have h3 := hb h
        simp [total] at ht ⊢; omega
      · simp [total] at ht ⊢; omega
  unfold wText
  split <;> simp <;> omega
set_option maxHeartbeats 4000000 in
theorem make_plain (k : Nat) (sh : Shape) (hs : shapeOf k = some sh) (n : Nat) (hn18 : n ≤ top) (vb vl : Value) (b : List UInt8) (l : List (List UInt8)) (w : World) (hb : Bytes w vb b) (hl : Strs w vl l) (hbl : k = 4 → b.length ≤ 32768) (hll : l.length ≤ maxLen) (ht : total l ≤ 65536)
    (hord : sh.ordered = false ∨ (sh.ordered = true ∧ l.length ≠ 2) ∨ (sh.ordered = true ∧ l.length = 2 ∧ leL (l.getD 0 []) (l.getD 1 []) = true)) (hblm : b.length ≤ maxLen) :
    Calls Try.prog 38 #[.int .i64 k, .int .u64 n, vb, vl] w fun e w' => e = .returned (.string (strB (pickR k (wText k n b l) l))) ∧ Below w.heap.size w w' := by
  have hz := zero_lit
  have hzf := zero_found
  obtain ⟨f1, f2, f3, f4, f5⟩ := shape_facts hs
  have hlk := look_sh (w.alloc (.map (esN 11) 11)) w.heap.size k sh (MapKept.heap_alloc w _).1 f5 hs
  have HL := Lib.hid hl
  have HBY := Lib.hid hb
  have HW := Lib.hid (make_w1 w sh)
  have HSH := Lib.hid hs
  have HT := Lib.hid ht
  have H4 := Lib.hid hbl
  have hsm : smallF 65536 l = true := (small_total l 65536).2 ht
  have hhex : (sh.hex = true ∧ b.length ≤ 32768) ∨ sh.hex = false := by
    cases hx : sh.hex with
    | true => exact .inl ⟨rfl, hbl (f2.1 hx)⟩
    | false => exact .inr rfl
  obtain ⟨k2, n2, ps, hx⟩ : ∃ k2 n2 ps, lookR (wText k n b l) = (k2, n2, ps) := ⟨_, _, _, rfl⟩
  obtain ⟨nb, hnb⟩ : ∃ nb, numb k2 = nb := ⟨_, rfl⟩
  have HNB := Lib.hid hnb
  have hP : pickR k (wText k n b l) l = if k2 = k ∧ ps = l then wText k n b l else [] := by unfold pickR; rw [hx]
  have HP := Lib.hid hP
  have hTs : (strB (wText k n b l)).size ≤ maxLen := by
    have := wText_len k n b l hn18 ht hbl
    rw [strB_size]; unfold maxLen; omega
  have hps : ps.length ≤ maxLen := by
    have := lookR_len (wText k n b l)
    rw [hx] at this; unfold maxLen; simp at this; omega
  obtain ⟨T, hT⟩ : ∃ T, wText k n b l = T := ⟨_, rfl⟩
  rw [hT] at hx hTs
  rw [hT] at HP
  have HTX : Hid (strB (wText k n b l) = strB T) := Lib.hid (by rw [hT])
  have HX : Hid (lookR (strB T).data.toList = (k2, n2, ps)) := Lib.hid hx
  rw [hT]
  obtain ⟨ab, cb, rfl, hb⟩ := hb
  obtain ⟨al, cl, rfl, hnl, hl⟩ := hl
  unfold maxLen at hblm
  have hend : (k2 ≠ k) ∨ (k2 = k ∧ (ps == l) = false) ∨ (k2 = k ∧ (ps == l) = true) := by
    cases (ps == l) <;> simp <;> omega
  clear f1 f2 f3 f4 hs hbl ht hP hnb hT hx hb hnl
  rcases hord with ho | ⟨ho, hl2⟩ | ⟨ho, hl2, hle⟩
  · clear hl
    rcases hhex with ⟨hx, h1⟩ | hx
    all_goals
      rcases hend with he | ⟨he, heq⟩ | ⟨he, heq⟩
      · have HO : Hid (pickR k T l = []) := Lib.hid (by rw [HP.out, if_neg (fun h => he h.1)])
        have hk2 : ((k2 : Int) != k) = true := by simp; omega
        clear he
        rw [hx, ho] at HW
        go_enter Try.func38, Try.ntmps38
        go_wp2_with (first | (go_at_call 54; ((with_reducible refine (shapes_any _).mono ?_); rintro e w' ⟨rfl, rfl⟩)) | (go_at_call 55; ((with_reducible refine (small_any _ l _ (HL.out.below HW.out) hll).mono ?_); rintro e w' ⟨rfl, rfl⟩)) | fail)
        go_quiet (fail)
        go_wp2_with (first | (go_at_call 56; ((with_reducible refine (write_any k n sh HSH.out _ _ _ (by simp [shapeV, *]) b l _ (HBY.out.below (below_drewN HW.out nq)) (HL.out.below (below_drewN HW.out nq)) HT.out hn18 H4.out).mono ?_); rintro e w5 ⟨rfl, hb5⟩; rw [HTX.out]; have hw5 : Below w.heap.size w w5 := (below_drewN HW.out nq).trans (hb5.mono (by have := HW.out.size; exact this)); have HW5 := Lib.hid hw5; clear hb5 hw5)) | (go_at_call 57; ((with_reducible refine (look_v (strB T) hTs _ k2 n2 nb ps HX.out HNB.out).mono ?_); rintro e w6 ⟨ad, cp, rfl, hS, hB⟩; have hw6 : Below w.heap.size w w6 := HW5.out.trans (hB.mono HW5.out.size); have HW6 := Lib.hid hw6; have HS := Lib.hid hS; clear hB hS hw6)) | (go_at_call 58; ((with_reducible refine (equal_any _ _ ps l _ (HS.out.below ((Below.refl _ _).alloc (Nat.le_refl _) _)) (HL.out.below (HW6.out.alloc HW6.out.size _)) hps hll).mono ?_); rintro e w' ⟨rfl, q7, rfl⟩)) | fail)
        go_ret
        exact ⟨ret_str (by rw [HO.out]; rfl), HW6.out.alloc HW6.out.size _⟩
      · have HO : Hid (pickR k T l = []) := Lib.hid (by rw [HP.out, if_neg (fun h => by have h2 := h.2; subst h2; simp at heq)])
        have hk2 : ((k2 : Int) != k) = false := by simp [he]
        clear he
        rw [hx, ho] at HW
        go_enter Try.func38, Try.ntmps38
        go_wp2_with (first | (go_at_call 54; ((with_reducible refine (shapes_any _).mono ?_); rintro e w' ⟨rfl, rfl⟩)) | (go_at_call 55; ((with_reducible refine (small_any _ l _ (HL.out.below HW.out) hll).mono ?_); rintro e w' ⟨rfl, rfl⟩)) | fail)
        go_quiet (fail)
        go_wp2_with (first | (go_at_call 56; ((with_reducible refine (write_any k n sh HSH.out _ _ _ (by simp [shapeV, *]) b l _ (HBY.out.below (below_drewN HW.out nq)) (HL.out.below (below_drewN HW.out nq)) HT.out hn18 H4.out).mono ?_); rintro e w5 ⟨rfl, hb5⟩; rw [HTX.out]; have hw5 : Below w.heap.size w w5 := (below_drewN HW.out nq).trans (hb5.mono (by have := HW.out.size; exact this)); have HW5 := Lib.hid hw5; clear hb5 hw5)) | (go_at_call 57; ((with_reducible refine (look_v (strB T) hTs _ k2 n2 nb ps HX.out HNB.out).mono ?_); rintro e w6 ⟨ad, cp, rfl, hS, hB⟩; have hw6 : Below w.heap.size w w6 := HW5.out.trans (hB.mono HW5.out.size); have HW6 := Lib.hid hw6; have HS := Lib.hid hS; clear hB hS hw6)) | (go_at_call 58; ((with_reducible refine (equal_any _ _ ps l _ (HS.out.below ((Below.refl _ _).alloc (Nat.le_refl _) _)) (HL.out.below (HW6.out.alloc HW6.out.size _)) hps hll).mono ?_); rintro e w' ⟨rfl, q7, rfl⟩)) | fail)
        go_ret
        exact ⟨ret_str (by rw [HO.out]; rfl), below_drewN (HW6.out.alloc HW6.out.size _) _⟩
      · have HO : Hid (pickR k T l = T) := Lib.hid (by rw [HP.out, if_pos ⟨he, by simpa using heq⟩])
        have hk2 : ((k2 : Int) != k) = false := by simp [he]
        clear he
        rw [hx, ho] at HW
        go_enter Try.func38, Try.ntmps38
        go_wp2_with (first | (go_at_call 54; ((with_reducible refine (shapes_any _).mono ?_); rintro e w' ⟨rfl, rfl⟩)) | (go_at_call 55; ((with_reducible refine (small_any _ l _ (HL.out.below HW.out) hll).mono ?_); rintro e w' ⟨rfl, rfl⟩)) | fail)
        go_quiet (fail)
        go_wp2_with (first | (go_at_call 56; ((with_reducible refine (write_any k n sh HSH.out _ _ _ (by simp [shapeV, *]) b l _ (HBY.out.below (below_drewN HW.out nq)) (HL.out.below (below_drewN HW.out nq)) HT.out hn18 H4.out).mono ?_); rintro e w5 ⟨rfl, hb5⟩; rw [HTX.out]; have hw5 : Below w.heap.size w w5 := (below_drewN HW.out nq).trans (hb5.mono (by have := HW.out.size; exact this)); have HW5 := Lib.hid hw5; clear hb5 hw5)) | (go_at_call 57; ((with_reducible refine (look_v (strB T) hTs _ k2 n2 nb ps HX.out HNB.out).mono ?_); rintro e w6 ⟨ad, cp, rfl, hS, hB⟩; have hw6 : Below w.heap.size w w6 := HW5.out.trans (hB.mono HW5.out.size); have HW6 := Lib.hid hw6; have HS := Lib.hid hS; clear hB hS hw6)) | (go_at_call 58; ((with_reducible refine (equal_any _ _ ps l _ (HS.out.below ((Below.refl _ _).alloc (Nat.le_refl _) _)) (HL.out.below (HW6.out.alloc HW6.out.size _)) hps hll).mono ?_); rintro e w' ⟨rfl, q7, rfl⟩)) | fail)
        go_ret
        exact ⟨ret_str (by rw [HO.out]), below_drewN (HW6.out.alloc HW6.out.size _) _⟩
  · clear hl
    have hl2i : ((l.length : Int) == 2) = false := beqf (by omega)
    clear hl2
    rcases hhex with ⟨hx, h1⟩ | hx
    all_goals
      rcases hend with he | ⟨he, heq⟩ | ⟨he, heq⟩
      · have HO : Hid (pickR k T l = []) := Lib.hid (by rw [HP.out, if_neg (fun h => he h.1)])
        have hk2 : ((k2 : Int) != k) = true := by simp; omega
        clear he
        rw [hx, ho] at HW
        go_enter Try.func38, Try.ntmps38
        go_wp2_with (first | (go_at_call 54; ((with_reducible refine (shapes_any _).mono ?_); rintro e w' ⟨rfl, rfl⟩)) | (go_at_call 55; ((with_reducible refine (small_any _ l _ (HL.out.below HW.out) hll).mono ?_); rintro e w' ⟨rfl, rfl⟩)) | fail)
        go_quiet (fail)
        go_wp2_with (first | (go_at_call 56; ((with_reducible refine (write_any k n sh HSH.out _ _ _ (by simp [shapeV, *]) b l _ (HBY.out.below (below_drewN HW.out nq)) (HL.out.below (below_drewN HW.out nq)) HT.out hn18 H4.out).mono ?_); rintro e w5 ⟨rfl, hb5⟩; rw [HTX.out]; have hw5 : Below w.heap.size w w5 := (below_drewN HW.out nq).trans (hb5.mono (by have := HW.out.size; exact this)); have HW5 := Lib.hid hw5; clear hb5 hw5)) | (go_at_call 57; ((with_reducible refine (look_v (strB T) hTs _ k2 n2 nb ps HX.out HNB.out).mono ?_); rintro e w6 ⟨ad, cp, rfl, hS, hB⟩; have hw6 : Below w.heap.size w w6 := HW5.out.trans (hB.mono HW5.out.size); have HW6 := Lib.hid hw6; have HS := Lib.hid hS; clear hB hS hw6)) | (go_at_call 58; ((with_reducible refine (equal_any _ _ ps l _ (HS.out.below ((Below.refl _ _).alloc (Nat.le_refl _) _)) (HL.out.below (HW6.out.alloc HW6.out.size _)) hps hll).mono ?_); rintro e w' ⟨rfl, q7, rfl⟩)) | fail)
        go_ret
        exact ⟨ret_str (by rw [HO.out]; rfl), HW6.out.alloc HW6.out.size _⟩
      · have HO : Hid (pickR k T l = []) := Lib.hid (by rw [HP.out, if_neg (fun h => by have h2 := h.2; subst h2; simp at heq)])
        have hk2 : ((k2 : Int) != k) = false := by simp [he]
        clear he
        rw [hx, ho] at HW
        go_enter Try.func38, Try.ntmps38
        go_wp2_with (first | (go_at_call 54; ((with_reducible refine (shapes_any _).mono ?_); rintro e w' ⟨rfl, rfl⟩)) | (go_at_call 55; ((with_reducible refine (small_any _ l _ (HL.out.below HW.out) hll).mono ?_); rintro e w' ⟨rfl, rfl⟩)) | fail)
        go_quiet (fail)
        go_wp2_with (first | (go_at_call 56; ((with_reducible refine (write_any k n sh HSH.out _ _ _ (by simp [shapeV, *]) b l _ (HBY.out.below (below_drewN HW.out nq)) (HL.out.below (below_drewN HW.out nq)) HT.out hn18 H4.out).mono ?_); rintro e w5 ⟨rfl, hb5⟩; rw [HTX.out]; have hw5 : Below w.heap.size w w5 := (below_drewN HW.out nq).trans (hb5.mono (by have := HW.out.size; exact this)); have HW5 := Lib.hid hw5; clear hb5 hw5)) | (go_at_call 57; ((with_reducible refine (look_v (strB T) hTs _ k2 n2 nb ps HX.out HNB.out).mono ?_); rintro e w6 ⟨ad, cp, rfl, hS, hB⟩; have hw6 : Below w.heap.size w w6 := HW5.out.trans (hB.mono HW5.out.size); have HW6 := Lib.hid hw6; have HS := Lib.hid hS; clear hB hS hw6)) | (go_at_call 58; ((with_reducible refine (equal_any _ _ ps l _ (HS.out.below ((Below.refl _ _).alloc (Nat.le_refl _) _)) (HL.out.below (HW6.out.alloc HW6.out.size _)) hps hll).mono ?_); rintro e w' ⟨rfl, q7, rfl⟩)) | fail)
        go_ret
        exact ⟨ret_str (by rw [HO.out]; rfl), below_drewN (HW6.out.alloc HW6.out.size _) _⟩
      · have HO : Hid (pickR k T l = T) := Lib.hid (by rw [HP.out, if_pos ⟨he, by simpa using heq⟩])
        have hk2 : ((k2 : Int) != k) = false := by simp [he]
        clear he
        rw [hx, ho] at HW
        go_enter Try.func38, Try.ntmps38
        go_wp2_with (first | (go_at_call 54; ((with_reducible refine (shapes_any _).mono ?_); rintro e w' ⟨rfl, rfl⟩)) | (go_at_call 55; ((with_reducible refine (small_any _ l _ (HL.out.below HW.out) hll).mono ?_); rintro e w' ⟨rfl, rfl⟩)) | fail)
        go_quiet (fail)
        go_wp2_with (first | (go_at_call 56; ((with_reducible refine (write_any k n sh HSH.out _ _ _ (by simp [shapeV, *]) b l _ (HBY.out.below (below_drewN HW.out nq)) (HL.out.below (below_drewN HW.out nq)) HT.out hn18 H4.out).mono ?_); rintro e w5 ⟨rfl, hb5⟩; rw [HTX.out]; have hw5 : Below w.heap.size w w5 := (below_drewN HW.out nq).trans (hb5.mono (by have := HW.out.size; exact this)); have HW5 := Lib.hid hw5; clear hb5 hw5)) | (go_at_call 57; ((with_reducible refine (look_v (strB T) hTs _ k2 n2 nb ps HX.out HNB.out).mono ?_); rintro e w6 ⟨ad, cp, rfl, hS, hB⟩; have hw6 : Below w.heap.size w w6 := HW5.out.trans (hB.mono HW5.out.size); have HW6 := Lib.hid hw6; have HS := Lib.hid hS; clear hB hS hw6)) | (go_at_call 58; ((with_reducible refine (equal_any _ _ ps l _ (HS.out.below ((Below.refl _ _).alloc (Nat.le_refl _) _)) (HL.out.below (HW6.out.alloc HW6.out.size _)) hps hll).mono ?_); rintro e w' ⟨rfl, q7, rfl⟩)) | fail)
        go_ret
        exact ⟨ret_str (by rw [HO.out]), below_drewN (HW6.out.alloc HW6.out.size _) _⟩
  · have hl2i : ((l.length : Int) == 2) = true := by rw [hl2]; rfl
    have hgt := str_gt (a := l.getD 0 []) (b := l.getD 1 [])
    rw [hle] at hgt
    obtain ⟨bl, ol, rfl, hc⟩ : ∃ b off, al = some ⟨b, off, none⟩ ∧ ∀ i, i < l.length → w.cell? ⟨b, off + i, none⟩ = some (strV (l.getD i [])) := by
      rcases hl with rfl | h
      · simp at hl2
      · exact h
    have hbb := World.block_lt_of_cell? w _ (hc 0 (by omega))
    have s0 := fun o1 o2 => alloc_cell o2 (by simp; exact Nat.lt_succ_of_lt hbb) (alloc_cell o1 hbb (hc 0 (by omega)))
    have s1 := fun o1 o2 => alloc_cell o2 (by simp; exact Nat.lt_succ_of_lt hbb) (alloc_cell o1 hbb (hc 1 (by omega)))
    simp only [strV, Nat.add_zero, Bool.not_true] at s0 s1 hgt
    have hi0 : (0 : Int) < (l.length : Int) := by omega
    have hi1 : (1 : Int) < (l.length : Int) := by omega
    have hj0 : 0 < l.length := by omega
    have hj1 : 1 < l.length := by omega
    clear hc hbb hle hl2
    generalize l.getD 0 [] = x0 at *
    generalize l.getD 1 [] = x1 at *
    rcases hhex with ⟨hx, h1⟩ | hx
    all_goals
      rcases hend with he | ⟨he, heq⟩ | ⟨he, heq⟩
      · have HO : Hid (pickR k T l = []) := Lib.hid (by rw [HP.out, if_neg (fun h => he h.1)])
        have hk2 : ((k2 : Int) != k) = true := by simp; omega
        clear he
        rw [hx, ho] at HW
        go_enter Try.func38, Try.ntmps38
        go_wp2_with (first | (go_at_call 54; ((with_reducible refine (shapes_any _).mono ?_); rintro e w' ⟨rfl, rfl⟩)) | (go_at_call 55; ((with_reducible refine (small_any _ l _ (HL.out.below HW.out) hll).mono ?_); rintro e w' ⟨rfl, rfl⟩)) | fail)
        go_quiet (fail)
        go_wp2_with (first | (go_at_call 56; ((with_reducible refine (write_any k n sh HSH.out _ _ _ (by simp [shapeV, *]) b l _ (HBY.out.below (below_drewN HW.out nq)) (HL.out.below (below_drewN HW.out nq)) HT.out hn18 H4.out).mono ?_); rintro e w5 ⟨rfl, hb5⟩; rw [HTX.out]; have hw5 : Below w.heap.size w w5 := (below_drewN HW.out nq).trans (hb5.mono (by have := HW.out.size; exact this)); have HW5 := Lib.hid hw5; clear hb5 hw5)) | (go_at_call 57; ((with_reducible refine (look_v (strB T) hTs _ k2 n2 nb ps HX.out HNB.out).mono ?_); rintro e w6 ⟨ad, cp, rfl, hS, hB⟩; have hw6 : Below w.heap.size w w6 := HW5.out.trans (hB.mono HW5.out.size); have HW6 := Lib.hid hw6; have HS := Lib.hid hS; clear hB hS hw6)) | (go_at_call 58; ((with_reducible refine (equal_any _ _ ps l _ (HS.out.below ((Below.refl _ _).alloc (Nat.le_refl _) _)) (HL.out.below (HW6.out.alloc HW6.out.size _)) hps hll).mono ?_); rintro e w' ⟨rfl, q7, rfl⟩)) | fail)
        go_ret
        exact ⟨ret_str (by rw [HO.out]; rfl), HW6.out.alloc HW6.out.size _⟩
      · have HO : Hid (pickR k T l = []) := Lib.hid (by rw [HP.out, if_neg (fun h => by have h2 := h.2; subst h2; simp at heq)])
        have hk2 : ((k2 : Int) != k) = false := by simp [he]
        clear he
        rw [hx, ho] at HW
        go_enter Try.func38, Try.ntmps38
        go_wp2_with (first | (go_at_call 54; ((with_reducible refine (shapes_any _).mono ?_); rintro e w' ⟨rfl, rfl⟩)) | (go_at_call 55; ((with_reducible refine (small_any _ l _ (HL.out.below HW.out) hll).mono ?_); rintro e w' ⟨rfl, rfl⟩)) | fail)
        go_quiet (fail)
        go_wp2_with (first | (go_at_call 56; ((with_reducible refine (write_any k n sh HSH.out _ _ _ (by simp [shapeV, *]) b l _ (HBY.out.below (below_drewN HW.out nq)) (HL.out.below (below_drewN HW.out nq)) HT.out hn18 H4.out).mono ?_); rintro e w5 ⟨rfl, hb5⟩; rw [HTX.out]; have hw5 : Below w.heap.size w w5 := (below_drewN HW.out nq).trans (hb5.mono (by have := HW.out.size; exact this)); have HW5 := Lib.hid hw5; clear hb5 hw5)) | (go_at_call 57; ((with_reducible refine (look_v (strB T) hTs _ k2 n2 nb ps HX.out HNB.out).mono ?_); rintro e w6 ⟨ad, cp, rfl, hS, hB⟩; have hw6 : Below w.heap.size w w6 := HW5.out.trans (hB.mono HW5.out.size); have HW6 := Lib.hid hw6; have HS := Lib.hid hS; clear hB hS hw6)) | (go_at_call 58; ((with_reducible refine (equal_any _ _ ps l _ (HS.out.below ((Below.refl _ _).alloc (Nat.le_refl _) _)) (HL.out.below (HW6.out.alloc HW6.out.size _)) hps hll).mono ?_); rintro e w' ⟨rfl, q7, rfl⟩)) | fail)
        go_ret
        exact ⟨ret_str (by rw [HO.out]; rfl), below_drewN (HW6.out.alloc HW6.out.size _) _⟩
      · have HO : Hid (pickR k T l = T) := Lib.hid (by rw [HP.out, if_pos ⟨he, by simpa using heq⟩])
        have hk2 : ((k2 : Int) != k) = false := by simp [he]
        clear he
        rw [hx, ho] at HW
        go_enter Try.func38, Try.ntmps38
        go_wp2_with (first | (go_at_call 54; ((with_reducible refine (shapes_any _).mono ?_); rintro e w' ⟨rfl, rfl⟩)) | (go_at_call 55; ((with_reducible refine (small_any _ l _ (HL.out.below HW.out) hll).mono ?_); rintro e w' ⟨rfl, rfl⟩)) | fail)
        go_quiet (fail)
        go_wp2_with (first | (go_at_call 56; ((with_reducible refine (write_any k n sh HSH.out _ _ _ (by simp [shapeV, *]) b l _ (HBY.out.below (below_drewN HW.out nq)) (HL.out.below (below_drewN HW.out nq)) HT.out hn18 H4.out).mono ?_); rintro e w5 ⟨rfl, hb5⟩; rw [HTX.out]; have hw5 : Below w.heap.size w w5 := (below_drewN HW.out nq).trans (hb5.mono (by have := HW.out.size; exact this)); have HW5 := Lib.hid hw5; clear hb5 hw5)) | (go_at_call 57; ((with_reducible refine (look_v (strB T) hTs _ k2 n2 nb ps HX.out HNB.out).mono ?_); rintro e w6 ⟨ad, cp, rfl, hS, hB⟩; have hw6 : Below w.heap.size w w6 := HW5.out.trans (hB.mono HW5.out.size); have HW6 := Lib.hid hw6; have HS := Lib.hid hS; clear hB hS hw6)) | (go_at_call 58; ((with_reducible refine (equal_any _ _ ps l _ (HS.out.below ((Below.refl _ _).alloc (Nat.le_refl _) _)) (HL.out.below (HW6.out.alloc HW6.out.size _)) hps hll).mono ?_); rintro e w' ⟨rfl, q7, rfl⟩)) | fail)
        go_ret
        exact ⟨ret_str (by rw [HO.out]), below_drewN (HW6.out.alloc HW6.out.size _) _⟩
end Go.Proofs.Ytjbmcjppaadkgaa

namespace Go.Proofs.Ytjbmcjppaadkgaa
set_option linter.unusedVariables false
set_option linter.unusedSimpArgs false

theorem join_cons2 (x : List UInt8) (l : List (List UInt8)) (h : l ≠ []) : Lib.join (x :: l) [44] = x ++ 44 :: Lib.join l [44] := by
  cases l with
  | nil => exact absurd rfl h
  | cons y l => rw [Lib.join_cons, Lib.join_cons]; simp [Lib.joinTail]
theorem part_app {r rest : List UInt8} (h : rest <:+ r) : r = partOf r rest ++ rest := by
  obtain ⟨x, rfl⟩ := h
  unfold partOf
  simp
theorem head_tail {r : List UInt8} {c : UInt8} (h : r.head? = some c) : r = c :: r.tail := by
  cases r with
  | nil => cases h
  | cons x r => simp at h; rw [h]; rfl
theorem loop_text : ∀ (f k : Nat) (acc : List (List UInt8)) (r : List UInt8) (ps : List (List UInt8)) (rest : List UInt8), pLoop f k acc r = some (ps, rest) →
    ∃ qs, ps = acc ++ qs ∧ qs ≠ [] ∧ r = Lib.join qs [44] ++ 41 :: rest := by
  intro f
  induction f with
  | zero => intro k acc r ps rest h; cases h
  | succ f ih =>
    intro k acc r ps rest h
    simp only [pLoop] at h
    obtain ⟨y, hy, h⟩ := Option.bind_eq_some_iff.1 h
    have hs := (pTerm_suf hy).1
    have hr := part_app hs
    split at h
    · rename_i h41
      split at h
      · cases h
        refine ⟨[partOf r y.2.2.2.2], rfl, by simp, ?_⟩
        rw [Lib.join_one, ← head_tail h41]; exact hr
      · cases h
    · split at h
      · rename_i h44
        obtain ⟨qs, e1, e2, e3⟩ := ih _ _ _ _ _ h
        refine ⟨partOf r y.2.2.2.2 :: qs, by rw [e1]; simp, by simp, ?_⟩
        rw [join_cons2 _ _ e2, List.append_assoc, List.cons_append, ← e3, ← head_tail h44]; exact hr
      · cases h
theorem sign_kind (c : UInt8) (h : kindOf c ≠ 0) : signOf (kindOf c) = c := by
  unfold kindOf at h ⊢
  repeat' split at h
  all_goals first
    | (exact absurd rfl h)
    | (simp_all [signOf])
theorem num_text {low high : Nat} {r r2 : List UInt8} {n : Nat} (h : pNum low high r = some (n, r2)) : r = decs n ++ r2 ∧ n ≤ top := by
  unfold pNum at h
  split at h
  · rename_i hin
    cases h
    unfold numIn at hin
    rw [decide_eq_true_eq] at hin
    obtain ⟨u, h1, h2, h3⟩ := decs_rd _ hin.1
    rw [h1]
    refine ⟨?_, by simpa using h2⟩
    simp only [Int.toNat_natCast]
    rw [h3, List.takeWhile_append_dropWhile]
  · cases h
theorem term_text {f : Nat} {t : List UInt8} {k n : Nat} {b : List UInt8} {ps : List (List UInt8)} {rest : List UInt8} (h : pTermS (pLoop f) t = some (k, n, b, ps, rest)) : t = wText k n b ps ++ rest ∧ n ≤ top := by
  cases t with
  | nil => cases h
  | cons c r =>
    simp only [pTermS] at h
    obtain ⟨sh, hsh, h⟩ := Option.bind_eq_some_iff.1 h
    have hk0 : kindOf c ≠ 0 := fun e => by rw [e] at hsh; cases hsh
    have hsg := sign_kind c hk0
    split at h
    · rename_i h4
      obtain ⟨y, hy, h⟩ := Option.bind_eq_some_iff.1 h
      obtain ⟨n', b', r'⟩ := y
      cases h
      unfold wText
      rw [hsg, if_neg (by omega)]
      unfold pLeaf at hy
      split at hy
      · rename_i h1
        cases hy
        rw [h1]
        simp [joined, itemsOf, numb, Lib.join_nil, top]
      · split at hy
        · rename_i h1 h4
          split at hy
          · rename_i hc
            cases hy
            have := hexOf_hx _ hc
            rw [h4]
            simp only [joined, itemsOf, numb]
            simp [Lib.join_one, this, top]
          · cases hy
        · rename_i h1 h4'
          obtain ⟨z, hz, hy⟩ := Option.bind_eq_some_iff.1 hy
          obtain ⟨n2, r2⟩ := z
          cases hy
          have hn := num_text hz
          have hnb : numb (kindOf c) = true := by
            have : kindOf c = 2 ∨ kindOf c = 3 := by omega
            rcases this with e | e <;> rw [e] <;> rfl
          refine ⟨?_, hn.2⟩
          simp only [joined, itemsOf, hnb, if_true]
          simp only [List.append_nil, Lib.join_one, List.cons_append]
          rw [← hn.1]
    · rename_i h4
      obtain ⟨r1, hr1, h⟩ := Option.bind_eq_some_iff.1 h
      rw [pass_some] at hr1
      obtain ⟨x, hx, h⟩ := Option.bind_eq_some_iff.1 h
      obtain ⟨n', r3⟩ := x
      unfold pHead at hx
      split at hx
      · rename_i h810
        obtain ⟨z, hz, hx⟩ := Option.bind_eq_some_iff.1 hx
        obtain ⟨n2, r2⟩ := z
        obtain ⟨r4, hr4, hx⟩ := Option.bind_eq_some_iff.1 hx
        rw [pass_some] at hr4
        cases hx
        have hn := num_text hz
        rw [if_neg (by omega)] at h
        obtain ⟨y, hy, h⟩ := Option.bind_eq_some_iff.1 h
        obtain ⟨ps', rest'⟩ := y
        cases h
        obtain ⟨qs, e1, e2, e3⟩ := loop_text _ _ _ _ _ _ hy
        rw [List.nil_append] at e1
        subst e1
        have hnb : numb (kindOf c) = true := by rcases h810 with e | e <;> rw [e] <;> rfl
        refine ⟨?_, hn.2⟩
        unfold wText
        rw [hsg, if_pos (by omega)]
        simp only [joined, itemsOf, hnb, if_true]
        rw [List.singleton_append, join_cons2 _ _ e2, hr1, hn.1]
        simp only at hr4 e3
        rw [hr4]
        rw [e3]
        simp
      · rename_i h810
        cases hx
        have hnb : numb (kindOf c) = false := by
          unfold numb
          have : (kindOf c == 2) = false := by simp; omega
          have h3 : (kindOf c == 3) = false := by simp; omega
          have h8 : (kindOf c == 8) = false := by simp; omega
          have h10 : (kindOf c == 10) = false := by simp; omega
          rw [this, h3, h8, h10]; rfl
        have hit : itemsOf (kindOf c) 0 [] = [] := by
          unfold itemsOf; rw [hnb]; simp; omega
        refine ⟨?_, by (split at h <;> first | (cases h; exact Nat.zero_le _) | (obtain ⟨y, hy, h⟩ := Option.bind_eq_some_iff.1 h; cases h; exact Nat.zero_le _))⟩
        split at h
        · rename_i h11
          cases h
          unfold wText
          rw [hsg, if_pos (by omega)]
          simp only [joined, hit]
          rw [hr1]
          have := head_tail h11.2
          simp only at this
          simp only [List.append_nil, Lib.join_nil, List.nil_append, List.cons_append]
          rw [← this]
        · obtain ⟨y, hy, h⟩ := Option.bind_eq_some_iff.1 h
          obtain ⟨ps', rest'⟩ := y
          cases h
          obtain ⟨qs, e1, e2, e3⟩ := loop_text _ _ _ _ _ _ hy
          rw [List.nil_append] at e1
          subst e1
          unfold wText
          rw [hsg, if_pos (by omega)]
          simp only [joined, hit]
          rw [hr1]
          simp only at e3
          rw [e3]
          simp
theorem term_parts6 {f : Nat} {t : List UInt8} {k n : Nat} {b : List UInt8} {ps : List (List UInt8)} {rest : List UInt8} (h : pTermS (pLoop f) t = some (k, n, b, ps, rest)) (h6 : k = 6) : okParts k ps = true := by
  cases t with
  | nil => cases h
  | cons c r =>
    simp only [pTermS] at h
    obtain ⟨sh, hsh, h⟩ := Option.bind_eq_some_iff.1 h
    split at h
    · obtain ⟨y, hy, h⟩ := Option.bind_eq_some_iff.1 h
      cases h
      omega
    · obtain ⟨r1, hr1, h⟩ := Option.bind_eq_some_iff.1 h
      obtain ⟨x, hx, h⟩ := Option.bind_eq_some_iff.1 h
      split at h
      · cases h
        omega
      · obtain ⟨y, hy, h⟩ := Option.bind_eq_some_iff.1 h
        have := (pLoop_ok _ _ _ _ _ hy).1
        cases h
        exact this
/-- what is read is written -/
theorem read_text {t : List UInt8} {k n : Nat} {ps : List (List UInt8)} (h : lookR t = (k, n, ps)) (h0 : k ≠ 0) : t.length ≤ 65536 ∧ t = wText k n (bytesIn k t) ps ∧ n ≤ top := by
  have hq := lookR_some h h0
  have hp := look_eq t
  rw [hq] at hp
  simp only [Option.map_some] at hp
  unfold pLook at hp
  split at hp
  · rename_i hl
    obtain ⟨x, hx, hp⟩ := Option.bind_eq_some_iff.1 hp
    obtain ⟨k', n', b', ps', rest⟩ := x
    split at hp
    · rename_i hr
      simp only at hr
      subst hr
      simp only [Option.some.injEq, Prod.mk.injEq] at hp
      obtain ⟨e1, e2, e3, e4⟩ := hp
      have := term_text hx
      rw [List.append_nil, e1, e2, e3, e4] at this
      exact ⟨hl, this⟩
    · cases hp
  · cases hp
theorem total_tail (l : List (List UInt8)) : total l ≤ (Lib.joinTail [44] l).length := by
  induction l with
  | nil => simp [total]
  | cons y l ih => simp [total, Lib.joinTail] at ih ⊢; omega
theorem total_join (l : List (List UInt8)) : total l ≤ (Lib.join l [44]).length + 1 := by
  cases l with
  | nil => simp [total]
  | cons x l =>
    rw [Lib.join_cons]
    have := total_tail l
    have e : total (x :: l) = x.length + total l + 1 := by simp [total]; omega
    rw [e, List.length_append]
    omega
theorem text_total (k n : Nat) (b : List UInt8) (ps : List (List UInt8)) : total ps ≤ (wText k n b ps).length := by
  have h := total_join (itemsOf k n b ++ ps)
  have h2 : total ps ≤ total (itemsOf k n b ++ ps) := by simp [total]; omega
  unfold wText joined
  split <;> simp <;> omega
/-- bytes: two digits each -/
theorem text_bytes (n : Nat) (b : List UInt8) (ps : List (List UInt8)) : 2 * b.length ≤ (wText 4 n b ps).length := by
  have h := total_join (itemsOf 4 n b ++ ps)
  have h2 : 2 * b.length + 1 ≤ total (itemsOf 4 n b ++ ps) := by
    have : itemsOf 4 n b = [hexOf b] := rfl
    rw [this]; simp [total, hexOf_length]; omega
  unfold wText joined
  split <;> simp <;> omega
theorem sort_read {t : List UInt8} {k n : Nat} {ps : List (List UInt8)} (h : lookR t = (k, n, ps)) (h0 : k ≠ 0) : sortL k ps = ps := by
  have hq := lookR_some h h0
  have hp := look_eq t
  rw [hq] at hp
  simp only [Option.map_some] at hp
  unfold sortL
  by_cases h6 : k = 6 ∧ ps.length = 2 ∧ leL (ps.getD 0 []) (ps.getD 1 []) = false
  · exfalso
    unfold pLook at hp
    split at hp
    · obtain ⟨x, hx, hp⟩ := Option.bind_eq_some_iff.1 hp
      obtain ⟨k', n', b', ps', rest⟩ := x
      split at hp
      · simp only [Option.some.injEq, Prod.mk.injEq] at hp
        obtain ⟨e1, e2, e3, e4⟩ := hp
        subst e1; subst e4
        have := term_parts6 hx h6.1
        rw [okParts, h6.1] at this
        rw [h6.2.2] at this
        simp at this
      · cases hp
    · cases hp
  · rw [if_neg h6]
/-- made of what was read: the same text -/
theorem make_read {t : List UInt8} {k n : Nat} {ps : List (List UInt8)} (h : lookR t = (k, n, ps)) (h0 : k ≠ 0) : makeK k n (bytesIn k t) ps = t := by
  obtain ⟨hl, ht, hn⟩ := read_text h h0
  have hs := sort_read h h0
  unfold makeK
  rw [hs, ← ht, h]
  have h1 := text_total k n (bytesIn k t) ps
  rw [← ht] at h1
  rw [if_neg, if_pos ⟨rfl, rfl⟩]
  rintro (⟨e, hb⟩ | hb)
  · subst e
    have h2 := text_bytes n (bytesIn 4 t) ps
    rw [← ht] at h2
    omega
  · omega
end Go.Proofs.Ytjbmcjppaadkgaa

namespace Go.Proofs.Ytjbmcjppaadkgaa
set_option linter.unusedVariables false
set_option linter.unusedSimpArgs false

theorem stop_take {rest : List UInt8} (h : Stop rest) : rest.takeWhile isWord = [] ∧ rest.dropWhile isWord = rest := by
  rcases h with rfl | h | h
  · exact ⟨rfl, rfl⟩
  all_goals
    cases rest with
    | nil => cases h
    | cons c r =>
      simp at h; subst h
      exact ⟨List.takeWhile_cons_of_neg (by decide), List.dropWhile_cons_of_neg (by decide)⟩
theorem word_app {l rest : List UInt8} (h : Stop rest) : (l ++ rest).takeWhile isWord = l.takeWhile isWord ∧ (l ++ rest).dropWhile isWord = l.dropWhile isWord ++ rest := by
  induction l with
  | nil => simpa using stop_take h
  | cons c l ih =>
    by_cases hc : isWord c = true
    · rw [List.cons_append, List.takeWhile_cons_of_pos hc, List.dropWhile_cons_of_pos hc, List.takeWhile_cons_of_pos hc, List.dropWhile_cons_of_pos hc, ih.1]
      exact ⟨rfl, ih.2⟩
    · rw [List.cons_append, List.takeWhile_cons_of_neg hc, List.dropWhile_cons_of_neg hc, List.takeWhile_cons_of_neg hc, List.dropWhile_cons_of_neg hc]
      exact ⟨rfl, rfl⟩
theorem pNum_app {lo hi : Nat} {l rest : List UInt8} {x : Nat × List UInt8} (h : Stop rest) (hp : pNum lo hi l = some x) : pNum lo hi (l ++ rest) = some (x.1, x.2 ++ rest) := by
  unfold pNum at hp ⊢
  rw [(word_app h).1, (word_app h).2]
  split at hp
  · rename_i hi; cases hp; rw [if_pos hi]
  · cases hp
theorem pass_app {c : UInt8} {l r rest : List UInt8} (h : pass c l = some r) : pass c (l ++ rest) = some (r ++ rest) := by
  rw [pass_some] at h ⊢; rw [h]; rfl
theorem pLeaf_app {k : Nat} {sh : Shape} {l rest : List UInt8} {x : Nat × List UInt8 × List UInt8} (h : Stop rest) (hp : pLeaf k sh l = some x) : pLeaf k sh (l ++ rest) = some (x.1, x.2.1, x.2.2 ++ rest) := by
  unfold pLeaf at hp ⊢
  split at hp
  · rename_i h1; cases hp; rw [if_pos h1]
  · rename_i h1
    rw [if_neg h1]
    split at hp
    · rename_i h4
      rw [if_pos h4, (word_app h).1, (word_app h).2]
      split at hp
      · rename_i hc; cases hp; rw [if_pos hc]
      · cases hp
    · rename_i h4
      rw [if_neg h4]
      obtain ⟨y, hy, e⟩ := Option.bind_eq_some_iff.1 hp
      cases e
      rw [pNum_app h hy]; rfl
theorem pHead_app {k : Nat} {sh : Shape} {l rest : List UInt8} {x : Nat × List UInt8} (h : Stop rest) (hp : pHead k sh l = some x) : pHead k sh (l ++ rest) = some (x.1, x.2 ++ rest) := by
  unfold pHead at hp ⊢
  split at hp
  · rename_i h1
    rw [if_pos h1]
    obtain ⟨y, hy, hp⟩ := Option.bind_eq_some_iff.1 hp
    obtain ⟨r3, h3, e⟩ := Option.bind_eq_some_iff.1 hp
    cases e
    rw [pNum_app h hy]
    show ((pass 44 (y.2 ++ rest)).bind _) = _
    rw [pass_app h3]; rfl
  · rename_i h1; cases hp; rw [if_neg h1]
theorem head_app {l rest : List UInt8} (h : l ≠ []) : (l ++ rest).head? = l.head? := by
  cases l with
  | nil => exact absurd rfl h
  | cons c l => rfl
theorem tail_app {l rest : List UInt8} (h : l ≠ []) : (l ++ rest).tail = l.tail ++ rest := by
  cases l with
  | nil => exact absurd rfl h
  | cons c l => rfl
theorem pTermS_app {L L' : Nat → LoopT} {rest : List UInt8} (hs : Stop rest) (hL : ∀ k acc r x, L k acc r = some x → L' k acc (r ++ rest) = some (x.1, x.2 ++ rest)) (hn : ∀ k acc, L k acc [] = none)
    {l : List UInt8} {x : Nat × Nat × List UInt8 × List (List UInt8) × List UInt8} (h : pTermS L l = some x) : pTermS L' (l ++ rest) = some (x.1, x.2.1, x.2.2.1, x.2.2.2.1, x.2.2.2.2 ++ rest) := by
  cases l with
  | nil => cases h
  | cons c r =>
    rw [List.cons_append]
    simp only [pTermS] at h ⊢
    obtain ⟨sh, hsh, h⟩ := Option.bind_eq_some_iff.1 h
    rw [hsh]
    show (if kindOf c ≤ 4 then _ else _) = _
    split at h
    · rename_i h4
      rw [if_pos h4]
      obtain ⟨y, hy, e⟩ := Option.bind_eq_some_iff.1 h
      cases e
      rw [pLeaf_app hs hy]; rfl
    · rename_i h4
      rw [if_neg h4]
      obtain ⟨r1, h1, h⟩ := Option.bind_eq_some_iff.1 h
      obtain ⟨y, hy, h⟩ := Option.bind_eq_some_iff.1 h
      rw [pass_app h1]
      show ((pHead (kindOf c) sh (r1 ++ rest)).bind _) = _
      rw [pHead_app hs hy]
      show (if kindOf c = 11 ∧ (y.2 ++ rest).head? = some 41 then _ else _) = _
      split at h
      · rename_i hd
        have hne : y.2 ≠ [] := fun e => by rw [e] at hd; cases hd.2
        rw [head_app hne, if_pos hd]
        cases h
        show some (_, _, _, _, (y.2 ++ rest).tail) = _
        rw [tail_app hne]
      · rename_i hd
        obtain ⟨z, hz, e⟩ := Option.bind_eq_some_iff.1 h
        have hne : y.2 ≠ [] := fun e => by rw [e, hn] at hz; cases hz
        rw [head_app hne, if_neg hd]
        cases e
        show ((L' (kindOf c) [] (y.2 ++ rest)).bind _) = _
        rw [hL _ _ _ _ hz]; rfl
theorem pLoop_nil (f k : Nat) (acc : List (List UInt8)) : pLoop f k acc [] = none := by cases f <;> rfl
theorem partOf_app {r x rest : List UInt8} (h : x.length ≤ r.length) : partOf (r ++ rest) (x ++ rest) = partOf r x := by
  unfold partOf
  rw [List.length_append, List.length_append, Nat.add_sub_add_right, List.take_append_of_le_length (by omega)]
theorem pLoop_app {rest : List UInt8} (hs : Stop rest) : ∀ (f f' k : Nat) (acc : List (List UInt8)) (r : List UInt8) (x : List (List UInt8) × List UInt8), f ≤ f' → pLoop f k acc r = some x → pLoop f' k acc (r ++ rest) = some (x.1, x.2 ++ rest) := by
  intro f
  induction f with
  | zero => intro f' k acc r x _ h; cases h
  | succ f ih =>
    intro f' k acc r x hf h
    obtain ⟨g, rfl⟩ : ∃ g, f' = g + 1 := ⟨f' - 1, by omega⟩
    simp only [pLoop] at h ⊢
    obtain ⟨y, hy, h⟩ := Option.bind_eq_some_iff.1 h
    have hl := (pTerm_suf hy).2
    rw [pTermS_app hs (fun k acc r x => ih g k acc r x (by omega)) (pLoop_nil f) hy]
    obtain ⟨k1, n1, b1, ps1, y⟩ := y
    simp only at h hl
    show (if (y ++ rest).head? = some 41 then (if okParts k (acc ++ [partOf (r ++ rest) (y ++ rest)]) = true then some (acc ++ [partOf (r ++ rest) (y ++ rest)], (y ++ rest).tail) else none) else (if (y ++ rest).head? = some 44 then pLoop g k (acc ++ [partOf (r ++ rest) (y ++ rest)]) (y ++ rest).tail else none)) = _
    rw [partOf_app (by omega)]
    split at h
    · rename_i h41
      have hne : y ≠ [] := fun e => by rw [e] at h41; cases h41
      rw [head_app hne, if_pos h41]
      split at h
      · rename_i hok; cases h; rw [if_pos hok, tail_app hne]
      · cases h
    · rename_i h41
      split at h
      · rename_i h44
        have hne : y ≠ [] := fun e => by rw [e] at h44; cases h44
        rw [head_app hne, if_neg h41, if_pos h44, tail_app hne]
        exact ih g _ _ _ _ (by omega) h
      · cases h
/-- read alone, read there -/
theorem pTerm_app {f f' : Nat} {l rest : List UInt8} (hs : Stop rest) (hf : f ≤ f') {x : Nat × Nat × List UInt8 × List (List UInt8) × List UInt8} (h : pTermS (pLoop f) l = some x) :
    pTermS (pLoop f') (l ++ rest) = some (x.1, x.2.1, x.2.2.1, x.2.2.2.1, x.2.2.2.2 ++ rest) :=
  pTermS_app hs (fun k acc r x => pLoop_app hs f f' k acc r x hf) (pLoop_nil f) h

/-! fuel -/
theorem pTermS_fuel {L L' : Nat → LoopT} {l : List UInt8} {x : Nat × Nat × List UInt8 × List (List UInt8) × List UInt8} (hL : ∀ k acc r x, r.length < l.length → L k acc r = some x → L' k acc r = some x) (h : pTermS L l = some x) : pTermS L' l = some x := by
  cases l with
  | nil => cases h
  | cons c r =>
    simp only [pTermS] at h ⊢
    obtain ⟨sh, hsh, h⟩ := Option.bind_eq_some_iff.1 h
    rw [hsh]
    show (if kindOf c ≤ 4 then _ else _) = _
    split at h
    · rename_i h4
      rw [if_pos h4]; exact h
    · rename_i h4
      rw [if_neg h4]
      obtain ⟨r1, h1, h⟩ := Option.bind_eq_some_iff.1 h
      obtain ⟨y, hy, h⟩ := Option.bind_eq_some_iff.1 h
      rw [h1]
      show ((pHead (kindOf c) sh r1).bind _) = _
      rw [hy]
      show (if kindOf c = 11 ∧ y.2.head? = some 41 then _ else _) = _
      have hl : y.2.length < (c :: r).length := by
        have a := (pass_suf' h1).length_le
        have b : y.2 <:+ r1 := by
          unfold pHead at hy
          split at hy
          · obtain ⟨z, hz, hy⟩ := Option.bind_eq_some_iff.1 hy
            obtain ⟨r3, h3, e⟩ := Option.bind_eq_some_iff.1 hy
            cases e
            exact (pass_suf' h3).trans (pNum_suf hz)
          · cases hy; exact List.suffix_refl _
        have := b.length_le
        simp; omega
      split at h
      · rename_i hd; rw [if_pos hd]; exact h
      · rename_i hd
        rw [if_neg hd]
        obtain ⟨z, hz, e⟩ := Option.bind_eq_some_iff.1 h
        rw [hL _ _ _ _ hl hz]; exact e
theorem pLoop_fuel : ∀ (f k : Nat) (acc : List (List UInt8)) (r : List UInt8) (x : List (List UInt8) × List UInt8), pLoop f k acc r = some x → ∀ g, r.length ≤ g → pLoop g k acc r = some x := by
  intro f
  induction f with
  | zero => intro k acc r x h; cases h
  | succ f ih =>
    intro k acc r x h g hg
    simp only [pLoop] at h
    obtain ⟨y, hy, h⟩ := Option.bind_eq_some_iff.1 h
    have hl := (pTerm_suf hy).2
    obtain ⟨g, rfl⟩ : ∃ g', g = g' + 1 := ⟨g - 1, by omega⟩
    simp only [pLoop]
    rw [pTermS_fuel (L' := pLoop g) (fun k acc r' x hr hx => ih k acc r' x hx g (by omega)) hy]
    show (if y.2.2.2.2.head? = some 41 then _ else _) = _
    split at h
    · rename_i h41; rw [if_pos h41]; exact h
    · rename_i h41
      rw [if_neg h41]
      split at h
      · rename_i h44
        rw [if_pos h44]
        exact ih _ _ _ _ h g (by simp; omega)
      · cases h
theorem pTerm_fuel {f g : Nat} {l : List UInt8} {x : Nat × Nat × List UInt8 × List (List UInt8) × List UInt8} (h : pTermS (pLoop f) l = some x) (hg : l.length ≤ g + 1) : pTermS (pLoop g) l = some x :=
  pTermS_fuel (fun k acc r' x hr hx => pLoop_fuel f k acc r' x hx g (by omega)) h

/-! cut: what was read there is read alone -/
theorem suf_split {t s r : List UInt8} (h : t ++ s <:+ r) : ∃ t', r = t' ++ s := by
  obtain ⟨u, hu⟩ := h
  exact ⟨u ++ t, by rw [← hu, List.append_assoc]⟩
theorem pass_cut {c : UInt8} {p s t : List UInt8} (h : pass c (p ++ s) = some (t ++ s)) : pass c p = some t := by
  rw [pass_some] at h ⊢
  rw [← List.cons_append] at h
  exact List.append_cancel_right h
theorem word_cut {s t : List UInt8} : ∀ {p : List UInt8}, (p ++ s).dropWhile isWord = t ++ s → (p ++ s).takeWhile isWord = p.takeWhile isWord ∧ p.dropWhile isWord = t := by
  intro p
  induction p with
  | nil =>
    intro h
    rw [List.nil_append] at h ⊢
    have hl := congrArg List.length h
    have h2 := List.takeWhile_append_dropWhile (p := isWord) (l := s)
    have h3 := congrArg List.length h2
    rw [List.length_append] at hl h3
    have ht : t = [] := List.length_eq_zero_iff.1 (by omega)
    have h4 : s.takeWhile isWord = [] := List.length_eq_zero_iff.1 (by omega)
    exact ⟨by rw [h4]; rfl, by rw [ht]; rfl⟩
  | cons c p ih =>
    intro h
    by_cases hc : isWord c = true
    · rw [List.cons_append, List.dropWhile_cons_of_pos hc] at h
      have := ih h
      rw [List.cons_append, List.takeWhile_cons_of_pos hc, List.takeWhile_cons_of_pos hc, List.dropWhile_cons_of_pos hc, this.1]
      exact ⟨rfl, this.2⟩
    · rw [List.cons_append, List.dropWhile_cons_of_neg hc, ← List.cons_append] at h
      rw [List.cons_append, List.takeWhile_cons_of_neg hc, List.takeWhile_cons_of_neg hc, List.dropWhile_cons_of_neg hc]
      exact ⟨rfl, List.append_cancel_right h⟩
theorem pNum_cut {lo hi : Nat} {p s t : List UInt8} {n : Nat} (h : pNum lo hi (p ++ s) = some (n, t ++ s)) : pNum lo hi p = some (n, t) := by
  unfold pNum at h ⊢
  split at h
  · rename_i hi
    simp only [Option.some.injEq, Prod.mk.injEq] at h
    have := word_cut h.2
    rw [this.1] at hi h
    rw [if_pos hi, h.1, this.2]
  · cases h
theorem pLeaf_cut {k : Nat} {sh : Shape} {p s t : List UInt8} {n : Nat} {b : List UInt8} (h : pLeaf k sh (p ++ s) = some (n, b, t ++ s)) : pLeaf k sh p = some (n, b, t) := by
  unfold pLeaf at h ⊢
  split at h
  · rename_i h1
    simp only [Option.some.injEq, Prod.mk.injEq] at h
    rw [if_pos h1, List.append_cancel_right h.2.2, h.1, h.2.1]
  · rename_i h1
    rw [if_neg h1]
    split at h
    · rename_i h4
      rw [if_pos h4]
      split at h
      · rename_i hc
        simp only [Option.some.injEq, Prod.mk.injEq] at h
        have := word_cut h.2.2
        rw [this.1] at hc h
        rw [if_pos hc, h.1, h.2.1, this.2]
      · cases h
    · rename_i h4
      rw [if_neg h4]
      obtain ⟨y, hy, e⟩ := Option.bind_eq_some_iff.1 h
      obtain ⟨n', r⟩ := y
      simp only [Option.some.injEq, Prod.mk.injEq] at e
      obtain ⟨e1, e2, e3⟩ := e
      subst e1; subst e3
      rw [pNum_cut hy]
      simp [e2]
theorem pHead_suf {k : Nat} {sh : Shape} {l : List UInt8} {x : Nat × List UInt8} (hy : pHead k sh l = some x) : x.2 <:+ l := by
  unfold pHead at hy
  split at hy
  · obtain ⟨z, hz, hy⟩ := Option.bind_eq_some_iff.1 hy
    obtain ⟨r3, h3, e⟩ := Option.bind_eq_some_iff.1 hy
    cases e
    exact (pass_suf' h3).trans (pNum_suf hz)
  · cases hy; exact List.suffix_refl _
theorem pHead_cut {k : Nat} {sh : Shape} {p s t : List UInt8} {n : Nat} (h : pHead k sh (p ++ s) = some (n, t ++ s)) : pHead k sh p = some (n, t) := by
  unfold pHead at h ⊢
  split at h
  · rename_i h1
    rw [if_pos h1]
    obtain ⟨y, hy, h⟩ := Option.bind_eq_some_iff.1 h
    obtain ⟨r3, h3, e⟩ := Option.bind_eq_some_iff.1 h
    obtain ⟨n', r⟩ := y
    simp only [Option.some.injEq, Prod.mk.injEq] at e
    obtain ⟨e1, e2⟩ := e
    subst e1; subst e2
    obtain ⟨r', hr'⟩ := suf_split (pass_suf' h3)
    simp only at hr'
    subst hr'
    rw [pNum_cut hy]
    show ((pass 44 r').bind _) = _
    rw [pass_cut h3]; rfl
  · rename_i h1
    simp only [Option.some.injEq, Prod.mk.injEq] at h
    rw [if_neg h1, h.1, List.append_cancel_right h.2]
theorem pTermS_cut {L : Nat → LoopT} {s : List UInt8} (hL : ∀ k acc p t ps, L k acc (p ++ s) = some (ps, t ++ s) → L k acc p = some (ps, t)) (hsuf : ∀ k acc r x, L k acc r = some x → x.2 <:+ r) (hlt : ∀ k acc r x, L k acc r = some x → x.2.length < r.length)
    {p t : List UInt8} {k n : Nat} {b : List UInt8} {ps : List (List UInt8)} (h : pTermS L (p ++ s) = some (k, n, b, ps, t ++ s)) : pTermS L p = some (k, n, b, ps, t) := by
  have hlen := (pTermS_len hsuf h).2
  cases p with
  | nil => simp at hlen; omega
  | cons c p =>
    clear hlen
    rw [List.cons_append] at h
    simp only [pTermS] at h ⊢
    obtain ⟨sh, hsh, h⟩ := Option.bind_eq_some_iff.1 h
    rw [hsh]
    show (if kindOf c ≤ 4 then _ else _) = _
    split at h
    · rename_i h4
      rw [if_pos h4]
      obtain ⟨y, hy, e⟩ := Option.bind_eq_some_iff.1 h
      obtain ⟨n', b', r⟩ := y
      simp only [Option.some.injEq, Prod.mk.injEq] at e
      obtain ⟨e1, e2, e3, e4, e5⟩ := e
      subst e2; subst e3; subst e5
      rw [pLeaf_cut hy]
      simp [e1, e4]
    · rename_i h4
      rw [if_neg h4]
      obtain ⟨r1, h1, h⟩ := Option.bind_eq_some_iff.1 h
      obtain ⟨y, hy, h⟩ := Option.bind_eq_some_iff.1 h
      obtain ⟨n', r3⟩ := y
      have hs3 : r3 <:+ r1 := pHead_suf hy
      split at h
      · rename_i hd
        simp only [Option.some.injEq, Prod.mk.injEq] at h
        obtain ⟨e1, e2, e3, e4, e5⟩ := h
        subst e2
        have h3 := head_cons hd.2
        simp only at h3 e5
        rw [e5, ← List.cons_append] at h3
        subst h3
        obtain ⟨r1', hr1'⟩ := suf_split hs3
        subst hr1'
        rw [pass_cut h1]
        show ((pHead (kindOf c) sh r1').bind _) = _
        rw [pHead_cut hy]
        show (if kindOf c = 11 ∧ (41 :: t).head? = some 41 then _ else _) = _
        rw [if_pos ⟨hd.1, rfl⟩, e1, ← e3, ← e4]
        rfl
      · rename_i hd
        obtain ⟨z, hz, e⟩ := Option.bind_eq_some_iff.1 h
        obtain ⟨qs, r5⟩ := z
        simp only [Option.some.injEq, Prod.mk.injEq] at e
        obtain ⟨e1, e2, e3, e4, e5⟩ := e
        subst e2; subst e4; subst e5
        have hz3 := hsuf _ _ _ _ hz
        have hz4 := hlt _ _ _ _ hz
        simp only at hz3 hz4 hz
        obtain ⟨r3', hr3'⟩ := suf_split hz3
        subst hr3'
        obtain ⟨r1', hr1'⟩ := suf_split hs3
        subst hr1'
        rw [pass_cut h1]
        show ((pHead (kindOf c) sh r1').bind _) = _
        rw [pHead_cut hy]
        have hne : r3' ≠ [] := fun e => by rw [e] at hz4; simp at hz4; omega
        show (if kindOf c = 11 ∧ r3'.head? = some 41 then _ else _) = _
        simp only at hd
        rw [head_app hne] at hd
        rw [if_neg hd, hL _ _ _ _ _ hz]
        simp [e1, e3]
theorem pLoop_lt : ∀ (f k : Nat) (acc : List (List UInt8)) (r : List UInt8) (x : List (List UInt8) × List UInt8), pLoop f k acc r = some x → x.2.length < r.length := by
  intro f
  induction f with
  | zero => intro k acc r x h; cases h
  | succ f ih =>
    intro k acc r x h
    simp only [pLoop] at h
    obtain ⟨y, hy, h⟩ := Option.bind_eq_some_iff.1 h
    have hl := (pTerm_suf hy).2
    split at h
    · split at h
      · cases h; simp; omega
      · cases h
    · split at h
      · have := ih _ _ _ _ h
        simp at this; omega
      · cases h
theorem pLoop_cut {s : List UInt8} : ∀ (f k : Nat) (acc : List (List UInt8)) (p t : List UInt8) (ps : List (List UInt8)), pLoop f k acc (p ++ s) = some (ps, t ++ s) → pLoop f k acc p = some (ps, t) := by
  intro f
  induction f with
  | zero => intro k acc p t ps h; cases h
  | succ f ih =>
    intro k acc p t ps h
    simp only [pLoop] at h ⊢
    obtain ⟨y, hy, h⟩ := Option.bind_eq_some_iff.1 h
    obtain ⟨k1, n1, b1, ps1, y⟩ := y
    simp only at h
    have hly := (pTerm_suf hy).2
    simp only at hly
    split at h
    · rename_i h41
      split at h
      · rename_i hok
        simp only [Option.some.injEq, Prod.mk.injEq] at h
        obtain ⟨e1, e2⟩ := h
        have h3 := head_cons h41
        rw [e2, ← List.cons_append] at h3
        subst h3
        rw [pTermS_cut (fun k acc p t ps => ih k acc p t ps) (fun k acc r x => pLoop_suf f k acc r x) (fun k acc r x => pLoop_lt f k acc r x) hy]
        rw [partOf_app (by simp at hly ⊢; omega)] at hok e1
        show (if (41 :: t).head? = some 41 then (if okParts k (acc ++ [partOf p (41 :: t)]) = true then some (acc ++ [partOf p (41 :: t)], (41 :: t).tail) else none) else (if (41 :: t).head? = some 44 then pLoop f k (acc ++ [partOf p (41 :: t)]) (41 :: t).tail else none)) = _
        rw [if_pos (by rfl), if_pos hok, e1]
        rfl
      · cases h
    · rename_i h41
      split at h
      · rename_i h44
        have h3 := head_cons h44
        have hs := pLoop_suf _ _ _ _ _ h
        simp only at hs
        obtain ⟨y', hy'⟩ := suf_split hs
        rw [hy', ← List.cons_append] at h3
        subst h3
        rw [pTermS_cut (fun k acc p t ps => ih k acc p t ps) (fun k acc r x => pLoop_suf f k acc r x) (fun k acc r x => pLoop_lt f k acc r x) hy]
        rw [partOf_app (by simp at hly ⊢; omega)] at h
        show (if (44 :: y').head? = some 41 then (if okParts k (acc ++ [partOf p (44 :: y')]) = true then some (acc ++ [partOf p (44 :: y')], (44 :: y').tail) else none) else (if (44 :: y').head? = some 44 then pLoop f k (acc ++ [partOf p (44 :: y')]) (44 :: y').tail else none)) = _
        rw [if_neg (by simp), if_pos (by rfl)]
        exact ih _ _ _ _ _ h
      · cases h
theorem pTerm_cut {f : Nat} {p s t : List UInt8} {k n : Nat} {b : List UInt8} {ps : List (List UInt8)} (h : pTermS (pLoop f) (p ++ s) = some (k, n, b, ps, t ++ s)) : pTermS (pLoop f) p = some (k, n, b, ps, t) :=
  pTermS_cut (fun k acc p t ps => pLoop_cut f k acc p t ps) (fun k acc r x => pLoop_suf f k acc r x) (fun k acc r x => pLoop_lt f k acc r x) h

/-- this text is a term, as a whole (of whatever length) -/
def Whole (t : List UInt8) : Prop := ∃ k n b ps, pTermS (pLoop t.length) t = some (k, n, b, ps, [])
/-- the parts of a term are terms -/
theorem loop_whole : ∀ (f k : Nat) (acc : List (List UInt8)) (r : List UInt8) (x : List (List UInt8) × List UInt8), (∀ q ∈ acc, Whole q) → pLoop f k acc r = some x → ∀ q ∈ x.1, Whole q := by
  intro f
  induction f with
  | zero => intro k acc r x _ h; cases h
  | succ f ih =>
    intro k acc r x ha h
    simp only [pLoop] at h
    obtain ⟨y, hy, h⟩ := Option.bind_eq_some_iff.1 h
    obtain ⟨k1, n1, b1, ps1, y⟩ := y
    simp only at h
    have hw : Whole (partOf r y) := by
      obtain ⟨p, hp⟩ := (pTerm_suf hy).1
      simp only at hp
      subst hp
      have e : partOf (p ++ y) y = p := by unfold partOf; simp
      rw [e]
      have := pTerm_cut (t := []) (by simpa using hy)
      exact ⟨k1, n1, b1, ps1, pTerm_fuel this (Nat.le_succ _)⟩
    have ha2 : ∀ q ∈ acc ++ [partOf r y], Whole q := by
      intro q hq
      rcases List.mem_append.1 hq with hq | hq
      · exact ha q hq
      · rw [List.mem_singleton.1 hq]; exact hw
    split at h
    · split at h
      · cases h; exact ha2
      · cases h
    · split at h
      · exact ih _ _ _ _ ha2 h
      · cases h
/-- joined terms are read back -/
theorem loop_back : ∀ (qs : List (List UInt8)) (f k : Nat) (acc : List (List UInt8)) (rest : List UInt8), qs ≠ [] → (∀ q ∈ qs, Whole q) → (Lib.join qs [44] ++ 41 :: rest).length ≤ f →
    pLoop f k acc (Lib.join qs [44] ++ 41 :: rest) = if okParts k (acc ++ qs) then some (acc ++ qs, rest) else none := by
  intro qs
  induction qs with
  | nil => intro f k acc rest h; exact absurd rfl h
  | cons q qs ih =>
    intro f k acc rest _ hw hf
    obtain ⟨k1, n1, b1, ps1, hq⟩ := hw q (List.mem_cons_self ..)
    by_cases hqs : qs = []
    · subst hqs
      rw [Lib.join_one] at hf ⊢
      simp at hf
      obtain ⟨g, rfl⟩ : ∃ g, f = g + 1 := ⟨f - 1, by omega⟩
      simp only [pLoop]
      rw [pTerm_app (rest := 41 :: rest) (.inr (.inr rfl)) (show q.length ≤ g by omega) hq]
      rw [Option.bind_some]
      simp only [List.nil_append]
      have e : partOf (q ++ 41 :: rest) (41 :: rest) = q := by unfold partOf; simp
      rw [e, if_pos (by rfl)]
      rfl
    · have hj : Lib.join (q :: qs) [44] = q ++ 44 :: Lib.join qs [44] := by
        cases qs with
        | nil => exact absurd rfl hqs
        | cons y l => rw [Lib.join_cons, Lib.join_cons]; simp [Lib.joinTail]
      rw [hj, List.append_assoc, List.cons_append] at hf ⊢
      simp at hf
      obtain ⟨g, rfl⟩ : ∃ g, f = g + 1 := ⟨f - 1, by omega⟩
      simp only [pLoop]
      rw [pTerm_app (rest := 44 :: (Lib.join qs [44] ++ 41 :: rest)) (.inr (.inl rfl)) (show q.length ≤ g by omega) hq]
      rw [Option.bind_some]
      simp only [List.nil_append]
      have e : partOf (q ++ 44 :: (Lib.join qs [44] ++ 41 :: rest)) (44 :: (Lib.join qs [44] ++ 41 :: rest)) = q := by unfold partOf; simp
      rw [e, if_neg (by simp), if_pos (by rfl), List.tail_cons]
      rw [ih g k (acc ++ [q]) rest hqs (fun x hx => hw x (List.mem_cons_of_mem _ hx)) (by simp; omega)]
      simp

def isL (t : List UInt8) : Bool := decide (0 < (lookR t).1)

theorem look_p {t : List UInt8} {k n : Nat} {ps : List (List UInt8)} (h0 : k ≠ 0) : lookR t = (k, n, ps) ↔ t.length ≤ 65536 ∧ pTermS (pLoop t.length) t = some (k, n, bytesIn k t, ps, []) := by
  constructor
  · intro h
    have hq := lookR_some h h0
    have hp := look_eq t
    rw [hq] at hp
    simp only [Option.map_some] at hp
    unfold pLook at hp
    split at hp
    · rename_i hl
      refine ⟨hl, ?_⟩
      obtain ⟨x, hx, hp⟩ := Option.bind_eq_some_iff.1 hp
      obtain ⟨k', n', b', ps', rest⟩ := x
      split at hp
      · rename_i hr
        simp only at hr
        subst hr
        simp only [Option.some.injEq, Prod.mk.injEq] at hp
        obtain ⟨e1, e2, e3, e4⟩ := hp
        rw [hx, e1, e2, e3, e4]
      · cases hp
    · cases hp
  · rintro ⟨hl, hp⟩
    have he := look_eq t
    have : pLook t = some (k, n, bytesIn k t, ps) := by
      unfold pLook
      rw [if_pos hl, hp]; rfl
    rw [this] at he
    cases hq : qLook t with
    | none => rw [hq] at he; cases he
    | some x =>
      rw [hq] at he
      simp only [Option.map_some, Option.some.injEq, Prod.mk.injEq] at he
      obtain ⟨e1, e2, _, e4⟩ := he
      unfold lookR
      rw [hq]
      show x = _
      rw [e1, e2, e4]
theorem term_head {L : Nat → LoopT} {t : List UInt8} {x : Nat × Nat × List UInt8 × List (List UInt8) × List UInt8} (h : pTermS L t = some x) : ∃ c r, t = c :: r ∧ x.1 = kindOf c ∧ kindOf c ≠ 0 ∧ ∃ sh, shapeOf (kindOf c) = some sh := by
  cases t with
  | nil => cases h
  | cons c r =>
    simp only [pTermS] at h
    obtain ⟨sh, hs, h⟩ := Option.bind_eq_some_iff.1 h
    have h0 : kindOf c ≠ 0 := fun e => by rw [e] at hs; cases hs
    refine ⟨c, r, rfl, ?_, h0, sh, hs⟩
    split at h
    · obtain ⟨y, hy, e⟩ := Option.bind_eq_some_iff.1 h
      cases e; rfl
    · obtain ⟨r1, h1, h⟩ := Option.bind_eq_some_iff.1 h
      obtain ⟨y, hy, h⟩ := Option.bind_eq_some_iff.1 h
      split at h
      · cases h; rfl
      · obtain ⟨z, hz, e⟩ := Option.bind_eq_some_iff.1 h
        cases e; rfl
theorem isL_whole {t : List UInt8} : isL t = true ↔ t.length ≤ 65536 ∧ Whole t := by
  unfold isL
  rw [decide_eq_true_eq]
  constructor
  · intro h
    obtain ⟨x, hx⟩ : ∃ x, lookR t = x := ⟨_, rfl⟩
    obtain ⟨k, n, ps⟩ := x
    rw [hx] at h
    have := (look_p (by simp at h; omega)).1 hx
    exact ⟨this.1, k, n, _, ps, this.2⟩
  · rintro ⟨hl, k, n, b, ps, hp⟩
    obtain ⟨c, r, ht, hk, hk0, _⟩ := term_head hp
    simp only at hk
    subst hk
    have hb : b = bytesIn (kindOf c) t := (T1 (eqA _) hl hp).2
    rw [hb] at hp
    rw [(look_p hk0).2 ⟨hl, hp⟩]
    omega
theorem sign_back {k : Nat} (h1 : 1 ≤ k) (h2 : k ≤ 11) : kindOf (signOf k) = k := by
  rcases (show k = 1 ∨ k = 2 ∨ k = 3 ∨ k = 4 ∨ k = 5 ∨ k = 6 ∨ k = 7 ∨ k = 8 ∨ k = 9 ∨ k = 10 ∨ k = 11 by omega) with rfl | rfl | rfl | rfl | rfl | rfl | rfl | rfl | rfl | rfl | rfl <;> rfl
theorem shape_some {k : Nat} (h1 : 1 ≤ k) (h2 : k ≤ 11) : ∃ sh, shapeOf k = some sh := by
  rcases (show k = 1 ∨ k = 2 ∨ k = 3 ∨ k = 4 ∨ k = 5 ∨ k = 6 ∨ k = 7 ∨ k = 8 ∨ k = 9 ∨ k = 10 ∨ k = 11 by omega) with rfl | rfl | rfl | rfl | rfl | rfl | rfl | rfl | rfl | rfl | rfl <;> exact ⟨_, rfl⟩
/-- the kind of a text that is a term is by its first sign -/
theorem look_sign {k n : Nat} {b : List UInt8} {l : List (List UInt8)} (h1 : 1 ≤ k) (h2 : k ≤ 11) (h : isL (wText k n b l) = true) : (lookR (wText k n b l)).1 = k := by
  unfold isL at h
  rw [decide_eq_true_eq] at h
  obtain ⟨x, hx⟩ : ∃ x, lookR (wText k n b l) = x := ⟨_, rfl⟩
  obtain ⟨k', n', ps⟩ := x
  rw [hx] at h ⊢
  obtain ⟨c, r, ht, hk, _⟩ := term_head ((look_p (by simp at h; omega)).1 hx).2
  simp only at hk
  unfold wText at ht
  simp only [List.cons.injEq] at ht
  rw [hk, ← ht.1, sign_back h1 h2]
theorem leaf_parts {t : List UInt8} {k n : Nat} {ps : List (List UInt8)} (h : lookR t = (k, n, ps)) (hk : k ≤ 4) : ps = [] := by
  by_cases h0 : k = 0
  · subst h0
    unfold lookR at h
    cases hq : qLook t with
    | none => rw [hq] at h; cases h; rfl
    | some x =>
      rw [hq] at h
      obtain ⟨k', n', ps'⟩ := x
      simp only [Option.getD_some, Prod.mk.injEq] at h
      obtain ⟨sh, hs, _⟩ := look_count hq
      rw [h.1] at hs; cases hs
  · obtain ⟨sh, hs, _, h2⟩ := look_count (lookR_some h h0)
    have : sh.most = 0 := by
      rcases shape_cases hs with rfl | rfl | rfl | rfl | rfl | rfl | rfl | rfl | rfl | rfl | rfl
      all_goals (simp only [shapeOf, Option.some.injEq] at hs; subst hs)
      all_goals first | rfl | omega
    rw [this] at h2
    exact List.length_eq_zero_iff.1 (by omega)
/-- the parts of a term are terms -/
theorem parts_whole {t : List UInt8} {k n : Nat} {ps : List (List UInt8)} (h : lookR t = (k, n, ps)) (h0 : k ≠ 0) : ∀ q ∈ ps, isL q = true := by
  obtain ⟨hl, hp⟩ := (look_p h0).1 h
  have ht := read_text h h0
  have htot := text_total k n (bytesIn k t) ps
  rw [← ht.2.1] at htot
  have hw : ∀ q ∈ ps, Whole q := by
    cases t with
    | nil => cases hp
    | cons c r =>
      simp only [pTermS] at hp
      obtain ⟨sh, hs, hp⟩ := Option.bind_eq_some_iff.1 hp
      split at hp
      · obtain ⟨y, hy, e⟩ := Option.bind_eq_some_iff.1 hp
        simp only [Option.some.injEq, Prod.mk.injEq] at e
        rw [← e.2.2.2.1]; intro q hq; cases hq
      · obtain ⟨r1, h1, hp⟩ := Option.bind_eq_some_iff.1 hp
        obtain ⟨y, hy, hp⟩ := Option.bind_eq_some_iff.1 hp
        split at hp
        · simp only [Option.some.injEq, Prod.mk.injEq] at hp
          rw [← hp.2.2.2.1]; intro q hq; cases hq
        · obtain ⟨z, hz, e⟩ := Option.bind_eq_some_iff.1 hp
          simp only [Option.some.injEq, Prod.mk.injEq] at e
          rw [← e.2.2.2.1]
          exact loop_whole _ _ _ _ z (fun q hq => by cases hq) hz
  intro q hq
  refine isL_whole.2 ⟨?_, hw q hq⟩
  have : q.length ≤ (ps.map List.length).sum := by
    clear htot ht hw hp h
    induction ps with
    | nil => cases hq
    | cons x ps ih =>
      rw [List.map_cons, List.sum_cons]
      rcases List.mem_cons.1 hq with rfl | hq
      · omega
      · have := ih hq; omega
  unfold total at htot
  omega
theorem decs_word (n : Nat) (rest : List UInt8) (hs : Stop rest) : (decs n ++ rest).takeWhile isWord = decs n ∧ (decs n ++ rest).dropWhile isWord = rest := by
  have h : ∀ l : List UInt8, (∀ c ∈ l, isWord c = true) → l.takeWhile isWord = l ∧ l.dropWhile isWord = [] := by
    intro l
    induction l with
    | nil => intro _; exact ⟨rfl, rfl⟩
    | cons c l ih =>
      intro h
      have hc := h c (List.mem_cons_self ..)
      have := ih fun x hx => h x (List.mem_cons_of_mem _ hx)
      rw [List.takeWhile_cons_of_pos hc, List.dropWhile_cons_of_pos hc, this.1, this.2]
      exact ⟨rfl, rfl⟩
  have hd := h (decs n) fun c hc => dig_word c (digs_isDig (decs_digs n) c hc)
  rw [(word_app hs).1, (word_app hs).2, hd.1, hd.2]
  exact ⟨rfl, rfl⟩
theorem whole_head {q : List UInt8} (h : Whole q) : ∃ c r, q = c :: r ∧ kindOf c ≠ 0 := by
  obtain ⟨k, n, b, ps, h⟩ := h
  obtain ⟨c, r, ht, _, h0, _⟩ := term_head h
  exact ⟨c, r, ht, h0⟩
theorem join_head {l : List (List UInt8)} (hl : l ≠ []) (hw : ∀ q ∈ l, Whole q) (rest : List UInt8) : ∃ c r, Lib.join l [44] ++ rest = c :: r ∧ kindOf c ≠ 0 := by
  cases l with
  | nil => exact absurd rfl hl
  | cons q l =>
    obtain ⟨c, r, hq, h0⟩ := whole_head (hw q (List.mem_cons_self ..))
    rw [Lib.join_cons, hq]
    exact ⟨c, _, rfl, h0⟩
/-- may a number stand in such a kind -/
def numOk (k n : Nat) : Bool := decide (k = 8 → 1 ≤ n ∧ n ≤ 3)
theorem num_in {k n : Nat} {sh : Shape} (hs : shapeOf k = some sh) (hk : k = 8 ∨ k = 10) (hn : n ≤ top) : numIn sh.low sh.high (decs n) = numOk k n := by
  obtain ⟨h1, h2⟩ := rd_decs n hn
  unfold numIn numOk
  rw [h1, h2]
  unfold top at hn
  clear h1 h2
  rcases hk with rfl | rfl
  · simp only [shapeOf, Option.some.injEq] at hs; subst hs
    rw [Bool.eq_iff_iff]
    simp; omega
  · simp only [shapeOf, Option.some.injEq] at hs; subst hs
    rw [Bool.eq_iff_iff]
    simp; omega
theorem text_back {k n : Nat} {b : List UInt8} {l : List (List UInt8)} (hk : 5 ≤ k) (hk2 : k ≤ 11) (hn : n ≤ top) (hw : ∀ q ∈ l, Whole q) (hl : l ≠ []) :
    pTermS (pLoop (wText k n b l).length) (wText k n b l) = if okParts k l = true ∧ numOk k n = true then some (k, if numb k then n else 0, [], l, []) else none := by
  obtain ⟨f, hf⟩ : ∃ f, (wText k n b l).length = f := ⟨_, rfl⟩
  rw [hf]
  have hks := sign_back (show 1 ≤ k by omega) hk2
  obtain ⟨sh, hsh⟩ := shape_some (show 1 ≤ k by omega) hk2
  unfold wText at hf ⊢
  rw [if_pos hk] at hf ⊢
  simp only [pTermS]
  rw [hks, hsh, Option.bind_some, if_neg (by omega)]
  rw [show pass 40 (40 :: (joined k n b l ++ [41])) = some (joined k n b l ++ [41]) from rfl, Option.bind_some]
  by_cases h810 : k = 8 ∨ k = 10
  · have hnb : numb k = true := by rcases h810 with rfl | rfl <;> rfl
    have hj : joined k n b l ++ [41] = decs n ++ 44 :: (Lib.join l [44] ++ [41]) := by
      unfold joined itemsOf
      rw [hnb, if_pos rfl, List.singleton_append, join_cons2 _ _ hl]
      simp
    rw [hj] at hf ⊢
    have hdw := decs_word n (44 :: (Lib.join l [44] ++ [41])) (.inr (.inl rfl))
    have hpn : pNum sh.low sh.high (decs n ++ 44 :: (Lib.join l [44] ++ [41])) = if numOk k n then some (n, 44 :: (Lib.join l [44] ++ [41])) else none := by
      unfold pNum
      rw [hdw.1, hdw.2, num_in hsh h810 hn, (rd_decs n hn).1]
      rfl
    unfold pHead
    rw [if_pos h810, hpn]
    cases hno : numOk k n with
    | false => simp
    | true =>
      rw [if_pos rfl, Option.bind_some]
      rw [show pass 44 (44 :: (Lib.join l [44] ++ [41])) = some (Lib.join l [44] ++ [41]) from rfl, Option.bind_some, Option.bind_some]
      rw [if_neg (by omega)]
      rw [loop_back l f k [] [] hl hw (by simp at hf ⊢; omega)]
      rw [List.nil_append, hnb]
      by_cases hok : okParts k l = true
      · rw [if_pos hok, if_pos ⟨hok, rfl⟩]; rfl
      · rw [if_neg hok, if_neg fun h => hok h.1]; rfl
  · have hnb : numb k = false := by
      unfold numb
      have : (k == 2) = false := by simp; omega
      have h3 : (k == 3) = false := by simp; omega
      have h8 : (k == 8) = false := by simp; omega
      have h10 : (k == 10) = false := by simp; omega
      rw [this, h3, h8, h10]; rfl
    have hj : joined k n b l ++ [41] = Lib.join l [44] ++ [41] := by
      unfold joined itemsOf
      rw [hnb, if_neg (by simp), if_neg (by omega), List.nil_append]
    rw [hj] at hf ⊢
    have hno : numOk k n = true := by unfold numOk; rw [decide_eq_true_eq]; omega
    unfold pHead
    rw [if_neg h810, Option.bind_some]
    obtain ⟨c, r, hc, hc0⟩ := join_head hl hw [41]
    have h41 : ¬ (k = 11 ∧ (Lib.join l [44] ++ [41]).head? = some 41) := by
      rw [hc]; rintro ⟨_, h⟩
      simp at h; subst h; exact hc0 (by decide)
    rw [if_neg h41]
    rw [loop_back l f k [] [] hl hw (by simp at hf ⊢; omega)]
    rw [List.nil_append, hnb]
    by_cases hok : okParts k l = true
    · rw [if_pos hok, if_pos ⟨hok, hno⟩]; rfl
    · rw [if_neg hok, if_neg fun h => hok h.1]; rfl
/-- without parts -/
theorem text_none {k n : Nat} {b : List UInt8} {k' n' : Nat} {ps : List (List UInt8)} (hk : 5 ≤ k) (hk2 : k ≤ 11) (hn : n ≤ top) (h : lookR (wText k n b []) = (k', n', ps)) (h0 : k' ≠ 0) : k' = 11 ∧ ps = [] ∧ k = 11 := by
  have hp := ((look_p h0).1 h).2
  obtain ⟨f, hf⟩ : ∃ f, (wText k n b []).length = f := ⟨_, rfl⟩
  rw [hf] at hp
  clear h hf
  generalize bytesIn k' (wText k n b []) = bb at hp
  have hks := sign_back (show 1 ≤ k by omega) hk2
  obtain ⟨sh, hsh⟩ := shape_some (show 1 ≤ k by omega) hk2
  unfold wText at hp
  rw [if_pos hk] at hp
  simp only [pTermS] at hp
  rw [hks, hsh, Option.bind_some, if_neg (by omega)] at hp
  rw [show pass 40 (40 :: (joined k n b [] ++ [41])) = some (joined k n b [] ++ [41]) from rfl, Option.bind_some] at hp
  by_cases h810 : k = 8 ∨ k = 10
  · have hnb : numb k = true := by rcases h810 with rfl | rfl <;> rfl
    have hj : joined k n b [] ++ [41] = decs n ++ [41] := by
      unfold joined itemsOf
      rw [hnb, if_pos rfl, List.append_nil, Lib.join_one]
    rw [hj] at hp
    have hdw := decs_word n [41] (.inr (.inr rfl))
    unfold pHead pNum at hp
    rw [if_pos h810, hdw.1, hdw.2] at hp
    split at hp
    · rw [Option.bind_some, show pass 44 [41] = none from rfl] at hp
      cases hp
    · cases hp
  · have hnb : numb k = false := by
      unfold numb
      have : (k == 2) = false := by simp; omega
      have h3 : (k == 3) = false := by simp; omega
      have h8 : (k == 8) = false := by simp; omega
      have h10 : (k == 10) = false := by simp; omega
      rw [this, h3, h8, h10]; rfl
    have hj : joined k n b [] ++ [41] = [41] := by
      unfold joined itemsOf
      rw [hnb, if_neg (by simp), if_neg (by omega)]
      simp [Lib.join_nil]
    rw [hj] at hp
    unfold pHead at hp
    rw [if_neg h810, Option.bind_some] at hp
    split at hp
    · rename_i h11
      simp only [Option.some.injEq, Prod.mk.injEq] at hp
      exact ⟨by rw [← hp.1]; exact h11.1, hp.2.2.2.1.symm, h11.1⟩
    · obtain ⟨z, hz, e⟩ := Option.bind_eq_some_iff.1 hp
      cases f with
      | zero => cases hz
      | succ f => simp only [pLoop, pTermS] at hz; cases hz
theorem look_parts {k n : Nat} {b : List UInt8} {l : List (List UInt8)} (hk : 5 ≤ k) (hk2 : k ≤ 11) (hn : n ≤ top) (hw : ∀ q ∈ l, Whole q) {k' n' : Nat} {ps : List (List UInt8)} (h : lookR (wText k n b l) = (k', n', ps)) (h0 : k' ≠ 0) :
    k' = k ∧ ps = l ∧ (l ≠ [] → n' = if numb k then n else 0) := by
  by_cases hl : l = []
  · subst hl
    have := text_none hk hk2 hn h h0
    exact ⟨by omega, this.2.1, fun h => absurd rfl h⟩
  · have hp := ((look_p h0).1 h).2
    rw [text_back hk hk2 hn hw hl] at hp
    split at hp
    · simp only [Option.some.injEq, Prod.mk.injEq] at hp
      exact ⟨hp.1.symm, hp.2.2.2.1.symm, fun _ => hp.2.1.symm⟩
    · cases hp
theorem text_look {k n : Nat} {b : List UInt8} {l : List (List UInt8)} (hk : 5 ≤ k) (hk2 : k ≤ 11) (hn : n ≤ top) (hw : ∀ q ∈ l, Whole q) (hl : l ≠ []) (hok : okParts k l = true) (hno : numOk k n = true) (hlen : (wText k n b l).length ≤ 65536) :
    lookR (wText k n b l) = (k, (if numb k then n else 0), l) := by
  have hb := text_back (b := b) hk hk2 hn hw hl
  rw [if_pos ⟨hok, hno⟩] at hb
  refine (look_p (by omega)).2 ⟨hlen, ?_⟩
  have hbb : bytesIn k (wText k n b l) = [] := if_neg (by omega)
  rw [hb, hbb]

/-- the reference's words -/
def refK (k n : Nat) (b : List UInt8) (l : List (List UInt8)) : List UInt8 :=
  if k ≤ 4 then (if l = [] ∧ isL (wText k n b []) = true then wText k n b [] else [])
  else (if (sortL k l).all isL = true ∧ isL (wText k n b (sortL k l)) = true then wText k n b (sortL k l) else [])
theorem sort_total (k : Nat) (l : List (List UInt8)) : total (sortL k l) = total l := by
  unfold sortL
  split
  · rename_i h
    match l, h.2.1 with
    | [x, y], _ => simp [total]; omega
  · rfl
theorem make_ref (k n : Nat) (b : List UInt8) (l : List (List UInt8)) (h1 : 1 ≤ k) (h2 : k ≤ 11) (hn : n ≤ top) : makeK k n b l = refK k n b l := by
  unfold makeK refK
  by_cases h4 : k ≤ 4
  · have hs : sortL k l = l := by unfold sortL; rw [if_neg (by omega)]
    rw [hs, if_pos h4]
    by_cases hl : l = []
    · subst hl
      by_cases hL : isL (wText k n b []) = true
      · have hk := look_sign h1 h2 hL
        have hps := leaf_parts (t := wText k n b []) (k := (lookR (wText k n b [])).1) (n := (lookR (wText k n b [])).2.1) (ps := (lookR (wText k n b [])).2.2) rfl (by omega)
        have hlen := (isL_whole.1 hL).1
        rw [if_neg, if_pos ⟨hk, hps⟩, if_pos ⟨rfl, hL⟩]
        rintro (⟨e, hb⟩ | hb)
        · subst e
          have := text_bytes n b []
          omega
        · exact hb (by simp [total])
      · rw [if_neg (c := [] = [] ∧ _) fun h => hL h.2]
        split
        · rfl
        · rw [if_neg]
          rintro ⟨hk, _⟩
          apply hL
          unfold isL
          rw [decide_eq_true_eq]; omega
    · rw [if_neg (c := l = [] ∧ _) fun h => hl h.1]
      split
      · rfl
      · rw [if_neg]
        rintro ⟨hk, hps⟩
        have := leaf_parts (t := wText k n b l) (k := (lookR (wText k n b l)).1) (n := (lookR (wText k n b l)).2.1) (ps := (lookR (wText k n b l)).2.2) rfl (by omega)
        rw [hps] at this
        exact hl this
  · rw [if_neg h4]
    obtain ⟨l', hl'⟩ : ∃ l', sortL k l = l' := ⟨_, rfl⟩
    have htot := sort_total k l
    rw [hl'] at htot ⊢
    by_cases hall : l'.all isL = true ∧ isL (wText k n b l') = true
    · rw [if_pos hall]
      have hlen := (isL_whole.1 hall.2).1
      have ht := text_total k n b l'
      rw [if_neg (by omega)]
      have hL := hall.2
      unfold isL at hL
      rw [decide_eq_true_eq] at hL
      have := look_parts (k' := (lookR (wText k n b l')).1) (n' := (lookR (wText k n b l')).2.1) (ps := (lookR (wText k n b l')).2.2) (show 5 ≤ k by omega) h2 hn (fun q hq => (isL_whole.1 (List.all_eq_true.1 hall.1 q hq)).2) rfl (by omega)
      rw [if_pos ⟨this.1, this.2.1⟩]
    · rw [if_neg hall]
      split
      · rfl
      · rw [if_neg]
        rintro ⟨hk, hps⟩
        apply hall
        refine ⟨?_, by unfold isL; rw [decide_eq_true_eq]; omega⟩
        rw [List.all_eq_true]
        have := parts_whole (t := wText k n b l') (k := (lookR (wText k n b l')).1) (n := (lookR (wText k n b l')).2.1) (ps := (lookR (wText k n b l')).2.2) rfl (by omega)
        rw [hps] at this
        exact this
/-- what is made has the kind and the parts of which it was made -/
theorem make_has {k n : Nat} {b : List UInt8} {l : List (List UInt8)} (h : makeK k n b l ≠ []) : (lookR (makeK k n b l)).1 = k ∧ (lookR (makeK k n b l)).2.2 = sortL k l := by
  unfold makeK at h ⊢
  split
  · rename_i hc; rw [if_pos hc] at h; exact absurd rfl h
  · rename_i hc
    rw [if_neg hc] at h
    split
    · rename_i h2; exact h2
    · rename_i h2; rw [if_neg h2] at h; exact absurd rfl h

theorem less_total : ∀ (a b : List UInt8), Op.bytesLess a b = false → (a == b) = false → Op.bytesLess b a = true := by
  intro a
  induction a with
  | nil =>
    intro b h1 h2
    cases b with
    | nil => simp at h2
    | cons y b => simp [Op.bytesLess] at h1
  | cons x a ih =>
    intro b h1 h2
    cases b with
    | nil => rfl
    | cons y b =>
      simp only [Op.bytesLess, Bool.or_eq_false_iff, Bool.and_eq_false_iff, decide_eq_false_iff_not] at h1
      simp only [Op.bytesLess, Bool.or_eq_true, Bool.and_eq_true, decide_eq_true_eq]
      by_cases hxy : x = y
      · subst hxy
        right
        refine ⟨by simp, ih b ?_ ?_⟩
        · rcases h1.2 with h | h
          · simp at h
          · exact h
        · simpa using h2
      · left
        have h3 := h1.1
        rw [UInt8.lt_iff_toNat_lt] at h3 ⊢
        have h4 : x.toNat ≠ y.toNat := fun e => hxy (UInt8.toNat_inj.1 e)
        omega
theorem less_asymm : ∀ (a b : List UInt8), Op.bytesLess a b = true → Op.bytesLess b a = false := by
  intro a
  induction a with
  | nil =>
    intro b h
    cases b with
    | nil => rfl
    | cons y b => rfl
  | cons x a ih =>
    intro b h
    cases b with
    | nil => simp [Op.bytesLess] at h
    | cons y b =>
      simp only [Op.bytesLess, Bool.or_eq_true, Bool.and_eq_true, decide_eq_true_eq] at h
      simp only [Op.bytesLess, Bool.or_eq_false_iff, Bool.and_eq_false_iff, decide_eq_false_iff_not]
      rcases h with h | h
      · rw [UInt8.lt_iff_toNat_lt] at h
        refine ⟨by rw [UInt8.lt_iff_toNat_lt]; omega, .inl ?_⟩
        simp; intro e; subst e; omega
      · have e : x = y := by simpa using h.1
        subst e
        exact ⟨by rw [UInt8.lt_iff_toNat_lt]; omega, .inr (ih b h.2)⟩
theorem leL_total {a b : List UInt8} (h : leL a b = false) : leL b a = true := by
  unfold leL at h ⊢
  rw [Bool.or_eq_false_iff] at h
  rw [less_total a b h.1 h.2]; rfl
theorem leL_antisymm {a b : List UInt8} (h : leL a b = true) (h2 : leL b a = true) : a = b := by
  unfold leL at h h2
  rw [Bool.or_eq_true] at h h2
  rcases h with h | h
  · rw [less_asymm a b h] at h2
    rcases h2 with h2 | h2
    · cases h2
    · exact (eq_of_beq h2).symm
  · exact eq_of_beq h
theorem sort2 (x y : List UInt8) : sortL 6 [x, y] = if leL x y = true then [x, y] else [y, x] := by
  unfold sortL
  cases h : leL x y <;> simp [h]
theorem sort_comm (x y : List UInt8) : sortL 6 [x, y] = sortL 6 [y, x] := by
  rw [sort2, sort2]
  cases h : leL x y with
  | true =>
    cases h2 : leL y x with
    | true => rw [leL_antisymm h h2]
    | false => rfl
  | false => rw [leL_total h]; rfl
theorem sort_inj {x y z : List UInt8} (h : sortL 6 [x, z] = sortL 6 [x, y]) : z = y := by
  rw [sort2, sort2] at h
  split at h <;> split at h <;> simp at h <;> simp_all
theorem text_len5 (y : List UInt8) : (wText 5 0 [] [y]).length = y.length + 3 := by
  unfold wText joined itemsOf
  simp [numb, Lib.join_one]
theorem text_len6 (x y : List UInt8) : (wText 6 0 [] [x, y]).length = x.length + y.length + 4 := by
  unfold wText joined itemsOf
  simp [numb, Lib.join_cons, Lib.joinTail]
  omega
theorem pub_yes {y : List UInt8} (hL : isL y = true) (hl : y.length ≤ 2000) : makeR 5 0 [] [y] = wText 5 0 [] [y] ∧ wText 5 0 [] [y] ≠ [] ∧ lookR (wText 5 0 [] [y]) = (5, 0, [y]) ∧ (wText 5 0 [] [y]).length ≤ 3000 := by
  have hlen : (wText 5 0 [] [y]).length ≤ 3000 := by
    rw [text_len5]; omega
  have hk := text_look (k := 5) (n := 0) (b := []) (l := [y]) (by omega) (by omega) (Nat.zero_le _) (fun q hq => by rw [List.mem_singleton.1 hq]; exact (isL_whole.1 hL).2) (by simp) (by rfl) (by rfl) (by omega)
  have hT : isL (wText 5 0 [] [y]) = true := by unfold isL; rw [hk]; rfl
  refine ⟨?_, by simp [wText], by rw [hk]; rfl, hlen⟩
  unfold makeR
  rw [if_pos (by omega), show (5 : Int).toNat = 5 from rfl, make_ref 5 0 [] [y] (by omega) (by omega) (Nat.zero_le _)]
  unfold refK
  rw [if_neg (by omega), show sortL 5 [y] = [y] from rfl, if_pos ⟨by simp [hL], hT⟩]
theorem pub_no {y : List UInt8} (hL : isL y = false) : makeR 5 0 [] [y] = [] := by
  unfold makeR
  rw [if_pos (by omega), show (5 : Int).toNat = 5 from rfl, make_ref 5 0 [] [y] (by omega) (by omega) (Nat.zero_le _)]
  unfold refK
  rw [if_neg (by omega), show sortL 5 [y] = [y] from rfl, if_neg (by simp [hL])]
theorem dh_no {x y : List UInt8} (hL : isL x = false ∨ isL y = false) : makeR 6 0 [] [x, y] = [] := by
  unfold makeR
  rw [if_pos (by omega), show (6 : Int).toNat = 6 from rfl, make_ref 6 0 [] [x, y] (by omega) (by omega) (Nat.zero_le _)]
  unfold refK
  rw [if_neg (by omega), if_neg]
  rintro ⟨h, _⟩
  rw [sort2] at h
  split at h <;> (simp at h; rcases hL with hL | hL <;> (rw [hL] at h; simp at h))
theorem dh_yes {x y : List UInt8} (hx : isL x = true) (hy : isL y = true) (hlx : x.length ≤ 2000) (hly : y.length ≤ 2000) : makeR 6 0 [] [x, y] = wText 6 0 [] (sortL 6 [x, y]) ∧ wText 6 0 [] (sortL 6 [x, y]) ≠ [] ∧ lookR (wText 6 0 [] (sortL 6 [x, y])) = (6, 0, sortL 6 [x, y]) ∧ (wText 6 0 [] (sortL 6 [x, y])).length ≤ 5000 := by
  have hlen : (wText 6 0 [] (sortL 6 [x, y])).length ≤ 5000 := by
    rw [sort2]
    split <;> rw [text_len6] <;> omega
  have hall : ∀ q ∈ sortL 6 [x, y], isL q = true := by
    intro q hq
    rw [sort2] at hq
    split at hq <;> simp at hq <;> rcases hq with rfl | rfl <;> assumption
  have hok : okParts 6 (sortL 6 [x, y]) = true := by
    rw [sort2]
    cases h : leL x y with
    | true => simp [okParts, right, h]
    | false => simp [okParts, right, leL_total h]
  have hk := text_look (k := 6) (n := 0) (b := []) (l := sortL 6 [x, y]) (by omega) (by omega) (Nat.zero_le _) (fun q hq => (isL_whole.1 (hall q hq)).2) (by rw [sort2]; split <;> simp) hok (by rfl) (by omega)
  have hT : isL (wText 6 0 [] (sortL 6 [x, y])) = true := by unfold isL; rw [hk]; rfl
  refine ⟨?_, by simp [wText], by rw [hk]; rfl, hlen⟩
  unfold makeR
  rw [if_pos (by omega), show (6 : Int).toNat = 6 from rfl, make_ref 6 0 [] [x, y] (by omega) (by omega) (Nat.zero_le _)]
  unfold refK
  rw [if_neg (by omega), if_pos ⟨List.all_eq_true.2 hall, hT⟩]
/-- a Seal that was made -/
theorem seal_look {n : Nat} {key u v : List UInt8} (hn : n ≤ top) (h : makeR 10 n [] [key, u, v] ≠ []) : lookR (makeR 10 n [] [key, u, v]) = (10, n, [key, u, v]) := by
  have hR : makeR 10 n [] [key, u, v] = makeK 10 n [] [key, u, v] := by unfold makeR; rw [if_pos (by omega)]; rfl
  rw [hR] at h ⊢
  have hf := make_ref 10 n [] [key, u, v] (by omega) (by omega) hn
  have hs : sortL 10 [key, u, v] = [key, u, v] := rfl
  rw [hf] at h ⊢
  unfold refK at h ⊢
  rw [if_neg (by omega), hs] at h ⊢
  split at h
  · rename_i hc
    rw [if_pos hc]
    have hL := hc.2
    unfold isL at hL
    rw [decide_eq_true_eq] at hL
    obtain ⟨x, hx⟩ : ∃ x, lookR (wText 10 n [] [key, u, v]) = x := ⟨_, rfl⟩
    obtain ⟨k', n', ps⟩ := x
    rw [hx] at hL ⊢
    have := look_parts (show 5 ≤ 10 by omega) (by omega) hn (fun q hq => (isL_whole.1 (List.all_eq_true.1 hc.1 q hq)).2) hx (by simp at hL; omega)
    obtain ⟨e1, e2, e3⟩ := this
    have e4 := e3 (by simp)
    rw [e1, e2, e4]; rfl
  · exact absurd rfl h
end Go.Proofs.Ytjbmcjppaadkgaa
