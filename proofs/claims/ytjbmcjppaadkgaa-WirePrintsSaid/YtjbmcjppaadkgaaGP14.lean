/- Texts of this seat, merged: Ref9. -/
import Derived.Test.YtjbmcjppaadkgaaGP13
import Derived.Deep.LoopGhost
import Derived.RegionTactic
import Derived.ChangeAlike
import Derived.StillTailTactics
import Derived.Deep.QuietTactic
import Derived.BigQuiet
namespace Go.Proofs.Ytjbmcjppaadkgaa
set_option linter.unusedVariables false
set_option linter.unusedSimpArgs false
set_option maxRecDepth 100000
open Go.RowKit


theorem join_snoc : ∀ (a : List (List UInt8)) (x : List UInt8), a ≠ [] → Lib.join (a ++ [x]) [44] = Lib.join a [44] ++ 44 :: x := by
  intro a
  induction a with
  | nil => intro x h; exact absurd rfl h
  | cons y a ih =>
    intro x _
    by_cases ha : a = []
    · subst ha
      rw [List.cons_append, List.nil_append, join_cons2 _ _ (by simp), Lib.join_one, Lib.join_one]
    · rw [List.cons_append, join_cons2 _ _ (by simp), ih x ha, join_cons2 _ _ ha]
      simp
theorem take_get {l : List (List UInt8)} {j : Nat} (h : j < l.length) : l.take (j + 1) = l.take j ++ [l.getD j []] := by
  rw [List.take_add_one, List.getElem?_eq_getElem h]
  simp [List.getD, List.getElem?_eq_getElem h]
theorem join_first {l : List (List UInt8)} {j : Nat} (h : j < l.length) (h0 : j = 0) (H : List UInt8) {S x : List UInt8} (hS : H ++ Lib.join (l.take j) [44] = S) (hx : l.getD j [] = x) : strB S ++ strB x = strB (H ++ Lib.join (l.take (j + 1)) [44]) := by
  rw [strB_app, ← hS, ← hx, take_get h]
  subst h0
  simp [Lib.join_nil, Lib.join_one]
theorem join_next {l : List (List UInt8)} {j : Nat} (h : j < l.length) (h0 : j ≠ 0) (H : List UInt8) {S x : List UInt8} (hS : H ++ Lib.join (l.take j) [44] = S) (hx : l.getD j [] = x) : (strB S ++ ⟨#[44]⟩) ++ strB x = strB (H ++ Lib.join (l.take (j + 1)) [44]) := by
  have hne : l.take j ≠ [] := by
    intro e
    have h2 : (l.take j).length = 0 := by rw [e]; rfl
    rw [List.length_take] at h2; omega
  rw [show (⟨#[44]⟩ : ByteArray) = strB [44] from rfl, strB_app, strB_app, ← hS, ← hx, take_get h, join_snoc _ _ hne]
  simp
theorem all_next {l : List (List UInt8)} {j : Nat} (h : j < l.length) {x : List UInt8} (hx : l.getD j [] = x) (ha : (l.take j).all isL = true) (hL : isL x = true) : (l.take (j + 1)).all isL = true := by
  rw [take_get h, hx, List.all_append, ha, Bool.true_and, List.all_cons, hL]; rfl
theorem all_bad {l : List (List UInt8)} {j : Nat} (h : j < l.length) {x : List UInt8} (hx : l.getD j [] = x) (hL : isL x = false) : l.all isL = false := by
  cases ha : l.all isL with
  | false => rfl
  | true =>
    have hm : x ∈ l := by
      rw [← hx]
      simp [List.getD, List.getElem?_eq_getElem h]
    have := List.all_eq_true.1 ha x hm
    rw [hL] at this; cases this
theorem total_app (a b : List (List UInt8)) : total (a ++ b) = total a + total b := by simp [total]; omega
theorem total_take (l : List (List UInt8)) (j : Nat) : total (l.take j) ≤ total l := by
  have h := total_app (l.take j) (l.drop j)
  rw [List.take_append_drop] at h
  omega
theorem get_mem {l : List (List UInt8)} {j : Nat} (h : j < l.length) {x : List UInt8} (hx : l.getD j [] = x) : x ∈ l := by
  rw [← hx]
  simp [List.getD, List.getElem?_eq_getElem h]
theorem total_all : ∀ {l : List (List UInt8)}, l.all isL = true → total l ≤ 65537 * l.length := by
  intro l
  induction l with
  | nil => intro _; simp [total]
  | cons x l ih =>
    intro h
    rw [List.all_cons, Bool.and_eq_true] at h
    have h1 := ih h.2
    have h2 := (isL_whole.1 h.1).1
    simp [total] at h1 ⊢
    omega
theorem loop_len (H : List UInt8) (hH : H.length ≤ 100) (l : List (List UInt8)) (hl : l.length ≤ 1000) (j : Nat) (ha : (l.take j).all isL = true) {S : List UInt8} (hS : H ++ Lib.join (l.take j) [44] = S) : S.length ≤ 100000000 := by
  have h1 := join_len (l.take j)
  have h2 := total_all ha
  have h3 : (l.take j).length ≤ l.length := by rw [List.length_take]; omega
  rw [← hS, List.length_append]; omega
theorem all_len (H : List UInt8) (hH : H.length ≤ 100) (l : List (List UInt8)) (hl : l.length ≤ 1000) (ha : l.all isL = true) {T : List UInt8} (hT : H ++ Lib.join l [44] ++ [41] = T) : T.length ≤ maxLen := by
  have h1 := join_len l
  have h2 := total_all ha
  rw [← hT, List.length_append, List.length_append]
  unfold maxLen
  simp; omega
theorem numb_not {k : Nat} (h2 : k ≠ 2) (h3 : k ≠ 3) (h8 : k ≠ 8) (h10 : k ≠ 10) : numb k = false := by
  have a : (k == 2) = false := by simpa using h2
  have b : (k == 3) = false := by simpa using h3
  have c : (k == 8) = false := by simpa using h8
  have d : (k == 10) = false := by simpa using h10
  unfold numb; rw [a, b, c, d]; rfl
theorem text_p {k n : Nat} {b : List UInt8} {l : List (List UInt8)} (hk : 5 ≤ k) (h8 : k ≠ 8) (h10 : k ≠ 10) : wText k n b l = [signOf k, 40] ++ Lib.join l [44] ++ [41] := by
  unfold wText joined itemsOf
  rw [if_pos hk, numb_not (by omega) (by omega) h8 h10, if_neg (by simp), if_neg (by omega)]
  simp
theorem text_e {k n : Nat} {b : List UInt8} (hk : k = 8 ∨ k = 10) : wText k n b [] = (signOf k :: 40 :: decs n) ++ Lib.join [] [44] ++ [41] := by
  unfold wText joined itemsOf
  have hnb : numb k = true := by rcases hk with rfl | rfl <;> rfl
  rw [if_pos (by omega), hnb, if_pos rfl]
  simp [Lib.join_one, Lib.join_nil]
theorem text_f {k n : Nat} {b : List UInt8} {l : List (List UInt8)} (hk : k = 8 ∨ k = 10) (hl : l ≠ []) : wText k n b l = (signOf k :: 40 :: (decs n ++ [44])) ++ Lib.join l [44] ++ [41] := by
  unfold wText joined itemsOf
  have hnb : numb k = true := by rcases hk with rfl | rfl <;> rfl
  rw [if_pos (by omega), hnb, if_pos rfl, List.singleton_append, join_cons2 _ _ hl]
  simp
theorem head_p (k : Nat) : strB [signOf k] ++ ⟨#[40]⟩ = strB [signOf k, 40] := by
  rw [show (⟨#[40]⟩ : ByteArray) = strB [40] from rfl, strB_app]; rfl
theorem head_e (k n : Nat) : (strB [signOf k] ++ ⟨#[40]⟩) ++ strB (decs n) = strB (signOf k :: 40 :: decs n) := by
  rw [head_p, strB_app]; rfl
theorem head_f (k n : Nat) : ((strB [signOf k] ++ ⟨#[40]⟩) ++ strB (decs n)) ++ ⟨#[44]⟩ = strB (signOf k :: 40 :: (decs n ++ [44])) := by
  rw [head_e, show (⟨#[44]⟩ : ByteArray) = strB [44] from rfl, strB_app]; rfl
theorem start_text {a : ByteArray} {H : List UInt8} {l : List (List UInt8)} (h : a = strB H) : Value.string a = .string (strB (H ++ Lib.join (l.take 0) [44])) := by
  rw [h]; simp [Lib.join_nil]
theorem tail_text {H S T : List UInt8} {l : List (List UInt8)} {j : Nat} (hj : ¬ j < l.length) (hS : H ++ Lib.join (l.take j) [44] = S) (hT : H ++ Lib.join l [44] ++ [41] = T) : strB S ++ ⟨#[41]⟩ = strB T := by
  rw [show (⟨#[41]⟩ : ByteArray) = strB [41] from rfl, strB_app, ← hS, ← hT, List.take_of_length_le (by omega)]
theorem size44 : (⟨#[44]⟩ : ByteArray).size = 1 := rfl

set_option maxHeartbeats 4000000 in
theorem rmake_p (k n : Nat) (hk : k = 5 ∨ k = 7 ∨ k = 9 ∨ k = 11) (hn : n ≤ top) (vb vl : Value) (b : List UInt8) (l : List (List UInt8)) (w : World) (hl : Strs w vl l) (hlen : l.length ≤ 1000) (hsz : ∀ x ∈ l, x.length ≤ maxLen) :
    Calls Try.prog 40 #[.int .i64 k, .int .u64 n, vb, vl] w fun e w' => e = .returned (.string (strB (refK k n b l))) ∧ Below w.heap.size w w' := by
  have hsort : sortL k l = l := by unfold sortL; rw [if_neg (by omega)]
  obtain ⟨H, hH⟩ : ∃ H, [signOf k, 40] = H := ⟨_, rfl⟩
  obtain ⟨T, hT⟩ : ∃ T, wText k n b l = T := ⟨_, rfl⟩
  have HT : Hid (H ++ Lib.join l [44] ++ [41] = T) := Lib.hid (by rw [← hH, ← hT]; exact (text_p (by omega) (by omega) (by omega)).symm)
  have HR : Hid (refK k n b l = if l.all isL = true ∧ isL T = true then T else []) := Lib.hid (by unfold refK; rw [if_neg (by omega), hsort, hT])
  have hHl : H.length ≤ 100 := by rw [← hH]; have := decs_top n hn; simp; try omega
  have hlen2 : l.length ≤ 1000 := by rw [← hsort, sort_length]; exact hlen
  have HLEN2 := Lib.hid hlen2
  have HSZ : Hid (∀ x ∈ l, x.length ≤ maxLen) := Lib.hid (hsz)
  have HHL := Lib.hid hHl
  have HH := Lib.hid (head_p k)
  rw [hH] at HH
  have HN := Lib.hid hn
  have hsl := sign_slice (k := k) (by omega) (by omega)
  have hs1 := strB_size [signOf k]
  simp only [List.length_singleton] at hs1
  have hs4 := strB_size1
  have hs5 := strB_size2
  have hs6 := size44
  have hdt := decs_top n hn
  have hs2 := strB_size (decs n)
  have hk5 : 5 ≤ k := by omega
  have hk11 : k ≤ 11 := by omega
  have e2 : ((k : Int) == 2) = false := b_ne (by omega)
  have e3 : ((k : Int) == 3) = false := b_ne (by omega)
  have e4 : ((k : Int) == 4) = false := b_ne (by omega)
  have e6 : ((k : Int) == 6) = false := b_ne (by omega)
  have e8 : ((k : Int) == 8) = false := b_ne (by omega)
  have e10 : ((k : Int) == 10) = false := b_ne (by omega)
  obtain ⟨al, cl, rfl, hnl, hl⟩ := hl
  have HL : Hid (Strs w (.slice al l.length cl) l) := Lib.hid ⟨al, cl, rfl, hnl, hl⟩
  have hll : (l.length : Int) ≤ 1000 := by omega
  have hlln : l.length ≤ 1000 := hlen
  clear hl hnl
  clear hT hH hHl hlen2 hsort hn hlen hsz hk hdt
  go_enter Try.func40, Try.ntmps40
  go_wp2_with fail
  go_quiet (fail)
  go_wp2_with fail
  have HB0 : Hid (Below w.heap.size w (w.drewN nq)) := Lib.hid (below_drewN (Below.refl _ _) nq)
  have HS0 : Hid (Strs (w.drewN nq) (.slice al l.length cl) l) := Lib.hid (strs_drew HL.out nq)
  generalize (w.drewN nq) = W0 at *
  go_loopw [9, 10] (fun s i wr => ∃ j : Nat, i = .int .i64 j ∧ j ≤ l.length ∧ s = .string (strB (H ++ Lib.join (l.take j) [44])) ∧ Below W0.heap.size W0 wr ∧ (l.take j).all isL = true) (fun _ i _ => l.length - (intOf i).toNat)
  case atStart => exact ⟨0, rfl, Nat.zero_le _, start_text HH.out, Below.refl _ _, rfl⟩
  case round =>
    obtain ⟨j, rfl, hj, rfl, hbr, hall⟩ := hrel
    have HS1 := Lib.hid (HS0.out.below hbr)
    have HBR := Lib.hid hbr
    have HALL := Lib.hid hall
    clear hbr hall
    obtain ⟨S, hS⟩ : ∃ S, H ++ Lib.join (l.take j) [44] = S := ⟨_, rfl⟩
    have hSl := loop_len H HHL.out l HLEN2.out j HALL.out hS
    have hSs := strB_size S
    have HSE := Lib.hid hS
    rw [hS]
    clear hS
    by_cases hlt : j < l.length
    · obtain ⟨bb, off, rfl, hc⟩ := strs_cell2 HS1.out (by omega)
      obtain ⟨x, hx⟩ : ∃ x, l.getD j [] = x := ⟨_, rfl⟩
      have c1 := hc j hlt
      rw [hx] at c1
      have hxl := HSZ.out x (get_mem hlt hx)
      have hxs := strB_size x
      have HX := Lib.hid hx
      have hk0 : (0 : Int) ≤ j := by omega
      have hki : (j : Int) < l.length := by omega
      clear hx hc
      cases hL : isL x with
      | true =>
        have hxb := (isL_whole.1 hL).1
        have HIS := Lib.hid (ris_v x hxl true hL)
        have HA := Lib.hid (all_next hlt HX.out HALL.out hL)
        clear hL
        by_cases hj0 : j = 0
        · have HNX := Lib.hid (join_first hlt hj0 H HSE.out HX.out)
          have hj1 : ¬ (0 : Int) < j := by omega
          have hj2 : ¬ 0 < j := by omega
          clear hj0
          go_wp2_with (first | (go_at_call 22; ((with_reducible refine (HIS.out _ rfl _).mono ?_); rintro e w3 ⟨rfl, hb3⟩; have c3 : w3.cell? ⟨bb, off + j, none⟩ = some (.string (strB x)) := (hb3.cell (p := ⟨bb, off + j, none⟩) (World.block_lt_of_cell? _ _ c1)).trans c1; have HB3 := Lib.hid hb3; clear hb3)) | fail)
          go_roundw
          case rel => exact ⟨j + 1, by go_num, hlt, by rw [HNX.out], Below.next HBR.out HB3.out, HA.out⟩
          case measure => simp [intOf]; omega
        · have HNX := Lib.hid (join_next hlt hj0 H HSE.out HX.out)
          have hj1 : (0 : Int) < j := by omega
          have hj2 : 0 < j := by omega
          clear hj0
          go_wp2_with (first | (go_at_call 22; ((with_reducible refine (HIS.out _ rfl _).mono ?_); rintro e w3 ⟨rfl, hb3⟩; have c3 : w3.cell? ⟨bb, off + j, none⟩ = some (.string (strB x)) := (hb3.cell (p := ⟨bb, off + j, none⟩) (World.block_lt_of_cell? _ _ c1)).trans c1; have HB3 := Lib.hid hb3; clear hb3)) | fail)
          go_roundw
          case rel => exact ⟨j + 1, by go_num, hlt, by rw [HNX.out], Below.next HBR.out HB3.out, HA.out⟩
          case measure => simp [intOf]; omega
      | false =>
        have HIS := Lib.hid (ris_v x hxl false hL)
        have HO : Hid (refK k n b l = []) := Lib.hid (by rw [HR.out, if_neg (by rw [all_bad hlt HX.out hL]; simp)])
        clear hL
        go_wp2_with (first | (go_at_call 22; ((with_reducible refine (HIS.out _ rfl _).mono ?_); rintro e w3 ⟨rfl, hb3⟩; have c3 : w3.cell? ⟨bb, off + j, none⟩ = some (.string (strB x)) := (hb3.cell (p := ⟨bb, off + j, none⟩) (World.block_lt_of_cell? _ _ c1)).trans c1; have HB3 := Lib.hid hb3; clear hb3)) | fail)
        go_ret
        exact ⟨ret_str (by rw [HO.out]; rfl), Below.next (Below.next HB0.out HBR.out) HB3.out⟩
    · have HTX := Lib.hid (tail_text hlt HSE.out HT.out)
      have ha := HALL.out
      rw [List.take_of_length_le (by omega)] at ha
      have hTl := all_len H HHL.out l HLEN2.out ha HT.out
      cases hL : isL T with
      | true =>
        have HIS := Lib.hid (ris_v T hTl true hL)
        have HO : Hid (refK k n b l = T) := Lib.hid (by rw [HR.out, if_pos ⟨ha, hL⟩])
        clear hL ha
        go_wp2_with (first | (go_at_call 22; ((with_reducible refine (HIS.out _ HTX.out _).mono ?_); rintro e w3 ⟨rfl, hb3⟩; have HB3 := Lib.hid hb3; clear hb3)) | fail)
        go_ret
        exact ⟨ret_str (by rw [HO.out]; exact HTX.out), Below.next (Below.next HB0.out HBR.out) HB3.out⟩
      | false =>
        have HIS := Lib.hid (ris_v T hTl false hL)
        have HO : Hid (refK k n b l = []) := Lib.hid (by rw [HR.out, if_neg (by rw [hL]; simp)])
        clear hL ha
        go_wp2_with (first | (go_at_call 22; ((with_reducible refine (HIS.out _ HTX.out _).mono ?_); rintro e w3 ⟨rfl, hb3⟩; have HB3 := Lib.hid hb3; clear hb3)) | fail)
        go_ret
        exact ⟨ret_str (by rw [HO.out]; rfl), Below.next (Below.next HB0.out HBR.out) HB3.out⟩

set_option maxHeartbeats 4000000 in
theorem rmake_e (k n : Nat) (hk : k = 8 ∨ k = 10) (hn : n ≤ top) (vb vl : Value) (b : List UInt8) (l : List (List UInt8)) (w : World) (hl : Strs w vl l) (hlen : l.length ≤ 1000) (hsz : ∀ x ∈ l, x.length ≤ maxLen) (hl0 : l = []) :
    Calls Try.prog 40 #[.int .i64 k, .int .u64 n, vb, vl] w fun e w' => e = .returned (.string (strB (refK k n b l))) ∧ Below w.heap.size w w' := by
  subst hl0
  have hsort : sortL k ([] : List (List UInt8)) = ([] : List (List UInt8)) := by unfold sortL; rw [if_neg (by omega)]
  obtain ⟨H, hH⟩ : ∃ H, (signOf k :: 40 :: decs n) = H := ⟨_, rfl⟩
  obtain ⟨T, hT⟩ : ∃ T, wText k n b ([] : List (List UInt8)) = T := ⟨_, rfl⟩
  have HT : Hid (H ++ Lib.join ([] : List (List UInt8)) [44] ++ [41] = T) := Lib.hid (by rw [← hH, ← hT]; exact (text_e hk).symm)
  have HR : Hid (refK k n b ([] : List (List UInt8)) = if ([] : List (List UInt8)).all isL = true ∧ isL T = true then T else []) := Lib.hid (by unfold refK; rw [if_neg (by omega), hsort, hT])
  have hHl : H.length ≤ 100 := by rw [← hH]; have := decs_top n hn; simp; try omega
  have hlen2 : ([] : List (List UInt8)).length ≤ 1000 := by rw [← hsort, sort_length]; exact hlen
  have HLEN2 := Lib.hid hlen2
  have HSZ : Hid (∀ x ∈ ([] : List (List UInt8)), x.length ≤ maxLen) := Lib.hid (hsz)
  have HHL := Lib.hid hHl
  have HH := Lib.hid (head_e k n)
  rw [hH] at HH
  have HN := Lib.hid hn
  have hsl := sign_slice (k := k) (by omega) (by omega)
  have hs1 := strB_size [signOf k]
  simp only [List.length_singleton] at hs1
  have hs4 := strB_size1
  have hs5 := strB_size2
  have hs6 := size44
  have hdt := decs_top n hn
  have hs2 := strB_size (decs n)
  have hk5 : 5 ≤ k := by omega
  have hk11 : k ≤ 11 := by omega
  have e2 : ((k : Int) == 2) = false := b_ne (by omega)
  have e3 : ((k : Int) == 3) = false := b_ne (by omega)
  have e4 : ((k : Int) == 4) = false := b_ne (by omega)
  have e6 : ((k : Int) == 6) = false := b_ne (by omega)
  have e810 : (((k : Int) == 8) = true ∧ ((k : Int) == 10) = false) ∨ (((k : Int) == 8) = false ∧ ((k : Int) == 10) = true) := by rcases hk with h | h <;> simp [h]
  obtain ⟨al, cl, rfl, hnl, hl⟩ := hl
  have HL : Hid (Strs w (.slice al 0 cl) []) := Lib.hid ⟨al, cl, rfl, hnl, hl⟩
  clear hl hnl
  clear hT hH hHl hlen2 hsort hn hlen hsz hk
  rcases e810 with ⟨e8, e10⟩ | ⟨e8, e10⟩
  all_goals
    go_enter Try.func40, Try.ntmps40
    go_wp2_with fail
    go_quiet (fail)
    go_wp2_with (first | (go_at_call 59; ((with_reducible refine (rprint_b n HN.out _).mono ?_); rintro e w1 ⟨rfl, hb1⟩; have HB1 := Lib.hid hb1; clear hb1)) | fail)
    have HB0 : Hid (Below w.heap.size w w1) := Lib.hid (Below.next (below_drewN (Below.refl _ _) nq) HB1.out)
    have HS0 : Hid (Strs w1 (.slice al 0 cl) ([] : List (List UInt8))) := Lib.hid ((strs_drew HL.out nq).below HB1.out)
    generalize w1 = W0 at *
    go_loopw [9, 10] (fun s i wr => ∃ j : Nat, i = .int .i64 j ∧ j ≤ ([] : List (List UInt8)).length ∧ s = .string (strB (H ++ Lib.join (([] : List (List UInt8)).take j) [44])) ∧ Below W0.heap.size W0 wr ∧ (([] : List (List UInt8)).take j).all isL = true) (fun _ i _ => ([] : List (List UInt8)).length - (intOf i).toNat)
    case atStart => exact ⟨0, rfl, Nat.zero_le _, start_text HH.out, Below.refl _ _, rfl⟩
    case round =>
      obtain ⟨j, rfl, hj, rfl, hbr, hall⟩ := hrel
      have HS1 := Lib.hid (HS0.out.below hbr)
      have HBR := Lib.hid hbr
      have HALL := Lib.hid hall
      clear hbr hall
      obtain ⟨S, hS⟩ : ∃ S, H ++ Lib.join (([] : List (List UInt8)).take j) [44] = S := ⟨_, rfl⟩
      have hSl := loop_len H HHL.out ([] : List (List UInt8)) HLEN2.out j HALL.out hS
      have hSs := strB_size S
      have HSE := Lib.hid hS
      rw [hS]
      clear hS
      by_cases hlt : j < ([] : List (List UInt8)).length
      · exact absurd hlt (by simp)
      · have HTX := Lib.hid (tail_text hlt HSE.out HT.out)
        have ha := HALL.out
        rw [List.take_of_length_le (by omega)] at ha
        have hTl := all_len H HHL.out ([] : List (List UInt8)) HLEN2.out ha HT.out
        cases hL : isL T with
        | true =>
          have HIS := Lib.hid (ris_v T hTl true hL)
          have HO : Hid (refK k n b ([] : List (List UInt8)) = T) := Lib.hid (by rw [HR.out, if_pos ⟨ha, hL⟩])
          clear hL ha
          go_wp2_with (first | (go_at_call 22; ((with_reducible refine (HIS.out _ HTX.out _).mono ?_); rintro e w3 ⟨rfl, hb3⟩; have HB3 := Lib.hid hb3; clear hb3)) | fail)
          go_ret
          exact ⟨ret_str (by rw [HO.out]; exact HTX.out), Below.next (Below.next HB0.out HBR.out) HB3.out⟩
        | false =>
          have HIS := Lib.hid (ris_v T hTl false hL)
          have HO : Hid (refK k n b ([] : List (List UInt8)) = []) := Lib.hid (by rw [HR.out, if_neg (by rw [hL]; simp)])
          clear hL ha
          go_wp2_with (first | (go_at_call 22; ((with_reducible refine (HIS.out _ HTX.out _).mono ?_); rintro e w3 ⟨rfl, hb3⟩; have HB3 := Lib.hid hb3; clear hb3)) | fail)
          go_ret
          exact ⟨ret_str (by rw [HO.out]; rfl), Below.next (Below.next HB0.out HBR.out) HB3.out⟩

set_option maxHeartbeats 4000000 in
theorem rmake_f (k n : Nat) (hk : k = 8 ∨ k = 10) (hn : n ≤ top) (vb vl : Value) (b : List UInt8) (l : List (List UInt8)) (w : World) (hl : Strs w vl l) (hlen : l.length ≤ 1000) (hsz : ∀ x ∈ l, x.length ≤ maxLen) (hl0 : l ≠ []) :
    Calls Try.prog 40 #[.int .i64 k, .int .u64 n, vb, vl] w fun e w' => e = .returned (.string (strB (refK k n b l))) ∧ Below w.heap.size w w' := by
  have hsort : sortL k l = l := by unfold sortL; rw [if_neg (by omega)]
  obtain ⟨H, hH⟩ : ∃ H, (signOf k :: 40 :: (decs n ++ [44])) = H := ⟨_, rfl⟩
  obtain ⟨T, hT⟩ : ∃ T, wText k n b l = T := ⟨_, rfl⟩
  have HT : Hid (H ++ Lib.join l [44] ++ [41] = T) := Lib.hid (by rw [← hH, ← hT]; exact (text_f hk hl0).symm)
  have HR : Hid (refK k n b l = if l.all isL = true ∧ isL T = true then T else []) := Lib.hid (by unfold refK; rw [if_neg (by omega), hsort, hT])
  have hHl : H.length ≤ 100 := by rw [← hH]; have := decs_top n hn; simp; try omega
  have hlen2 : l.length ≤ 1000 := by rw [← hsort, sort_length]; exact hlen
  have HLEN2 := Lib.hid hlen2
  have HSZ : Hid (∀ x ∈ l, x.length ≤ maxLen) := Lib.hid (hsz)
  have HHL := Lib.hid hHl
  have HH := Lib.hid (head_f k n)
  rw [hH] at HH
  have HN := Lib.hid hn
  have hsl := sign_slice (k := k) (by omega) (by omega)
  have hs1 := strB_size [signOf k]
  simp only [List.length_singleton] at hs1
  have hs4 := strB_size1
  have hs5 := strB_size2
  have hs6 := size44
  have hdt := decs_top n hn
  have hs2 := strB_size (decs n)
  have hk5 : 5 ≤ k := by omega
  have hk11 : k ≤ 11 := by omega
  have e2 : ((k : Int) == 2) = false := b_ne (by omega)
  have e3 : ((k : Int) == 3) = false := b_ne (by omega)
  have e4 : ((k : Int) == 4) = false := b_ne (by omega)
  have e6 : ((k : Int) == 6) = false := b_ne (by omega)
  have e810 : (((k : Int) == 8) = true ∧ ((k : Int) == 10) = false) ∨ (((k : Int) == 8) = false ∧ ((k : Int) == 10) = true) := by rcases hk with h | h <;> simp [h]
  obtain ⟨al, cl, rfl, hnl, hl⟩ := hl
  have HL : Hid (Strs w (.slice al l.length cl) l) := Lib.hid ⟨al, cl, rfl, hnl, hl⟩
  have hll : (l.length : Int) ≤ 1000 := by omega
  have hlln : l.length ≤ 1000 := hlen
  clear hl hnl
  have hlp : (0 : Int) < l.length := by have := List.length_pos_iff.2 hl0; omega
  have hlpn : 0 < l.length := List.length_pos_iff.2 hl0
  clear hl0
  clear hT hH hHl hlen2 hsort hn hlen hsz hk
  rcases e810 with ⟨e8, e10⟩ | ⟨e8, e10⟩
  all_goals
    go_enter Try.func40, Try.ntmps40
    go_wp2_with fail
    go_quiet (fail)
    go_wp2_with (first | (go_at_call 59; ((with_reducible refine (rprint_b n HN.out _).mono ?_); rintro e w1 ⟨rfl, hb1⟩; have HB1 := Lib.hid hb1; clear hb1)) | fail)
    have HB0 : Hid (Below w.heap.size w w1) := Lib.hid (Below.next (below_drewN (Below.refl _ _) nq) HB1.out)
    have HS0 : Hid (Strs w1 (.slice al l.length cl) l) := Lib.hid ((strs_drew HL.out nq).below HB1.out)
    generalize w1 = W0 at *
    go_loopw [9, 10] (fun s i wr => ∃ j : Nat, i = .int .i64 j ∧ j ≤ l.length ∧ s = .string (strB (H ++ Lib.join (l.take j) [44])) ∧ Below W0.heap.size W0 wr ∧ (l.take j).all isL = true) (fun _ i _ => l.length - (intOf i).toNat)
    case atStart => exact ⟨0, rfl, Nat.zero_le _, start_text HH.out, Below.refl _ _, rfl⟩
    case round =>
      obtain ⟨j, rfl, hj, rfl, hbr, hall⟩ := hrel
      have HS1 := Lib.hid (HS0.out.below hbr)
      have HBR := Lib.hid hbr
      have HALL := Lib.hid hall
      clear hbr hall
      obtain ⟨S, hS⟩ : ∃ S, H ++ Lib.join (l.take j) [44] = S := ⟨_, rfl⟩
      have hSl := loop_len H HHL.out l HLEN2.out j HALL.out hS
      have hSs := strB_size S
      have HSE := Lib.hid hS
      rw [hS]
      clear hS
      by_cases hlt : j < l.length
      · obtain ⟨bb, off, rfl, hc⟩ := strs_cell2 HS1.out (by omega)
        obtain ⟨x, hx⟩ : ∃ x, l.getD j [] = x := ⟨_, rfl⟩
        have c1 := hc j hlt
        rw [hx] at c1
        have hxl := HSZ.out x (get_mem hlt hx)
        have hxs := strB_size x
        have HX := Lib.hid hx
        have hk0 : (0 : Int) ≤ j := by omega
        have hki : (j : Int) < l.length := by omega
        clear hx hc
        cases hL : isL x with
        | true =>
          have hxb := (isL_whole.1 hL).1
          have HIS := Lib.hid (ris_v x hxl true hL)
          have HA := Lib.hid (all_next hlt HX.out HALL.out hL)
          clear hL
          by_cases hj0 : j = 0
          · have HNX := Lib.hid (join_first hlt hj0 H HSE.out HX.out)
            have hj1 : ¬ (0 : Int) < j := by omega
            have hj2 : ¬ 0 < j := by omega
            clear hj0
            go_wp2_with (first | (go_at_call 22; ((with_reducible refine (HIS.out _ rfl _).mono ?_); rintro e w3 ⟨rfl, hb3⟩; have c3 : w3.cell? ⟨bb, off + j, none⟩ = some (.string (strB x)) := (hb3.cell (p := ⟨bb, off + j, none⟩) (World.block_lt_of_cell? _ _ c1)).trans c1; have HB3 := Lib.hid hb3; clear hb3)) | fail)
            go_roundw
            case rel => exact ⟨j + 1, by go_num, hlt, by rw [HNX.out], Below.next HBR.out HB3.out, HA.out⟩
            case measure => simp [intOf]; omega
          · have HNX := Lib.hid (join_next hlt hj0 H HSE.out HX.out)
            have hj1 : (0 : Int) < j := by omega
            have hj2 : 0 < j := by omega
            clear hj0
            go_wp2_with (first | (go_at_call 22; ((with_reducible refine (HIS.out _ rfl _).mono ?_); rintro e w3 ⟨rfl, hb3⟩; have c3 : w3.cell? ⟨bb, off + j, none⟩ = some (.string (strB x)) := (hb3.cell (p := ⟨bb, off + j, none⟩) (World.block_lt_of_cell? _ _ c1)).trans c1; have HB3 := Lib.hid hb3; clear hb3)) | fail)
            go_roundw
            case rel => exact ⟨j + 1, by go_num, hlt, by rw [HNX.out], Below.next HBR.out HB3.out, HA.out⟩
            case measure => simp [intOf]; omega
        | false =>
          have HIS := Lib.hid (ris_v x hxl false hL)
          have HO : Hid (refK k n b l = []) := Lib.hid (by rw [HR.out, if_neg (by rw [all_bad hlt HX.out hL]; simp)])
          clear hL
          go_wp2_with (first | (go_at_call 22; ((with_reducible refine (HIS.out _ rfl _).mono ?_); rintro e w3 ⟨rfl, hb3⟩; have c3 : w3.cell? ⟨bb, off + j, none⟩ = some (.string (strB x)) := (hb3.cell (p := ⟨bb, off + j, none⟩) (World.block_lt_of_cell? _ _ c1)).trans c1; have HB3 := Lib.hid hb3; clear hb3)) | fail)
          go_ret
          exact ⟨ret_str (by rw [HO.out]; rfl), Below.next (Below.next HB0.out HBR.out) HB3.out⟩
      · have HTX := Lib.hid (tail_text hlt HSE.out HT.out)
        have ha := HALL.out
        rw [List.take_of_length_le (by omega)] at ha
        have hTl := all_len H HHL.out l HLEN2.out ha HT.out
        cases hL : isL T with
        | true =>
          have HIS := Lib.hid (ris_v T hTl true hL)
          have HO : Hid (refK k n b l = T) := Lib.hid (by rw [HR.out, if_pos ⟨ha, hL⟩])
          clear hL ha
          go_wp2_with (first | (go_at_call 22; ((with_reducible refine (HIS.out _ HTX.out _).mono ?_); rintro e w3 ⟨rfl, hb3⟩; have HB3 := Lib.hid hb3; clear hb3)) | fail)
          go_ret
          exact ⟨ret_str (by rw [HO.out]; exact HTX.out), Below.next (Below.next HB0.out HBR.out) HB3.out⟩
        | false =>
          have HIS := Lib.hid (ris_v T hTl false hL)
          have HO : Hid (refK k n b l = []) := Lib.hid (by rw [HR.out, if_neg (by rw [hL]; simp)])
          clear hL ha
          go_wp2_with (first | (go_at_call 22; ((with_reducible refine (HIS.out _ HTX.out _).mono ?_); rintro e w3 ⟨rfl, hb3⟩; have HB3 := Lib.hid hb3; clear hb3)) | fail)
          go_ret
          exact ⟨ret_str (by rw [HO.out]; rfl), Below.next (Below.next HB0.out HBR.out) HB3.out⟩

set_option maxHeartbeats 4000000 in
theorem rmake_o (k n : Nat) (hk : k = 6) (hn : n ≤ top) (vb vl : Value) (b : List UInt8) (l : List (List UInt8)) (w : World) (hl : Strs w vl l) (hlen : l.length ≤ 1000) (hsz : ∀ x ∈ l, x.length ≤ maxLen) (hl2 : l.length ≠ 2) :
    Calls Try.prog 40 #[.int .i64 k, .int .u64 n, vb, vl] w fun e w' => e = .returned (.string (strB (refK k n b l))) ∧ Below w.heap.size w w' := by
  have hsort : sortL k l = l := by unfold sortL; rw [if_neg (by omega)]
  obtain ⟨H, hH⟩ : ∃ H, [signOf k, 40] = H := ⟨_, rfl⟩
  obtain ⟨T, hT⟩ : ∃ T, wText k n b l = T := ⟨_, rfl⟩
  have HT : Hid (H ++ Lib.join l [44] ++ [41] = T) := Lib.hid (by rw [← hH, ← hT]; exact (text_p (by omega) (by omega) (by omega)).symm)
  have HR : Hid (refK k n b l = if l.all isL = true ∧ isL T = true then T else []) := Lib.hid (by unfold refK; rw [if_neg (by omega), hsort, hT])
  have hHl : H.length ≤ 100 := by rw [← hH]; have := decs_top n hn; simp; try omega
  have hlen2 : l.length ≤ 1000 := by rw [← hsort, sort_length]; exact hlen
  have HLEN2 := Lib.hid hlen2
  have HSZ : Hid (∀ x ∈ l, x.length ≤ maxLen) := Lib.hid (hsz)
  have HHL := Lib.hid hHl
  have HH := Lib.hid (head_p k)
  rw [hH] at HH
  have HN := Lib.hid hn
  have hsl := sign_slice (k := k) (by omega) (by omega)
  have hs1 := strB_size [signOf k]
  simp only [List.length_singleton] at hs1
  have hs4 := strB_size1
  have hs5 := strB_size2
  have hs6 := size44
  have hdt := decs_top n hn
  have hs2 := strB_size (decs n)
  have hk5 : 5 ≤ k := by omega
  have hk11 : k ≤ 11 := by omega
  have e2 : ((k : Int) == 2) = false := b_ne (by omega)
  have e3 : ((k : Int) == 3) = false := b_ne (by omega)
  have e4 : ((k : Int) == 4) = false := b_ne (by omega)
  have e6 : ((k : Int) == 6) = true := b_eq (by omega)
  have e8 : ((k : Int) == 8) = false := b_ne (by omega)
  have e10 : ((k : Int) == 10) = false := b_ne (by omega)
  obtain ⟨al, cl, rfl, hnl, hl⟩ := hl
  have HL : Hid (Strs w (.slice al l.length cl) l) := Lib.hid ⟨al, cl, rfl, hnl, hl⟩
  have hll : (l.length : Int) ≤ 1000 := by omega
  have hlln : l.length ≤ 1000 := hlen
  clear hl hnl
  have el2 : ((l.length : Int) == 2) = false := b_ne (by omega)
  clear hl2
  clear hT hH hHl hlen2 hsort hn hlen hsz hk hdt
  go_enter Try.func40, Try.ntmps40
  go_wp2_with fail
  go_quiet (fail)
  go_wp2_with fail
  have HB0 : Hid (Below w.heap.size w (w.drewN nq)) := Lib.hid (below_drewN (Below.refl _ _) nq)
  have HS0 : Hid (Strs (w.drewN nq) (.slice al l.length cl) l) := Lib.hid (strs_drew HL.out nq)
  generalize (w.drewN nq) = W0 at *
  go_loopw [9, 10] (fun s i wr => ∃ j : Nat, i = .int .i64 j ∧ j ≤ l.length ∧ s = .string (strB (H ++ Lib.join (l.take j) [44])) ∧ Below W0.heap.size W0 wr ∧ (l.take j).all isL = true) (fun _ i _ => l.length - (intOf i).toNat)
  case atStart => exact ⟨0, rfl, Nat.zero_le _, start_text HH.out, Below.refl _ _, rfl⟩
  case round =>
    obtain ⟨j, rfl, hj, rfl, hbr, hall⟩ := hrel
    have HS1 := Lib.hid (HS0.out.below hbr)
    have HBR := Lib.hid hbr
    have HALL := Lib.hid hall
    clear hbr hall
    obtain ⟨S, hS⟩ : ∃ S, H ++ Lib.join (l.take j) [44] = S := ⟨_, rfl⟩
    have hSl := loop_len H HHL.out l HLEN2.out j HALL.out hS
    have hSs := strB_size S
    have HSE := Lib.hid hS
    rw [hS]
    clear hS
    by_cases hlt : j < l.length
    · obtain ⟨bb, off, rfl, hc⟩ := strs_cell2 HS1.out (by omega)
      obtain ⟨x, hx⟩ : ∃ x, l.getD j [] = x := ⟨_, rfl⟩
      have c1 := hc j hlt
      rw [hx] at c1
      have hxl := HSZ.out x (get_mem hlt hx)
      have hxs := strB_size x
      have HX := Lib.hid hx
      have hk0 : (0 : Int) ≤ j := by omega
      have hki : (j : Int) < l.length := by omega
      clear hx hc
      cases hL : isL x with
      | true =>
        have hxb := (isL_whole.1 hL).1
        have HIS := Lib.hid (ris_v x hxl true hL)
        have HA := Lib.hid (all_next hlt HX.out HALL.out hL)
        clear hL
        by_cases hj0 : j = 0
        · have HNX := Lib.hid (join_first hlt hj0 H HSE.out HX.out)
          have hj1 : ¬ (0 : Int) < j := by omega
          have hj2 : ¬ 0 < j := by omega
          clear hj0
          go_wp2_with (first | (go_at_call 22; ((with_reducible refine (HIS.out _ rfl _).mono ?_); rintro e w3 ⟨rfl, hb3⟩; have c3 : w3.cell? ⟨bb, off + j, none⟩ = some (.string (strB x)) := (hb3.cell (p := ⟨bb, off + j, none⟩) (World.block_lt_of_cell? _ _ c1)).trans c1; have HB3 := Lib.hid hb3; clear hb3)) | fail)
          go_roundw
          case rel => exact ⟨j + 1, by go_num, hlt, by rw [HNX.out], Below.next HBR.out HB3.out, HA.out⟩
          case measure => simp [intOf]; omega
        · have HNX := Lib.hid (join_next hlt hj0 H HSE.out HX.out)
          have hj1 : (0 : Int) < j := by omega
          have hj2 : 0 < j := by omega
          clear hj0
          go_wp2_with (first | (go_at_call 22; ((with_reducible refine (HIS.out _ rfl _).mono ?_); rintro e w3 ⟨rfl, hb3⟩; have c3 : w3.cell? ⟨bb, off + j, none⟩ = some (.string (strB x)) := (hb3.cell (p := ⟨bb, off + j, none⟩) (World.block_lt_of_cell? _ _ c1)).trans c1; have HB3 := Lib.hid hb3; clear hb3)) | fail)
          go_roundw
          case rel => exact ⟨j + 1, by go_num, hlt, by rw [HNX.out], Below.next HBR.out HB3.out, HA.out⟩
          case measure => simp [intOf]; omega
      | false =>
        have HIS := Lib.hid (ris_v x hxl false hL)
        have HO : Hid (refK k n b l = []) := Lib.hid (by rw [HR.out, if_neg (by rw [all_bad hlt HX.out hL]; simp)])
        clear hL
        go_wp2_with (first | (go_at_call 22; ((with_reducible refine (HIS.out _ rfl _).mono ?_); rintro e w3 ⟨rfl, hb3⟩; have c3 : w3.cell? ⟨bb, off + j, none⟩ = some (.string (strB x)) := (hb3.cell (p := ⟨bb, off + j, none⟩) (World.block_lt_of_cell? _ _ c1)).trans c1; have HB3 := Lib.hid hb3; clear hb3)) | fail)
        go_ret
        exact ⟨ret_str (by rw [HO.out]; rfl), Below.next (Below.next HB0.out HBR.out) HB3.out⟩
    · have HTX := Lib.hid (tail_text hlt HSE.out HT.out)
      have ha := HALL.out
      rw [List.take_of_length_le (by omega)] at ha
      have hTl := all_len H HHL.out l HLEN2.out ha HT.out
      cases hL : isL T with
      | true =>
        have HIS := Lib.hid (ris_v T hTl true hL)
        have HO : Hid (refK k n b l = T) := Lib.hid (by rw [HR.out, if_pos ⟨ha, hL⟩])
        clear hL ha
        go_wp2_with (first | (go_at_call 22; ((with_reducible refine (HIS.out _ HTX.out _).mono ?_); rintro e w3 ⟨rfl, hb3⟩; have HB3 := Lib.hid hb3; clear hb3)) | fail)
        go_ret
        exact ⟨ret_str (by rw [HO.out]; exact HTX.out), Below.next (Below.next HB0.out HBR.out) HB3.out⟩
      | false =>
        have HIS := Lib.hid (ris_v T hTl false hL)
        have HO : Hid (refK k n b l = []) := Lib.hid (by rw [HR.out, if_neg (by rw [hL]; simp)])
        clear hL ha
        go_wp2_with (first | (go_at_call 22; ((with_reducible refine (HIS.out _ HTX.out _).mono ?_); rintro e w3 ⟨rfl, hb3⟩; have HB3 := Lib.hid hb3; clear hb3)) | fail)
        go_ret
        exact ⟨ret_str (by rw [HO.out]; rfl), Below.next (Below.next HB0.out HBR.out) HB3.out⟩

set_option maxHeartbeats 4000000 in
theorem rmake_n (k n : Nat) (hk : k = 6) (hn : n ≤ top) (vb vl : Value) (b : List UInt8) (l : List (List UInt8)) (w : World) (hl : Strs w vl l) (hlen : l.length ≤ 1000) (hsz : ∀ x ∈ l, x.length ≤ maxLen) (x0 x1 : List UInt8) (hlx : l = [x0, x1]) (hle : leL x0 x1 = true) :
    Calls Try.prog 40 #[.int .i64 k, .int .u64 n, vb, vl] w fun e w' => e = .returned (.string (strB (refK k n b l))) ∧ Below w.heap.size w w' := by
  subst hlx
  have hsort : sortL k [x0, x1] = [x0, x1] := by unfold sortL; rw [if_neg (by simp [hle])]
  obtain ⟨H, hH⟩ : ∃ H, [signOf k, 40] = H := ⟨_, rfl⟩
  obtain ⟨T, hT⟩ : ∃ T, wText k n b [x0, x1] = T := ⟨_, rfl⟩
  have HT : Hid (H ++ Lib.join [x0, x1] [44] ++ [41] = T) := Lib.hid (by rw [← hH, ← hT]; exact (text_p (by omega) (by omega) (by omega)).symm)
  have HR : Hid (refK k n b [x0, x1] = if [x0, x1].all isL = true ∧ isL T = true then T else []) := Lib.hid (by unfold refK; rw [if_neg (by omega), hsort, hT])
  have hHl : H.length ≤ 100 := by rw [← hH]; have := decs_top n hn; simp; try omega
  have hlen2 : [x0, x1].length ≤ 1000 := by rw [← hsort, sort_length]; exact hlen
  have HLEN2 := Lib.hid hlen2
  have HSZ : Hid (∀ x ∈ [x0, x1], x.length ≤ maxLen) := Lib.hid (hsz)
  have HHL := Lib.hid hHl
  have HH := Lib.hid (head_p k)
  rw [hH] at HH
  have HN := Lib.hid hn
  have hsl := sign_slice (k := k) (by omega) (by omega)
  have hs1 := strB_size [signOf k]
  simp only [List.length_singleton] at hs1
  have hs4 := strB_size1
  have hs5 := strB_size2
  have hs6 := size44
  have hdt := decs_top n hn
  have hs2 := strB_size (decs n)
  have hk5 : 5 ≤ k := by omega
  have hk11 : k ≤ 11 := by omega
  have e2 : ((k : Int) == 2) = false := b_ne (by omega)
  have e3 : ((k : Int) == 3) = false := b_ne (by omega)
  have e4 : ((k : Int) == 4) = false := b_ne (by omega)
  have e6 : ((k : Int) == 6) = true := b_eq (by omega)
  have e8 : ((k : Int) == 8) = false := b_ne (by omega)
  have e10 : ((k : Int) == 10) = false := b_ne (by omega)
  obtain ⟨al, cl, rfl, hnl, hl⟩ := hl
  obtain ⟨bl, ol, rfl, hc⟩ : ∃ b off, al = some ⟨b, off, none⟩ ∧ ∀ i, i < [x0, x1].length → w.cell? ⟨b, off + i, none⟩ = some (strV ([x0, x1].getD i [])) := by
    rcases hl with h | h
    · cases h
    · exact h
  have HL : Hid (Strs w (.slice (some ⟨bl, ol, none⟩) [x0, x1].length cl) [x0, x1]) := Lib.hid ⟨_, cl, rfl, hnl, hl⟩
  have s0 := hc 0 (by simp)
  have s1 := hc 1 (by simp)
  have hgt := str_gt (a := x0) (b := x1)
  have el2 : (((2 : Nat) : Int) == 2) = true := rfl
  have el3 : ((2 : Int) == 2) = true := rfl
  rw [hle] at hgt
  simp only [strV, Nat.add_zero, Bool.not_true, Bool.not_false, List.getD_cons_zero, List.getD_cons_succ] at s0 s1 hgt
  clear hl hnl hc hle
  clear hT hH hHl hlen2 hsort hn hlen hsz hk hdt
  go_enter Try.func40, Try.ntmps40
  go_wp2_with fail
  go_quiet (fail)
  go_wp2_with fail
  have HL2 : Hid (Strs w (.slice (some ⟨bl, ol, none⟩) 2 cl) [x0, x1]) := Lib.hid HL.out
  clear s0 s1 HL
  have HB0 : Hid (Below w.heap.size w (w.drewN nq)) := Lib.hid (below_drewN (Below.refl _ _) nq)
  have HS0 : Hid (Strs (w.drewN nq) (.slice (some ⟨bl, ol, none⟩) 2 cl) [x0, x1]) := Lib.hid (strs_drew HL2.out nq)
  generalize (w.drewN nq) = W0 at *
  generalize (some (⟨bl, ol, none⟩ : Addr)) = al at *
  go_loopw [9, 10] (fun s i wr => ∃ j : Nat, i = .int .i64 j ∧ j ≤ [x0, x1].length ∧ s = .string (strB (H ++ Lib.join ([x0, x1].take j) [44])) ∧ Below W0.heap.size W0 wr ∧ ([x0, x1].take j).all isL = true) (fun _ i _ => [x0, x1].length - (intOf i).toNat)
  case atStart => exact ⟨0, rfl, Nat.zero_le _, start_text HH.out, Below.refl _ _, rfl⟩
  case round =>
    obtain ⟨j, rfl, hj, rfl, hbr, hall⟩ := hrel
    have HS1 := Lib.hid (HS0.out.below hbr)
    have HBR := Lib.hid hbr
    have HALL := Lib.hid hall
    clear hbr hall
    obtain ⟨S, hS⟩ : ∃ S, H ++ Lib.join ([x0, x1].take j) [44] = S := ⟨_, rfl⟩
    have hSl := loop_len H HHL.out [x0, x1] HLEN2.out j HALL.out hS
    have hSs := strB_size S
    have HSE := Lib.hid hS
    rw [hS]
    clear hS
    by_cases hlt : j < [x0, x1].length
    · have hlt2 : j < 2 := hlt
      obtain ⟨bb, off, rfl, hc⟩ := strs_cell2 HS1.out (show 0 < [x0, x1].length by simp)
      obtain ⟨x, hx⟩ : ∃ x, [x0, x1].getD j [] = x := ⟨_, rfl⟩
      have c1 := hc j hlt
      rw [hx] at c1
      have hxl := HSZ.out x (get_mem hlt hx)
      have hxs := strB_size x
      have HX := Lib.hid hx
      have hk0 : (0 : Int) ≤ j := by omega
      have hki : (j : Int) < 2 := by omega
      clear hx hc
      cases hL : isL x with
      | true =>
        have hxb := (isL_whole.1 hL).1
        have HIS := Lib.hid (ris_v x hxl true hL)
        have HA := Lib.hid (all_next hlt HX.out HALL.out hL)
        clear hL
        by_cases hj0 : j = 0
        · have HNX := Lib.hid (join_first hlt hj0 H HSE.out HX.out)
          have hj1 : ¬ (0 : Int) < j := by omega
          have hj2 : ¬ 0 < j := by omega
          clear hj0
          go_wp2_with (first | (go_at_call 22; ((with_reducible refine (HIS.out _ rfl _).mono ?_); rintro e w3 ⟨rfl, hb3⟩; have c3 : w3.cell? ⟨bb, off + j, none⟩ = some (.string (strB x)) := (hb3.cell (p := ⟨bb, off + j, none⟩) (World.block_lt_of_cell? _ _ c1)).trans c1; have HB3 := Lib.hid hb3; clear hb3)) | fail)
          go_roundw
          case rel => exact ⟨j + 1, by go_num, hlt, by rw [HNX.out], Below.next HBR.out HB3.out, HA.out⟩
          case measure => simp [intOf]; omega
        · have HNX := Lib.hid (join_next hlt hj0 H HSE.out HX.out)
          have hj1 : (0 : Int) < j := by omega
          have hj2 : 0 < j := by omega
          clear hj0
          go_wp2_with (first | (go_at_call 22; ((with_reducible refine (HIS.out _ rfl _).mono ?_); rintro e w3 ⟨rfl, hb3⟩; have c3 : w3.cell? ⟨bb, off + j, none⟩ = some (.string (strB x)) := (hb3.cell (p := ⟨bb, off + j, none⟩) (World.block_lt_of_cell? _ _ c1)).trans c1; have HB3 := Lib.hid hb3; clear hb3)) | fail)
          go_roundw
          case rel => exact ⟨j + 1, by go_num, hlt, by rw [HNX.out], Below.next HBR.out HB3.out, HA.out⟩
          case measure => simp [intOf]; omega
      | false =>
        have HIS := Lib.hid (ris_v x hxl false hL)
        have HO : Hid (refK k n b [x0, x1] = []) := Lib.hid (by rw [HR.out, if_neg (by rw [all_bad hlt HX.out hL]; simp)])
        clear hL
        go_wp2_with (first | (go_at_call 22; ((with_reducible refine (HIS.out _ rfl _).mono ?_); rintro e w3 ⟨rfl, hb3⟩; have c3 : w3.cell? ⟨bb, off + j, none⟩ = some (.string (strB x)) := (hb3.cell (p := ⟨bb, off + j, none⟩) (World.block_lt_of_cell? _ _ c1)).trans c1; have HB3 := Lib.hid hb3; clear hb3)) | fail)
        go_ret
        exact ⟨ret_str (by rw [HO.out]; rfl), Below.next (Below.next HB0.out HBR.out) HB3.out⟩
    · have hlt2 : ¬ j < 2 := hlt
      have hlt3 : ¬ (j : Int) < 2 := by omega
      have HTX := Lib.hid (tail_text hlt HSE.out HT.out)
      have ha := HALL.out
      rw [List.take_of_length_le (by simp; omega)] at ha
      have hTl := all_len H HHL.out [x0, x1] HLEN2.out ha HT.out
      cases hL : isL T with
      | true =>
        have HIS := Lib.hid (ris_v T hTl true hL)
        have HO : Hid (refK k n b [x0, x1] = T) := Lib.hid (by rw [HR.out, if_pos ⟨ha, hL⟩])
        clear hL ha
        go_wp2_with (first | (go_at_call 22; ((with_reducible refine (HIS.out _ HTX.out _).mono ?_); rintro e w3 ⟨rfl, hb3⟩; have HB3 := Lib.hid hb3; clear hb3)) | fail)
        go_ret
        exact ⟨ret_str (by rw [HO.out]; exact HTX.out), Below.next (Below.next HB0.out HBR.out) HB3.out⟩
      | false =>
        have HIS := Lib.hid (ris_v T hTl false hL)
        have HO : Hid (refK k n b [x0, x1] = []) := Lib.hid (by rw [HR.out, if_neg (by rw [hL]; simp)])
        clear hL ha
        go_wp2_with (first | (go_at_call 22; ((with_reducible refine (HIS.out _ HTX.out _).mono ?_); rintro e w3 ⟨rfl, hb3⟩; have HB3 := Lib.hid hb3; clear hb3)) | fail)
        go_ret
        exact ⟨ret_str (by rw [HO.out]; rfl), Below.next (Below.next HB0.out HBR.out) HB3.out⟩

set_option maxHeartbeats 4000000 in
theorem rmake_s (k n : Nat) (hk : k = 6) (hn : n ≤ top) (vb vl : Value) (b : List UInt8) (l : List (List UInt8)) (w : World) (hl : Strs w vl l) (hlen : l.length ≤ 1000) (hsz : ∀ x ∈ l, x.length ≤ maxLen) (x0 x1 : List UInt8) (hlx : l = [x0, x1]) (hle : leL x0 x1 = false) :
    Calls Try.prog 40 #[.int .i64 k, .int .u64 n, vb, vl] w fun e w' => e = .returned (.string (strB (refK k n b l))) ∧ Below w.heap.size w w' := by
  subst hlx
  have hsort : sortL k [x0, x1] = [x1, x0] := by unfold sortL; rw [if_pos ⟨hk, rfl, hle⟩]; rfl
  obtain ⟨H, hH⟩ : ∃ H, [signOf k, 40] = H := ⟨_, rfl⟩
  obtain ⟨T, hT⟩ : ∃ T, wText k n b [x1, x0] = T := ⟨_, rfl⟩
  have HT : Hid (H ++ Lib.join [x1, x0] [44] ++ [41] = T) := Lib.hid (by rw [← hH, ← hT]; exact (text_p (by omega) (by omega) (by omega)).symm)
  have HR : Hid (refK k n b [x0, x1] = if [x1, x0].all isL = true ∧ isL T = true then T else []) := Lib.hid (by unfold refK; rw [if_neg (by omega), hsort, hT])
  have hHl : H.length ≤ 100 := by rw [← hH]; have := decs_top n hn; simp; try omega
  have hlen2 : [x1, x0].length ≤ 1000 := by rw [← hsort, sort_length]; exact hlen
  have HLEN2 := Lib.hid hlen2
  have HSZ : Hid (∀ x ∈ [x1, x0], x.length ≤ maxLen) := Lib.hid (by intro x hx; exact hsz x (by simp at hx ⊢; exact hx.symm))
  have HHL := Lib.hid hHl
  have HH := Lib.hid (head_p k)
  rw [hH] at HH
  have HN := Lib.hid hn
  have hsl := sign_slice (k := k) (by omega) (by omega)
  have hs1 := strB_size [signOf k]
  simp only [List.length_singleton] at hs1
  have hs4 := strB_size1
  have hs5 := strB_size2
  have hs6 := size44
  have hdt := decs_top n hn
  have hs2 := strB_size (decs n)
  have hk5 : 5 ≤ k := by omega
  have hk11 : k ≤ 11 := by omega
  have e2 : ((k : Int) == 2) = false := b_ne (by omega)
  have e3 : ((k : Int) == 3) = false := b_ne (by omega)
  have e4 : ((k : Int) == 4) = false := b_ne (by omega)
  have e6 : ((k : Int) == 6) = true := b_eq (by omega)
  have e8 : ((k : Int) == 8) = false := b_ne (by omega)
  have e10 : ((k : Int) == 10) = false := b_ne (by omega)
  obtain ⟨al, cl, rfl, hnl, hl⟩ := hl
  obtain ⟨bl, ol, rfl, hc⟩ : ∃ b off, al = some ⟨b, off, none⟩ ∧ ∀ i, i < [x0, x1].length → w.cell? ⟨b, off + i, none⟩ = some (strV ([x0, x1].getD i [])) := by
    rcases hl with h | h
    · cases h
    · exact h
  have HL : Hid (Strs w (.slice (some ⟨bl, ol, none⟩) [x0, x1].length cl) [x0, x1]) := Lib.hid ⟨_, cl, rfl, hnl, hl⟩
  have s0 := hc 0 (by simp)
  have s1 := hc 1 (by simp)
  have hgt := str_gt (a := x0) (b := x1)
  have el2 : (((2 : Nat) : Int) == 2) = true := rfl
  have el3 : ((2 : Int) == 2) = true := rfl
  rw [hle] at hgt
  simp only [strV, Nat.add_zero, Bool.not_true, Bool.not_false, List.getD_cons_zero, List.getD_cons_succ] at s0 s1 hgt
  clear hl hnl hc hle
  clear hT hH hHl hlen2 hsort hn hlen hsz hk hdt
  go_enter Try.func40, Try.ntmps40
  go_wp2_with fail
  go_quiet (fail)
  go_wp2_with fail
  obtain ⟨wq, hwq⟩ : ∃ wq, w.drewN nq = wq := ⟨_, rfl⟩
  have t0 : wq.cell? ⟨bl, ol, none⟩ = some (.string (strB x0)) := by rw [← hwq]; exact s0
  have t1 : wq.cell? ⟨bl, ol + 1, none⟩ = some (.string (strB x1)) := by rw [← hwq]; exact s1
  have HWQ : Hid (Below w.heap.size w wq) := Lib.hid (by rw [← hwq]; exact below_drewN (Below.refl _ _) nq)
  rw [hwq]
  clear hwq s0 s1 HL
  go_still_tail 6, (by kernel_rfl)
  go_wp2_with fail
  clear t0 t1
  have HB0 : Hid (Below w.heap.size w (wq.alloc (.cells #[.string (strB x1), .string (strB x0)] 9)).drew) := Lib.hid ((HWQ.out.alloc HWQ.out.size _).drew)
  have HS0 : Hid (Strs (wq.alloc (.cells #[.string (strB x1), .string (strB x0)] 9)).drew (.slice (some ⟨wq.heap.size, 0, none⟩) 2 2) [x1, x0]) := Lib.hid (strs_two wq x1 x0)
  generalize (wq.alloc (.cells #[.string (strB x1), .string (strB x0)] 9)).drew = W0 at *
  generalize (some (⟨wq.heap.size, 0, none⟩ : Addr)) = al at *
  go_loopw [9, 10] (fun s i wr => ∃ j : Nat, i = .int .i64 j ∧ j ≤ [x1, x0].length ∧ s = .string (strB (H ++ Lib.join ([x1, x0].take j) [44])) ∧ Below W0.heap.size W0 wr ∧ ([x1, x0].take j).all isL = true) (fun _ i _ => [x1, x0].length - (intOf i).toNat)
  case atStart => exact ⟨0, rfl, Nat.zero_le _, start_text HH.out, Below.refl _ _, rfl⟩
  case round =>
    obtain ⟨j, rfl, hj, rfl, hbr, hall⟩ := hrel
    have HS1 := Lib.hid (HS0.out.below hbr)
    have HBR := Lib.hid hbr
    have HALL := Lib.hid hall
    clear hbr hall
    obtain ⟨S, hS⟩ : ∃ S, H ++ Lib.join ([x1, x0].take j) [44] = S := ⟨_, rfl⟩
    have hSl := loop_len H HHL.out [x1, x0] HLEN2.out j HALL.out hS
    have hSs := strB_size S
    have HSE := Lib.hid hS
    rw [hS]
    clear hS
    by_cases hlt : j < [x1, x0].length
    · have hlt2 : j < 2 := hlt
      obtain ⟨bb, off, rfl, hc⟩ := strs_cell2 HS1.out (show 0 < [x1, x0].length by simp)
      obtain ⟨x, hx⟩ : ∃ x, [x1, x0].getD j [] = x := ⟨_, rfl⟩
      have c1 := hc j hlt
      rw [hx] at c1
      have hxl := HSZ.out x (get_mem hlt hx)
      have hxs := strB_size x
      have HX := Lib.hid hx
      have hk0 : (0 : Int) ≤ j := by omega
      have hki : (j : Int) < 2 := by omega
      clear hx hc
      cases hL : isL x with
      | true =>
        have hxb := (isL_whole.1 hL).1
        have HIS := Lib.hid (ris_v x hxl true hL)
        have HA := Lib.hid (all_next hlt HX.out HALL.out hL)
        clear hL
        by_cases hj0 : j = 0
        · have HNX := Lib.hid (join_first hlt hj0 H HSE.out HX.out)
          have hj1 : ¬ (0 : Int) < j := by omega
          have hj2 : ¬ 0 < j := by omega
          clear hj0
          go_wp2_with (first | (go_at_call 22; ((with_reducible refine (HIS.out _ rfl _).mono ?_); rintro e w3 ⟨rfl, hb3⟩; have c3 : w3.cell? ⟨bb, off + j, none⟩ = some (.string (strB x)) := (hb3.cell (p := ⟨bb, off + j, none⟩) (World.block_lt_of_cell? _ _ c1)).trans c1; have HB3 := Lib.hid hb3; clear hb3)) | fail)
          go_roundw
          case rel => exact ⟨j + 1, by go_num, hlt, by rw [HNX.out], Below.next HBR.out HB3.out, HA.out⟩
          case measure => simp [intOf]; omega
        · have HNX := Lib.hid (join_next hlt hj0 H HSE.out HX.out)
          have hj1 : (0 : Int) < j := by omega
          have hj2 : 0 < j := by omega
          clear hj0
          go_wp2_with (first | (go_at_call 22; ((with_reducible refine (HIS.out _ rfl _).mono ?_); rintro e w3 ⟨rfl, hb3⟩; have c3 : w3.cell? ⟨bb, off + j, none⟩ = some (.string (strB x)) := (hb3.cell (p := ⟨bb, off + j, none⟩) (World.block_lt_of_cell? _ _ c1)).trans c1; have HB3 := Lib.hid hb3; clear hb3)) | fail)
          go_roundw
          case rel => exact ⟨j + 1, by go_num, hlt, by rw [HNX.out], Below.next HBR.out HB3.out, HA.out⟩
          case measure => simp [intOf]; omega
      | false =>
        have HIS := Lib.hid (ris_v x hxl false hL)
        have HO : Hid (refK k n b [x0, x1] = []) := Lib.hid (by rw [HR.out, if_neg (by rw [all_bad hlt HX.out hL]; simp)])
        clear hL
        go_wp2_with (first | (go_at_call 22; ((with_reducible refine (HIS.out _ rfl _).mono ?_); rintro e w3 ⟨rfl, hb3⟩; have c3 : w3.cell? ⟨bb, off + j, none⟩ = some (.string (strB x)) := (hb3.cell (p := ⟨bb, off + j, none⟩) (World.block_lt_of_cell? _ _ c1)).trans c1; have HB3 := Lib.hid hb3; clear hb3)) | fail)
        go_ret
        exact ⟨ret_str (by rw [HO.out]; rfl), Below.next (Below.next HB0.out HBR.out) HB3.out⟩
    · have hlt2 : ¬ j < 2 := hlt
      have hlt3 : ¬ (j : Int) < 2 := by omega
      have HTX := Lib.hid (tail_text hlt HSE.out HT.out)
      have ha := HALL.out
      rw [List.take_of_length_le (by simp; omega)] at ha
      have hTl := all_len H HHL.out [x1, x0] HLEN2.out ha HT.out
      cases hL : isL T with
      | true =>
        have HIS := Lib.hid (ris_v T hTl true hL)
        have HO : Hid (refK k n b [x0, x1] = T) := Lib.hid (by rw [HR.out, if_pos ⟨ha, hL⟩])
        clear hL ha
        go_wp2_with (first | (go_at_call 22; ((with_reducible refine (HIS.out _ HTX.out _).mono ?_); rintro e w3 ⟨rfl, hb3⟩; have HB3 := Lib.hid hb3; clear hb3)) | fail)
        go_ret
        exact ⟨ret_str (by rw [HO.out]; exact HTX.out), Below.next (Below.next HB0.out HBR.out) HB3.out⟩
      | false =>
        have HIS := Lib.hid (ris_v T hTl false hL)
        have HO : Hid (refK k n b [x0, x1] = []) := Lib.hid (by rw [HR.out, if_neg (by rw [hL]; simp)])
        clear hL ha
        go_wp2_with (first | (go_at_call 22; ((with_reducible refine (HIS.out _ HTX.out _).mono ?_); rintro e w3 ⟨rfl, hb3⟩; have HB3 := Lib.hid hb3; clear hb3)) | fail)
        go_ret
        exact ⟨ret_str (by rw [HO.out]; rfl), Below.next (Below.next HB0.out HBR.out) HB3.out⟩

theorem rmake_out (kind : Int) (hk : kind < 1 ∨ 11 < kind) (n : Nat) (vb vl : Value) (w : World) :
    Calls Try.prog 40 #[.int .i64 kind, .int .u64 n, vb, vl] w fun e w' => e = .returned (.string (strB [])) ∧ Below w.heap.size w w' := by
  rcases hk with hk | hk
  · go_enter Try.func40, Try.ntmps40
    go_wp2_with fail
    go_ret
    exact ⟨rfl, Below.refl _ _⟩
  · have hk1 : 1 ≤ kind := by omega
    go_enter Try.func40, Try.ntmps40
    go_wp2_with fail
    go_ret
    exact ⟨rfl, Below.refl _ _⟩
theorem rmake_any (kind : Int) (n : Nat) (hn : n ≤ top) (vb vl : Value) (b : List UInt8) (l : List (List UInt8)) (w : World) (hb : Bytes w vb b) (hl : Strs w vl l) (hbl : b.length ≤ 100000) (hlen : l.length ≤ 1000) (hsz : ∀ x ∈ l, x.length ≤ maxLen) :
    Calls Try.prog 40 #[.int .i64 kind, .int .u64 n, vb, vl] w fun e w' => e = .returned (.string (strB (makeR kind n b l))) ∧ Below w.heap.size w w' := by
  by_cases h : 1 ≤ kind ∧ kind ≤ 11
  · obtain ⟨k, rfl⟩ : ∃ k : Nat, kind = k := ⟨kind.toNat, by omega⟩
    have hR : makeR (k : Int) n b l = refK k n b l := by
      unfold makeR
      rw [if_pos h, Int.toNat_natCast, make_ref k n b l (by omega) (by omega) hn]
    rw [hR]
    by_cases h1 : k = 1
    · exact rmake_zero k n h1 hn vb vl b l w hb hl hbl hlen
    by_cases h2 : k = 2 ∨ k = 3
    · exact rmake_num k n h2 hn vb vl b l w hb hl hbl hlen
    by_cases h4 : k = 4
    · exact rmake_data k n h4 hn vb vl b l w hb hl hbl hlen
    by_cases h8 : k = 8 ∨ k = 10
    · by_cases hl0 : l = []
      · exact rmake_e k n h8 hn vb vl b l w hl hlen hsz hl0
      · exact rmake_f k n h8 hn vb vl b l w hl hlen hsz hl0
    by_cases h6 : k = 6
    · by_cases hl2 : l.length = 2
      · obtain ⟨x0, x1, hlx⟩ : ∃ x0 x1, l = [x0, x1] := by
          match l, hl2 with
          | [x0, x1], _ => exact ⟨x0, x1, rfl⟩
        cases hle : leL x0 x1 with
        | true => exact rmake_n k n h6 hn vb vl b l w hl hlen hsz x0 x1 hlx hle
        | false => exact rmake_s k n h6 hn vb vl b l w hl hlen hsz x0 x1 hlx hle
      · exact rmake_o k n h6 hn vb vl b l w hl hlen hsz hl2
    · exact rmake_p k n (by omega) hn vb vl b l w hl hlen hsz
  · have hR : makeR kind n b l = [] := by unfold makeR; rw [if_neg h]
    rw [hR]
    exact rmake_out kind (by omega) n vb vl w

def sizeZ (l : List (List UInt8)) : Int := l.foldl (fun n x => wrap64 (n + x.length)) 0
theorem size_next {l : List (List UInt8)} {j : Nat} (h : j < l.length) {x : List UInt8} (hx : l.getD j [] = x) : sizeZ (l.take (j + 1)) = wrap64 (sizeZ (l.take j) + x.length) := by
  rw [take_get h, hx]
  unfold sizeZ
  rw [List.foldl_append]; rfl
end Go.Proofs.Ytjbmcjppaadkgaa
