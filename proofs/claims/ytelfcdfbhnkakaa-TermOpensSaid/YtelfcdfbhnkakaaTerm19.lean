import Derived.Test.YtelfcdfbhnkakaaTerm18
namespace Go.Proofs.Ytelfcdfbhnkakaa
set_option linter.unusedVariables false
set_option linter.unusedSimpArgs false
set_option maxRecDepth 100000
open Go.RowKit

theorem shape_ex {k : Nat} (h1 : 1 ≤ k) (h2 : k ≤ 11) : ∃ sh, shapeOf k = some sh := by
  cases h : shapeOf k with
  | some sh => exact ⟨sh, rfl⟩
  | none => have := shape_none h2 h; omega

theorem make_any (kind : Int) (n : Nat) (hn18 : n ≤ top) (vb vl : Value) (b : List UInt8) (l : List (List UInt8)) (w : World) (hb : Bytes w vb b) (hl : Strs w vl l) (hbl : b.length ≤ maxLen) (hll : l.length ≤ maxLen) :
    Calls Try.prog 15 #[.int .i64 kind, .int .u64 n, vb, vl] w fun e w' => e = .returned (.string (strB (makeR kind n b l))) ∧ Below w.heap.size w w' := by
  unfold makeR
  by_cases hk : 1 ≤ kind ∧ kind ≤ 11
  · rw [if_pos hk]
    obtain ⟨k, rfl⟩ : ∃ k : Nat, kind = k := ⟨kind.toNat, by omega⟩
    rw [Int.toNat_natCast]
    obtain ⟨sh, hs⟩ := shape_ex (k := k) (by omega) (by omega)
    unfold makeK
    by_cases hbad : (k = 4 ∧ 32768 < b.length) ∨ ¬ total l ≤ 65536
    · rw [if_pos hbad]
      exact make_bad k sh hs n vb vl b l w hb hl hbl hll hbad
    · rw [if_neg hbad]
      have ht : total l ≤ 65536 := by
        by_cases h : total l ≤ 65536
        · exact h
        · exact absurd (.inr h) hbad
      have h4 : k = 4 → b.length ≤ 32768 := fun h => by
        by_cases h2 : 32768 < b.length
        · exact absurd (.inl ⟨h, h2⟩) hbad
        · omega
      by_cases hsrt : k = 6 ∧ l.length = 2 ∧ leL (l.getD 0 []) (l.getD 1 []) = false
      · have e : sortL k l = [l.getD 1 [], l.getD 0 []] := by unfold sortL; rw [if_pos hsrt]
        rw [e]
        have el : l = [l.getD 0 [], l.getD 1 []] := by
          match l, hsrt.2.1 with
          | [a, b], _ => rfl
        exact make_sorted k sh hs n hn18 vb vl b l w hb hl h4 hll ht _ _ el ((ordered_iff hs).2 hsrt.1) hsrt.2.2 hbl
      · have e : sortL k l = l := by unfold sortL; rw [if_neg hsrt]
        rw [e]
        refine make_plain k sh hs n hn18 vb vl b l w hb hl h4 hll ht ?_ hbl
        cases ho : sh.ordered with
        | false => exact .inl rfl
        | true =>
          have hk6 := (ordered_iff hs).1 ho
          by_cases h2 : l.length = 2
          · refine .inr (.inr ⟨rfl, h2, ?_⟩)
            cases hle : leL (l.getD 0 []) (l.getD 1 []) with
            | true => rfl
            | false => exact absurd ⟨hk6, h2, hle⟩ hsrt
          · exact .inr (.inl ⟨rfl, h2⟩)
  · rw [if_neg hk]
    exact make_out kind (by omega) n vb vl w

theorem make_zero (kind : Int) (vb vl : Value) (b : List UInt8) (l : List (List UInt8)) (w : World) (hb : Bytes w vb b) (hl : Strs w vl l) (hbl : b.length ≤ maxLen) (hll : l.length ≤ maxLen) :
    Calls Try.prog 15 #[.int .i64 kind, .int .u64 0, vb, vl] w fun e w' => e = .returned (.string (strB (makeR kind 0 b l))) ∧ Below w.heap.size w w' := make_any kind 0 (Nat.zero_le _) vb vl b l w hb hl hbl hll

def agreeR (x : List UInt8) (y : Nat × Nat × List (List UInt8)) : List UInt8 := if y.1 = 5 then makeR 6 0 [] [x, y.2.2.getD 0 []] else []
theorem strB_self (x : ByteArray) : strB x.data.toList = x := by
  apply ByteArray.ext
  simp [strB]
theorem strs_two_at (w : World) (o : Obj) (x : ByteArray) (y : List UInt8) : Strs ((w.alloc o).alloc (.cells #[.string x, .string (strB y)] 9)) (.slice (some ⟨w.heap.size + 1, 0, none⟩) 2 2) [x.data.toList, y] := by
  have h := heap_alloc_new (w.alloc o) (.cells #[.string x, .string (strB y)] 9)
  rw [show (w.alloc o).heap.size = w.heap.size + 1 by simp] at h
  refine ⟨_, 2, rfl, (fun h => by cases h), .inr ⟨_, 0, rfl, fun i hi => ?_⟩⟩
  rw [Nat.zero_add]
  match i, hi with
  | 0, _ =>
    have : strV x.data.toList = .string x := by unfold strV; rw [strB_self]
    show _ = some (strV x.data.toList)
    rw [this]
    exact cell_of h 0 rfl
  | 1, _ => exact cell_of h 1 rfl

theorem agree_any (x t : ByteArray) (ht : t.size ≤ maxLen) (w : World) : Calls Try.prog 21 #[.string x, .string t] w fun e w' =>
    e = .returned (.string (strB (agreeR x.data.toList (lookR t.data.toList)))) ∧ Below w.heap.size w w' := by
  have hz := zero_found
  obtain ⟨k, n, ps, hx⟩ : ∃ k n ps, lookR t.data.toList = (k, n, ps) := ⟨_, _, _, rfl⟩
  obtain ⟨nb, hnb⟩ : ∃ nb, numb k = nb := ⟨_, rfl⟩
  rw [hx]
  have HNB := Lib.hid hnb
  clear hnb
  by_cases hk : k = 5
  · subst hk
    obtain ⟨a, rfl⟩ := look1 hx
    have HX := Lib.hid hx
    have hO : agreeR x.data.toList (5, n, [a]) = makeR 6 0 [] [x.data.toList, a] := rfl
    rw [hO]
    clear hx hO
    go_enter Try.func21, Try.ntmps21
    go_wp2_with (first | (go_at_call 27; ((with_reducible refine (look_v t ht _ 5 n nb [a] HX.out HNB.out).mono ?_); rintro e w1 ⟨ad, cp, rfl, hS, hB⟩; obtain ⟨bb, off, rfl, hbb, hcs⟩ := strs_cell hS (by simp); have s0 := fun o => alloc_cell o hbb (hcs 0 (by simp)); simp only [strV, List.getD_cons_zero, Nat.add_zero] at s0; have hne : ¬ bb = w1.heap.size := Nat.ne_of_lt hbb; have hne2 : ¬ w1.heap.size = bb := Nat.ne_of_gt hbb; have HB := Lib.hid hB; clear hB; clear hS hcs hbb)) | (go_at_call 15; ((with_reducible refine (make_zero 6 _ _ [] [x.data.toList, a] _ (bytes_nil _) (strs_two_at w1 _ x a) (by simp) (by simp; unfold maxLen; omega)).mono ?_); rintro e w3 ⟨rfl, hb3⟩)) | fail)
    go_ret
    exact ⟨rfl, ((HB.out.alloc HB.out.size _).alloc (by have := HB.out.size; simp; omega) _).trans (hb3.mono (by have := HB.out.size; simp; omega))⟩
  · have hO : agreeR x.data.toList (k, n, ps) = [] := by unfold agreeR; rw [if_neg hk]
    rw [hO]
    have HX := Lib.hid hx
    have hk1 : ((k : Int) != 5) = true := by simp; omega
    clear hx hk hO
    go_enter Try.func21, Try.ntmps21
    go_wp2_with (first | (go_at_call 27; ((with_reducible refine (look_v t ht _ k n nb ps HX.out HNB.out).mono ?_); rintro e w1 ⟨ad, cp, rfl, hS, hB⟩; have HB := Lib.hid hB; clear hB; clear hS)) | fail)
    go_ret
    exact ⟨rfl, HB.out.alloc HB.out.size _⟩

/-! Bytes -/
def bytesR (t : List UInt8) : List UInt8 := if (lookR t).1 = 4 then hxBytes (t.drop 1) else []
theorem look4 {t : List UInt8} {n : Nat} {ps : List (List UInt8)} (h : lookR t = (4, n, ps)) : t.length ≤ 65536 ∧ ∃ r, t = 120 :: r ∧ hxCode r = 0 ∧ n = 0 ∧ ps = [] := by
  obtain ⟨hl, hq⟩ := qLook_some.1 (lookR_some h (by decide))
  refine ⟨hl, ?_⟩
  cases t with
  | nil => cases hq
  | cons c r =>
    simp only [qTermS] at hq
    obtain ⟨sh, hs, hq⟩ := Option.bind_eq_some_iff.1 hq
    have hk : kindOf c = 4 := by
      split at hq
      · obtain ⟨y, _, e⟩ := Option.bind_eq_some_iff.1 hq
        simp only [Option.some.injEq, Prod.mk.injEq] at e; exact e.1
      · obtain ⟨y, _, e⟩ := Option.bind_eq_some_iff.1 hq
        simp only [Option.some.injEq, Prod.mk.injEq] at e; exact e.1
    rw [hk] at hs hq
    simp only [shapeOf, Option.some.injEq] at hs
    subst hs
    have hc : c = 120 := by
      unfold kindOf at hk
      by_cases h : c = 120
      · exact h
      · rw [if_neg h] at hk
        repeat' split at hk
        all_goals omega
    rw [if_neg (by decide)] at hq
    obtain ⟨y, hy, e⟩ := Option.bind_eq_some_iff.1 hq
    unfold qLeaf at hy
    rw [if_pos rfl] at hy
    split at hy
    · rename_i hpar
      simp only [qNum, Bool.false_eq_true, if_false, Option.some.injEq] at hy
      subst hy
      simp only [Option.some.injEq, Prod.mk.injEq] at e
      obtain ⟨_, e1, e2, e3⟩ := e
      refine ⟨r, by rw [hc], ?_, e1.symm, e2.symm⟩
      have hr : r.takeWhile isHex = r := by
        have := List.takeWhile_append_dropWhile (p := isHex) (l := r)
        rw [e3, List.append_nil] at this
        exact this
      rw [hr] at hpar
      exact hxCode_zero.2 ⟨by rw [← hr]; exact isHex_digs (takeWhile_all r), hpar⟩
    · cases hy

def BytesRet (w : World) (l : List UInt8) (ok : Bool) (e : Ending) (w' : World) : Prop := ∃ v, e = .returned (.tuple #[v, .bool ok]) ∧ Bytes w' v l ∧ Below w.heap.size w w'
theorem bytes_any (t : ByteArray) (ht : t.size ≤ maxLen) (w : World) : Calls Try.prog 10 #[.string t] w (BytesRet w (bytesR t.data.toList) ((lookR t.data.toList).1 == 4)) := by
  unfold bytesR
  obtain ⟨k, n, ps, hx⟩ : ∃ k n ps, lookR t.data.toList = (k, n, ps) := ⟨_, _, _, rfl⟩
  have HKD : Hid (∀ w, Calls Try.prog 12 #[.string t] w fun e w' => e = .returned (.int .i64 k) ∧ Below w.heap.size w w') := Lib.hid fun w => by
    have := kind_any t ht w
    rw [hx] at this
    exact this
  rw [hx]
  by_cases hk : k = 4
  · subst hk
    obtain ⟨hl, r, hr, hc, _, _⟩ := look4 hx
    have hsz : t.size = r.length + 1 := by
      have := congrArg List.length hr
      simpa using this
    have hsub : t.extract 1 t.size = strB r := by
      rw [slice_str t 1 t.size (by omega) (Nat.le_refl _)]
      unfold sub strB
      rw [hr]
      congr 2
      simp [hsz]
    have hbr : Bool := true
    have HR := Lib.hid hr
    have hc0 : (hxCode r == 0) = true := by simpa using hc
    have ht1 : 1 ≤ t.size := by omega
    have ht2 : t.size ≤ 65536 := by simpa using hl
    have hrl : r.length ≤ 65536 := by omega
    rw [show (if (4, n, ps).1 = 4 then hxBytes (t.data.toList.drop 1) else []) = hxBytes r by rw [hr]; rfl]
    clear hx hc hl hr hsz
    go_enter Try.func10, Try.ntmps10
    go_wp2_with (first | (go_at_call 12; ((with_reducible refine (HKD.out _).mono ?_); rintro e w1 ⟨rfl, hB⟩; have HB := Lib.hid hB; clear hB)) | (go_at_call 28; ((with_reducible refine (readhex_any (strB r) (by rw [strB_size]; omega) _).mono ?_); rintro e w3 ⟨v, rfl, hbv, hb3⟩; have hc1 : (hxCode (strB r).data.toList == 0) = true := hc0)) | fail)
    go_ret2
    exact ⟨v, rfl, hbv, HB.out.trans (hb3.mono HB.out.size)⟩
  · have hO : ((k, n, ps).1 == 4) = false := by simpa using hk
    rw [hO, if_neg hk]
    have hk1 : ((k : Int) != 4) = true := by simp; omega
    clear hx hk hO
    go_enter Try.func10, Try.ntmps10
    go_wp2_with (first | (go_at_call 12; ((with_reducible refine (HKD.out _).mono ?_); rintro e w1 ⟨rfl, hB⟩; have HB := Lib.hid hB; clear hB)) | fail)
    go_ret2
    exact ⟨_, rfl, bytes_nil _, HB.out⟩
end Go.Proofs.Ytelfcdfbhnkakaa
