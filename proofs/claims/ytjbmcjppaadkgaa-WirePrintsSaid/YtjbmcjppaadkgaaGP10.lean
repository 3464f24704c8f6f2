/- Texts of this seat, merged: Ref7, TermLaw1, TermLaw2, Ref8, Wire18, Wire19. -/
import Derived.Test.YtjbmcjppaadkgaaGP9
import Derived.Deep.RegionHeld3
import Derived.Deep.LoopGhost
import Derived.RegionTactic
import Derived.ChangeAlike
import Derived.StillTailTactics
import Derived.Deep.QuietTactic
import Derived.BigQuiet
namespace Go.Proofs.Ytjbmcjppaadkgaa
set_option linter.unusedVariables false
set_option linter.unusedSimpArgs false
set_option maxRecDepth 100000
open Go.RowKit

def isT (t : List UInt8) : Bool := decide (0 < (nodeR t).1)
theorem field_node (w : World) (k n l cp m cb : Nat) (ad ab : Option Addr) : (Instr.field 69 (.agg #[.int .i64 k, .int .u64 n, .slice ab m cb, .slice ad l cp]) 0).run Try.prog w = .ok (.int .i64 k) w := by kernel_rfl
theorem ris_any (s : ByteArray) (hs : s.size ≤ maxLen) (w : World) : Calls Try.prog 22 #[.string s] w fun e w' => e = .returned (.bool (isT s.data.toList)) ∧ Below w.heap.size w w' := by
  have hrn := fun w => rnode_any s hs w
  unfold isT
  obtain ⟨x, hx⟩ : ∃ x, nodeR s.data.toList = x := ⟨_, rfl⟩
  rw [hx] at hrn ⊢
  obtain ⟨k, n, b, ps⟩ := x
  have HRN := Lib.hid hrn
  have hf := fun w l cp m cb ad ab => field_node w k n l cp m cb ad ab
  clear hrn hx
  show Calls _ _ _ _ fun e w' => e = .returned (.bool (decide (0 < k))) ∧ _
  go_enter Try.func22, Try.ntmps22
  go_wp2_with (first | (go_at_call 37; ((with_reducible refine (HRN.out _).mono ?_); rintro e w2 ⟨ab, cb, ap, cp, rfl, _, _, hB2⟩)) | fail)
  go_ret
  exact ⟨ret_bool (by simp), hB2⟩

theorem strs_cell2 {w : World} {a : Option Addr} {l : List (List UInt8)} {cap : Nat} (h : Strs w (.slice a l.length cap) l) (h0 : 0 < l.length) : ∃ b off, a = some ⟨b, off, none⟩ ∧ ∀ i, i < l.length → w.cell? ⟨b, off + i, none⟩ = some (.string (strB (l.getD i []))) := by
  obtain ⟨a', cap', e, _, h⟩ := h
  injection e with e1 e2 e3
  subst e1
  rcases h with h | ⟨b, off, rfl, h⟩
  · rw [h] at h0; simp at h0
  · exact ⟨b, off, rfl, h⟩
theorem take_next {l m : List (List UInt8)} {k : Nat} (h : l.take k = m.take k) (hl : k < l.length) (hm : k < m.length) (he : l.getD k [] = m.getD k []) : l.take (k + 1) = m.take (k + 1) := by
  rw [List.take_add_one, List.take_add_one, h]
  congr 1
  rw [List.getElem?_eq_getElem hl, List.getElem?_eq_getElem hm]
  simp [List.getD, List.getElem?_eq_getElem hl, List.getElem?_eq_getElem hm] at he
  simp [he]
theorem rsame2_any (va vb : Value) (la lb : List (List UInt8)) (w : World) (ha : Strs w va la) (hb : Strs w vb lb) (h1 : la.length ≤ maxLen) (h2 : lb.length ≤ maxLen) :
    Calls Try.prog 14 #[va, vb] w (EqRet w (la == lb)) := by
  unfold maxLen at h1 h2
  obtain ⟨a, ca, rfl, _⟩ := id ha
  obtain ⟨b, cb, rfl, _⟩ := id hb
  have HA := Lib.hid (strs_cell2 ha)
  have HB := Lib.hid (strs_cell2 hb)
  clear ha hb
  by_cases hlen : la.length = lb.length
  · have hne : ((la.length : Int) != lb.length) = false := b_neq (by omega)
    have HLEN := Lib.hid hlen
    clear hlen
    go_enter Try.func14, Try.ntmps14
    go_wp2_with fail
    go_loopw [5] (fun i wr => ∃ k m : Nat, i = .int .i64 k ∧ k ≤ la.length ∧ wr = w.drewN m ∧ la.take k = lb.take k) (fun i _ => la.length - (intOf i).toNat)
    case atStart => exact ⟨0, 0, rfl, by omega, rfl, by simp⟩
    case round =>
      obtain ⟨k, m, rfl, hk, rfl, ht⟩ := hrel
      have HT := Lib.hid ht
      clear ht
      by_cases hlt : k < la.length
      · obtain ⟨b1, o1, rfl, hc1⟩ := HA.out (by omega)
        obtain ⟨b2, o2, rfl, hc2⟩ := HB.out (by rw [← HLEN.out]; omega)
        have hk2 : k < lb.length := by rw [← HLEN.out]; exact hlt
        have c1 := hc1 k hlt
        have c2 := hc2 k hk2
        have hki : (k : Int) < la.length := by omega
        have hki2 : (k : Int) < lb.length := by omega
        have hk0 : (0 : Int) ≤ k := by omega
        clear hc1 hc2
        by_cases he : la.getD k [] = lb.getD k []
        · have HN := Lib.hid (take_next HT.out hlt hk2 he)
          rw [← he] at c2
          clear he
          generalize la.getD k [] = x at *
          have hxx : ((strB x).toList == (strB x).toList) = true := by simp
          go_wp2_with fail
          go_quiet (fail)
          go_wp2
          go_roundw
          case rel => exact ⟨k + 1, _, by go_num, hlt, rfl, HN.out⟩
          case measure => simp [intOf]; omega
        · have HN : Hid ((la == lb) = false) := Lib.hid (by
            rw [beq_eq_false_iff_ne]; intro h; exact he (by rw [h]))
          have hxy : ((strB (la.getD k [])).toList == (strB (lb.getD k [])).toList) = false := by
            cases hh : ((strB (la.getD k [])).toList == (strB (lb.getD k [])).toList) with
            | false => rfl
            | true => exact absurd (by rw [str_eq] at hh; exact eq_of_beq hh) he
          clear he
          generalize la.getD k [] = x at *
          generalize lb.getD k [] = y at *
          go_wp2_with fail
          go_quiet (fail)
          go_wp2
          go_ret
          exact ⟨ret_bool (by rw [HN.out]), _, World.drewN_drewN _ _ _⟩
      · have HN : Hid ((la == lb) = true) := Lib.hid (by
          have h := HT.out
          rw [List.take_of_length_le (by omega), List.take_of_length_le (by rw [← HLEN.out]; omega)] at h
          rw [h]; simp)
        go_wp2_with fail
        go_ret
        exact ⟨ret_bool (by rw [HN.out]), _, rfl⟩
  · have hne : ((la.length : Int) != lb.length) = true := b_nne (by omega)
    have HN : Hid ((la == lb) = false) := Lib.hid (by rw [beq_eq_false_iff_ne]; intro h; exact hlen (by rw [h]))
    clear hlen
    go_enter Try.func14, Try.ntmps14
    go_wp2_with fail
    go_ret
    exact ⟨ret_bool (by rw [HN.out]), 0, rfl⟩
end Go.Proofs.Ytjbmcjppaadkgaa

namespace Go.Proofs.Ytjbmcjppaadkgaa
set_option linter.unusedVariables false
set_option linter.unusedSimpArgs false
set_option maxRecDepth 100000
open Go.RowKit

theorem node_eq (t : List UInt8) : nodeR t = ((lookR t).1, (lookR t).2.1, bytesR t, (lookR t).2.2) := by
  unfold nodeR
  rw [look_eq]
  cases hq : qLook t with
  | none =>
    have e : lookR t = (0, 0, []) := by unfold lookR; rw [hq]; rfl
    unfold bytesR
    rw [e]; rfl
  | some x =>
    obtain ⟨k, n, ps⟩ := x
    have e : lookR t = (k, n, ps) := by unfold lookR; rw [hq]; rfl
    have hb : bytesIn k t = bytesR t := by
      unfold bytesR
      rw [e]
      show _ = if k = 4 then _ else _
      by_cases h4 : k = 4
      · subst h4
        obtain ⟨_, r, hr, hc, hn, hps⟩ := look4 e
        have ht := (read_text e (by decide)).2.1
        rw [hps, hn] at ht
        have h2 : wText 4 0 (bytesIn 4 t) [] = 120 :: hexOf (bytesIn 4 t) := by
          unfold wText joined
          have : itemsOf 4 0 (bytesIn 4 t) = [hexOf (bytesIn 4 t)] := rfl
          rw [this]
          simp [Lib.join_one, signOf]
        rw [h2] at ht
        rw [if_pos rfl]
        conv => rhs; rw [ht]
        rw [List.drop_succ_cons, List.drop_zero, (hx_hexOf _).1]
      · rw [if_neg h4]; unfold bytesIn; rw [if_neg h4]
    rw [e]
    simp [hb]

def Awake2 (w : World) (e : Ending) (w' : World) : Prop := e = .returned (.bool true) ∧ Below w.heap.size w w'
end Go.Proofs.Ytjbmcjppaadkgaa

namespace Go.Proofs.Ytjbmcjppaadkgaa
set_option linter.unusedVariables false
set_option linter.unusedSimpArgs false
set_option maxRecDepth 100000
open Go.RowKit

theorem bytes_drew {w : World} {v : Value} {l : List UInt8} (h : Bytes w v l) (m : Nat) : Bytes (w.drewN m) v l := h
theorem strs_drew {w : World} {v : Value} {l : List (List UInt8)} (h : Strs w v l) (m : Nat) : Strs (w.drewN m) v l := h
theorem term_kind {f : Nat} {t : List UInt8} {k n : Nat} {b : List UInt8} {ps : List (List UInt8)} {rest : List UInt8} (h : pTermS (pLoop f) t = some (k, n, b, ps, rest)) : k ≤ 11 := by
  cases t with
  | nil => cases h
  | cons c r =>
    have hk := kindOf_le c
    simp only [pTermS] at h
    obtain ⟨sh, hsh, h⟩ := Option.bind_eq_some_iff.1 h
    split at h
    · obtain ⟨y, hy, h⟩ := Option.bind_eq_some_iff.1 h
      cases h; exact hk
    · obtain ⟨r1, hr1, h⟩ := Option.bind_eq_some_iff.1 h
      obtain ⟨x, hx, h⟩ := Option.bind_eq_some_iff.1 h
      split at h
      · cases h; exact hk
      · obtain ⟨y, hy, h⟩ := Option.bind_eq_some_iff.1 h
        cases h; exact hk
theorem look_kind {t : List UInt8} {k n : Nat} {ps : List (List UInt8)} (h : lookR t = (k, n, ps)) (h0 : k ≠ 0) : 1 ≤ k ∧ k ≤ 11 := by
  refine ⟨by omega, ?_⟩
  have hq := lookR_some h h0
  have hp := look_eq t
  rw [hq] at hp
  simp only [Option.map_some] at hp
  unfold pLook at hp
  split at hp
  · obtain ⟨x, hx, hp⟩ := Option.bind_eq_some_iff.1 hp
    obtain ⟨k', n', b', ps', rest⟩ := x
    split at hp
    · simp only [Option.some.injEq, Prod.mk.injEq] at hp
      rw [← hp.1]
      exact term_kind hx
    · cases hp
  · cases hp
theorem make_back (s : ByteArray) (k n : Nat) (b : List UInt8) (ps : List (List UInt8)) (hx : lookR s.data.toList = (k, n, ps)) (hb : bytesR s.data.toList = b) (hsm : s.size ≤ maxLen) (hps : ps.length ≤ maxLen) (hk : k ≠ 0) (w : World) (vb vl : Value) (h1 : Bytes w vb b) (h2 : Strs w vl ps) :
    Calls Try.prog 38 #[.int .i64 k, .int .u64 n, vb, vl] w fun e w' => e = .returned (.string s) ∧ Below w.heap.size w w' := by
  obtain ⟨hl, ht, hn⟩ := read_text hx hk
  have hk11 := look_kind hx hk
  have hbb : bytesIn k s.data.toList = b := by
    have h := node_eq s.data.toList
    unfold nodeR at h
    rw [look_eq, lookR_some hx hk, hx, hb] at h
    simpa using h
  have hm := make_read hx hk
  rw [hbb] at hm
  have hbl : b.length ≤ maxLen := by
    by_cases h4 : k = 4
    · subst h4
      have := text_bytes n b ps
      rw [← hbb, ← ht] at this
      rw [← hbb]
      unfold maxLen; omega
    · have : b = [] := by rw [← hb]; unfold bytesR; rw [hx]; exact if_neg h4
      rw [this]; exact Nat.zero_le _
  have hmk := make_any k n hn vb vl b ps w h1 h2 hbl hps
  have e : makeR k n b ps = s.data.toList := by
    unfold makeR
    rw [if_pos (by omega), Int.toNat_natCast, hm]
  rw [e, strB_self] at hmk
  exact hmk
theorem eq_self_ret {w : World} {l : List (List UInt8)} {e : Ending} {w' : World} (h : EqRet w (l == l) e w') : e = .returned (.bool true) ∧ ∃ q, w' = w.drewN q := by
  have : (l == l) = true := by simp
  rw [this] at h; exact h
theorem rsame2_self (va vb : Value) (l : List (List UInt8)) (w : World) (ha : Strs w va l) (hb : Strs w vb l) (h1 : l.length ≤ maxLen) : Calls Try.prog 14 #[va, vb] w fun e w' => e = .returned (.bool true) ∧ ∃ q, w' = w.drewN q :=
  (rsame2_any va vb l l w ha hb h1 h1).mono fun e w' h => eq_self_ret h
theorem below_drew1 {w a : World} (h : Below w.drew.heap.size w.drew a) : Below w.heap.size w a := ⟨h.os, h.tape, h.output, h.size, h.block⟩
theorem numb_other {k : Nat} (h2 : k ≠ 2) (h3 : k ≠ 3) (h8 : k ≠ 8) (h10 : k ≠ 10) : numb k = false := by
  have a : (k == 2) = false := by simpa using h2
  have b : (k == 3) = false := by simpa using h3
  have c : (k == 8) = false := by simpa using h8
  have d : (k == 10) = false := by simpa using h10
  unfold numb; rw [a, b, c, d]; rfl
end Go.Proofs.Ytjbmcjppaadkgaa

namespace Go.Proofs.Ytjbmcjppaadkgaa
set_option linter.unusedVariables false
set_option linter.unusedSimpArgs false
set_option maxRecDepth 100000
open Go.RowKit

theorem isT_isL (t : List UInt8) : isT t = isL t := by
  unfold isT isL
  rw [node_eq]
theorem ris_b (x : List UInt8) (hx : x.length ≤ maxLen) (w : World) : Calls Try.prog 22 #[.string (strB x)] w fun e w' => e = .returned (.bool (isL x)) ∧ Below w.heap.size w w' := by
  have h := ris_any (strB x) (by rw [strB_size]; exact hx) w
  rw [isT_isL] at h
  exact h
theorem ris_v (x : List UInt8) (hx : x.length ≤ maxLen) (r : Bool) (h : isL x = r) (v : ByteArray) (hv : v = strB x) (w : World) : Calls Try.prog 22 #[.string v] w fun e w' => e = .returned (.bool r) ∧ Below w.heap.size w w' := by
  subst h hv; exact ris_b x hx w
theorem rprint_b (n : Nat) (hn : n ≤ top) (w : World) : Calls Try.prog 59 #[.int .u64 n] w fun e w' => e = .returned (.string (strB (decs n))) ∧ Below w.heap.size w w' := rprint_any n hn w
theorem rhex_b (v : Value) (l : List UInt8) (w : World) (hv : Bytes w v l) (hlen : l.length ≤ 1000000) : Calls Try.prog 60 #[v] w fun e w' => e = .returned (.string (strB (hexOf l))) ∧ Below w.heap.size w w' := rhex_any v l w hv hlen
theorem sort_length (k : Nat) (l : List (List UInt8)) : (sortL k l).length = l.length := by
  unfold sortL
  split
  · rename_i h; rw [h.2.1]; rfl
  · rfl
theorem leaf_text1 (n : Nat) (b : List UInt8) : strB [signOf 1] = strB (wText 1 n b []) := rfl
theorem leaf_textn (k n : Nat) (b : List UInt8) (hk : k = 2 ∨ k = 3) : strB [signOf k] ++ strB (decs n) = strB (wText k n b []) := by
  rw [strB_app]
  unfold wText joined itemsOf
  rcases hk with rfl | rfl <;> simp [numb, Lib.join_one]
theorem leaf_text4 (n : Nat) (b : List UInt8) : strB [signOf 4] ++ strB (hexOf b) = strB (wText 4 n b []) := by
  rw [strB_app]
  unfold wText joined itemsOf
  simp [numb, Lib.join_one]
theorem leaf_len (k n : Nat) (b : List UInt8) (hn : n ≤ top) (hb : b.length ≤ 100000) : (wText k n b []).length ≤ 300000 := by
  have hi : total (itemsOf k n b) ≤ 250000 := by
    unfold itemsOf
    split
    · have := decs_top n hn
      simp [total]; omega
    · split
      · simp [total, hexOf_length]; omega
      · simp [total]
  have hj : (joined k n b []).length ≤ 250000 := by
    unfold joined
    rw [List.append_nil]
    have := join_len (itemsOf k n b)
    omega
  unfold wText
  split <;> simp <;> omega

theorem rmake_zero (k n : Nat) (hk : k = 1) (hn : n ≤ top) (vb vl : Value) (b : List UInt8) (l : List (List UInt8)) (w : World) (hb : Bytes w vb b) (hl : Strs w vl l) (hbl : b.length ≤ 100000) (hll : l.length ≤ 1000) :
    Calls Try.prog 40 #[.int .i64 k, .int .u64 n, vb, vl] w fun e w' => e = .returned (.string (strB (refK k n b l))) ∧ Below w.heap.size w w' := by
  obtain ⟨T, hT⟩ : ∃ T, wText k n b [] = T := ⟨_, rfl⟩
  have hTl := leaf_len k n b hn hbl
  have HTX0 : Hid (strB [signOf k] = strB T) := Lib.hid (by rw [← hT]; rw [hk]; rfl)
  have hR : refK k n b l = if l = [] ∧ isL T = true then T else [] := by unfold refK; rw [if_pos (by omega), hT]
  rw [hT] at hTl
  have HR := Lib.hid hR
  have HN := Lib.hid hn
  have HBY := Lib.hid hb
  have hsl := sign_slice (k := k) (by omega) (by omega)
  have hs1 := strB_size [signOf k]
  simp only [List.length_singleton] at hs1
  obtain ⟨al, cl, rfl, _, hl⟩ := hl
  have hk1 : 1 ≤ k := by omega
  have hk4 : k ≤ 4 := by omega
  have e2 : ((k : Int) == 2) = false := b_ne (by omega)
  have e3 : ((k : Int) == 3) = false := b_ne (by omega)
  have e4 : ((k : Int) == 4) = false := b_ne (by omega)
  have hll2 : (l.length : Int) ≤ 1000 := by omega
  clear hb hl hT hR hn
  clear hk
  by_cases hl0 : l = []
  · subst hl0
    cases hL : isL T with
    | true =>
      have HO : Hid (refK k n b [] = T) := Lib.hid (by rw [HR.out, if_pos ⟨rfl, hL⟩])
      have HIS := Lib.hid (ris_v T (by unfold maxLen; omega) true hL)
      have HTX := HTX0
      clear hL
      go_enter Try.func40, Try.ntmps40
      go_wp2_with (first | (go_at_call 22; ((with_reducible refine (HIS.out _ HTX.out _).mono ?_); rintro e w3 ⟨rfl, hb3⟩)) | fail)
      go_ret
      exact ⟨ret_str (by rw [HO.out]; exact HTX0.out), hb3⟩
    | false =>
      have HO : Hid (refK k n b [] = []) := Lib.hid (by rw [HR.out, if_neg (by rw [hL]; simp)])
      have HIS := Lib.hid (ris_v T (by unfold maxLen; omega) false hL)
      have HTX := HTX0
      clear hL
      go_enter Try.func40, Try.ntmps40
      go_wp2_with (first | (go_at_call 22; ((with_reducible refine (HIS.out _ HTX.out _).mono ?_); rintro e w3 ⟨rfl, hb3⟩)) | fail)
      go_ret
      exact ⟨ret_str (by rw [HO.out]; rfl), hb3⟩
  · have HO : Hid (refK k n b l = []) := Lib.hid (by rw [HR.out, if_neg (fun h => hl0 h.1)])
    have hlp : (0 : Int) < l.length := by
      have := List.length_pos_iff.2 hl0; omega
    have hlpn : 0 < l.length := List.length_pos_iff.2 hl0
    clear hl0
    have HTX := HTX0
    go_enter Try.func40, Try.ntmps40
    go_wp2_with (first | fail)
    go_ret
    exact ⟨ret_str (by rw [HO.out]; rfl), Below.refl _ _⟩
theorem rmake_num (k n : Nat) (hk : k = 2 ∨ k = 3) (hn : n ≤ top) (vb vl : Value) (b : List UInt8) (l : List (List UInt8)) (w : World) (hb : Bytes w vb b) (hl : Strs w vl l) (hbl : b.length ≤ 100000) (hll : l.length ≤ 1000) :
    Calls Try.prog 40 #[.int .i64 k, .int .u64 n, vb, vl] w fun e w' => e = .returned (.string (strB (refK k n b l))) ∧ Below w.heap.size w w' := by
  obtain ⟨T, hT⟩ : ∃ T, wText k n b [] = T := ⟨_, rfl⟩
  have hTl := leaf_len k n b hn hbl
  have HTX0 : Hid (strB [signOf k] ++ strB (decs n) = strB T) := Lib.hid (by rw [← hT]; exact leaf_textn k n b hk)
  have hR : refK k n b l = if l = [] ∧ isL T = true then T else [] := by unfold refK; rw [if_pos (by omega), hT]
  rw [hT] at hTl
  have HR := Lib.hid hR
  have HN := Lib.hid hn
  have HBY := Lib.hid hb
  have hsl := sign_slice (k := k) (by omega) (by omega)
  have hs1 := strB_size [signOf k]
  simp only [List.length_singleton] at hs1
  have hs2 := strB_size (decs n); have hdt := decs_top n hn
  obtain ⟨al, cl, rfl, _, hl⟩ := hl
  have hk1 : 1 ≤ k := by omega
  have hk4 : k ≤ 4 := by omega
  have e23 : (((k : Int) == 2) = true ∧ ((k : Int) == 3) = false) ∨ (((k : Int) == 2) = false ∧ ((k : Int) == 3) = true) := by rcases hk with h | h <;> simp [h]
  have e4 : ((k : Int) == 4) = false := b_ne (by omega)
  have hll2 : (l.length : Int) ≤ 1000 := by omega
  clear hb hl hT hR hn
  clear hk
  by_cases hl0 : l = []
  · subst hl0
    cases hL : isL T with
    | true =>
      have HO : Hid (refK k n b [] = T) := Lib.hid (by rw [HR.out, if_pos ⟨rfl, hL⟩])
      have HIS := Lib.hid (ris_v T (by unfold maxLen; omega) true hL)
      have HTX := HTX0
      rcases e23 with ⟨e2, e3⟩ | ⟨e2, e3⟩
      all_goals
        clear hL
        go_enter Try.func40, Try.ntmps40
        go_wp2_with (first | (go_at_call 59; ((with_reducible refine (rprint_b n HN.out _).mono ?_); rintro e w1 ⟨rfl, hb1⟩)) | (go_at_call 22; ((with_reducible refine (HIS.out _ HTX.out _).mono ?_); rintro e w3 ⟨rfl, hb3⟩)) | fail)
        go_ret
        exact ⟨ret_str (by rw [HO.out]; exact HTX0.out), Below.next hb1 hb3⟩
    | false =>
      have HO : Hid (refK k n b [] = []) := Lib.hid (by rw [HR.out, if_neg (by rw [hL]; simp)])
      have HIS := Lib.hid (ris_v T (by unfold maxLen; omega) false hL)
      have HTX := HTX0
      rcases e23 with ⟨e2, e3⟩ | ⟨e2, e3⟩
      all_goals
        clear hL
        go_enter Try.func40, Try.ntmps40
        go_wp2_with (first | (go_at_call 59; ((with_reducible refine (rprint_b n HN.out _).mono ?_); rintro e w1 ⟨rfl, hb1⟩)) | (go_at_call 22; ((with_reducible refine (HIS.out _ HTX.out _).mono ?_); rintro e w3 ⟨rfl, hb3⟩)) | fail)
        go_ret
        exact ⟨ret_str (by rw [HO.out]; rfl), Below.next hb1 hb3⟩
  · have HO : Hid (refK k n b l = []) := Lib.hid (by rw [HR.out, if_neg (fun h => hl0 h.1)])
    have hlp : (0 : Int) < l.length := by
      have := List.length_pos_iff.2 hl0; omega
    have hlpn : 0 < l.length := List.length_pos_iff.2 hl0
    clear hl0
    have HTX := HTX0
    rcases e23 with ⟨e2, e3⟩ | ⟨e2, e3⟩
    all_goals
      go_enter Try.func40, Try.ntmps40
      go_wp2_with (first | (go_at_call 59; ((with_reducible refine (rprint_b n HN.out _).mono ?_); rintro e w1 ⟨rfl, hb1⟩)) | fail)
      go_ret
      exact ⟨ret_str (by rw [HO.out]; rfl), hb1⟩
theorem rmake_data (k n : Nat) (hk : k = 4) (hn : n ≤ top) (vb vl : Value) (b : List UInt8) (l : List (List UInt8)) (w : World) (hb : Bytes w vb b) (hl : Strs w vl l) (hbl : b.length ≤ 100000) (hll : l.length ≤ 1000) :
    Calls Try.prog 40 #[.int .i64 k, .int .u64 n, vb, vl] w fun e w' => e = .returned (.string (strB (refK k n b l))) ∧ Below w.heap.size w w' := by
  obtain ⟨T, hT⟩ : ∃ T, wText k n b [] = T := ⟨_, rfl⟩
  have hTl := leaf_len k n b hn hbl
  have HTX0 : Hid (strB [signOf k] ++ strB (hexOf b) = strB T) := Lib.hid (by rw [← hT]; rw [hk]; exact leaf_text4 n b)
  have hR : refK k n b l = if l = [] ∧ isL T = true then T else [] := by unfold refK; rw [if_pos (by omega), hT]
  rw [hT] at hTl
  have HR := Lib.hid hR
  have HN := Lib.hid hn
  have HBY := Lib.hid hb
  have hsl := sign_slice (k := k) (by omega) (by omega)
  have hs1 := strB_size [signOf k]
  simp only [List.length_singleton] at hs1
  have hs2 := strB_size (hexOf b); have hdt : (hexOf b).length ≤ 200000 := by rw [hexOf_length]; omega
  obtain ⟨al, cl, rfl, _, hl⟩ := hl
  have hk1 : 1 ≤ k := by omega
  have hk4 : k ≤ 4 := by omega
  have e2 : ((k : Int) == 2) = false := b_ne (by omega)
  have e3 : ((k : Int) == 3) = false := b_ne (by omega)
  have e4 : ((k : Int) == 4) = true := b_eq (by omega)
  have hll2 : (l.length : Int) ≤ 1000 := by omega
  clear hb hl hT hR hn
  clear hk
  by_cases hl0 : l = []
  · subst hl0
    cases hL : isL T with
    | true =>
      have HO : Hid (refK k n b [] = T) := Lib.hid (by rw [HR.out, if_pos ⟨rfl, hL⟩])
      have HIS := Lib.hid (ris_v T (by unfold maxLen; omega) true hL)
      have HTX := HTX0
      clear hL
      go_enter Try.func40, Try.ntmps40
      go_wp2_with (first | (go_at_call 60; ((with_reducible refine (rhex_b _ b _ HBY.out (by omega)).mono ?_); rintro e w1 ⟨rfl, hb1⟩)) | (go_at_call 22; ((with_reducible refine (HIS.out _ HTX.out _).mono ?_); rintro e w3 ⟨rfl, hb3⟩)) | fail)
      go_ret
      exact ⟨ret_str (by rw [HO.out]; exact HTX0.out), Below.next hb1 hb3⟩
    | false =>
      have HO : Hid (refK k n b [] = []) := Lib.hid (by rw [HR.out, if_neg (by rw [hL]; simp)])
      have HIS := Lib.hid (ris_v T (by unfold maxLen; omega) false hL)
      have HTX := HTX0
      clear hL
      go_enter Try.func40, Try.ntmps40
      go_wp2_with (first | (go_at_call 60; ((with_reducible refine (rhex_b _ b _ HBY.out (by omega)).mono ?_); rintro e w1 ⟨rfl, hb1⟩)) | (go_at_call 22; ((with_reducible refine (HIS.out _ HTX.out _).mono ?_); rintro e w3 ⟨rfl, hb3⟩)) | fail)
      go_ret
      exact ⟨ret_str (by rw [HO.out]; rfl), Below.next hb1 hb3⟩
  · have HO : Hid (refK k n b l = []) := Lib.hid (by rw [HR.out, if_neg (fun h => hl0 h.1)])
    have hlp : (0 : Int) < l.length := by
      have := List.length_pos_iff.2 hl0; omega
    have hlpn : 0 < l.length := List.length_pos_iff.2 hl0
    clear hl0
    have HTX := HTX0
    go_enter Try.func40, Try.ntmps40
    go_wp2_with (first | (go_at_call 60; ((with_reducible refine (rhex_b _ b _ HBY.out (by omega)).mono ?_); rintro e w1 ⟨rfl, hb1⟩)) | fail)
    go_ret
    exact ⟨ret_str (by rw [HO.out]; rfl), hb1⟩
end Go.Proofs.Ytjbmcjppaadkgaa

namespace Go.Proofs.Ytjbmcjppaadkgaa
set_option linter.unusedVariables false
set_option linter.unusedSimpArgs false
set_option maxRecDepth 100000
open Go.RowKit
theorem w2_x (w : World) : (((w.alloc (.cells #[.int .i64 0, .int .u32 0, .int .u32 0, .int .u64 0, .string ⟨#[]⟩, .string ⟨#[]⟩, .string ⟨#[]⟩, .string ⟨#[]⟩, .string ⟨#[]⟩, .string ⟨#[]⟩, .string ⟨#[]⟩, .string ⟨#[]⟩, .string ⟨#[]⟩] 25)).alloc (.cells #[.int .i64 0, .int .u32 0, .int .u32 0, .int .u64 0, .string ⟨#[]⟩, .string ⟨#[]⟩, .string ⟨#[]⟩, .string ⟨#[]⟩, .string ⟨#[]⟩, .string ⟨#[]⟩, .string ⟨#[]⟩, .string ⟨#[]⟩, .string ⟨#[]⟩] 25))).heap[w.heap.size]? = some (.cells #[.int .i64 0, .int .u32 0, .int .u32 0, .int .u64 0, .string ⟨#[]⟩, .string ⟨#[]⟩, .string ⟨#[]⟩, .string ⟨#[]⟩, .string ⟨#[]⟩, .string ⟨#[]⟩, .string ⟨#[]⟩, .string ⟨#[]⟩, .string ⟨#[]⟩] 25 (0, 0)) := (Below.heap_alloc _ _ _ (by simp)).trans (heap_alloc_new w _)
theorem rread_nil (a : Option Addr) (cp : Nat) (w : World) : Calls Try.prog 18 #[.slice a 0 cp] w (ReadRet6 w (readS [])) := by
  have hx := w2_x w
  have hy := new2 w (.cells #[.int .i64 0, .int .u32 0, .int .u32 0, .int .u64 0, .string ⟨#[]⟩, .string ⟨#[]⟩, .string ⟨#[]⟩, .string ⟨#[]⟩, .string ⟨#[]⟩, .string ⟨#[]⟩, .string ⟨#[]⟩, .string ⟨#[]⟩, .string ⟨#[]⟩] 25) (.cells #[.int .i64 0, .int .u32 0, .int .u32 0, .int .u64 0, .string ⟨#[]⟩, .string ⟨#[]⟩, .string ⟨#[]⟩, .string ⟨#[]⟩, .string ⟨#[]⟩, .string ⟨#[]⟩, .string ⟨#[]⟩, .string ⟨#[]⟩, .string ⟨#[]⟩] 25)
  obtain ⟨c0, c1, c2, c3, c4, c5, c6, c7, c8, c9, c10, c11, c12⟩ := cells13 hx
  obtain ⟨d0, d1, d2, d3, d4, d5, d6, d7, d8, d9, d10, d11, d12⟩ := cells13 hy
  have fz := fun i => free_of hx i
  go_enter Try.func18, Try.ntmps18
  go_wp2_with fail
  exact bodyPost_ret (res_cell13t (t := 2) (u := 3) rfl _ _ _ _ _ _ _ _ _ _ _ _ _ _ _ _ hx _ rfl rfl) rfl ⟨rfl, Below.next (below_one _) (below_one _)⟩
theorem kindB_no {n : Nat} (h : fsOf n = []) : n < 1 ∨ 4 < n := by
  have := fsOf_no h
  omega
theorem rread_kind (x : UInt8) (r : List UInt8) (b off cp : Nat) (w : World) (hk : fsOf x.toNat = []) (hc0 : w.cell? ⟨b, off, none⟩ = some (.int .u8 x.toNat)) : Calls Try.prog 18 #[.slice (some ⟨b, off, none⟩) (r.length + 1) cp] w (ReadRet6 w (readS (x :: r))) := by
  have HZ : Hid (readS (x :: r) = (3, 0, N0, X0)) := Lib.hid (if_pos hk)
  have hx := w2_x w
  have hy := new2 w (.cells #[.int .i64 0, .int .u32 0, .int .u32 0, .int .u64 0, .string ⟨#[]⟩, .string ⟨#[]⟩, .string ⟨#[]⟩, .string ⟨#[]⟩, .string ⟨#[]⟩, .string ⟨#[]⟩, .string ⟨#[]⟩, .string ⟨#[]⟩, .string ⟨#[]⟩] 25) (.cells #[.int .i64 0, .int .u32 0, .int .u32 0, .int .u64 0, .string ⟨#[]⟩, .string ⟨#[]⟩, .string ⟨#[]⟩, .string ⟨#[]⟩, .string ⟨#[]⟩, .string ⟨#[]⟩, .string ⟨#[]⟩, .string ⟨#[]⟩, .string ⟨#[]⟩] 25)
  obtain ⟨c0, c1, c2, c3, c4, c5, c6, c7, c8, c9, c10, c11, c12⟩ := cells13 hx
  obtain ⟨d0, d1, d2, d3, d4, d5, d6, d7, d8, d9, d10, d11, d12⟩ := cells13 hy
  have fz := fun i => free_of hx i
  have q0 : (((w.alloc (.cells #[.int .i64 0, .int .u32 0, .int .u32 0, .int .u64 0, .string ⟨#[]⟩, .string ⟨#[]⟩, .string ⟨#[]⟩, .string ⟨#[]⟩, .string ⟨#[]⟩, .string ⟨#[]⟩, .string ⟨#[]⟩, .string ⟨#[]⟩, .string ⟨#[]⟩] 25)).alloc (.cells #[.int .i64 0, .int .u32 0, .int .u32 0, .int .u64 0, .string ⟨#[]⟩, .string ⟨#[]⟩, .string ⟨#[]⟩, .string ⟨#[]⟩, .string ⟨#[]⟩, .string ⟨#[]⟩, .string ⟨#[]⟩, .string ⟨#[]⟩, .string ⟨#[]⟩] 25))).cell? ⟨b, off, none⟩ = some (.int .u8 x.toNat) := old1 _ (old1 _ hc0)
  have hxl := UInt8.toNat_lt x
  have hw64 : wrap64 (x.toNat : Int) = x.toNat := wrap64_id _ (by omega) (by omega)
  have hr0 : (0 : Int) ≤ r.length := by omega
  rcases kindB_no hk with h1 | h4
  · have h1i : (x.toNat : Int) < 1 := by omega
    clear h1 hk hc0
    go_enter Try.func18, Try.ntmps18
    go_wp2_with fail
    rw [HZ.out]
    exact bodyPost_ret (res_cell13t (t := 2) (u := 3) rfl _ _ _ _ _ _ _ _ _ _ _ _ _ _ _ _ hx _ rfl rfl) rfl ⟨rfl, Below.next (below_one _) (below_one _)⟩
  · have h1i : ¬ (x.toNat : Int) < 1 := by omega
    have h4i : (4 : Int) < x.toNat := by omega
    clear h4 hk hc0
    go_enter Try.func18, Try.ntmps18
    go_wp2_with fail
    rw [HZ.out]
    exact bodyPost_ret (res_cell13t (t := 2) (u := 3) rfl _ _ _ _ _ _ _ _ _ _ _ _ _ _ _ _ hx _ rfl rfl) rfl ⟨rfl, Below.next (below_one _) (below_one _)⟩
end Go.Proofs.Ytjbmcjppaadkgaa

namespace Go.Proofs.Ytjbmcjppaadkgaa
set_option linter.unusedVariables false
set_option linter.unusedSimpArgs false
set_option maxRecDepth 100000
open Go.RowKit
def szsOf (k : Nat) : List Nat := if k = 1 then [4] else if k = 2 then [4, 4] else if k = 3 then [4] else [4, 8]
def ncsOf (k : Nat) : List Nat := if k = 1 then [1] else if k = 2 then [1, 2] else if k = 3 then [2] else [2, 3]
def csOf (k : Nat) : List Nat := if k = 1 then [4, 5, 6, 11, 12] else if k = 2 then [4, 7, 11, 12] else if k = 3 then [8, 9] else [10]
def numFd (s c : Nat) : Fd := if s = 8 then .n8 c else .n4 c
theorem fs_split {k : Nat} (h1 : 1 ≤ k) (h4 : k ≤ 4) : fsOf k = .z :: (List.zipWith numFd (szsOf k) (ncsOf k) ++ (csOf k).map .t) := by
  have : k = 1 ∨ k = 2 ∨ k = 3 ∨ k = 4 := by omega
  rcases this with rfl | rfl | rfl | rfl <;> rfl
def updLN (N : Nat → Nat) : List Nat → List Nat → (Nat → Nat)
  | c :: cs, n :: ns => updLN (upd N c n) cs ns
  | _, _ => N
def updLX (X : Nat → ByteArray) : List Nat → List (List UInt8) → (Nat → ByteArray)
  | c :: cs, t :: ts => updLX (upd X c (strB t)) cs ts
  | _, _ => X
theorem updLN_nil (N : Nat → Nat) (cs : List Nat) : updLN N cs [] = N := by cases cs <;> rfl
theorem updLX_nil (X : Nat → ByteArray) (cs : List Nat) : updLX X cs [] = X := by cases cs <;> rfl
theorem updLN_snoc : ∀ (cs ns : List Nat) (N : Nat → Nat) (c n : Nat), cs[ns.length]? = some c → updLN N cs (ns ++ [n]) = upd (updLN N cs ns) c n
  | c' :: cs, [], N, c, n, h => by cases h; show updLN (upd N c' n) cs [] = _; rw [updLN_nil]; rfl
  | c' :: cs, m :: ns, N, c, n, h => updLN_snoc cs ns (upd N c' m) c n h
  | [], ns, N, c, n, h => by cases h
theorem updLX_snoc : ∀ (cs : List Nat) (ts : List (List UInt8)) (X : Nat → ByteArray) (c : Nat) (t : List UInt8), cs[ts.length]? = some c → updLX X cs (ts ++ [t]) = upd (updLX X cs ts) c (strB t)
  | c' :: cs, [], X, c, t, h => by cases h; show updLX (upd X c' (strB t)) cs [] = _; rw [updLX_nil]; rfl
  | c' :: cs, m :: ts, X, c, t, h => updLX_snoc cs ts (upd X c' (strB m)) c t h
  | [], ts, X, c, t, h => by cases h
theorem nums_next {kn j : Nat} (h1 : 1 ≤ kn) (h4 : kn ≤ 4) (hj : j < (szsOf kn).length) : ∃ s c, (szsOf kn)[j]? = some s ∧ (ncsOf kn)[j]? = some c ∧ (s = 4 ∨ s = 8) ∧ (List.zipWith numFd (szsOf kn) (ncsOf kn)).drop j = numFd s c :: (List.zipWith numFd (szsOf kn) (ncsOf kn)).drop (j + 1) := by
  have : kn = 1 ∨ kn = 2 ∨ kn = 3 ∨ kn = 4 := by omega
  rcases this with rfl | rfl | rfl | rfl
  · have : j = 0 := by simp [szsOf] at hj; omega
    subst this; exact ⟨4, 1, rfl, rfl, .inl rfl, rfl⟩
  · have : j = 0 ∨ j = 1 := by simp [szsOf] at hj; omega
    rcases this with rfl | rfl
    · exact ⟨4, 1, rfl, rfl, .inl rfl, rfl⟩
    · exact ⟨4, 2, rfl, rfl, .inl rfl, rfl⟩
  · have : j = 0 := by simp [szsOf] at hj; omega
    subst this; exact ⟨4, 2, rfl, rfl, .inl rfl, rfl⟩
  · have : j = 0 ∨ j = 1 := by simp [szsOf] at hj; omega
    rcases this with rfl | rfl
    · exact ⟨4, 2, rfl, rfl, .inl rfl, rfl⟩
    · exact ⟨8, 3, rfl, rfl, .inr rfl, rfl⟩
theorem nums_end (kn : Nat) : (List.zipWith numFd (szsOf kn) (ncsOf kn)).drop (szsOf kn).length = [] := by
  apply List.drop_eq_nil_of_le
  rw [List.length_zipWith]
  exact Nat.min_le_left _ _
theorem texts_next {kn j : Nat} (hj : j < (csOf kn).length) : ∃ c, (csOf kn)[j]? = some c ∧ (csOf kn).drop j = c :: (csOf kn).drop (j + 1) :=
  ⟨_, List.getElem?_eq_getElem hj, List.drop_eq_getElem_cons hj⟩
theorem rCont_num {s c : Nat} (hs : s = 4 ∨ s = 8) (fs : List Fd) (l : List UInt8) (N : Nat → Nat) (X : Nat → ByteArray) : rCont (numFd s c :: fs) (0, l, N, X) = rCont fs (rdNum s c l N X) := by
  have e : rF N X (numFd s c) l = rdNum s c l N X := by rcases hs with rfl | rfl <;> rfl
  show (if (0 : Nat) = 0 then _ else _) = _
  rw [if_pos rfl]
  show (if (rF N X (numFd s c) l).1 = 0 then _ else _) = _
  rw [e]; rfl
theorem rCont_txt (c : Nat) (fs : List Fd) (l : List UInt8) (N : Nat → Nat) (X : Nat → ByteArray) : rCont (.t c :: fs) (0, l, N, X) = rCont fs (rdTxt c l N X) := rfl
theorem readR_err {x : UInt8} {fs : List Fd} {e : Nat} {l : List UInt8} {N : Nat → Nat} {X : Nat → ByteArray} (he : e ≠ 0) : readR x (rCont fs (e, l, N, X)) = (e, 0, N0, X0) := by
  have h : rCont fs (e, l, N, X) = (e, l, N, X) := if_neg he
  rw [h]
  exact if_pos he
theorem tables (V : World) (m : Nat) (hm : V.heap.size = m) (kn : Nat) (h1 : 1 ≤ kn) (h4 : kn ≤ 4) :
    (∃ sb, ((((((((V.alloc (.cells #[] 3)).alloc (.cells #[.int .i64 4] 3)).alloc (.cells #[.int .i64 4, .int .i64 4] 3)).alloc (.cells #[.int .i64 4] 3)).alloc (.cells #[.int .i64 4, .int .i64 8] 3)).alloc (.cells #[.slice (some ⟨m, 0, none⟩) 0 0, .slice (some ⟨m + 1, 0, none⟩) 1 1, .slice (some ⟨m + 1 + 1, 0, none⟩) 2 2, .slice (some ⟨m + 1 + 1 + 1, 0, none⟩) 1 1, .slice (some ⟨m + 1 + 1 + 1 + 1, 0, none⟩) 2 2] 58)).alloc (.cells #[.int .i64 0, .int .i64 5, .int .i64 4, .int .i64 2, .int .i64 1] 3))).cell? ⟨m + 1 + 1 + 1 + 1 + 1, kn, none⟩ = some (.slice (some ⟨sb, 0, none⟩) (szsOf kn).length (szsOf kn).length) ∧ ∀ i s, (szsOf kn)[i]? = some s → ((((((((V.alloc (.cells #[] 3)).alloc (.cells #[.int .i64 4] 3)).alloc (.cells #[.int .i64 4, .int .i64 4] 3)).alloc (.cells #[.int .i64 4] 3)).alloc (.cells #[.int .i64 4, .int .i64 8] 3)).alloc (.cells #[.slice (some ⟨m, 0, none⟩) 0 0, .slice (some ⟨m + 1, 0, none⟩) 1 1, .slice (some ⟨m + 1 + 1, 0, none⟩) 2 2, .slice (some ⟨m + 1 + 1 + 1, 0, none⟩) 1 1, .slice (some ⟨m + 1 + 1 + 1 + 1, 0, none⟩) 2 2] 58)).alloc (.cells #[.int .i64 0, .int .i64 5, .int .i64 4, .int .i64 2, .int .i64 1] 3))).cell? ⟨sb, i, none⟩ = some (.int .i64 (s : Nat))) ∧
    ((((((((V.alloc (.cells #[] 3)).alloc (.cells #[.int .i64 4] 3)).alloc (.cells #[.int .i64 4, .int .i64 4] 3)).alloc (.cells #[.int .i64 4] 3)).alloc (.cells #[.int .i64 4, .int .i64 8] 3)).alloc (.cells #[.slice (some ⟨m, 0, none⟩) 0 0, .slice (some ⟨m + 1, 0, none⟩) 1 1, .slice (some ⟨m + 1 + 1, 0, none⟩) 2 2, .slice (some ⟨m + 1 + 1 + 1, 0, none⟩) 1 1, .slice (some ⟨m + 1 + 1 + 1 + 1, 0, none⟩) 2 2] 58)).alloc (.cells #[.int .i64 0, .int .i64 5, .int .i64 4, .int .i64 2, .int .i64 1] 3))).cell? ⟨m + 1 + 1 + 1 + 1 + 1 + 1, kn, none⟩ = some (.int .i64 ((csOf kn).length : Nat)) ∧ Below V.heap.size V ((((((((V.alloc (.cells #[] 3)).alloc (.cells #[.int .i64 4] 3)).alloc (.cells #[.int .i64 4, .int .i64 4] 3)).alloc (.cells #[.int .i64 4] 3)).alloc (.cells #[.int .i64 4, .int .i64 8] 3)).alloc (.cells #[.slice (some ⟨m, 0, none⟩) 0 0, .slice (some ⟨m + 1, 0, none⟩) 1 1, .slice (some ⟨m + 1 + 1, 0, none⟩) 2 2, .slice (some ⟨m + 1 + 1 + 1, 0, none⟩) 1 1, .slice (some ⟨m + 1 + 1 + 1 + 1, 0, none⟩) 2 2] 58)).alloc (.cells #[.int .i64 0, .int .i64 5, .int .i64 4, .int .i64 2, .int .i64 1] 3))) ∧ ((((((((V.alloc (.cells #[] 3)).alloc (.cells #[.int .i64 4] 3)).alloc (.cells #[.int .i64 4, .int .i64 4] 3)).alloc (.cells #[.int .i64 4] 3)).alloc (.cells #[.int .i64 4, .int .i64 8] 3)).alloc (.cells #[.slice (some ⟨m, 0, none⟩) 0 0, .slice (some ⟨m + 1, 0, none⟩) 1 1, .slice (some ⟨m + 1 + 1, 0, none⟩) 2 2, .slice (some ⟨m + 1 + 1 + 1, 0, none⟩) 1 1, .slice (some ⟨m + 1 + 1 + 1 + 1, 0, none⟩) 2 2] 58)).alloc (.cells #[.int .i64 0, .int .i64 5, .int .i64 4, .int .i64 2, .int .i64 1] 3))).heap.size = m + 7 := by
  have z0 := heap_alloc_new V (.cells #[] 3)
  have k0 : (V.alloc (.cells #[] 3)).heap.size = m + 1 := by simp [hm]
  have u0 := below_one (w := V) (.cells #[] 3)
  generalize V.alloc (.cells #[] 3) = V0 at *
  have z1 := heap_alloc_new V0 (.cells #[.int .i64 4] 3)
  have k1 : (V0.alloc (.cells #[.int .i64 4] 3)).heap.size = m + 1 + 1 := by simp [k0]
  have u1 := below_one (w := V0) (.cells #[.int .i64 4] 3)
  rw [k0] at z1
  generalize V0.alloc (.cells #[.int .i64 4] 3) = V1 at *
  have z2 := heap_alloc_new V1 (.cells #[.int .i64 4, .int .i64 4] 3)
  have k2 : (V1.alloc (.cells #[.int .i64 4, .int .i64 4] 3)).heap.size = m + 1 + 1 + 1 := by simp [k1]
  have u2 := below_one (w := V1) (.cells #[.int .i64 4, .int .i64 4] 3)
  rw [k1] at z2
  generalize V1.alloc (.cells #[.int .i64 4, .int .i64 4] 3) = V2 at *
  have z3 := heap_alloc_new V2 (.cells #[.int .i64 4] 3)
  have k3 : (V2.alloc (.cells #[.int .i64 4] 3)).heap.size = m + 1 + 1 + 1 + 1 := by simp [k2]
  have u3 := below_one (w := V2) (.cells #[.int .i64 4] 3)
  rw [k2] at z3
  generalize V2.alloc (.cells #[.int .i64 4] 3) = V3 at *
  have z4 := heap_alloc_new V3 (.cells #[.int .i64 4, .int .i64 8] 3)
  have k4 : (V3.alloc (.cells #[.int .i64 4, .int .i64 8] 3)).heap.size = m + 1 + 1 + 1 + 1 + 1 := by simp [k3]
  have u4 := below_one (w := V3) (.cells #[.int .i64 4, .int .i64 8] 3)
  rw [k3] at z4
  generalize V3.alloc (.cells #[.int .i64 4, .int .i64 8] 3) = V4 at *
  have z5 := heap_alloc_new V4 (.cells #[.slice (some ⟨m, 0, none⟩) 0 0, .slice (some ⟨m + 1, 0, none⟩) 1 1, .slice (some ⟨m + 1 + 1, 0, none⟩) 2 2, .slice (some ⟨m + 1 + 1 + 1, 0, none⟩) 1 1, .slice (some ⟨m + 1 + 1 + 1 + 1, 0, none⟩) 2 2] 58)
  have k5 : (V4.alloc (.cells #[.slice (some ⟨m, 0, none⟩) 0 0, .slice (some ⟨m + 1, 0, none⟩) 1 1, .slice (some ⟨m + 1 + 1, 0, none⟩) 2 2, .slice (some ⟨m + 1 + 1 + 1, 0, none⟩) 1 1, .slice (some ⟨m + 1 + 1 + 1 + 1, 0, none⟩) 2 2] 58)).heap.size = m + 1 + 1 + 1 + 1 + 1 + 1 := by simp [k4]
  have u5 := below_one (w := V4) (.cells #[.slice (some ⟨m, 0, none⟩) 0 0, .slice (some ⟨m + 1, 0, none⟩) 1 1, .slice (some ⟨m + 1 + 1, 0, none⟩) 2 2, .slice (some ⟨m + 1 + 1 + 1, 0, none⟩) 1 1, .slice (some ⟨m + 1 + 1 + 1 + 1, 0, none⟩) 2 2] 58)
  rw [k4] at z5
  generalize V4.alloc (.cells #[.slice (some ⟨m, 0, none⟩) 0 0, .slice (some ⟨m + 1, 0, none⟩) 1 1, .slice (some ⟨m + 1 + 1, 0, none⟩) 2 2, .slice (some ⟨m + 1 + 1 + 1, 0, none⟩) 1 1, .slice (some ⟨m + 1 + 1 + 1 + 1, 0, none⟩) 2 2] 58) = V5 at *
  have z6 := heap_alloc_new V5 (.cells #[.int .i64 0, .int .i64 5, .int .i64 4, .int .i64 2, .int .i64 1] 3)
  have k6 : (V5.alloc (.cells #[.int .i64 0, .int .i64 5, .int .i64 4, .int .i64 2, .int .i64 1] 3)).heap.size = m + 7 := by simp [k5]
  have u6 := below_one (w := V5) (.cells #[.int .i64 0, .int .i64 5, .int .i64 4, .int .i64 2, .int .i64 1] 3)
  rw [k5] at z6
  generalize V5.alloc (.cells #[.int .i64 0, .int .i64 5, .int .i64 4, .int .i64 2, .int .i64 1] 3) = V6 at *
  have y5 := (u6.block _ (by omega)).trans z5
  have y4 := ((u5.trans (u6.mono (by omega))).block _ (by omega)).trans z4
  have y3 := ((u4.trans ((u5.mono (by omega)).trans (u6.mono (by omega)))).block _ (by omega)).trans z3
  have y2 := ((u3.trans ((u4.mono (by omega)).trans ((u5.mono (by omega)).trans (u6.mono (by omega))))).block _ (by omega)).trans z2
  have y1 := ((u2.trans ((u3.mono (by omega)).trans ((u4.mono (by omega)).trans ((u5.mono (by omega)).trans (u6.mono (by omega)))))).block _ (by omega)).trans z1
  refine ⟨?_, ?_, ?_, k6⟩
  · have : kn = 1 ∨ kn = 2 ∨ kn = 3 ∨ kn = 4 := by omega
    rcases this with rfl | rfl | rfl | rfl
    · refine ⟨m + 1, cell_of y5 1 rfl, fun i s hi => ?_⟩
      have : i = 0 := by have := (List.getElem?_eq_some_iff.1 hi).1; simp [szsOf] at this; omega
      subst this; cases hi; exact cell_of y1 0 rfl
    · refine ⟨m + 1 + 1, cell_of y5 2 rfl, fun i s hi => ?_⟩
      have : i = 0 ∨ i = 1 := by have := (List.getElem?_eq_some_iff.1 hi).1; simp [szsOf] at this; omega
      rcases this with rfl | rfl
      · cases hi; exact cell_of y2 0 rfl
      · cases hi; exact cell_of y2 1 rfl
    · refine ⟨m + 1 + 1 + 1, cell_of y5 3 rfl, fun i s hi => ?_⟩
      have : i = 0 := by have := (List.getElem?_eq_some_iff.1 hi).1; simp [szsOf] at this; omega
      subst this; cases hi; exact cell_of y3 0 rfl
    · refine ⟨m + 1 + 1 + 1 + 1, cell_of y5 4 rfl, fun i s hi => ?_⟩
      have : i = 0 ∨ i = 1 := by have := (List.getElem?_eq_some_iff.1 hi).1; simp [szsOf] at this; omega
      rcases this with rfl | rfl
      · cases hi; exact cell_of y4 0 rfl
      · cases hi; exact cell_of y4 1 rfl
  · have : kn = 1 ∨ kn = 2 ∨ kn = 3 ∨ kn = 4 := by omega
    rcases this with rfl | rfl | rfl | rfl
    · exact cell_of z6 1 rfl
    · exact cell_of z6 2 rfl
    · exact cell_of z6 3 rfl
    · exact cell_of z6 4 rfl
  · exact u0.trans ((u1.mono (by omega)).trans ((u2.mono (by omega)).trans ((u3.mono (by omega)).trans ((u4.mono (by omega)).trans ((u5.mono (by omega)).trans (u6.mono (by omega)))))))
end Go.Proofs.Ytjbmcjppaadkgaa
