import Derived.Test.YtelfcdfbhnkakaaRef6
namespace Go.Proofs.Ytelfcdfbhnkakaa
set_option linter.unusedVariables false
set_option linter.unusedSimpArgs false
set_option maxRecDepth 100000
open Go.RowKit

def isT (t : List UInt8) : Bool := decide (0 < (nodeR t).1)
theorem field_node (w : World) (k n l cp m cb : Nat) (ad ab : Option Addr) : (Instr.field 27 (.agg #[.int .i64 k, .int .u64 n, .slice ab m cb, .slice ad l cp]) 0).run Try.prog w = .ok (.int .i64 k) w := by kernel_rfl
theorem ris_any (s : ByteArray) (hs : s.size ≤ maxLen) (w : World) : Calls Try.prog 24 #[.string s] w fun e w' => e = .returned (.bool (isT s.data.toList)) ∧ Below w.heap.size w w' := by
  have hrn := fun w => rnode_any s hs w
  unfold isT
  obtain ⟨x, hx⟩ : ∃ x, nodeR s.data.toList = x := ⟨_, rfl⟩
  rw [hx] at hrn ⊢
  obtain ⟨k, n, b, ps⟩ := x
  have HRN := Lib.hid hrn
  have hf := fun w l cp m cb ad ab => field_node w k n l cp m cb ad ab
  clear hrn hx
  show Calls _ _ _ _ fun e w' => e = .returned (.bool (decide (0 < k))) ∧ _
  go_enter Try.func24, Try.ntmps24
  go_wp2_with (first | (go_at_call 8; ((with_reducible refine (HRN.out _).mono ?_); rintro e w2 ⟨ab, cb, ap, cp, rfl, _, _, hB2⟩)) | fail)
  go_ret
  exact ⟨ret_bool (by simp), hB2⟩

theorem strs_cell2 {w : World} {a : Option Addr} {l : List (List UInt8)} {cap : Nat} (h : Strs w (.slice a l.length cap) l) (h0 : 0 < l.length) : ∃ b off, a = some ⟨b, off, none⟩ ∧ ∀ i, i < l.length → w.cell? ⟨b, off + i, none⟩ = some (.string (strB (l.getD i []))) := by
  obtain ⟨a', cap', e, _, h⟩ := h
  injection e with e1 e2 e3
  subst e1
  rcases h with h | ⟨b, off, rfl, h⟩
  · rw [h] at h0; simp at h0
  · exact ⟨b, off, rfl, h⟩
theorem take_next {l m : List (List UInt8)} {k : Nat} (h : l.take k = m.take k) (hl : k < l.length) (hm : k < m.length) (he : l.getD k [] = m.getD k []) : l.take (k + 1) = m.take (k + 1) := by
  rw [List.take_add_one, List.take_add_one, h]
  congr 1
  rw [List.getElem?_eq_getElem hl, List.getElem?_eq_getElem hm]
  simp [List.getD, List.getElem?_eq_getElem hl, List.getElem?_eq_getElem hm] at he
  simp [he]
theorem rsame2_any (va vb : Value) (la lb : List (List UInt8)) (w : World) (ha : Strs w va la) (hb : Strs w vb lb) (h1 : la.length ≤ maxLen) (h2 : lb.length ≤ maxLen) :
    Calls Try.prog 13 #[va, vb] w (EqRet w (la == lb)) := by
  unfold maxLen at h1 h2
  obtain ⟨a, ca, rfl, _⟩ := id ha
  obtain ⟨b, cb, rfl, _⟩ := id hb
  have HA := Lib.hid (strs_cell2 ha)
  have HB := Lib.hid (strs_cell2 hb)
  clear ha hb
  by_cases hlen : la.length = lb.length
  · have hne : ((la.length : Int) != lb.length) = false := b_neq (by omega)
    have HLEN := Lib.hid hlen
    clear hlen
    go_enter Try.func13, Try.ntmps13
    go_wp2_with fail
    go_loopw [5] (fun i wr => ∃ k m : Nat, i = .int .i64 k ∧ k ≤ la.length ∧ wr = w.drewN m ∧ la.take k = lb.take k) (fun i _ => la.length - (intOf i).toNat)
    case atStart => exact ⟨0, 0, rfl, by omega, rfl, by simp⟩
    case round =>
      obtain ⟨k, m, rfl, hk, rfl, ht⟩ := hrel
      have HT := Lib.hid ht
      clear ht
      by_cases hlt : k < la.length
      · obtain ⟨b1, o1, rfl, hc1⟩ := HA.out (by omega)
        obtain ⟨b2, o2, rfl, hc2⟩ := HB.out (by rw [← HLEN.out]; omega)
        have hk2 : k < lb.length := by rw [← HLEN.out]; exact hlt
        have c1 := hc1 k hlt
        have c2 := hc2 k hk2
        have hki : (k : Int) < la.length := by omega
        have hki2 : (k : Int) < lb.length := by omega
        have hk0 : (0 : Int) ≤ k := by omega
        clear hc1 hc2
        by_cases he : la.getD k [] = lb.getD k []
        · have HN := Lib.hid (take_next HT.out hlt hk2 he)
          rw [← he] at c2
          clear he
          generalize la.getD k [] = x at *
          have hxx : ((strB x).toList == (strB x).toList) = true := by simp
          go_wp2_with fail
          go_quiet (fail)
          go_wp2
          go_roundw
          case rel => exact ⟨k + 1, _, by go_num, hlt, rfl, HN.out⟩
          case measure => simp [intOf]; omega
        · have HN : Hid ((la == lb) = false) := Lib.hid (by
            rw [beq_eq_false_iff_ne]; intro h; exact he (by rw [h]))
          have hxy : ((strB (la.getD k [])).toList == (strB (lb.getD k [])).toList) = false := by
            cases hh : ((strB (la.getD k [])).toList == (strB (lb.getD k [])).toList) with
            | false => rfl
            | true => exact absurd (by rw [str_eq] at hh; exact eq_of_beq hh) he
          clear he
          generalize la.getD k [] = x at *
          generalize lb.getD k [] = y at *
          go_wp2_with fail
          go_quiet (fail)
          go_wp2
          go_ret
          exact ⟨ret_bool (by rw [HN.out]), _, World.drewN_drewN _ _ _⟩
      · have HN : Hid ((la == lb) = true) := Lib.hid (by
          have h := HT.out
          rw [List.take_of_length_le (by omega), List.take_of_length_le (by rw [← HLEN.out]; omega)] at h
          rw [h]; simp)
        go_wp2_with fail
        go_ret
        exact ⟨ret_bool (by rw [HN.out]), _, rfl⟩
  · have hne : ((la.length : Int) != lb.length) = true := b_nne (by omega)
    have HN : Hid ((la == lb) = false) := Lib.hid (by rw [beq_eq_false_iff_ne]; intro h; exact hlen (by rw [h]))
    clear hlen
    go_enter Try.func13, Try.ntmps13
    go_wp2_with fail
    go_ret
    exact ⟨ret_bool (by rw [HN.out]), 0, rfl⟩
end Go.Proofs.Ytelfcdfbhnkakaa
