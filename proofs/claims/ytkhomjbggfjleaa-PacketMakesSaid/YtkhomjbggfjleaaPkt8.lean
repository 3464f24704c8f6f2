/- Packets: Make as a whole, the reference's Make. -/
import Derived.Test.YtkhomjbggfjleaaPkt7
namespace Go.Proofs.Ytkhomjbggfjleaa
set_option linter.unusedVariables false
set_option linter.unusedSimpArgs false
set_option maxRecDepth 100000
open Go.RowKit
theorem make_any (s d q : List UInt8) (sa da qa : Option Addr) (sc dc qc : Nat) (w : World) (hs : s.length ≤ 1000) (hd : d.length ≤ 1000) (hq : q.length ≤ 100000) (hsv : Bytes w (.slice sa s.length sc) s) (hdv : Bytes w (.slice da d.length dc) d) (hqv : Bytes w (.slice qa q.length qc) q) :
    Calls Try.prog 12 #[.slice sa s.length sc, .slice da d.length dc, .slice qa q.length qc] w (MakeRet w (makeP s d q)) := by
  by_cases h4 : s.length = 4 ∧ d.length = 4
  · by_cases hl : q.length ≤ 1980
    · have e : makeP s d q = (headOf false q.length ++ (s ++ (d ++ q)), 0) := by unfold makeP; rw [if_pos h4, if_pos hl]
      rw [e]
      have h := make_fine_4 s d q sa da qa sc dc qc w h4.1 h4.2 hl hsv hdv hqv
      rw [h4.1, h4.2]; exact h
    · have e : makeP s d q = ([], 5) := by unfold makeP; rw [if_pos h4, if_neg hl]
      rw [e, h4.1, h4.2]
      exact make_long_4 sa da qa sc dc q.length qc (by omega) w (by omega)
  · by_cases h6 : s.length = 16 ∧ d.length = 16
    · by_cases hl : q.length ≤ 1960
      · have e : makeP s d q = (headOf true q.length ++ (s ++ (d ++ q)), 0) := by unfold makeP; rw [if_neg h4, if_pos h6, if_pos hl]
        rw [e]
        have h := make_fine_6 s d q sa da qa sc dc qc w h6.1 h6.2 hl hsv hdv hqv
        rw [h6.1, h6.2]; exact h
      · have e : makeP s d q = ([], 5) := by unfold makeP; rw [if_neg h4, if_pos h6, if_neg hl]
        rw [e, h6.1, h6.2]
        exact make_long_6 sa da qa sc dc q.length qc (by omega) w (by omega)
    · have e : makeP s d q = ([], 3) := by unfold makeP; rw [if_neg h4, if_neg h6]
      rw [e]
      exact make_form sa da qa s.length sc d.length dc q.length qc (by omega) (by omega) hq w (by omega)
/-! the reference's Make -/
def RMakeRet (w : World) (r : List UInt8 × Nat) (e : Ending) (w' : World) : Prop :=
  ∃ v, e = .returned (.tuple #[v, .int .i64 r.2]) ∧ Bytes w' v r.1 ∧ Below w.heap.size w w'
theorem rmake_form (sa da qa : Option Addr) (sn sc dn dc qn qc : Nat) (hs : sn ≤ 100000) (hd : dn ≤ 100000) (w : World) (h : (sn ≠ 4 ∧ sn ≠ 16) ∨ sn ≠ dn) :
    Calls Try.prog 13 #[.slice sa sn sc, .slice da dn dc, .slice qa qn qc] w (RMakeRet w ([], 3)) := by
  by_cases hsd : sn = dn
  · have h1 : ((sn : Int) != dn) = false := bneq_i (by omega)
    have h2 : ((sn : Int) != 4) = true := bnet (by omega)
    have h3 : ((sn : Int) != 16) = true := bnet (by omega)
    clear h hsd
    go_enter Try.func13, Try.ntmps13
    go_wp2_with fail
    go_ret2
    exact ⟨_, rfl, bytes_nil _, Below.refl _ _⟩
  · have h1 : ((sn : Int) != dn) = true := bnet (by omega)
    clear h hsd
    go_enter Try.func13, Try.ntmps13
    go_wp2_with fail
    go_ret2
    exact ⟨_, rfl, bytes_nil _, Below.refl _ _⟩
theorem rmake_long_4 (sa da qa : Option Addr) (sc dc qn qc : Nat) (hq : qn ≤ 3000) (h : 1980 < qn) (w : World) :
    Calls Try.prog 13 #[.slice sa 4 sc, .slice da 4 dc, .slice qa qn qc] w (RMakeRet w ([], 5)) := by
  have hqi : (qn : Int) ≤ 3000 := by omega
  have hq0 : (0 : Int) ≤ qn := by omega
  have hq1 : (1980 : Int) < qn := by omega
  go_enter Try.func13, Try.ntmps13
  go_wp2_with fail
  go_ret2
  exact ⟨_, rfl, bytes_nil _, Below.next (below_one _) (below_one _)⟩
theorem rmake_long_6 (sa da qa : Option Addr) (sc dc qn qc : Nat) (hq : qn ≤ 3000) (h : 1960 < qn) (w : World) :
    Calls Try.prog 13 #[.slice sa 16 sc, .slice da 16 dc, .slice qa qn qc] w (RMakeRet w ([], 5)) := by
  have hqi : (qn : Int) ≤ 3000 := by omega
  have hq0 : (0 : Int) ≤ qn := by omega
  have hq1 : (1960 : Int) < qn := by omega
  go_enter Try.func13, Try.ntmps13
  go_wp2_with fail
  go_ret2
  exact ⟨_, rfl, bytes_nil _, below_one _⟩
theorem u8of {k : Nat} (h : k < 256) : ((UInt8.ofNat k).toNat : Int) = k := by rw [UInt8.toNat_ofNat']; omega
theorem head6_row (w : World) (n : Nat) (hn : n ≤ 3000) : (w.alloc (.cells #[.int .u8 96, .int .u8 0, .int .u8 0, .int .u8 0, .int .u8 ((n : Int) / 256), .int .u8 ((n : Int) % 256), .int .u8 0, .int .u8 0] 5)).ownsRow w.heap.size 5 1 (.slice (some ⟨w.heap.size, 0, none⟩) 8 8) 8 (cellsOf (headOf true n)) := by
  have h := World.ownsRow_lit w (e := 5) (size := 1) #[.int .u8 96, .int .u8 0, .int .u8 0, .int .u8 0, .int .u8 ((n : Int) / 256), .int .u8 ((n : Int) % 256), .int .u8 0, .int .u8 0] 8 (Nat.le_refl w.heap.size) (by decide) rfl
  have e : cellsOf (headOf true n) = [.int .u8 96, .int .u8 0, .int .u8 0, .int .u8 0, .int .u8 ((n : Int) / 256), .int .u8 ((n : Int) % 256), .int .u8 0, .int .u8 0] := by
    show [Value.int .u8 96, .int .u8 0, .int .u8 0, .int .u8 0, .int .u8 ((UInt8.ofNat (n / 256)).toNat : Int), .int .u8 ((UInt8.ofNat (n % 256)).toNat : Int), .int .u8 0, .int .u8 0] = _
    rw [u8of (by omega), u8of (by omega)]
    rfl
  rw [e]; exact h
theorem head4_row (w : World) (n : Nat) (hn : n ≤ 3000) : (w.alloc (.cells #[.int .u8 69, .int .u8 0, .int .u8 (((n : Int) + 20) / 256), .int .u8 (((n : Int) + 20) % 256), .int .u8 0, .int .u8 0, .int .u8 0, .int .u8 0, .int .u8 0, .int .u8 0, .int .u8 0, .int .u8 0] 5)).ownsRow w.heap.size 5 1 (.slice (some ⟨w.heap.size, 0, none⟩) 12 12) 12 (cellsOf (headOf false n)) := by
  have h := World.ownsRow_lit w (e := 5) (size := 1) #[.int .u8 69, .int .u8 0, .int .u8 (((n : Int) + 20) / 256), .int .u8 (((n : Int) + 20) % 256), .int .u8 0, .int .u8 0, .int .u8 0, .int .u8 0, .int .u8 0, .int .u8 0, .int .u8 0, .int .u8 0] 12 (Nat.le_refl w.heap.size) (by decide) rfl
  have e : cellsOf (headOf false n) = [.int .u8 69, .int .u8 0, .int .u8 (((n : Int) + 20) / 256), .int .u8 (((n : Int) + 20) % 256), .int .u8 0, .int .u8 0, .int .u8 0, .int .u8 0, .int .u8 0, .int .u8 0, .int .u8 0, .int .u8 0] := by
    show [Value.int .u8 69, .int .u8 0, .int .u8 ((UInt8.ofNat ((n + 20) / 256)).toNat : Int), .int .u8 ((UInt8.ofNat ((n + 20) % 256)).toNat : Int), .int .u8 0, .int .u8 0, .int .u8 0, .int .u8 0, .int .u8 0, .int .u8 0, .int .u8 0, .int .u8 0] = _
    rw [u8of (by omega), u8of (by omega)]
    rfl
  rw [e]; exact h
theorem row_mono {w : World} {b c : Nat} {e : TypeId} {v : Value} {n : Nat} {xs : List Value} (h : w.ownsRow b e 1 v n xs) (hc : c ≤ b) : w.ownsRow c e 1 v n xs := by
  refine ⟨h.1, ?_⟩
  rcases h.2 with h | ⟨g, cp, cur, h1, h2, h3⟩
  · exact .inl h
  · exact .inr ⟨g, cp, cur, h1, Nat.le_trans hc h2, h3⟩
set_option maxHeartbeats 2000000 in
theorem rmake_fine_6 (s d q : List UInt8) (sa da qa : Option Addr) (sc dc qc : Nat) (w : World) (hs : s.length = 16) (hd : d.length = 16) (hq : q.length ≤ 1960) (hsv : Bytes w (.slice sa s.length sc) s) (hdv : Bytes w (.slice da d.length dc) d) (hqv : Bytes w (.slice qa q.length qc) q) (hns : NilOk (.slice sa s.length sc)) (hnd : NilOk (.slice da d.length dc)) (hnq : NilOk (.slice qa q.length qc)) :
    Calls Try.prog 13 #[.slice sa 16 sc, .slice da 16 dc, .slice qa q.length qc] w (RMakeRet w (headOf true q.length ++ (s ++ (d ++ q)), 0)) := by
  have hqi : (q.length : Int) ≤ 1960 := by omega
  have hq0 : (0 : Int) ≤ q.length := by omega
  rw [hs] at hsv hns
  rw [hd] at hdv hnd
  have HSV := Lib.hid hsv
  have HDV := Lib.hid hdv
  have HQV := Lib.hid hqv
  have HNS := Lib.hid hns
  have HND := Lib.hid hnd
  have HNQ := Lib.hid hnq
  have HSN := Lib.hid hs
  have HDN := Lib.hid hd
  have HO := Lib.hid (head6_row w q.length (by omega))
  have HB : Hid (Below w.heap.size w (w.alloc (.cells #[.int .u8 96, .int .u8 0, .int .u8 0, .int .u8 0, .int .u8 ((q.length : Int) / 256), .int .u8 ((q.length : Int) % 256), .int .u8 0, .int .u8 0] 5))) := Lib.hid (below_one _)
  obtain ⟨RR, hRR⟩ : ∃ RR : List UInt8 × Nat, RR = (headOf true q.length ++ (s ++ (d ++ q)), 0) := ⟨_, rfl⟩
  rw [← hRR]
  have HRR := Lib.hid hRR
  clear hsv hdv hqv hns hnd hnq hs hd hRR
  go_enter Try.func13, Try.ntmps13
  go_wp2_with (first | (at_builtin; refine wpList_append_bytes rfl _ _ rfl w.heap.size _ _ _ rfl HO.out (.slice sa 16 sc) s rfl (HSV.out.below HB.out) HNS.out (by have := HSN.out; omega) HB.out.size ?_; intro v' w4 hown hgrow; have hb := HB.out.grown hgrow HB.out.size (fun g hg => (HO.out.lt g hg).1); have HO := Lib.hid hown; have HB := Lib.hid hb; clear hown hgrow hb) | (at_builtin; refine wpList_append_bytes rfl _ _ rfl w.heap.size _ _ _ rfl HO.out (.slice da 16 dc) d rfl (HDV.out.below HB.out) HND.out (by have := HSN.out; have := HDN.out; omega) HB.out.size ?_; intro v' w4 hown hgrow; have hb := HB.out.grown hgrow HB.out.size (fun g hg => (HO.out.lt g hg).1); have HO := Lib.hid hown; have HB := Lib.hid hb; clear hown hgrow hb) | (at_builtin; refine wpList_append_bytes rfl _ _ rfl w.heap.size _ _ _ rfl HO.out (.slice qa q.length qc) q rfl (HQV.out.below HB.out) HNQ.out (by have := HSN.out; have := HDN.out; omega) HB.out.size ?_; intro v' w4 hown hgrow; have hb := HB.out.grown hgrow HB.out.size (fun g hg => (HO.out.lt g hg).1); have HO := Lib.hid hown; have HB := Lib.hid hb; clear hown hgrow hb) | fail)
  go_ret2
  have ho := HO.out
  have hc : ∀ x y : List UInt8, cellsOf (x ++ y) = cellsOf x ++ cellsOf y := fun x y => by simp [cellsOf]
  rw [← hc, ← hc, ← hc, List.append_assoc, List.append_assoc] at ho
  refine ⟨_, by rw [HRR.out]; rfl, ?_, HB.out⟩
  rw [HRR.out]
  exact bytes_own ho
set_option maxHeartbeats 2000000 in
theorem rmake_fine_4 (s d q : List UInt8) (sa da qa : Option Addr) (sc dc qc : Nat) (w : World) (hs : s.length = 4) (hd : d.length = 4) (hq : q.length ≤ 1980) (hsv : Bytes w (.slice sa s.length sc) s) (hdv : Bytes w (.slice da d.length dc) d) (hqv : Bytes w (.slice qa q.length qc) q) (hns : NilOk (.slice sa s.length sc)) (hnd : NilOk (.slice da d.length dc)) (hnq : NilOk (.slice qa q.length qc)) :
    Calls Try.prog 13 #[.slice sa 4 sc, .slice da 4 dc, .slice qa q.length qc] w (RMakeRet w (headOf false q.length ++ (s ++ (d ++ q)), 0)) := by
  have hqi : (q.length : Int) ≤ 1980 := by omega
  have hq0 : (0 : Int) ≤ q.length := by omega
  rw [hs] at hsv hns
  rw [hd] at hdv hnd
  have HSV := Lib.hid hsv
  have HDV := Lib.hid hdv
  have HQV := Lib.hid hqv
  have HNS := Lib.hid hns
  have HND := Lib.hid hnd
  have HNQ := Lib.hid hnq
  have HSN := Lib.hid hs
  have HDN := Lib.hid hd
  have ho := row_mono (c := w.heap.size) (head4_row (w.alloc (.cells #[.int .u8 96, .int .u8 0, .int .u8 0, .int .u8 0, .int .u8 ((q.length : Int) / 256), .int .u8 ((q.length : Int) % 256), .int .u8 0, .int .u8 0] 5)) q.length (by omega)) (by simp)
  rw [show (w.alloc (.cells #[.int .u8 96, .int .u8 0, .int .u8 0, .int .u8 0, .int .u8 ((q.length : Int) / 256), .int .u8 ((q.length : Int) % 256), .int .u8 0, .int .u8 0] 5)).heap.size = w.heap.size + 1 by simp] at ho
  have HO := Lib.hid ho
  clear ho
  have HB : Hid (Below w.heap.size w ((w.alloc (.cells #[.int .u8 96, .int .u8 0, .int .u8 0, .int .u8 0, .int .u8 ((q.length : Int) / 256), .int .u8 ((q.length : Int) % 256), .int .u8 0, .int .u8 0] 5)).alloc (.cells #[.int .u8 69, .int .u8 0, .int .u8 (((q.length : Int) + 20) / 256), .int .u8 (((q.length : Int) + 20) % 256), .int .u8 0, .int .u8 0, .int .u8 0, .int .u8 0, .int .u8 0, .int .u8 0, .int .u8 0, .int .u8 0] 5))) := Lib.hid (Below.next (below_one _) (below_one _))
  obtain ⟨RR, hRR⟩ : ∃ RR : List UInt8 × Nat, RR = (headOf false q.length ++ (s ++ (d ++ q)), 0) := ⟨_, rfl⟩
  rw [← hRR]
  have HRR := Lib.hid hRR
  clear hsv hdv hqv hns hnd hnq hs hd hRR
  go_enter Try.func13, Try.ntmps13
  go_wp2_with (first | (at_builtin; refine wpList_append_bytes rfl _ _ rfl w.heap.size _ _ _ rfl HO.out (.slice sa 4 sc) s rfl (HSV.out.below HB.out) HNS.out (by have := HSN.out; omega) HB.out.size ?_; intro v' w4 hown hgrow; have hb := HB.out.grown hgrow HB.out.size (fun g hg => (HO.out.lt g hg).1); have HO := Lib.hid hown; have HB := Lib.hid hb; clear hown hgrow hb) | (at_builtin; refine wpList_append_bytes rfl _ _ rfl w.heap.size _ _ _ rfl HO.out (.slice da 4 dc) d rfl (HDV.out.below HB.out) HND.out (by have := HSN.out; have := HDN.out; omega) HB.out.size ?_; intro v' w4 hown hgrow; have hb := HB.out.grown hgrow HB.out.size (fun g hg => (HO.out.lt g hg).1); have HO := Lib.hid hown; have HB := Lib.hid hb; clear hown hgrow hb) | (at_builtin; refine wpList_append_bytes rfl _ _ rfl w.heap.size _ _ _ rfl HO.out (.slice qa q.length qc) q rfl (HQV.out.below HB.out) HNQ.out (by have := HSN.out; have := HDN.out; omega) HB.out.size ?_; intro v' w4 hown hgrow; have hb := HB.out.grown hgrow HB.out.size (fun g hg => (HO.out.lt g hg).1); have HO := Lib.hid hown; have HB := Lib.hid hb; clear hown hgrow hb) | fail)
  go_ret2
  have ho := HO.out
  have hc : ∀ x y : List UInt8, cellsOf (x ++ y) = cellsOf x ++ cellsOf y := fun x y => by simp [cellsOf]
  rw [← hc, ← hc, ← hc, List.append_assoc, List.append_assoc] at ho
  refine ⟨_, by rw [HRR.out]; rfl, ?_, HB.out⟩
  rw [HRR.out]
  exact bytes_own ho
theorem rmake_any (s d q : List UInt8) (sa da qa : Option Addr) (sc dc qc : Nat) (w : World) (hs : s.length ≤ 1000) (hd : d.length ≤ 1000) (hq : q.length ≤ 3000) (hsv : Bytes w (.slice sa s.length sc) s) (hdv : Bytes w (.slice da d.length dc) d) (hqv : Bytes w (.slice qa q.length qc) q) (hns : NilOk (.slice sa s.length sc)) (hnd : NilOk (.slice da d.length dc)) (hnq : NilOk (.slice qa q.length qc)) :
    Calls Try.prog 13 #[.slice sa s.length sc, .slice da d.length dc, .slice qa q.length qc] w (RMakeRet w (makeP s d q)) := by
  by_cases h4 : s.length = 4 ∧ d.length = 4
  · by_cases hl : q.length ≤ 1980
    · have e : makeP s d q = (headOf false q.length ++ (s ++ (d ++ q)), 0) := by unfold makeP; rw [if_pos h4, if_pos hl]
      rw [e]
      have h := rmake_fine_4 s d q sa da qa sc dc qc w h4.1 h4.2 hl hsv hdv hqv hns hnd hnq
      rw [h4.1, h4.2]; exact h
    · have e : makeP s d q = ([], 5) := by unfold makeP; rw [if_pos h4, if_neg hl]
      rw [e, h4.1, h4.2]
      exact rmake_long_4 sa da qa sc dc q.length qc hq (by omega) w
  · by_cases h6 : s.length = 16 ∧ d.length = 16
    · by_cases hl : q.length ≤ 1960
      · have e : makeP s d q = (headOf true q.length ++ (s ++ (d ++ q)), 0) := by unfold makeP; rw [if_neg h4, if_pos h6, if_pos hl]
        rw [e]
        have h := rmake_fine_6 s d q sa da qa sc dc qc w h6.1 h6.2 hl hsv hdv hqv hns hnd hnq
        rw [h6.1, h6.2]; exact h
      · have e : makeP s d q = ([], 5) := by unfold makeP; rw [if_neg h4, if_pos h6, if_neg hl]
        rw [e, h6.1, h6.2]
        exact rmake_long_6 sa da qa sc dc q.length qc hq (by omega) w
    · have e : makeP s d q = ([], 3) := by unfold makeP; rw [if_neg h4, if_neg h6]
      rw [e]
      exact rmake_form sa da qa s.length sc d.length dc q.length qc (by omega) (by omega) w (by omega)
end Go.Proofs.Ytkhomjbggfjleaa
