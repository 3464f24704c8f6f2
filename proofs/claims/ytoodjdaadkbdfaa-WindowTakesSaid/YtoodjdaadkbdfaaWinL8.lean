/- Windows: the law WindowTakes: the walk. -/
import Derived.Test.YtoodjdaadkbdfaaWinL7
import Derived.Test.YtoodjdaadkbdfaaWinL3
namespace Go.Proofs.Ytoodjdaadkbdfaa
set_option linter.unusedVariables false
set_option linter.unusedSimpArgs false
set_option maxRecDepth 100000
open Go.RowKit
theorem below_told {w w' : World} (h : ∃ q, w' = w.drewN q) : Below w.heap.size w w' := by
  obtain ⟨q, rfl⟩ := h
  exact below_self _ q
theorem TkInv.told {w wr w' : World} {B M X : Nat} {o : Value} {Lw Lb : List Nat} {a : Option Addr} {cap : Nat} (h : TkInv w wr B M X o Lw Lb a cap) (hq : ∃ q, w' = wr.drewN q) : TkInv w w' B M X o Lw Lb a cap := by
  obtain ⟨q, rfl⟩ := hq
  exact h.below (below_self _ q)
set_option maxHeartbeats 4000000 in
theorem windowtakes_go (ad : Option Addr) (cap : Nat) (l : List Nat) (at' : Int) (w : World) (hv : U64s w (.slice ad l.length cap) l) (hw : ∀ x ∈ l, x < 2 ^ 64) (hn : l.length ≤ 300) :
    Calls Try.prog 3 #[.slice ad l.length cap, .int .i64 at'] w fun e w' => e = .returned (.bool true) ∧ Below w.heap.size w w' := by
  have HV := Lib.hid hv
  have HW := Lib.hid hw
  have HN := Lib.hid hn
  have hn1 : ¬ (300 : Int) < l.length := by omega
  have hn2 : (l.length : Int) ≤ 300 := by omega
  clear hv hw hn
  go_enter Try.func3, Try.ntmps3
  go_wp2_with (first | (go_at_call 6; ((with_reducible refine (awake7_any _).mono ?_); rintro e w2 ⟨rfl, hb⟩; have HB := Lib.hid hb; clear hb)) | (go_at_call 7; ((with_reducible refine (new_any _).mono ?_); rintro e w3 ⟨rfl, ha, hb⟩; have HA := Lib.hid ha; have HBS : Hid (w.heap.size ≤ w2.heap.size) := Lib.hid HB.out.size; have HB := Lib.hid (Below.next HB.out hb); clear ha hb)) | fail)
  have HT : Hid (TkInv w ((w3.alloc (.cells #[.slice none 0 0] 27)).alloc (.cells #[.slice none 0 0] 27)) w2.heap.size w3.heap.size (w3.heap.size + 1) (.pointer none) [] [] none 0) := Lib.hid (by
    have b1 : Below w3.heap.size w3 ((w3.alloc (.cells #[.slice none 0 0] 27)).alloc (.cells #[.slice none 0 0] 27)) := Below.next (below_one _) (below_one _)
    have h1 : (w3.alloc (.cells #[.slice none 0 0] 27)).heap[w3.heap.size]? = some (.cells #[.slice none 0 0] 27 (0, 0)) := heap_alloc_new w3 _
    have h2 : ((w3.alloc (.cells #[.slice none 0 0] 27)).alloc (.cells #[.slice none 0 0] 27)).heap[w3.heap.size]? = some (.cells #[.slice none 0 0] 27 (0, 0)) := (Below.heap_alloc _ _ _ (lt_of_heap h1)).trans h1
    have h3 : ((w3.alloc (.cells #[.slice none 0 0] 27)).alloc (.cells #[.slice none 0 0] 27)).heap[w3.heap.size + 1]? = some (.cells #[.slice none 0 0] 27 (0, 0)) := by
      have h := heap_alloc_new (w3.alloc (.cells #[.slice none 0 0] 27)) (.cells #[.slice none 0 0] 27)
      simpa using h
    exact ⟨Below.next HB.out b1, HA.out.below b1, good_nil, box_nil h2, [], none, 0, box_nil h3, good_nil, by simp, .inl rfl⟩)
  have HMS0 : Hid (w.heap.size ≤ w3.heap.size) := Lib.hid HB.out.size
  have HXS : Hid (w.heap.size ≤ w3.heap.size + 1) := Lib.hid (Nat.le_succ_of_le HB.out.size)
  generalize hw0 : (w3.alloc (.cells #[.slice none 0 0] 27)).alloc (.cells #[.slice none 0 0] 27) = w0 at *
  clear hw0 HA HB
  generalize w3.heap.size = M at *
  have HNE : Hid (M + 1 ≠ M) := Lib.hid (by omega)
  generalize w2.heap.size = B at *
  go_loopw [7, 9] (fun o i wr => ∃ (k : Nat) (L : List Nat) (a1 : Option Addr) (cap1 : Nat), i = .int .i64 k ∧ k ≤ l.length ∧ L.length ≤ k ∧ TkInv w wr B M (M + 1) o L L a1 cap1) (fun o i _ => l.length - (intOf i).toNat)
  case atStart => exact ⟨0, [], none, 0, rfl, Nat.zero_le _, Nat.le_refl _, HT.out⟩
  case round =>
    obtain ⟨k, L, a1, cap1, rfl, hk, hL, ht⟩ := hrel
    have HT := Lib.hid ht
    have HL := Lib.hid hL
    clear ht hL
    by_cases hlt : k < l.length
    · obtain ⟨b, off, rfl, hc0⟩ := u64s_cell HV.out hlt
      have hx64 := HW.out _ (getD_mem l k hlt)
      have hk1 : (k : Int) < l.length := by omega
      have hk0 : (0 : Int) ≤ k := by omega
      have HLT := Lib.hid hlt
      have HL1 : Hid (L.length ≤ 300) := Lib.hid (by have := HL.out; have := HN.out; omega)
      generalize l.getD k 0 = x at *
      have HC0 := Lib.hid hc0
      clear hc0 hlt hk
      by_cases hat : (k : Int) = at'
      · have hat1 : ((k : Int) == at') = true := by simp [hat]
        clear hat
        have HCL := Lib.hid (fun w h => clone_any B L w h)
        unfold CloneRet at HCL
        go_wp2_with fail
        have HT := Lib.hid (TkInv.below HT.out (Below.drew (Below.refl _ _)))
        have m0 := HT.out.m0; have f0 := HT.out.f0; obtain ⟨vx, x0⟩ := HT.out.x0; have g0 := HT.out.g0
        go_region_held3 (fun W => W.cell? ⟨M, 0, none⟩ = some (.slice a1 L.length cap1)) (first | exact m0 | go_keep) (first | (go_at_call 8; ((with_reducible refine (HCL.out _ HT.out.win).mono ?_); rintro e w4 ⟨rfl, hc, hb⟩; have HT0 := HT; have HT := Lib.hid (TkInv.below HT.out hb); have m0 := HT.out.m0; have f0 := HT.out.f0; obtain ⟨vx, x0⟩ := HT.out.x0; have g0 := HT.out.g0; have HC1 := Lib.hid hc; clear hc hb)) | fail)
        go_wp2_with fail
        have HT := Lib.hid (TkInv.clone HT.out HXS.out (show M ≠ M + 1 by omega) HL1.out (show w.heap.size ≤ wr.heap.size from HT0.out.bel.size) (show wr.heap.size ≠ B from fun e => by obtain ⟨c, hc⟩ := HT0.out.win.heap; have := lt_of_heap hc; rw [← e] at this; exact Nat.lt_irrefl _ this) HC1.out)
        clear m0 f0 x0 g0
        generalize w4.setCell ⟨M + 1, 0, none⟩ (.slice a1 L.length cap1) = wr2 at *
        generalize wr.heap.size = D at *
        have m0 := HT.out.m0; have f0 := HT.out.f0; obtain ⟨vx, x0⟩ := HT.out.x0; have g0 := HT.out.g0
        have c1 : wr2.cell? ⟨b, off + k, none⟩ = some (.int .u64 (x : Nat)) := cell_keep4 HC0.out HT.out.bel
        have hcase : wouldL L x = 0 ∨ (wouldL L x ≠ 0 ∧ L = []) ∨ (wouldL L x ≠ 0 ∧ L ≠ []) := by
          by_cases h0 : wouldL L x = 0
          · exact .inl h0
          · by_cases h1 : L = []
            · exact .inr (.inl ⟨h0, h1⟩)
            · exact .inr (.inr ⟨h0, h1⟩)
        have HRW : Hid (∀ a cap w, U64s w (.slice a L.length cap) L → Calls Try.prog 9 #[.agg #[.slice a L.length cap], .int .u64 x] w (CodeRet (wouldL L x) w)) := Lib.hid (fun a cap w h => rwould_any a cap L x w h HT.out.good hx64 (by have := HL1.out; omega))
        have HWD := Lib.hid (fun w h => would_any B x L w h HT.out.good hx64)
        have HTK := Lib.hid (fun w h => take_any B x L w h HT.out.good hx64)
        have HGT := Lib.hid (good_take (c := x) HT.out.good)
        unfold Told at HWD
        unfold TakeRet at HTK
        have HLL : Hid ((takeL L x).length ≤ k + 1) := Lib.hid (by have := HL.out; unfold takeL; split <;> simp <;> omega)
        obtain ⟨L2, hL2⟩ : ∃ L2, L2 = takeL L x := ⟨_, rfl⟩
        rw [← hL2] at HTK HGT HLL
        have HL2 : Hid (L2.length ≤ 100000) := Lib.hid (by have := HLL.out; have := HLT.out; have := HN.out; omega)
        have HTP := Lib.hid (fun w h => top_any B L2 w h HGT.out)
        have HMS := Lib.hid (fun w h => missing_any B L2 w h HGT.out)
        have HRTP := Lib.hid (fun a cap w h => rtop_any a cap L2 w h HL2.out)
        have HRMS := Lib.hid (fun a cap w h => rmissing_any a cap L2 w h HGT.out HL2.out)
        unfold TopRet at HTP
        unfold Told at HMS
        rcases hcase with h0 | ⟨h0, h1⟩ | ⟨h0, h1⟩
        · have eL : L2 = L ++ [x] := by rw [hL2]; unfold takeL; rw [if_pos h0]
          rw [h0] at HRW HWD HTK
          have HRT : Hid (∀ a cap w, U64s w (.slice a L.length cap) L → Calls Try.prog 12 #[.agg #[.slice a L.length cap], .int .u64 x] w (RTakeRet L x w)) := Lib.hid (fun a cap w h => rtake_any a cap L x w h (by have := HL1.out; omega))
          unfold RTakeRet at HRT
          rw [← eL] at HRT
          have HEL : Hid (L.length + 1 = L2.length) := Lib.hid (by rw [eL]; simp)
          rw [decide_eq_true (show L2 ≠ [] by rw [eL]; simp)] at HTP
          have hz : (0 : Int) < L2.length := by rw [← HEL.out]; omega
          have hz2 : 0 < L2.length := by omega
          clear eL hL2
          clear h0 hx64
          go_wp2_with fail
          go_still_tail 5, (by kernel_rfl)
          have HTd := Lib.hid (TkInv.below HT.out (Below.drew (Below.refl _ _)))
          have HT := HTd
          clear HTd
          change wpList _ _ _ _ _ wr2.drew
          generalize wr2.drew = w4 at *
          have m0 := HT.out.m0; have f0 := HT.out.f0; obtain ⟨vx, x0⟩ := HT.out.x0; have g0 := HT.out.g0
          have c1 : w4.cell? ⟨b, off + k, none⟩ = some (.int .u64 (x : Nat)) := cell_keep4 HC0.out HT.out.bel
          go_wp2_with (first | (go_at_call 9; ((with_reducible refine (HRW.out _ _ _ HT.out.box.row).mono ?_); rintro e w4 ⟨rfl, hb⟩; have HT := Lib.hid (TkInv.below HT.out hb); have m0 := HT.out.m0; have f0 := HT.out.f0; obtain ⟨vx, x0⟩ := HT.out.x0; have g0 := HT.out.g0; have c1 : w4.cell? ⟨b, off + k, none⟩ = some (.int .u64 (x : Nat)) := cell_keep4 HC0.out HT.out.bel; clear hb)) | (go_at_call 10; ((with_reducible refine (HWD.out _ HT.out.win).mono ?_); rintro e w4 ⟨rfl, hq⟩; have HT := Lib.hid (TkInv.told HT.out hq); have m0 := HT.out.m0; have f0 := HT.out.f0; obtain ⟨vx, x0⟩ := HT.out.x0; have g0 := HT.out.g0; have c1 : w4.cell? ⟨b, off + k, none⟩ = some (.int .u64 (x : Nat)) := cell_keep4 HC0.out HT.out.bel; clear hq)) | (go_at_call 11; ((with_reducible refine (HTK.out _ HT.out.win).mono ?_); rintro e w4 ⟨rfl, ha, hg⟩; have HT := Lib.hid (TkInv.take HT.out HBS.out hg ha HGT.out); have m0 := HT.out.m0; have f0 := HT.out.f0; obtain ⟨vx, x0⟩ := HT.out.x0; have g0 := HT.out.g0; have c1 : w4.cell? ⟨b, off + k, none⟩ = some (.int .u64 (x : Nat)) := cell_keep4 HC0.out HT.out.bel; clear ha hg)) | fail)
          go_still_tail 5, (by kernel_rfl)
          have HTd := Lib.hid (TkInv.below HT.out (Below.drew (Below.refl _ _)))
          have HT := HTd
          clear HTd
          change wpList _ _ _ _ _ w4.drew
          generalize w4.drew = w5 at *
          have m0 := HT.out.m0; have f0 := HT.out.f0; obtain ⟨vx, x0⟩ := HT.out.x0; have g0 := HT.out.g0
          have c1 : w5.cell? ⟨b, off + k, none⟩ = some (.int .u64 (x : Nat)) := cell_keep4 HC0.out HT.out.bel
          go_wp2_with (first | (go_at_call 12; ((with_reducible refine (HRT.out _ _ _ HT.out.box.row).mono ?_); rintro e w4 ⟨a3, cap3, rfl, hu, hr, hb⟩; have HT := Lib.hid (TkInv.below HT.out hb); have HU := Lib.hid hu; have HR := Lib.hid hr; have m0 := HT.out.m0; have f0 := HT.out.f0; obtain ⟨vx, x0⟩ := HT.out.x0; have g0 := HT.out.g0; have c1 : w4.cell? ⟨b, off + k, none⟩ = some (.int .u64 (x : Nat)) := cell_keep4 HC0.out HT.out.bel; clear hb hu hr)) | fail)
          have HT := Lib.hid (TkInv.put HT.out HMS0.out HNE.out HEL.out HU.out HR.out)
          generalize w4.setCell ⟨M, 0, none⟩ (.slice a3 (L.length + 1) cap3) = w5 at *
          clear m0 f0 x0 g0
          have m0 := HT.out.m0
          go_wp2_with (first | (go_at_call 13; ((with_reducible refine (HTP.out _ HT.out.win).mono ?_); rintro e w4 ⟨rfl, hq⟩; have HT := Lib.hid (TkInv.told HT.out hq); have m0 := HT.out.m0; have f0 := HT.out.f0; obtain ⟨vx, x0⟩ := HT.out.x0; have g0 := HT.out.g0; clear hq)) | fail)
          have HTd := Lib.hid (TkInv.below HT.out (Below.drew (Below.refl _ _)))
          have HT := HTd
          clear HTd
          have m0 := HT.out.m0
          refine wp_region_held_drew (S := (fun W => W.cell? ⟨M, 0, none⟩ = some (.slice a3 L2.length cap3))) (by kernel_rfl) ?_ (fun hHeld0 => ?_)
          · (try dsimp only); exact m0
          first
          | (refine wpAnyH_take (i := 0) (oi := { dst := some 72, op := Go.Op.move (Go.Operand.tmp 12), type := 4, pos := "law.go:40", after := #[], guard := none }) (v := ?_) rfl (by kernel_rfl) (by kernel_rfl) (by kernel_rfl) (fun _ _ _ h => h) (Or.inl ⟨by rfl, ?_⟩) hHeld0 ?_
             rotate_left
             · ((intro w hSw; (try dsimp only at hSw); go_simp) <;> (first | with_reducible rfl | (rw [if_neg (by omega)]; done))))
          | (refine wpAnyH_take (i := 0) (oi := { dst := some 72, op := Go.Op.move (Go.Operand.tmp 12), type := 4, pos := "law.go:40", after := #[], guard := none }) (v := undef) rfl (by kernel_rfl) (by kernel_rfl) (by kernel_rfl) (fun _ _ _ h => h) (Or.inr ⟨by rfl, rfl⟩) hHeld0 ?_)
          try simp only [Act.put, List.setIfInBounds_toArray, List.set_cons_zero, List.set_cons_succ]
          first
          | (refine wpAnyH_take (i := 1) (oi := { dst := some 73, op := Go.Op.fieldAddr 27 (Go.Operand.tmp 6) 0, type := 0, pos := "law.go:40", after := #[], guard := none }) (v := ?_) rfl (by kernel_rfl) (by kernel_rfl) (by kernel_rfl) (fun _ _ _ h => h) (Or.inl ⟨by rfl, ?_⟩) hHeld0 ?_
             rotate_left
             · ((intro w hSw; (try dsimp only at hSw); go_simp) <;> (first | with_reducible rfl | (rw [if_neg (by omega)]; done))))
          | (refine wpAnyH_take (i := 1) (oi := { dst := some 73, op := Go.Op.fieldAddr 27 (Go.Operand.tmp 6) 0, type := 0, pos := "law.go:40", after := #[], guard := none }) (v := undef) rfl (by kernel_rfl) (by kernel_rfl) (by kernel_rfl) (fun _ _ _ h => h) (Or.inr ⟨by rfl, rfl⟩) hHeld0 ?_)
          try simp only [Act.put, List.setIfInBounds_toArray, List.set_cons_zero, List.set_cons_succ]
          first
          | (refine wpAnyH_take (i := 2) (oi := { dst := some 74, op := Go.Op.load 22 (Go.Operand.tmp 73), type := 22, pos := "law.go:40", after := #[{ on := 1, ground := Go.Ground.data }], guard := none }) (v := ?_) rfl (by kernel_rfl) (by kernel_rfl) (by kernel_rfl) (fun _ _ _ h => h) (Or.inl ⟨by rfl, ?_⟩) hHeld0 ?_
             rotate_left
             · ((intro w hSw; (try dsimp only at hSw); go_simp) <;> (first | with_reducible rfl | (rw [if_neg (by omega)]; done))))
          | (refine wpAnyH_take (i := 2) (oi := { dst := some 74, op := Go.Op.load 22 (Go.Operand.tmp 73), type := 22, pos := "law.go:40", after := #[{ on := 1, ground := Go.Ground.data }], guard := none }) (v := undef) rfl (by kernel_rfl) (by kernel_rfl) (by kernel_rfl) (fun _ _ _ h => h) (Or.inr ⟨by rfl, rfl⟩) hHeld0 ?_)
          try simp only [Act.put, List.setIfInBounds_toArray, List.set_cons_zero, List.set_cons_succ]
          first
          | (refine wpAnyH_take (i := 3) (oi := { dst := some 75, op := Go.Op.call { callee := Go.Callee.builtin Go.Builtin.len, args := #[Go.Operand.tmp 74], argTypes := #[22] }, type := 3, pos := "law.go:40", after := #[{ on := 2, ground := Go.Ground.data }], guard := none }) (v := ?_) rfl (by kernel_rfl) (by kernel_rfl) (by kernel_rfl) (fun _ _ _ h => h) (Or.inl ⟨by rfl, ?_⟩) hHeld0 ?_
             rotate_left
             · ((intro w hSw; (try dsimp only at hSw); go_simp) <;> (first | with_reducible rfl | (rw [if_neg (by omega)]; done))))
          | (refine wpAnyH_take (i := 3) (oi := { dst := some 75, op := Go.Op.call { callee := Go.Callee.builtin Go.Builtin.len, args := #[Go.Operand.tmp 74], argTypes := #[22] }, type := 3, pos := "law.go:40", after := #[{ on := 2, ground := Go.Ground.data }], guard := none }) (v := undef) rfl (by kernel_rfl) (by kernel_rfl) (by kernel_rfl) (fun _ _ _ h => h) (Or.inr ⟨by rfl, rfl⟩) hHeld0 ?_)
          try simp only [Act.put, List.setIfInBounds_toArray, List.set_cons_zero, List.set_cons_succ]
          first
          | (refine wpAnyH_take (i := 4) (oi := { dst := some 76, op := Go.Op.binOp Go.BinOp.gtr 3 (Go.Operand.tmp 75) (Go.Operand.const (Go.Value.int Go.IntKind.i64 0)) 3, type := 4, pos := "law.go:40", after := #[{ on := 3, ground := Go.Ground.data }], guard := none }) (v := ?_) rfl (by kernel_rfl) (by kernel_rfl) (by kernel_rfl) (fun _ _ _ h => h) (Or.inl ⟨by rfl, ?_⟩) hHeld0 ?_
             rotate_left
             · ((intro w hSw; (try dsimp only at hSw); go_simp) <;> (first | with_reducible rfl | (rw [if_neg (by omega)]; done))))
          | (refine wpAnyH_take (i := 4) (oi := { dst := some 76, op := Go.Op.binOp Go.BinOp.gtr 3 (Go.Operand.tmp 75) (Go.Operand.const (Go.Value.int Go.IntKind.i64 0)) 3, type := 4, pos := "law.go:40", after := #[{ on := 3, ground := Go.Ground.data }], guard := none }) (v := undef) rfl (by kernel_rfl) (by kernel_rfl) (by kernel_rfl) (fun _ _ _ h => h) (Or.inr ⟨by rfl, rfl⟩) hHeld0 ?_)
          try simp only [Act.put, List.setIfInBounds_toArray, List.set_cons_zero, List.set_cons_succ]
          first
          | (refine wpAnyH_take (i := 5) (oi := { dst := some 77, op := Go.Op.binOp Go.BinOp.neq 4 (Go.Operand.tmp 72) (Go.Operand.tmp 76) 4, type := 4, pos := "law.go:40", after := #[{ on := 0, ground := Go.Ground.data }, { on := 4, ground := Go.Ground.data }], guard := none }) (v := ?_) rfl (by kernel_rfl) (by kernel_rfl) (by kernel_rfl) (fun _ _ _ h => h) (Or.inl ⟨by rfl, ?_⟩) hHeld0 ?_
             rotate_left
             · ((intro w hSw; (try dsimp only at hSw); go_simp) <;> (first | with_reducible rfl | (rw [if_neg (by omega)]; done))))
          | (refine wpAnyH_take (i := 5) (oi := { dst := some 77, op := Go.Op.binOp Go.BinOp.neq 4 (Go.Operand.tmp 72) (Go.Operand.tmp 76) 4, type := 4, pos := "law.go:40", after := #[{ on := 0, ground := Go.Ground.data }, { on := 4, ground := Go.Ground.data }], guard := none }) (v := undef) rfl (by kernel_rfl) (by kernel_rfl) (by kernel_rfl) (fun _ _ _ h => h) (Or.inr ⟨by rfl, rfl⟩) hHeld0 ?_)
          try simp only [Act.put, List.setIfInBounds_toArray, List.set_cons_zero, List.set_cons_succ]
          first
          | (refine wpAnyH_take (i := 6) (oi := { dst := some 78, op := Go.Op.move (Go.Operand.tmp 77), type := 4, pos := "law.go:40", after := #[{ on := 5, ground := Go.Ground.data }], guard := none }) (v := ?_) rfl (by kernel_rfl) (by kernel_rfl) (by kernel_rfl) (fun _ _ _ h => h) (Or.inl ⟨by rfl, ?_⟩) hHeld0 ?_
             rotate_left
             · ((intro w hSw; (try dsimp only at hSw); go_simp) <;> (first | with_reducible rfl | (rw [if_neg (by omega)]; done))))
          | (refine wpAnyH_take (i := 6) (oi := { dst := some 78, op := Go.Op.move (Go.Operand.tmp 77), type := 4, pos := "law.go:40", after := #[{ on := 5, ground := Go.Ground.data }], guard := none }) (v := undef) rfl (by kernel_rfl) (by kernel_rfl) (by kernel_rfl) (fun _ _ _ h => h) (Or.inr ⟨by rfl, rfl⟩) hHeld0 ?_)
          try simp only [Act.put, List.setIfInBounds_toArray, List.set_cons_zero, List.set_cons_succ]
          first
          | (refine wpAnyH_take (i := 7) (oi := { dst := some 79, op := Go.Op.move (Go.Operand.tmp 11), type := 30, pos := "law.go:40", after := #[{ on := 6, ground := Go.Ground.guard }], guard := some (6, false) }) (v := ?_) rfl (by kernel_rfl) (by kernel_rfl) (by kernel_rfl) (fun _ _ _ h => h) (Or.inl ⟨by rfl, ?_⟩) hHeld0 ?_
             rotate_left
             · ((intro w hSw; (try dsimp only at hSw); go_simp) <;> (first | with_reducible rfl | (rw [if_neg (by omega)]; done))))
          | (refine wpAnyH_take (i := 7) (oi := { dst := some 79, op := Go.Op.move (Go.Operand.tmp 11), type := 30, pos := "law.go:40", after := #[{ on := 6, ground := Go.Ground.guard }], guard := some (6, false) }) (v := undef) rfl (by kernel_rfl) (by kernel_rfl) (by kernel_rfl) (fun _ _ _ h => h) (Or.inr ⟨by rfl, rfl⟩) hHeld0 ?_)
          try simp only [Act.put, List.setIfInBounds_toArray, List.set_cons_zero, List.set_cons_succ]
          first
          | (refine wpAnyH_take (i := 8) (oi := { dst := some 80, op := Go.Op.load 27 (Go.Operand.tmp 6), type := 27, pos := "law.go:40", after := #[{ on := 6, ground := Go.Ground.guard }], guard := some (6, false) }) (v := ?_) rfl (by kernel_rfl) (by kernel_rfl) (by kernel_rfl) (fun _ _ _ h => h) (Or.inl ⟨by rfl, ?_⟩) hHeld0 ?_
             rotate_left
             · ((intro w hSw; (try dsimp only at hSw); go_simp) <;> (first | with_reducible rfl | (rw [if_neg (by omega)]; done))))
          | (refine wpAnyH_take (i := 8) (oi := { dst := some 80, op := Go.Op.load 27 (Go.Operand.tmp 6), type := 27, pos := "law.go:40", after := #[{ on := 6, ground := Go.Ground.guard }], guard := some (6, false) }) (v := undef) rfl (by kernel_rfl) (by kernel_rfl) (by kernel_rfl) (fun _ _ _ h => h) (Or.inr ⟨by rfl, rfl⟩) hHeld0 ?_)
          try simp only [Act.put, List.setIfInBounds_toArray, List.set_cons_zero, List.set_cons_succ]
          refine wpAnyH_ready (rs := [9]) (by kernel_rfl) (by simp) ?_
          refine AllReadyH.cons (o := { dst := some 81, op := Go.Op.call { callee := Go.Callee.value (Go.Operand.func 14), args := #[Go.Operand.tmp 80], argTypes := #[27] }, type := 30, pos := "law.go:40", after := #[{ on := 8, ground := Go.Ground.data }, { on := 6, ground := Go.Ground.chain }, { on := 6, ground := Go.Ground.guard }], guard := some (6, false) }) rfl (fun Kr9 hK => ?_) AllReadyH.nil
          go_simp
          (go_at_call 14; (with_reducible refine (HRTP.out _ _ _ HT.out.box.row).mono ?_); rintro e w4 ⟨rfl, hb⟩; have HT := Lib.hid (TkInv.below HT.out hb); have m0 := HT.out.m0; clear hb)
          refine hK.out _ _ ?_ (fun hHeld1 => ?_)
          · (try dsimp only); exact m0
          clear hK Kr9 hHeld0
          try simp only [Act.put, List.setIfInBounds_toArray, List.set_cons_zero, List.set_cons_succ]
          first
          | (refine wpAnyH_take (i := 10) (oi := { dst := some 82, op := Go.Op.binOp Go.BinOp.neq 30 (Go.Operand.tmp 79) (Go.Operand.tmp 81) 30, type := 4, pos := "law.go:40", after := #[{ on := 7, ground := Go.Ground.data }, { on := 9, ground := Go.Ground.data }, { on := 6, ground := Go.Ground.guard }], guard := some (6, false) }) (v := ?_) rfl (by kernel_rfl) (by kernel_rfl) (by kernel_rfl) (fun _ _ _ h => h) (Or.inl ⟨by rfl, ?_⟩) hHeld1 ?_
             rotate_left
             · ((intro w hSw; (try dsimp only at hSw); go_simp) <;> (first | with_reducible rfl | (rw [if_neg (by omega)]; done))))
          | (refine wpAnyH_take (i := 10) (oi := { dst := some 82, op := Go.Op.binOp Go.BinOp.neq 30 (Go.Operand.tmp 79) (Go.Operand.tmp 81) 30, type := 4, pos := "law.go:40", after := #[{ on := 7, ground := Go.Ground.data }, { on := 9, ground := Go.Ground.data }, { on := 6, ground := Go.Ground.guard }], guard := some (6, false) }) (v := undef) rfl (by kernel_rfl) (by kernel_rfl) (by kernel_rfl) (fun _ _ _ h => h) (Or.inr ⟨by rfl, rfl⟩) hHeld1 ?_)
          try simp only [Act.put, List.setIfInBounds_toArray, List.set_cons_zero, List.set_cons_succ]
          first
          | (refine wpAnyH_take (i := 11) (oi := { dst := some 83, op := Go.Op.pick (Go.Operand.tmp 78) (Go.Operand.const (Go.Value.bool true)) (Go.Operand.tmp 82), type := 4, pos := "law.go:40", after := #[{ on := 6, ground := Go.Ground.data }, { on := 10, ground := Go.Ground.data }], guard := none }) (v := ?_) rfl (by kernel_rfl) (by kernel_rfl) (by kernel_rfl) (fun _ _ _ h => h) (Or.inl ⟨by rfl, ?_⟩) hHeld1 ?_
             rotate_left
             · ((intro w hSw; (try dsimp only at hSw); go_simp) <;> (first | with_reducible rfl | (rw [if_neg (by omega)]; done))))
          | (refine wpAnyH_take (i := 11) (oi := { dst := some 83, op := Go.Op.pick (Go.Operand.tmp 78) (Go.Operand.const (Go.Value.bool true)) (Go.Operand.tmp 82), type := 4, pos := "law.go:40", after := #[{ on := 6, ground := Go.Ground.data }, { on := 10, ground := Go.Ground.data }], guard := none }) (v := undef) rfl (by kernel_rfl) (by kernel_rfl) (by kernel_rfl) (fun _ _ _ h => h) (Or.inr ⟨by rfl, rfl⟩) hHeld1 ?_)
          try simp only [Act.put, List.setIfInBounds_toArray, List.set_cons_zero, List.set_cons_succ]
          first
          | (refine wpAnyH_take (i := 12) (oi := { dst := some 84, op := Go.Op.move (Go.Operand.tmp 83), type := 4, pos := "law.go:40", after := #[{ on := 11, ground := Go.Ground.data }, { on := 9, ground := Go.Ground.chain }], guard := none }) (v := ?_) rfl (by kernel_rfl) (by kernel_rfl) (by kernel_rfl) (fun _ _ _ h => h) (Or.inl ⟨by rfl, ?_⟩) hHeld1 ?_
             rotate_left
             · ((intro w hSw; (try dsimp only at hSw); go_simp) <;> (first | with_reducible rfl | (rw [if_neg (by omega)]; done))))
          | (refine wpAnyH_take (i := 12) (oi := { dst := some 84, op := Go.Op.move (Go.Operand.tmp 83), type := 4, pos := "law.go:40", after := #[{ on := 11, ground := Go.Ground.data }, { on := 9, ground := Go.Ground.chain }], guard := none }) (v := undef) rfl (by kernel_rfl) (by kernel_rfl) (by kernel_rfl) (fun _ _ _ h => h) (Or.inr ⟨by rfl, rfl⟩) hHeld1 ?_)
          try simp only [Act.put, List.setIfInBounds_toArray, List.set_cons_zero, List.set_cons_succ]
          first
          | (refine wpAnyH_take (i := 13) (oi := { dst := some 85, op := Go.Op.move (Go.Operand.tmp 5), type := 24, pos := "law.go:40", after := #[{ on := 12, ground := Go.Ground.guard }], guard := some (12, false) }) (v := ?_) rfl (by kernel_rfl) (by kernel_rfl) (by kernel_rfl) (fun _ _ _ h => h) (Or.inl ⟨by rfl, ?_⟩) hHeld1 ?_
             rotate_left
             · ((intro w hSw; (try dsimp only at hSw); go_simp) <;> (first | with_reducible rfl | (rw [if_neg (by omega)]; done))))
          | (refine wpAnyH_take (i := 13) (oi := { dst := some 85, op := Go.Op.move (Go.Operand.tmp 5), type := 24, pos := "law.go:40", after := #[{ on := 12, ground := Go.Ground.guard }], guard := some (12, false) }) (v := undef) rfl (by kernel_rfl) (by kernel_rfl) (by kernel_rfl) (fun _ _ _ h => h) (Or.inr ⟨by rfl, rfl⟩) hHeld1 ?_)
          try simp only [Act.put, List.setIfInBounds_toArray, List.set_cons_zero, List.set_cons_succ]
          first
          | (refine wpAnyH_take (i := 15) (oi := { dst := some 87, op := Go.Op.load 27 (Go.Operand.tmp 6), type := 27, pos := "law.go:40", after := #[{ on := 12, ground := Go.Ground.guard }], guard := some (12, false) }) (v := ?_) rfl (by kernel_rfl) (by kernel_rfl) (by kernel_rfl) (fun _ _ _ h => h) (Or.inl ⟨by rfl, ?_⟩) hHeld1 ?_
             rotate_left
             · ((intro w hSw; (try dsimp only at hSw); go_simp) <;> (first | with_reducible rfl | (rw [if_neg (by omega)]; done))))
          | (refine wpAnyH_take (i := 15) (oi := { dst := some 87, op := Go.Op.load 27 (Go.Operand.tmp 6), type := 27, pos := "law.go:40", after := #[{ on := 12, ground := Go.Ground.guard }], guard := some (12, false) }) (v := undef) rfl (by kernel_rfl) (by kernel_rfl) (by kernel_rfl) (fun _ _ _ h => h) (Or.inr ⟨by rfl, rfl⟩) hHeld1 ?_)
          try simp only [Act.put, List.setIfInBounds_toArray, List.set_cons_zero, List.set_cons_succ]
          refine wpAnyH_ready (rs := [14]) (by kernel_rfl) (by simp) ?_
          refine AllReadyH.cons (o := { dst := some 86, op := Go.Op.call { callee := Go.Callee.value (Go.Operand.func 15), args := #[Go.Operand.tmp 85], argTypes := #[24] }, type := 3, pos := "law.go:40", after := #[{ on := 13, ground := Go.Ground.data }, { on := 12, ground := Go.Ground.chain }, { on := 12, ground := Go.Ground.guard }], guard := some (12, false) }) rfl (fun Kr14 hK => ?_) AllReadyH.nil
          go_simp
          (go_at_call 15; (with_reducible refine (HMS.out _ HT.out.win).mono ?_); rintro e w4 ⟨rfl, hq⟩; have HT := Lib.hid (TkInv.told HT.out hq); have m0 := HT.out.m0; clear hq)
          refine hK.out _ _ ?_ (fun hHeld2 => ?_)
          · (try dsimp only); exact m0
          clear hK Kr14 hHeld1
          try simp only [Act.put, List.setIfInBounds_toArray, List.set_cons_zero, List.set_cons_succ]
          refine wpAnyH_ready (rs := [16]) (by kernel_rfl) (by simp) ?_
          refine AllReadyH.cons (o := { dst := some 88, op := Go.Op.call { callee := Go.Callee.value (Go.Operand.func 16), args := #[Go.Operand.tmp 87], argTypes := #[27] }, type := 3, pos := "law.go:40", after := #[{ on := 15, ground := Go.Ground.data }, { on := 14, ground := Go.Ground.chain }, { on := 12, ground := Go.Ground.guard }], guard := some (12, false) }) rfl (fun Kr16 hK => ?_) AllReadyH.nil
          go_simp
          (go_at_call 16; (with_reducible refine (HRMS.out _ _ _ HT.out.box.row).mono ?_); rintro e w4 ⟨rfl, hb⟩; have HT := Lib.hid (TkInv.below HT.out hb); have m0 := HT.out.m0; clear hb)
          refine hK.out _ _ ?_ (fun hHeld3 => ?_)
          · (try dsimp only); exact m0
          clear hK Kr16 hHeld2
          try simp only [Act.put, List.setIfInBounds_toArray, List.set_cons_zero, List.set_cons_succ]
          first
          | (refine wpAnyH_take (i := 17) (oi := { dst := some 89, op := Go.Op.binOp Go.BinOp.neq 3 (Go.Operand.tmp 86) (Go.Operand.tmp 88) 3, type := 4, pos := "law.go:40", after := #[{ on := 14, ground := Go.Ground.data }, { on := 16, ground := Go.Ground.data }, { on := 12, ground := Go.Ground.guard }], guard := some (12, false) }) (v := ?_) rfl (by kernel_rfl) (by kernel_rfl) (by kernel_rfl) (fun _ _ _ h => h) (Or.inl ⟨by rfl, ?_⟩) hHeld3 ?_
             rotate_left
             · ((intro w hSw; (try dsimp only at hSw); go_simp) <;> (first | with_reducible rfl | (rw [if_neg (by omega)]; done))))
          | (refine wpAnyH_take (i := 17) (oi := { dst := some 89, op := Go.Op.binOp Go.BinOp.neq 3 (Go.Operand.tmp 86) (Go.Operand.tmp 88) 3, type := 4, pos := "law.go:40", after := #[{ on := 14, ground := Go.Ground.data }, { on := 16, ground := Go.Ground.data }, { on := 12, ground := Go.Ground.guard }], guard := some (12, false) }) (v := undef) rfl (by kernel_rfl) (by kernel_rfl) (by kernel_rfl) (fun _ _ _ h => h) (Or.inr ⟨by rfl, rfl⟩) hHeld3 ?_)
          try simp only [Act.put, List.setIfInBounds_toArray, List.set_cons_zero, List.set_cons_succ]
          first
          | (refine wpAnyH_take (i := 18) (oi := { dst := some 90, op := Go.Op.pick (Go.Operand.tmp 84) (Go.Operand.const (Go.Value.bool true)) (Go.Operand.tmp 89), type := 4, pos := "law.go:40", after := #[{ on := 12, ground := Go.Ground.data }, { on := 17, ground := Go.Ground.data }], guard := none }) (v := ?_) rfl (by kernel_rfl) (by kernel_rfl) (by kernel_rfl) (fun _ _ _ h => h) (Or.inl ⟨by rfl, ?_⟩) hHeld3 ?_
             rotate_left
             · ((intro w hSw; (try dsimp only at hSw); go_simp) <;> (first | with_reducible rfl | (rw [if_neg (by omega)]; done))))
          | (refine wpAnyH_take (i := 18) (oi := { dst := some 90, op := Go.Op.pick (Go.Operand.tmp 84) (Go.Operand.const (Go.Value.bool true)) (Go.Operand.tmp 89), type := 4, pos := "law.go:40", after := #[{ on := 12, ground := Go.Ground.data }, { on := 17, ground := Go.Ground.data }], guard := none }) (v := undef) rfl (by kernel_rfl) (by kernel_rfl) (by kernel_rfl) (fun _ _ _ h => h) (Or.inr ⟨by rfl, rfl⟩) hHeld3 ?_)
          try simp only [Act.put, List.setIfInBounds_toArray, List.set_cons_zero, List.set_cons_succ]
          refine wpAnyH_done (by kernel_rfl) ?_ _
          clear hHeld3
          go_wp2_with fail
          go_roundw
          case rel => exact ⟨k + 1, L2, _, _, by go_num, HLT.out, HLL.out, HT.out⟩
          case measure => simp [intOf]; omega
        · have eL : L2 = L := by rw [hL2]; unfold takeL; rw [if_neg h0]
          have hk0 : ((wouldL L x : Int) == 0) = false := beqf (by omega)
          rw [decide_eq_false (show ¬ L2 ≠ [] by rw [eL, h1]; simp)] at HTP
          have hz : ¬ (0 : Int) < L2.length := by rw [eL, h1]; simp
          have hz2 : ¬ 0 < L2.length := by omega
          subst eL
          generalize wouldL L2 x = kx at *
          clear hL2 h1
          clear h0 hx64
          go_wp2_with fail
          go_still_tail 5, (by kernel_rfl)
          have HTd := Lib.hid (TkInv.below HT.out (Below.drew (Below.refl _ _)))
          have HT := HTd
          clear HTd
          change wpList _ _ _ _ _ wr2.drew
          generalize wr2.drew = w4 at *
          have m0 := HT.out.m0; have f0 := HT.out.f0; obtain ⟨vx, x0⟩ := HT.out.x0; have g0 := HT.out.g0
          have c1 : w4.cell? ⟨b, off + k, none⟩ = some (.int .u64 (x : Nat)) := cell_keep4 HC0.out HT.out.bel
          go_wp2_with (first | (go_at_call 9; ((with_reducible refine (HRW.out _ _ _ HT.out.box.row).mono ?_); rintro e w4 ⟨rfl, hb⟩; have HT := Lib.hid (TkInv.below HT.out hb); have m0 := HT.out.m0; have f0 := HT.out.f0; obtain ⟨vx, x0⟩ := HT.out.x0; have g0 := HT.out.g0; have c1 : w4.cell? ⟨b, off + k, none⟩ = some (.int .u64 (x : Nat)) := cell_keep4 HC0.out HT.out.bel; clear hb)) | (go_at_call 10; ((with_reducible refine (HWD.out _ HT.out.win).mono ?_); rintro e w4 ⟨rfl, hq⟩; have HT := Lib.hid (TkInv.told HT.out hq); have m0 := HT.out.m0; have f0 := HT.out.f0; obtain ⟨vx, x0⟩ := HT.out.x0; have g0 := HT.out.g0; have c1 : w4.cell? ⟨b, off + k, none⟩ = some (.int .u64 (x : Nat)) := cell_keep4 HC0.out HT.out.bel; clear hq)) | (go_at_call 11; ((with_reducible refine (HTK.out _ HT.out.win).mono ?_); rintro e w4 ⟨rfl, ha, hg⟩; have HT := Lib.hid (TkInv.take HT.out HBS.out hg ha HGT.out); have m0 := HT.out.m0; have f0 := HT.out.f0; obtain ⟨vx, x0⟩ := HT.out.x0; have g0 := HT.out.g0; have c1 : w4.cell? ⟨b, off + k, none⟩ = some (.int .u64 (x : Nat)) := cell_keep4 HC0.out HT.out.bel; clear ha hg)) | fail)
          clear m0 f0 x0 g0
          have m0 := HT.out.m0
          go_wp2_with (first | (go_at_call 13; ((with_reducible refine (HTP.out _ HT.out.win).mono ?_); rintro e w4 ⟨rfl, hq⟩; have HT := Lib.hid (TkInv.told HT.out hq); have m0 := HT.out.m0; have f0 := HT.out.f0; obtain ⟨vx, x0⟩ := HT.out.x0; have g0 := HT.out.g0; clear hq)) | fail)
          have HTd := Lib.hid (TkInv.below HT.out (Below.drew (Below.refl _ _)))
          have HT := HTd
          clear HTd
          have m0 := HT.out.m0
          refine wp_region_held_drew (S := (fun W => W.cell? ⟨M, 0, none⟩ = some (.slice a1 L2.length cap1))) (by kernel_rfl) ?_ (fun hHeld0 => ?_)
          · (try dsimp only); exact m0
          first
          | (refine wpAnyH_take (i := 0) (oi := { dst := some 72, op := Go.Op.move (Go.Operand.tmp 12), type := 4, pos := "law.go:40", after := #[], guard := none }) (v := ?_) rfl (by kernel_rfl) (by kernel_rfl) (by kernel_rfl) (fun _ _ _ h => h) (Or.inl ⟨by rfl, ?_⟩) hHeld0 ?_
             rotate_left
             · ((intro w hSw; (try dsimp only at hSw); go_simp) <;> (first | with_reducible rfl | (rw [if_neg (by omega)]; done))))
          | (refine wpAnyH_take (i := 0) (oi := { dst := some 72, op := Go.Op.move (Go.Operand.tmp 12), type := 4, pos := "law.go:40", after := #[], guard := none }) (v := undef) rfl (by kernel_rfl) (by kernel_rfl) (by kernel_rfl) (fun _ _ _ h => h) (Or.inr ⟨by rfl, rfl⟩) hHeld0 ?_)
          try simp only [Act.put, List.setIfInBounds_toArray, List.set_cons_zero, List.set_cons_succ]
          first
          | (refine wpAnyH_take (i := 1) (oi := { dst := some 73, op := Go.Op.fieldAddr 27 (Go.Operand.tmp 6) 0, type := 0, pos := "law.go:40", after := #[], guard := none }) (v := ?_) rfl (by kernel_rfl) (by kernel_rfl) (by kernel_rfl) (fun _ _ _ h => h) (Or.inl ⟨by rfl, ?_⟩) hHeld0 ?_
             rotate_left
             · ((intro w hSw; (try dsimp only at hSw); go_simp) <;> (first | with_reducible rfl | (rw [if_neg (by omega)]; done))))
          | (refine wpAnyH_take (i := 1) (oi := { dst := some 73, op := Go.Op.fieldAddr 27 (Go.Operand.tmp 6) 0, type := 0, pos := "law.go:40", after := #[], guard := none }) (v := undef) rfl (by kernel_rfl) (by kernel_rfl) (by kernel_rfl) (fun _ _ _ h => h) (Or.inr ⟨by rfl, rfl⟩) hHeld0 ?_)
          try simp only [Act.put, List.setIfInBounds_toArray, List.set_cons_zero, List.set_cons_succ]
          first
          | (refine wpAnyH_take (i := 2) (oi := { dst := some 74, op := Go.Op.load 22 (Go.Operand.tmp 73), type := 22, pos := "law.go:40", after := #[{ on := 1, ground := Go.Ground.data }], guard := none }) (v := ?_) rfl (by kernel_rfl) (by kernel_rfl) (by kernel_rfl) (fun _ _ _ h => h) (Or.inl ⟨by rfl, ?_⟩) hHeld0 ?_
             rotate_left
             · ((intro w hSw; (try dsimp only at hSw); go_simp) <;> (first | with_reducible rfl | (rw [if_neg (by omega)]; done))))
          | (refine wpAnyH_take (i := 2) (oi := { dst := some 74, op := Go.Op.load 22 (Go.Operand.tmp 73), type := 22, pos := "law.go:40", after := #[{ on := 1, ground := Go.Ground.data }], guard := none }) (v := undef) rfl (by kernel_rfl) (by kernel_rfl) (by kernel_rfl) (fun _ _ _ h => h) (Or.inr ⟨by rfl, rfl⟩) hHeld0 ?_)
          try simp only [Act.put, List.setIfInBounds_toArray, List.set_cons_zero, List.set_cons_succ]
          first
          | (refine wpAnyH_take (i := 3) (oi := { dst := some 75, op := Go.Op.call { callee := Go.Callee.builtin Go.Builtin.len, args := #[Go.Operand.tmp 74], argTypes := #[22] }, type := 3, pos := "law.go:40", after := #[{ on := 2, ground := Go.Ground.data }], guard := none }) (v := ?_) rfl (by kernel_rfl) (by kernel_rfl) (by kernel_rfl) (fun _ _ _ h => h) (Or.inl ⟨by rfl, ?_⟩) hHeld0 ?_
             rotate_left
             · ((intro w hSw; (try dsimp only at hSw); go_simp) <;> (first | with_reducible rfl | (rw [if_neg (by omega)]; done))))
          | (refine wpAnyH_take (i := 3) (oi := { dst := some 75, op := Go.Op.call { callee := Go.Callee.builtin Go.Builtin.len, args := #[Go.Operand.tmp 74], argTypes := #[22] }, type := 3, pos := "law.go:40", after := #[{ on := 2, ground := Go.Ground.data }], guard := none }) (v := undef) rfl (by kernel_rfl) (by kernel_rfl) (by kernel_rfl) (fun _ _ _ h => h) (Or.inr ⟨by rfl, rfl⟩) hHeld0 ?_)
          try simp only [Act.put, List.setIfInBounds_toArray, List.set_cons_zero, List.set_cons_succ]
          first
          | (refine wpAnyH_take (i := 4) (oi := { dst := some 76, op := Go.Op.binOp Go.BinOp.gtr 3 (Go.Operand.tmp 75) (Go.Operand.const (Go.Value.int Go.IntKind.i64 0)) 3, type := 4, pos := "law.go:40", after := #[{ on := 3, ground := Go.Ground.data }], guard := none }) (v := ?_) rfl (by kernel_rfl) (by kernel_rfl) (by kernel_rfl) (fun _ _ _ h => h) (Or.inl ⟨by rfl, ?_⟩) hHeld0 ?_
             rotate_left
             · ((intro w hSw; (try dsimp only at hSw); go_simp) <;> (first | with_reducible rfl | (rw [if_neg (by omega)]; done))))
          | (refine wpAnyH_take (i := 4) (oi := { dst := some 76, op := Go.Op.binOp Go.BinOp.gtr 3 (Go.Operand.tmp 75) (Go.Operand.const (Go.Value.int Go.IntKind.i64 0)) 3, type := 4, pos := "law.go:40", after := #[{ on := 3, ground := Go.Ground.data }], guard := none }) (v := undef) rfl (by kernel_rfl) (by kernel_rfl) (by kernel_rfl) (fun _ _ _ h => h) (Or.inr ⟨by rfl, rfl⟩) hHeld0 ?_)
          try simp only [Act.put, List.setIfInBounds_toArray, List.set_cons_zero, List.set_cons_succ]
          first
          | (refine wpAnyH_take (i := 5) (oi := { dst := some 77, op := Go.Op.binOp Go.BinOp.neq 4 (Go.Operand.tmp 72) (Go.Operand.tmp 76) 4, type := 4, pos := "law.go:40", after := #[{ on := 0, ground := Go.Ground.data }, { on := 4, ground := Go.Ground.data }], guard := none }) (v := ?_) rfl (by kernel_rfl) (by kernel_rfl) (by kernel_rfl) (fun _ _ _ h => h) (Or.inl ⟨by rfl, ?_⟩) hHeld0 ?_
             rotate_left
             · ((intro w hSw; (try dsimp only at hSw); go_simp) <;> (first | with_reducible rfl | (rw [if_neg (by omega)]; done))))
          | (refine wpAnyH_take (i := 5) (oi := { dst := some 77, op := Go.Op.binOp Go.BinOp.neq 4 (Go.Operand.tmp 72) (Go.Operand.tmp 76) 4, type := 4, pos := "law.go:40", after := #[{ on := 0, ground := Go.Ground.data }, { on := 4, ground := Go.Ground.data }], guard := none }) (v := undef) rfl (by kernel_rfl) (by kernel_rfl) (by kernel_rfl) (fun _ _ _ h => h) (Or.inr ⟨by rfl, rfl⟩) hHeld0 ?_)
          try simp only [Act.put, List.setIfInBounds_toArray, List.set_cons_zero, List.set_cons_succ]
          first
          | (refine wpAnyH_take (i := 6) (oi := { dst := some 78, op := Go.Op.move (Go.Operand.tmp 77), type := 4, pos := "law.go:40", after := #[{ on := 5, ground := Go.Ground.data }], guard := none }) (v := ?_) rfl (by kernel_rfl) (by kernel_rfl) (by kernel_rfl) (fun _ _ _ h => h) (Or.inl ⟨by rfl, ?_⟩) hHeld0 ?_
             rotate_left
             · ((intro w hSw; (try dsimp only at hSw); go_simp) <;> (first | with_reducible rfl | (rw [if_neg (by omega)]; done))))
          | (refine wpAnyH_take (i := 6) (oi := { dst := some 78, op := Go.Op.move (Go.Operand.tmp 77), type := 4, pos := "law.go:40", after := #[{ on := 5, ground := Go.Ground.data }], guard := none }) (v := undef) rfl (by kernel_rfl) (by kernel_rfl) (by kernel_rfl) (fun _ _ _ h => h) (Or.inr ⟨by rfl, rfl⟩) hHeld0 ?_)
          try simp only [Act.put, List.setIfInBounds_toArray, List.set_cons_zero, List.set_cons_succ]
          first
          | (refine wpAnyH_take (i := 7) (oi := { dst := some 79, op := Go.Op.move (Go.Operand.tmp 11), type := 30, pos := "law.go:40", after := #[{ on := 6, ground := Go.Ground.guard }], guard := some (6, false) }) (v := ?_) rfl (by kernel_rfl) (by kernel_rfl) (by kernel_rfl) (fun _ _ _ h => h) (Or.inl ⟨by rfl, ?_⟩) hHeld0 ?_
             rotate_left
             · ((intro w hSw; (try dsimp only at hSw); go_simp) <;> (first | with_reducible rfl | (rw [if_neg (by omega)]; done))))
          | (refine wpAnyH_take (i := 7) (oi := { dst := some 79, op := Go.Op.move (Go.Operand.tmp 11), type := 30, pos := "law.go:40", after := #[{ on := 6, ground := Go.Ground.guard }], guard := some (6, false) }) (v := undef) rfl (by kernel_rfl) (by kernel_rfl) (by kernel_rfl) (fun _ _ _ h => h) (Or.inr ⟨by rfl, rfl⟩) hHeld0 ?_)
          try simp only [Act.put, List.setIfInBounds_toArray, List.set_cons_zero, List.set_cons_succ]
          first
          | (refine wpAnyH_take (i := 8) (oi := { dst := some 80, op := Go.Op.load 27 (Go.Operand.tmp 6), type := 27, pos := "law.go:40", after := #[{ on := 6, ground := Go.Ground.guard }], guard := some (6, false) }) (v := ?_) rfl (by kernel_rfl) (by kernel_rfl) (by kernel_rfl) (fun _ _ _ h => h) (Or.inl ⟨by rfl, ?_⟩) hHeld0 ?_
             rotate_left
             · ((intro w hSw; (try dsimp only at hSw); go_simp) <;> (first | with_reducible rfl | (rw [if_neg (by omega)]; done))))
          | (refine wpAnyH_take (i := 8) (oi := { dst := some 80, op := Go.Op.load 27 (Go.Operand.tmp 6), type := 27, pos := "law.go:40", after := #[{ on := 6, ground := Go.Ground.guard }], guard := some (6, false) }) (v := undef) rfl (by kernel_rfl) (by kernel_rfl) (by kernel_rfl) (fun _ _ _ h => h) (Or.inr ⟨by rfl, rfl⟩) hHeld0 ?_)
          try simp only [Act.put, List.setIfInBounds_toArray, List.set_cons_zero, List.set_cons_succ]
          refine wpAnyH_ready (rs := [9]) (by kernel_rfl) (by simp) ?_
          refine AllReadyH.cons (o := { dst := some 81, op := Go.Op.call { callee := Go.Callee.value (Go.Operand.func 14), args := #[Go.Operand.tmp 80], argTypes := #[27] }, type := 30, pos := "law.go:40", after := #[{ on := 8, ground := Go.Ground.data }, { on := 6, ground := Go.Ground.chain }, { on := 6, ground := Go.Ground.guard }], guard := some (6, false) }) rfl (fun Kr9 hK => ?_) AllReadyH.nil
          go_simp
          (go_at_call 14; (with_reducible refine (HRTP.out _ _ _ HT.out.box.row).mono ?_); rintro e w4 ⟨rfl, hb⟩; have HT := Lib.hid (TkInv.below HT.out hb); have m0 := HT.out.m0; clear hb)
          refine hK.out _ _ ?_ (fun hHeld1 => ?_)
          · (try dsimp only); exact m0
          clear hK Kr9 hHeld0
          try simp only [Act.put, List.setIfInBounds_toArray, List.set_cons_zero, List.set_cons_succ]
          first
          | (refine wpAnyH_take (i := 10) (oi := { dst := some 82, op := Go.Op.binOp Go.BinOp.neq 30 (Go.Operand.tmp 79) (Go.Operand.tmp 81) 30, type := 4, pos := "law.go:40", after := #[{ on := 7, ground := Go.Ground.data }, { on := 9, ground := Go.Ground.data }, { on := 6, ground := Go.Ground.guard }], guard := some (6, false) }) (v := ?_) rfl (by kernel_rfl) (by kernel_rfl) (by kernel_rfl) (fun _ _ _ h => h) (Or.inl ⟨by rfl, ?_⟩) hHeld1 ?_
             rotate_left
             · ((intro w hSw; (try dsimp only at hSw); go_simp) <;> (first | with_reducible rfl | (rw [if_neg (by omega)]; done))))
          | (refine wpAnyH_take (i := 10) (oi := { dst := some 82, op := Go.Op.binOp Go.BinOp.neq 30 (Go.Operand.tmp 79) (Go.Operand.tmp 81) 30, type := 4, pos := "law.go:40", after := #[{ on := 7, ground := Go.Ground.data }, { on := 9, ground := Go.Ground.data }, { on := 6, ground := Go.Ground.guard }], guard := some (6, false) }) (v := undef) rfl (by kernel_rfl) (by kernel_rfl) (by kernel_rfl) (fun _ _ _ h => h) (Or.inr ⟨by rfl, rfl⟩) hHeld1 ?_)
          try simp only [Act.put, List.setIfInBounds_toArray, List.set_cons_zero, List.set_cons_succ]
          first
          | (refine wpAnyH_take (i := 11) (oi := { dst := some 83, op := Go.Op.pick (Go.Operand.tmp 78) (Go.Operand.const (Go.Value.bool true)) (Go.Operand.tmp 82), type := 4, pos := "law.go:40", after := #[{ on := 6, ground := Go.Ground.data }, { on := 10, ground := Go.Ground.data }], guard := none }) (v := ?_) rfl (by kernel_rfl) (by kernel_rfl) (by kernel_rfl) (fun _ _ _ h => h) (Or.inl ⟨by rfl, ?_⟩) hHeld1 ?_
             rotate_left
             · ((intro w hSw; (try dsimp only at hSw); go_simp) <;> (first | with_reducible rfl | (rw [if_neg (by omega)]; done))))
          | (refine wpAnyH_take (i := 11) (oi := { dst := some 83, op := Go.Op.pick (Go.Operand.tmp 78) (Go.Operand.const (Go.Value.bool true)) (Go.Operand.tmp 82), type := 4, pos := "law.go:40", after := #[{ on := 6, ground := Go.Ground.data }, { on := 10, ground := Go.Ground.data }], guard := none }) (v := undef) rfl (by kernel_rfl) (by kernel_rfl) (by kernel_rfl) (fun _ _ _ h => h) (Or.inr ⟨by rfl, rfl⟩) hHeld1 ?_)
          try simp only [Act.put, List.setIfInBounds_toArray, List.set_cons_zero, List.set_cons_succ]
          first
          | (refine wpAnyH_take (i := 12) (oi := { dst := some 84, op := Go.Op.move (Go.Operand.tmp 83), type := 4, pos := "law.go:40", after := #[{ on := 11, ground := Go.Ground.data }, { on := 9, ground := Go.Ground.chain }], guard := none }) (v := ?_) rfl (by kernel_rfl) (by kernel_rfl) (by kernel_rfl) (fun _ _ _ h => h) (Or.inl ⟨by rfl, ?_⟩) hHeld1 ?_
             rotate_left
             · ((intro w hSw; (try dsimp only at hSw); go_simp) <;> (first | with_reducible rfl | (rw [if_neg (by omega)]; done))))
          | (refine wpAnyH_take (i := 12) (oi := { dst := some 84, op := Go.Op.move (Go.Operand.tmp 83), type := 4, pos := "law.go:40", after := #[{ on := 11, ground := Go.Ground.data }, { on := 9, ground := Go.Ground.chain }], guard := none }) (v := undef) rfl (by kernel_rfl) (by kernel_rfl) (by kernel_rfl) (fun _ _ _ h => h) (Or.inr ⟨by rfl, rfl⟩) hHeld1 ?_)
          try simp only [Act.put, List.setIfInBounds_toArray, List.set_cons_zero, List.set_cons_succ]
          first
          | (refine wpAnyH_take (i := 13) (oi := { dst := some 85, op := Go.Op.move (Go.Operand.tmp 5), type := 24, pos := "law.go:40", after := #[{ on := 12, ground := Go.Ground.guard }], guard := some (12, false) }) (v := ?_) rfl (by kernel_rfl) (by kernel_rfl) (by kernel_rfl) (fun _ _ _ h => h) (Or.inl ⟨by rfl, ?_⟩) hHeld1 ?_
             rotate_left
             · ((intro w hSw; (try dsimp only at hSw); go_simp) <;> (first | with_reducible rfl | (rw [if_neg (by omega)]; done))))
          | (refine wpAnyH_take (i := 13) (oi := { dst := some 85, op := Go.Op.move (Go.Operand.tmp 5), type := 24, pos := "law.go:40", after := #[{ on := 12, ground := Go.Ground.guard }], guard := some (12, false) }) (v := undef) rfl (by kernel_rfl) (by kernel_rfl) (by kernel_rfl) (fun _ _ _ h => h) (Or.inr ⟨by rfl, rfl⟩) hHeld1 ?_)
          try simp only [Act.put, List.setIfInBounds_toArray, List.set_cons_zero, List.set_cons_succ]
          first
          | (refine wpAnyH_take (i := 15) (oi := { dst := some 87, op := Go.Op.load 27 (Go.Operand.tmp 6), type := 27, pos := "law.go:40", after := #[{ on := 12, ground := Go.Ground.guard }], guard := some (12, false) }) (v := ?_) rfl (by kernel_rfl) (by kernel_rfl) (by kernel_rfl) (fun _ _ _ h => h) (Or.inl ⟨by rfl, ?_⟩) hHeld1 ?_
             rotate_left
             · ((intro w hSw; (try dsimp only at hSw); go_simp) <;> (first | with_reducible rfl | (rw [if_neg (by omega)]; done))))
          | (refine wpAnyH_take (i := 15) (oi := { dst := some 87, op := Go.Op.load 27 (Go.Operand.tmp 6), type := 27, pos := "law.go:40", after := #[{ on := 12, ground := Go.Ground.guard }], guard := some (12, false) }) (v := undef) rfl (by kernel_rfl) (by kernel_rfl) (by kernel_rfl) (fun _ _ _ h => h) (Or.inr ⟨by rfl, rfl⟩) hHeld1 ?_)
          try simp only [Act.put, List.setIfInBounds_toArray, List.set_cons_zero, List.set_cons_succ]
          refine wpAnyH_ready (rs := [14]) (by kernel_rfl) (by simp) ?_
          refine AllReadyH.cons (o := { dst := some 86, op := Go.Op.call { callee := Go.Callee.value (Go.Operand.func 15), args := #[Go.Operand.tmp 85], argTypes := #[24] }, type := 3, pos := "law.go:40", after := #[{ on := 13, ground := Go.Ground.data }, { on := 12, ground := Go.Ground.chain }, { on := 12, ground := Go.Ground.guard }], guard := some (12, false) }) rfl (fun Kr14 hK => ?_) AllReadyH.nil
          go_simp
          (go_at_call 15; (with_reducible refine (HMS.out _ HT.out.win).mono ?_); rintro e w4 ⟨rfl, hq⟩; have HT := Lib.hid (TkInv.told HT.out hq); have m0 := HT.out.m0; clear hq)
          refine hK.out _ _ ?_ (fun hHeld2 => ?_)
          · (try dsimp only); exact m0
          clear hK Kr14 hHeld1
          try simp only [Act.put, List.setIfInBounds_toArray, List.set_cons_zero, List.set_cons_succ]
          refine wpAnyH_ready (rs := [16]) (by kernel_rfl) (by simp) ?_
          refine AllReadyH.cons (o := { dst := some 88, op := Go.Op.call { callee := Go.Callee.value (Go.Operand.func 16), args := #[Go.Operand.tmp 87], argTypes := #[27] }, type := 3, pos := "law.go:40", after := #[{ on := 15, ground := Go.Ground.data }, { on := 14, ground := Go.Ground.chain }, { on := 12, ground := Go.Ground.guard }], guard := some (12, false) }) rfl (fun Kr16 hK => ?_) AllReadyH.nil
          go_simp
          (go_at_call 16; (with_reducible refine (HRMS.out _ _ _ HT.out.box.row).mono ?_); rintro e w4 ⟨rfl, hb⟩; have HT := Lib.hid (TkInv.below HT.out hb); have m0 := HT.out.m0; clear hb)
          refine hK.out _ _ ?_ (fun hHeld3 => ?_)
          · (try dsimp only); exact m0
          clear hK Kr16 hHeld2
          try simp only [Act.put, List.setIfInBounds_toArray, List.set_cons_zero, List.set_cons_succ]
          first
          | (refine wpAnyH_take (i := 17) (oi := { dst := some 89, op := Go.Op.binOp Go.BinOp.neq 3 (Go.Operand.tmp 86) (Go.Operand.tmp 88) 3, type := 4, pos := "law.go:40", after := #[{ on := 14, ground := Go.Ground.data }, { on := 16, ground := Go.Ground.data }, { on := 12, ground := Go.Ground.guard }], guard := some (12, false) }) (v := ?_) rfl (by kernel_rfl) (by kernel_rfl) (by kernel_rfl) (fun _ _ _ h => h) (Or.inl ⟨by rfl, ?_⟩) hHeld3 ?_
             rotate_left
             · ((intro w hSw; (try dsimp only at hSw); go_simp) <;> (first | with_reducible rfl | (rw [if_neg (by omega)]; done))))
          | (refine wpAnyH_take (i := 17) (oi := { dst := some 89, op := Go.Op.binOp Go.BinOp.neq 3 (Go.Operand.tmp 86) (Go.Operand.tmp 88) 3, type := 4, pos := "law.go:40", after := #[{ on := 14, ground := Go.Ground.data }, { on := 16, ground := Go.Ground.data }, { on := 12, ground := Go.Ground.guard }], guard := some (12, false) }) (v := undef) rfl (by kernel_rfl) (by kernel_rfl) (by kernel_rfl) (fun _ _ _ h => h) (Or.inr ⟨by rfl, rfl⟩) hHeld3 ?_)
          try simp only [Act.put, List.setIfInBounds_toArray, List.set_cons_zero, List.set_cons_succ]
          first
          | (refine wpAnyH_take (i := 18) (oi := { dst := some 90, op := Go.Op.pick (Go.Operand.tmp 84) (Go.Operand.const (Go.Value.bool true)) (Go.Operand.tmp 89), type := 4, pos := "law.go:40", after := #[{ on := 12, ground := Go.Ground.data }, { on := 17, ground := Go.Ground.data }], guard := none }) (v := ?_) rfl (by kernel_rfl) (by kernel_rfl) (by kernel_rfl) (fun _ _ _ h => h) (Or.inl ⟨by rfl, ?_⟩) hHeld3 ?_
             rotate_left
             · ((intro w hSw; (try dsimp only at hSw); go_simp) <;> (first | with_reducible rfl | (rw [if_neg (by omega)]; done))))
          | (refine wpAnyH_take (i := 18) (oi := { dst := some 90, op := Go.Op.pick (Go.Operand.tmp 84) (Go.Operand.const (Go.Value.bool true)) (Go.Operand.tmp 89), type := 4, pos := "law.go:40", after := #[{ on := 12, ground := Go.Ground.data }, { on := 17, ground := Go.Ground.data }], guard := none }) (v := undef) rfl (by kernel_rfl) (by kernel_rfl) (by kernel_rfl) (fun _ _ _ h => h) (Or.inr ⟨by rfl, rfl⟩) hHeld3 ?_)
          try simp only [Act.put, List.setIfInBounds_toArray, List.set_cons_zero, List.set_cons_succ]
          refine wpAnyH_done (by kernel_rfl) ?_ _
          clear hHeld3
          go_wp2_with fail
          go_roundw
          case rel => exact ⟨k + 1, L2, _, _, by go_num, HLT.out, HLL.out, HT.out⟩
          case measure => simp [intOf]; omega
        · have eL : L2 = L := by rw [hL2]; unfold takeL; rw [if_neg h0]
          have hk0 : ((wouldL L x : Int) == 0) = false := beqf (by omega)
          rw [decide_eq_true (show L2 ≠ [] by rw [eL]; exact h1)] at HTP
          have hz : (0 : Int) < L2.length := by have := List.length_pos_iff.2 h1; rw [eL]; omega
          have hz2 : 0 < L2.length := by omega
          subst eL
          generalize wouldL L2 x = kx at *
          clear hL2 h1
          clear h0 hx64
          go_wp2_with fail
          go_still_tail 5, (by kernel_rfl)
          have HTd := Lib.hid (TkInv.below HT.out (Below.drew (Below.refl _ _)))
          have HT := HTd
          clear HTd
          change wpList _ _ _ _ _ wr2.drew
          generalize wr2.drew = w4 at *
          have m0 := HT.out.m0; have f0 := HT.out.f0; obtain ⟨vx, x0⟩ := HT.out.x0; have g0 := HT.out.g0
          have c1 : w4.cell? ⟨b, off + k, none⟩ = some (.int .u64 (x : Nat)) := cell_keep4 HC0.out HT.out.bel
          go_wp2_with (first | (go_at_call 9; ((with_reducible refine (HRW.out _ _ _ HT.out.box.row).mono ?_); rintro e w4 ⟨rfl, hb⟩; have HT := Lib.hid (TkInv.below HT.out hb); have m0 := HT.out.m0; have f0 := HT.out.f0; obtain ⟨vx, x0⟩ := HT.out.x0; have g0 := HT.out.g0; have c1 : w4.cell? ⟨b, off + k, none⟩ = some (.int .u64 (x : Nat)) := cell_keep4 HC0.out HT.out.bel; clear hb)) | (go_at_call 10; ((with_reducible refine (HWD.out _ HT.out.win).mono ?_); rintro e w4 ⟨rfl, hq⟩; have HT := Lib.hid (TkInv.told HT.out hq); have m0 := HT.out.m0; have f0 := HT.out.f0; obtain ⟨vx, x0⟩ := HT.out.x0; have g0 := HT.out.g0; have c1 : w4.cell? ⟨b, off + k, none⟩ = some (.int .u64 (x : Nat)) := cell_keep4 HC0.out HT.out.bel; clear hq)) | (go_at_call 11; ((with_reducible refine (HTK.out _ HT.out.win).mono ?_); rintro e w4 ⟨rfl, ha, hg⟩; have HT := Lib.hid (TkInv.take HT.out HBS.out hg ha HGT.out); have m0 := HT.out.m0; have f0 := HT.out.f0; obtain ⟨vx, x0⟩ := HT.out.x0; have g0 := HT.out.g0; have c1 : w4.cell? ⟨b, off + k, none⟩ = some (.int .u64 (x : Nat)) := cell_keep4 HC0.out HT.out.bel; clear ha hg)) | fail)
          clear m0 f0 x0 g0
          have m0 := HT.out.m0
          go_wp2_with (first | (go_at_call 13; ((with_reducible refine (HTP.out _ HT.out.win).mono ?_); rintro e w4 ⟨rfl, hq⟩; have HT := Lib.hid (TkInv.told HT.out hq); have m0 := HT.out.m0; have f0 := HT.out.f0; obtain ⟨vx, x0⟩ := HT.out.x0; have g0 := HT.out.g0; clear hq)) | fail)
          have HTd := Lib.hid (TkInv.below HT.out (Below.drew (Below.refl _ _)))
          have HT := HTd
          clear HTd
          have m0 := HT.out.m0
          refine wp_region_held_drew (S := (fun W => W.cell? ⟨M, 0, none⟩ = some (.slice a1 L2.length cap1))) (by kernel_rfl) ?_ (fun hHeld0 => ?_)
          · (try dsimp only); exact m0
          first
          | (refine wpAnyH_take (i := 0) (oi := { dst := some 72, op := Go.Op.move (Go.Operand.tmp 12), type := 4, pos := "law.go:40", after := #[], guard := none }) (v := ?_) rfl (by kernel_rfl) (by kernel_rfl) (by kernel_rfl) (fun _ _ _ h => h) (Or.inl ⟨by rfl, ?_⟩) hHeld0 ?_
             rotate_left
             · ((intro w hSw; (try dsimp only at hSw); go_simp) <;> (first | with_reducible rfl | (rw [if_neg (by omega)]; done))))
          | (refine wpAnyH_take (i := 0) (oi := { dst := some 72, op := Go.Op.move (Go.Operand.tmp 12), type := 4, pos := "law.go:40", after := #[], guard := none }) (v := undef) rfl (by kernel_rfl) (by kernel_rfl) (by kernel_rfl) (fun _ _ _ h => h) (Or.inr ⟨by rfl, rfl⟩) hHeld0 ?_)
          try simp only [Act.put, List.setIfInBounds_toArray, List.set_cons_zero, List.set_cons_succ]
          first
          | (refine wpAnyH_take (i := 1) (oi := { dst := some 73, op := Go.Op.fieldAddr 27 (Go.Operand.tmp 6) 0, type := 0, pos := "law.go:40", after := #[], guard := none }) (v := ?_) rfl (by kernel_rfl) (by kernel_rfl) (by kernel_rfl) (fun _ _ _ h => h) (Or.inl ⟨by rfl, ?_⟩) hHeld0 ?_
             rotate_left
             · ((intro w hSw; (try dsimp only at hSw); go_simp) <;> (first | with_reducible rfl | (rw [if_neg (by omega)]; done))))
          | (refine wpAnyH_take (i := 1) (oi := { dst := some 73, op := Go.Op.fieldAddr 27 (Go.Operand.tmp 6) 0, type := 0, pos := "law.go:40", after := #[], guard := none }) (v := undef) rfl (by kernel_rfl) (by kernel_rfl) (by kernel_rfl) (fun _ _ _ h => h) (Or.inr ⟨by rfl, rfl⟩) hHeld0 ?_)
          try simp only [Act.put, List.setIfInBounds_toArray, List.set_cons_zero, List.set_cons_succ]
          first
          | (refine wpAnyH_take (i := 2) (oi := { dst := some 74, op := Go.Op.load 22 (Go.Operand.tmp 73), type := 22, pos := "law.go:40", after := #[{ on := 1, ground := Go.Ground.data }], guard := none }) (v := ?_) rfl (by kernel_rfl) (by kernel_rfl) (by kernel_rfl) (fun _ _ _ h => h) (Or.inl ⟨by rfl, ?_⟩) hHeld0 ?_
             rotate_left
             · ((intro w hSw; (try dsimp only at hSw); go_simp) <;> (first | with_reducible rfl | (rw [if_neg (by omega)]; done))))
          | (refine wpAnyH_take (i := 2) (oi := { dst := some 74, op := Go.Op.load 22 (Go.Operand.tmp 73), type := 22, pos := "law.go:40", after := #[{ on := 1, ground := Go.Ground.data }], guard := none }) (v := undef) rfl (by kernel_rfl) (by kernel_rfl) (by kernel_rfl) (fun _ _ _ h => h) (Or.inr ⟨by rfl, rfl⟩) hHeld0 ?_)
          try simp only [Act.put, List.setIfInBounds_toArray, List.set_cons_zero, List.set_cons_succ]
          first
          | (refine wpAnyH_take (i := 3) (oi := { dst := some 75, op := Go.Op.call { callee := Go.Callee.builtin Go.Builtin.len, args := #[Go.Operand.tmp 74], argTypes := #[22] }, type := 3, pos := "law.go:40", after := #[{ on := 2, ground := Go.Ground.data }], guard := none }) (v := ?_) rfl (by kernel_rfl) (by kernel_rfl) (by kernel_rfl) (fun _ _ _ h => h) (Or.inl ⟨by rfl, ?_⟩) hHeld0 ?_
             rotate_left
             · ((intro w hSw; (try dsimp only at hSw); go_simp) <;> (first | with_reducible rfl | (rw [if_neg (by omega)]; done))))
          | (refine wpAnyH_take (i := 3) (oi := { dst := some 75, op := Go.Op.call { callee := Go.Callee.builtin Go.Builtin.len, args := #[Go.Operand.tmp 74], argTypes := #[22] }, type := 3, pos := "law.go:40", after := #[{ on := 2, ground := Go.Ground.data }], guard := none }) (v := undef) rfl (by kernel_rfl) (by kernel_rfl) (by kernel_rfl) (fun _ _ _ h => h) (Or.inr ⟨by rfl, rfl⟩) hHeld0 ?_)
          try simp only [Act.put, List.setIfInBounds_toArray, List.set_cons_zero, List.set_cons_succ]
          first
          | (refine wpAnyH_take (i := 4) (oi := { dst := some 76, op := Go.Op.binOp Go.BinOp.gtr 3 (Go.Operand.tmp 75) (Go.Operand.const (Go.Value.int Go.IntKind.i64 0)) 3, type := 4, pos := "law.go:40", after := #[{ on := 3, ground := Go.Ground.data }], guard := none }) (v := ?_) rfl (by kernel_rfl) (by kernel_rfl) (by kernel_rfl) (fun _ _ _ h => h) (Or.inl ⟨by rfl, ?_⟩) hHeld0 ?_
             rotate_left
             · ((intro w hSw; (try dsimp only at hSw); go_simp) <;> (first | with_reducible rfl | (rw [if_neg (by omega)]; done))))
          | (refine wpAnyH_take (i := 4) (oi := { dst := some 76, op := Go.Op.binOp Go.BinOp.gtr 3 (Go.Operand.tmp 75) (Go.Operand.const (Go.Value.int Go.IntKind.i64 0)) 3, type := 4, pos := "law.go:40", after := #[{ on := 3, ground := Go.Ground.data }], guard := none }) (v := undef) rfl (by kernel_rfl) (by kernel_rfl) (by kernel_rfl) (fun _ _ _ h => h) (Or.inr ⟨by rfl, rfl⟩) hHeld0 ?_)
          try simp only [Act.put, List.setIfInBounds_toArray, List.set_cons_zero, List.set_cons_succ]
          first
          | (refine wpAnyH_take (i := 5) (oi := { dst := some 77, op := Go.Op.binOp Go.BinOp.neq 4 (Go.Operand.tmp 72) (Go.Operand.tmp 76) 4, type := 4, pos := "law.go:40", after := #[{ on := 0, ground := Go.Ground.data }, { on := 4, ground := Go.Ground.data }], guard := none }) (v := ?_) rfl (by kernel_rfl) (by kernel_rfl) (by kernel_rfl) (fun _ _ _ h => h) (Or.inl ⟨by rfl, ?_⟩) hHeld0 ?_
             rotate_left
             · ((intro w hSw; (try dsimp only at hSw); go_simp) <;> (first | with_reducible rfl | (rw [if_neg (by omega)]; done))))
          | (refine wpAnyH_take (i := 5) (oi := { dst := some 77, op := Go.Op.binOp Go.BinOp.neq 4 (Go.Operand.tmp 72) (Go.Operand.tmp 76) 4, type := 4, pos := "law.go:40", after := #[{ on := 0, ground := Go.Ground.data }, { on := 4, ground := Go.Ground.data }], guard := none }) (v := undef) rfl (by kernel_rfl) (by kernel_rfl) (by kernel_rfl) (fun _ _ _ h => h) (Or.inr ⟨by rfl, rfl⟩) hHeld0 ?_)
          try simp only [Act.put, List.setIfInBounds_toArray, List.set_cons_zero, List.set_cons_succ]
          first
          | (refine wpAnyH_take (i := 6) (oi := { dst := some 78, op := Go.Op.move (Go.Operand.tmp 77), type := 4, pos := "law.go:40", after := #[{ on := 5, ground := Go.Ground.data }], guard := none }) (v := ?_) rfl (by kernel_rfl) (by kernel_rfl) (by kernel_rfl) (fun _ _ _ h => h) (Or.inl ⟨by rfl, ?_⟩) hHeld0 ?_
             rotate_left
             · ((intro w hSw; (try dsimp only at hSw); go_simp) <;> (first | with_reducible rfl | (rw [if_neg (by omega)]; done))))
          | (refine wpAnyH_take (i := 6) (oi := { dst := some 78, op := Go.Op.move (Go.Operand.tmp 77), type := 4, pos := "law.go:40", after := #[{ on := 5, ground := Go.Ground.data }], guard := none }) (v := undef) rfl (by kernel_rfl) (by kernel_rfl) (by kernel_rfl) (fun _ _ _ h => h) (Or.inr ⟨by rfl, rfl⟩) hHeld0 ?_)
          try simp only [Act.put, List.setIfInBounds_toArray, List.set_cons_zero, List.set_cons_succ]
          first
          | (refine wpAnyH_take (i := 7) (oi := { dst := some 79, op := Go.Op.move (Go.Operand.tmp 11), type := 30, pos := "law.go:40", after := #[{ on := 6, ground := Go.Ground.guard }], guard := some (6, false) }) (v := ?_) rfl (by kernel_rfl) (by kernel_rfl) (by kernel_rfl) (fun _ _ _ h => h) (Or.inl ⟨by rfl, ?_⟩) hHeld0 ?_
             rotate_left
             · ((intro w hSw; (try dsimp only at hSw); go_simp) <;> (first | with_reducible rfl | (rw [if_neg (by omega)]; done))))
          | (refine wpAnyH_take (i := 7) (oi := { dst := some 79, op := Go.Op.move (Go.Operand.tmp 11), type := 30, pos := "law.go:40", after := #[{ on := 6, ground := Go.Ground.guard }], guard := some (6, false) }) (v := undef) rfl (by kernel_rfl) (by kernel_rfl) (by kernel_rfl) (fun _ _ _ h => h) (Or.inr ⟨by rfl, rfl⟩) hHeld0 ?_)
          try simp only [Act.put, List.setIfInBounds_toArray, List.set_cons_zero, List.set_cons_succ]
          first
          | (refine wpAnyH_take (i := 8) (oi := { dst := some 80, op := Go.Op.load 27 (Go.Operand.tmp 6), type := 27, pos := "law.go:40", after := #[{ on := 6, ground := Go.Ground.guard }], guard := some (6, false) }) (v := ?_) rfl (by kernel_rfl) (by kernel_rfl) (by kernel_rfl) (fun _ _ _ h => h) (Or.inl ⟨by rfl, ?_⟩) hHeld0 ?_
             rotate_left
             · ((intro w hSw; (try dsimp only at hSw); go_simp) <;> (first | with_reducible rfl | (rw [if_neg (by omega)]; done))))
          | (refine wpAnyH_take (i := 8) (oi := { dst := some 80, op := Go.Op.load 27 (Go.Operand.tmp 6), type := 27, pos := "law.go:40", after := #[{ on := 6, ground := Go.Ground.guard }], guard := some (6, false) }) (v := undef) rfl (by kernel_rfl) (by kernel_rfl) (by kernel_rfl) (fun _ _ _ h => h) (Or.inr ⟨by rfl, rfl⟩) hHeld0 ?_)
          try simp only [Act.put, List.setIfInBounds_toArray, List.set_cons_zero, List.set_cons_succ]
          refine wpAnyH_ready (rs := [9]) (by kernel_rfl) (by simp) ?_
          refine AllReadyH.cons (o := { dst := some 81, op := Go.Op.call { callee := Go.Callee.value (Go.Operand.func 14), args := #[Go.Operand.tmp 80], argTypes := #[27] }, type := 30, pos := "law.go:40", after := #[{ on := 8, ground := Go.Ground.data }, { on := 6, ground := Go.Ground.chain }, { on := 6, ground := Go.Ground.guard }], guard := some (6, false) }) rfl (fun Kr9 hK => ?_) AllReadyH.nil
          go_simp
          (go_at_call 14; (with_reducible refine (HRTP.out _ _ _ HT.out.box.row).mono ?_); rintro e w4 ⟨rfl, hb⟩; have HT := Lib.hid (TkInv.below HT.out hb); have m0 := HT.out.m0; clear hb)
          refine hK.out _ _ ?_ (fun hHeld1 => ?_)
          · (try dsimp only); exact m0
          clear hK Kr9 hHeld0
          try simp only [Act.put, List.setIfInBounds_toArray, List.set_cons_zero, List.set_cons_succ]
          first
          | (refine wpAnyH_take (i := 10) (oi := { dst := some 82, op := Go.Op.binOp Go.BinOp.neq 30 (Go.Operand.tmp 79) (Go.Operand.tmp 81) 30, type := 4, pos := "law.go:40", after := #[{ on := 7, ground := Go.Ground.data }, { on := 9, ground := Go.Ground.data }, { on := 6, ground := Go.Ground.guard }], guard := some (6, false) }) (v := ?_) rfl (by kernel_rfl) (by kernel_rfl) (by kernel_rfl) (fun _ _ _ h => h) (Or.inl ⟨by rfl, ?_⟩) hHeld1 ?_
             rotate_left
             · ((intro w hSw; (try dsimp only at hSw); go_simp) <;> (first | with_reducible rfl | (rw [if_neg (by omega)]; done))))
          | (refine wpAnyH_take (i := 10) (oi := { dst := some 82, op := Go.Op.binOp Go.BinOp.neq 30 (Go.Operand.tmp 79) (Go.Operand.tmp 81) 30, type := 4, pos := "law.go:40", after := #[{ on := 7, ground := Go.Ground.data }, { on := 9, ground := Go.Ground.data }, { on := 6, ground := Go.Ground.guard }], guard := some (6, false) }) (v := undef) rfl (by kernel_rfl) (by kernel_rfl) (by kernel_rfl) (fun _ _ _ h => h) (Or.inr ⟨by rfl, rfl⟩) hHeld1 ?_)
          try simp only [Act.put, List.setIfInBounds_toArray, List.set_cons_zero, List.set_cons_succ]
          first
          | (refine wpAnyH_take (i := 11) (oi := { dst := some 83, op := Go.Op.pick (Go.Operand.tmp 78) (Go.Operand.const (Go.Value.bool true)) (Go.Operand.tmp 82), type := 4, pos := "law.go:40", after := #[{ on := 6, ground := Go.Ground.data }, { on := 10, ground := Go.Ground.data }], guard := none }) (v := ?_) rfl (by kernel_rfl) (by kernel_rfl) (by kernel_rfl) (fun _ _ _ h => h) (Or.inl ⟨by rfl, ?_⟩) hHeld1 ?_
             rotate_left
             · ((intro w hSw; (try dsimp only at hSw); go_simp) <;> (first | with_reducible rfl | (rw [if_neg (by omega)]; done))))
          | (refine wpAnyH_take (i := 11) (oi := { dst := some 83, op := Go.Op.pick (Go.Operand.tmp 78) (Go.Operand.const (Go.Value.bool true)) (Go.Operand.tmp 82), type := 4, pos := "law.go:40", after := #[{ on := 6, ground := Go.Ground.data }, { on := 10, ground := Go.Ground.data }], guard := none }) (v := undef) rfl (by kernel_rfl) (by kernel_rfl) (by kernel_rfl) (fun _ _ _ h => h) (Or.inr ⟨by rfl, rfl⟩) hHeld1 ?_)
          try simp only [Act.put, List.setIfInBounds_toArray, List.set_cons_zero, List.set_cons_succ]
          first
          | (refine wpAnyH_take (i := 12) (oi := { dst := some 84, op := Go.Op.move (Go.Operand.tmp 83), type := 4, pos := "law.go:40", after := #[{ on := 11, ground := Go.Ground.data }, { on := 9, ground := Go.Ground.chain }], guard := none }) (v := ?_) rfl (by kernel_rfl) (by kernel_rfl) (by kernel_rfl) (fun _ _ _ h => h) (Or.inl ⟨by rfl, ?_⟩) hHeld1 ?_
             rotate_left
             · ((intro w hSw; (try dsimp only at hSw); go_simp) <;> (first | with_reducible rfl | (rw [if_neg (by omega)]; done))))
          | (refine wpAnyH_take (i := 12) (oi := { dst := some 84, op := Go.Op.move (Go.Operand.tmp 83), type := 4, pos := "law.go:40", after := #[{ on := 11, ground := Go.Ground.data }, { on := 9, ground := Go.Ground.chain }], guard := none }) (v := undef) rfl (by kernel_rfl) (by kernel_rfl) (by kernel_rfl) (fun _ _ _ h => h) (Or.inr ⟨by rfl, rfl⟩) hHeld1 ?_)
          try simp only [Act.put, List.setIfInBounds_toArray, List.set_cons_zero, List.set_cons_succ]
          first
          | (refine wpAnyH_take (i := 13) (oi := { dst := some 85, op := Go.Op.move (Go.Operand.tmp 5), type := 24, pos := "law.go:40", after := #[{ on := 12, ground := Go.Ground.guard }], guard := some (12, false) }) (v := ?_) rfl (by kernel_rfl) (by kernel_rfl) (by kernel_rfl) (fun _ _ _ h => h) (Or.inl ⟨by rfl, ?_⟩) hHeld1 ?_
             rotate_left
             · ((intro w hSw; (try dsimp only at hSw); go_simp) <;> (first | with_reducible rfl | (rw [if_neg (by omega)]; done))))
          | (refine wpAnyH_take (i := 13) (oi := { dst := some 85, op := Go.Op.move (Go.Operand.tmp 5), type := 24, pos := "law.go:40", after := #[{ on := 12, ground := Go.Ground.guard }], guard := some (12, false) }) (v := undef) rfl (by kernel_rfl) (by kernel_rfl) (by kernel_rfl) (fun _ _ _ h => h) (Or.inr ⟨by rfl, rfl⟩) hHeld1 ?_)
          try simp only [Act.put, List.setIfInBounds_toArray, List.set_cons_zero, List.set_cons_succ]
          first
          | (refine wpAnyH_take (i := 15) (oi := { dst := some 87, op := Go.Op.load 27 (Go.Operand.tmp 6), type := 27, pos := "law.go:40", after := #[{ on := 12, ground := Go.Ground.guard }], guard := some (12, false) }) (v := ?_) rfl (by kernel_rfl) (by kernel_rfl) (by kernel_rfl) (fun _ _ _ h => h) (Or.inl ⟨by rfl, ?_⟩) hHeld1 ?_
             rotate_left
             · ((intro w hSw; (try dsimp only at hSw); go_simp) <;> (first | with_reducible rfl | (rw [if_neg (by omega)]; done))))
          | (refine wpAnyH_take (i := 15) (oi := { dst := some 87, op := Go.Op.load 27 (Go.Operand.tmp 6), type := 27, pos := "law.go:40", after := #[{ on := 12, ground := Go.Ground.guard }], guard := some (12, false) }) (v := undef) rfl (by kernel_rfl) (by kernel_rfl) (by kernel_rfl) (fun _ _ _ h => h) (Or.inr ⟨by rfl, rfl⟩) hHeld1 ?_)
          try simp only [Act.put, List.setIfInBounds_toArray, List.set_cons_zero, List.set_cons_succ]
          refine wpAnyH_ready (rs := [14]) (by kernel_rfl) (by simp) ?_
          refine AllReadyH.cons (o := { dst := some 86, op := Go.Op.call { callee := Go.Callee.value (Go.Operand.func 15), args := #[Go.Operand.tmp 85], argTypes := #[24] }, type := 3, pos := "law.go:40", after := #[{ on := 13, ground := Go.Ground.data }, { on := 12, ground := Go.Ground.chain }, { on := 12, ground := Go.Ground.guard }], guard := some (12, false) }) rfl (fun Kr14 hK => ?_) AllReadyH.nil
          go_simp
          (go_at_call 15; (with_reducible refine (HMS.out _ HT.out.win).mono ?_); rintro e w4 ⟨rfl, hq⟩; have HT := Lib.hid (TkInv.told HT.out hq); have m0 := HT.out.m0; clear hq)
          refine hK.out _ _ ?_ (fun hHeld2 => ?_)
          · (try dsimp only); exact m0
          clear hK Kr14 hHeld1
          try simp only [Act.put, List.setIfInBounds_toArray, List.set_cons_zero, List.set_cons_succ]
          refine wpAnyH_ready (rs := [16]) (by kernel_rfl) (by simp) ?_
          refine AllReadyH.cons (o := { dst := some 88, op := Go.Op.call { callee := Go.Callee.value (Go.Operand.func 16), args := #[Go.Operand.tmp 87], argTypes := #[27] }, type := 3, pos := "law.go:40", after := #[{ on := 15, ground := Go.Ground.data }, { on := 14, ground := Go.Ground.chain }, { on := 12, ground := Go.Ground.guard }], guard := some (12, false) }) rfl (fun Kr16 hK => ?_) AllReadyH.nil
          go_simp
          (go_at_call 16; (with_reducible refine (HRMS.out _ _ _ HT.out.box.row).mono ?_); rintro e w4 ⟨rfl, hb⟩; have HT := Lib.hid (TkInv.below HT.out hb); have m0 := HT.out.m0; clear hb)
          refine hK.out _ _ ?_ (fun hHeld3 => ?_)
          · (try dsimp only); exact m0
          clear hK Kr16 hHeld2
          try simp only [Act.put, List.setIfInBounds_toArray, List.set_cons_zero, List.set_cons_succ]
          first
          | (refine wpAnyH_take (i := 17) (oi := { dst := some 89, op := Go.Op.binOp Go.BinOp.neq 3 (Go.Operand.tmp 86) (Go.Operand.tmp 88) 3, type := 4, pos := "law.go:40", after := #[{ on := 14, ground := Go.Ground.data }, { on := 16, ground := Go.Ground.data }, { on := 12, ground := Go.Ground.guard }], guard := some (12, false) }) (v := ?_) rfl (by kernel_rfl) (by kernel_rfl) (by kernel_rfl) (fun _ _ _ h => h) (Or.inl ⟨by rfl, ?_⟩) hHeld3 ?_
             rotate_left
             · ((intro w hSw; (try dsimp only at hSw); go_simp) <;> (first | with_reducible rfl | (rw [if_neg (by omega)]; done))))
          | (refine wpAnyH_take (i := 17) (oi := { dst := some 89, op := Go.Op.binOp Go.BinOp.neq 3 (Go.Operand.tmp 86) (Go.Operand.tmp 88) 3, type := 4, pos := "law.go:40", after := #[{ on := 14, ground := Go.Ground.data }, { on := 16, ground := Go.Ground.data }, { on := 12, ground := Go.Ground.guard }], guard := some (12, false) }) (v := undef) rfl (by kernel_rfl) (by kernel_rfl) (by kernel_rfl) (fun _ _ _ h => h) (Or.inr ⟨by rfl, rfl⟩) hHeld3 ?_)
          try simp only [Act.put, List.setIfInBounds_toArray, List.set_cons_zero, List.set_cons_succ]
          first
          | (refine wpAnyH_take (i := 18) (oi := { dst := some 90, op := Go.Op.pick (Go.Operand.tmp 84) (Go.Operand.const (Go.Value.bool true)) (Go.Operand.tmp 89), type := 4, pos := "law.go:40", after := #[{ on := 12, ground := Go.Ground.data }, { on := 17, ground := Go.Ground.data }], guard := none }) (v := ?_) rfl (by kernel_rfl) (by kernel_rfl) (by kernel_rfl) (fun _ _ _ h => h) (Or.inl ⟨by rfl, ?_⟩) hHeld3 ?_
             rotate_left
             · ((intro w hSw; (try dsimp only at hSw); go_simp) <;> (first | with_reducible rfl | (rw [if_neg (by omega)]; done))))
          | (refine wpAnyH_take (i := 18) (oi := { dst := some 90, op := Go.Op.pick (Go.Operand.tmp 84) (Go.Operand.const (Go.Value.bool true)) (Go.Operand.tmp 89), type := 4, pos := "law.go:40", after := #[{ on := 12, ground := Go.Ground.data }, { on := 17, ground := Go.Ground.data }], guard := none }) (v := undef) rfl (by kernel_rfl) (by kernel_rfl) (by kernel_rfl) (fun _ _ _ h => h) (Or.inr ⟨by rfl, rfl⟩) hHeld3 ?_)
          try simp only [Act.put, List.setIfInBounds_toArray, List.set_cons_zero, List.set_cons_succ]
          refine wpAnyH_done (by kernel_rfl) ?_ _
          clear hHeld3
          go_wp2_with fail
          go_roundw
          case rel => exact ⟨k + 1, L2, _, _, by go_num, HLT.out, HLL.out, HT.out⟩
          case measure => simp [intOf]; omega
      · have hat1 : ((k : Int) == at') = false := beqf hat
        clear hat
        have m0 := HT.out.m0; have f0 := HT.out.f0; obtain ⟨vx, x0⟩ := HT.out.x0; have g0 := HT.out.g0
        have c1 : wr.cell? ⟨b, off + k, none⟩ = some (.int .u64 (x : Nat)) := cell_keep4 HC0.out HT.out.bel
        have hcase : wouldL L x = 0 ∨ (wouldL L x ≠ 0 ∧ L = []) ∨ (wouldL L x ≠ 0 ∧ L ≠ []) := by
          by_cases h0 : wouldL L x = 0
          · exact .inl h0
          · by_cases h1 : L = []
            · exact .inr (.inl ⟨h0, h1⟩)
            · exact .inr (.inr ⟨h0, h1⟩)
        have HRW : Hid (∀ a cap w, U64s w (.slice a L.length cap) L → Calls Try.prog 9 #[.agg #[.slice a L.length cap], .int .u64 x] w (CodeRet (wouldL L x) w)) := Lib.hid (fun a cap w h => rwould_any a cap L x w h HT.out.good hx64 (by have := HL1.out; omega))
        have HWD := Lib.hid (fun w h => would_any B x L w h HT.out.good hx64)
        have HTK := Lib.hid (fun w h => take_any B x L w h HT.out.good hx64)
        have HGT := Lib.hid (good_take (c := x) HT.out.good)
        unfold Told at HWD
        unfold TakeRet at HTK
        have HLL : Hid ((takeL L x).length ≤ k + 1) := Lib.hid (by have := HL.out; unfold takeL; split <;> simp <;> omega)
        obtain ⟨L2, hL2⟩ : ∃ L2, L2 = takeL L x := ⟨_, rfl⟩
        rw [← hL2] at HTK HGT HLL
        have HL2 : Hid (L2.length ≤ 100000) := Lib.hid (by have := HLL.out; have := HLT.out; have := HN.out; omega)
        have HTP := Lib.hid (fun w h => top_any B L2 w h HGT.out)
        have HMS := Lib.hid (fun w h => missing_any B L2 w h HGT.out)
        have HRTP := Lib.hid (fun a cap w h => rtop_any a cap L2 w h HL2.out)
        have HRMS := Lib.hid (fun a cap w h => rmissing_any a cap L2 w h HGT.out HL2.out)
        unfold TopRet at HTP
        unfold Told at HMS
        rcases hcase with h0 | ⟨h0, h1⟩ | ⟨h0, h1⟩
        · have eL : L2 = L ++ [x] := by rw [hL2]; unfold takeL; rw [if_pos h0]
          rw [h0] at HRW HWD HTK
          have HRT : Hid (∀ a cap w, U64s w (.slice a L.length cap) L → Calls Try.prog 12 #[.agg #[.slice a L.length cap], .int .u64 x] w (RTakeRet L x w)) := Lib.hid (fun a cap w h => rtake_any a cap L x w h (by have := HL1.out; omega))
          unfold RTakeRet at HRT
          rw [← eL] at HRT
          have HEL : Hid (L.length + 1 = L2.length) := Lib.hid (by rw [eL]; simp)
          rw [decide_eq_true (show L2 ≠ [] by rw [eL]; simp)] at HTP
          have hz : (0 : Int) < L2.length := by rw [← HEL.out]; omega
          have hz2 : 0 < L2.length := by omega
          clear eL hL2
          clear h0 hx64
          go_wp2_with fail
          go_still_tail 5, (by kernel_rfl)
          have HTd := Lib.hid (TkInv.below HT.out (Below.drew (Below.refl _ _)))
          have HT := HTd
          clear HTd
          change wpList _ _ _ _ _ wr.drew
          generalize wr.drew = w4 at *
          have m0 := HT.out.m0; have f0 := HT.out.f0; obtain ⟨vx, x0⟩ := HT.out.x0; have g0 := HT.out.g0
          have c1 : w4.cell? ⟨b, off + k, none⟩ = some (.int .u64 (x : Nat)) := cell_keep4 HC0.out HT.out.bel
          go_wp2_with (first | (go_at_call 9; ((with_reducible refine (HRW.out _ _ _ HT.out.box.row).mono ?_); rintro e w4 ⟨rfl, hb⟩; have HT := Lib.hid (TkInv.below HT.out hb); have m0 := HT.out.m0; have f0 := HT.out.f0; obtain ⟨vx, x0⟩ := HT.out.x0; have g0 := HT.out.g0; have c1 : w4.cell? ⟨b, off + k, none⟩ = some (.int .u64 (x : Nat)) := cell_keep4 HC0.out HT.out.bel; clear hb)) | (go_at_call 10; ((with_reducible refine (HWD.out _ HT.out.win).mono ?_); rintro e w4 ⟨rfl, hq⟩; have HT := Lib.hid (TkInv.told HT.out hq); have m0 := HT.out.m0; have f0 := HT.out.f0; obtain ⟨vx, x0⟩ := HT.out.x0; have g0 := HT.out.g0; have c1 : w4.cell? ⟨b, off + k, none⟩ = some (.int .u64 (x : Nat)) := cell_keep4 HC0.out HT.out.bel; clear hq)) | (go_at_call 11; ((with_reducible refine (HTK.out _ HT.out.win).mono ?_); rintro e w4 ⟨rfl, ha, hg⟩; have HT := Lib.hid (TkInv.take HT.out HBS.out hg ha HGT.out); have m0 := HT.out.m0; have f0 := HT.out.f0; obtain ⟨vx, x0⟩ := HT.out.x0; have g0 := HT.out.g0; have c1 : w4.cell? ⟨b, off + k, none⟩ = some (.int .u64 (x : Nat)) := cell_keep4 HC0.out HT.out.bel; clear ha hg)) | fail)
          go_still_tail 5, (by kernel_rfl)
          have HTd := Lib.hid (TkInv.below HT.out (Below.drew (Below.refl _ _)))
          have HT := HTd
          clear HTd
          change wpList _ _ _ _ _ w4.drew
          generalize w4.drew = w5 at *
          have m0 := HT.out.m0; have f0 := HT.out.f0; obtain ⟨vx, x0⟩ := HT.out.x0; have g0 := HT.out.g0
          have c1 : w5.cell? ⟨b, off + k, none⟩ = some (.int .u64 (x : Nat)) := cell_keep4 HC0.out HT.out.bel
          go_wp2_with (first | (go_at_call 12; ((with_reducible refine (HRT.out _ _ _ HT.out.box.row).mono ?_); rintro e w4 ⟨a3, cap3, rfl, hu, hr, hb⟩; have HT := Lib.hid (TkInv.below HT.out hb); have HU := Lib.hid hu; have HR := Lib.hid hr; have m0 := HT.out.m0; have f0 := HT.out.f0; obtain ⟨vx, x0⟩ := HT.out.x0; have g0 := HT.out.g0; have c1 : w4.cell? ⟨b, off + k, none⟩ = some (.int .u64 (x : Nat)) := cell_keep4 HC0.out HT.out.bel; clear hb hu hr)) | fail)
          have HT := Lib.hid (TkInv.put HT.out HMS0.out HNE.out HEL.out HU.out HR.out)
          generalize w4.setCell ⟨M, 0, none⟩ (.slice a3 (L.length + 1) cap3) = w5 at *
          clear m0 f0 x0 g0
          have m0 := HT.out.m0
          go_wp2_with (first | (go_at_call 13; ((with_reducible refine (HTP.out _ HT.out.win).mono ?_); rintro e w4 ⟨rfl, hq⟩; have HT := Lib.hid (TkInv.told HT.out hq); have m0 := HT.out.m0; have f0 := HT.out.f0; obtain ⟨vx, x0⟩ := HT.out.x0; have g0 := HT.out.g0; clear hq)) | fail)
          have HTd := Lib.hid (TkInv.below HT.out (Below.drew (Below.refl _ _)))
          have HT := HTd
          clear HTd
          have m0 := HT.out.m0
          refine wp_region_held_drew (S := (fun W => W.cell? ⟨M, 0, none⟩ = some (.slice a3 L2.length cap3))) (by kernel_rfl) ?_ (fun hHeld0 => ?_)
          · (try dsimp only); exact m0
          first
          | (refine wpAnyH_take (i := 0) (oi := { dst := some 72, op := Go.Op.move (Go.Operand.tmp 12), type := 4, pos := "law.go:40", after := #[], guard := none }) (v := ?_) rfl (by kernel_rfl) (by kernel_rfl) (by kernel_rfl) (fun _ _ _ h => h) (Or.inl ⟨by rfl, ?_⟩) hHeld0 ?_
             rotate_left
             · ((intro w hSw; (try dsimp only at hSw); go_simp) <;> (first | with_reducible rfl | (rw [if_neg (by omega)]; done))))
          | (refine wpAnyH_take (i := 0) (oi := { dst := some 72, op := Go.Op.move (Go.Operand.tmp 12), type := 4, pos := "law.go:40", after := #[], guard := none }) (v := undef) rfl (by kernel_rfl) (by kernel_rfl) (by kernel_rfl) (fun _ _ _ h => h) (Or.inr ⟨by rfl, rfl⟩) hHeld0 ?_)
          try simp only [Act.put, List.setIfInBounds_toArray, List.set_cons_zero, List.set_cons_succ]
          first
          | (refine wpAnyH_take (i := 1) (oi := { dst := some 73, op := Go.Op.fieldAddr 27 (Go.Operand.tmp 6) 0, type := 0, pos := "law.go:40", after := #[], guard := none }) (v := ?_) rfl (by kernel_rfl) (by kernel_rfl) (by kernel_rfl) (fun _ _ _ h => h) (Or.inl ⟨by rfl, ?_⟩) hHeld0 ?_
             rotate_left
             · ((intro w hSw; (try dsimp only at hSw); go_simp) <;> (first | with_reducible rfl | (rw [if_neg (by omega)]; done))))
          | (refine wpAnyH_take (i := 1) (oi := { dst := some 73, op := Go.Op.fieldAddr 27 (Go.Operand.tmp 6) 0, type := 0, pos := "law.go:40", after := #[], guard := none }) (v := undef) rfl (by kernel_rfl) (by kernel_rfl) (by kernel_rfl) (fun _ _ _ h => h) (Or.inr ⟨by rfl, rfl⟩) hHeld0 ?_)
          try simp only [Act.put, List.setIfInBounds_toArray, List.set_cons_zero, List.set_cons_succ]
          first
          | (refine wpAnyH_take (i := 2) (oi := { dst := some 74, op := Go.Op.load 22 (Go.Operand.tmp 73), type := 22, pos := "law.go:40", after := #[{ on := 1, ground := Go.Ground.data }], guard := none }) (v := ?_) rfl (by kernel_rfl) (by kernel_rfl) (by kernel_rfl) (fun _ _ _ h => h) (Or.inl ⟨by rfl, ?_⟩) hHeld0 ?_
             rotate_left
             · ((intro w hSw; (try dsimp only at hSw); go_simp) <;> (first | with_reducible rfl | (rw [if_neg (by omega)]; done))))
          | (refine wpAnyH_take (i := 2) (oi := { dst := some 74, op := Go.Op.load 22 (Go.Operand.tmp 73), type := 22, pos := "law.go:40", after := #[{ on := 1, ground := Go.Ground.data }], guard := none }) (v := undef) rfl (by kernel_rfl) (by kernel_rfl) (by kernel_rfl) (fun _ _ _ h => h) (Or.inr ⟨by rfl, rfl⟩) hHeld0 ?_)
          try simp only [Act.put, List.setIfInBounds_toArray, List.set_cons_zero, List.set_cons_succ]
          first
          | (refine wpAnyH_take (i := 3) (oi := { dst := some 75, op := Go.Op.call { callee := Go.Callee.builtin Go.Builtin.len, args := #[Go.Operand.tmp 74], argTypes := #[22] }, type := 3, pos := "law.go:40", after := #[{ on := 2, ground := Go.Ground.data }], guard := none }) (v := ?_) rfl (by kernel_rfl) (by kernel_rfl) (by kernel_rfl) (fun _ _ _ h => h) (Or.inl ⟨by rfl, ?_⟩) hHeld0 ?_
             rotate_left
             · ((intro w hSw; (try dsimp only at hSw); go_simp) <;> (first | with_reducible rfl | (rw [if_neg (by omega)]; done))))
          | (refine wpAnyH_take (i := 3) (oi := { dst := some 75, op := Go.Op.call { callee := Go.Callee.builtin Go.Builtin.len, args := #[Go.Operand.tmp 74], argTypes := #[22] }, type := 3, pos := "law.go:40", after := #[{ on := 2, ground := Go.Ground.data }], guard := none }) (v := undef) rfl (by kernel_rfl) (by kernel_rfl) (by kernel_rfl) (fun _ _ _ h => h) (Or.inr ⟨by rfl, rfl⟩) hHeld0 ?_)
          try simp only [Act.put, List.setIfInBounds_toArray, List.set_cons_zero, List.set_cons_succ]
          first
          | (refine wpAnyH_take (i := 4) (oi := { dst := some 76, op := Go.Op.binOp Go.BinOp.gtr 3 (Go.Operand.tmp 75) (Go.Operand.const (Go.Value.int Go.IntKind.i64 0)) 3, type := 4, pos := "law.go:40", after := #[{ on := 3, ground := Go.Ground.data }], guard := none }) (v := ?_) rfl (by kernel_rfl) (by kernel_rfl) (by kernel_rfl) (fun _ _ _ h => h) (Or.inl ⟨by rfl, ?_⟩) hHeld0 ?_
             rotate_left
             · ((intro w hSw; (try dsimp only at hSw); go_simp) <;> (first | with_reducible rfl | (rw [if_neg (by omega)]; done))))
          | (refine wpAnyH_take (i := 4) (oi := { dst := some 76, op := Go.Op.binOp Go.BinOp.gtr 3 (Go.Operand.tmp 75) (Go.Operand.const (Go.Value.int Go.IntKind.i64 0)) 3, type := 4, pos := "law.go:40", after := #[{ on := 3, ground := Go.Ground.data }], guard := none }) (v := undef) rfl (by kernel_rfl) (by kernel_rfl) (by kernel_rfl) (fun _ _ _ h => h) (Or.inr ⟨by rfl, rfl⟩) hHeld0 ?_)
          try simp only [Act.put, List.setIfInBounds_toArray, List.set_cons_zero, List.set_cons_succ]
          first
          | (refine wpAnyH_take (i := 5) (oi := { dst := some 77, op := Go.Op.binOp Go.BinOp.neq 4 (Go.Operand.tmp 72) (Go.Operand.tmp 76) 4, type := 4, pos := "law.go:40", after := #[{ on := 0, ground := Go.Ground.data }, { on := 4, ground := Go.Ground.data }], guard := none }) (v := ?_) rfl (by kernel_rfl) (by kernel_rfl) (by kernel_rfl) (fun _ _ _ h => h) (Or.inl ⟨by rfl, ?_⟩) hHeld0 ?_
             rotate_left
             · ((intro w hSw; (try dsimp only at hSw); go_simp) <;> (first | with_reducible rfl | (rw [if_neg (by omega)]; done))))
          | (refine wpAnyH_take (i := 5) (oi := { dst := some 77, op := Go.Op.binOp Go.BinOp.neq 4 (Go.Operand.tmp 72) (Go.Operand.tmp 76) 4, type := 4, pos := "law.go:40", after := #[{ on := 0, ground := Go.Ground.data }, { on := 4, ground := Go.Ground.data }], guard := none }) (v := undef) rfl (by kernel_rfl) (by kernel_rfl) (by kernel_rfl) (fun _ _ _ h => h) (Or.inr ⟨by rfl, rfl⟩) hHeld0 ?_)
          try simp only [Act.put, List.setIfInBounds_toArray, List.set_cons_zero, List.set_cons_succ]
          first
          | (refine wpAnyH_take (i := 6) (oi := { dst := some 78, op := Go.Op.move (Go.Operand.tmp 77), type := 4, pos := "law.go:40", after := #[{ on := 5, ground := Go.Ground.data }], guard := none }) (v := ?_) rfl (by kernel_rfl) (by kernel_rfl) (by kernel_rfl) (fun _ _ _ h => h) (Or.inl ⟨by rfl, ?_⟩) hHeld0 ?_
             rotate_left
             · ((intro w hSw; (try dsimp only at hSw); go_simp) <;> (first | with_reducible rfl | (rw [if_neg (by omega)]; done))))
          | (refine wpAnyH_take (i := 6) (oi := { dst := some 78, op := Go.Op.move (Go.Operand.tmp 77), type := 4, pos := "law.go:40", after := #[{ on := 5, ground := Go.Ground.data }], guard := none }) (v := undef) rfl (by kernel_rfl) (by kernel_rfl) (by kernel_rfl) (fun _ _ _ h => h) (Or.inr ⟨by rfl, rfl⟩) hHeld0 ?_)
          try simp only [Act.put, List.setIfInBounds_toArray, List.set_cons_zero, List.set_cons_succ]
          first
          | (refine wpAnyH_take (i := 7) (oi := { dst := some 79, op := Go.Op.move (Go.Operand.tmp 11), type := 30, pos := "law.go:40", after := #[{ on := 6, ground := Go.Ground.guard }], guard := some (6, false) }) (v := ?_) rfl (by kernel_rfl) (by kernel_rfl) (by kernel_rfl) (fun _ _ _ h => h) (Or.inl ⟨by rfl, ?_⟩) hHeld0 ?_
             rotate_left
             · ((intro w hSw; (try dsimp only at hSw); go_simp) <;> (first | with_reducible rfl | (rw [if_neg (by omega)]; done))))
          | (refine wpAnyH_take (i := 7) (oi := { dst := some 79, op := Go.Op.move (Go.Operand.tmp 11), type := 30, pos := "law.go:40", after := #[{ on := 6, ground := Go.Ground.guard }], guard := some (6, false) }) (v := undef) rfl (by kernel_rfl) (by kernel_rfl) (by kernel_rfl) (fun _ _ _ h => h) (Or.inr ⟨by rfl, rfl⟩) hHeld0 ?_)
          try simp only [Act.put, List.setIfInBounds_toArray, List.set_cons_zero, List.set_cons_succ]
          first
          | (refine wpAnyH_take (i := 8) (oi := { dst := some 80, op := Go.Op.load 27 (Go.Operand.tmp 6), type := 27, pos := "law.go:40", after := #[{ on := 6, ground := Go.Ground.guard }], guard := some (6, false) }) (v := ?_) rfl (by kernel_rfl) (by kernel_rfl) (by kernel_rfl) (fun _ _ _ h => h) (Or.inl ⟨by rfl, ?_⟩) hHeld0 ?_
             rotate_left
             · ((intro w hSw; (try dsimp only at hSw); go_simp) <;> (first | with_reducible rfl | (rw [if_neg (by omega)]; done))))
          | (refine wpAnyH_take (i := 8) (oi := { dst := some 80, op := Go.Op.load 27 (Go.Operand.tmp 6), type := 27, pos := "law.go:40", after := #[{ on := 6, ground := Go.Ground.guard }], guard := some (6, false) }) (v := undef) rfl (by kernel_rfl) (by kernel_rfl) (by kernel_rfl) (fun _ _ _ h => h) (Or.inr ⟨by rfl, rfl⟩) hHeld0 ?_)
          try simp only [Act.put, List.setIfInBounds_toArray, List.set_cons_zero, List.set_cons_succ]
          refine wpAnyH_ready (rs := [9]) (by kernel_rfl) (by simp) ?_
          refine AllReadyH.cons (o := { dst := some 81, op := Go.Op.call { callee := Go.Callee.value (Go.Operand.func 14), args := #[Go.Operand.tmp 80], argTypes := #[27] }, type := 30, pos := "law.go:40", after := #[{ on := 8, ground := Go.Ground.data }, { on := 6, ground := Go.Ground.chain }, { on := 6, ground := Go.Ground.guard }], guard := some (6, false) }) rfl (fun Kr9 hK => ?_) AllReadyH.nil
          go_simp
          (go_at_call 14; (with_reducible refine (HRTP.out _ _ _ HT.out.box.row).mono ?_); rintro e w4 ⟨rfl, hb⟩; have HT := Lib.hid (TkInv.below HT.out hb); have m0 := HT.out.m0; clear hb)
          refine hK.out _ _ ?_ (fun hHeld1 => ?_)
          · (try dsimp only); exact m0
          clear hK Kr9 hHeld0
          try simp only [Act.put, List.setIfInBounds_toArray, List.set_cons_zero, List.set_cons_succ]
          first
          | (refine wpAnyH_take (i := 10) (oi := { dst := some 82, op := Go.Op.binOp Go.BinOp.neq 30 (Go.Operand.tmp 79) (Go.Operand.tmp 81) 30, type := 4, pos := "law.go:40", after := #[{ on := 7, ground := Go.Ground.data }, { on := 9, ground := Go.Ground.data }, { on := 6, ground := Go.Ground.guard }], guard := some (6, false) }) (v := ?_) rfl (by kernel_rfl) (by kernel_rfl) (by kernel_rfl) (fun _ _ _ h => h) (Or.inl ⟨by rfl, ?_⟩) hHeld1 ?_
             rotate_left
             · ((intro w hSw; (try dsimp only at hSw); go_simp) <;> (first | with_reducible rfl | (rw [if_neg (by omega)]; done))))
          | (refine wpAnyH_take (i := 10) (oi := { dst := some 82, op := Go.Op.binOp Go.BinOp.neq 30 (Go.Operand.tmp 79) (Go.Operand.tmp 81) 30, type := 4, pos := "law.go:40", after := #[{ on := 7, ground := Go.Ground.data }, { on := 9, ground := Go.Ground.data }, { on := 6, ground := Go.Ground.guard }], guard := some (6, false) }) (v := undef) rfl (by kernel_rfl) (by kernel_rfl) (by kernel_rfl) (fun _ _ _ h => h) (Or.inr ⟨by rfl, rfl⟩) hHeld1 ?_)
          try simp only [Act.put, List.setIfInBounds_toArray, List.set_cons_zero, List.set_cons_succ]
          first
          | (refine wpAnyH_take (i := 11) (oi := { dst := some 83, op := Go.Op.pick (Go.Operand.tmp 78) (Go.Operand.const (Go.Value.bool true)) (Go.Operand.tmp 82), type := 4, pos := "law.go:40", after := #[{ on := 6, ground := Go.Ground.data }, { on := 10, ground := Go.Ground.data }], guard := none }) (v := ?_) rfl (by kernel_rfl) (by kernel_rfl) (by kernel_rfl) (fun _ _ _ h => h) (Or.inl ⟨by rfl, ?_⟩) hHeld1 ?_
             rotate_left
             · ((intro w hSw; (try dsimp only at hSw); go_simp) <;> (first | with_reducible rfl | (rw [if_neg (by omega)]; done))))
          | (refine wpAnyH_take (i := 11) (oi := { dst := some 83, op := Go.Op.pick (Go.Operand.tmp 78) (Go.Operand.const (Go.Value.bool true)) (Go.Operand.tmp 82), type := 4, pos := "law.go:40", after := #[{ on := 6, ground := Go.Ground.data }, { on := 10, ground := Go.Ground.data }], guard := none }) (v := undef) rfl (by kernel_rfl) (by kernel_rfl) (by kernel_rfl) (fun _ _ _ h => h) (Or.inr ⟨by rfl, rfl⟩) hHeld1 ?_)
          try simp only [Act.put, List.setIfInBounds_toArray, List.set_cons_zero, List.set_cons_succ]
          first
          | (refine wpAnyH_take (i := 12) (oi := { dst := some 84, op := Go.Op.move (Go.Operand.tmp 83), type := 4, pos := "law.go:40", after := #[{ on := 11, ground := Go.Ground.data }, { on := 9, ground := Go.Ground.chain }], guard := none }) (v := ?_) rfl (by kernel_rfl) (by kernel_rfl) (by kernel_rfl) (fun _ _ _ h => h) (Or.inl ⟨by rfl, ?_⟩) hHeld1 ?_
             rotate_left
             · ((intro w hSw; (try dsimp only at hSw); go_simp) <;> (first | with_reducible rfl | (rw [if_neg (by omega)]; done))))
          | (refine wpAnyH_take (i := 12) (oi := { dst := some 84, op := Go.Op.move (Go.Operand.tmp 83), type := 4, pos := "law.go:40", after := #[{ on := 11, ground := Go.Ground.data }, { on := 9, ground := Go.Ground.chain }], guard := none }) (v := undef) rfl (by kernel_rfl) (by kernel_rfl) (by kernel_rfl) (fun _ _ _ h => h) (Or.inr ⟨by rfl, rfl⟩) hHeld1 ?_)
          try simp only [Act.put, List.setIfInBounds_toArray, List.set_cons_zero, List.set_cons_succ]
          first
          | (refine wpAnyH_take (i := 13) (oi := { dst := some 85, op := Go.Op.move (Go.Operand.tmp 5), type := 24, pos := "law.go:40", after := #[{ on := 12, ground := Go.Ground.guard }], guard := some (12, false) }) (v := ?_) rfl (by kernel_rfl) (by kernel_rfl) (by kernel_rfl) (fun _ _ _ h => h) (Or.inl ⟨by rfl, ?_⟩) hHeld1 ?_
             rotate_left
             · ((intro w hSw; (try dsimp only at hSw); go_simp) <;> (first | with_reducible rfl | (rw [if_neg (by omega)]; done))))
          | (refine wpAnyH_take (i := 13) (oi := { dst := some 85, op := Go.Op.move (Go.Operand.tmp 5), type := 24, pos := "law.go:40", after := #[{ on := 12, ground := Go.Ground.guard }], guard := some (12, false) }) (v := undef) rfl (by kernel_rfl) (by kernel_rfl) (by kernel_rfl) (fun _ _ _ h => h) (Or.inr ⟨by rfl, rfl⟩) hHeld1 ?_)
          try simp only [Act.put, List.setIfInBounds_toArray, List.set_cons_zero, List.set_cons_succ]
          first
          | (refine wpAnyH_take (i := 15) (oi := { dst := some 87, op := Go.Op.load 27 (Go.Operand.tmp 6), type := 27, pos := "law.go:40", after := #[{ on := 12, ground := Go.Ground.guard }], guard := some (12, false) }) (v := ?_) rfl (by kernel_rfl) (by kernel_rfl) (by kernel_rfl) (fun _ _ _ h => h) (Or.inl ⟨by rfl, ?_⟩) hHeld1 ?_
             rotate_left
             · ((intro w hSw; (try dsimp only at hSw); go_simp) <;> (first | with_reducible rfl | (rw [if_neg (by omega)]; done))))
          | (refine wpAnyH_take (i := 15) (oi := { dst := some 87, op := Go.Op.load 27 (Go.Operand.tmp 6), type := 27, pos := "law.go:40", after := #[{ on := 12, ground := Go.Ground.guard }], guard := some (12, false) }) (v := undef) rfl (by kernel_rfl) (by kernel_rfl) (by kernel_rfl) (fun _ _ _ h => h) (Or.inr ⟨by rfl, rfl⟩) hHeld1 ?_)
          try simp only [Act.put, List.setIfInBounds_toArray, List.set_cons_zero, List.set_cons_succ]
          refine wpAnyH_ready (rs := [14]) (by kernel_rfl) (by simp) ?_
          refine AllReadyH.cons (o := { dst := some 86, op := Go.Op.call { callee := Go.Callee.value (Go.Operand.func 15), args := #[Go.Operand.tmp 85], argTypes := #[24] }, type := 3, pos := "law.go:40", after := #[{ on := 13, ground := Go.Ground.data }, { on := 12, ground := Go.Ground.chain }, { on := 12, ground := Go.Ground.guard }], guard := some (12, false) }) rfl (fun Kr14 hK => ?_) AllReadyH.nil
          go_simp
          (go_at_call 15; (with_reducible refine (HMS.out _ HT.out.win).mono ?_); rintro e w4 ⟨rfl, hq⟩; have HT := Lib.hid (TkInv.told HT.out hq); have m0 := HT.out.m0; clear hq)
          refine hK.out _ _ ?_ (fun hHeld2 => ?_)
          · (try dsimp only); exact m0
          clear hK Kr14 hHeld1
          try simp only [Act.put, List.setIfInBounds_toArray, List.set_cons_zero, List.set_cons_succ]
          refine wpAnyH_ready (rs := [16]) (by kernel_rfl) (by simp) ?_
          refine AllReadyH.cons (o := { dst := some 88, op := Go.Op.call { callee := Go.Callee.value (Go.Operand.func 16), args := #[Go.Operand.tmp 87], argTypes := #[27] }, type := 3, pos := "law.go:40", after := #[{ on := 15, ground := Go.Ground.data }, { on := 14, ground := Go.Ground.chain }, { on := 12, ground := Go.Ground.guard }], guard := some (12, false) }) rfl (fun Kr16 hK => ?_) AllReadyH.nil
          go_simp
          (go_at_call 16; (with_reducible refine (HRMS.out _ _ _ HT.out.box.row).mono ?_); rintro e w4 ⟨rfl, hb⟩; have HT := Lib.hid (TkInv.below HT.out hb); have m0 := HT.out.m0; clear hb)
          refine hK.out _ _ ?_ (fun hHeld3 => ?_)
          · (try dsimp only); exact m0
          clear hK Kr16 hHeld2
          try simp only [Act.put, List.setIfInBounds_toArray, List.set_cons_zero, List.set_cons_succ]
          first
          | (refine wpAnyH_take (i := 17) (oi := { dst := some 89, op := Go.Op.binOp Go.BinOp.neq 3 (Go.Operand.tmp 86) (Go.Operand.tmp 88) 3, type := 4, pos := "law.go:40", after := #[{ on := 14, ground := Go.Ground.data }, { on := 16, ground := Go.Ground.data }, { on := 12, ground := Go.Ground.guard }], guard := some (12, false) }) (v := ?_) rfl (by kernel_rfl) (by kernel_rfl) (by kernel_rfl) (fun _ _ _ h => h) (Or.inl ⟨by rfl, ?_⟩) hHeld3 ?_
             rotate_left
             · ((intro w hSw; (try dsimp only at hSw); go_simp) <;> (first | with_reducible rfl | (rw [if_neg (by omega)]; done))))
          | (refine wpAnyH_take (i := 17) (oi := { dst := some 89, op := Go.Op.binOp Go.BinOp.neq 3 (Go.Operand.tmp 86) (Go.Operand.tmp 88) 3, type := 4, pos := "law.go:40", after := #[{ on := 14, ground := Go.Ground.data }, { on := 16, ground := Go.Ground.data }, { on := 12, ground := Go.Ground.guard }], guard := some (12, false) }) (v := undef) rfl (by kernel_rfl) (by kernel_rfl) (by kernel_rfl) (fun _ _ _ h => h) (Or.inr ⟨by rfl, rfl⟩) hHeld3 ?_)
          try simp only [Act.put, List.setIfInBounds_toArray, List.set_cons_zero, List.set_cons_succ]
          first
          | (refine wpAnyH_take (i := 18) (oi := { dst := some 90, op := Go.Op.pick (Go.Operand.tmp 84) (Go.Operand.const (Go.Value.bool true)) (Go.Operand.tmp 89), type := 4, pos := "law.go:40", after := #[{ on := 12, ground := Go.Ground.data }, { on := 17, ground := Go.Ground.data }], guard := none }) (v := ?_) rfl (by kernel_rfl) (by kernel_rfl) (by kernel_rfl) (fun _ _ _ h => h) (Or.inl ⟨by rfl, ?_⟩) hHeld3 ?_
             rotate_left
             · ((intro w hSw; (try dsimp only at hSw); go_simp) <;> (first | with_reducible rfl | (rw [if_neg (by omega)]; done))))
          | (refine wpAnyH_take (i := 18) (oi := { dst := some 90, op := Go.Op.pick (Go.Operand.tmp 84) (Go.Operand.const (Go.Value.bool true)) (Go.Operand.tmp 89), type := 4, pos := "law.go:40", after := #[{ on := 12, ground := Go.Ground.data }, { on := 17, ground := Go.Ground.data }], guard := none }) (v := undef) rfl (by kernel_rfl) (by kernel_rfl) (by kernel_rfl) (fun _ _ _ h => h) (Or.inr ⟨by rfl, rfl⟩) hHeld3 ?_)
          try simp only [Act.put, List.setIfInBounds_toArray, List.set_cons_zero, List.set_cons_succ]
          refine wpAnyH_done (by kernel_rfl) ?_ _
          clear hHeld3
          go_wp2_with fail
          go_roundw
          case rel => exact ⟨k + 1, L2, _, _, by go_num, HLT.out, HLL.out, HT.out⟩
          case measure => simp [intOf]; omega
        · have eL : L2 = L := by rw [hL2]; unfold takeL; rw [if_neg h0]
          have hk0 : ((wouldL L x : Int) == 0) = false := beqf (by omega)
          rw [decide_eq_false (show ¬ L2 ≠ [] by rw [eL, h1]; simp)] at HTP
          have hz : ¬ (0 : Int) < L2.length := by rw [eL, h1]; simp
          have hz2 : ¬ 0 < L2.length := by omega
          subst eL
          generalize wouldL L2 x = kx at *
          clear hL2 h1
          clear h0 hx64
          go_wp2_with fail
          go_still_tail 5, (by kernel_rfl)
          have HTd := Lib.hid (TkInv.below HT.out (Below.drew (Below.refl _ _)))
          have HT := HTd
          clear HTd
          change wpList _ _ _ _ _ wr.drew
          generalize wr.drew = w4 at *
          have m0 := HT.out.m0; have f0 := HT.out.f0; obtain ⟨vx, x0⟩ := HT.out.x0; have g0 := HT.out.g0
          have c1 : w4.cell? ⟨b, off + k, none⟩ = some (.int .u64 (x : Nat)) := cell_keep4 HC0.out HT.out.bel
          go_wp2_with (first | (go_at_call 9; ((with_reducible refine (HRW.out _ _ _ HT.out.box.row).mono ?_); rintro e w4 ⟨rfl, hb⟩; have HT := Lib.hid (TkInv.below HT.out hb); have m0 := HT.out.m0; have f0 := HT.out.f0; obtain ⟨vx, x0⟩ := HT.out.x0; have g0 := HT.out.g0; have c1 : w4.cell? ⟨b, off + k, none⟩ = some (.int .u64 (x : Nat)) := cell_keep4 HC0.out HT.out.bel; clear hb)) | (go_at_call 10; ((with_reducible refine (HWD.out _ HT.out.win).mono ?_); rintro e w4 ⟨rfl, hq⟩; have HT := Lib.hid (TkInv.told HT.out hq); have m0 := HT.out.m0; have f0 := HT.out.f0; obtain ⟨vx, x0⟩ := HT.out.x0; have g0 := HT.out.g0; have c1 : w4.cell? ⟨b, off + k, none⟩ = some (.int .u64 (x : Nat)) := cell_keep4 HC0.out HT.out.bel; clear hq)) | (go_at_call 11; ((with_reducible refine (HTK.out _ HT.out.win).mono ?_); rintro e w4 ⟨rfl, ha, hg⟩; have HT := Lib.hid (TkInv.take HT.out HBS.out hg ha HGT.out); have m0 := HT.out.m0; have f0 := HT.out.f0; obtain ⟨vx, x0⟩ := HT.out.x0; have g0 := HT.out.g0; have c1 : w4.cell? ⟨b, off + k, none⟩ = some (.int .u64 (x : Nat)) := cell_keep4 HC0.out HT.out.bel; clear ha hg)) | fail)
          clear m0 f0 x0 g0
          have m0 := HT.out.m0
          go_wp2_with (first | (go_at_call 13; ((with_reducible refine (HTP.out _ HT.out.win).mono ?_); rintro e w4 ⟨rfl, hq⟩; have HT := Lib.hid (TkInv.told HT.out hq); have m0 := HT.out.m0; have f0 := HT.out.f0; obtain ⟨vx, x0⟩ := HT.out.x0; have g0 := HT.out.g0; clear hq)) | fail)
          have HTd := Lib.hid (TkInv.below HT.out (Below.drew (Below.refl _ _)))
          have HT := HTd
          clear HTd
          have m0 := HT.out.m0
          refine wp_region_held_drew (S := (fun W => W.cell? ⟨M, 0, none⟩ = some (.slice a1 L2.length cap1))) (by kernel_rfl) ?_ (fun hHeld0 => ?_)
          · (try dsimp only); exact m0
          first
          | (refine wpAnyH_take (i := 0) (oi := { dst := some 72, op := Go.Op.move (Go.Operand.tmp 12), type := 4, pos := "law.go:40", after := #[], guard := none }) (v := ?_) rfl (by kernel_rfl) (by kernel_rfl) (by kernel_rfl) (fun _ _ _ h => h) (Or.inl ⟨by rfl, ?_⟩) hHeld0 ?_
             rotate_left
             · ((intro w hSw; (try dsimp only at hSw); go_simp) <;> (first | with_reducible rfl | (rw [if_neg (by omega)]; done))))
          | (refine wpAnyH_take (i := 0) (oi := { dst := some 72, op := Go.Op.move (Go.Operand.tmp 12), type := 4, pos := "law.go:40", after := #[], guard := none }) (v := undef) rfl (by kernel_rfl) (by kernel_rfl) (by kernel_rfl) (fun _ _ _ h => h) (Or.inr ⟨by rfl, rfl⟩) hHeld0 ?_)
          try simp only [Act.put, List.setIfInBounds_toArray, List.set_cons_zero, List.set_cons_succ]
          first
          | (refine wpAnyH_take (i := 1) (oi := { dst := some 73, op := Go.Op.fieldAddr 27 (Go.Operand.tmp 6) 0, type := 0, pos := "law.go:40", after := #[], guard := none }) (v := ?_) rfl (by kernel_rfl) (by kernel_rfl) (by kernel_rfl) (fun _ _ _ h => h) (Or.inl ⟨by rfl, ?_⟩) hHeld0 ?_
             rotate_left
             · ((intro w hSw; (try dsimp only at hSw); go_simp) <;> (first | with_reducible rfl | (rw [if_neg (by omega)]; done))))
          | (refine wpAnyH_take (i := 1) (oi := { dst := some 73, op := Go.Op.fieldAddr 27 (Go.Operand.tmp 6) 0, type := 0, pos := "law.go:40", after := #[], guard := none }) (v := undef) rfl (by kernel_rfl) (by kernel_rfl) (by kernel_rfl) (fun _ _ _ h => h) (Or.inr ⟨by rfl, rfl⟩) hHeld0 ?_)
          try simp only [Act.put, List.setIfInBounds_toArray, List.set_cons_zero, List.set_cons_succ]
          first
          | (refine wpAnyH_take (i := 2) (oi := { dst := some 74, op := Go.Op.load 22 (Go.Operand.tmp 73), type := 22, pos := "law.go:40", after := #[{ on := 1, ground := Go.Ground.data }], guard := none }) (v := ?_) rfl (by kernel_rfl) (by kernel_rfl) (by kernel_rfl) (fun _ _ _ h => h) (Or.inl ⟨by rfl, ?_⟩) hHeld0 ?_
             rotate_left
             · ((intro w hSw; (try dsimp only at hSw); go_simp) <;> (first | with_reducible rfl | (rw [if_neg (by omega)]; done))))
          | (refine wpAnyH_take (i := 2) (oi := { dst := some 74, op := Go.Op.load 22 (Go.Operand.tmp 73), type := 22, pos := "law.go:40", after := #[{ on := 1, ground := Go.Ground.data }], guard := none }) (v := undef) rfl (by kernel_rfl) (by kernel_rfl) (by kernel_rfl) (fun _ _ _ h => h) (Or.inr ⟨by rfl, rfl⟩) hHeld0 ?_)
          try simp only [Act.put, List.setIfInBounds_toArray, List.set_cons_zero, List.set_cons_succ]
          first
          | (refine wpAnyH_take (i := 3) (oi := { dst := some 75, op := Go.Op.call { callee := Go.Callee.builtin Go.Builtin.len, args := #[Go.Operand.tmp 74], argTypes := #[22] }, type := 3, pos := "law.go:40", after := #[{ on := 2, ground := Go.Ground.data }], guard := none }) (v := ?_) rfl (by kernel_rfl) (by kernel_rfl) (by kernel_rfl) (fun _ _ _ h => h) (Or.inl ⟨by rfl, ?_⟩) hHeld0 ?_
             rotate_left
             · ((intro w hSw; (try dsimp only at hSw); go_simp) <;> (first | with_reducible rfl | (rw [if_neg (by omega)]; done))))
          | (refine wpAnyH_take (i := 3) (oi := { dst := some 75, op := Go.Op.call { callee := Go.Callee.builtin Go.Builtin.len, args := #[Go.Operand.tmp 74], argTypes := #[22] }, type := 3, pos := "law.go:40", after := #[{ on := 2, ground := Go.Ground.data }], guard := none }) (v := undef) rfl (by kernel_rfl) (by kernel_rfl) (by kernel_rfl) (fun _ _ _ h => h) (Or.inr ⟨by rfl, rfl⟩) hHeld0 ?_)
          try simp only [Act.put, List.setIfInBounds_toArray, List.set_cons_zero, List.set_cons_succ]
          first
          | (refine wpAnyH_take (i := 4) (oi := { dst := some 76, op := Go.Op.binOp Go.BinOp.gtr 3 (Go.Operand.tmp 75) (Go.Operand.const (Go.Value.int Go.IntKind.i64 0)) 3, type := 4, pos := "law.go:40", after := #[{ on := 3, ground := Go.Ground.data }], guard := none }) (v := ?_) rfl (by kernel_rfl) (by kernel_rfl) (by kernel_rfl) (fun _ _ _ h => h) (Or.inl ⟨by rfl, ?_⟩) hHeld0 ?_
             rotate_left
             · ((intro w hSw; (try dsimp only at hSw); go_simp) <;> (first | with_reducible rfl | (rw [if_neg (by omega)]; done))))
          | (refine wpAnyH_take (i := 4) (oi := { dst := some 76, op := Go.Op.binOp Go.BinOp.gtr 3 (Go.Operand.tmp 75) (Go.Operand.const (Go.Value.int Go.IntKind.i64 0)) 3, type := 4, pos := "law.go:40", after := #[{ on := 3, ground := Go.Ground.data }], guard := none }) (v := undef) rfl (by kernel_rfl) (by kernel_rfl) (by kernel_rfl) (fun _ _ _ h => h) (Or.inr ⟨by rfl, rfl⟩) hHeld0 ?_)
          try simp only [Act.put, List.setIfInBounds_toArray, List.set_cons_zero, List.set_cons_succ]
          first
          | (refine wpAnyH_take (i := 5) (oi := { dst := some 77, op := Go.Op.binOp Go.BinOp.neq 4 (Go.Operand.tmp 72) (Go.Operand.tmp 76) 4, type := 4, pos := "law.go:40", after := #[{ on := 0, ground := Go.Ground.data }, { on := 4, ground := Go.Ground.data }], guard := none }) (v := ?_) rfl (by kernel_rfl) (by kernel_rfl) (by kernel_rfl) (fun _ _ _ h => h) (Or.inl ⟨by rfl, ?_⟩) hHeld0 ?_
             rotate_left
             · ((intro w hSw; (try dsimp only at hSw); go_simp) <;> (first | with_reducible rfl | (rw [if_neg (by omega)]; done))))
          | (refine wpAnyH_take (i := 5) (oi := { dst := some 77, op := Go.Op.binOp Go.BinOp.neq 4 (Go.Operand.tmp 72) (Go.Operand.tmp 76) 4, type := 4, pos := "law.go:40", after := #[{ on := 0, ground := Go.Ground.data }, { on := 4, ground := Go.Ground.data }], guard := none }) (v := undef) rfl (by kernel_rfl) (by kernel_rfl) (by kernel_rfl) (fun _ _ _ h => h) (Or.inr ⟨by rfl, rfl⟩) hHeld0 ?_)
          try simp only [Act.put, List.setIfInBounds_toArray, List.set_cons_zero, List.set_cons_succ]
          first
          | (refine wpAnyH_take (i := 6) (oi := { dst := some 78, op := Go.Op.move (Go.Operand.tmp 77), type := 4, pos := "law.go:40", after := #[{ on := 5, ground := Go.Ground.data }], guard := none }) (v := ?_) rfl (by kernel_rfl) (by kernel_rfl) (by kernel_rfl) (fun _ _ _ h => h) (Or.inl ⟨by rfl, ?_⟩) hHeld0 ?_
             rotate_left
             · ((intro w hSw; (try dsimp only at hSw); go_simp) <;> (first | with_reducible rfl | (rw [if_neg (by omega)]; done))))
          | (refine wpAnyH_take (i := 6) (oi := { dst := some 78, op := Go.Op.move (Go.Operand.tmp 77), type := 4, pos := "law.go:40", after := #[{ on := 5, ground := Go.Ground.data }], guard := none }) (v := undef) rfl (by kernel_rfl) (by kernel_rfl) (by kernel_rfl) (fun _ _ _ h => h) (Or.inr ⟨by rfl, rfl⟩) hHeld0 ?_)
          try simp only [Act.put, List.setIfInBounds_toArray, List.set_cons_zero, List.set_cons_succ]
          first
          | (refine wpAnyH_take (i := 7) (oi := { dst := some 79, op := Go.Op.move (Go.Operand.tmp 11), type := 30, pos := "law.go:40", after := #[{ on := 6, ground := Go.Ground.guard }], guard := some (6, false) }) (v := ?_) rfl (by kernel_rfl) (by kernel_rfl) (by kernel_rfl) (fun _ _ _ h => h) (Or.inl ⟨by rfl, ?_⟩) hHeld0 ?_
             rotate_left
             · ((intro w hSw; (try dsimp only at hSw); go_simp) <;> (first | with_reducible rfl | (rw [if_neg (by omega)]; done))))
          | (refine wpAnyH_take (i := 7) (oi := { dst := some 79, op := Go.Op.move (Go.Operand.tmp 11), type := 30, pos := "law.go:40", after := #[{ on := 6, ground := Go.Ground.guard }], guard := some (6, false) }) (v := undef) rfl (by kernel_rfl) (by kernel_rfl) (by kernel_rfl) (fun _ _ _ h => h) (Or.inr ⟨by rfl, rfl⟩) hHeld0 ?_)
          try simp only [Act.put, List.setIfInBounds_toArray, List.set_cons_zero, List.set_cons_succ]
          first
          | (refine wpAnyH_take (i := 8) (oi := { dst := some 80, op := Go.Op.load 27 (Go.Operand.tmp 6), type := 27, pos := "law.go:40", after := #[{ on := 6, ground := Go.Ground.guard }], guard := some (6, false) }) (v := ?_) rfl (by kernel_rfl) (by kernel_rfl) (by kernel_rfl) (fun _ _ _ h => h) (Or.inl ⟨by rfl, ?_⟩) hHeld0 ?_
             rotate_left
             · ((intro w hSw; (try dsimp only at hSw); go_simp) <;> (first | with_reducible rfl | (rw [if_neg (by omega)]; done))))
          | (refine wpAnyH_take (i := 8) (oi := { dst := some 80, op := Go.Op.load 27 (Go.Operand.tmp 6), type := 27, pos := "law.go:40", after := #[{ on := 6, ground := Go.Ground.guard }], guard := some (6, false) }) (v := undef) rfl (by kernel_rfl) (by kernel_rfl) (by kernel_rfl) (fun _ _ _ h => h) (Or.inr ⟨by rfl, rfl⟩) hHeld0 ?_)
          try simp only [Act.put, List.setIfInBounds_toArray, List.set_cons_zero, List.set_cons_succ]
          refine wpAnyH_ready (rs := [9]) (by kernel_rfl) (by simp) ?_
          refine AllReadyH.cons (o := { dst := some 81, op := Go.Op.call { callee := Go.Callee.value (Go.Operand.func 14), args := #[Go.Operand.tmp 80], argTypes := #[27] }, type := 30, pos := "law.go:40", after := #[{ on := 8, ground := Go.Ground.data }, { on := 6, ground := Go.Ground.chain }, { on := 6, ground := Go.Ground.guard }], guard := some (6, false) }) rfl (fun Kr9 hK => ?_) AllReadyH.nil
          go_simp
          (go_at_call 14; (with_reducible refine (HRTP.out _ _ _ HT.out.box.row).mono ?_); rintro e w4 ⟨rfl, hb⟩; have HT := Lib.hid (TkInv.below HT.out hb); have m0 := HT.out.m0; clear hb)
          refine hK.out _ _ ?_ (fun hHeld1 => ?_)
          · (try dsimp only); exact m0
          clear hK Kr9 hHeld0
          try simp only [Act.put, List.setIfInBounds_toArray, List.set_cons_zero, List.set_cons_succ]
          first
          | (refine wpAnyH_take (i := 10) (oi := { dst := some 82, op := Go.Op.binOp Go.BinOp.neq 30 (Go.Operand.tmp 79) (Go.Operand.tmp 81) 30, type := 4, pos := "law.go:40", after := #[{ on := 7, ground := Go.Ground.data }, { on := 9, ground := Go.Ground.data }, { on := 6, ground := Go.Ground.guard }], guard := some (6, false) }) (v := ?_) rfl (by kernel_rfl) (by kernel_rfl) (by kernel_rfl) (fun _ _ _ h => h) (Or.inl ⟨by rfl, ?_⟩) hHeld1 ?_
             rotate_left
             · ((intro w hSw; (try dsimp only at hSw); go_simp) <;> (first | with_reducible rfl | (rw [if_neg (by omega)]; done))))
          | (refine wpAnyH_take (i := 10) (oi := { dst := some 82, op := Go.Op.binOp Go.BinOp.neq 30 (Go.Operand.tmp 79) (Go.Operand.tmp 81) 30, type := 4, pos := "law.go:40", after := #[{ on := 7, ground := Go.Ground.data }, { on := 9, ground := Go.Ground.data }, { on := 6, ground := Go.Ground.guard }], guard := some (6, false) }) (v := undef) rfl (by kernel_rfl) (by kernel_rfl) (by kernel_rfl) (fun _ _ _ h => h) (Or.inr ⟨by rfl, rfl⟩) hHeld1 ?_)
          try simp only [Act.put, List.setIfInBounds_toArray, List.set_cons_zero, List.set_cons_succ]
          first
          | (refine wpAnyH_take (i := 11) (oi := { dst := some 83, op := Go.Op.pick (Go.Operand.tmp 78) (Go.Operand.const (Go.Value.bool true)) (Go.Operand.tmp 82), type := 4, pos := "law.go:40", after := #[{ on := 6, ground := Go.Ground.data }, { on := 10, ground := Go.Ground.data }], guard := none }) (v := ?_) rfl (by kernel_rfl) (by kernel_rfl) (by kernel_rfl) (fun _ _ _ h => h) (Or.inl ⟨by rfl, ?_⟩) hHeld1 ?_
             rotate_left
             · ((intro w hSw; (try dsimp only at hSw); go_simp) <;> (first | with_reducible rfl | (rw [if_neg (by omega)]; done))))
          | (refine wpAnyH_take (i := 11) (oi := { dst := some 83, op := Go.Op.pick (Go.Operand.tmp 78) (Go.Operand.const (Go.Value.bool true)) (Go.Operand.tmp 82), type := 4, pos := "law.go:40", after := #[{ on := 6, ground := Go.Ground.data }, { on := 10, ground := Go.Ground.data }], guard := none }) (v := undef) rfl (by kernel_rfl) (by kernel_rfl) (by kernel_rfl) (fun _ _ _ h => h) (Or.inr ⟨by rfl, rfl⟩) hHeld1 ?_)
          try simp only [Act.put, List.setIfInBounds_toArray, List.set_cons_zero, List.set_cons_succ]
          first
          | (refine wpAnyH_take (i := 12) (oi := { dst := some 84, op := Go.Op.move (Go.Operand.tmp 83), type := 4, pos := "law.go:40", after := #[{ on := 11, ground := Go.Ground.data }, { on := 9, ground := Go.Ground.chain }], guard := none }) (v := ?_) rfl (by kernel_rfl) (by kernel_rfl) (by kernel_rfl) (fun _ _ _ h => h) (Or.inl ⟨by rfl, ?_⟩) hHeld1 ?_
             rotate_left
             · ((intro w hSw; (try dsimp only at hSw); go_simp) <;> (first | with_reducible rfl | (rw [if_neg (by omega)]; done))))
          | (refine wpAnyH_take (i := 12) (oi := { dst := some 84, op := Go.Op.move (Go.Operand.tmp 83), type := 4, pos := "law.go:40", after := #[{ on := 11, ground := Go.Ground.data }, { on := 9, ground := Go.Ground.chain }], guard := none }) (v := undef) rfl (by kernel_rfl) (by kernel_rfl) (by kernel_rfl) (fun _ _ _ h => h) (Or.inr ⟨by rfl, rfl⟩) hHeld1 ?_)
          try simp only [Act.put, List.setIfInBounds_toArray, List.set_cons_zero, List.set_cons_succ]
          first
          | (refine wpAnyH_take (i := 13) (oi := { dst := some 85, op := Go.Op.move (Go.Operand.tmp 5), type := 24, pos := "law.go:40", after := #[{ on := 12, ground := Go.Ground.guard }], guard := some (12, false) }) (v := ?_) rfl (by kernel_rfl) (by kernel_rfl) (by kernel_rfl) (fun _ _ _ h => h) (Or.inl ⟨by rfl, ?_⟩) hHeld1 ?_
             rotate_left
             · ((intro w hSw; (try dsimp only at hSw); go_simp) <;> (first | with_reducible rfl | (rw [if_neg (by omega)]; done))))
          | (refine wpAnyH_take (i := 13) (oi := { dst := some 85, op := Go.Op.move (Go.Operand.tmp 5), type := 24, pos := "law.go:40", after := #[{ on := 12, ground := Go.Ground.guard }], guard := some (12, false) }) (v := undef) rfl (by kernel_rfl) (by kernel_rfl) (by kernel_rfl) (fun _ _ _ h => h) (Or.inr ⟨by rfl, rfl⟩) hHeld1 ?_)
          try simp only [Act.put, List.setIfInBounds_toArray, List.set_cons_zero, List.set_cons_succ]
          first
          | (refine wpAnyH_take (i := 15) (oi := { dst := some 87, op := Go.Op.load 27 (Go.Operand.tmp 6), type := 27, pos := "law.go:40", after := #[{ on := 12, ground := Go.Ground.guard }], guard := some (12, false) }) (v := ?_) rfl (by kernel_rfl) (by kernel_rfl) (by kernel_rfl) (fun _ _ _ h => h) (Or.inl ⟨by rfl, ?_⟩) hHeld1 ?_
             rotate_left
             · ((intro w hSw; (try dsimp only at hSw); go_simp) <;> (first | with_reducible rfl | (rw [if_neg (by omega)]; done))))
          | (refine wpAnyH_take (i := 15) (oi := { dst := some 87, op := Go.Op.load 27 (Go.Operand.tmp 6), type := 27, pos := "law.go:40", after := #[{ on := 12, ground := Go.Ground.guard }], guard := some (12, false) }) (v := undef) rfl (by kernel_rfl) (by kernel_rfl) (by kernel_rfl) (fun _ _ _ h => h) (Or.inr ⟨by rfl, rfl⟩) hHeld1 ?_)
          try simp only [Act.put, List.setIfInBounds_toArray, List.set_cons_zero, List.set_cons_succ]
          refine wpAnyH_ready (rs := [14]) (by kernel_rfl) (by simp) ?_
          refine AllReadyH.cons (o := { dst := some 86, op := Go.Op.call { callee := Go.Callee.value (Go.Operand.func 15), args := #[Go.Operand.tmp 85], argTypes := #[24] }, type := 3, pos := "law.go:40", after := #[{ on := 13, ground := Go.Ground.data }, { on := 12, ground := Go.Ground.chain }, { on := 12, ground := Go.Ground.guard }], guard := some (12, false) }) rfl (fun Kr14 hK => ?_) AllReadyH.nil
          go_simp
          (go_at_call 15; (with_reducible refine (HMS.out _ HT.out.win).mono ?_); rintro e w4 ⟨rfl, hq⟩; have HT := Lib.hid (TkInv.told HT.out hq); have m0 := HT.out.m0; clear hq)
          refine hK.out _ _ ?_ (fun hHeld2 => ?_)
          · (try dsimp only); exact m0
          clear hK Kr14 hHeld1
          try simp only [Act.put, List.setIfInBounds_toArray, List.set_cons_zero, List.set_cons_succ]
          refine wpAnyH_ready (rs := [16]) (by kernel_rfl) (by simp) ?_
          refine AllReadyH.cons (o := { dst := some 88, op := Go.Op.call { callee := Go.Callee.value (Go.Operand.func 16), args := #[Go.Operand.tmp 87], argTypes := #[27] }, type := 3, pos := "law.go:40", after := #[{ on := 15, ground := Go.Ground.data }, { on := 14, ground := Go.Ground.chain }, { on := 12, ground := Go.Ground.guard }], guard := some (12, false) }) rfl (fun Kr16 hK => ?_) AllReadyH.nil
          go_simp
          (go_at_call 16; (with_reducible refine (HRMS.out _ _ _ HT.out.box.row).mono ?_); rintro e w4 ⟨rfl, hb⟩; have HT := Lib.hid (TkInv.below HT.out hb); have m0 := HT.out.m0; clear hb)
          refine hK.out _ _ ?_ (fun hHeld3 => ?_)
          · (try dsimp only); exact m0
          clear hK Kr16 hHeld2
          try simp only [Act.put, List.setIfInBounds_toArray, List.set_cons_zero, List.set_cons_succ]
          first
          | (refine wpAnyH_take (i := 17) (oi := { dst := some 89, op := Go.Op.binOp Go.BinOp.neq 3 (Go.Operand.tmp 86) (Go.Operand.tmp 88) 3, type := 4, pos := "law.go:40", after := #[{ on := 14, ground := Go.Ground.data }, { on := 16, ground := Go.Ground.data }, { on := 12, ground := Go.Ground.guard }], guard := some (12, false) }) (v := ?_) rfl (by kernel_rfl) (by kernel_rfl) (by kernel_rfl) (fun _ _ _ h => h) (Or.inl ⟨by rfl, ?_⟩) hHeld3 ?_
             rotate_left
             · ((intro w hSw; (try dsimp only at hSw); go_simp) <;> (first | with_reducible rfl | (rw [if_neg (by omega)]; done))))
          | (refine wpAnyH_take (i := 17) (oi := { dst := some 89, op := Go.Op.binOp Go.BinOp.neq 3 (Go.Operand.tmp 86) (Go.Operand.tmp 88) 3, type := 4, pos := "law.go:40", after := #[{ on := 14, ground := Go.Ground.data }, { on := 16, ground := Go.Ground.data }, { on := 12, ground := Go.Ground.guard }], guard := some (12, false) }) (v := undef) rfl (by kernel_rfl) (by kernel_rfl) (by kernel_rfl) (fun _ _ _ h => h) (Or.inr ⟨by rfl, rfl⟩) hHeld3 ?_)
          try simp only [Act.put, List.setIfInBounds_toArray, List.set_cons_zero, List.set_cons_succ]
          first
          | (refine wpAnyH_take (i := 18) (oi := { dst := some 90, op := Go.Op.pick (Go.Operand.tmp 84) (Go.Operand.const (Go.Value.bool true)) (Go.Operand.tmp 89), type := 4, pos := "law.go:40", after := #[{ on := 12, ground := Go.Ground.data }, { on := 17, ground := Go.Ground.data }], guard := none }) (v := ?_) rfl (by kernel_rfl) (by kernel_rfl) (by kernel_rfl) (fun _ _ _ h => h) (Or.inl ⟨by rfl, ?_⟩) hHeld3 ?_
             rotate_left
             · ((intro w hSw; (try dsimp only at hSw); go_simp) <;> (first | with_reducible rfl | (rw [if_neg (by omega)]; done))))
          | (refine wpAnyH_take (i := 18) (oi := { dst := some 90, op := Go.Op.pick (Go.Operand.tmp 84) (Go.Operand.const (Go.Value.bool true)) (Go.Operand.tmp 89), type := 4, pos := "law.go:40", after := #[{ on := 12, ground := Go.Ground.data }, { on := 17, ground := Go.Ground.data }], guard := none }) (v := undef) rfl (by kernel_rfl) (by kernel_rfl) (by kernel_rfl) (fun _ _ _ h => h) (Or.inr ⟨by rfl, rfl⟩) hHeld3 ?_)
          try simp only [Act.put, List.setIfInBounds_toArray, List.set_cons_zero, List.set_cons_succ]
          refine wpAnyH_done (by kernel_rfl) ?_ _
          clear hHeld3
          go_wp2_with fail
          go_roundw
          case rel => exact ⟨k + 1, L2, _, _, by go_num, HLT.out, HLL.out, HT.out⟩
          case measure => simp [intOf]; omega
        · have eL : L2 = L := by rw [hL2]; unfold takeL; rw [if_neg h0]
          have hk0 : ((wouldL L x : Int) == 0) = false := beqf (by omega)
          rw [decide_eq_true (show L2 ≠ [] by rw [eL]; exact h1)] at HTP
          have hz : (0 : Int) < L2.length := by have := List.length_pos_iff.2 h1; rw [eL]; omega
          have hz2 : 0 < L2.length := by omega
          subst eL
          generalize wouldL L2 x = kx at *
          clear hL2 h1
          clear h0 hx64
          go_wp2_with fail
          go_still_tail 5, (by kernel_rfl)
          have HTd := Lib.hid (TkInv.below HT.out (Below.drew (Below.refl _ _)))
          have HT := HTd
          clear HTd
          change wpList _ _ _ _ _ wr.drew
          generalize wr.drew = w4 at *
          have m0 := HT.out.m0; have f0 := HT.out.f0; obtain ⟨vx, x0⟩ := HT.out.x0; have g0 := HT.out.g0
          have c1 : w4.cell? ⟨b, off + k, none⟩ = some (.int .u64 (x : Nat)) := cell_keep4 HC0.out HT.out.bel
          go_wp2_with (first | (go_at_call 9; ((with_reducible refine (HRW.out _ _ _ HT.out.box.row).mono ?_); rintro e w4 ⟨rfl, hb⟩; have HT := Lib.hid (TkInv.below HT.out hb); have m0 := HT.out.m0; have f0 := HT.out.f0; obtain ⟨vx, x0⟩ := HT.out.x0; have g0 := HT.out.g0; have c1 : w4.cell? ⟨b, off + k, none⟩ = some (.int .u64 (x : Nat)) := cell_keep4 HC0.out HT.out.bel; clear hb)) | (go_at_call 10; ((with_reducible refine (HWD.out _ HT.out.win).mono ?_); rintro e w4 ⟨rfl, hq⟩; have HT := Lib.hid (TkInv.told HT.out hq); have m0 := HT.out.m0; have f0 := HT.out.f0; obtain ⟨vx, x0⟩ := HT.out.x0; have g0 := HT.out.g0; have c1 : w4.cell? ⟨b, off + k, none⟩ = some (.int .u64 (x : Nat)) := cell_keep4 HC0.out HT.out.bel; clear hq)) | (go_at_call 11; ((with_reducible refine (HTK.out _ HT.out.win).mono ?_); rintro e w4 ⟨rfl, ha, hg⟩; have HT := Lib.hid (TkInv.take HT.out HBS.out hg ha HGT.out); have m0 := HT.out.m0; have f0 := HT.out.f0; obtain ⟨vx, x0⟩ := HT.out.x0; have g0 := HT.out.g0; have c1 : w4.cell? ⟨b, off + k, none⟩ = some (.int .u64 (x : Nat)) := cell_keep4 HC0.out HT.out.bel; clear ha hg)) | fail)
          clear m0 f0 x0 g0
          have m0 := HT.out.m0
          go_wp2_with (first | (go_at_call 13; ((with_reducible refine (HTP.out _ HT.out.win).mono ?_); rintro e w4 ⟨rfl, hq⟩; have HT := Lib.hid (TkInv.told HT.out hq); have m0 := HT.out.m0; have f0 := HT.out.f0; obtain ⟨vx, x0⟩ := HT.out.x0; have g0 := HT.out.g0; clear hq)) | fail)
          have HTd := Lib.hid (TkInv.below HT.out (Below.drew (Below.refl _ _)))
          have HT := HTd
          clear HTd
          have m0 := HT.out.m0
          refine wp_region_held_drew (S := (fun W => W.cell? ⟨M, 0, none⟩ = some (.slice a1 L2.length cap1))) (by kernel_rfl) ?_ (fun hHeld0 => ?_)
          · (try dsimp only); exact m0
          first
          | (refine wpAnyH_take (i := 0) (oi := { dst := some 72, op := Go.Op.move (Go.Operand.tmp 12), type := 4, pos := "law.go:40", after := #[], guard := none }) (v := ?_) rfl (by kernel_rfl) (by kernel_rfl) (by kernel_rfl) (fun _ _ _ h => h) (Or.inl ⟨by rfl, ?_⟩) hHeld0 ?_
             rotate_left
             · ((intro w hSw; (try dsimp only at hSw); go_simp) <;> (first | with_reducible rfl | (rw [if_neg (by omega)]; done))))
          | (refine wpAnyH_take (i := 0) (oi := { dst := some 72, op := Go.Op.move (Go.Operand.tmp 12), type := 4, pos := "law.go:40", after := #[], guard := none }) (v := undef) rfl (by kernel_rfl) (by kernel_rfl) (by kernel_rfl) (fun _ _ _ h => h) (Or.inr ⟨by rfl, rfl⟩) hHeld0 ?_)
          try simp only [Act.put, List.setIfInBounds_toArray, List.set_cons_zero, List.set_cons_succ]
          first
          | (refine wpAnyH_take (i := 1) (oi := { dst := some 73, op := Go.Op.fieldAddr 27 (Go.Operand.tmp 6) 0, type := 0, pos := "law.go:40", after := #[], guard := none }) (v := ?_) rfl (by kernel_rfl) (by kernel_rfl) (by kernel_rfl) (fun _ _ _ h => h) (Or.inl ⟨by rfl, ?_⟩) hHeld0 ?_
             rotate_left
             · ((intro w hSw; (try dsimp only at hSw); go_simp) <;> (first | with_reducible rfl | (rw [if_neg (by omega)]; done))))
          | (refine wpAnyH_take (i := 1) (oi := { dst := some 73, op := Go.Op.fieldAddr 27 (Go.Operand.tmp 6) 0, type := 0, pos := "law.go:40", after := #[], guard := none }) (v := undef) rfl (by kernel_rfl) (by kernel_rfl) (by kernel_rfl) (fun _ _ _ h => h) (Or.inr ⟨by rfl, rfl⟩) hHeld0 ?_)
          try simp only [Act.put, List.setIfInBounds_toArray, List.set_cons_zero, List.set_cons_succ]
          first
          | (refine wpAnyH_take (i := 2) (oi := { dst := some 74, op := Go.Op.load 22 (Go.Operand.tmp 73), type := 22, pos := "law.go:40", after := #[{ on := 1, ground := Go.Ground.data }], guard := none }) (v := ?_) rfl (by kernel_rfl) (by kernel_rfl) (by kernel_rfl) (fun _ _ _ h => h) (Or.inl ⟨by rfl, ?_⟩) hHeld0 ?_
             rotate_left
             · ((intro w hSw; (try dsimp only at hSw); go_simp) <;> (first | with_reducible rfl | (rw [if_neg (by omega)]; done))))
          | (refine wpAnyH_take (i := 2) (oi := { dst := some 74, op := Go.Op.load 22 (Go.Operand.tmp 73), type := 22, pos := "law.go:40", after := #[{ on := 1, ground := Go.Ground.data }], guard := none }) (v := undef) rfl (by kernel_rfl) (by kernel_rfl) (by kernel_rfl) (fun _ _ _ h => h) (Or.inr ⟨by rfl, rfl⟩) hHeld0 ?_)
          try simp only [Act.put, List.setIfInBounds_toArray, List.set_cons_zero, List.set_cons_succ]
          first
          | (refine wpAnyH_take (i := 3) (oi := { dst := some 75, op := Go.Op.call { callee := Go.Callee.builtin Go.Builtin.len, args := #[Go.Operand.tmp 74], argTypes := #[22] }, type := 3, pos := "law.go:40", after := #[{ on := 2, ground := Go.Ground.data }], guard := none }) (v := ?_) rfl (by kernel_rfl) (by kernel_rfl) (by kernel_rfl) (fun _ _ _ h => h) (Or.inl ⟨by rfl, ?_⟩) hHeld0 ?_
             rotate_left
             · ((intro w hSw; (try dsimp only at hSw); go_simp) <;> (first | with_reducible rfl | (rw [if_neg (by omega)]; done))))
          | (refine wpAnyH_take (i := 3) (oi := { dst := some 75, op := Go.Op.call { callee := Go.Callee.builtin Go.Builtin.len, args := #[Go.Operand.tmp 74], argTypes := #[22] }, type := 3, pos := "law.go:40", after := #[{ on := 2, ground := Go.Ground.data }], guard := none }) (v := undef) rfl (by kernel_rfl) (by kernel_rfl) (by kernel_rfl) (fun _ _ _ h => h) (Or.inr ⟨by rfl, rfl⟩) hHeld0 ?_)
          try simp only [Act.put, List.setIfInBounds_toArray, List.set_cons_zero, List.set_cons_succ]
          first
          | (refine wpAnyH_take (i := 4) (oi := { dst := some 76, op := Go.Op.binOp Go.BinOp.gtr 3 (Go.Operand.tmp 75) (Go.Operand.const (Go.Value.int Go.IntKind.i64 0)) 3, type := 4, pos := "law.go:40", after := #[{ on := 3, ground := Go.Ground.data }], guard := none }) (v := ?_) rfl (by kernel_rfl) (by kernel_rfl) (by kernel_rfl) (fun _ _ _ h => h) (Or.inl ⟨by rfl, ?_⟩) hHeld0 ?_
             rotate_left
             · ((intro w hSw; (try dsimp only at hSw); go_simp) <;> (first | with_reducible rfl | (rw [if_neg (by omega)]; done))))
          | (refine wpAnyH_take (i := 4) (oi := { dst := some 76, op := Go.Op.binOp Go.BinOp.gtr 3 (Go.Operand.tmp 75) (Go.Operand.const (Go.Value.int Go.IntKind.i64 0)) 3, type := 4, pos := "law.go:40", after := #[{ on := 3, ground := Go.Ground.data }], guard := none }) (v := undef) rfl (by kernel_rfl) (by kernel_rfl) (by kernel_rfl) (fun _ _ _ h => h) (Or.inr ⟨by rfl, rfl⟩) hHeld0 ?_)
          try simp only [Act.put, List.setIfInBounds_toArray, List.set_cons_zero, List.set_cons_succ]
          first
          | (refine wpAnyH_take (i := 5) (oi := { dst := some 77, op := Go.Op.binOp Go.BinOp.neq 4 (Go.Operand.tmp 72) (Go.Operand.tmp 76) 4, type := 4, pos := "law.go:40", after := #[{ on := 0, ground := Go.Ground.data }, { on := 4, ground := Go.Ground.data }], guard := none }) (v := ?_) rfl (by kernel_rfl) (by kernel_rfl) (by kernel_rfl) (fun _ _ _ h => h) (Or.inl ⟨by rfl, ?_⟩) hHeld0 ?_
             rotate_left
             · ((intro w hSw; (try dsimp only at hSw); go_simp) <;> (first | with_reducible rfl | (rw [if_neg (by omega)]; done))))
          | (refine wpAnyH_take (i := 5) (oi := { dst := some 77, op := Go.Op.binOp Go.BinOp.neq 4 (Go.Operand.tmp 72) (Go.Operand.tmp 76) 4, type := 4, pos := "law.go:40", after := #[{ on := 0, ground := Go.Ground.data }, { on := 4, ground := Go.Ground.data }], guard := none }) (v := undef) rfl (by kernel_rfl) (by kernel_rfl) (by kernel_rfl) (fun _ _ _ h => h) (Or.inr ⟨by rfl, rfl⟩) hHeld0 ?_)
          try simp only [Act.put, List.setIfInBounds_toArray, List.set_cons_zero, List.set_cons_succ]
          first
          | (refine wpAnyH_take (i := 6) (oi := { dst := some 78, op := Go.Op.move (Go.Operand.tmp 77), type := 4, pos := "law.go:40", after := #[{ on := 5, ground := Go.Ground.data }], guard := none }) (v := ?_) rfl (by kernel_rfl) (by kernel_rfl) (by kernel_rfl) (fun _ _ _ h => h) (Or.inl ⟨by rfl, ?_⟩) hHeld0 ?_
             rotate_left
             · ((intro w hSw; (try dsimp only at hSw); go_simp) <;> (first | with_reducible rfl | (rw [if_neg (by omega)]; done))))
          | (refine wpAnyH_take (i := 6) (oi := { dst := some 78, op := Go.Op.move (Go.Operand.tmp 77), type := 4, pos := "law.go:40", after := #[{ on := 5, ground := Go.Ground.data }], guard := none }) (v := undef) rfl (by kernel_rfl) (by kernel_rfl) (by kernel_rfl) (fun _ _ _ h => h) (Or.inr ⟨by rfl, rfl⟩) hHeld0 ?_)
          try simp only [Act.put, List.setIfInBounds_toArray, List.set_cons_zero, List.set_cons_succ]
          first
          | (refine wpAnyH_take (i := 7) (oi := { dst := some 79, op := Go.Op.move (Go.Operand.tmp 11), type := 30, pos := "law.go:40", after := #[{ on := 6, ground := Go.Ground.guard }], guard := some (6, false) }) (v := ?_) rfl (by kernel_rfl) (by kernel_rfl) (by kernel_rfl) (fun _ _ _ h => h) (Or.inl ⟨by rfl, ?_⟩) hHeld0 ?_
             rotate_left
             · ((intro w hSw; (try dsimp only at hSw); go_simp) <;> (first | with_reducible rfl | (rw [if_neg (by omega)]; done))))
          | (refine wpAnyH_take (i := 7) (oi := { dst := some 79, op := Go.Op.move (Go.Operand.tmp 11), type := 30, pos := "law.go:40", after := #[{ on := 6, ground := Go.Ground.guard }], guard := some (6, false) }) (v := undef) rfl (by kernel_rfl) (by kernel_rfl) (by kernel_rfl) (fun _ _ _ h => h) (Or.inr ⟨by rfl, rfl⟩) hHeld0 ?_)
          try simp only [Act.put, List.setIfInBounds_toArray, List.set_cons_zero, List.set_cons_succ]
          first
          | (refine wpAnyH_take (i := 8) (oi := { dst := some 80, op := Go.Op.load 27 (Go.Operand.tmp 6), type := 27, pos := "law.go:40", after := #[{ on := 6, ground := Go.Ground.guard }], guard := some (6, false) }) (v := ?_) rfl (by kernel_rfl) (by kernel_rfl) (by kernel_rfl) (fun _ _ _ h => h) (Or.inl ⟨by rfl, ?_⟩) hHeld0 ?_
             rotate_left
             · ((intro w hSw; (try dsimp only at hSw); go_simp) <;> (first | with_reducible rfl | (rw [if_neg (by omega)]; done))))
          | (refine wpAnyH_take (i := 8) (oi := { dst := some 80, op := Go.Op.load 27 (Go.Operand.tmp 6), type := 27, pos := "law.go:40", after := #[{ on := 6, ground := Go.Ground.guard }], guard := some (6, false) }) (v := undef) rfl (by kernel_rfl) (by kernel_rfl) (by kernel_rfl) (fun _ _ _ h => h) (Or.inr ⟨by rfl, rfl⟩) hHeld0 ?_)
          try simp only [Act.put, List.setIfInBounds_toArray, List.set_cons_zero, List.set_cons_succ]
          refine wpAnyH_ready (rs := [9]) (by kernel_rfl) (by simp) ?_
          refine AllReadyH.cons (o := { dst := some 81, op := Go.Op.call { callee := Go.Callee.value (Go.Operand.func 14), args := #[Go.Operand.tmp 80], argTypes := #[27] }, type := 30, pos := "law.go:40", after := #[{ on := 8, ground := Go.Ground.data }, { on := 6, ground := Go.Ground.chain }, { on := 6, ground := Go.Ground.guard }], guard := some (6, false) }) rfl (fun Kr9 hK => ?_) AllReadyH.nil
          go_simp
          (go_at_call 14; (with_reducible refine (HRTP.out _ _ _ HT.out.box.row).mono ?_); rintro e w4 ⟨rfl, hb⟩; have HT := Lib.hid (TkInv.below HT.out hb); have m0 := HT.out.m0; clear hb)
          refine hK.out _ _ ?_ (fun hHeld1 => ?_)
          · (try dsimp only); exact m0
          clear hK Kr9 hHeld0
          try simp only [Act.put, List.setIfInBounds_toArray, List.set_cons_zero, List.set_cons_succ]
          first
          | (refine wpAnyH_take (i := 10) (oi := { dst := some 82, op := Go.Op.binOp Go.BinOp.neq 30 (Go.Operand.tmp 79) (Go.Operand.tmp 81) 30, type := 4, pos := "law.go:40", after := #[{ on := 7, ground := Go.Ground.data }, { on := 9, ground := Go.Ground.data }, { on := 6, ground := Go.Ground.guard }], guard := some (6, false) }) (v := ?_) rfl (by kernel_rfl) (by kernel_rfl) (by kernel_rfl) (fun _ _ _ h => h) (Or.inl ⟨by rfl, ?_⟩) hHeld1 ?_
             rotate_left
             · ((intro w hSw; (try dsimp only at hSw); go_simp) <;> (first | with_reducible rfl | (rw [if_neg (by omega)]; done))))
          | (refine wpAnyH_take (i := 10) (oi := { dst := some 82, op := Go.Op.binOp Go.BinOp.neq 30 (Go.Operand.tmp 79) (Go.Operand.tmp 81) 30, type := 4, pos := "law.go:40", after := #[{ on := 7, ground := Go.Ground.data }, { on := 9, ground := Go.Ground.data }, { on := 6, ground := Go.Ground.guard }], guard := some (6, false) }) (v := undef) rfl (by kernel_rfl) (by kernel_rfl) (by kernel_rfl) (fun _ _ _ h => h) (Or.inr ⟨by rfl, rfl⟩) hHeld1 ?_)
          try simp only [Act.put, List.setIfInBounds_toArray, List.set_cons_zero, List.set_cons_succ]
          first
          | (refine wpAnyH_take (i := 11) (oi := { dst := some 83, op := Go.Op.pick (Go.Operand.tmp 78) (Go.Operand.const (Go.Value.bool true)) (Go.Operand.tmp 82), type := 4, pos := "law.go:40", after := #[{ on := 6, ground := Go.Ground.data }, { on := 10, ground := Go.Ground.data }], guard := none }) (v := ?_) rfl (by kernel_rfl) (by kernel_rfl) (by kernel_rfl) (fun _ _ _ h => h) (Or.inl ⟨by rfl, ?_⟩) hHeld1 ?_
             rotate_left
             · ((intro w hSw; (try dsimp only at hSw); go_simp) <;> (first | with_reducible rfl | (rw [if_neg (by omega)]; done))))
          | (refine wpAnyH_take (i := 11) (oi := { dst := some 83, op := Go.Op.pick (Go.Operand.tmp 78) (Go.Operand.const (Go.Value.bool true)) (Go.Operand.tmp 82), type := 4, pos := "law.go:40", after := #[{ on := 6, ground := Go.Ground.data }, { on := 10, ground := Go.Ground.data }], guard := none }) (v := undef) rfl (by kernel_rfl) (by kernel_rfl) (by kernel_rfl) (fun _ _ _ h => h) (Or.inr ⟨by rfl, rfl⟩) hHeld1 ?_)
          try simp only [Act.put, List.setIfInBounds_toArray, List.set_cons_zero, List.set_cons_succ]
          first
          | (refine wpAnyH_take (i := 12) (oi := { dst := some 84, op := Go.Op.move (Go.Operand.tmp 83), type := 4, pos := "law.go:40", after := #[{ on := 11, ground := Go.Ground.data }, { on := 9, ground := Go.Ground.chain }], guard := none }) (v := ?_) rfl (by kernel_rfl) (by kernel_rfl) (by kernel_rfl) (fun _ _ _ h => h) (Or.inl ⟨by rfl, ?_⟩) hHeld1 ?_
             rotate_left
             · ((intro w hSw; (try dsimp only at hSw); go_simp) <;> (first | with_reducible rfl | (rw [if_neg (by omega)]; done))))
          | (refine wpAnyH_take (i := 12) (oi := { dst := some 84, op := Go.Op.move (Go.Operand.tmp 83), type := 4, pos := "law.go:40", after := #[{ on := 11, ground := Go.Ground.data }, { on := 9, ground := Go.Ground.chain }], guard := none }) (v := undef) rfl (by kernel_rfl) (by kernel_rfl) (by kernel_rfl) (fun _ _ _ h => h) (Or.inr ⟨by rfl, rfl⟩) hHeld1 ?_)
          try simp only [Act.put, List.setIfInBounds_toArray, List.set_cons_zero, List.set_cons_succ]
          first
          | (refine wpAnyH_take (i := 13) (oi := { dst := some 85, op := Go.Op.move (Go.Operand.tmp 5), type := 24, pos := "law.go:40", after := #[{ on := 12, ground := Go.Ground.guard }], guard := some (12, false) }) (v := ?_) rfl (by kernel_rfl) (by kernel_rfl) (by kernel_rfl) (fun _ _ _ h => h) (Or.inl ⟨by rfl, ?_⟩) hHeld1 ?_
             rotate_left
             · ((intro w hSw; (try dsimp only at hSw); go_simp) <;> (first | with_reducible rfl | (rw [if_neg (by omega)]; done))))
          | (refine wpAnyH_take (i := 13) (oi := { dst := some 85, op := Go.Op.move (Go.Operand.tmp 5), type := 24, pos := "law.go:40", after := #[{ on := 12, ground := Go.Ground.guard }], guard := some (12, false) }) (v := undef) rfl (by kernel_rfl) (by kernel_rfl) (by kernel_rfl) (fun _ _ _ h => h) (Or.inr ⟨by rfl, rfl⟩) hHeld1 ?_)
          try simp only [Act.put, List.setIfInBounds_toArray, List.set_cons_zero, List.set_cons_succ]
          first
          | (refine wpAnyH_take (i := 15) (oi := { dst := some 87, op := Go.Op.load 27 (Go.Operand.tmp 6), type := 27, pos := "law.go:40", after := #[{ on := 12, ground := Go.Ground.guard }], guard := some (12, false) }) (v := ?_) rfl (by kernel_rfl) (by kernel_rfl) (by kernel_rfl) (fun _ _ _ h => h) (Or.inl ⟨by rfl, ?_⟩) hHeld1 ?_
             rotate_left
             · ((intro w hSw; (try dsimp only at hSw); go_simp) <;> (first | with_reducible rfl | (rw [if_neg (by omega)]; done))))
          | (refine wpAnyH_take (i := 15) (oi := { dst := some 87, op := Go.Op.load 27 (Go.Operand.tmp 6), type := 27, pos := "law.go:40", after := #[{ on := 12, ground := Go.Ground.guard }], guard := some (12, false) }) (v := undef) rfl (by kernel_rfl) (by kernel_rfl) (by kernel_rfl) (fun _ _ _ h => h) (Or.inr ⟨by rfl, rfl⟩) hHeld1 ?_)
          try simp only [Act.put, List.setIfInBounds_toArray, List.set_cons_zero, List.set_cons_succ]
          refine wpAnyH_ready (rs := [14]) (by kernel_rfl) (by simp) ?_
          refine AllReadyH.cons (o := { dst := some 86, op := Go.Op.call { callee := Go.Callee.value (Go.Operand.func 15), args := #[Go.Operand.tmp 85], argTypes := #[24] }, type := 3, pos := "law.go:40", after := #[{ on := 13, ground := Go.Ground.data }, { on := 12, ground := Go.Ground.chain }, { on := 12, ground := Go.Ground.guard }], guard := some (12, false) }) rfl (fun Kr14 hK => ?_) AllReadyH.nil
          go_simp
          (go_at_call 15; (with_reducible refine (HMS.out _ HT.out.win).mono ?_); rintro e w4 ⟨rfl, hq⟩; have HT := Lib.hid (TkInv.told HT.out hq); have m0 := HT.out.m0; clear hq)
          refine hK.out _ _ ?_ (fun hHeld2 => ?_)
          · (try dsimp only); exact m0
          clear hK Kr14 hHeld1
          try simp only [Act.put, List.setIfInBounds_toArray, List.set_cons_zero, List.set_cons_succ]
          refine wpAnyH_ready (rs := [16]) (by kernel_rfl) (by simp) ?_
          refine AllReadyH.cons (o := { dst := some 88, op := Go.Op.call { callee := Go.Callee.value (Go.Operand.func 16), args := #[Go.Operand.tmp 87], argTypes := #[27] }, type := 3, pos := "law.go:40", after := #[{ on := 15, ground := Go.Ground.data }, { on := 14, ground := Go.Ground.chain }, { on := 12, ground := Go.Ground.guard }], guard := some (12, false) }) rfl (fun Kr16 hK => ?_) AllReadyH.nil
          go_simp
          (go_at_call 16; (with_reducible refine (HRMS.out _ _ _ HT.out.box.row).mono ?_); rintro e w4 ⟨rfl, hb⟩; have HT := Lib.hid (TkInv.below HT.out hb); have m0 := HT.out.m0; clear hb)
          refine hK.out _ _ ?_ (fun hHeld3 => ?_)
          · (try dsimp only); exact m0
          clear hK Kr16 hHeld2
          try simp only [Act.put, List.setIfInBounds_toArray, List.set_cons_zero, List.set_cons_succ]
          first
          | (refine wpAnyH_take (i := 17) (oi := { dst := some 89, op := Go.Op.binOp Go.BinOp.neq 3 (Go.Operand.tmp 86) (Go.Operand.tmp 88) 3, type := 4, pos := "law.go:40", after := #[{ on := 14, ground := Go.Ground.data }, { on := 16, ground := Go.Ground.data }, { on := 12, ground := Go.Ground.guard }], guard := some (12, false) }) (v := ?_) rfl (by kernel_rfl) (by kernel_rfl) (by kernel_rfl) (fun _ _ _ h => h) (Or.inl ⟨by rfl, ?_⟩) hHeld3 ?_
             rotate_left
             · ((intro w hSw; (try dsimp only at hSw); go_simp) <;> (first | with_reducible rfl | (rw [if_neg (by omega)]; done))))
          | (refine wpAnyH_take (i := 17) (oi := { dst := some 89, op := Go.Op.binOp Go.BinOp.neq 3 (Go.Operand.tmp 86) (Go.Operand.tmp 88) 3, type := 4, pos := "law.go:40", after := #[{ on := 14, ground := Go.Ground.data }, { on := 16, ground := Go.Ground.data }, { on := 12, ground := Go.Ground.guard }], guard := some (12, false) }) (v := undef) rfl (by kernel_rfl) (by kernel_rfl) (by kernel_rfl) (fun _ _ _ h => h) (Or.inr ⟨by rfl, rfl⟩) hHeld3 ?_)
          try simp only [Act.put, List.setIfInBounds_toArray, List.set_cons_zero, List.set_cons_succ]
          first
          | (refine wpAnyH_take (i := 18) (oi := { dst := some 90, op := Go.Op.pick (Go.Operand.tmp 84) (Go.Operand.const (Go.Value.bool true)) (Go.Operand.tmp 89), type := 4, pos := "law.go:40", after := #[{ on := 12, ground := Go.Ground.data }, { on := 17, ground := Go.Ground.data }], guard := none }) (v := ?_) rfl (by kernel_rfl) (by kernel_rfl) (by kernel_rfl) (fun _ _ _ h => h) (Or.inl ⟨by rfl, ?_⟩) hHeld3 ?_
             rotate_left
             · ((intro w hSw; (try dsimp only at hSw); go_simp) <;> (first | with_reducible rfl | (rw [if_neg (by omega)]; done))))
          | (refine wpAnyH_take (i := 18) (oi := { dst := some 90, op := Go.Op.pick (Go.Operand.tmp 84) (Go.Operand.const (Go.Value.bool true)) (Go.Operand.tmp 89), type := 4, pos := "law.go:40", after := #[{ on := 12, ground := Go.Ground.data }, { on := 17, ground := Go.Ground.data }], guard := none }) (v := undef) rfl (by kernel_rfl) (by kernel_rfl) (by kernel_rfl) (fun _ _ _ h => h) (Or.inr ⟨by rfl, rfl⟩) hHeld3 ?_)
          try simp only [Act.put, List.setIfInBounds_toArray, List.set_cons_zero, List.set_cons_succ]
          refine wpAnyH_done (by kernel_rfl) ?_ _
          clear hHeld3
          go_wp2_with fail
          go_roundw
          case rel => exact ⟨k + 1, L2, _, _, by go_num, HLT.out, HLL.out, HT.out⟩
          case measure => simp [intOf]; omega
    · obtain rfl : k = l.length := by omega
      have hL300 : L.length ≤ 300 := by have := HL.out; have := HN.out; omega
      have hold := HT.out.old
      obtain ⟨Lo0, a20, cap20, _, _, _, ho⟩ := hold
      rcases ho with ho | ⟨D, ho, _⟩
      · subst ho
        go_wp2_with fail
        go_ret
        exact ⟨rfl, HT.out.bel⟩
      · subst ho
        obtain ⟨hDS, Lo, a2, cap2, hLo, hs⟩ := TkInv.swap HT.out hL300 HBS.out
        have HDS := Lib.hid hDS
        have HT := Lib.hid hs
        have HLO := Lib.hid hLo
        clear hDS hs hLo hL300 hk
        go_wp2_with fail
        go_loopw [13] (fun i wr => ∃ (k : Nat) (z : Int) (Lo : List Nat) (a2 : Option Addr) (cap2 : Nat), i = .int .i64 z ∧ z = (k : Int) - 1 ∧ k ≤ l.length ∧ Lo.length + k ≤ 600 ∧ TkInv w wr D (M + 1) M (.pointer (some ⟨B, 0, none⟩)) Lo Lo a2 cap2) (fun i _ => (intOf i + 1).toNat)
        case atStart => exact ⟨l.length, _, Lo, a2, cap2, rfl, rfl, Nat.le_refl _, by have := HLO.out; have := HN.out; omega, HT.out⟩
        case round =>
          clear HT HLO
          obtain ⟨k, z, L, a1, cap1, rfl, hz, hk, hLk, ht⟩ := hrel
          have HT := Lib.hid ht
          clear ht
          cases k with
          | succ j =>
            obtain rfl : z = (j : Int) := by omega
            have hlt : j < l.length := by omega
            obtain ⟨b, off, rfl, hc0⟩ := u64s_cell HV.out hlt
            have hx64 := HW.out _ (getD_mem l j hlt)
            have hk1 : (j : Int) < l.length := by omega
            have hk0 : (0 : Int) ≤ j := by omega
            have HLL : Hid (L.length + (j + 1) ≤ 600) := Lib.hid hLk
            have HJ : Hid (j ≤ l.length) := Lib.hid (by omega)
            generalize l.getD j 0 = x at *
            have HC0 := Lib.hid hc0
            clear hc0 hlt hk hz hLk
            have HRW : Hid (∀ a cap w, U64s w (.slice a L.length cap) L → Calls Try.prog 9 #[.agg #[.slice a L.length cap], .int .u64 x] w (CodeRet (wouldL L x) w)) := Lib.hid (fun a cap w h => rwould_any a cap L x w h HT.out.good hx64 (by have := HLL.out; omega))
            have HTK := Lib.hid (fun w h => take_any D x L w h HT.out.good hx64)
            have HGT := Lib.hid (good_take (c := x) HT.out.good)
            unfold TakeRet at HTK
            have HL2 : Hid ((takeL L x).length + j ≤ 600) := Lib.hid (by have := HLL.out; unfold takeL; split <;> simp <;> omega)
            obtain ⟨L2, hL2⟩ : ∃ L2, L2 = takeL L x := ⟨_, rfl⟩
            rw [← hL2] at HTK HGT HL2
            by_cases h0 : wouldL L x = 0
            · have eL : L2 = L ++ [x] := by rw [hL2]; unfold takeL; rw [if_pos h0]
              rw [h0] at HRW HTK
              have HRT : Hid (∀ a cap w, U64s w (.slice a L.length cap) L → Calls Try.prog 12 #[.agg #[.slice a L.length cap], .int .u64 x] w (RTakeRet L x w)) := Lib.hid (fun a cap w h => rtake_any a cap L x w h (by have := HLL.out; omega))
              unfold RTakeRet at HRT
              rw [← eL] at HRT
              have HEL : Hid (L.length + 1 = L2.length) := Lib.hid (by rw [eL]; simp)
              clear eL hL2
              clear h0 hx64
              have m0 := HT.out.m0; have f0 := HT.out.f0; obtain ⟨vx, x0⟩ := HT.out.x0; have g0 := HT.out.g0
              have c1 : wr.cell? ⟨b, off + j, none⟩ = some (.int .u64 (x : Nat)) := cell_keep4 HC0.out HT.out.bel
              go_wp2_with fail
              go_still_tail 5, (by kernel_rfl)
              have HTd := Lib.hid (TkInv.below HT.out (Below.drew (Below.refl _ _)))
              have HT := HTd
              clear HTd
              change wpList _ _ _ _ _ wr.drew
              generalize wr.drew = w4 at *
              have m0 := HT.out.m0; have f0 := HT.out.f0; obtain ⟨vx, x0⟩ := HT.out.x0; have g0 := HT.out.g0
              have c1 : w4.cell? ⟨b, off + j, none⟩ = some (.int .u64 (x : Nat)) := cell_keep4 HC0.out HT.out.bel
              go_wp2_with (first | (go_at_call 9; ((with_reducible refine (HRW.out _ _ _ HT.out.box.row).mono ?_); rintro e w4 ⟨rfl, hb⟩; have HT := Lib.hid (TkInv.below HT.out hb); have m0 := HT.out.m0; have f0 := HT.out.f0; obtain ⟨vx, x0⟩ := HT.out.x0; have g0 := HT.out.g0; have c1 : w4.cell? ⟨b, off + j, none⟩ = some (.int .u64 (x : Nat)) := cell_keep4 HC0.out HT.out.bel; clear hb)) | (go_at_call 11; ((with_reducible refine (HTK.out _ HT.out.win).mono ?_); rintro e w4 ⟨rfl, ha, hg⟩; have HT := Lib.hid (TkInv.take HT.out HDS.out hg ha HGT.out); have m0 := HT.out.m0; have f0 := HT.out.f0; obtain ⟨vx, x0⟩ := HT.out.x0; have g0 := HT.out.g0; have c1 : w4.cell? ⟨b, off + j, none⟩ = some (.int .u64 (x : Nat)) := cell_keep4 HC0.out HT.out.bel; clear ha hg)) | fail)
              go_still_tail 5, (by kernel_rfl)
              have HTd := Lib.hid (TkInv.below HT.out (Below.drew (Below.refl _ _)))
              have HT := HTd
              clear HTd
              change wpList _ _ _ _ _ w4.drew
              generalize w4.drew = w5 at *
              have m0 := HT.out.m0; have f0 := HT.out.f0; obtain ⟨vx, x0⟩ := HT.out.x0; have g0 := HT.out.g0
              have c1 : w5.cell? ⟨b, off + j, none⟩ = some (.int .u64 (x : Nat)) := cell_keep4 HC0.out HT.out.bel
              go_wp2_with (first | (go_at_call 12; ((with_reducible refine (HRT.out _ _ _ HT.out.box.row).mono ?_); rintro e w4 ⟨a3, cap3, rfl, hu, hr, hb⟩; have HT := Lib.hid (TkInv.below HT.out hb); have HU := Lib.hid hu; have HR := Lib.hid hr; have m0 := HT.out.m0; have f0 := HT.out.f0; obtain ⟨vx, x0⟩ := HT.out.x0; have g0 := HT.out.g0; have c1 : w4.cell? ⟨b, off + j, none⟩ = some (.int .u64 (x : Nat)) := cell_keep4 HC0.out HT.out.bel; clear hb hu hr)) | fail)
              have HT := Lib.hid (TkInv.put HT.out HXS.out (show M ≠ M + 1 by omega) HEL.out HU.out HR.out)
              generalize w4.setCell ⟨M + 1, 0, none⟩ (.slice a3 (L.length + 1) cap3) = w5 at *
              go_wp2_with fail
              go_roundw
              case rel => exact ⟨j, _, L2, _, _, by go_num, rfl, HJ.out, HL2.out, HT.out⟩
              case measure => simp [intOf]
            · have eL : L2 = L := by rw [hL2]; unfold takeL; rw [if_neg h0]
              have hkx : ((wouldL L x : Int) == 0) = false := beqf (by omega)
              subst eL
              generalize wouldL L2 x = kx at *
              clear hL2
              clear h0 hx64
              have m0 := HT.out.m0; have f0 := HT.out.f0; obtain ⟨vx, x0⟩ := HT.out.x0; have g0 := HT.out.g0
              have c1 : wr.cell? ⟨b, off + j, none⟩ = some (.int .u64 (x : Nat)) := cell_keep4 HC0.out HT.out.bel
              go_wp2_with fail
              go_still_tail 5, (by kernel_rfl)
              have HTd := Lib.hid (TkInv.below HT.out (Below.drew (Below.refl _ _)))
              have HT := HTd
              clear HTd
              change wpList _ _ _ _ _ wr.drew
              generalize wr.drew = w4 at *
              have m0 := HT.out.m0; have f0 := HT.out.f0; obtain ⟨vx, x0⟩ := HT.out.x0; have g0 := HT.out.g0
              have c1 : w4.cell? ⟨b, off + j, none⟩ = some (.int .u64 (x : Nat)) := cell_keep4 HC0.out HT.out.bel
              go_wp2_with (first | (go_at_call 9; ((with_reducible refine (HRW.out _ _ _ HT.out.box.row).mono ?_); rintro e w4 ⟨rfl, hb⟩; have HT := Lib.hid (TkInv.below HT.out hb); have m0 := HT.out.m0; have f0 := HT.out.f0; obtain ⟨vx, x0⟩ := HT.out.x0; have g0 := HT.out.g0; have c1 : w4.cell? ⟨b, off + j, none⟩ = some (.int .u64 (x : Nat)) := cell_keep4 HC0.out HT.out.bel; clear hb)) | (go_at_call 11; ((with_reducible refine (HTK.out _ HT.out.win).mono ?_); rintro e w4 ⟨rfl, ha, hg⟩; have HT := Lib.hid (TkInv.take HT.out HDS.out hg ha HGT.out); have m0 := HT.out.m0; have f0 := HT.out.f0; obtain ⟨vx, x0⟩ := HT.out.x0; have g0 := HT.out.g0; have c1 : w4.cell? ⟨b, off + j, none⟩ = some (.int .u64 (x : Nat)) := cell_keep4 HC0.out HT.out.bel; clear ha hg)) | fail)
              go_wp2_with fail
              go_roundw
              case rel => exact ⟨j, _, L2, _, _, by go_num, rfl, HJ.out, HL2.out, HT.out⟩
              case measure => simp [intOf]
          | zero =>
            obtain rfl : z = -1 := by omega
            obtain ⟨L3, a3, cap3, hb3, hg3, hl3, ho3⟩ := HT.out.old
            rcases ho3 with ho3 | ⟨D3, ho3, _, _, hw3⟩
            · cases ho3
            · cases ho3
              have HMS := Lib.hid (fun w h => missing_any D L w h HT.out.good)
              have HMS3 := Lib.hid (fun w h => missing_any B L3 w h hg3)
              have hL6 : L.length ≤ 600 := by omega
              have HRMS := Lib.hid (fun a cap w h => rmissing_any a cap L w h HT.out.good (by omega))
              have HRMS3 := Lib.hid (fun a cap w h => rmissing_any a cap L3 w h hg3 (by omega))
              unfold Told at HMS HMS3
              clear hz hk hLk hg3 hl3 hL6
              go_wp2_with fail
              have HTd := Lib.hid (TkInv.below HT.out (Below.drew (Below.refl _ _)))
              have HT := HTd
              clear HTd
              have HB3 := Lib.hid (hb3.below (Below.drew (Below.refl _ _)))
              have HW3 := Lib.hid (hw3.below (Below.drew (Below.refl _ _)))
              have m0 := HT.out.m0
              have n0 : wr.drew.cell? ⟨M, 0, none⟩ = some (.slice a3 L3.length cap3) := cell_of HB3.out.box 0 rfl
              clear hb3 hw3
              refine wp_region_held_drew (S := (fun W => W.cell? ⟨M + 1, 0, none⟩ = some (.slice a1 L.length cap1) ∧ W.cell? ⟨M, 0, none⟩ = some (.slice a3 L3.length cap3))) (by kernel_rfl) ?_ (fun hHeld0 => ?_)
              · (try dsimp only); exact ⟨m0, n0⟩
              first
              | (refine wpAnyH_take (i := 0) (oi := { dst := some 122, op := Go.Op.move (Go.Operand.tmp 7), type := 24, pos := "law.go:56", after := #[], guard := none }) (v := ?_) rfl (by kernel_rfl) (by kernel_rfl) (by kernel_rfl) (fun _ _ _ h => h) (Or.inl ⟨by rfl, ?_⟩) hHeld0 ?_
                 rotate_left
                 · ((intro w hSw; (try dsimp only at hSw); go_simp) <;> (first | with_reducible rfl | (rw [if_neg (by omega)]; done))))
              | (refine wpAnyH_take (i := 0) (oi := { dst := some 122, op := Go.Op.move (Go.Operand.tmp 7), type := 24, pos := "law.go:56", after := #[], guard := none }) (v := undef) rfl (by kernel_rfl) (by kernel_rfl) (by kernel_rfl) (fun _ _ _ h => h) (Or.inr ⟨by rfl, rfl⟩) hHeld0 ?_)
              try simp only [Act.put, List.setIfInBounds_toArray, List.set_cons_zero, List.set_cons_succ]
              first
              | (refine wpAnyH_take (i := 2) (oi := { dst := some 124, op := Go.Op.load 27 (Go.Operand.tmp 8), type := 27, pos := "law.go:56", after := #[], guard := none }) (v := ?_) rfl (by kernel_rfl) (by kernel_rfl) (by kernel_rfl) (fun _ _ _ h => h) (Or.inl ⟨by rfl, ?_⟩) hHeld0 ?_
                 rotate_left
                 · ((intro w hSw; (try dsimp only at hSw); go_simp) <;> (first | with_reducible rfl | (rw [if_neg (by omega)]; done))))
              | (refine wpAnyH_take (i := 2) (oi := { dst := some 124, op := Go.Op.load 27 (Go.Operand.tmp 8), type := 27, pos := "law.go:56", after := #[], guard := none }) (v := undef) rfl (by kernel_rfl) (by kernel_rfl) (by kernel_rfl) (fun _ _ _ h => h) (Or.inr ⟨by rfl, rfl⟩) hHeld0 ?_)
              try simp only [Act.put, List.setIfInBounds_toArray, List.set_cons_zero, List.set_cons_succ]
              refine wpAnyH_ready (rs := [1]) (by kernel_rfl) (by simp) ?_
              refine AllReadyH.cons (o := { dst := some 123, op := Go.Op.call { callee := Go.Callee.value (Go.Operand.func 15), args := #[Go.Operand.tmp 122], argTypes := #[24] }, type := 3, pos := "law.go:56", after := #[{ on := 0, ground := Go.Ground.data }], guard := none }) rfl (fun Kr1 hK => ?_) AllReadyH.nil
              go_simp
              (go_at_call 15; (with_reducible refine (HMS.out _ HT.out.win).mono ?_); rintro e w4 ⟨rfl, hq⟩; have hb := below_told hq; have HT := Lib.hid (TkInv.below HT.out hb); have HB3 := Lib.hid (HB3.out.below hb); have HW3 := Lib.hid (HW3.out.below hb); have m0 := HT.out.m0; have n0 : w4.cell? ⟨M, 0, none⟩ = some (.slice a3 L3.length cap3) := cell_of HB3.out.box 0 rfl; clear hb; clear hq)
              refine hK.out _ _ ?_ (fun hHeld1 => ?_)
              · (try dsimp only); exact ⟨m0, n0⟩
              clear hK Kr1 hHeld0
              try simp only [Act.put, List.setIfInBounds_toArray, List.set_cons_zero, List.set_cons_succ]
              refine wpAnyH_ready (rs := [3]) (by kernel_rfl) (by simp) ?_
              refine AllReadyH.cons (o := { dst := some 125, op := Go.Op.call { callee := Go.Callee.value (Go.Operand.func 16), args := #[Go.Operand.tmp 124], argTypes := #[27] }, type := 3, pos := "law.go:56", after := #[{ on := 2, ground := Go.Ground.data }, { on := 1, ground := Go.Ground.chain }], guard := none }) rfl (fun Kr3 hK => ?_) AllReadyH.nil
              go_simp
              (go_at_call 16; (with_reducible refine (HRMS.out _ _ _ HT.out.box.row).mono ?_); rintro e w4 ⟨rfl, hb⟩; have HT := Lib.hid (TkInv.below HT.out hb); have HB3 := Lib.hid (HB3.out.below hb); have HW3 := Lib.hid (HW3.out.below hb); have m0 := HT.out.m0; have n0 : w4.cell? ⟨M, 0, none⟩ = some (.slice a3 L3.length cap3) := cell_of HB3.out.box 0 rfl; clear hb)
              refine hK.out _ _ ?_ (fun hHeld2 => ?_)
              · (try dsimp only); exact ⟨m0, n0⟩
              clear hK Kr3 hHeld1
              try simp only [Act.put, List.setIfInBounds_toArray, List.set_cons_zero, List.set_cons_succ]
              first
              | (refine wpAnyH_take (i := 4) (oi := { dst := some 126, op := Go.Op.binOp Go.BinOp.eql 3 (Go.Operand.tmp 123) (Go.Operand.tmp 125) 3, type := 4, pos := "law.go:56", after := #[{ on := 1, ground := Go.Ground.data }, { on := 3, ground := Go.Ground.data }], guard := none }) (v := ?_) rfl (by kernel_rfl) (by kernel_rfl) (by kernel_rfl) (fun _ _ _ h => h) (Or.inl ⟨by rfl, ?_⟩) hHeld2 ?_
                 rotate_left
                 · ((intro w hSw; (try dsimp only at hSw); go_simp) <;> (first | with_reducible rfl | (rw [if_neg (by omega)]; done))))
              | (refine wpAnyH_take (i := 4) (oi := { dst := some 126, op := Go.Op.binOp Go.BinOp.eql 3 (Go.Operand.tmp 123) (Go.Operand.tmp 125) 3, type := 4, pos := "law.go:56", after := #[{ on := 1, ground := Go.Ground.data }, { on := 3, ground := Go.Ground.data }], guard := none }) (v := undef) rfl (by kernel_rfl) (by kernel_rfl) (by kernel_rfl) (fun _ _ _ h => h) (Or.inr ⟨by rfl, rfl⟩) hHeld2 ?_)
              try simp only [Act.put, List.setIfInBounds_toArray, List.set_cons_zero, List.set_cons_succ]
              first
              | (refine wpAnyH_take (i := 5) (oi := { dst := some 127, op := Go.Op.move (Go.Operand.tmp 126), type := 4, pos := "law.go:56", after := #[{ on := 4, ground := Go.Ground.data }, { on := 3, ground := Go.Ground.chain }], guard := none }) (v := ?_) rfl (by kernel_rfl) (by kernel_rfl) (by kernel_rfl) (fun _ _ _ h => h) (Or.inl ⟨by rfl, ?_⟩) hHeld2 ?_
                 rotate_left
                 · ((intro w hSw; (try dsimp only at hSw); go_simp) <;> (first | with_reducible rfl | (rw [if_neg (by omega)]; done))))
              | (refine wpAnyH_take (i := 5) (oi := { dst := some 127, op := Go.Op.move (Go.Operand.tmp 126), type := 4, pos := "law.go:56", after := #[{ on := 4, ground := Go.Ground.data }, { on := 3, ground := Go.Ground.chain }], guard := none }) (v := undef) rfl (by kernel_rfl) (by kernel_rfl) (by kernel_rfl) (fun _ _ _ h => h) (Or.inr ⟨by rfl, rfl⟩) hHeld2 ?_)
              try simp only [Act.put, List.setIfInBounds_toArray, List.set_cons_zero, List.set_cons_succ]
              first
              | (refine wpAnyH_take (i := 6) (oi := { dst := some 128, op := Go.Op.move (Go.Operand.tmp 5), type := 24, pos := "law.go:56", after := #[{ on := 5, ground := Go.Ground.guard }], guard := some (5, true) }) (v := ?_) rfl (by kernel_rfl) (by kernel_rfl) (by kernel_rfl) (fun _ _ _ h => h) (Or.inl ⟨by rfl, ?_⟩) hHeld2 ?_
                 rotate_left
                 · ((intro w hSw; (try dsimp only at hSw); go_simp) <;> (first | with_reducible rfl | (rw [if_neg (by omega)]; done))))
              | (refine wpAnyH_take (i := 6) (oi := { dst := some 128, op := Go.Op.move (Go.Operand.tmp 5), type := 24, pos := "law.go:56", after := #[{ on := 5, ground := Go.Ground.guard }], guard := some (5, true) }) (v := undef) rfl (by kernel_rfl) (by kernel_rfl) (by kernel_rfl) (fun _ _ _ h => h) (Or.inr ⟨by rfl, rfl⟩) hHeld2 ?_)
              try simp only [Act.put, List.setIfInBounds_toArray, List.set_cons_zero, List.set_cons_succ]
              first
              | (refine wpAnyH_take (i := 8) (oi := { dst := some 130, op := Go.Op.load 27 (Go.Operand.tmp 6), type := 27, pos := "law.go:56", after := #[{ on := 5, ground := Go.Ground.guard }], guard := some (5, true) }) (v := ?_) rfl (by kernel_rfl) (by kernel_rfl) (by kernel_rfl) (fun _ _ _ h => h) (Or.inl ⟨by rfl, ?_⟩) hHeld2 ?_
                 rotate_left
                 · ((intro w hSw; (try dsimp only at hSw); go_simp) <;> (first | with_reducible rfl | (rw [if_neg (by omega)]; done))))
              | (refine wpAnyH_take (i := 8) (oi := { dst := some 130, op := Go.Op.load 27 (Go.Operand.tmp 6), type := 27, pos := "law.go:56", after := #[{ on := 5, ground := Go.Ground.guard }], guard := some (5, true) }) (v := undef) rfl (by kernel_rfl) (by kernel_rfl) (by kernel_rfl) (fun _ _ _ h => h) (Or.inr ⟨by rfl, rfl⟩) hHeld2 ?_)
              try simp only [Act.put, List.setIfInBounds_toArray, List.set_cons_zero, List.set_cons_succ]
              refine wpAnyH_ready (rs := [7]) (by kernel_rfl) (by simp) ?_
              refine AllReadyH.cons (o := { dst := some 129, op := Go.Op.call { callee := Go.Callee.value (Go.Operand.func 15), args := #[Go.Operand.tmp 128], argTypes := #[24] }, type := 3, pos := "law.go:56", after := #[{ on := 6, ground := Go.Ground.data }, { on := 5, ground := Go.Ground.chain }, { on := 5, ground := Go.Ground.guard }], guard := some (5, true) }) rfl (fun Kr7 hK => ?_) AllReadyH.nil
              go_simp
              (go_at_call 15; (with_reducible refine (HMS3.out _ HW3.out).mono ?_); rintro e w4 ⟨rfl, hq⟩; have hb := below_told hq; have HT := Lib.hid (TkInv.below HT.out hb); have HB3 := Lib.hid (HB3.out.below hb); have HW3 := Lib.hid (HW3.out.below hb); have m0 := HT.out.m0; have n0 : w4.cell? ⟨M, 0, none⟩ = some (.slice a3 L3.length cap3) := cell_of HB3.out.box 0 rfl; clear hb; clear hq)
              refine hK.out _ _ ?_ (fun hHeld3 => ?_)
              · (try dsimp only); exact ⟨m0, n0⟩
              clear hK Kr7 hHeld2
              try simp only [Act.put, List.setIfInBounds_toArray, List.set_cons_zero, List.set_cons_succ]
              refine wpAnyH_ready (rs := [9]) (by kernel_rfl) (by simp) ?_
              refine AllReadyH.cons (o := { dst := some 131, op := Go.Op.call { callee := Go.Callee.value (Go.Operand.func 16), args := #[Go.Operand.tmp 130], argTypes := #[27] }, type := 3, pos := "law.go:56", after := #[{ on := 8, ground := Go.Ground.data }, { on := 7, ground := Go.Ground.chain }, { on := 5, ground := Go.Ground.guard }], guard := some (5, true) }) rfl (fun Kr9 hK => ?_) AllReadyH.nil
              go_simp
              (go_at_call 16; (with_reducible refine (HRMS3.out _ _ _ HB3.out.row).mono ?_); rintro e w4 ⟨rfl, hb⟩; have HT := Lib.hid (TkInv.below HT.out hb); have HB3 := Lib.hid (HB3.out.below hb); have HW3 := Lib.hid (HW3.out.below hb); have m0 := HT.out.m0; have n0 : w4.cell? ⟨M, 0, none⟩ = some (.slice a3 L3.length cap3) := cell_of HB3.out.box 0 rfl; clear hb)
              refine hK.out _ _ ?_ (fun hHeld4 => ?_)
              · (try dsimp only); exact ⟨m0, n0⟩
              clear hK Kr9 hHeld3
              try simp only [Act.put, List.setIfInBounds_toArray, List.set_cons_zero, List.set_cons_succ]
              first
              | (refine wpAnyH_take (i := 10) (oi := { dst := some 132, op := Go.Op.binOp Go.BinOp.eql 3 (Go.Operand.tmp 129) (Go.Operand.tmp 131) 3, type := 4, pos := "law.go:56", after := #[{ on := 7, ground := Go.Ground.data }, { on := 9, ground := Go.Ground.data }, { on := 5, ground := Go.Ground.guard }], guard := some (5, true) }) (v := ?_) rfl (by kernel_rfl) (by kernel_rfl) (by kernel_rfl) (fun _ _ _ h => h) (Or.inl ⟨by rfl, ?_⟩) hHeld4 ?_
                 rotate_left
                 · ((intro w hSw; (try dsimp only at hSw); go_simp) <;> (first | with_reducible rfl | (rw [if_neg (by omega)]; done))))
              | (refine wpAnyH_take (i := 10) (oi := { dst := some 132, op := Go.Op.binOp Go.BinOp.eql 3 (Go.Operand.tmp 129) (Go.Operand.tmp 131) 3, type := 4, pos := "law.go:56", after := #[{ on := 7, ground := Go.Ground.data }, { on := 9, ground := Go.Ground.data }, { on := 5, ground := Go.Ground.guard }], guard := some (5, true) }) (v := undef) rfl (by kernel_rfl) (by kernel_rfl) (by kernel_rfl) (fun _ _ _ h => h) (Or.inr ⟨by rfl, rfl⟩) hHeld4 ?_)
              try simp only [Act.put, List.setIfInBounds_toArray, List.set_cons_zero, List.set_cons_succ]
              first
              | (refine wpAnyH_take (i := 11) (oi := { dst := some 133, op := Go.Op.pick (Go.Operand.tmp 127) (Go.Operand.tmp 132) (Go.Operand.const (Go.Value.bool false)), type := 4, pos := "law.go:56", after := #[{ on := 5, ground := Go.Ground.data }, { on := 10, ground := Go.Ground.data }], guard := none }) (v := ?_) rfl (by kernel_rfl) (by kernel_rfl) (by kernel_rfl) (fun _ _ _ h => h) (Or.inl ⟨by rfl, ?_⟩) hHeld4 ?_
                 rotate_left
                 · ((intro w hSw; (try dsimp only at hSw); go_simp) <;> (first | with_reducible rfl | (rw [if_neg (by omega)]; done))))
              | (refine wpAnyH_take (i := 11) (oi := { dst := some 133, op := Go.Op.pick (Go.Operand.tmp 127) (Go.Operand.tmp 132) (Go.Operand.const (Go.Value.bool false)), type := 4, pos := "law.go:56", after := #[{ on := 5, ground := Go.Ground.data }, { on := 10, ground := Go.Ground.data }], guard := none }) (v := undef) rfl (by kernel_rfl) (by kernel_rfl) (by kernel_rfl) (fun _ _ _ h => h) (Or.inr ⟨by rfl, rfl⟩) hHeld4 ?_)
              try simp only [Act.put, List.setIfInBounds_toArray, List.set_cons_zero, List.set_cons_succ]
              first
              | (refine wpAnyH_take (i := 12) (oi := { dst := some 4, op := Go.Op.assign (Go.Operand.tmp 133), type := 4, pos := "law.go:56", after := #[{ on := 11, ground := Go.Ground.data }, { on := 9, ground := Go.Ground.chain }, { on := 0, ground := Go.Ground.phase }, { on := 1, ground := Go.Ground.phase }, { on := 2, ground := Go.Ground.phase }, { on := 3, ground := Go.Ground.phase }, { on := 4, ground := Go.Ground.phase }, { on := 5, ground := Go.Ground.phase }, { on := 6, ground := Go.Ground.phase }, { on := 7, ground := Go.Ground.phase }, { on := 8, ground := Go.Ground.phase }, { on := 9, ground := Go.Ground.phase }, { on := 10, ground := Go.Ground.phase }, { on := 11, ground := Go.Ground.phase }], guard := none }) (v := ?_) rfl (by kernel_rfl) (by kernel_rfl) (by kernel_rfl) (fun _ _ _ h => h) (Or.inl ⟨by rfl, ?_⟩) hHeld4 ?_
                 rotate_left
                 · ((intro w hSw; (try dsimp only at hSw); go_simp) <;> (first | with_reducible rfl | (rw [if_neg (by omega)]; done))))
              | (refine wpAnyH_take (i := 12) (oi := { dst := some 4, op := Go.Op.assign (Go.Operand.tmp 133), type := 4, pos := "law.go:56", after := #[{ on := 11, ground := Go.Ground.data }, { on := 9, ground := Go.Ground.chain }, { on := 0, ground := Go.Ground.phase }, { on := 1, ground := Go.Ground.phase }, { on := 2, ground := Go.Ground.phase }, { on := 3, ground := Go.Ground.phase }, { on := 4, ground := Go.Ground.phase }, { on := 5, ground := Go.Ground.phase }, { on := 6, ground := Go.Ground.phase }, { on := 7, ground := Go.Ground.phase }, { on := 8, ground := Go.Ground.phase }, { on := 9, ground := Go.Ground.phase }, { on := 10, ground := Go.Ground.phase }, { on := 11, ground := Go.Ground.phase }], guard := none }) (v := undef) rfl (by kernel_rfl) (by kernel_rfl) (by kernel_rfl) (fun _ _ _ h => h) (Or.inr ⟨by rfl, rfl⟩) hHeld4 ?_)
              try simp only [Act.put, List.setIfInBounds_toArray, List.set_cons_zero, List.set_cons_succ]
              refine wpAnyH_done (by kernel_rfl) ?_ _
              clear hHeld4
              go_wp2_with fail
              go_ret
              exact ⟨rfl, HT.out.bel⟩
theorem windowtakes_walk (ad : Option Addr) (cap : Nat) (l : List Nat) (at' : Int) (w : World) (hv : U64s w (.slice ad l.length cap) l) (hw : ∀ x ∈ l, x < 2 ^ 64) :
    Calls Try.prog 3 #[.slice ad l.length cap, .int .i64 at'] w fun e w' => e = .returned (.bool true) ∧ Below w.heap.size w w' := by
  by_cases hn : l.length ≤ 300
  · exact windowtakes_go ad cap l at' w hv hw hn
  · have hn1 : (300 : Int) < l.length := by omega
    clear hn hv hw
    go_enter Try.func3, Try.ntmps3
    go_wp2_with (first | (go_at_call 6; ((with_reducible refine (awake7_any _).mono ?_); rintro e w2 ⟨rfl, hb⟩; have HB := Lib.hid hb; clear hb)) | fail)
    go_ret
    exact ⟨rfl, HB.out⟩
end Go.Proofs.Ytoodjdaadkbdfaa
