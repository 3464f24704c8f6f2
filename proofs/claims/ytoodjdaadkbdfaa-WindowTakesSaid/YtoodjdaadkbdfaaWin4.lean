/- Windows: raise by contract. -/
import Derived.Test.YtoodjdaadkbdfaaWin3
namespace Go.Proofs.Ytoodjdaadkbdfaa
set_option linter.unusedVariables false
set_option linter.unusedSimpArgs false
set_option maxRecDepth 100000
open Go.RowKit
theorem lit_eq (T : Array Value) (n : Nat) (h : T.size = n) : T = ((List.range n).map fun i => T.getD i undef).toArray := by
  subst h
  apply Array.ext
  · simp
  · intro i h1 h2
    simp [Array.getD, h1]
theorem heap_set {w : World} {b i : Nat} {C : Array Value} {T : TypeId} {fz : Nat × Nat} {v : Value} (h : w.heap[b]? = some (.cells C T fz)) : (w.setCell ⟨b, i, none⟩ v).heap[b]? = some (.cells (C.setIfInBounds i v) T fz) := by
  simp [World.setCell, Array.getElem?_modify, h]
theorem heap_set_other {w : World} {b k i : Nat} {v : Value} (h : k ≠ b) : (w.setCell ⟨b, i, none⟩ v).heap[k]? = w.heap[k]? := by
  simp only [World.setCell, Array.getElem?_modify]
  rw [if_neg (by simpa using fun e => h e.symm)]
theorem grown_refl (w : World) (row : Option Nat) : w.grownBy w row := ⟨rfl, rfl, rfl, Nat.le_refl _, fun _ _ _ => rfl⟩
theorem grown_drewN (w : World) (n : Nat) (row : Option Nat) : w.grownBy (w.drewN n) row := ⟨rfl, rfl, rfl, Nat.le_refl _, fun _ _ _ => rfl⟩
theorem grown_set (w : World) (b i : Nat) (v : Value) : w.grownBy (w.setCell ⟨b, i, none⟩ v) (some b) :=
  ⟨rfl, rfl, rfl, by simp [World.setCell], fun k _ h => heap_set_other (fun e => h (by rw [e]))⟩
theorem grown_trans {w a c : World} {row : Option Nat} (h : w.grownBy a row) (k : a.grownBy c row) : w.grownBy c row :=
  ⟨k.os.trans h.os, k.tape.trans h.tape, k.output.trans h.output, Nat.le_trans h.size k.size, fun i hi hne => (k.block i (Nat.lt_of_lt_of_le hi h.size) hne).trans (h.block i hi hne)⟩
theorem win_set {w : World} {B t : Nat} {W : Nat → Nat} (h : WinHeap w B t W) (i v : Nat) (hi : i < 32) : WinHeap (w.setCell ⟨B, i, none⟩ (.int .u64 (v : Nat))) B t (setW W i v) := by
  unfold WinHeap
  rw [heap_set h, winC_set t W v i hi]
theorem win_set_top {w : World} {B t : Nat} {W : Nat → Nat} (h : WinHeap w B t W) (c : Nat) : WinHeap (w.setCell ⟨B, 32, none⟩ (.int .u64 (c : Nat))) B c W := by
  unfold WinHeap
  rw [heap_set h, winC_top]
theorem win_drew {w : World} {B t : Nat} {W : Nat → Nat} (h : WinHeap w B t W) (n : Nat) : WinHeap (w.drewN n) B t W := h
def RaiseRet (w : World) (B t c N : Nat) (W : Nat → Nat) (e : Ending) (w' : World) : Prop := (∃ v, e = .returned v) ∧ ∃ W', Emptied W t N W' ∧ WinHeap w' B c W' ∧ w.grownBy w' (some B)
set_option maxHeartbeats 1000000 in
theorem raise_any (B t c N : Nat) (W : Nat → Nat) (w : World) (hw : WinHeap w B t W) (hW : ∀ i, W i < 2 ^ 64) (htc : t < c) (hc : c < most) (hN : N = min (c - t) 2048) :
    Calls Try.prog 19 #[.pointer (some ⟨B, 0, none⟩), .int .u64 c] w (RaiseRet w B t c N W) := by
  have ct := win_top hw
  have hcm := hc
  unfold most at hcm
  have s1 : IntKind.u64.wrap ((t : Int) + 1) = ((t + 1 : Nat) : Int) := by rw [wrap_u64 _ (by omega) (by omega)]; omega
  have s2 : IntKind.u64.wrap ((c : Int) - t) = ((c - t : Nat) : Int) := by rw [wrap_u64 _ (by omega) (by omega)]; omega
  have hNb : N ≤ 2048 ∧ t + N ≤ c := by omega
  obtain ⟨hN1, hN2⟩ := hNb
  have fr := free_of hw 32
  have HW := Lib.hid hw
  have HE := Lib.hid (emptied_zero t hW)
  have hcase : (N = 2048 ∧ (2048 : Int) < ((c - t : Nat) : Int)) ∨ (N = c - t ∧ ¬ (2048 : Int) < ((c - t : Nat) : Int)) := by omega
  clear hw hW hc htc hN
  have HCM := Lib.hid hcm
  clear hcm
  go_enter Try.func19, Try.ntmps19
  refine wp_scope_goto 0 (fun n a' wr => ∃ (d : Nat) (W1 : Nat → Nat), a'.defers = [] ∧ a'.tmps.size = 50 ∧ a'.tmps.getD 0 undef = .pointer (some ⟨B, 0, none⟩) ∧ a'.tmps.getD 1 undef = .int .u64 (c : Nat) ∧ a'.tmps.getD 4 undef = .int .u64 (t + 1 + d : Nat) ∧ a'.tmps.getD 5 undef = .int .u64 (N - d : Nat) ∧ d ≤ N ∧ n = N - d ∧ Emptied W t d W1 ∧ WinHeap wr B c W1 ∧ w.grownBy wr (some B)) rfl ?_ ?_
  · intro R hpass hout
    have HP := Lib.hid hpass
    clear hpass hout
    rcases hcase with ⟨rfl, hm⟩ | ⟨rfl, hm⟩
    all_goals
      go_wp2_with fail
      go_region_held3 (fun W => W.cell? ⟨B, 32, none⟩ = some (.int .u64 (t : Nat))) (exact ct) (fail)
      go_wp2_with fail
      go_step3
      go_step
      go_step
      exact HP.out _ _ _ ⟨0, W, rfl, rfl, rfl, rfl, rfl, rfl, Nat.zero_le _, rfl, HE.out, win_set_top HW.out c, grown_trans (grown_set _ _ _ _) (grown_drewN _ 1 _)⟩
  · intro n a' wr hrel J hJ
    obtain ⟨d, W1, hfd, hfs, hf0, hf1, hf4, hf5, hd, rfl, he, hh, hg⟩ := hrel
    clear hcase
    obtain ⟨T, DD⟩ := a'
    obtain rfl : DD = [] := hfd
    obtain ⟨u, hu⟩ : ∃ u : Nat → Value, T = #[u 0, u 1, u 2, u 3, u 4, u 5, u 6, u 7, u 8, u 9, u 10, u 11, u 12, u 13, u 14, u 15, u 16, u 17, u 18, u 19, u 20, u 21, u 22, u 23, u 24, u 25, u 26, u 27, u 28, u 29, u 30, u 31, u 32, u 33, u 34, u 35, u 36, u 37, u 38, u 39, u 40, u 41, u 42, u 43, u 44, u 45, u 46, u 47, u 48, u 49] := ⟨fun i => T.getD i undef, lit_eq T 50 hfs⟩
    subst hu
    have he0 : u 0 = .pointer (some ⟨B, 0, none⟩) := hf0
    have he1 : u 1 = .int .u64 (c : Nat) := hf1
    have he4 : u 4 = .int .u64 (t + 1 + d : Nat) := hf4
    have he5 : u 5 = .int .u64 (N - d : Nat) := hf5
    clear hfs hf0 hf1 hf4 hf5
    rw [he0, he1, he4, he5]
    clear he0 he1 he4 he5
    have HJ := Lib.hid hJ
    clear hJ
    by_cases h0 : d = N
    · subst h0
      have e0 : d - d = 0 := by omega
      rw [e0]
      go_wp2_with fail
      refine jump_ret ?_
      exact bodyPost_ret (results_none rfl _ _ _) rfl ⟨⟨_, rfl⟩, W1, he, hh, hg⟩
    · have hlt : d < N := by omega
      have hcm := HCM.out
      have hx0 := fun (k : Nat) (hk : (t + 1 + d) % 64 + k ≤ 64) => emptied_step he hk
      have hJ2 : ∀ (k : Nat) (W2 : Nat → Nat) (a' : Act) (w' : World), 1 ≤ k → k ≤ N - d → a'.defers = [] → a'.tmps.size = 50 → a'.tmps.getD 0 undef = .pointer (some ⟨B, 0, none⟩) → a'.tmps.getD 1 undef = .int .u64 (c : Nat) →
          a'.tmps.getD 4 undef = .int .u64 ((t + 1 + d + k : Nat) : Int) → a'.tmps.getD 5 undef = .int .u64 ((N - d - k : Nat) : Int) → Emptied W t (d + k) W2 → WinHeap w' B c W2 → w.grownBy w' (some B) → J a' w' := by
        intro k W2 a' w' h1 h2 g0 g1 g2 g3 g4 g5 g6 g7 g8
        exact HJ.out (N - (d + k)) a' w' (by omega) ⟨d + k, W2, g0, g1, g2, g3, by rw [g4, Nat.add_assoc], by rw [g5, Nat.sub_sub], by omega, rfl, g6, g7, g8⟩
      have hwd := he.wd
      clear HJ he
      have hab : t + 1 + d ≤ 18446744073709543423 := by omega
      generalize t + 1 + d = a at *
      have hm1 : 1 ≤ N - d := by omega
      have hm2 : N - d ≤ 2048 := by omega
      clear h0 hd hlt hN1 hN2
      generalize N - d = m at *
      obtain ⟨s, hs⟩ : ∃ s, s = 64 - a % 64 := ⟨_, rfl⟩
      obtain ⟨k, hk1, hk2, hk3, hkc⟩ : ∃ k, 1 ≤ k ∧ a % 64 + k ≤ 64 ∧ k ≤ m ∧ ((s = k ∧ (s : Int) < m) ∨ (m = k ∧ ¬ (s : Int) < m)) := by
        by_cases hsm : s < m
        · exact ⟨s, by omega, by omega, by omega, .inl ⟨rfl, by omega⟩⟩
        · exact ⟨m, by omega, by omega, by omega, .inr ⟨rfl, by omega⟩⟩
      have hx := hx0 k hk2
      have hbk : ∀ w, Calls Try.prog 20 #[.int .u64 a] w fun e w' => e = .returned (.int .u64 ((a / 64 % 32 : Nat) : Int)) ∧ w' = w := fun w => (block_any a (by omega) w).mono fun e w' h => ⟨h.1, h.2.symm⟩
      have HPL : Hid (∀ w, Calls Try.prog 21 #[.int .u64 a, .int .u64 k] w fun e w' => e = .returned (.int .u64 (pl a k : Nat)) ∧ w' = w) := Lib.hid (fun w => (places_any a k (by omega) hk1 hk2 w).mono fun e w' h => ⟨h.1, h.2.symm⟩)
      have hi : a / 64 % 32 < 32 := by omega
      have c1 := win_cell hh (a / 64 % 32) hi
      have fi := free_of hh (a / 64 % 32)
      have hy := fun v => win_set hh (a / 64 % 32) v hi
      have e1 := andN_u64 (W1 (a / 64 % 32)) (pl a k) (hwd _) (pl_lt a k hk2)
      have ha0 : (a : Int) % 64 = ((a % 64 : Nat) : Int) := by omega
      have hs1 : IntKind.u64.wrap (64 - ((a % 64 : Nat) : Int)) = (s : Int) := by rw [wrap_u64 _ (by omega) (by omega)]; omega
      have hka : IntKind.u64.wrap ((a : Int) + k) = ((a + k : Nat) : Int) := by rw [wrap_u64 _ (by omega) (by omega)]; omega
      have hmk : IntKind.u64.wrap ((m : Int) - k) = ((m - k : Nat) : Int) := by rw [wrap_u64 _ (by omega) (by omega)]; omega
      have hm0 : ((m : Int) == 0) = false := beqf (by omega)
      have hJ3 := fun W2 a' w' => hJ2 k W2 a' w' hk1 hk3
      have hi0 : (0 : Int) ≤ (a / 64 % 32 : Nat) := by omega
      have hi1 : ((a / 64 % 32 : Nat) : Int) < 32 := by omega
      generalize a / 64 % 32 = i at *
      have HX := Lib.hid hx
      have HZ : Hid (m = k → m - k = 0) := Lib.hid (fun e => by omega)
      have HY := Lib.hid hy
      have HJ := Lib.hid hJ3
      have HBK := Lib.hid hbk
      have HG := Lib.hid hg
      clear hx hy hJ2 hJ3 hbk hx0 hwd hh hg hs hk1 hk2 hk3 hcm hab hm1 hm2 hi
      generalize a % 64 = r at *
      generalize andN (W1 i) (pl a k) = y at *
      generalize W1 i = x at *
      generalize a + k = a2 at *
      generalize m - k = m2 at *
      rcases hkc with ⟨rfl, hsm⟩ | ⟨rfl, hsm⟩
      · go_wp2_with fail
        refine wp_region_still_tail 14 (by kernel_rfl) (by kernel_rfl) ?_
        simp only [List.take_succ_cons, List.take_zero, List.drop_succ_cons, List.drop_zero]
        repeat still_step
        still_call (HBK.out wr.drew)
        repeat still_step
        still_call (HPL.out wr.drew)
        repeat still_step
        try refine wpStill_nil ?_
        change wpList _ _ _ _ _ wr.drew
        go_wp2_with fail
        first | go_step3 | skip
        exact jump_back (HJ.out _ _ _ rfl rfl rfl rfl rfl rfl HX.out (win_drew (HY.out y) 1) (grown_trans HG.out (grown_trans (grown_set _ _ _ _) (grown_drewN _ 1 _))))
      · obtain rfl := HZ.out rfl
        go_wp2_with fail
        refine wp_region_still_tail 14 (by kernel_rfl) (by kernel_rfl) ?_
        simp only [List.take_succ_cons, List.take_zero, List.drop_succ_cons, List.drop_zero]
        repeat still_step
        still_call (HBK.out wr.drew)
        repeat still_step
        still_call (HPL.out wr.drew)
        repeat still_step
        try refine wpStill_nil ?_
        change wpList _ _ _ _ _ wr.drew
        go_wp2_with fail
        first | go_step3 | skip
        exact jump_back (HJ.out _ _ _ rfl rfl rfl rfl rfl rfl HX.out (win_drew (HY.out y) 1) (grown_trans HG.out (grown_trans (grown_set _ _ _ _) (grown_drewN _ 1 _))))
end Go.Proofs.Ytoodjdaadkbdfaa
