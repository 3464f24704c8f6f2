/- The program's iterator pairs, and Has and Within, by contract. -/
import Derived.Test.YtbaceiohcbhpaaaAddrP2
import Derived.Test.YtbaceiohcbhpaaaKit3
import Derived.Shelf.RegionOpen
import Derived.OwnWalkIn
import Derived.TacticsInMore
import Derived.LoopNIn
import Derived.LoopIn
import Derived.Test.YtbaceiohcbhpaaaKit2
import Derived.StillTailTactics
namespace Go.Proofs.Ytbaceiohcbhpaaa
set_option linter.unusedVariables false
set_option linter.unusedSimpArgs false
set_option maxRecDepth 100000
open Go.RowKit Go.Shelf
attribute [local go_sem] Oper.semAt_some

abbrev encP (x : UInt8 × UInt8) : Array Value := #[.int .u8 x.1.toNat, .int .u8 x.2.toNat]
/-- a row of bytes in a block below n₀ -/
def RowAt (n₀ : Nat) (w : World) (bk off : Nat) (l : List UInt8) : Prop := bk < n₀ ∧ ∀ i, i < l.length → w.cell? ⟨bk, off + i, none⟩ = some (.int .u8 (l.getD i 0).toNat)
theorem RowAt.below {n₀ : Nat} {w W : World} {bk off : Nat} {l : List UInt8} (h : RowAt n₀ w bk off l) (hb : Below n₀ w W) : RowAt n₀ W bk off l := ⟨h.1, fun i hi => (hb.cell (p := ⟨bk, off + i, none⟩) h.1).trans (h.2 i hi)⟩
theorem take_zip_next {a b : List UInt8} {k : Nat} (hk : k < a.length) (hl : a.length = b.length) : (a.zip b).take (k + 1) = (a.zip b).take k ++ [(a.getD k 0, b.getD k 0)] := by
  rw [List.take_succ_eq_append_getElem (by simp; omega)]
  congr 2
  have hkb : k < b.length := by omega
  simp [List.getD, List.getElem?_eq_getElem hk, List.getElem?_eq_getElem hkb]
set_option maxHeartbeats 4000000 in
theorem pairs1_in (F : Fence) (n : Nat) (hF : OpenF F Try.prog) (hf : F.fn 24) (hro : F.round = none) (hn : 1 ≤ n) (l Ba Bb n₀ bk off bl ofl cp cq : Nat) (a b : List UInt8) (hl : a.length = b.length) (hal : a.length ≤ 1000) (J Jx : List (UInt8 × UInt8) → World → Prop)
    (hY : ∀ pre x W, J pre W → pre.length < a.length → YieldAt F (n - 1) Try.prog l (encP x) W fun e W' =>
      (e = .returned (.bool true) ∧ J (pre ++ [x]) W' ∧ KpB n₀ Ba Bb W W') ∨ (e = .returned (.bool false) ∧ Jx (pre ++ [x]) W'))
    (W : World) (hxa : W.cell? ⟨Ba, 0, none⟩ = some (.slice (some ⟨bk, off, none⟩) a.length cp)) (hxb : W.cell? ⟨Bb, 0, none⟩ = some (.slice (some ⟨bl, ofl, none⟩) b.length cq))
    (hca : RowAt n₀ W bk off a) (hcb : RowAt n₀ W bl ofl b) (h0 : J [] W) (hJd : ∀ pre W n, J pre W → J pre (W.drewN n)) :
    CallsIn F n Try.prog 24 #[.func (.yield l) #[] #[], .pointer (some ⟨Ba, 0, none⟩), .pointer (some ⟨Bb, 0, none⟩)] W fun e W' => (∃ v, e = .returned v) ∧
      (J (a.zip b) W' ∨ (∃ k, k ≤ a.length ∧ Jx ((a.zip b).take k) W')) := by
  have hali : (a.length : Int) ≤ 1000 := by omega
  have hbli : (b.length : Int) = a.length := by omega
  rw [← hl] at hxb
  refine callsIn_of_wp Try.func24 rfl hf ?_ hro
  simp only [Try.ntmps24, List.size_toArray, List.length_cons, List.length_nil, Nat.reduceAdd, Nat.reduceSub, Array.replicate_succ, Array.replicate_zero, List.push_toArray, List.append_toArray, List.nil_append, List.cons_append]
  gi_wp2
  gi_loopw [10] (fun i wr => ∃ k : Nat, k ≤ a.length ∧ i = .int .i64 k ∧ J ((a.zip b).take k) wr ∧ KpB n₀ Ba Bb W wr) (fun i _ => a.length - (intOf i).toNat)
  case atStart => exact ⟨0, Nat.zero_le _, rfl, h0, kpB_refl _ _ _ _⟩
  case round =>
    obtain ⟨k, hk, rfl, hJs, hnx⟩ := hrel
    have ya := hnx.2.1.trans hxa
    have yb := hnx.2.2.trans hxb
    by_cases hlt : k < a.length
    · have ca := (hca.below hnx.1).2 k hlt
      have cb := (hcb.below hnx.1).2 k (by omega)
      obtain ⟨x, hx⟩ : ∃ x, a.getD k 0 = x := ⟨_, rfl⟩
      obtain ⟨y, hyy⟩ : ∃ y, b.getD k 0 = y := ⟨_, rfl⟩
      have HN : Hid ((a.zip b).take (k + 1) = (a.zip b).take k ++ [(x, y)]) := Lib.hid (by rw [← hx, ← hyy]; exact take_zip_next hlt hl)
      rw [hx] at ca
      rw [hyy] at cb
      clear hx hyy
      obtain ⟨fn, tmps, assign, body, hy, hR⟩ := hY _ (x, y) wr.drew (hJd _ _ 1 hJs) (by rw [List.length_take, List.length_zip]; omega)
      dsimp only [encP] at hy
      have HR : Hid (RoundIn F (n - 1) Try.prog l fn tmps assign body wr.drew fun e W' => ∃ r, e = .returned (.bool r) ∧ ((r = true ∧ J ((a.zip b).take k ++ [(x, y)]) W' ∧ KpB n₀ Ba Bb wr.drew W') ∨ (r = false ∧ Jx ((a.zip b).take k ++ [(x, y)]) W'))) := Lib.hid (hR.mono (by
        rintro e W' (⟨rfl, h1, h2⟩ | ⟨rfl, h1⟩)
        · exact ⟨true, rfl, .inl ⟨rfl, h1, h2⟩⟩
        · exact ⟨false, rfl, .inr ⟨rfl, h1⟩⟩))
      clear hR
      gi_wp2
      refine wpIn_region_still_tail 9 hF (by kernel_rfl) (by kernel_rfl) ?_
      simp only [List.take_succ_cons, List.take_zero, List.drop_succ_cons, List.drop_zero]
      repeat still_step
      try refine wpStill_nil ?_
      change wpListIn _ _ _ _ _ _ _ wr.drew
      gi_wp2
      refine HR.out.mono ?_
      rintro e W3 ⟨r, rfl, hd⟩
      rcases hd with ⟨rfl, hJ3, hk3⟩ | ⟨rfl, hJx3⟩
      · gi_wp2
        go_roundw
        case rel => exact ⟨k + 1, by omega, by simp, by rw [HN.out]; exact hJ3, kpB_t hnx (kpB_t (kpB_drew _) hk3)⟩
        case measure => simp [intOf]; omega
      · gi_wp2
        refine bodyPost_ret (results_none rfl _ _ _) rfl ?_
        exact ⟨⟨_, rfl⟩, .inr ⟨k + 1, by omega, by rw [HN.out]; exact hJx3⟩⟩
    · obtain rfl : k = a.length := by omega
      gi_wp2
      go_end0
      exact ⟨⟨_, rfl⟩, .inl (by rw [List.take_of_length_le (by rw [List.length_zip]; omega)] at hJs; exact hJs)⟩
theorem pairs_any (ad bd : Option Addr) (n cp m cq : Nat) (w : World) : Calls Try.prog 18 #[.slice ad n cp, .slice bd m cq] w fun e w' =>
    e = .returned (.func (.func 24) #[] #[.pointer (some ⟨w.heap.size, 0, none⟩), .pointer (some ⟨w.heap.size + 1, 0, none⟩)]) ∧ w' = (w.alloc (.cells #[.slice ad n cp] 22)).alloc (.cells #[.slice bd m cq] 22) := by
  go_enter Try.func18, Try.ntmps18
  go_wp2_with fail
  go_ret
  exact ⟨rfl, rfl⟩
theorem pairs_stops (F : Fence) (n : Nat) (hF : OpenF F Try.prog) (hro : F.round = none) (hn : 1 ≤ n) (Ba Bb n₀ bk off bl ofl cp cq : Nat) (a b : List UInt8) (hl : a.length = b.length) (hal : a.length ≤ 1000) (w : World)
    (hBa : Ba < w.heap.size) (hBb : Bb < w.heap.size) (hn₀ : n₀ ≤ w.heap.size) (hxa : w.cell? ⟨Ba, 0, none⟩ = some (.slice (some ⟨bk, off, none⟩) a.length cp)) (hxb : w.cell? ⟨Bb, 0, none⟩ = some (.slice (some ⟨bl, ofl, none⟩) b.length cq))
    (hca : RowAt n₀ w bk off a) (hcb : RowAt n₀ w bl ofl b) :
    SeqStopsK F n Try.prog 24 #[.pointer (some ⟨Ba, 0, none⟩), .pointer (some ⟨Bb, 0, none⟩)] encP (KpB n₀ Ba Bb) (fun xs => xs = a.zip b) (fun pre => ∃ k, k ≤ a.length ∧ pre = (a.zip b).take k) a.length w :=
  fun l J Jx W hW hJ hJx hY h0 => by
  refine (pairs1_in F n hF (hF.fn _) hro hn l Ba Bb n₀ bk off bl ofl cp cq a b hl hal J Jx hY W ((hW.cell (p := ⟨Ba, 0, none⟩) hBa).trans hxa) ((hW.cell (p := ⟨Bb, 0, none⟩) hBb).trans hxb) (hca.below (hW.mono hn₀)) (hcb.below (hW.mono hn₀)) h0 (fun pre W1 m hs => ?_)).mono ?_
  · exact abides_drew hJ hs m
  · rintro e W' ⟨he, h | ⟨k, hk, h⟩⟩
    · exact ⟨he, .inl ⟨_, rfl, h⟩⟩
    · exact ⟨he, .inr ⟨_, ⟨k, hk, rfl⟩, h⟩⟩
end Go.Proofs.Ytbaceiohcbhpaaa
