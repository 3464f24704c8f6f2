/- know: what is within a term that isn't a List or a Seal; reach of no spot. -/
import Derived.Test.YteiadbiopcidmaaKnow14
namespace Go.Proofs.Yteiadbiopcidmaa
set_option linter.unusedVariables false
set_option linter.unusedSimpArgs false
set_option maxRecDepth 100000
open Go.RowKit

theorem kwithin_other (tm : Tm) (h10 : tm.kind ≠ 10) (h11 : tm.kind ≠ 11) (B : Nat) (ok : Nat → Prop) (w : World) (h : PieceAt ok w tm B) (kv : Value) :
    Calls Try.prog 20 #[kv, .pointer (some ⟨B, 0, none⟩)] w fun e w' => e = .returned (.slice none 0 0) ∧ w' = w := by
  obtain ⟨k, t, ps⟩ := tm
  unfold PieceAt at h
  obtain ⟨_, v, bs, hb, _⟩ := h
  have g0 : w.cell? ⟨B, 0, none⟩ = some (.int .i64 k) := cell_of hb 0 rfl
  simp only [Tm.kind] at h10 h11
  have e10 : ((k : Int) == 10) = false := beqf (by omega)
  have e11 : ((k : Int) == 11) = false := beqf (by omega)
  clear hb
  go_enter Try.func20, Try.ntmps20
  go_wp2
  go_ret
  exact ⟨rfl, rfl⟩
set_option maxHeartbeats 4000000 in
theorem kreach_nil (w : World) :
    Calls Try.prog 19 #[.pointer none] w fun e w' => e = .returned (.slice none 0 0) ∧ w.grownBy w' none := by
  go_enter Try.func19, Try.ntmps19
  go_wp2
  refine wp_scope_goto 0 (fun n a' wr => n ≤ 1 ∧ a'.defers = [] ∧ a'.tmps.size = 76 ∧ a'.tmps.getD 3 undef = .slice none 0 0 ∧ a'.tmps.getD 4 undef = .slice (some ⟨w.heap.size, 0, none⟩) n 1 ∧ wr = w.alloc (.cells #[.pointer none] 43)) rfl ?_ ?_
  · intro R2 hpass hout
    go_wp2
    go_step3
    go_step
    go_step
    exact hpass 1 _ _ ⟨Nat.le_refl _, rfl, rfl, rfl, rfl, rfl⟩
  · intro n a' wr hrel J hJ
    obtain ⟨hn, hfd, hfs, hf3, hf4, rfl⟩ := hrel
    obtain ⟨T, DD⟩ := a'
    obtain rfl : DD = [] := hfd
    obtain ⟨u, hu⟩ : ∃ u : Nat → Value, T = #[u 0, u 1, u 2, u 3, u 4, u 5, u 6, u 7, u 8, u 9, u 10, u 11, u 12, u 13, u 14, u 15, u 16, u 17, u 18, u 19, u 20, u 21, u 22, u 23, u 24, u 25, u 26, u 27, u 28, u 29, u 30, u 31, u 32, u 33, u 34, u 35, u 36, u 37, u 38, u 39, u 40, u 41, u 42, u 43, u 44, u 45, u 46, u 47, u 48, u 49, u 50, u 51, u 52, u 53, u 54, u 55, u 56, u 57, u 58, u 59, u 60, u 61, u 62, u 63, u 64, u 65, u 66, u 67, u 68, u 69, u 70, u 71, u 72, u 73, u 74, u 75] := ⟨fun i => T.getD i undef, lit_eq T 76 hfs⟩
    subst hu
    have he3 : u 3 = .slice none 0 0 := hf3
    have he4 : u 4 = .slice (some ⟨w.heap.size, 0, none⟩) n 1 := hf4
    clear hfs hf3 hf4
    rw [he3, he4]
    clear he3 he4
    have HJ := Lib.hid hJ
    clear hJ
    have hx := heap_alloc_new w (.cells #[.pointer none] 43)
    have c0 : (w.alloc (.cells #[.pointer none] 43)).cell? ⟨w.heap.size, 0, none⟩ = some (.pointer none) := cell_of hx 0 rfl
    clear hx
    rcases Nat.lt_or_ge n 1 with h | h
    · have e : n = 0 := by omega
      subst e
      go_wp2
      refine jump_ret ?_
      go_ret
      exact ⟨rfl, World.grownBy_alloc w _ none⟩
    · have e : n = 1 := by omega
      subst e
      go_wp2
      go_step3
      go_step
      exact jump_back (HJ.out 0 _ _ (by omega) ⟨Nat.zero_le _, rfl, rfl, rfl, rfl, rfl⟩)
end Go.Proofs.Yteiadbiopcidmaa
