import Derived.Test.YteiadbiopcidmaaProg
import Derived.Test.YteiadbiopcidmaaKit1
import Derived.Test.YteiadbiopcidmaaNumMath
namespace Go.Proofs.Yteiadbiopcidmaa
set_option linter.unusedVariables false
set_option linter.unusedSimpArgs false
set_option maxRecDepth 100000
open Go.RowKit

theorem value_any (r : Int) (h0 : 0 ≤ r) (h1 : r ≤ 255) (w : World) :
    Calls Try.prog 64 #[.int .i32 r] w fun e w' => e = .returned (.int .u64 (val r)) ∧ w = w' := by
  rcases (show (48 ≤ r ∧ r ≤ 57) ∨ (97 ≤ r ∧ r ≤ 102) ∨ r < 48 ∨ (57 < r ∧ r < 97) ∨ 102 < r from by omega) with h | h | h | h | h
  all_goals
    go_enter Try.func64, Try.ntmps64
    go_wp2
    go_ret
    exact ⟨ret_int (by unfold val; first | (rw [if_pos (by omega)]; done) | (rw [if_neg (by omega), if_pos (by omega)]; done) | (rw [if_neg (by omega), if_neg (by omega)]; done)), rfl⟩

theorem digits_any (s : ByteArray) (base : Int) (hs : s.size ≤ maxLen) (w : World) :
    Calls Try.prog 63 #[.string s, .int .u64 base] w fun e w' => e = .returned (.bool (digs s.data.toList base)) ∧ w = w' := by
  unfold maxLen at hs
  go_enter Try.func63, Try.ntmps63
  go_wp2
  refine wp_scope_goto 0 (fun n a' w' => w = w' ∧ ∃ k : Nat, ∃ (u2 u3 u6 u7 u8 u9 u10 u11 u12 u13 u14 u15 u16 u17 u18 : Value), a' = { tmps := #[.string s, .int .u64 base, u2, u3, .bool false, .int .i64 k, u6, u7, u8, u9, u10, u11, u12, u13, u14, u15, u16, u17, u18], defers := [] } ∧ k ≤ s.size ∧ n = s.size - k ∧ digs (s.data.toList.take k) base = true) rfl ?_ ?_
  · intro R hpass hout
    go_wp2
    go_step3
    go_step
    go_step
    exact hpass _ _ _ ⟨rfl, 0, _, _, _, _, _, _, _, _, _, _, _, _, _, _, _, rfl, by omega, rfl, rfl⟩
  · intro n a' w' hrel J hJ
    obtain ⟨rfl, k, u2, u3, u6, u7, u8, u9, u10, u11, u12, u13, u14, u15, u16, u17, u18, rfl, hk, rfl, hd⟩ := hrel
    by_cases hlt : k < s.size
    · have hb : (s[k]).toNat < 256 := UInt8.toNat_lt _
      have HD : Hid (digs (s.data.toList.take (k + 1)) base = decide (val (s[k]).toNat < base)) := by
        rw [take_snoc s k hlt, digs_snoc, hd]; rfl
      clear hd
      by_cases hv : base ≤ val (s[k]).toNat
      · go_wp2_with (go_at_call 64; refine (value_any _ (by omega) (by omega) _).mono ?_; rintro e w' ⟨rfl, rfl⟩)
        refine jump_ret ?_
        go_ret
        exact ⟨ret_bool (digs_no (mem_of s k hlt) hv).symm, rfl⟩
      · go_wp2_with (go_at_call 64; refine (value_any _ (by omega) (by omega) _).mono ?_; rintro e w' ⟨rfl, rfl⟩)
        go_step3
        refine jump_back (hJ (s.size - (k + 1)) _ _ (by omega) ⟨rfl, k + 1, _, _, _, _, _, _, _, _, _, _, _, _, _, _, _, rfl, by omega, rfl, ?_⟩)
        rw [HD.out]; simpa using hv
    · have HD := Lib.hid hd
      clear hd
      go_wp2
      refine jump_ret ?_
      go_ret
      exact ⟨ret_bool (by have := HD.out; rw [take_all s k (by omega)] at this; exact this.symm), rfl⟩
end Go.Proofs.Yteiadbiopcidmaa
