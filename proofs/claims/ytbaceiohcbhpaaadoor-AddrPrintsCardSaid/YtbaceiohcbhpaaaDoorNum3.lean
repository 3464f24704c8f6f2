import Derived.Test.YtbaceiohcbhpaaaDoorNum2
namespace Go.Proofs.YtbaceiohcbhpaaaDoor
set_option linter.unusedVariables false
set_option linter.unusedSimpArgs false
set_option maxRecDepth 100000
open Go.RowKit

def hexI (n : Int) : Int := if n < 10 then 48 + n else 87 + n
theorem hexI_bd (n : Int) (h0 : 0 ≤ n) (h1 : n ≤ 15) : 48 ≤ hexI n ∧ hexI n ≤ 102 := by unfold hexI; split <;> omega
theorem val_hexI (n : Int) (h0 : 0 ≤ n) (h1 : n ≤ 15) : val (hexI n) = n := by
  unfold hexI val; (repeat' split) <;> omega
theorem hexI_val (c : Int) (h : val c < 16) : hexI (val c) = c := by
  unfold hexI val at *; (repeat' split at *) <;> omega
theorem hexI_hexD (n : Nat) (h : n ≤ 15) : hexI n = (hexD n).toNat := by
  unfold hexI hexD
  by_cases h1 : n < 10
  · rw [if_pos (by omega), if_pos h1, toNat_ofNat (by omega)]; omega
  · rw [if_neg (by omega), if_neg h1, toNat_ofNat (by omega)]; omega

theorem digit_any (n : Int) (h0 : 0 ≤ n) (h1 : n ≤ 15) (w : World) :
    Calls Tryd.prog 47 #[.int .u8 n] w fun e w' => e = .returned (.int .u8 (hexI n)) ∧ w = w' := by
  by_cases h : n < 10
  all_goals
    go_enter Tryd.func47, Tryd.ntmps47
    go_wp2
    go_ret
    exact ⟨ret_int (by unfold hexI; first | (rw [if_pos (by omega)]; done) | (rw [if_neg (by omega)]; done)), rfl⟩

theorem rvalue_any (c : Int) (h0 : 0 ≤ c) (h1 : c ≤ 255) (w : World) :
    Calls Tryd.prog 38 #[.int .u8 c] w fun e w' => e = .returned (.int .u8 (val c)) ∧ w = w' := by
  have hv := val_bd c
  go_enter Tryd.func38, Tryd.ntmps38
  go_wp2
  go_loop [3] (fun n => ∃ k : Nat, (k : Int) ≤ val c ∧ n = .int .u8 k) (fun n => 16 - (intOf n).toNat)
  case atStart => exact ⟨0, by omega, rfl⟩
  case round =>
    obtain ⟨k, hk, rfl⟩ := hrel
    by_cases h16 : k < 16
    · have hb := hexI_bd k (by omega) (by omega)
      by_cases he : hexI k = c
      · have HV : Hid ((k : Int) = val c) := by have := val_hexI k (by omega) (by omega); rw [he] at this; exact this.symm
        go_wp2_with (go_at_call 47; refine (digit_any _ (by omega) (by omega) _).mono ?_; rintro e w' ⟨rfl, rfl⟩)
        go_ret
        exact ⟨ret_int HV.out, rfl⟩
      · have hlt : (k : Int) + 1 ≤ val c := by
          rcases Int.lt_or_eq_of_le hk with h | h
          · omega
          · exact absurd (by rw [h]; exact hexI_val c (by omega)) he
        have hbe : (hexI k == c) = false := by simpa using he
        go_wp2_with (go_at_call 47; refine (digit_any _ (by omega) (by omega) _).mono ?_; rintro e w' ⟨rfl, rfl⟩)
        go_round
        case rel => exact ⟨k + 1, by omega, by go_num⟩
        case measure => simp [intOf]; omega
    · have HV : Hid (16 = val c) := by have : val c ≤ 16 := hv.2; show (16 : Int) = val c; omega
      go_wp2
      go_ret
      exact ⟨ret_int HV.out, rfl⟩
end Go.Proofs.YtbaceiohcbhpaaaDoor
