import Derived.Test.YteiadbiopcidmaaNum2
namespace Go.Proofs.Yteiadbiopcidmaa
set_option linter.unusedVariables false
set_option linter.unusedSimpArgs false
set_option maxRecDepth 100000
open Go.RowKit

def hexI (n : Int) : Int := if n < 10 then 48 + n else 87 + n
theorem hexI_bd (n : Int) (h0 : 0 ≤ n) (h1 : n ≤ 15) : 48 ≤ hexI n ∧ hexI n ≤ 102 := by unfold hexI; split <;> omega
theorem val_hexI (n : Int) (h0 : 0 ≤ n) (h1 : n ≤ 15) : val (hexI n) = n := by
  unfold hexI val; (repeat' split) <;> omega
theorem hexI_val (c : Int) (h : val c < 16) : hexI (val c) = c := by
  unfold hexI val at *; (repeat' split at *) <;> omega
theorem hexI_hexD (n : Nat) (h : n ≤ 15) : hexI n = (hexD n).toNat := by
  unfold hexI hexD
  by_cases h1 : n < 10
  · rw [if_pos (by omega), if_pos h1, toNat_ofNat (by omega)]; omega
  · rw [if_neg (by omega), if_neg h1, toNat_ofNat (by omega)]; omega

end Go.Proofs.Yteiadbiopcidmaa
