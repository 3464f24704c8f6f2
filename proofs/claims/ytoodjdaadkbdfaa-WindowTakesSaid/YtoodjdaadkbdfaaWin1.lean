/- Windows: block, places, OnesCount64 by contract; words of 64 places as numbers. -/
import Derived.Test.YtoodjdaadkbdfaaProg
import Derived.Test.YtoodjdaadkbdfaaWinMath
import Derived.WalkKit
import Derived.Deep.QuietTactic
import Derived.BigQuiet
import Derived.WalkLawsBesides
import Derived.Lib.Hide
import Derived.Below
import Derived.Deep.RegionHeld3
import Derived.Deep.AppendLies
import Derived.Deep.DrawnRows
import Derived.Laws.AppendOwnNone
import Derived.Lib.SliceRun
import Derived.Deep.Onto
import Derived.OwnWalk
import Derived.StillTailTactics
namespace Go.Proofs.Ytoodjdaadkbdfaa
set_option linter.unusedVariables false
set_option linter.unusedSimpArgs false
set_option maxRecDepth 100000
open Go.RowKit
theorem wrap_u64 (x : Int) (h0 : 0 ≤ x) (h : x < 18446744073709551616) : IntKind.u64.wrap x = x := by
  rw [IntKind.wrap_u64]; omega
theorem bvN (x : Nat) (h : x < 2 ^ 64) : (BitVec.ofInt 64 (x : Int)).toNat = x := by
  rw [BitVec.toNat_ofInt]; omega
theorem and_u64 (x y : Nat) (hx : x < 2 ^ 64) (hy : y < 2 ^ 64) : bits BinOp.and IntKind.u64 (x : Int) (y : Int) = ((x &&& y : Nat) : Int) := by
  show IntKind.u64.wrap (((BitVec.ofInt 64 (x : Int) &&& BitVec.ofInt 64 (y : Int)).toNat : Nat) : Int) = _
  have h : x &&& y < 2 ^ 64 := Nat.lt_of_le_of_lt Nat.and_le_left hx
  rw [BitVec.toNat_and, bvN _ hx, bvN _ hy, wrap_u64 _ (by omega) (by omega)]
theorem or_u64 (x y : Nat) (hx : x < 2 ^ 64) (hy : y < 2 ^ 64) : bits BinOp.or IntKind.u64 (x : Int) (y : Int) = ((x ||| y : Nat) : Int) := by
  show IntKind.u64.wrap (((BitVec.ofInt 64 (x : Int) ||| BitVec.ofInt 64 (y : Int)).toNat : Nat) : Int) = _
  have h : x ||| y < 2 ^ 64 := or_lt hx hy
  rw [BitVec.toNat_or, bvN _ hx, bvN _ hy, wrap_u64 _ (by omega) (by omega)]
theorem andN_u64 (x y : Nat) (hx : x < 2 ^ 64) (hy : y < 2 ^ 64) : bits BinOp.andNot IntKind.u64 (x : Int) (y : Int) = ((andN x y : Nat) : Int) := by
  show IntKind.u64.wrap (((BitVec.ofInt 64 (x : Int) &&& ~~~ (BitVec.ofInt 64 (y : Int))).toNat : Nat) : Int) = _
  have h : andN x y < 2 ^ 64 := andN_lt x y hx
  have e : 2 ^ 64 - 1 - y = y ^^^ (2 ^ 64 - 1) := by
    apply Nat.eq_of_testBit_eq
    intro j
    have h2 := Nat.testBit_two_pow_sub_succ hy j
    rw [show 2 ^ 64 - (y + 1) = 2 ^ 64 - 1 - y by omega] at h2
    rw [h2]
    rw [Nat.testBit_xor, Nat.testBit_two_pow_sub_one]
    by_cases hj : j < 64
    · simp [hj]
    · have : y.testBit j = false := Nat.testBit_lt_two_pow (Nat.lt_of_lt_of_le hy (Nat.pow_le_pow_right (by omega) (by omega)))
      simp [hj, this]
  rw [BitVec.toNat_and, BitVec.toNat_not, bvN _ hx, bvN _ hy, e]
  rw [show x &&& (y ^^^ (2 ^ 64 - 1)) = andN x y from rfl, wrap_u64 _ (by omega) (by omega)]
theorem and_i64 (x y : Nat) (hx : x < 2 ^ 64) (hy : y < 2 ^ 63) : bits BinOp.and IntKind.i64 (x : Int) (y : Int) = ((x &&& y : Nat) : Int) := by
  show IntKind.i64.wrap (((BitVec.ofInt 64 (x : Int) &&& BitVec.ofInt 64 (y : Int)).toNat : Nat) : Int) = _
  have h : x &&& y < 2 ^ 63 := Nat.lt_of_le_of_lt Nat.and_le_right hy
  rw [BitVec.toNat_and, bvN _ hx, bvN _ (by omega), IntKind.wrap_i64]
  omega
theorem ones_div (n : Nat) (h1 : 1 ≤ n) (h : n ≤ 64) : 18446744073709551615 / 2 ^ (64 - n) = 2 ^ n - 1 := by
  have e : 2 ^ 64 = 2 ^ n * 2 ^ (64 - n) := by rw [← Nat.pow_add]; congr 1; omega
  have hp := Nat.two_pow_pos n
  have hk := Nat.two_pow_pos (64 - n)
  apply Nat.div_eq_of_lt_le
  · rw [Nat.sub_mul, ← e]; omega
  · rw [show 2 ^ n - 1 + 1 = 2 ^ n by omega, ← e]; omega
theorem and_u64c (x k : Nat) (X m : Int) (hX : X = x) (hm : m = k) (hx : x < 2 ^ 64) (hk : k < 2 ^ 64) : bits BinOp.and IntKind.u64 X m = ((x &&& k : Nat) : Int) := by
  subst hX; subst hm; exact and_u64 x k hx hk
theorem and_i64c (x k : Nat) (X m : Int) (hX : X = x) (hm : m = k) (hx : x < 2 ^ 64) (hk : k < 2 ^ 63) : bits BinOp.and IntKind.i64 X m = ((x &&& k : Nat) : Int) := by
  subst hX; subst hm; exact and_i64 x k hx hk
theorem block_any (c : Nat) (hc : c < 2 ^ 64) (w : World) : Calls Try.prog 20 #[.int .u64 c] w fun e w' => e = .returned (.int .u64 ((c / 64 % 32 : Nat) : Int)) ∧ w = w' := by
  have hc0 : (0 : Int) ≤ c := by omega
  have hc1 : (c : Int) ≤ 18446744073709551615 := by omega
  go_enter Try.func20, Try.ntmps20
  go_wp2_with fail
  go_ret
  exact ⟨ret_int (by omega), rfl⟩
theorem places_any (c n : Nat) (hc : c < 2 ^ 64) (hn : 1 ≤ n) (hm : c % 64 + n ≤ 64) (w : World) : Calls Try.prog 21 #[.int .u64 c, .int .u64 n] w fun e w' => e = .returned (.int .u64 (pl c n : Nat)) ∧ w = w' := by
  have hc0 : (0 : Int) ≤ c := by omega
  have hc1 : (c : Int) ≤ 18446744073709551615 := by omega
  have hn0 : (1 : Int) ≤ n := by omega
  have hn1 : (n : Int) ≤ 64 := by omega
  go_enter Try.func21, Try.ntmps21
  go_wp2_with fail
  go_ret
  refine ⟨ret_int ?_, rfl⟩
  have h1 := ones_div n hn (by omega)
  have h2 := pl_lt c n hm
  have e : (18446744073709551615 : Int) / 2 ^ (64 - n) * 2 ^ (c % 64) = ((pl c n : Nat) : Int) := by
    unfold pl
    rw [← h1]
    simp
  rw [e, wrap_u64 _ (by omega) (by omega)]
end Go.Proofs.Ytoodjdaadkbdfaa
