/- The program's addresses: Right, mask, Plain, isPlain, by contract. -/
import Derived.Test.YtbaceiohcbhpaaaDoorAddr6
namespace Go.Proofs.YtbaceiohcbhpaaaDoor
set_option linter.unusedVariables false
set_option linter.unusedSimpArgs false
set_option maxRecDepth 100000
open Go.RowKit

theorem isaddr_any (ad : Option Addr) (n cp : Nat) (hn : n ≤ 100000) (w : World) :
    Calls Tryd.prog 48 #[.slice ad n cp] w fun e w' => e = .returned (.bool (n == 4 || n == 16)) ∧ w' = w := by
  have hni : (n : Int) ≤ 100000 := by omega
  have hcase : (n = 4) ∨ (n ≠ 4 ∧ n = 16) ∨ (n ≠ 4 ∧ n ≠ 16) := by omega
  rcases hcase with h | ⟨h4, h⟩ | ⟨h4, h16⟩
  · subst h
    go_enter Tryd.func48, Tryd.ntmps48
    go_wp2_with fail
    go_ret
    exact ⟨rfl, rfl⟩
  · subst h
    go_enter Tryd.func48, Tryd.ntmps48
    go_wp2_with fail
    go_ret
    exact ⟨rfl, rfl⟩
  · have HR : Hid ((n == 4 || n == 16) = false) := Lib.hid (by simp [h4, h16])
    have e4 : ((n : Int) == 4) = false := bne_i (by omega)
    have e16 : ((n : Int) == 16) = false := bne_i (by omega)
    clear h4 h16
    go_enter Tryd.func48, Tryd.ntmps48
    go_wp2_with fail
    go_ret
    exact ⟨ret_bool HR.out.symm, rfl⟩
theorem isaddr_v (ad : Option Addr) (n cp : Nat) (hn : n ≤ 100000) (r : Bool) (hr : (n == 4 || n == 16) = r) (w : World) :
    Calls Tryd.prog 48 #[.slice ad n cp] w fun e w' => e = .returned (.bool r) ∧ w' = w := by
  subst hr; exact isaddr_any ad n cp hn w
theorem aright_any (ad : Option Addr) (n cp : Nat) (bits : Int) (hn : n ≤ 100000) (w : World) :
    Calls Tryd.prog 33 #[.agg #[.slice ad n cp, .int .i64 bits]] w (RightRet w (rightP n bits)) := by
  have hni : (n : Int) ≤ 100000 := by omega
  have hni0 : (0 : Int) ≤ n := by omega
  cases hr : (n == 4 || n == 16) with
  | false =>
    have HR : Hid (rightP n bits = false) := Lib.hid (by unfold rightP; rw [hr]; rfl)
    have HA := Lib.hid (isaddr_v ad n cp hn false hr)
    clear hr
    go_enter Tryd.func33, Tryd.ntmps33
    go_wp2_with (first | (go_at_call 48; ((with_reducible refine (HA.out _).mono ?_); rintro e w2 ⟨rfl, rfl⟩)) | fail)
    go_ret
    exact right_ret HR.out.symm _
  | true =>
    have HA := Lib.hid (isaddr_v ad n cp hn true hr)
    by_cases h0 : 0 ≤ bits
    · by_cases h1 : bits ≤ 8 * n
      · have HR : Hid (rightP n bits = true) := Lib.hid (by unfold rightP; rw [hr]; simp [h0, h1])
        clear hr
        go_enter Tryd.func33, Tryd.ntmps33
        go_wp2_with (first | (go_at_call 48; ((with_reducible refine (HA.out _).mono ?_); rintro e w2 ⟨rfl, rfl⟩)) | fail)
        go_ret
        exact right_ret (by first | (rw [HR.out]; done) | (rw [HR.out]; exact decide_eq_true (by omega))) _
      · have HR : Hid (rightP n bits = false) := Lib.hid (by unfold rightP; rw [show decide (bits ≤ 8 * (n : Int)) = false from decide_eq_false h1]; simp)
        have h2 : 8 * (n : Int) < bits := by omega
        clear hr h1
        go_enter Tryd.func33, Tryd.ntmps33
        go_wp2_with (first | (go_at_call 48; ((with_reducible refine (HA.out _).mono ?_); rintro e w2 ⟨rfl, rfl⟩)) | fail)
        go_ret
        exact right_ret (by first | (rw [HR.out]; done) | (rw [HR.out]; exact decide_eq_false (by omega))) _
    · have HR : Hid (rightP n bits = false) := Lib.hid (by unfold rightP; rw [show decide (0 ≤ bits) = false from decide_eq_false h0]; simp)
      have h2 : bits < 0 := by omega
      clear hr h0
      go_enter Tryd.func33, Tryd.ntmps33
      go_wp2_with (first | (go_at_call 48; ((with_reducible refine (HA.out _).mono ?_); rintro e w2 ⟨rfl, rfl⟩)) | fail)
      go_ret
      exact right_ret (by first | (rw [HR.out]; done) | (rw [HR.out]; exact decide_eq_false (by omega))) _
theorem aright_v (ad : Option Addr) (n cp : Nat) (bits : Int) (hn : n ≤ 100000) (r : Bool) (hr : rightP n bits = r) (w : World) :
    Calls Tryd.prog 33 #[.agg #[.slice ad n cp, .int .i64 bits]] w fun e w' => e = .returned (.bool r) ∧ Below w.heap.size w w' := by
  subst hr; exact aright_any ad n cp bits hn w
/-! the mask of a byte of which k bits count -/
def clampN (bits : Int) : Nat := min bits.toNat 8
def maskN (k : Nat) : Nat := 255 - 255 / 2 ^ k
theorem clampN_le (bits : Int) : clampN bits ≤ 8 := Nat.min_le_right _ _
theorem mask_any (bits : Int) (h1 : -100000 ≤ bits) (h2 : bits ≤ 100000) (w : World) :
    Calls Tryd.prog 35 #[.int .i64 bits] w fun e w' => e = .returned (.int .u8 (maskN (clampN bits))) ∧ w' = w := by
  by_cases hneg : bits < 0
  · have HC : Hid (clampN bits = 0) := Lib.hid (by unfold clampN; omega)
    have h8 : bits < 8 := by omega
    go_enter Tryd.func35, Tryd.ntmps35
    go_wp2_with fail
    go_ret
    exact ⟨by rw [HC.out]; rfl, rfl⟩
  · by_cases h8 : 8 < bits
    · have HC : Hid (clampN bits = 8) := Lib.hid (by unfold clampN; omega)
      go_enter Tryd.func35, Tryd.ntmps35
      go_wp2_with fail
      go_ret
      exact ⟨by rw [HC.out]; rfl, rfl⟩
    · have hc : bits = 0 ∨ bits = 1 ∨ bits = 2 ∨ bits = 3 ∨ bits = 4 ∨ bits = 5 ∨ bits = 6 ∨ bits = 7 ∨ bits = 8 := by omega
      clear h1 h2 hneg h8
      rcases hc with rfl | rfl | rfl | rfl | rfl | rfl | rfl | rfl | rfl
      all_goals
        go_enter Tryd.func35, Tryd.ntmps35
        go_wp2_with fail
        go_ret
        exact ⟨rfl, rfl⟩
end Go.Proofs.YtbaceiohcbhpaaaDoor
