/- Windows: the laws' first words: the chapter's example. -/
import Derived.Test.YtoodjdaadkbdfaaWinR4
namespace Go.Proofs.Ytoodjdaadkbdfaa
set_option linter.unusedVariables false
set_option linter.unusedSimpArgs false
set_option maxRecDepth 100000
open Go.RowKit
instance (L : List Nat) : Decidable (Good L) := decidable_of_iff ((∀ x ∈ L, x < most) ∧ L.Nodup) ⟨fun h => ⟨h.1, h.2⟩, fun h => ⟨h.lt, h.nd⟩⟩
theorem take_k (B c : Nat) (L : List Nat) (k : Nat) (L' : List Nat) (w : World) (h : WinAt w B L) (hg : Good L) (hc : c < 2 ^ 64) (hk : wouldL L c = k) (hL : takeL L c = L') :
    Calls Try.prog 11 #[.pointer (some ⟨B, 0, none⟩), .int .u64 (c : Nat)] w (fun e w' => e = .returned (.int .i64 (k : Nat)) ∧ WinAt w' B L' ∧ w.grownBy w' (some B)) := by
  subst hk; subst hL
  exact take_any B c L w h hg hc
theorem Below.win {w a b : World} {B : Nat} (h : Below w.heap.size w a) (hg : a.grownBy b (some B)) (hB : w.heap.size ≤ B) : Below w.heap.size w b := h.grown hg h.size (fun k hk => by cases hk; exact hB)
set_option maxHeartbeats 1000000 in
theorem awake7_any (w : World) : Calls Try.prog 6 #[] w fun e w' => e = .returned (.bool true) ∧ Below w.heap.size w w' := by
  have HT1 : Hid (∀ w B, WinAt w B [] → Calls Try.prog 11 #[.pointer (some ⟨B, 0, none⟩), .int .u64 5] w (fun e w' => e = .returned (.int .i64 0) ∧ WinAt w' B [5] ∧ w.grownBy w' (some B))) := Lib.hid (fun w B h => take_k B 5 [] 0 [5] w h (by decide) (by decide) (by decide) (by decide))
  have HT2 : Hid (∀ w B, WinAt w B [5] → Calls Try.prog 11 #[.pointer (some ⟨B, 0, none⟩), .int .u64 3] w (fun e w' => e = .returned (.int .i64 0) ∧ WinAt w' B [5, 3] ∧ w.grownBy w' (some B))) := Lib.hid (fun w B h => take_k B 3 [5] 0 [5, 3] w h (by decide) (by decide) (by decide) (by decide))
  have HT3 : Hid (∀ w B, WinAt w B [5, 3] → Calls Try.prog 11 #[.pointer (some ⟨B, 0, none⟩), .int .u64 5] w (fun e w' => e = .returned (.int .i64 9) ∧ WinAt w' B [5, 3] ∧ w.grownBy w' (some B))) := Lib.hid (fun w B h => take_k B 5 [5, 3] 9 [5, 3] w h (by decide) (by decide) (by decide) (by decide))
  have HT4 : Hid (∀ w B, WinAt w B [5, 3] → Calls Try.prog 11 #[.pointer (some ⟨B, 0, none⟩), .int .u64 2052] w (fun e w' => e = .returned (.int .i64 0) ∧ WinAt w' B [5, 3, 2052] ∧ w.grownBy w' (some B))) := Lib.hid (fun w B h => take_k B 2052 [5, 3] 0 [5, 3, 2052] w h (by decide) (by decide) (by decide) (by decide))
  have HT5 : Hid (∀ w B, WinAt w B [5, 3, 2052] → Calls Try.prog 11 #[.pointer (some ⟨B, 0, none⟩), .int .u64 4] w (fun e w' => e = .returned (.int .i64 9) ∧ WinAt w' B [5, 3, 2052] ∧ w.grownBy w' (some B))) := Lib.hid (fun w B h => take_k B 4 [5, 3, 2052] 9 [5, 3, 2052] w h (by decide) (by decide) (by decide) (by decide))
  have HT6 : Hid (∀ w B, WinAt w B [5, 3, 2052] → Calls Try.prog 11 #[.pointer (some ⟨B, 0, none⟩), .int .u64 6] w (fun e w' => e = .returned (.int .i64 0) ∧ WinAt w' B [5, 3, 2052, 6] ∧ w.grownBy w' (some B))) := Lib.hid (fun w B h => take_k B 6 [5, 3, 2052] 0 [5, 3, 2052, 6] w h (by decide) (by decide) (by decide) (by decide))
  go_enter Try.func6, Try.ntmps6
  go_wp2_with (first | (go_at_call 7; ((with_reducible refine (new_any _).mono ?_); rintro e w2 ⟨rfl, ha, hb⟩; have HA := Lib.hid ha; have HB := Lib.hid hb; clear ha hb)) | (go_at_call 11; ((first | (with_reducible refine (HT1.out _ _ HA.out).mono ?_) | (with_reducible refine (HT2.out _ _ HA.out).mono ?_) | (with_reducible refine (HT3.out _ _ HA.out).mono ?_) | (with_reducible refine (HT4.out _ _ HA.out).mono ?_) | (with_reducible refine (HT5.out _ _ HA.out).mono ?_) | (with_reducible refine (HT6.out _ _ HA.out).mono ?_)); rintro e w2 ⟨rfl, ha, hg⟩; have HA := Lib.hid ha; have HB := Lib.hid (Below.win HB.out hg (Nat.le_refl _)); clear ha hg)) | fail)
  go_ret
  exact ⟨rfl, HB.out⟩
end Go.Proofs.Ytoodjdaadkbdfaa
