import Derived.Test.YtelfcdfbhnkakaaRef7
import Derived.Test.YtelfcdfbhnkakaaTermMath4
namespace Go.Proofs.Ytelfcdfbhnkakaa
set_option linter.unusedVariables false
set_option linter.unusedSimpArgs false
set_option maxRecDepth 100000
open Go.RowKit

theorem node_eq (t : List UInt8) : nodeR t = ((lookR t).1, (lookR t).2.1, bytesR t, (lookR t).2.2) := by
  unfold nodeR
  rw [look_eq]
  cases hq : qLook t with
  | none =>
    have e : lookR t = (0, 0, []) := by unfold lookR; rw [hq]; rfl
    unfold bytesR
    rw [e]; rfl
  | some x =>
    obtain ⟨k, n, ps⟩ := x
    have e : lookR t = (k, n, ps) := by unfold lookR; rw [hq]; rfl
    have hb : bytesIn k t = bytesR t := by
      unfold bytesR
      rw [e]
      show _ = if k = 4 then _ else _
      by_cases h4 : k = 4
      · subst h4
        obtain ⟨_, r, hr, hc, hn, hps⟩ := look4 e
        have ht := (read_text e (by decide)).2.1
        rw [hps, hn] at ht
        have h2 : wText 4 0 (bytesIn 4 t) [] = 120 :: hexOf (bytesIn 4 t) := by
          unfold wText joined
          have : itemsOf 4 0 (bytesIn 4 t) = [hexOf (bytesIn 4 t)] := rfl
          rw [this]
          simp [Lib.join_one, signOf]
        rw [h2] at ht
        rw [if_pos rfl]
        conv => rhs; rw [ht]
        rw [List.drop_succ_cons, List.drop_zero, (hx_hexOf _).1]
      · rw [if_neg h4]; unfold bytesIn; rw [if_neg h4]
    rw [e]
    simp [hb]

theorem ex_open (w : World) : Calls Try.prog 18 #[.string ⟨#[115, 40, 55, 44, 97, 49, 44, 120, 48, 48, 44, 48, 41]⟩, .string ⟨#[97, 49]⟩, .int .u64 7, .string ⟨#[48]⟩] w fun e w' =>
    e = .returned (.tuple #[.string ⟨#[120, 48, 48]⟩, .int .i64 0]) ∧ Below w.heap.size w w' := by
  have h := open_any ⟨#[115, 40, 55, 44, 97, 49, 44, 120, 48, 48, 44, 48, 41]⟩ ⟨#[97, 49]⟩ ⟨#[48]⟩ 7 (by decide) w
  have e : openR (lookR [115, 40, 55, 44, 97, 49, 44, 120, 48, 48, 44, 48, 41]) [97, 49] 7 [48] = ([120, 48, 48], 0) := by kernel_rfl
  have e2 : openR (lookR (⟨#[115, 40, 55, 44, 97, 49, 44, 120, 48, 48, 44, 48, 41]⟩ : ByteArray).data.toList) (⟨#[97, 49]⟩ : ByteArray).data.toList 7 (⟨#[48]⟩ : ByteArray).data.toList = ([120, 48, 48], 0) := e
  rw [e2] at h
  exact h
theorem ex_agree (w : World) : Calls Try.prog 21 #[.string ⟨#[97, 49]⟩, .string ⟨#[112, 40, 97, 48, 41]⟩] w fun e w' =>
    e = .returned (.string ⟨#[100, 40, 97, 48, 44, 97, 49, 41]⟩) ∧ Below w.heap.size w w' := by
  have h := agree_any ⟨#[97, 49]⟩ ⟨#[112, 40, 97, 48, 41]⟩ (by decide) w
  have e : agreeR [97, 49] (lookR [112, 40, 97, 48, 41]) = [100, 40, 97, 48, 44, 97, 49, 41] := by kernel_rfl
  have e2 : agreeR (⟨#[97, 49]⟩ : ByteArray).data.toList (lookR (⟨#[112, 40, 97, 48, 41]⟩ : ByteArray).data.toList) = [100, 40, 97, 48, 44, 97, 49, 41] := e
  rw [e2] at h
  exact h
def Awake2 (w : World) (e : Ending) (w' : World) : Prop := e = .returned (.bool true) ∧ Below w.heap.size w w'
theorem awake2_any (w : World) : Calls Try.prog 7 #[] w (Awake2 w) := by
  go_enter Try.func7, Try.ntmps7
  go_wp2_with (first | (go_at_call 18; ((with_reducible refine (ex_open _).mono ?_); rintro e w1 ⟨rfl, hb1⟩)) | (go_at_call 21; ((with_reducible refine (ex_agree _).mono ?_); rintro e w2 ⟨rfl, hb2⟩)) | fail)
  go_ret
  exact ⟨rfl, Below.next hb1 hb2⟩
end Go.Proofs.Ytelfcdfbhnkakaa
