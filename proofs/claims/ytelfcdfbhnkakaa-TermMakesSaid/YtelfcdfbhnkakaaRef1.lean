import Derived.Test.YtelfcdfbhnkakaaTerm19
import Derived.Test.YtelfcdfbhnkakaaNum4
import Derived.Test.YtelfcdfbhnkakaaNum10
namespace Go.Proofs.Ytelfcdfbhnkakaa
set_option linter.unusedVariables false
set_option linter.unusedSimpArgs false
set_option maxRecDepth 100000
open Go.RowKit

theorem at_any (s : ByteArray) (q : Nat) (hs : s.size ≤ maxLen) (hq : q ≤ 9223372036854775807) (w : World) : Calls Try.prog 36 #[.string s, .int .i64 q] w fun e w' => e = .returned (.int .u8 (byteAt s q)) ∧ w = w' := by
  unfold maxLen at hs
  by_cases h : q < s.size
  · go_enter Try.func36, Try.ntmps36
    go_wp2
    go_ret
    exact ⟨ret_int (byteAt_lt h).symm, rfl⟩
  · go_enter Try.func36, Try.ntmps36
    go_wp2
    go_ret
    exact ⟨ret_int (byteAt_ge h).symm, rfl⟩

def lettersL : List UInt8 := [48, 97, 110, 120, 112, 100, 104, 107, 109, 115, 108]
def letterAt (j : Nat) : UInt8 := lettersL.getD j 0
theorem letter_at (j : Nat) (hj : j < 11) (h : j < (⟨#[48, 97, 110, 120, 112, 100, 104, 107, 109, 115, 108]⟩ : ByteArray).size) : ((⟨#[48, 97, 110, 120, 112, 100, 104, 107, 109, 115, 108]⟩ : ByteArray)[j]'h).toNat = (letterAt j).toNat := by
  rcases (show j = 0 ∨ j = 1 ∨ j = 2 ∨ j = 3 ∨ j = 4 ∨ j = 5 ∨ j = 6 ∨ j = 7 ∨ j = 8 ∨ j = 9 ∨ j = 10 by omega) with rfl | rfl | rfl | rfl | rfl | rfl | rfl | rfl | rfl | rfl | rfl <;> rfl
theorem letter_kind (j : Nat) (hj : j < 11) : kindOf (letterAt j) = j + 1 := by
  rcases (show j = 0 ∨ j = 1 ∨ j = 2 ∨ j = 3 ∨ j = 4 ∨ j = 5 ∨ j = 6 ∨ j = 7 ∨ j = 8 ∨ j = 9 ∨ j = 10 by omega) with rfl | rfl | rfl | rfl | rfl | rfl | rfl | rfl | rfl | rfl | rfl <;> rfl
theorem kind_none (c : UInt8) (h : ∀ j, j < 11 → letterAt j ≠ c) : kindOf c = 0 := by
  have h0 := h 0 (by decide); have h1 := h 1 (by decide); have h2 := h 2 (by decide); have h3 := h 3 (by decide); have h4 := h 4 (by decide); have h5 := h 5 (by decide)
  have h6 := h 6 (by decide); have h7 := h 7 (by decide); have h8 := h 8 (by decide); have h9 := h 9 (by decide); have h10 := h 10 (by decide)
  simp only [letterAt, lettersL, List.getD_cons_zero, List.getD_cons_succ] at h0 h1 h2 h3 h4 h5 h6 h7 h8 h9 h10
  unfold kindOf
  rw [if_neg (Ne.symm h0), if_neg (Ne.symm h1), if_neg (Ne.symm h2), if_neg (Ne.symm h3), if_neg (Ne.symm h4), if_neg (Ne.symm h5), if_neg (Ne.symm h6), if_neg (Ne.symm h7), if_neg (Ne.symm h8), if_neg (Ne.symm h9), if_neg (Ne.symm h10)]

theorem rkind_any (c : UInt8) (w : World) : Calls Try.prog 35 #[.int .u8 c.toNat] w fun e w' => e = .returned (.int .i64 (kindOf c)) ∧ w = w' := by
  have hc := UInt8.toNat_lt c
  go_enter Try.func35, Try.ntmps35
  go_wp2
  go_loop [3] (fun i => ∃ k : Nat, k ≤ 11 ∧ i = .int .i64 k ∧ ∀ j, j < k → letterAt j ≠ c) (fun i => 11 - (intOf i).toNat)
  case atStart => exact ⟨0, by omega, rfl, fun j hj => by omega⟩
  case round =>
    obtain ⟨k, hk, rfl, hall⟩ := hrel
    have HA := Lib.hid hall
    clear hall
    by_cases hlt : k < 11
    · have hix := fun h => letter_at k hlt h
      by_cases he : letterAt k = c
      · have HK : Hid (kindOf c = k + 1) := Lib.hid (by rw [← he]; exact letter_kind k hlt)
        have he1 : (((letterAt k).toNat : Int) == c.toNat) = true := by rw [he]; simp
        clear he
        go_wp2
        go_ret
        exact ⟨ret_int (by rw [HK.out]; rfl), rfl⟩
      · have he1 : (((letterAt k).toNat : Int) == c.toNat) = false := beqf (fun h => he (UInt8.toNat_inj.1 (Int.ofNat.inj h)))
        have HA2 : Hid (∀ j, j < k + 1 → letterAt j ≠ c) := Lib.hid fun j hj => by
          by_cases h : j < k
          · exact HA.out j h
          · have : j = k := by omega
            subst this; exact he
        clear he
        go_wp2
        go_round
        case rel => exact ⟨k + 1, by omega, by go_num, HA2.out⟩
        case measure => simp [intOf]; omega
    · have HK : Hid (kindOf c = 0) := Lib.hid (kind_none c fun j hj => HA.out j (by omega))
      go_wp2
      go_ret
      exact ⟨ret_int (by rw [HK.out]; rfl), rfl⟩

theorem right_any (k n : Nat) (w : World) : Calls Try.prog 40 #[.int .i64 k, .int .i64 n] w fun e w' => e = .returned (.bool (right k n)) ∧ w = w' := by
  have hcase : (k = 5 ∧ right k n = (n == 1)) ∨ (k = 6 ∧ right k n = (n == 2)) ∨ (k = 8 ∧ right k n = (n == 2)) ∨ (k = 9 ∧ right k n = (n == 2)) ∨ (k = 7 ∧ right k n = decide (1 ≤ n)) ∨ (k = 10 ∧ right k n = (n == 3)) ∨ (k ≠ 5 ∧ k ≠ 6 ∧ k ≠ 7 ∧ k ≠ 8 ∧ k ≠ 9 ∧ k ≠ 10 ∧ right k n = true) := by
    unfold right
    by_cases h5 : k = 5
    · exact .inl ⟨h5, by rw [if_pos h5]⟩
    · by_cases h6 : k = 6
      · exact .inr (.inl ⟨h6, by rw [if_neg h5, if_pos (.inl h6)]⟩)
      · by_cases h8 : k = 8
        · exact .inr (.inr (.inl ⟨h8, by rw [if_neg h5, if_pos (.inr (.inl h8))]⟩))
        · by_cases h9 : k = 9
          · exact .inr (.inr (.inr (.inl ⟨h9, by rw [if_neg h5, if_pos (.inr (.inr h9))]⟩)))
          · by_cases h7 : k = 7
            · exact .inr (.inr (.inr (.inr (.inl ⟨h7, by rw [if_neg h5, if_neg (by omega), if_pos h7]⟩))))
            · by_cases h10 : k = 10
              · exact .inr (.inr (.inr (.inr (.inr (.inl ⟨h10, by rw [if_neg h5, if_neg (by omega), if_neg h7, if_pos h10]⟩)))))
              · exact .inr (.inr (.inr (.inr (.inr (.inr ⟨h5, h6, h7, h8, h9, h10, by rw [if_neg h5, if_neg (by omega), if_neg h7, if_neg h10]⟩)))))
  have hn : ∀ j : Nat, (((n : Int)) == (j : Int)) = (n == j) := fun j => by
    rw [Bool.eq_iff_iff, beq_iff_eq, beq_iff_eq]; omega
  rcases hcase with ⟨rfl, hr⟩ | ⟨rfl, hr⟩ | ⟨rfl, hr⟩ | ⟨rfl, hr⟩ | ⟨rfl, hr⟩ | ⟨rfl, hr⟩ | ⟨h5, h6, h7, h8, h9, h10, hr⟩
  all_goals rw [hr]
  all_goals (have HN := Lib.hid hn)
  all_goals clear hr hn
  · go_enter Try.func40, Try.ntmps40
    go_wp2
    go_ret
    exact ⟨ret_bool (HN.out 1), rfl⟩
  · go_enter Try.func40, Try.ntmps40
    go_wp2
    go_ret
    exact ⟨ret_bool (HN.out 2), rfl⟩
  · go_enter Try.func40, Try.ntmps40
    go_wp2
    go_ret
    exact ⟨ret_bool (HN.out 2), rfl⟩
  · go_enter Try.func40, Try.ntmps40
    go_wp2
    go_ret
    exact ⟨ret_bool (HN.out 2), rfl⟩
  · go_enter Try.func40, Try.ntmps40
    go_wp2
    go_ret
    exact ⟨ret_bool (by rw [Bool.eq_iff_iff, decide_eq_true_eq, decide_eq_true_eq]; omega), rfl⟩
  · go_enter Try.func40, Try.ntmps40
    go_wp2
    go_ret
    exact ⟨ret_bool (HN.out 3), rfl⟩
  · have e5 : ((k : Int) == 5) = false := beqf (by omega)
    have e6 : ((k : Int) == 6) = false := beqf (by omega)
    have e7 : ((k : Int) == 7) = false := beqf (by omega)
    have e8 : ((k : Int) == 8) = false := beqf (by omega)
    have e9 : ((k : Int) == 9) = false := beqf (by omega)
    have e10 : ((k : Int) == 10) = false := beqf (by omega)
    clear h5 h6 h7 h8 h9 h10
    go_enter Try.func40, Try.ntmps40
    go_wp2
    go_ret
    exact ⟨rfl, rfl⟩

theorem isWord_int (c : UInt8) : isWord c = true ↔ (c.toNat : Int) ≠ 44 ∧ (c.toNat : Int) ≠ 41 := by
  unfold isWord
  rw [decide_eq_true_eq]
  constructor
  · rintro ⟨h1, h2⟩
    have e1 : (44 : UInt8).toNat = 44 := rfl
    have e2 : (41 : UInt8).toNat = 41 := rfl
    exact ⟨fun h => h1 (UInt8.toNat_inj.1 (by omega)), fun h => h2 (UInt8.toNat_inj.1 (by omega))⟩
  · rintro ⟨h1, h2⟩
    exact ⟨fun h => h1 (by rw [h]; rfl), fun h => h2 (by rw [h]; rfl)⟩
theorem ret_word {a b : ByteArray} {c d : Int} (h : a = b) (h2 : c = d) : Ending.returned (.tuple #[.string a, .int .i64 c]) = .returned (.tuple #[.string b, .int .i64 d]) := by rw [h, h2]

theorem word_any (s : ByteArray) (p : Nat) (hs : s.size ≤ maxLen) (hp : p ≤ s.size) (w : World) : Calls Try.prog 38 #[.string s, .int .i64 p] w fun e w' =>
    e = .returned (.tuple #[.string (strB ((s.data.toList.drop p).takeWhile isWord)), .int .i64 (posOf s ((s.data.toList.drop p).dropWhile isWord))]) ∧ w = w' := by
  unfold maxLen at hs
  go_enter Try.func38, Try.ntmps38
  go_wp2
  go_loop [1] (fun i => ∃ q : Nat, p ≤ q ∧ q ≤ s.size ∧ i = .int .i64 q ∧ (s.data.toList.drop p).takeWhile isWord = (s.data.toList.drop p).take (q - p) ++ (s.data.toList.drop q).takeWhile isWord) (fun i => s.size - (intOf i).toNat)
  case atStart => exact ⟨p, Nat.le_refl _, hp, rfl, by simp⟩
  case round =>
    obtain ⟨q, hpq, hqs, rfl, ht⟩ := hrel
    have HT := Lib.hid ht
    clear ht
    have hcase : (∃ h : q < s.size, isWord s[q] = true) ∨ (∃ h : q < s.size, (s[q].toNat : Int) = 44) ∨ (∃ h : q < s.size, (s[q].toNat : Int) = 41) ∨ ¬ q < s.size := by
      by_cases h : q < s.size
      · by_cases hw : isWord s[q] = true
        · exact .inl ⟨h, hw⟩
        · have hno : ¬ (((s[q]).toNat : Int) ≠ 44 ∧ ((s[q]).toNat : Int) ≠ 41) := mt (isWord_int s[q]).mpr hw
          by_cases h44 : (s[q].toNat : Int) = 44
          · exact .inr (.inl ⟨h, h44⟩)
          · refine .inr (.inr (.inl ⟨h, ?_⟩))
            by_cases h41 : (s[q].toNat : Int) = 41
            · exact h41
            · exact (hno ⟨h44, h41⟩).elim
      · exact .inr (.inr (.inr h))
    rcases hcase with ⟨hlt, hw⟩ | hstop
    · have hi := (isWord_int s[q]).1 hw
      have HW := Lib.hid hw
      have h1 : (((s[q]).toNat : Int) != 44) = true := by simp; omega
      have h2 : (((s[q]).toNat : Int) != 41) = true := by simp; omega
      have hb := UInt8.toNat_lt s[q]
      clear hi hw
      go_wp2
      go_round
      case rel => exact ⟨q + 1, by omega, by omega, by go_num, run_step hpq hlt HW.out HT.out⟩
      case measure => simp [intOf]; omega
    · have HE : Hid ((s.data.toList.drop p).takeWhile isWord = (s.data.toList.drop p).take (q - p) ∧ ((s.data.toList.drop p).takeWhile isWord).length = q - p) := Lib.hid (run_end hpq hqs (fun h => by
        rcases hstop with ⟨_, h1⟩ | ⟨_, h1⟩ | h1
        · cases hx : isWord s[q]
          · rfl
          · exact absurd h1 ((isWord_int s[q]).1 hx).1
        · cases hx : isWord s[q]
          · rfl
          · exact absurd h1 ((isWord_int s[q]).1 hx).2
        · exact absurd h h1) HT.out)
      have HF : Hid ((strB ((s.data.toList.drop p).takeWhile isWord)) = s.extract p q ∧ (posOf s ((s.data.toList.drop p).dropWhile isWord) : Int) = q) := Lib.hid ⟨by rw [slice_str s p q hpq hqs, sub, HE.out.1, strB], by rw [← posOf_dropWhile isWord s p hp, HE.out.2]; omega⟩
      rcases hstop with ⟨hlt, h1⟩ | ⟨hlt, h1⟩ | h1
      · have h2 : (((s[q]).toNat : Int) != 44) = false := by simp [h1]
        clear h1
        go_wp2
        go_ret2
        exact ⟨ret_word HF.out.1.symm HF.out.2.symm, rfl⟩
      · have h2 : (((s[q]).toNat : Int) != 44) = true := by simp [h1]
        have h3 : (((s[q]).toNat : Int) != 41) = false := by simp [h1]
        clear h1
        go_wp2
        go_ret2
        exact ⟨ret_word HF.out.1.symm HF.out.2.symm, rfl⟩
      · go_wp2
        go_ret2
        exact ⟨ret_word HF.out.1.symm HF.out.2.symm, rfl⟩
end Go.Proofs.Ytelfcdfbhnkakaa
