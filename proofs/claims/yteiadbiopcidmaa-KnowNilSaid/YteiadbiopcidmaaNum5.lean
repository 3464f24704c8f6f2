import Derived.Test.YteiadbiopcidmaaNum3
namespace Go.Proofs.Yteiadbiopcidmaa
set_option linter.unusedVariables false
set_option linter.unusedSimpArgs false
set_option maxRecDepth 100000
open Go.RowKit

theorem decs_len : ∀ (n u : Nat), u < 10 ^ (n + 1) → (decs u).length ≤ n + 1 := by
  intro n
  induction n with
  | zero => intro u h; rw [decs_small (by omega)]; simp
  | succ n ih =>
    intro u h
    by_cases h1 : u < 10
    · rw [decs_small h1]; simp
    · rw [decs_big h1]
      have := ih (u / 10) (by rw [Nat.pow_succ] at h; omega)
      simp only [List.length_append, List.length_cons, List.length_nil]; omega
theorem decs_top (u : Nat) (h : u ≤ top) : (decs u).length ≤ 20 := decs_len 19 u (by unfold top at h; omega)

theorem ret_dec (m u : Nat) (s : ByteArray) (hm : m ≤ 9) (h : decs m ++ s.data.toList = decs u) : strOfNums [48 + (m : Int)] ++ s = ⟨(decs u).toArray⟩ := by
  rw [← h, decs_small (by omega)]
  obtain ⟨⟨l⟩⟩ := s
  apply ByteArray.ext
  rw [ByteArray.data_append]
  simp only [strOfNums, List.map_cons, List.map_nil, show (48 + (m : Int)).toNat = 48 + m by omega]
  simp
theorem dec_next (m u : Nat) (s : ByteArray) (hm : 9 < m) (h : decs m ++ s.data.toList = decs u) : decs (m / 10) ++ (strOfNums [48 + (m : Int) % 10] ++ s).data.toList = decs u := by
  rw [← h, decs_big (u := m) (by omega), ByteArray.data_append]
  simp only [strOfNums, List.map_cons, List.map_nil, show (48 + (m : Int) % 10).toNat = 48 + m % 10 by omega]
  simp

end Go.Proofs.Yteiadbiopcidmaa
