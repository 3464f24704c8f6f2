/- Windows: the law WindowRow: the mathematics, and the walk. -/
import Derived.Test.YtoodjdaadkbdfaaWinL2
import Derived.Test.YtoodjdaadkbdfaaWinL4
namespace Go.Proofs.Ytoodjdaadkbdfaa
set_option linter.unusedVariables false
set_option linter.unusedSimpArgs false
set_option maxRecDepth 100000
open Go.RowKit
/-- counters from f on, in a row, with some left out -/
def rowL (f e : Nat) : Nat → List Nat
  | 0 => []
  | k + 1 => if k % e = 1 then rowL f e k else rowL f e k ++ [f + k]
theorem mem_rowL (f e k x : Nat) : x ∈ rowL f e k ↔ f ≤ x ∧ x < f + k ∧ (x - f) % e ≠ 1 := by
  induction k with
  | zero => simp [rowL]; omega
  | succ k ih =>
    unfold rowL
    split
    · rename_i h
      rw [ih]
      constructor
      · rintro ⟨h1, h2, h3⟩; exact ⟨h1, by omega, h3⟩
      · rintro ⟨h1, h2, h3⟩
        refine ⟨h1, ?_, h3⟩
        by_cases hx : x = f + k
        · subst hx; rw [show f + k - f = k by omega] at h3; exact absurd h h3
        · omega
    · rename_i h
      rw [List.mem_append, ih]
      constructor
      · rintro (⟨h1, h2, h3⟩ | h1)
        · exact ⟨h1, by omega, h3⟩
        · have : x = f + k := by simpa using h1
          subst this
          exact ⟨by omega, by omega, by rw [show f + k - f = k by omega]; exact h⟩
      · rintro ⟨h1, h2, h3⟩
        by_cases hx : x = f + k
        · right; simp [hx]
        · left; exact ⟨h1, by omega, h3⟩
theorem rowL_top (f e k : Nat) : topL (rowL f e k) ≤ f + k := topL_le fun x hx => by have := (mem_rowL f e k x).1 hx; omega
theorem rowL_would (f e k : Nat) (h : f + k < most) : wouldL (rowL f e k) (f + k) = 0 := by
  unfold wouldL
  rw [if_neg (by omega), if_neg]
  rintro (hm | hm)
  · have := (mem_rowL f e k _).1 hm; omega
  · have := rowL_top f e k; omega
theorem rowL_next (f e k : Nat) (h : ¬ k % e = 1) : rowL f e (k + 1) = rowL f e k ++ [f + k] ∧ topL (rowL f e (k + 1)) = f + k := by
  have e1 : rowL f e (k + 1) = rowL f e k ++ [f + k] := by rw [rowL, if_neg h]
  refine ⟨e1, ?_⟩
  rw [e1, topL_snoc]
  have := rowL_top f e k
  omega
theorem rowL_skip (f e k : Nat) (h : k % e = 1) : rowL f e (k + 1) = rowL f e k := by rw [rowL, if_pos h]
theorem rowL_ne (f e n : Nat) (hn : 1 ≤ n) (he : 2 ≤ e) : rowL f e n ≠ [] := by
  have : f ∈ rowL f e n := (mem_rowL f e n f).2 ⟨by omega, by omega, by rw [Nat.sub_self, Nat.zero_mod]; omega⟩
  intro h
  rw [h] at this
  simp at this
/-- how many are missing from the top down, counted one by one -/
def missK (L : List Nat) (k : Nat) : Nat := (List.range k).countP fun i => !(decide (topL L - i ∈ L))
theorem missK_next (L : List Nat) (k : Nat) : missK L (k + 1) = missK L k + if topL L - k ∈ L then 0 else 1 := by
  unfold missK
  rw [List.range_succ, List.countP_append, List.countP_cons, List.countP_nil]
  by_cases h : topL L - k ∈ L <;> simp [h]
theorem missK_le (L : List Nat) (k : Nat) : missK L k ≤ k := by
  unfold missK
  exact Nat.le_trans List.countP_le_length (by simp)
theorem missK_all {L : List Nat} (hg : Good L) (hn : L ≠ []) : missK L (spanL L) = missL L := by
  have hcount : (List.range (spanL L)).countP (fun i => decide (topL L - i ∈ L)) = nearN L := by
    obtain ⟨_, _, hs⟩ := near_span hg hn
    unfold nearN
    rw [List.countP_eq_length_filter, List.countP_eq_length_filter]
    have hp : ((List.range (spanL L)).filter fun i => decide (topL L - i ∈ L)).Perm ((L.filter fun x => decide (topL L < x + 2048)).map (topL L - ·)) := by
      rw [List.perm_ext_iff_of_nodup]
      · intro a
        simp only [List.mem_filter, List.mem_range, List.mem_map, decide_eq_true_eq]
        constructor
        · rintro ⟨ha, hb⟩
          exact ⟨topL L - a, ⟨hb, by omega⟩, by omega⟩
        · rintro ⟨x, ⟨hx, hlt⟩, rfl⟩
          have := le_topL hx
          exact ⟨by omega, by rw [show topL L - (topL L - x) = x by omega]; exact hx⟩
      · exact List.Nodup.sublist List.filter_sublist List.nodup_range
      · unfold List.Nodup
        rw [List.pairwise_map]
        have h2 : (L.filter fun x => decide (topL L < x + 2048)).Pairwise (· ≠ ·) := List.Nodup.sublist List.filter_sublist hg.nd
        refine List.Pairwise.imp_of_mem ?_ h2
        intro a b ha hb hne hmod
        simp only [List.mem_filter, decide_eq_true_eq] at ha hb
        have h1 := le_topL ha.1
        have h3 := le_topL hb.1
        omega
    rw [hp.length_eq, List.length_map]
  have hsum := List.length_eq_countP_add_countP (fun i => decide (topL L - i ∈ L)) (l := List.range (spanL L))
  rw [List.length_range, hcount] at hsum
  unfold missK missL
  rw [if_neg hn]
  have e : (List.range (spanL L)).countP (fun i => !(decide (topL L - i ∈ L))) = (List.range (spanL L)).countP (fun a => decide ¬ (decide (topL L - a ∈ L) = true)) := by
    apply List.countP_congr
    intro i _
    simp
  rw [e]
  omega
end Go.Proofs.Ytoodjdaadkbdfaa
