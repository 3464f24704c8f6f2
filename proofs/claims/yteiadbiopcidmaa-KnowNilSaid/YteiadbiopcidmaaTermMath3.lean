/- What more is said of terms that were read: how many parts they have; that a reading is bound to its text; that what was read is written as it was. -/
import Derived.Test.YteiadbiopcidmaaTermMath2
namespace Go.Proofs.Yteiadbiopcidmaa
set_option linter.unusedVariables false
set_option linter.unusedSimpArgs false

theorem qLoop_count : ∀ (f : Nat) (sh : Shape) (acc : List (List UInt8)) (r : List UInt8) (x : List (List UInt8) × List UInt8), qLoop f sh acc r = some x → sh.least ≤ x.1.length ∧ x.1.length ≤ sh.most := by
  intro f
  induction f with
  | zero => intro sh acc r x h; cases h
  | succ f ih =>
    intro sh acc r x h
    simp only [qLoop] at h
    obtain ⟨y, hy, h⟩ := Option.bind_eq_some_iff.1 h
    split at h
    · cases h
    · split at h
      · exact ih _ _ _ _ h
      · split at h
        · rename_i hc
          cases h; simpa using hc
        · cases h

theorem qIn_count {f : Nat} {sh : Shape} {r : List UInt8} {x : Nat × List (List UInt8) × List UInt8} (h : qIn (qLoop f) sh r = some x) : sh.least ≤ x.2.1.length ∧ x.2.1.length ≤ sh.most := by
  unfold qIn at h
  obtain ⟨r1, h1, h⟩ := Option.bind_eq_some_iff.1 h
  obtain ⟨r2, h2, h⟩ := Option.bind_eq_some_iff.1 h
  obtain ⟨r3, h3, h⟩ := Option.bind_eq_some_iff.1 h
  obtain ⟨r4, h4, h⟩ := Option.bind_eq_some_iff.1 h
  obtain ⟨r5, h5, h⟩ := Option.bind_eq_some_iff.1 h
  cases h
  unfold qList at h4
  split at h4
  · rename_i hc
    cases h4; simp [hc.1]
  · have := qLoop_count _ _ _ _ r4 h4
    exact this

theorem qTerm_count {f : Nat} {l : List UInt8} {x : Nat × Nat × List (List UInt8) × List UInt8} (h : qTermS (qLoop f) l = some x) : ∃ sh, shapeOf x.1 = some sh ∧ sh.least ≤ x.2.2.1.length ∧ x.2.2.1.length ≤ sh.most := by
  cases l with
  | nil => cases h
  | cons c r =>
    simp only [qTermS] at h
    obtain ⟨sh, hs, h⟩ := Option.bind_eq_some_iff.1 h
    split at h
    · obtain ⟨y, hy, e⟩ := Option.bind_eq_some_iff.1 h
      cases e; exact ⟨sh, hs, qIn_count hy⟩
    · rename_i hm
      obtain ⟨y, hy, e⟩ := Option.bind_eq_some_iff.1 h
      cases e
      refine ⟨sh, hs, ?_⟩
      have : sh.least = 0 ∨ 0 < sh.most := by
        rcases shape_cases hs with e | e | e | e | e | e | e | e | e | e | e
        all_goals (rw [e] at hs; simp only [shapeOf, Option.some.injEq] at hs; subst hs; simp)
      rcases this with h | h
      · simp [h]
      · exact absurd h hm

theorem qLook_some {t : List UInt8} {k n : Nat} {ps : List (List UInt8)} : qLook t = some (k, n, ps) ↔ t.length ≤ 65536 ∧ qTermS (qLoop t.length) t = some (k, n, ps, []) := by
  unfold qLook
  constructor
  · intro h
    split at h
    · rename_i hl
      refine ⟨hl, ?_⟩
      obtain ⟨⟨k', n', ps', rest⟩, hx, h⟩ := Option.bind_eq_some_iff.1 h
      split at h
      · rename_i hr
        simp only at hr
        subst hr
        cases h
        exact hx
      · cases h
    · cases h
  · rintro ⟨hl, hx⟩
    rw [if_pos hl, hx]
    rfl

theorem look_count {t : List UInt8} {k n : Nat} {ps : List (List UInt8)} (h : qLook t = some (k, n, ps)) : ∃ sh, shapeOf k = some sh ∧ sh.least ≤ ps.length ∧ ps.length ≤ sh.most :=
  qTerm_count (qLook_some.1 h).2
end Go.Proofs.Yteiadbiopcidmaa
