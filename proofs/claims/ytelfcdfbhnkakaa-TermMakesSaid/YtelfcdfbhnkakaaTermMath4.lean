import Derived.Test.YtelfcdfbhnkakaaTerm17
namespace Go.Proofs.Ytelfcdfbhnkakaa
set_option linter.unusedVariables false
set_option linter.unusedSimpArgs false

theorem join_cons2 (x : List UInt8) (l : List (List UInt8)) (h : l ≠ []) : Lib.join (x :: l) [44] = x ++ 44 :: Lib.join l [44] := by
  cases l with
  | nil => exact absurd rfl h
  | cons y l => rw [Lib.join_cons, Lib.join_cons]; simp [Lib.joinTail]
theorem part_app {r rest : List UInt8} (h : rest <:+ r) : r = partOf r rest ++ rest := by
  obtain ⟨x, rfl⟩ := h
  unfold partOf
  simp
theorem head_tail {r : List UInt8} {c : UInt8} (h : r.head? = some c) : r = c :: r.tail := by
  cases r with
  | nil => cases h
  | cons x r => simp at h; rw [h]; rfl
theorem loop_text : ∀ (f k : Nat) (acc : List (List UInt8)) (r : List UInt8) (ps : List (List UInt8)) (rest : List UInt8), pLoop f k acc r = some (ps, rest) →
    ∃ qs, ps = acc ++ qs ∧ qs ≠ [] ∧ r = Lib.join qs [44] ++ 41 :: rest := by
  intro f
  induction f with
  | zero => intro k acc r ps rest h; cases h
  | succ f ih =>
    intro k acc r ps rest h
    simp only [pLoop] at h
    obtain ⟨y, hy, h⟩ := Option.bind_eq_some_iff.1 h
    have hs := (pTerm_suf hy).1
    have hr := part_app hs
    split at h
    · rename_i h41
      split at h
      · cases h
        refine ⟨[partOf r y.2.2.2.2], rfl, by simp, ?_⟩
        rw [Lib.join_one, ← head_tail h41]; exact hr
      · cases h
    · split at h
      · rename_i h44
        obtain ⟨qs, e1, e2, e3⟩ := ih _ _ _ _ _ h
        refine ⟨partOf r y.2.2.2.2 :: qs, by rw [e1]; simp, by simp, ?_⟩
        rw [join_cons2 _ _ e2, List.append_assoc, List.cons_append, ← e3, ← head_tail h44]; exact hr
      · cases h
theorem sign_kind (c : UInt8) (h : kindOf c ≠ 0) : signOf (kindOf c) = c := by
  unfold kindOf at h ⊢
  repeat' split at h
  all_goals first
    | (exact absurd rfl h)
    | (simp_all [signOf])
theorem num_text {low high : Nat} {r r2 : List UInt8} {n : Nat} (h : pNum low high r = some (n, r2)) : r = decs n ++ r2 ∧ n ≤ top := by
  unfold pNum at h
  split at h
  · rename_i hin
    cases h
    unfold numIn at hin
    rw [decide_eq_true_eq] at hin
    obtain ⟨u, h1, h2, h3⟩ := decs_rd _ hin.1
    rw [h1]
    refine ⟨?_, by simpa using h2⟩
    simp only [Int.toNat_natCast]
    rw [h3, List.takeWhile_append_dropWhile]
  · cases h
theorem term_text {f : Nat} {t : List UInt8} {k n : Nat} {b : List UInt8} {ps : List (List UInt8)} {rest : List UInt8} (h : pTermS (pLoop f) t = some (k, n, b, ps, rest)) : t = wText k n b ps ++ rest ∧ n ≤ top := by
  cases t with
  | nil => cases h
  | cons c r =>
    simp only [pTermS] at h
    obtain ⟨sh, hsh, h⟩ := Option.bind_eq_some_iff.1 h
    have hk0 : kindOf c ≠ 0 := fun e => by rw [e] at hsh; cases hsh
    have hsg := sign_kind c hk0
    split at h
    · rename_i h4
      obtain ⟨y, hy, h⟩ := Option.bind_eq_some_iff.1 h
      obtain ⟨n', b', r'⟩ := y
      cases h
      unfold wText
      rw [hsg, if_neg (by omega)]
      unfold pLeaf at hy
      split at hy
      · rename_i h1
        cases hy
        rw [h1]
        simp [joined, itemsOf, numb, Lib.join_nil, top]
      · split at hy
        · rename_i h1 h4
          split at hy
          · rename_i hc
            cases hy
            have := hexOf_hx _ hc
            rw [h4]
            simp only [joined, itemsOf, numb]
            simp [Lib.join_one, this, top]
          · cases hy
        · rename_i h1 h4'
          obtain ⟨z, hz, hy⟩ := Option.bind_eq_some_iff.1 hy
          obtain ⟨n2, r2⟩ := z
          cases hy
          have hn := num_text hz
          have hnb : numb (kindOf c) = true := by
            have : kindOf c = 2 ∨ kindOf c = 3 := by omega
            rcases this with e | e <;> rw [e] <;> rfl
          refine ⟨?_, hn.2⟩
          simp only [joined, itemsOf, hnb, if_true]
          simp only [List.append_nil, Lib.join_one, List.cons_append]
          rw [← hn.1]
    · rename_i h4
      obtain ⟨r1, hr1, h⟩ := Option.bind_eq_some_iff.1 h
      rw [pass_some] at hr1
      obtain ⟨x, hx, h⟩ := Option.bind_eq_some_iff.1 h
      obtain ⟨n', r3⟩ := x
      unfold pHead at hx
      split at hx
      · rename_i h810
        obtain ⟨z, hz, hx⟩ := Option.bind_eq_some_iff.1 hx
        obtain ⟨n2, r2⟩ := z
        obtain ⟨r4, hr4, hx⟩ := Option.bind_eq_some_iff.1 hx
        rw [pass_some] at hr4
        cases hx
        have hn := num_text hz
        rw [if_neg (by omega)] at h
        obtain ⟨y, hy, h⟩ := Option.bind_eq_some_iff.1 h
        obtain ⟨ps', rest'⟩ := y
        cases h
        obtain ⟨qs, e1, e2, e3⟩ := loop_text _ _ _ _ _ _ hy
        rw [List.nil_append] at e1
        subst e1
        have hnb : numb (kindOf c) = true := by rcases h810 with e | e <;> rw [e] <;> rfl
        refine ⟨?_, hn.2⟩
        unfold wText
        rw [hsg, if_pos (by omega)]
        simp only [joined, itemsOf, hnb, if_true]
        rw [List.singleton_append, join_cons2 _ _ e2, hr1, hn.1]
        simp only at hr4 e3
        rw [hr4]
        rw [e3]
        simp
      · rename_i h810
        cases hx
        have hnb : numb (kindOf c) = false := by
          unfold numb
          have : (kindOf c == 2) = false := by simp; omega
          have h3 : (kindOf c == 3) = false := by simp; omega
          have h8 : (kindOf c == 8) = false := by simp; omega
          have h10 : (kindOf c == 10) = false := by simp; omega
          rw [this, h3, h8, h10]; rfl
        have hit : itemsOf (kindOf c) 0 [] = [] := by
          unfold itemsOf; rw [hnb]; simp; omega
        refine ⟨?_, by (split at h <;> first | (cases h; exact Nat.zero_le _) | (obtain ⟨y, hy, h⟩ := Option.bind_eq_some_iff.1 h; cases h; exact Nat.zero_le _))⟩
        split at h
        · rename_i h11
          cases h
          unfold wText
          rw [hsg, if_pos (by omega)]
          simp only [joined, hit]
          rw [hr1]
          have := head_tail h11.2
          simp only at this
          simp only [List.append_nil, Lib.join_nil, List.nil_append, List.cons_append]
          rw [← this]
        · obtain ⟨y, hy, h⟩ := Option.bind_eq_some_iff.1 h
          obtain ⟨ps', rest'⟩ := y
          cases h
          obtain ⟨qs, e1, e2, e3⟩ := loop_text _ _ _ _ _ _ hy
          rw [List.nil_append] at e1
          subst e1
          unfold wText
          rw [hsg, if_pos (by omega)]
          simp only [joined, hit]
          rw [hr1]
          simp only at e3
          rw [e3]
          simp
theorem term_parts6 {f : Nat} {t : List UInt8} {k n : Nat} {b : List UInt8} {ps : List (List UInt8)} {rest : List UInt8} (h : pTermS (pLoop f) t = some (k, n, b, ps, rest)) (h6 : k = 6) : okParts k ps = true := by
  cases t with
  | nil => cases h
  | cons c r =>
    simp only [pTermS] at h
    obtain ⟨sh, hsh, h⟩ := Option.bind_eq_some_iff.1 h
    split at h
    · obtain ⟨y, hy, h⟩ := Option.bind_eq_some_iff.1 h
      cases h
      omega
    · obtain ⟨r1, hr1, h⟩ := Option.bind_eq_some_iff.1 h
      obtain ⟨x, hx, h⟩ := Option.bind_eq_some_iff.1 h
      split at h
      · cases h
        omega
      · obtain ⟨y, hy, h⟩ := Option.bind_eq_some_iff.1 h
        have := (pLoop_ok _ _ _ _ _ hy).1
        cases h
        exact this
/-- what is read is written -/
theorem read_text {t : List UInt8} {k n : Nat} {ps : List (List UInt8)} (h : lookR t = (k, n, ps)) (h0 : k ≠ 0) : t.length ≤ 65536 ∧ t = wText k n (bytesIn k t) ps ∧ n ≤ top := by
  have hq := lookR_some h h0
  have hp := look_eq t
  rw [hq] at hp
  simp only [Option.map_some] at hp
  unfold pLook at hp
  split at hp
  · rename_i hl
    obtain ⟨x, hx, hp⟩ := Option.bind_eq_some_iff.1 hp
    obtain ⟨k', n', b', ps', rest⟩ := x
    split at hp
    · rename_i hr
      simp only at hr
      subst hr
      simp only [Option.some.injEq, Prod.mk.injEq] at hp
      obtain ⟨e1, e2, e3, e4⟩ := hp
      have := term_text hx
      rw [List.append_nil, e1, e2, e3, e4] at this
      exact ⟨hl, this⟩
    · cases hp
  · cases hp
theorem total_tail (l : List (List UInt8)) : total l ≤ (Lib.joinTail [44] l).length := by
  induction l with
  | nil => simp [total]
  | cons y l ih => simp [total, Lib.joinTail] at ih ⊢; omega
theorem total_join (l : List (List UInt8)) : total l ≤ (Lib.join l [44]).length + 1 := by
  cases l with
  | nil => simp [total]
  | cons x l =>
    rw [Lib.join_cons]
    have := total_tail l
    have e : total (x :: l) = x.length + total l + 1 := by simp [total]; omega
    rw [e, List.length_append]
    omega
theorem text_total (k n : Nat) (b : List UInt8) (ps : List (List UInt8)) : total ps ≤ (wText k n b ps).length := by
  have h := total_join (itemsOf k n b ++ ps)
  have h2 : total ps ≤ total (itemsOf k n b ++ ps) := by simp [total]; omega
  unfold wText joined
  split <;> simp <;> omega
/-- bytes: two digits each -/
theorem text_bytes (n : Nat) (b : List UInt8) (ps : List (List UInt8)) : 2 * b.length ≤ (wText 4 n b ps).length := by
  have h := total_join (itemsOf 4 n b ++ ps)
  have h2 : 2 * b.length + 1 ≤ total (itemsOf 4 n b ++ ps) := by
    have : itemsOf 4 n b = [hexOf b] := rfl
    rw [this]; simp [total, hexOf_length]; omega
  unfold wText joined
  split <;> simp <;> omega
theorem sort_read {t : List UInt8} {k n : Nat} {ps : List (List UInt8)} (h : lookR t = (k, n, ps)) (h0 : k ≠ 0) : sortL k ps = ps := by
  have hq := lookR_some h h0
  have hp := look_eq t
  rw [hq] at hp
  simp only [Option.map_some] at hp
  unfold sortL
  by_cases h6 : k = 6 ∧ ps.length = 2 ∧ leL (ps.getD 0 []) (ps.getD 1 []) = false
  · exfalso
    unfold pLook at hp
    split at hp
    · obtain ⟨x, hx, hp⟩ := Option.bind_eq_some_iff.1 hp
      obtain ⟨k', n', b', ps', rest⟩ := x
      split at hp
      · simp only [Option.some.injEq, Prod.mk.injEq] at hp
        obtain ⟨e1, e2, e3, e4⟩ := hp
        subst e1; subst e4
        have := term_parts6 hx h6.1
        rw [okParts, h6.1] at this
        rw [h6.2.2] at this
        simp at this
      · cases hp
    · cases hp
  · rw [if_neg h6]
/-- made of what was read: the same text -/
theorem make_read {t : List UInt8} {k n : Nat} {ps : List (List UInt8)} (h : lookR t = (k, n, ps)) (h0 : k ≠ 0) : makeK k n (bytesIn k t) ps = t := by
  obtain ⟨hl, ht, hn⟩ := read_text h h0
  have hs := sort_read h h0
  unfold makeK
  rw [hs, ← ht, h]
  have h1 := text_total k n (bytesIn k t) ps
  rw [← ht] at h1
  rw [if_neg, if_pos ⟨rfl, rfl⟩]
  rintro (⟨e, hb⟩ | hb)
  · subst e
    have h2 := text_bytes n (bytesIn 4 t) ps
    rw [← ht] at h2
    omega
  · omega
end Go.Proofs.Ytelfcdfbhnkakaa
