/- Texts of this seat, merged: TermMath5, Wire10, Wire11, Wire12. -/
import Derived.Test.YtjbmcjppaadkgaaGP5
import Derived.Laws.EntriesVeiled
namespace Go.Proofs.Ytjbmcjppaadkgaa
set_option linter.unusedVariables false
set_option linter.unusedSimpArgs false

theorem stop_take {rest : List UInt8} (h : Stop rest) : rest.takeWhile isWord = [] ∧ rest.dropWhile isWord = rest := by
  rcases h with rfl | h | h
  · exact ⟨rfl, rfl⟩
  all_goals
    cases rest with
    | nil => cases h
    | cons c r =>
      simp at h; subst h
      exact ⟨List.takeWhile_cons_of_neg (by decide), List.dropWhile_cons_of_neg (by decide)⟩
theorem word_app {l rest : List UInt8} (h : Stop rest) : (l ++ rest).takeWhile isWord = l.takeWhile isWord ∧ (l ++ rest).dropWhile isWord = l.dropWhile isWord ++ rest := by
  induction l with
  | nil => simpa using stop_take h
  | cons c l ih =>
    by_cases hc : isWord c = true
    · rw [List.cons_append, List.takeWhile_cons_of_pos hc, List.dropWhile_cons_of_pos hc, List.takeWhile_cons_of_pos hc, List.dropWhile_cons_of_pos hc, ih.1]
      exact ⟨rfl, ih.2⟩
    · rw [List.cons_append, List.takeWhile_cons_of_neg hc, List.dropWhile_cons_of_neg hc, List.takeWhile_cons_of_neg hc, List.dropWhile_cons_of_neg hc]
      exact ⟨rfl, rfl⟩
theorem pNum_app {lo hi : Nat} {l rest : List UInt8} {x : Nat × List UInt8} (h : Stop rest) (hp : pNum lo hi l = some x) : pNum lo hi (l ++ rest) = some (x.1, x.2 ++ rest) := by
  unfold pNum at hp ⊢
  rw [(word_app h).1, (word_app h).2]
  split at hp
  · rename_i hi; cases hp; rw [if_pos hi]
  · cases hp
theorem pass_app {c : UInt8} {l r rest : List UInt8} (h : pass c l = some r) : pass c (l ++ rest) = some (r ++ rest) := by
  rw [pass_some] at h ⊢; rw [h]; rfl
theorem pLeaf_app {k : Nat} {sh : Shape} {l rest : List UInt8} {x : Nat × List UInt8 × List UInt8} (h : Stop rest) (hp : pLeaf k sh l = some x) : pLeaf k sh (l ++ rest) = some (x.1, x.2.1, x.2.2 ++ rest) := by
  unfold pLeaf at hp ⊢
  split at hp
  · rename_i h1; cases hp; rw [if_pos h1]
  · rename_i h1
    rw [if_neg h1]
    split at hp
    · rename_i h4
      rw [if_pos h4, (word_app h).1, (word_app h).2]
      split at hp
      · rename_i hc; cases hp; rw [if_pos hc]
      · cases hp
    · rename_i h4
      rw [if_neg h4]
      obtain ⟨y, hy, e⟩ := Option.bind_eq_some_iff.1 hp
      cases e
      rw [pNum_app h hy]; rfl
theorem pHead_app {k : Nat} {sh : Shape} {l rest : List UInt8} {x : Nat × List UInt8} (h : Stop rest) (hp : pHead k sh l = some x) : pHead k sh (l ++ rest) = some (x.1, x.2 ++ rest) := by
  unfold pHead at hp ⊢
  split at hp
  · rename_i h1
    rw [if_pos h1]
    obtain ⟨y, hy, hp⟩ := Option.bind_eq_some_iff.1 hp
    obtain ⟨r3, h3, e⟩ := Option.bind_eq_some_iff.1 hp
    cases e
    rw [pNum_app h hy]
    show ((pass 44 (y.2 ++ rest)).bind _) = _
    rw [pass_app h3]; rfl
  · rename_i h1; cases hp; rw [if_neg h1]
theorem head_app {l rest : List UInt8} (h : l ≠ []) : (l ++ rest).head? = l.head? := by
  cases l with
  | nil => exact absurd rfl h
  | cons c l => rfl
theorem tail_app {l rest : List UInt8} (h : l ≠ []) : (l ++ rest).tail = l.tail ++ rest := by
  cases l with
  | nil => exact absurd rfl h
  | cons c l => rfl
theorem pTermS_app {L L' : Nat → LoopT} {rest : List UInt8} (hs : Stop rest) (hL : ∀ k acc r x, L k acc r = some x → L' k acc (r ++ rest) = some (x.1, x.2 ++ rest)) (hn : ∀ k acc, L k acc [] = none)
    {l : List UInt8} {x : Nat × Nat × List UInt8 × List (List UInt8) × List UInt8} (h : pTermS L l = some x) : pTermS L' (l ++ rest) = some (x.1, x.2.1, x.2.2.1, x.2.2.2.1, x.2.2.2.2 ++ rest) := by
  cases l with
  | nil => cases h
  | cons c r =>
    rw [List.cons_append]
    simp only [pTermS] at h ⊢
    obtain ⟨sh, hsh, h⟩ := Option.bind_eq_some_iff.1 h
    rw [hsh]
    show (if kindOf c ≤ 4 then _ else _) = _
    split at h
    · rename_i h4
      rw [if_pos h4]
      obtain ⟨y, hy, e⟩ := Option.bind_eq_some_iff.1 h
      cases e
      rw [pLeaf_app hs hy]; rfl
    · rename_i h4
      rw [if_neg h4]
      obtain ⟨r1, h1, h⟩ := Option.bind_eq_some_iff.1 h
      obtain ⟨y, hy, h⟩ := Option.bind_eq_some_iff.1 h
      rw [pass_app h1]
      show ((pHead (kindOf c) sh (r1 ++ rest)).bind _) = _
      rw [pHead_app hs hy]
      show (if kindOf c = 11 ∧ (y.2 ++ rest).head? = some 41 then _ else _) = _
      split at h
      · rename_i hd
        have hne : y.2 ≠ [] := fun e => by rw [e] at hd; cases hd.2
        rw [head_app hne, if_pos hd]
        cases h
        show some (_, _, _, _, (y.2 ++ rest).tail) = _
        rw [tail_app hne]
      · rename_i hd
        obtain ⟨z, hz, e⟩ := Option.bind_eq_some_iff.1 h
        have hne : y.2 ≠ [] := fun e => by rw [e, hn] at hz; cases hz
        rw [head_app hne, if_neg hd]
        cases e
        show ((L' (kindOf c) [] (y.2 ++ rest)).bind _) = _
        rw [hL _ _ _ _ hz]; rfl
theorem pLoop_nil (f k : Nat) (acc : List (List UInt8)) : pLoop f k acc [] = none := by cases f <;> rfl
theorem partOf_app {r x rest : List UInt8} (h : x.length ≤ r.length) : partOf (r ++ rest) (x ++ rest) = partOf r x := by
  unfold partOf
  rw [List.length_append, List.length_append, Nat.add_sub_add_right, List.take_append_of_le_length (by omega)]
theorem pLoop_app {rest : List UInt8} (hs : Stop rest) : ∀ (f f' k : Nat) (acc : List (List UInt8)) (r : List UInt8) (x : List (List UInt8) × List UInt8), f ≤ f' → pLoop f k acc r = some x → pLoop f' k acc (r ++ rest) = some (x.1, x.2 ++ rest) := by
  intro f
  induction f with
  | zero => intro f' k acc r x _ h; cases h
  | succ f ih =>
    intro f' k acc r x hf h
    obtain ⟨g, rfl⟩ : ∃ g, f' = g + 1 := ⟨f' - 1, by omega⟩
    simp only [pLoop] at h ⊢
    obtain ⟨y, hy, h⟩ := Option.bind_eq_some_iff.1 h
    have hl := (pTerm_suf hy).2
    rw [pTermS_app hs (fun k acc r x => ih g k acc r x (by omega)) (pLoop_nil f) hy]
    obtain ⟨k1, n1, b1, ps1, y⟩ := y
    simp only at h hl
    show (if (y ++ rest).head? = some 41 then (if okParts k (acc ++ [partOf (r ++ rest) (y ++ rest)]) = true then some (acc ++ [partOf (r ++ rest) (y ++ rest)], (y ++ rest).tail) else none) else (if (y ++ rest).head? = some 44 then pLoop g k (acc ++ [partOf (r ++ rest) (y ++ rest)]) (y ++ rest).tail else none)) = _
    rw [partOf_app (by omega)]
    split at h
    · rename_i h41
      have hne : y ≠ [] := fun e => by rw [e] at h41; cases h41
      rw [head_app hne, if_pos h41]
      split at h
      · rename_i hok; cases h; rw [if_pos hok, tail_app hne]
      · cases h
    · rename_i h41
      split at h
      · rename_i h44
        have hne : y ≠ [] := fun e => by rw [e] at h44; cases h44
        rw [head_app hne, if_neg h41, if_pos h44, tail_app hne]
        exact ih g _ _ _ _ (by omega) h
      · cases h
/-- read alone, read there -/
theorem pTerm_app {f f' : Nat} {l rest : List UInt8} (hs : Stop rest) (hf : f ≤ f') {x : Nat × Nat × List UInt8 × List (List UInt8) × List UInt8} (h : pTermS (pLoop f) l = some x) :
    pTermS (pLoop f') (l ++ rest) = some (x.1, x.2.1, x.2.2.1, x.2.2.2.1, x.2.2.2.2 ++ rest) :=
  pTermS_app hs (fun k acc r x => pLoop_app hs f f' k acc r x hf) (pLoop_nil f) h

/-! fuel -/
theorem pTermS_fuel {L L' : Nat → LoopT} {l : List UInt8} {x : Nat × Nat × List UInt8 × List (List UInt8) × List UInt8} (hL : ∀ k acc r x, r.length < l.length → L k acc r = some x → L' k acc r = some x) (h : pTermS L l = some x) : pTermS L' l = some x := by
  cases l with
  | nil => cases h
  | cons c r =>
    simp only [pTermS] at h ⊢
    obtain ⟨sh, hsh, h⟩ := Option.bind_eq_some_iff.1 h
    rw [hsh]
    show (if kindOf c ≤ 4 then _ else _) = _
    split at h
    · rename_i h4
      rw [if_pos h4]; exact h
    · rename_i h4
      rw [if_neg h4]
      obtain ⟨r1, h1, h⟩ := Option.bind_eq_some_iff.1 h
      obtain ⟨y, hy, h⟩ := Option.bind_eq_some_iff.1 h
      rw [h1]
      show ((pHead (kindOf c) sh r1).bind _) = _
      rw [hy]
      show (if kindOf c = 11 ∧ y.2.head? = some 41 then _ else _) = _
      have hl : y.2.length < (c :: r).length := by
        have a := (pass_suf' h1).length_le
        have b : y.2 <:+ r1 := by
          unfold pHead at hy
          split at hy
          · obtain ⟨z, hz, hy⟩ := Option.bind_eq_some_iff.1 hy
            obtain ⟨r3, h3, e⟩ := Option.bind_eq_some_iff.1 hy
            cases e
            exact (pass_suf' h3).trans (pNum_suf hz)
          · cases hy; exact List.suffix_refl _
        have := b.length_le
        simp; omega
      split at h
      · rename_i hd; rw [if_pos hd]; exact h
      · rename_i hd
        rw [if_neg hd]
        obtain ⟨z, hz, e⟩ := Option.bind_eq_some_iff.1 h
        rw [hL _ _ _ _ hl hz]; exact e
theorem pLoop_fuel : ∀ (f k : Nat) (acc : List (List UInt8)) (r : List UInt8) (x : List (List UInt8) × List UInt8), pLoop f k acc r = some x → ∀ g, r.length ≤ g → pLoop g k acc r = some x := by
  intro f
  induction f with
  | zero => intro k acc r x h; cases h
  | succ f ih =>
    intro k acc r x h g hg
    simp only [pLoop] at h
    obtain ⟨y, hy, h⟩ := Option.bind_eq_some_iff.1 h
    have hl := (pTerm_suf hy).2
    obtain ⟨g, rfl⟩ : ∃ g', g = g' + 1 := ⟨g - 1, by omega⟩
    simp only [pLoop]
    rw [pTermS_fuel (L' := pLoop g) (fun k acc r' x hr hx => ih k acc r' x hx g (by omega)) hy]
    show (if y.2.2.2.2.head? = some 41 then _ else _) = _
    split at h
    · rename_i h41; rw [if_pos h41]; exact h
    · rename_i h41
      rw [if_neg h41]
      split at h
      · rename_i h44
        rw [if_pos h44]
        exact ih _ _ _ _ h g (by simp; omega)
      · cases h
theorem pTerm_fuel {f g : Nat} {l : List UInt8} {x : Nat × Nat × List UInt8 × List (List UInt8) × List UInt8} (h : pTermS (pLoop f) l = some x) (hg : l.length ≤ g + 1) : pTermS (pLoop g) l = some x :=
  pTermS_fuel (fun k acc r' x hr hx => pLoop_fuel f k acc r' x hx g (by omega)) h

/-! cut: what was read there is read alone -/
theorem suf_split {t s r : List UInt8} (h : t ++ s <:+ r) : ∃ t', r = t' ++ s := by
  obtain ⟨u, hu⟩ := h
  exact ⟨u ++ t, by rw [← hu, List.append_assoc]⟩
theorem pass_cut {c : UInt8} {p s t : List UInt8} (h : pass c (p ++ s) = some (t ++ s)) : pass c p = some t := by
  rw [pass_some] at h ⊢
  rw [← List.cons_append] at h
  exact List.append_cancel_right h
theorem word_cut {s t : List UInt8} : ∀ {p : List UInt8}, (p ++ s).dropWhile isWord = t ++ s → (p ++ s).takeWhile isWord = p.takeWhile isWord ∧ p.dropWhile isWord = t := by
  intro p
  induction p with
  | nil =>
    intro h
    rw [List.nil_append] at h ⊢
    have hl := congrArg List.length h
    have h2 := List.takeWhile_append_dropWhile (p := isWord) (l := s)
    have h3 := congrArg List.length h2
    rw [List.length_append] at hl h3
    have ht : t = [] := List.length_eq_zero_iff.1 (by omega)
    have h4 : s.takeWhile isWord = [] := List.length_eq_zero_iff.1 (by omega)
    exact ⟨by rw [h4]; rfl, by rw [ht]; rfl⟩
  | cons c p ih =>
    intro h
    by_cases hc : isWord c = true
    · rw [List.cons_append, List.dropWhile_cons_of_pos hc] at h
      have := ih h
      rw [List.cons_append, List.takeWhile_cons_of_pos hc, List.takeWhile_cons_of_pos hc, List.dropWhile_cons_of_pos hc, this.1]
      exact ⟨rfl, this.2⟩
    · rw [List.cons_append, List.dropWhile_cons_of_neg hc, ← List.cons_append] at h
      rw [List.cons_append, List.takeWhile_cons_of_neg hc, List.takeWhile_cons_of_neg hc, List.dropWhile_cons_of_neg hc]
      exact ⟨rfl, List.append_cancel_right h⟩
theorem pNum_cut {lo hi : Nat} {p s t : List UInt8} {n : Nat} (h : pNum lo hi (p ++ s) = some (n, t ++ s)) : pNum lo hi p = some (n, t) := by
  unfold pNum at h ⊢
  split at h
  · rename_i hi
    simp only [Option.some.injEq, Prod.mk.injEq] at h
    have := word_cut h.2
    rw [this.1] at hi h
    rw [if_pos hi, h.1, this.2]
  · cases h
theorem pLeaf_cut {k : Nat} {sh : Shape} {p s t : List UInt8} {n : Nat} {b : List UInt8} (h : pLeaf k sh (p ++ s) = some (n, b, t ++ s)) : pLeaf k sh p = some (n, b, t) := by
  unfold pLeaf at h ⊢
  split at h
  · rename_i h1
    simp only [Option.some.injEq, Prod.mk.injEq] at h
    rw [if_pos h1, List.append_cancel_right h.2.2, h.1, h.2.1]
  · rename_i h1
    rw [if_neg h1]
    split at h
    · rename_i h4
      rw [if_pos h4]
      split at h
      · rename_i hc
        simp only [Option.some.injEq, Prod.mk.injEq] at h
        have := word_cut h.2.2
        rw [this.1] at hc h
        rw [if_pos hc, h.1, h.2.1, this.2]
      · cases h
    · rename_i h4
      rw [if_neg h4]
      obtain ⟨y, hy, e⟩ := Option.bind_eq_some_iff.1 h
      obtain ⟨n', r⟩ := y
      simp only [Option.some.injEq, Prod.mk.injEq] at e
      obtain ⟨e1, e2, e3⟩ := e
      subst e1; subst e3
      rw [pNum_cut hy]
      simp [e2]
theorem pHead_suf {k : Nat} {sh : Shape} {l : List UInt8} {x : Nat × List UInt8} (hy : pHead k sh l = some x) : x.2 <:+ l := by
  unfold pHead at hy
  split at hy
  · obtain ⟨z, hz, hy⟩ := Option.bind_eq_some_iff.1 hy
    obtain ⟨r3, h3, e⟩ := Option.bind_eq_some_iff.1 hy
    cases e
    exact (pass_suf' h3).trans (pNum_suf hz)
  · cases hy; exact List.suffix_refl _
theorem pHead_cut {k : Nat} {sh : Shape} {p s t : List UInt8} {n : Nat} (h : pHead k sh (p ++ s) = some (n, t ++ s)) : pHead k sh p = some (n, t) := by
  unfold pHead at h ⊢
  split at h
  · rename_i h1
    rw [if_pos h1]
    obtain ⟨y, hy, h⟩ := Option.bind_eq_some_iff.1 h
    obtain ⟨r3, h3, e⟩ := Option.bind_eq_some_iff.1 h
    obtain ⟨n', r⟩ := y
    simp only [Option.some.injEq, Prod.mk.injEq] at e
    obtain ⟨e1, e2⟩ := e
    subst e1; subst e2
    obtain ⟨r', hr'⟩ := suf_split (pass_suf' h3)
    simp only at hr'
    subst hr'
    rw [pNum_cut hy]
    show ((pass 44 r').bind _) = _
    rw [pass_cut h3]; rfl
  · rename_i h1
    simp only [Option.some.injEq, Prod.mk.injEq] at h
    rw [if_neg h1, h.1, List.append_cancel_right h.2]
theorem pTermS_cut {L : Nat → LoopT} {s : List UInt8} (hL : ∀ k acc p t ps, L k acc (p ++ s) = some (ps, t ++ s) → L k acc p = some (ps, t)) (hsuf : ∀ k acc r x, L k acc r = some x → x.2 <:+ r) (hlt : ∀ k acc r x, L k acc r = some x → x.2.length < r.length)
    {p t : List UInt8} {k n : Nat} {b : List UInt8} {ps : List (List UInt8)} (h : pTermS L (p ++ s) = some (k, n, b, ps, t ++ s)) : pTermS L p = some (k, n, b, ps, t) := by
  have hlen := (pTermS_len hsuf h).2
  cases p with
  | nil => simp at hlen; omega
  | cons c p =>
    clear hlen
    rw [List.cons_append] at h
    simp only [pTermS] at h ⊢
    obtain ⟨sh, hsh, h⟩ := Option.bind_eq_some_iff.1 h
    rw [hsh]
    show (if kindOf c ≤ 4 then _ else _) = _
    split at h
    · rename_i h4
      rw [if_pos h4]
      obtain ⟨y, hy, e⟩ := Option.bind_eq_some_iff.1 h
      obtain ⟨n', b', r⟩ := y
      simp only [Option.some.injEq, Prod.mk.injEq] at e
      obtain ⟨e1, e2, e3, e4, e5⟩ := e
      subst e2; subst e3; subst e5
      rw [pLeaf_cut hy]
      simp [e1, e4]
    · rename_i h4
      rw [if_neg h4]
      obtain ⟨r1, h1, h⟩ := Option.bind_eq_some_iff.1 h
      obtain ⟨y, hy, h⟩ := Option.bind_eq_some_iff.1 h
      obtain ⟨n', r3⟩ := y
      have hs3 : r3 <:+ r1 := pHead_suf hy
      split at h
      · rename_i hd
        simp only [Option.some.injEq, Prod.mk.injEq] at h
        obtain ⟨e1, e2, e3, e4, e5⟩ := h
        subst e2
        have h3 := head_cons hd.2
        simp only at h3 e5
        rw [e5, ← List.cons_append] at h3
        subst h3
        obtain ⟨r1', hr1'⟩ := suf_split hs3
        subst hr1'
        rw [pass_cut h1]
        show ((pHead (kindOf c) sh r1').bind _) = _
        rw [pHead_cut hy]
        show (if kindOf c = 11 ∧ (41 :: t).head? = some 41 then _ else _) = _
        rw [if_pos ⟨hd.1, rfl⟩, e1, ← e3, ← e4]
        rfl
      · rename_i hd
        obtain ⟨z, hz, e⟩ := Option.bind_eq_some_iff.1 h
        obtain ⟨qs, r5⟩ := z
        simp only [Option.some.injEq, Prod.mk.injEq] at e
        obtain ⟨e1, e2, e3, e4, e5⟩ := e
        subst e2; subst e4; subst e5
        have hz3 := hsuf _ _ _ _ hz
        have hz4 := hlt _ _ _ _ hz
        simp only at hz3 hz4 hz
        obtain ⟨r3', hr3'⟩ := suf_split hz3
        subst hr3'
        obtain ⟨r1', hr1'⟩ := suf_split hs3
        subst hr1'
        rw [pass_cut h1]
        show ((pHead (kindOf c) sh r1').bind _) = _
        rw [pHead_cut hy]
        have hne : r3' ≠ [] := fun e => by rw [e] at hz4; simp at hz4; omega
        show (if kindOf c = 11 ∧ r3'.head? = some 41 then _ else _) = _
        simp only at hd
        rw [head_app hne] at hd
        rw [if_neg hd, hL _ _ _ _ _ hz]
        simp [e1, e3]
theorem pLoop_lt : ∀ (f k : Nat) (acc : List (List UInt8)) (r : List UInt8) (x : List (List UInt8) × List UInt8), pLoop f k acc r = some x → x.2.length < r.length := by
  intro f
  induction f with
  | zero => intro k acc r x h; cases h
  | succ f ih =>
    intro k acc r x h
    simp only [pLoop] at h
    obtain ⟨y, hy, h⟩ := Option.bind_eq_some_iff.1 h
    have hl := (pTerm_suf hy).2
    split at h
    · split at h
      · cases h; simp; omega
      · cases h
    · split at h
      · have := ih _ _ _ _ h
        simp at this; omega
      · cases h
theorem pLoop_cut {s : List UInt8} : ∀ (f k : Nat) (acc : List (List UInt8)) (p t : List UInt8) (ps : List (List UInt8)), pLoop f k acc (p ++ s) = some (ps, t ++ s) → pLoop f k acc p = some (ps, t) := by
  intro f
  induction f with
  | zero => intro k acc p t ps h; cases h
  | succ f ih =>
    intro k acc p t ps h
    simp only [pLoop] at h ⊢
    obtain ⟨y, hy, h⟩ := Option.bind_eq_some_iff.1 h
    obtain ⟨k1, n1, b1, ps1, y⟩ := y
    simp only at h
    have hly := (pTerm_suf hy).2
    simp only at hly
    split at h
    · rename_i h41
      split at h
      · rename_i hok
        simp only [Option.some.injEq, Prod.mk.injEq] at h
        obtain ⟨e1, e2⟩ := h
        have h3 := head_cons h41
        rw [e2, ← List.cons_append] at h3
        subst h3
        rw [pTermS_cut (fun k acc p t ps => ih k acc p t ps) (fun k acc r x => pLoop_suf f k acc r x) (fun k acc r x => pLoop_lt f k acc r x) hy]
        rw [partOf_app (by simp at hly ⊢; omega)] at hok e1
        show (if (41 :: t).head? = some 41 then (if okParts k (acc ++ [partOf p (41 :: t)]) = true then some (acc ++ [partOf p (41 :: t)], (41 :: t).tail) else none) else (if (41 :: t).head? = some 44 then pLoop f k (acc ++ [partOf p (41 :: t)]) (41 :: t).tail else none)) = _
        rw [if_pos (by rfl), if_pos hok, e1]
        rfl
      · cases h
    · rename_i h41
      split at h
      · rename_i h44
        have h3 := head_cons h44
        have hs := pLoop_suf _ _ _ _ _ h
        simp only at hs
        obtain ⟨y', hy'⟩ := suf_split hs
        rw [hy', ← List.cons_append] at h3
        subst h3
        rw [pTermS_cut (fun k acc p t ps => ih k acc p t ps) (fun k acc r x => pLoop_suf f k acc r x) (fun k acc r x => pLoop_lt f k acc r x) hy]
        rw [partOf_app (by simp at hly ⊢; omega)] at h
        show (if (44 :: y').head? = some 41 then (if okParts k (acc ++ [partOf p (44 :: y')]) = true then some (acc ++ [partOf p (44 :: y')], (44 :: y').tail) else none) else (if (44 :: y').head? = some 44 then pLoop f k (acc ++ [partOf p (44 :: y')]) (44 :: y').tail else none)) = _
        rw [if_neg (by simp), if_pos (by rfl)]
        exact ih _ _ _ _ _ h
      · cases h
theorem pTerm_cut {f : Nat} {p s t : List UInt8} {k n : Nat} {b : List UInt8} {ps : List (List UInt8)} (h : pTermS (pLoop f) (p ++ s) = some (k, n, b, ps, t ++ s)) : pTermS (pLoop f) p = some (k, n, b, ps, t) :=
  pTermS_cut (fun k acc p t ps => pLoop_cut f k acc p t ps) (fun k acc r x => pLoop_suf f k acc r x) (fun k acc r x => pLoop_lt f k acc r x) h

/-- this text is a term, as a whole (of whatever length) -/
def Whole (t : List UInt8) : Prop := ∃ k n b ps, pTermS (pLoop t.length) t = some (k, n, b, ps, [])
/-- the parts of a term are terms -/
theorem loop_whole : ∀ (f k : Nat) (acc : List (List UInt8)) (r : List UInt8) (x : List (List UInt8) × List UInt8), (∀ q ∈ acc, Whole q) → pLoop f k acc r = some x → ∀ q ∈ x.1, Whole q := by
  intro f
  induction f with
  | zero => intro k acc r x _ h; cases h
  | succ f ih =>
    intro k acc r x ha h
    simp only [pLoop] at h
    obtain ⟨y, hy, h⟩ := Option.bind_eq_some_iff.1 h
    obtain ⟨k1, n1, b1, ps1, y⟩ := y
    simp only at h
    have hw : Whole (partOf r y) := by
      obtain ⟨p, hp⟩ := (pTerm_suf hy).1
      simp only at hp
      subst hp
      have e : partOf (p ++ y) y = p := by unfold partOf; simp
      rw [e]
      have := pTerm_cut (t := []) (by simpa using hy)
      exact ⟨k1, n1, b1, ps1, pTerm_fuel this (Nat.le_succ _)⟩
    have ha2 : ∀ q ∈ acc ++ [partOf r y], Whole q := by
      intro q hq
      rcases List.mem_append.1 hq with hq | hq
      · exact ha q hq
      · rw [List.mem_singleton.1 hq]; exact hw
    split at h
    · split at h
      · cases h; exact ha2
      · cases h
    · split at h
      · exact ih _ _ _ _ ha2 h
      · cases h
/-- joined terms are read back -/
theorem loop_back : ∀ (qs : List (List UInt8)) (f k : Nat) (acc : List (List UInt8)) (rest : List UInt8), qs ≠ [] → (∀ q ∈ qs, Whole q) → (Lib.join qs [44] ++ 41 :: rest).length ≤ f →
    pLoop f k acc (Lib.join qs [44] ++ 41 :: rest) = if okParts k (acc ++ qs) then some (acc ++ qs, rest) else none := by
  intro qs
  induction qs with
  | nil => intro f k acc rest h; exact absurd rfl h
  | cons q qs ih =>
    intro f k acc rest _ hw hf
    obtain ⟨k1, n1, b1, ps1, hq⟩ := hw q (List.mem_cons_self ..)
    by_cases hqs : qs = []
    · subst hqs
      rw [Lib.join_one] at hf ⊢
      simp at hf
      obtain ⟨g, rfl⟩ : ∃ g, f = g + 1 := ⟨f - 1, by omega⟩
      simp only [pLoop]
      rw [pTerm_app (rest := 41 :: rest) (.inr (.inr rfl)) (show q.length ≤ g by omega) hq]
      rw [Option.bind_some]
      simp only [List.nil_append]
      have e : partOf (q ++ 41 :: rest) (41 :: rest) = q := by unfold partOf; simp
      rw [e, if_pos (by rfl)]
      rfl
    · have hj : Lib.join (q :: qs) [44] = q ++ 44 :: Lib.join qs [44] := by
        cases qs with
        | nil => exact absurd rfl hqs
        | cons y l => rw [Lib.join_cons, Lib.join_cons]; simp [Lib.joinTail]
      rw [hj, List.append_assoc, List.cons_append] at hf ⊢
      simp at hf
      obtain ⟨g, rfl⟩ : ∃ g, f = g + 1 := ⟨f - 1, by omega⟩
      simp only [pLoop]
      rw [pTerm_app (rest := 44 :: (Lib.join qs [44] ++ 41 :: rest)) (.inr (.inl rfl)) (show q.length ≤ g by omega) hq]
      rw [Option.bind_some]
      simp only [List.nil_append]
      have e : partOf (q ++ 44 :: (Lib.join qs [44] ++ 41 :: rest)) (44 :: (Lib.join qs [44] ++ 41 :: rest)) = q := by unfold partOf; simp
      rw [e, if_neg (by simp), if_pos (by rfl), List.tail_cons]
      rw [ih g k (acc ++ [q]) rest hqs (fun x hx => hw x (List.mem_cons_of_mem _ hx)) (by simp; omega)]
      simp

def isL (t : List UInt8) : Bool := decide (0 < (lookR t).1)

theorem look_p {t : List UInt8} {k n : Nat} {ps : List (List UInt8)} (h0 : k ≠ 0) : lookR t = (k, n, ps) ↔ t.length ≤ 65536 ∧ pTermS (pLoop t.length) t = some (k, n, bytesIn k t, ps, []) := by
  constructor
  · intro h
    have hq := lookR_some h h0
    have hp := look_eq t
    rw [hq] at hp
    simp only [Option.map_some] at hp
    unfold pLook at hp
    split at hp
    · rename_i hl
      refine ⟨hl, ?_⟩
      obtain ⟨x, hx, hp⟩ := Option.bind_eq_some_iff.1 hp
      obtain ⟨k', n', b', ps', rest⟩ := x
      split at hp
      · rename_i hr
        simp only at hr
        subst hr
        simp only [Option.some.injEq, Prod.mk.injEq] at hp
        obtain ⟨e1, e2, e3, e4⟩ := hp
        rw [hx, e1, e2, e3, e4]
      · cases hp
    · cases hp
  · rintro ⟨hl, hp⟩
    have he := look_eq t
    have : pLook t = some (k, n, bytesIn k t, ps) := by
      unfold pLook
      rw [if_pos hl, hp]; rfl
    rw [this] at he
    cases hq : qLook t with
    | none => rw [hq] at he; cases he
    | some x =>
      rw [hq] at he
      simp only [Option.map_some, Option.some.injEq, Prod.mk.injEq] at he
      obtain ⟨e1, e2, _, e4⟩ := he
      unfold lookR
      rw [hq]
      show x = _
      rw [e1, e2, e4]
theorem term_head {L : Nat → LoopT} {t : List UInt8} {x : Nat × Nat × List UInt8 × List (List UInt8) × List UInt8} (h : pTermS L t = some x) : ∃ c r, t = c :: r ∧ x.1 = kindOf c ∧ kindOf c ≠ 0 ∧ ∃ sh, shapeOf (kindOf c) = some sh := by
  cases t with
  | nil => cases h
  | cons c r =>
    simp only [pTermS] at h
    obtain ⟨sh, hs, h⟩ := Option.bind_eq_some_iff.1 h
    have h0 : kindOf c ≠ 0 := fun e => by rw [e] at hs; cases hs
    refine ⟨c, r, rfl, ?_, h0, sh, hs⟩
    split at h
    · obtain ⟨y, hy, e⟩ := Option.bind_eq_some_iff.1 h
      cases e; rfl
    · obtain ⟨r1, h1, h⟩ := Option.bind_eq_some_iff.1 h
      obtain ⟨y, hy, h⟩ := Option.bind_eq_some_iff.1 h
      split at h
      · cases h; rfl
      · obtain ⟨z, hz, e⟩ := Option.bind_eq_some_iff.1 h
        cases e; rfl
theorem isL_whole {t : List UInt8} : isL t = true ↔ t.length ≤ 65536 ∧ Whole t := by
  unfold isL
  rw [decide_eq_true_eq]
  constructor
  · intro h
    obtain ⟨x, hx⟩ : ∃ x, lookR t = x := ⟨_, rfl⟩
    obtain ⟨k, n, ps⟩ := x
    rw [hx] at h
    have := (look_p (by simp at h; omega)).1 hx
    exact ⟨this.1, k, n, _, ps, this.2⟩
  · rintro ⟨hl, k, n, b, ps, hp⟩
    obtain ⟨c, r, ht, hk, hk0, _⟩ := term_head hp
    simp only at hk
    subst hk
    have hb : b = bytesIn (kindOf c) t := (T1 (eqA _) hl hp).2
    rw [hb] at hp
    rw [(look_p hk0).2 ⟨hl, hp⟩]
    omega
theorem sign_back {k : Nat} (h1 : 1 ≤ k) (h2 : k ≤ 11) : kindOf (signOf k) = k := by
  rcases (show k = 1 ∨ k = 2 ∨ k = 3 ∨ k = 4 ∨ k = 5 ∨ k = 6 ∨ k = 7 ∨ k = 8 ∨ k = 9 ∨ k = 10 ∨ k = 11 by omega) with rfl | rfl | rfl | rfl | rfl | rfl | rfl | rfl | rfl | rfl | rfl <;> rfl
theorem shape_some {k : Nat} (h1 : 1 ≤ k) (h2 : k ≤ 11) : ∃ sh, shapeOf k = some sh := by
  rcases (show k = 1 ∨ k = 2 ∨ k = 3 ∨ k = 4 ∨ k = 5 ∨ k = 6 ∨ k = 7 ∨ k = 8 ∨ k = 9 ∨ k = 10 ∨ k = 11 by omega) with rfl | rfl | rfl | rfl | rfl | rfl | rfl | rfl | rfl | rfl | rfl <;> exact ⟨_, rfl⟩
/-- the kind of a text that is a term is by its first sign -/
theorem look_sign {k n : Nat} {b : List UInt8} {l : List (List UInt8)} (h1 : 1 ≤ k) (h2 : k ≤ 11) (h : isL (wText k n b l) = true) : (lookR (wText k n b l)).1 = k := by
  unfold isL at h
  rw [decide_eq_true_eq] at h
  obtain ⟨x, hx⟩ : ∃ x, lookR (wText k n b l) = x := ⟨_, rfl⟩
  obtain ⟨k', n', ps⟩ := x
  rw [hx] at h ⊢
  obtain ⟨c, r, ht, hk, _⟩ := term_head ((look_p (by simp at h; omega)).1 hx).2
  simp only at hk
  unfold wText at ht
  simp only [List.cons.injEq] at ht
  rw [hk, ← ht.1, sign_back h1 h2]
theorem leaf_parts {t : List UInt8} {k n : Nat} {ps : List (List UInt8)} (h : lookR t = (k, n, ps)) (hk : k ≤ 4) : ps = [] := by
  by_cases h0 : k = 0
  · subst h0
    unfold lookR at h
    cases hq : qLook t with
    | none => rw [hq] at h; cases h; rfl
    | some x =>
      rw [hq] at h
      obtain ⟨k', n', ps'⟩ := x
      simp only [Option.getD_some, Prod.mk.injEq] at h
      obtain ⟨sh, hs, _⟩ := look_count hq
      rw [h.1] at hs; cases hs
  · obtain ⟨sh, hs, _, h2⟩ := look_count (lookR_some h h0)
    have : sh.most = 0 := by
      rcases shape_cases hs with rfl | rfl | rfl | rfl | rfl | rfl | rfl | rfl | rfl | rfl | rfl
      all_goals (simp only [shapeOf, Option.some.injEq] at hs; subst hs)
      all_goals first | rfl | omega
    rw [this] at h2
    exact List.length_eq_zero_iff.1 (by omega)
/-- the parts of a term are terms -/
theorem parts_whole {t : List UInt8} {k n : Nat} {ps : List (List UInt8)} (h : lookR t = (k, n, ps)) (h0 : k ≠ 0) : ∀ q ∈ ps, isL q = true := by
  obtain ⟨hl, hp⟩ := (look_p h0).1 h
  have ht := read_text h h0
  have htot := text_total k n (bytesIn k t) ps
  rw [← ht.2.1] at htot
  have hw : ∀ q ∈ ps, Whole q := by
    cases t with
    | nil => cases hp
    | cons c r =>
      simp only [pTermS] at hp
      obtain ⟨sh, hs, hp⟩ := Option.bind_eq_some_iff.1 hp
      split at hp
      · obtain ⟨y, hy, e⟩ := Option.bind_eq_some_iff.1 hp
        simp only [Option.some.injEq, Prod.mk.injEq] at e
        rw [← e.2.2.2.1]; intro q hq; cases hq
      · obtain ⟨r1, h1, hp⟩ := Option.bind_eq_some_iff.1 hp
        obtain ⟨y, hy, hp⟩ := Option.bind_eq_some_iff.1 hp
        split at hp
        · simp only [Option.some.injEq, Prod.mk.injEq] at hp
          rw [← hp.2.2.2.1]; intro q hq; cases hq
        · obtain ⟨z, hz, e⟩ := Option.bind_eq_some_iff.1 hp
          simp only [Option.some.injEq, Prod.mk.injEq] at e
          rw [← e.2.2.2.1]
          exact loop_whole _ _ _ _ z (fun q hq => by cases hq) hz
  intro q hq
  refine isL_whole.2 ⟨?_, hw q hq⟩
  have : q.length ≤ (ps.map List.length).sum := by
    clear htot ht hw hp h
    induction ps with
    | nil => cases hq
    | cons x ps ih =>
      rw [List.map_cons, List.sum_cons]
      rcases List.mem_cons.1 hq with rfl | hq
      · omega
      · have := ih hq; omega
  unfold total at htot
  omega
theorem decs_word (n : Nat) (rest : List UInt8) (hs : Stop rest) : (decs n ++ rest).takeWhile isWord = decs n ∧ (decs n ++ rest).dropWhile isWord = rest := by
  have h : ∀ l : List UInt8, (∀ c ∈ l, isWord c = true) → l.takeWhile isWord = l ∧ l.dropWhile isWord = [] := by
    intro l
    induction l with
    | nil => intro _; exact ⟨rfl, rfl⟩
    | cons c l ih =>
      intro h
      have hc := h c (List.mem_cons_self ..)
      have := ih fun x hx => h x (List.mem_cons_of_mem _ hx)
      rw [List.takeWhile_cons_of_pos hc, List.dropWhile_cons_of_pos hc, this.1, this.2]
      exact ⟨rfl, rfl⟩
  have hd := h (decs n) fun c hc => dig_word c (digs_isDig (decs_digs n) c hc)
  rw [(word_app hs).1, (word_app hs).2, hd.1, hd.2]
  exact ⟨rfl, rfl⟩
theorem whole_head {q : List UInt8} (h : Whole q) : ∃ c r, q = c :: r ∧ kindOf c ≠ 0 := by
  obtain ⟨k, n, b, ps, h⟩ := h
  obtain ⟨c, r, ht, _, h0, _⟩ := term_head h
  exact ⟨c, r, ht, h0⟩
theorem join_head {l : List (List UInt8)} (hl : l ≠ []) (hw : ∀ q ∈ l, Whole q) (rest : List UInt8) : ∃ c r, Lib.join l [44] ++ rest = c :: r ∧ kindOf c ≠ 0 := by
  cases l with
  | nil => exact absurd rfl hl
  | cons q l =>
    obtain ⟨c, r, hq, h0⟩ := whole_head (hw q (List.mem_cons_self ..))
    rw [Lib.join_cons, hq]
    exact ⟨c, _, rfl, h0⟩
/-- may a number stand in such a kind -/
def numOk (k n : Nat) : Bool := decide (k = 8 → 1 ≤ n ∧ n ≤ 3)
theorem num_in {k n : Nat} {sh : Shape} (hs : shapeOf k = some sh) (hk : k = 8 ∨ k = 10) (hn : n ≤ top) : numIn sh.low sh.high (decs n) = numOk k n := by
  obtain ⟨h1, h2⟩ := rd_decs n hn
  unfold numIn numOk
  rw [h1, h2]
  unfold top at hn
  clear h1 h2
  rcases hk with rfl | rfl
  · simp only [shapeOf, Option.some.injEq] at hs; subst hs
    rw [Bool.eq_iff_iff]
    simp; omega
  · simp only [shapeOf, Option.some.injEq] at hs; subst hs
    rw [Bool.eq_iff_iff]
    simp; omega
theorem text_back {k n : Nat} {b : List UInt8} {l : List (List UInt8)} (hk : 5 ≤ k) (hk2 : k ≤ 11) (hn : n ≤ top) (hw : ∀ q ∈ l, Whole q) (hl : l ≠ []) :
    pTermS (pLoop (wText k n b l).length) (wText k n b l) = if okParts k l = true ∧ numOk k n = true then some (k, if numb k then n else 0, [], l, []) else none := by
  obtain ⟨f, hf⟩ : ∃ f, (wText k n b l).length = f := ⟨_, rfl⟩
  rw [hf]
  have hks := sign_back (show 1 ≤ k by omega) hk2
  obtain ⟨sh, hsh⟩ := shape_some (show 1 ≤ k by omega) hk2
  unfold wText at hf ⊢
  rw [if_pos hk] at hf ⊢
  simp only [pTermS]
  rw [hks, hsh, Option.bind_some, if_neg (by omega)]
  rw [show pass 40 (40 :: (joined k n b l ++ [41])) = some (joined k n b l ++ [41]) from rfl, Option.bind_some]
  by_cases h810 : k = 8 ∨ k = 10
  · have hnb : numb k = true := by rcases h810 with rfl | rfl <;> rfl
    have hj : joined k n b l ++ [41] = decs n ++ 44 :: (Lib.join l [44] ++ [41]) := by
      unfold joined itemsOf
      rw [hnb, if_pos rfl, List.singleton_append, join_cons2 _ _ hl]
      simp
    rw [hj] at hf ⊢
    have hdw := decs_word n (44 :: (Lib.join l [44] ++ [41])) (.inr (.inl rfl))
    have hpn : pNum sh.low sh.high (decs n ++ 44 :: (Lib.join l [44] ++ [41])) = if numOk k n then some (n, 44 :: (Lib.join l [44] ++ [41])) else none := by
      unfold pNum
      rw [hdw.1, hdw.2, num_in hsh h810 hn, (rd_decs n hn).1]
      rfl
    unfold pHead
    rw [if_pos h810, hpn]
    cases hno : numOk k n with
    | false => simp
    | true =>
      rw [if_pos rfl, Option.bind_some]
      rw [show pass 44 (44 :: (Lib.join l [44] ++ [41])) = some (Lib.join l [44] ++ [41]) from rfl, Option.bind_some, Option.bind_some]
      rw [if_neg (by omega)]
      rw [loop_back l f k [] [] hl hw (by simp at hf ⊢; omega)]
      rw [List.nil_append, hnb]
      by_cases hok : okParts k l = true
      · rw [if_pos hok, if_pos ⟨hok, rfl⟩]; rfl
      · rw [if_neg hok, if_neg fun h => hok h.1]; rfl
  · have hnb : numb k = false := by
      unfold numb
      have : (k == 2) = false := by simp; omega
      have h3 : (k == 3) = false := by simp; omega
      have h8 : (k == 8) = false := by simp; omega
      have h10 : (k == 10) = false := by simp; omega
      rw [this, h3, h8, h10]; rfl
    have hj : joined k n b l ++ [41] = Lib.join l [44] ++ [41] := by
      unfold joined itemsOf
      rw [hnb, if_neg (by simp), if_neg (by omega), List.nil_append]
    rw [hj] at hf ⊢
    have hno : numOk k n = true := by unfold numOk; rw [decide_eq_true_eq]; omega
    unfold pHead
    rw [if_neg h810, Option.bind_some]
    obtain ⟨c, r, hc, hc0⟩ := join_head hl hw [41]
    have h41 : ¬ (k = 11 ∧ (Lib.join l [44] ++ [41]).head? = some 41) := by
      rw [hc]; rintro ⟨_, h⟩
      simp at h; subst h; exact hc0 (by decide)
    rw [if_neg h41]
    rw [loop_back l f k [] [] hl hw (by simp at hf ⊢; omega)]
    rw [List.nil_append, hnb]
    by_cases hok : okParts k l = true
    · rw [if_pos hok, if_pos ⟨hok, hno⟩]; rfl
    · rw [if_neg hok, if_neg fun h => hok h.1]; rfl
/-- without parts -/
theorem text_none {k n : Nat} {b : List UInt8} {k' n' : Nat} {ps : List (List UInt8)} (hk : 5 ≤ k) (hk2 : k ≤ 11) (hn : n ≤ top) (h : lookR (wText k n b []) = (k', n', ps)) (h0 : k' ≠ 0) : k' = 11 ∧ ps = [] ∧ k = 11 := by
  have hp := ((look_p h0).1 h).2
  obtain ⟨f, hf⟩ : ∃ f, (wText k n b []).length = f := ⟨_, rfl⟩
  rw [hf] at hp
  clear h hf
  generalize bytesIn k' (wText k n b []) = bb at hp
  have hks := sign_back (show 1 ≤ k by omega) hk2
  obtain ⟨sh, hsh⟩ := shape_some (show 1 ≤ k by omega) hk2
  unfold wText at hp
  rw [if_pos hk] at hp
  simp only [pTermS] at hp
  rw [hks, hsh, Option.bind_some, if_neg (by omega)] at hp
  rw [show pass 40 (40 :: (joined k n b [] ++ [41])) = some (joined k n b [] ++ [41]) from rfl, Option.bind_some] at hp
  by_cases h810 : k = 8 ∨ k = 10
  · have hnb : numb k = true := by rcases h810 with rfl | rfl <;> rfl
    have hj : joined k n b [] ++ [41] = decs n ++ [41] := by
      unfold joined itemsOf
      rw [hnb, if_pos rfl, List.append_nil, Lib.join_one]
    rw [hj] at hp
    have hdw := decs_word n [41] (.inr (.inr rfl))
    unfold pHead pNum at hp
    rw [if_pos h810, hdw.1, hdw.2] at hp
    split at hp
    · rw [Option.bind_some, show pass 44 [41] = none from rfl] at hp
      cases hp
    · cases hp
  · have hnb : numb k = false := by
      unfold numb
      have : (k == 2) = false := by simp; omega
      have h3 : (k == 3) = false := by simp; omega
      have h8 : (k == 8) = false := by simp; omega
      have h10 : (k == 10) = false := by simp; omega
      rw [this, h3, h8, h10]; rfl
    have hj : joined k n b [] ++ [41] = [41] := by
      unfold joined itemsOf
      rw [hnb, if_neg (by simp), if_neg (by omega)]
      simp [Lib.join_nil]
    rw [hj] at hp
    unfold pHead at hp
    rw [if_neg h810, Option.bind_some] at hp
    split at hp
    · rename_i h11
      simp only [Option.some.injEq, Prod.mk.injEq] at hp
      exact ⟨by rw [← hp.1]; exact h11.1, hp.2.2.2.1.symm, h11.1⟩
    · obtain ⟨z, hz, e⟩ := Option.bind_eq_some_iff.1 hp
      cases f with
      | zero => cases hz
      | succ f => simp only [pLoop, pTermS] at hz; cases hz
theorem look_parts {k n : Nat} {b : List UInt8} {l : List (List UInt8)} (hk : 5 ≤ k) (hk2 : k ≤ 11) (hn : n ≤ top) (hw : ∀ q ∈ l, Whole q) {k' n' : Nat} {ps : List (List UInt8)} (h : lookR (wText k n b l) = (k', n', ps)) (h0 : k' ≠ 0) :
    k' = k ∧ ps = l ∧ (l ≠ [] → n' = if numb k then n else 0) := by
  by_cases hl : l = []
  · subst hl
    have := text_none hk hk2 hn h h0
    exact ⟨by omega, this.2.1, fun h => absurd rfl h⟩
  · have hp := ((look_p h0).1 h).2
    rw [text_back hk hk2 hn hw hl] at hp
    split at hp
    · simp only [Option.some.injEq, Prod.mk.injEq] at hp
      exact ⟨hp.1.symm, hp.2.2.2.1.symm, fun _ => hp.2.1.symm⟩
    · cases hp
theorem text_look {k n : Nat} {b : List UInt8} {l : List (List UInt8)} (hk : 5 ≤ k) (hk2 : k ≤ 11) (hn : n ≤ top) (hw : ∀ q ∈ l, Whole q) (hl : l ≠ []) (hok : okParts k l = true) (hno : numOk k n = true) (hlen : (wText k n b l).length ≤ 65536) :
    lookR (wText k n b l) = (k, (if numb k then n else 0), l) := by
  have hb := text_back (b := b) hk hk2 hn hw hl
  rw [if_pos ⟨hok, hno⟩] at hb
  refine (look_p (by omega)).2 ⟨hlen, ?_⟩
  have hbb : bytesIn k (wText k n b l) = [] := if_neg (by omega)
  rw [hb, hbb]

/-- the reference's words -/
def refK (k n : Nat) (b : List UInt8) (l : List (List UInt8)) : List UInt8 :=
  if k ≤ 4 then (if l = [] ∧ isL (wText k n b []) = true then wText k n b [] else [])
  else (if (sortL k l).all isL = true ∧ isL (wText k n b (sortL k l)) = true then wText k n b (sortL k l) else [])
theorem sort_total (k : Nat) (l : List (List UInt8)) : total (sortL k l) = total l := by
  unfold sortL
  split
  · rename_i h
    match l, h.2.1 with
    | [x, y], _ => simp [total]; omega
  · rfl
theorem make_ref (k n : Nat) (b : List UInt8) (l : List (List UInt8)) (h1 : 1 ≤ k) (h2 : k ≤ 11) (hn : n ≤ top) : makeK k n b l = refK k n b l := by
  unfold makeK refK
  by_cases h4 : k ≤ 4
  · have hs : sortL k l = l := by unfold sortL; rw [if_neg (by omega)]
    rw [hs, if_pos h4]
    by_cases hl : l = []
    · subst hl
      by_cases hL : isL (wText k n b []) = true
      · have hk := look_sign h1 h2 hL
        have hps := leaf_parts (t := wText k n b []) (k := (lookR (wText k n b [])).1) (n := (lookR (wText k n b [])).2.1) (ps := (lookR (wText k n b [])).2.2) rfl (by omega)
        have hlen := (isL_whole.1 hL).1
        rw [if_neg, if_pos ⟨hk, hps⟩, if_pos ⟨rfl, hL⟩]
        rintro (⟨e, hb⟩ | hb)
        · subst e
          have := text_bytes n b []
          omega
        · exact hb (by simp [total])
      · rw [if_neg (c := [] = [] ∧ _) fun h => hL h.2]
        split
        · rfl
        · rw [if_neg]
          rintro ⟨hk, _⟩
          apply hL
          unfold isL
          rw [decide_eq_true_eq]; omega
    · rw [if_neg (c := l = [] ∧ _) fun h => hl h.1]
      split
      · rfl
      · rw [if_neg]
        rintro ⟨hk, hps⟩
        have := leaf_parts (t := wText k n b l) (k := (lookR (wText k n b l)).1) (n := (lookR (wText k n b l)).2.1) (ps := (lookR (wText k n b l)).2.2) rfl (by omega)
        rw [hps] at this
        exact hl this
  · rw [if_neg h4]
    obtain ⟨l', hl'⟩ : ∃ l', sortL k l = l' := ⟨_, rfl⟩
    have htot := sort_total k l
    rw [hl'] at htot ⊢
    by_cases hall : l'.all isL = true ∧ isL (wText k n b l') = true
    · rw [if_pos hall]
      have hlen := (isL_whole.1 hall.2).1
      have ht := text_total k n b l'
      rw [if_neg (by omega)]
      have hL := hall.2
      unfold isL at hL
      rw [decide_eq_true_eq] at hL
      have := look_parts (k' := (lookR (wText k n b l')).1) (n' := (lookR (wText k n b l')).2.1) (ps := (lookR (wText k n b l')).2.2) (show 5 ≤ k by omega) h2 hn (fun q hq => (isL_whole.1 (List.all_eq_true.1 hall.1 q hq)).2) rfl (by omega)
      rw [if_pos ⟨this.1, this.2.1⟩]
    · rw [if_neg hall]
      split
      · rfl
      · rw [if_neg]
        rintro ⟨hk, hps⟩
        apply hall
        refine ⟨?_, by unfold isL; rw [decide_eq_true_eq]; omega⟩
        rw [List.all_eq_true]
        have := parts_whole (t := wText k n b l') (k := (lookR (wText k n b l')).1) (n := (lookR (wText k n b l')).2.1) (ps := (lookR (wText k n b l')).2.2) rfl (by omega)
        rw [hps] at this
        exact this
/-- what is made has the kind and the parts of which it was made -/
theorem make_has {k n : Nat} {b : List UInt8} {l : List (List UInt8)} (h : makeK k n b l ≠ []) : (lookR (makeK k n b l)).1 = k ∧ (lookR (makeK k n b l)).2.2 = sortL k l := by
  unfold makeK at h ⊢
  split
  · rename_i hc; rw [if_pos hc] at h; exact absurd rfl h
  · rename_i hc
    rw [if_neg hc] at h
    split
    · rename_i h2; exact h2
    · rename_i h2; rw [if_neg h2] at h; exact absurd rfl h

theorem less_total : ∀ (a b : List UInt8), Op.bytesLess a b = false → (a == b) = false → Op.bytesLess b a = true := by
  intro a
  induction a with
  | nil =>
    intro b h1 h2
    cases b with
    | nil => simp at h2
    | cons y b => simp [Op.bytesLess] at h1
  | cons x a ih =>
    intro b h1 h2
    cases b with
    | nil => rfl
    | cons y b =>
      simp only [Op.bytesLess, Bool.or_eq_false_iff, Bool.and_eq_false_iff, decide_eq_false_iff_not] at h1
      simp only [Op.bytesLess, Bool.or_eq_true, Bool.and_eq_true, decide_eq_true_eq]
      by_cases hxy : x = y
      · subst hxy
        right
        refine ⟨by simp, ih b ?_ ?_⟩
        · rcases h1.2 with h | h
          · simp at h
          · exact h
        · simpa using h2
      · left
        have h3 := h1.1
        rw [UInt8.lt_iff_toNat_lt] at h3 ⊢
        have h4 : x.toNat ≠ y.toNat := fun e => hxy (UInt8.toNat_inj.1 e)
        omega
theorem less_asymm : ∀ (a b : List UInt8), Op.bytesLess a b = true → Op.bytesLess b a = false := by
  intro a
  induction a with
  | nil =>
    intro b h
    cases b with
    | nil => rfl
    | cons y b => rfl
  | cons x a ih =>
    intro b h
    cases b with
    | nil => simp [Op.bytesLess] at h
    | cons y b =>
      simp only [Op.bytesLess, Bool.or_eq_true, Bool.and_eq_true, decide_eq_true_eq] at h
      simp only [Op.bytesLess, Bool.or_eq_false_iff, Bool.and_eq_false_iff, decide_eq_false_iff_not]
      rcases h with h | h
      · rw [UInt8.lt_iff_toNat_lt] at h
        refine ⟨by rw [UInt8.lt_iff_toNat_lt]; omega, .inl ?_⟩
        simp; intro e; subst e; omega
      · have e : x = y := by simpa using h.1
        subst e
        exact ⟨by rw [UInt8.lt_iff_toNat_lt]; omega, .inr (ih b h.2)⟩
theorem leL_total {a b : List UInt8} (h : leL a b = false) : leL b a = true := by
  unfold leL at h ⊢
  rw [Bool.or_eq_false_iff] at h
  rw [less_total a b h.1 h.2]; rfl
theorem leL_antisymm {a b : List UInt8} (h : leL a b = true) (h2 : leL b a = true) : a = b := by
  unfold leL at h h2
  rw [Bool.or_eq_true] at h h2
  rcases h with h | h
  · rw [less_asymm a b h] at h2
    rcases h2 with h2 | h2
    · cases h2
    · exact (eq_of_beq h2).symm
  · exact eq_of_beq h
theorem sort2 (x y : List UInt8) : sortL 6 [x, y] = if leL x y = true then [x, y] else [y, x] := by
  unfold sortL
  cases h : leL x y <;> simp [h]
theorem sort_comm (x y : List UInt8) : sortL 6 [x, y] = sortL 6 [y, x] := by
  rw [sort2, sort2]
  cases h : leL x y with
  | true =>
    cases h2 : leL y x with
    | true => rw [leL_antisymm h h2]
    | false => rfl
  | false => rw [leL_total h]; rfl
theorem sort_inj {x y z : List UInt8} (h : sortL 6 [x, z] = sortL 6 [x, y]) : z = y := by
  rw [sort2, sort2] at h
  split at h <;> split at h <;> simp at h <;> simp_all
theorem text_len5 (y : List UInt8) : (wText 5 0 [] [y]).length = y.length + 3 := by
  unfold wText joined itemsOf
  simp [numb, Lib.join_one]
theorem text_len6 (x y : List UInt8) : (wText 6 0 [] [x, y]).length = x.length + y.length + 4 := by
  unfold wText joined itemsOf
  simp [numb, Lib.join_cons, Lib.joinTail]
  omega
theorem pub_yes {y : List UInt8} (hL : isL y = true) (hl : y.length ≤ 2000) : makeR 5 0 [] [y] = wText 5 0 [] [y] ∧ wText 5 0 [] [y] ≠ [] ∧ lookR (wText 5 0 [] [y]) = (5, 0, [y]) ∧ (wText 5 0 [] [y]).length ≤ 3000 := by
  have hlen : (wText 5 0 [] [y]).length ≤ 3000 := by
    rw [text_len5]; omega
  have hk := text_look (k := 5) (n := 0) (b := []) (l := [y]) (by omega) (by omega) (Nat.zero_le _) (fun q hq => by rw [List.mem_singleton.1 hq]; exact (isL_whole.1 hL).2) (by simp) (by rfl) (by rfl) (by omega)
  have hT : isL (wText 5 0 [] [y]) = true := by unfold isL; rw [hk]; rfl
  refine ⟨?_, by simp [wText], by rw [hk]; rfl, hlen⟩
  unfold makeR
  rw [if_pos (by omega), show (5 : Int).toNat = 5 from rfl, make_ref 5 0 [] [y] (by omega) (by omega) (Nat.zero_le _)]
  unfold refK
  rw [if_neg (by omega), show sortL 5 [y] = [y] from rfl, if_pos ⟨by simp [hL], hT⟩]
theorem pub_no {y : List UInt8} (hL : isL y = false) : makeR 5 0 [] [y] = [] := by
  unfold makeR
  rw [if_pos (by omega), show (5 : Int).toNat = 5 from rfl, make_ref 5 0 [] [y] (by omega) (by omega) (Nat.zero_le _)]
  unfold refK
  rw [if_neg (by omega), show sortL 5 [y] = [y] from rfl, if_neg (by simp [hL])]
theorem dh_no {x y : List UInt8} (hL : isL x = false ∨ isL y = false) : makeR 6 0 [] [x, y] = [] := by
  unfold makeR
  rw [if_pos (by omega), show (6 : Int).toNat = 6 from rfl, make_ref 6 0 [] [x, y] (by omega) (by omega) (Nat.zero_le _)]
  unfold refK
  rw [if_neg (by omega), if_neg]
  rintro ⟨h, _⟩
  rw [sort2] at h
  split at h <;> (simp at h; rcases hL with hL | hL <;> (rw [hL] at h; simp at h))
theorem dh_yes {x y : List UInt8} (hx : isL x = true) (hy : isL y = true) (hlx : x.length ≤ 2000) (hly : y.length ≤ 2000) : makeR 6 0 [] [x, y] = wText 6 0 [] (sortL 6 [x, y]) ∧ wText 6 0 [] (sortL 6 [x, y]) ≠ [] ∧ lookR (wText 6 0 [] (sortL 6 [x, y])) = (6, 0, sortL 6 [x, y]) ∧ (wText 6 0 [] (sortL 6 [x, y])).length ≤ 5000 := by
  have hlen : (wText 6 0 [] (sortL 6 [x, y])).length ≤ 5000 := by
    rw [sort2]
    split <;> rw [text_len6] <;> omega
  have hall : ∀ q ∈ sortL 6 [x, y], isL q = true := by
    intro q hq
    rw [sort2] at hq
    split at hq <;> simp at hq <;> rcases hq with rfl | rfl <;> assumption
  have hok : okParts 6 (sortL 6 [x, y]) = true := by
    rw [sort2]
    cases h : leL x y with
    | true => simp [okParts, right, h]
    | false => simp [okParts, right, leL_total h]
  have hk := text_look (k := 6) (n := 0) (b := []) (l := sortL 6 [x, y]) (by omega) (by omega) (Nat.zero_le _) (fun q hq => (isL_whole.1 (hall q hq)).2) (by rw [sort2]; split <;> simp) hok (by rfl) (by omega)
  have hT : isL (wText 6 0 [] (sortL 6 [x, y])) = true := by unfold isL; rw [hk]; rfl
  refine ⟨?_, by simp [wText], by rw [hk]; rfl, hlen⟩
  unfold makeR
  rw [if_pos (by omega), show (6 : Int).toNat = 6 from rfl, make_ref 6 0 [] [x, y] (by omega) (by omega) (Nat.zero_le _)]
  unfold refK
  rw [if_neg (by omega), if_pos ⟨List.all_eq_true.2 hall, hT⟩]
/-- a Seal that was made -/
theorem seal_look {n : Nat} {key u v : List UInt8} (hn : n ≤ top) (h : makeR 10 n [] [key, u, v] ≠ []) : lookR (makeR 10 n [] [key, u, v]) = (10, n, [key, u, v]) := by
  have hR : makeR 10 n [] [key, u, v] = makeK 10 n [] [key, u, v] := by unfold makeR; rw [if_pos (by omega)]; rfl
  rw [hR] at h ⊢
  have hf := make_ref 10 n [] [key, u, v] (by omega) (by omega) hn
  have hs : sortL 10 [key, u, v] = [key, u, v] := rfl
  rw [hf] at h ⊢
  unfold refK at h ⊢
  rw [if_neg (by omega), hs] at h ⊢
  split at h
  · rename_i hc
    rw [if_pos hc]
    have hL := hc.2
    unfold isL at hL
    rw [decide_eq_true_eq] at hL
    obtain ⟨x, hx⟩ : ∃ x, lookR (wText 10 n [] [key, u, v]) = x := ⟨_, rfl⟩
    obtain ⟨k', n', ps⟩ := x
    rw [hx] at hL ⊢
    have := look_parts (show 5 ≤ 10 by omega) (by omega) hn (fun q hq => (isL_whole.1 (List.all_eq_true.1 hc.1 q hq)).2) hx (by simp at hL; omega)
    obtain ⟨e1, e2, e3⟩ := this
    have e4 := e3 (by simp)
    rw [e1, e2, e4]; rfl
  · exact absurd rfl h
end Go.Proofs.Ytjbmcjppaadkgaa

namespace Go.Proofs.Ytjbmcjppaadkgaa
set_option linter.unusedVariables false
set_option linter.unusedSimpArgs false
set_option maxRecDepth 100000
open Go.RowKit
def upd {α : Type} (f : Nat → α) (c : Nat) (v : α) : Nat → α := fun i => if i = c then v else f i
def msgC (k : Int) (N : Nat → Nat) (X : Nat → ByteArray) : Array Value := #[.int .i64 k, .int .u32 (N 1 : Nat), .int .u32 (N 2 : Nat), .int .u64 (N 3 : Nat), .string (X 4), .string (X 5), .string (X 6), .string (X 7), .string (X 8), .string (X 9), .string (X 10), .string (X 11), .string (X 12)]
def MsgAt (w : World) (B : Nat) (k : Int) (N : Nat → Nat) (X : Nat → ByteArray) : Prop := w.heap[B]? = some (.cells (msgC k N X) 25 (0, 0))
theorem msg_set32 {w : World} {B c u : Nat} {k : Int} {N : Nat → Nat} {X : Nat → ByteArray} (h : MsgAt w B k N X) (hc : c = 1 ∨ c = 2) : MsgAt (w.setCell ⟨B, c, none⟩ (.int .u32 (u : Nat))) B k (upd N c u) X := by
  unfold MsgAt at h ⊢
  rw [set_block h]
  rcases hc with rfl | rfl <;> simp [msgC, upd]
theorem msg_set64 {w : World} {B c u : Nat} {k : Int} {N : Nat → Nat} {X : Nat → ByteArray} (h : MsgAt w B k N X) (hc : c = 3) : MsgAt (w.setCell ⟨B, c, none⟩ (.int .u64 (u : Nat))) B k (upd N c u) X := by
  unfold MsgAt at h ⊢
  rw [set_block h]
  subst hc
  simp [msgC, upd]
theorem msg_setx {w : World} {B c : Nat} {s : ByteArray} {k : Int} {N : Nat → Nat} {X : Nat → ByteArray} (h : MsgAt w B k N X) (h1 : 4 ≤ c) (h2 : c ≤ 12) : MsgAt (w.setCell ⟨B, c, none⟩ (.string s)) B k N (upd X c s) := by
  unfold MsgAt at h ⊢
  rw [set_block h]
  have : c = 4 ∨ c = 5 ∨ c = 6 ∨ c = 7 ∨ c = 8 ∨ c = 9 ∨ c = 10 ∨ c = 11 ∨ c = 12 := by omega
  rcases this with rfl | rfl | rfl | rfl | rfl | rfl | rfl | rfl | rfl <;> simp [msgC, upd]
theorem msg_c32 {w : World} {B c : Nat} {k : Int} {N : Nat → Nat} {X : Nat → ByteArray} (h : MsgAt w B k N X) (hc : c = 1 ∨ c = 2) : w.cell? ⟨B, c, none⟩ = some (.int .u32 (N c : Nat)) := by
  rcases hc with rfl | rfl <;> exact cell_of h _ rfl
theorem msg_c64 {w : World} {B c : Nat} {k : Int} {N : Nat → Nat} {X : Nat → ByteArray} (h : MsgAt w B k N X) (hc : c = 3) : w.cell? ⟨B, c, none⟩ = some (.int .u64 (N c : Nat)) := by
  subst hc
  exact cell_of h _ rfl
theorem msg_cx {w : World} {B c : Nat} {k : Int} {N : Nat → Nat} {X : Nat → ByteArray} (h : MsgAt w B k N X) (h1 : 4 ≤ c) (h2 : c ≤ 12) : w.cell? ⟨B, c, none⟩ = some (.string (X c)) := by
  have : c = 4 ∨ c = 5 ∨ c = 6 ∨ c = 7 ∨ c = 8 ∨ c = 9 ∨ c = 10 ∨ c = 11 ∨ c = 12 := by omega
  rcases this with rfl | rfl | rfl | rfl | rfl | rfl | rfl | rfl | rfl <;> exact cell_of h _ rfl
theorem msg_below {w w' : World} {B : Nat} {k : Int} {N : Nat → Nat} {X : Nat → ByteArray} (h : MsgAt w B k N X) (hb : Below w.heap.size w w') : MsgAt w' B k N X := by
  unfold MsgAt at h ⊢
  rw [hb.block B (Array.getElem?_eq_some_iff.1 h).1]
  exact h
theorem grown_of_below {w w' : World} {row : Option Nat} (h : Below w.heap.size w w') : w.grownBy w' row := ⟨h.os, h.tape, h.output, h.size, fun k hk _ => h.block k hk⟩
theorem grown_tr {a b c : World} {row : Option Nat} (h : a.grownBy b row) (h2 : b.grownBy c row) : a.grownBy c row :=
  ⟨h2.os.trans h.os, h2.tape.trans h.tape, h2.output.trans h.output, Nat.le_trans h.size h2.size, fun k hk hn => (h2.block k (Nat.lt_of_lt_of_le hk h.size) hn).trans (h.block k hk hn)⟩
theorem grown_setB (w : World) (B c : Nat) (v : Value) : w.grownBy (w.setCell ⟨B, c, none⟩ v) (some B) :=
  ⟨rfl, rfl, rfl, by simp [World.setCell], fun k _ hk => Below.heap_setCell w ⟨B, c, none⟩ v k (fun e => hk (by rw [e]))⟩
theorem grown_cell {w w' : World} {B b i : Nat} {v : Value} (h : w.grownBy w' (some B)) (hb : b ≠ B) (hc : w.cell? ⟨b, i, none⟩ = some v) : w'.cell? ⟨b, i, none⟩ = some v :=
  (World.cell?_of_block (h.block b (World.block_lt_of_cell? w _ hc) (fun e => hb (by cases e; rfl)))).trans hc
theorem grown_part {w w' : World} {B b : Nat} {v : Value} {l : List UInt8} (h : w.grownBy w' (some B)) (hb : b ≠ B) (hp : PartB w b v l) : PartB w' b v l := by
  obtain ⟨off, cp, rfl, h1, h2, h3⟩ := hp
  exact ⟨off, cp, rfl, h1, h2, fun i hi => grown_cell h hb (h3 i hi)⟩
/-- what a field's reader does to the message -/
def RdRet (w : World) (b B : Nat) (k : Int) (r : Nat × List UInt8 × (Nat → Nat) × (Nat → ByteArray)) (e : Ending) (w' : World) : Prop :=
  ∃ v, e = .returned (.tuple #[v, .int .i64 r.1]) ∧ (r.1 = 0 → PartB w' b v r.2.1) ∧ MsgAt w' B k r.2.2.1 r.2.2.2 ∧ w.grownBy w' (some B)
def rdNum (n c : Nat) (l : List UInt8) (N : Nat → Nat) (X : Nat → ByteArray) : Nat × List UInt8 × (Nat → Nat) × (Nat → ByteArray) :=
  if l.length < n then (4, [], N, X) else (0, l.drop n, upd N c (valB (l.take n)), X)
set_option maxHeartbeats 1000000 in
theorem r4_any (b : Nat) (v : Value) (l : List UInt8) (bp bs B c : Nat) (k : Int) (N : Nat → Nat) (X : Nat → ByteArray) (w : World) (hv : PartB w b v l) (hl : l.length ≤ 10000000) (hbB : b ≠ B) (hsB : bs ≠ B) (hm : MsgAt w B k N X) (hc : c = 1 ∨ c = 2)
    (cp : w.cell? ⟨bp, 0, none⟩ = some (.pointer (some ⟨B, c, none⟩))) (cs : w.cell? ⟨bs, 0, none⟩ = some (.int .i64 4)) :
    Calls Try.prog 45 #[v, .pointer (some ⟨bs, 0, none⟩), .pointer (some ⟨bp, 0, none⟩)] w (RdRet w b B k (rdNum 4 c l N X)) := by
  have hpart := hv
  obtain ⟨off, cq, rfl, hc1, hc2, hcell⟩ := hv
  have hcpi : (cq : Int) ≤ 9223372036854775807 := by unfold maxLen at hc2; omega
  by_cases h4 : l.length < 4
  · have HZ : Hid (rdNum 4 c l N X = (4, [], N, X)) := Lib.hid (by unfold rdNum; rw [if_pos h4])
    have h4i : (l.length : Int) < 4 := by omega
    clear hcell hpart
    go_enter Try.func45, Try.ntmps45
    go_wp2_with fail
    go_ret2
    rw [HZ.out]
    exact ⟨_, rfl, fun h => absurd h (by simp), hm, grown_of_below (Below.refl _ _)⟩
  · have h4i : ¬ (l.length : Int) < 4 := by omega
    have hq4 : (4 : Int) ≤ cq := by omega
    have hlow := low_any _ _ w.drew ((part_take (c := cq) hcell 4 (by omega)).below (Below.refl _ _).drew) (by rw [List.length_take]; omega)
    have hvlt := valB_lt (l.take 4)
    rw [List.length_take, Nat.min_eq_left (by omega)] at hvlt
    have HZ : Hid (rdNum 4 c l N X = (0, l.drop 4, upd N c (valB (l.take 4)), X)) := Lib.hid (by unfold rdNum; rw [if_neg h4])
    generalize valB (l.take 4) = x at *
    have hwx : IntKind.u32.wrap (x : Int) = x := by rw [IntKind.wrap_u32]; omega
    have HLOW := Lib.hid (hlow.mono fun e w' h => (⟨h.1, h.2.symm⟩ : e = .returned (.int .u64 (x : Nat)) ∧ w' = w.drew))
    have ym : w.drew.cell? ⟨B, c, none⟩ = some (.int .u32 (N c : Nat)) := msg_c32 hm hc
    have yf : w.drew.frozen? ⟨B, c, none⟩ = false := free_of hm c
    have ys : ((w.drew.setCell ⟨B, c, none⟩ (.int .u32 (x : Nat)))).cell? ⟨bs, 0, none⟩ = some (.int .i64 4) := grown_cell (grown_setB w.drew B c _) hsB cs
    have HM : Hid (MsgAt ((w.drew.setCell ⟨B, c, none⟩ (.int .u32 (x : Nat)))) B k (upd N c x) X) := Lib.hid (msg_set32 (w := w.drew) hm hc)
    have HG : Hid (w.grownBy ((w.drew.setCell ⟨B, c, none⟩ (.int .u32 (x : Nat)))) (some B)) := Lib.hid (grown_tr (grown_of_below (Below.refl _ _).drew) (grown_setB w.drew B c _))
    have HP : Hid (PartB ((w.drew.setCell ⟨B, c, none⟩ (.int .u32 (x : Nat)))) b (.slice (some ⟨b, off, none⟩) l.length cq) l) := Lib.hid (grown_part HG.out hbB hpart)
    clear hcell hpart hlow hm
    by_cases hcp : cq = 4
    · subst hcp
      have hl4 : l.length = 4 := by omega
      go_enter Try.func45, Try.ntmps45
      go_wp2_with fail
      go_still_tail 7, (by kernel_rfl)
      still_call (HLOW.out)
      repeat still_step
      try refine wpStill_nil ?_
      change wpList _ _ _ _ _ w.drew
      go_wp2
      go_ret2
      rw [HZ.out]
      exact ⟨_, rfl, fun _ => part_end hl4 (by decide), HM.out, HG.out⟩
    · go_enter Try.func45, Try.ntmps45
      go_wp2_with fail
      go_still_tail 7, (by kernel_rfl)
      still_call (HLOW.out)
      repeat still_step
      try refine wpStill_nil ?_
      change wpList _ _ _ _ _ w.drew
      go_wp2
      go_ret2
      rw [HZ.out]
      obtain ⟨off', cp', he, h1, h2, h3⟩ := HP.out
      cases he
      exact ⟨_, rfl, fun _ => part_drop h1 h2 h3 4 (by omega) (by first | rfl | omega) (by first | rfl | omega), HM.out, HG.out⟩
set_option maxHeartbeats 1000000 in
theorem r8_any (b : Nat) (v : Value) (l : List UInt8) (bp bs B c : Nat) (k : Int) (N : Nat → Nat) (X : Nat → ByteArray) (w : World) (hv : PartB w b v l) (hl : l.length ≤ 10000000) (hbB : b ≠ B) (hsB : bs ≠ B) (hm : MsgAt w B k N X) (hc : c = 3)
    (cp : w.cell? ⟨bp, 0, none⟩ = some (.pointer (some ⟨B, c, none⟩))) (cs : w.cell? ⟨bs, 0, none⟩ = some (.int .i64 8)) :
    Calls Try.prog 52 #[v, .pointer (some ⟨bs, 0, none⟩), .pointer (some ⟨bp, 0, none⟩)] w (RdRet w b B k (rdNum 8 c l N X)) := by
  have hpart := hv
  have HC := Lib.hid hc
  clear hc
  obtain ⟨off, cq, rfl, hc1, hc2, hcell⟩ := hv
  have hcpi : (cq : Int) ≤ 9223372036854775807 := by unfold maxLen at hc2; omega
  by_cases h4 : l.length < 8
  · have HZ : Hid (rdNum 8 c l N X = (4, [], N, X)) := Lib.hid (by unfold rdNum; rw [if_pos h4])
    have h4i : (l.length : Int) < 8 := by omega
    clear hcell hpart
    go_enter Try.func52, Try.ntmps52
    go_wp2_with fail
    go_ret2
    rw [HZ.out]
    exact ⟨_, rfl, fun h => absurd h (by simp), hm, grown_of_below (Below.refl _ _)⟩
  · have h4i : ¬ (l.length : Int) < 8 := by omega
    have hq4 : (8 : Int) ≤ cq := by omega
    have hlow := low_any _ _ w.drew ((part_take (c := cq) hcell 8 (by omega)).below (Below.refl _ _).drew) (by rw [List.length_take]; omega)
    have hvlt := valB_lt (l.take 8)
    rw [List.length_take, Nat.min_eq_left (by omega)] at hvlt
    have HZ : Hid (rdNum 8 c l N X = (0, l.drop 8, upd N c (valB (l.take 8)), X)) := Lib.hid (by unfold rdNum; rw [if_neg h4])
    generalize valB (l.take 8) = x at *
    have HLOW := Lib.hid (hlow.mono fun e w' h => (⟨h.1, h.2.symm⟩ : e = .returned (.int .u64 (x : Nat)) ∧ w' = w.drew))
    have ym : w.drew.cell? ⟨B, c, none⟩ = some (.int .u64 (N c : Nat)) := msg_c64 hm HC.out
    have yf : w.drew.frozen? ⟨B, c, none⟩ = false := free_of hm c
    have ys : ((w.drew.setCell ⟨B, c, none⟩ (.int .u64 (x : Nat)))).cell? ⟨bs, 0, none⟩ = some (.int .i64 8) := grown_cell (grown_setB w.drew B c _) hsB cs
    have HM : Hid (MsgAt ((w.drew.setCell ⟨B, c, none⟩ (.int .u64 (x : Nat)))) B k (upd N c x) X) := Lib.hid (msg_set64 (w := w.drew) hm HC.out)
    have HG : Hid (w.grownBy ((w.drew.setCell ⟨B, c, none⟩ (.int .u64 (x : Nat)))) (some B)) := Lib.hid (grown_tr (grown_of_below (Below.refl _ _).drew) (grown_setB w.drew B c _))
    have HP : Hid (PartB ((w.drew.setCell ⟨B, c, none⟩ (.int .u64 (x : Nat)))) b (.slice (some ⟨b, off, none⟩) l.length cq) l) := Lib.hid (grown_part HG.out hbB hpart)
    clear hcell hpart hlow hm
    by_cases hcp : cq = 8
    · subst hcp
      have hl4 : l.length = 8 := by omega
      go_enter Try.func52, Try.ntmps52
      go_wp2_with fail
      go_still_tail 6, (by kernel_rfl)
      still_call (HLOW.out)
      repeat still_step
      try refine wpStill_nil ?_
      change wpList _ _ _ _ _ w.drew
      go_wp2
      go_ret2
      rw [HZ.out]
      exact ⟨_, rfl, fun _ => part_end hl4 (by decide), HM.out, HG.out⟩
    · go_enter Try.func52, Try.ntmps52
      go_wp2_with fail
      go_still_tail 6, (by kernel_rfl)
      still_call (HLOW.out)
      repeat still_step
      try refine wpStill_nil ?_
      change wpList _ _ _ _ _ w.drew
      go_wp2
      go_ret2
      rw [HZ.out]
      obtain ⟨off', cp', he, h1, h2, h3⟩ := HP.out
      cases he
      exact ⟨_, rfl, fun _ => part_drop h1 h2 h3 8 (by omega) (by first | rfl | omega) (by first | rfl | omega), HM.out, HG.out⟩
def rdTxt (c : Nat) (l : List UInt8) (N : Nat → Nat) (X : Nat → ByteArray) : Nat × List UInt8 × (Nat → Nat) × (Nat → ByteArray) :=
  if (cutTxt l).1 = 0 ∧ isL (cutTxt l).2.1 = false then (3, [], N, X) else ((cutTxt l).1, (cutTxt l).2.2, N, upd X c (strB (cutTxt l).2.1))
theorem cut_codes (l : List UInt8) : cutTxt l = (4, [], []) ∨ ∃ t r, cutTxt l = (0, t, r) ∧ t.length ≤ l.length ∧ r.length ≤ l.length := by
  unfold cutTxt
  split
  · exact .inl rfl
  split
  · exact .inl rfl
  · refine .inr ⟨_, _, rfl, ?_, ?_⟩
    · unfold bsub; simp; omega
    · simp
set_option maxHeartbeats 1000000 in
theorem rt_any (b : Nat) (v : Value) (l : List UInt8) (bt B c : Nat) (k : Int) (N : Nat → Nat) (X : Nat → ByteArray) (w : World) (hv : PartB w b v l) (hl : l.length ≤ 10000000) (hbB : b ≠ B) (hm : MsgAt w B k N X) (h1 : 4 ≤ c) (h2 : c ≤ 12)
    (cp : w.cell? ⟨bt, 0, none⟩ = some (.pointer (some ⟨B, c, none⟩))) :
    Calls Try.prog 48 #[v, .pointer (some ⟨bt, 0, none⟩)] w (RdRet w b B k (rdTxt c l N X)) := by
  have HCUT := cut_any b v l w hv hl
  have HM := Lib.hid hm
  clear hm hv
  rcases cut_codes l with hc | ⟨t, r, hc, htl, hrl⟩
  · have HZ : Hid (rdTxt c l N X = (4, [], N, upd X c ⟨#[]⟩)) := Lib.hid (by unfold rdTxt; rw [hc]; rfl)
    rw [hc] at HCUT
    unfold CutTRet at HCUT
    dsimp only at HCUT
    rw [show strB [] = (⟨#[]⟩ : ByteArray) from rfl] at HCUT
    have HCUT := Lib.hid HCUT
    clear hc
    go_enter Try.func48, Try.ntmps48
    go_wp2_with (first | (go_at_call 49; ((with_reducible refine (HCUT.out).mono ?_); rintro e w2 ⟨v2, rfl, hp2, hb2⟩; (try dsimp only); have q0 := (hb2.cell (p := ⟨bt, 0, none⟩) (World.block_lt_of_cell? w _ cp)).trans cp; have HP2 := Lib.hid hp2; have HB2 := Lib.hid hb2; have HM2 := Lib.hid (msg_below HM.out hb2); have x2 := msg_cx HM2.out h1 h2; have f2 : w2.frozen? ⟨B, c, none⟩ = false := free_of HM2.out c; clear hp2 hb2)) | fail)
    go_ret2
    rw [HZ.out]
    exact ⟨_, rfl, fun h => absurd h (by simp), msg_setx HM2.out h1 h2, grown_tr (grown_of_below HB2.out) (grown_setB _ _ _ _)⟩
  · rw [hc] at HCUT
    unfold CutTRet at HCUT
    dsimp only at HCUT
    have HCUT := Lib.hid HCUT
    have hkd := fun w => kind_any (strB t) (by rw [strB_size]; unfold maxLen; omega) w
    rw [show (strB t).data.toList = t from by simp [strB]] at hkd
    cases hL : isL t with
    | false =>
      have HZ : Hid (rdTxt c l N X = (3, [], N, X)) := Lib.hid (by unfold rdTxt; rw [hc]; exact if_pos ⟨rfl, hL⟩)
      have hk0 : (lookR t).1 = 0 := by unfold isL at hL; have := of_decide_eq_false hL; omega
      rw [hk0] at hkd
      have HKD := Lib.hid (show ∀ w, Calls Try.prog 50 #[.string (strB t)] w fun e w' => e = .returned (.int .i64 0) ∧ Below w.heap.size w w' from hkd)
      clear hc hkd hL hk0
      go_enter Try.func48, Try.ntmps48
      go_wp2_with (first | (go_at_call 49; ((with_reducible refine (HCUT.out).mono ?_); rintro e w2 ⟨v2, rfl, hp2, hb2⟩; (try dsimp only); have q0 := (hb2.cell (p := ⟨bt, 0, none⟩) (World.block_lt_of_cell? w _ cp)).trans cp; have HP2 := Lib.hid hp2; have HB2 := Lib.hid hb2; have HM2 := Lib.hid (msg_below HM.out hb2); have x2 := msg_cx HM2.out h1 h2; have f2 : w2.frozen? ⟨B, c, none⟩ = false := free_of HM2.out c; clear hp2 hb2)) | (go_at_call 50; ((with_reducible refine (HKD.out w2).mono ?_); rintro e w3 ⟨rfl, hb3⟩; (try dsimp only); have q1 := (hb3.cell (p := ⟨bt, 0, none⟩) (World.block_lt_of_cell? w2 _ q0)).trans q0; have HB3 := Lib.hid hb3; have HM3 := Lib.hid (msg_below HM2.out hb3); have x3 := msg_cx HM3.out h1 h2; have f3 : w3.frozen? ⟨B, c, none⟩ = false := free_of HM3.out c; clear hb3)) | fail)
      go_ret2
      rw [HZ.out]
      exact ⟨_, rfl, fun h => absurd h (by simp), HM3.out, grown_of_below (Below.next HB2.out HB3.out)⟩
    | true =>
      have HZ : Hid (rdTxt c l N X = (0, r, N, upd X c (strB t))) := Lib.hid (by unfold rdTxt; rw [hc]; exact if_neg (fun h => by rw [hL] at h; exact absurd h.2 (by decide)))
      have hk0 : 0 < (lookR t).1 := by unfold isL at hL; exact of_decide_eq_true hL
      generalize (lookR t).1 = kk at *
      have HKD := Lib.hid hkd
      have hkn : ¬ (kk : Int) = 0 := by omega
      clear hc hkd hL hk0
      go_enter Try.func48, Try.ntmps48
      go_wp2_with (first | (go_at_call 49; ((with_reducible refine (HCUT.out).mono ?_); rintro e w2 ⟨v2, rfl, hp2, hb2⟩; (try dsimp only); have q0 := (hb2.cell (p := ⟨bt, 0, none⟩) (World.block_lt_of_cell? w _ cp)).trans cp; have HP2 := Lib.hid hp2; have HB2 := Lib.hid hb2; have HM2 := Lib.hid (msg_below HM.out hb2); have x2 := msg_cx HM2.out h1 h2; have f2 : w2.frozen? ⟨B, c, none⟩ = false := free_of HM2.out c; clear hp2 hb2)) | (go_at_call 50; ((with_reducible refine (HKD.out w2).mono ?_); rintro e w3 ⟨rfl, hb3⟩; (try dsimp only); have q1 := (hb3.cell (p := ⟨bt, 0, none⟩) (World.block_lt_of_cell? w2 _ q0)).trans q0; have HB3 := Lib.hid hb3; have HM3 := Lib.hid (msg_below HM2.out hb3); have x3 := msg_cx HM3.out h1 h2; have f3 : w3.frozen? ⟨B, c, none⟩ = false := free_of HM3.out c; clear hb3)) | fail)
      go_ret2
      rw [HZ.out]
      exact ⟨_, rfl, fun _ => grown_part (grown_setB w3 B c _) hbB ((HP2.out trivial).below HB3.out), msg_setx HM3.out h1 h2, grown_tr (grown_of_below (Below.next HB2.out HB3.out)) (grown_setB _ _ _ _)⟩
end Go.Proofs.Ytjbmcjppaadkgaa

namespace Go.Proofs.Ytjbmcjppaadkgaa
set_option linter.unusedVariables false
set_option linter.unusedSimpArgs false
set_option maxRecDepth 100000
open Go.RowKit
theorem cells3 {W : World} {b : Nat} {T : TypeId} {v0 v1 v2 : Value} (h : W.heap[b]? = some (.cells #[v0, v1, v2] T (0, 0))) :
    W.cell? ⟨b, 0, none⟩ = some v0 ∧ W.cell? ⟨b, 1, none⟩ = some v1 ∧ W.cell? ⟨b, 2, none⟩ = some v2 := ⟨cell_of h 0 rfl, cell_of h 1 rfl, cell_of h 2 rfl⟩
theorem res_cell3 {fn : Func} {t : Tmp} {T : TypeId} (hr : fn.results = #[.cell t 48]) (W : World) (b : Nat) (v0 v1 v2 : Value) (h : W.heap[b]? = some (.cells #[v0, v1, v2] T (0, 0))) (tm : Array Value) (h2 : tm.getD t undef = .pointer (some ⟨b, 0, none⟩)) :
    (results fn tm).run Try.prog W = .ok (.agg #[v0, v1, v2]) W := by
  obtain ⟨c0, c1, c2⟩ := cells3 h
  have e2 : tm[t]?.getD undef = .pointer (some ⟨b, 0, none⟩) := by simpa using h2
  simp [results, hr, go_sem, e2, c0, c1, c2]
theorem set3_block {W : World} {b : Nat} {T : TypeId} {x0 x1 x2 : Value} (h : W.heap[b]? = some (.cells #[x0, x1, x2] T (0, 0))) (v0 v1 v2 : Value) :
    (((W.setCell ⟨b, 0, none⟩ v0).setCell ⟨b, 1, none⟩ v1).setCell ⟨b, 2, none⟩ v2).heap[b]? = some (.cells #[v0, v1, v2] T (0, 0)) := by
  have h0 : (W.setCell ⟨b, 0, none⟩ v0).heap[b]? = some (.cells #[v0, x1, x2] T (0, 0)) := set_block (i := 0) (v := v0) h
  have h1 : ((W.setCell ⟨b, 0, none⟩ v0).setCell ⟨b, 1, none⟩ v1).heap[b]? = some (.cells #[v0, v1, x2] T (0, 0)) := set_block (i := 1) (v := v1) h0
  exact set_block (i := 2) (v := v2) h1
def fdZ : Value := .agg #[.func (.func 41) #[] #[], .func (.func 43) #[] #[], .pointer none]
def fd4 (bp bs : Nat) : Value := .agg #[.func (.func 44) #[] #[.pointer (some ⟨bp, 0, none⟩), .pointer (some ⟨bs, 0, none⟩)], .func (.func 45) #[] #[.pointer (some ⟨bs, 0, none⟩), .pointer (some ⟨bp, 0, none⟩)], .pointer none]
def fd8 (bp bs : Nat) : Value := .agg #[.func (.func 51) #[] #[.pointer (some ⟨bp, 0, none⟩), .pointer (some ⟨bs, 0, none⟩)], .func (.func 52) #[] #[.pointer (some ⟨bs, 0, none⟩), .pointer (some ⟨bp, 0, none⟩)], .pointer none]
def fdT (bt : Nat) (p : Value) : Value := .agg #[.func (.func 47) #[] #[.pointer (some ⟨bt, 0, none⟩)], .func (.func 48) #[] #[.pointer (some ⟨bt, 0, none⟩)], p]
theorem new2 (w : World) (o1 o2 : Obj) : ((w.alloc o1).alloc o2).heap[w.heap.size + 1]? = some o2 := by
  have h := heap_alloc_new (w.alloc o1) o2
  have s : (w.alloc o1).heap.size = w.heap.size + 1 := by simp
  rw [s] at h
  exact h
theorem new3 (w : World) (o1 o2 o3 : Obj) : (((w.alloc o1).alloc o2).alloc o3).heap[w.heap.size + 1 + 1]? = some o3 := by
  have h := new2 (w.alloc o1) o2 o3
  have s : (w.alloc o1).heap.size = w.heap.size + 1 := by simp
  rw [s] at h
  exact h
theorem old1 {w : World} {b i : Nat} {v : Value} (o : Obj) (h : w.cell? ⟨b, i, none⟩ = some v) : (w.alloc o).cell? ⟨b, i, none⟩ = some v := cell_keep4 h (below_one o)
theorem mkz_any (w : World) : Calls Try.prog 33 #[] w fun e w' => e = .returned fdZ ∧ Below w.heap.size w w' := by
  have hx := heap_alloc_new w (.cells #[.nilFunc, .nilFunc, .pointer none] 48)
  go_enter Try.func33, Try.ntmps33
  go_wp2_with fail
  exact bodyPost_ret (res_cell3 (t := 0) rfl _ _ _ _ _ (heap_alloc_new w _) _ rfl) rfl ⟨rfl, below_one _⟩
theorem mk4_any (q : Addr) (w : World) : Calls Try.prog 34 #[.pointer (some q), .int .i64 4] w fun e w' => ∃ bp bs, e = .returned (fd4 bp bs) ∧ w'.cell? ⟨bp, 0, none⟩ = some (.pointer (some q)) ∧ w'.cell? ⟨bs, 0, none⟩ = some (.int .i64 4) ∧ w.heap.size ≤ bp ∧ w.heap.size ≤ bs ∧ Below w.heap.size w w' := by
  go_enter Try.func34, Try.ntmps34
  go_wp2_with fail
  refine bodyPost_ret (res_cell3 (t := 4) rfl _ _ _ _ _ (new3 w _ _ _) _ rfl) rfl ⟨w.heap.size, w.heap.size + 1, rfl, ?_, ?_, Nat.le_refl _, Nat.le_succ _, ?_⟩
  · exact old1 _ (old1 _ (cell_of (heap_alloc_new w _) 0 rfl))
  · exact old1 _ (cell_of (new2 w _ _) 0 rfl)
  · exact Below.next (Below.next (below_one _) (below_one _)) (below_one _)
theorem mk8_any (q : Addr) (w : World) : Calls Try.prog 36 #[.pointer (some q), .int .i64 8] w fun e w' => ∃ bp bs, e = .returned (fd8 bp bs) ∧ w'.cell? ⟨bp, 0, none⟩ = some (.pointer (some q)) ∧ w'.cell? ⟨bs, 0, none⟩ = some (.int .i64 8) ∧ w.heap.size ≤ bp ∧ w.heap.size ≤ bs ∧ Below w.heap.size w w' := by
  go_enter Try.func36, Try.ntmps36
  go_wp2_with fail
  refine bodyPost_ret (res_cell3 (t := 4) rfl _ _ _ _ _ (new3 w _ _ _) _ rfl) rfl ⟨w.heap.size, w.heap.size + 1, rfl, ?_, ?_, Nat.le_refl _, Nat.le_succ _, ?_⟩
  · exact old1 _ (old1 _ (cell_of (heap_alloc_new w _) 0 rfl))
  · exact old1 _ (cell_of (new2 w _ _) 0 rfl)
  · exact Below.next (Below.next (below_one _) (below_one _)) (below_one _)
theorem mkt_any (q : Addr) (w : World) : Calls Try.prog 35 #[.pointer (some q)] w fun e w' => ∃ bt, e = .returned (fdT bt (.pointer (some q))) ∧ w'.cell? ⟨bt, 0, none⟩ = some (.pointer (some q)) ∧ w.heap.size ≤ bt ∧ Below w.heap.size w w' := by
  go_enter Try.func35, Try.ntmps35
  go_wp2_with fail
  refine bodyPost_ret (res_cell3 (t := 2) rfl _ _ _ _ _ (new2 w _ _) _ rfl) rfl ⟨w.heap.size, rfl, ?_, Nat.le_refl _, ?_⟩
  · exact old1 _ (cell_of (heap_alloc_new w _) 0 rfl)
  · exact Below.next (below_one _) (below_one _)
end Go.Proofs.Ytjbmcjppaadkgaa

namespace Go.Proofs.Ytjbmcjppaadkgaa
set_option linter.unusedVariables false
set_option linter.unusedSimpArgs false
set_option maxRecDepth 100000
open Go.RowKit
/-- a field: the noughts, a number in four or eight bytes, a text; the latter with the cell of the message -/
inductive Fd where
  | z : Fd
  | n4 : Nat → Fd
  | n8 : Nat → Fd
  | t : Nat → Fd
def FdIs (w : World) (B : Nat) : Fd → Value → Prop
  | .z, v => v = fdZ
  | .n4 c, v => ∃ bp bs, v = fd4 bp bs ∧ bp ≠ B ∧ bs ≠ B ∧ w.cell? ⟨bp, 0, none⟩ = some (.pointer (some ⟨B, c, none⟩)) ∧ w.cell? ⟨bs, 0, none⟩ = some (.int .i64 4)
  | .n8 c, v => ∃ bp bs, v = fd8 bp bs ∧ bp ≠ B ∧ bs ≠ B ∧ w.cell? ⟨bp, 0, none⟩ = some (.pointer (some ⟨B, c, none⟩)) ∧ w.cell? ⟨bs, 0, none⟩ = some (.int .i64 8)
  | .t c, v => ∃ bt, v = fdT bt (.pointer (some ⟨B, c, none⟩)) ∧ bt ≠ B ∧ w.cell? ⟨bt, 0, none⟩ = some (.pointer (some ⟨B, c, none⟩))
theorem FdIs.grown {w w' : World} {B : Nat} {f : Fd} {v : Value} (h : FdIs w B f v) (hg : w.grownBy w' (some B)) : FdIs w' B f v := by
  cases f with
  | z => exact h
  | n4 c => obtain ⟨bp, bs, h1, h2, h3, h4, h5⟩ := h; exact ⟨bp, bs, h1, h2, h3, grown_cell hg h2 h4, grown_cell hg h3 h5⟩
  | n8 c => obtain ⟨bp, bs, h1, h2, h3, h4, h5⟩ := h; exact ⟨bp, bs, h1, h2, h3, grown_cell hg h2 h4, grown_cell hg h3 h5⟩
  | t c => obtain ⟨bt, h1, h2, h3⟩ := h; exact ⟨bt, h1, h2, grown_cell hg h2 h3⟩
def FdsIs (w : World) (B : Nat) : List Fd → List Value → Prop
  | [], [] => True
  | f :: fs, v :: vs => FdIs w B f v ∧ FdsIs w B fs vs
  | _, _ => False
theorem FdsIs.grown {w w' : World} {B : Nat} (hg : w.grownBy w' (some B)) : ∀ {fs : List Fd} {vs : List Value}, FdsIs w B fs vs → FdsIs w' B fs vs
  | [], [], _ => trivial
  | _ :: _, _ :: _, h => ⟨h.1.grown hg, FdsIs.grown hg h.2⟩
theorem FdsIs.snoc {w : World} {B : Nat} {f : Fd} {v : Value} (h : FdIs w B f v) : ∀ {fs : List Fd} {vs : List Value}, FdsIs w B fs vs → FdsIs w B (fs ++ [f]) (vs ++ [v])
  | [], [], _ => ⟨h, trivial⟩
  | _ :: _, _ :: _, k => ⟨k.1, FdsIs.snoc h k.2⟩
theorem fds_next {w w' : World} {B : Nat} {f : Fd} {v : Value} {fs : List Fd} {vs : List Value} (h : FdsIs w B fs vs) (hb : Below w.heap.size w w') (hf : FdIs w' B f v) : FdsIs w' B (fs ++ [f]) (vs ++ [v]) :=
  FdsIs.snoc hf (h.grown (grown_of_below hb))
/-- a row of fields in memory -/
def FieldsAt (w : World) (g : Nat) (vs : List Value) : Prop :=
  ∀ i v, vs[i]? = some v → ∃ a b c, v = .agg #[a, b, c] ∧ w.cell? ⟨g, i * 3, none⟩ = some a ∧ w.cell? ⟨g, i * 3 + 1, none⟩ = some b ∧ w.cell? ⟨g, i * 3 + 2, none⟩ = some c
def RowRet (w : World) (B : Nat) (fs : List Fd) (e : Ending) (w' : World) : Prop :=
  ∃ g vs, e = .returned (.slice (some ⟨g, 0, none⟩) fs.length fs.length) ∧ w.heap.size ≤ g ∧ FieldsAt w' g vs ∧ FdsIs w' B fs vs ∧ Below w.heap.size w w'
theorem fields4 {w : World} {g : Nat} {T : TypeId} {a0 b0 c0 a1 b1 c1 a2 b2 c2 a3 b3 c3 : Value} (h : w.heap[g]? = some (.cells #[a0, b0, c0, a1, b1, c1, a2, b2, c2, a3, b3, c3] T (0, 0))) : FieldsAt w g [.agg #[a0, b0, c0], .agg #[a1, b1, c1], .agg #[a2, b2, c2], .agg #[a3, b3, c3]] := by
  intro i v hv
  have hi : i < 4 := (List.getElem?_eq_some_iff.1 hv).1
  have : i = 0 ∨ i = 1 ∨ i = 2 ∨ i = 3 := by omega
  rcases this with rfl | rfl | rfl | rfl <;> (cases hv; exact ⟨_, _, _, rfl, cell_of h _ rfl, cell_of h _ rfl, cell_of h _ rfl⟩)
theorem fields7 {w : World} {g : Nat} {T : TypeId} {a0 b0 c0 a1 b1 c1 a2 b2 c2 a3 b3 c3 a4 b4 c4 a5 b5 c5 a6 b6 c6 : Value} (h : w.heap[g]? = some (.cells #[a0, b0, c0, a1, b1, c1, a2, b2, c2, a3, b3, c3, a4, b4, c4, a5, b5, c5, a6, b6, c6] T (0, 0))) : FieldsAt w g [.agg #[a0, b0, c0], .agg #[a1, b1, c1], .agg #[a2, b2, c2], .agg #[a3, b3, c3], .agg #[a4, b4, c4], .agg #[a5, b5, c5], .agg #[a6, b6, c6]] := by
  intro i v hv
  have hi : i < 7 := (List.getElem?_eq_some_iff.1 hv).1
  have : i = 0 ∨ i = 1 ∨ i = 2 ∨ i = 3 ∨ i = 4 ∨ i = 5 ∨ i = 6 := by omega
  rcases this with rfl | rfl | rfl | rfl | rfl | rfl | rfl <;> (cases hv; exact ⟨_, _, _, rfl, cell_of h _ rfl, cell_of h _ rfl, cell_of h _ rfl⟩)
set_option maxHeartbeats 4000000 in
theorem row_1 (B : Nat) (w : World) (hc : w.cell? ⟨B, 0, none⟩ = some (.int .i64 1)) : Calls Try.prog 19 #[.pointer (some ⟨B, 0, none⟩)] w (RowRet w B [.z, .n4 1, .t 4, .t 5, .t 6, .t 11, .t 12]) := by
  have hBl := World.block_lt_of_cell? w _ hc
  have HF : Hid (FdsIs w.drew B [] []) := Lib.hid trivial
  have HB : Hid (Below w.heap.size w w.drew) := Lib.hid (Below.refl _ _).drew
  go_enter Try.func19, Try.ntmps19
  go_wp2_with fail
  go_region_held3 (fun _ => True) (trivial) (first | (go_at_call 33; ((with_reducible refine (mkz_any _).mono ?_); rintro e w2 ⟨rfl, hb⟩; (try dsimp only [fdZ]); have HF := Lib.hid (fds_next HF.out hb (show FdIs w2 B .z fdZ from rfl)); have HB := Lib.hid (HB.out.trans (hb.mono HB.out.size)); clear hb)) | (go_at_call 34; ((with_reducible refine (mk4_any _ _).mono ?_); rintro e w2 ⟨bp, bs, rfl, h1, h2, h3, h4, hb⟩; (try dsimp only [fd4]); have HF := Lib.hid (fds_next HF.out hb (show FdIs w2 B (.n4 _) (fd4 bp bs) from ⟨bp, bs, rfl, (by have := HB.out.size; omega), (by have := HB.out.size; omega), h1, h2⟩)); have HB := Lib.hid (HB.out.trans (hb.mono HB.out.size)); clear hb h1 h2 h3 h4)) | (go_at_call 36; ((with_reducible refine (mk8_any _ _).mono ?_); rintro e w2 ⟨bp, bs, rfl, h1, h2, h3, h4, hb⟩; (try dsimp only [fd8]); have HF := Lib.hid (fds_next HF.out hb (show FdIs w2 B (.n8 _) (fd8 bp bs) from ⟨bp, bs, rfl, (by have := HB.out.size; omega), (by have := HB.out.size; omega), h1, h2⟩)); have HB := Lib.hid (HB.out.trans (hb.mono HB.out.size)); clear hb h1 h2 h3 h4)) | (go_at_call 35; ((with_reducible refine (mkt_any _ _).mono ?_); rintro e w2 ⟨bt, rfl, h1, h2, hb⟩; (try dsimp only [fdT]); have HF := Lib.hid (fds_next HF.out hb (show FdIs w2 B (.t _) (fdT bt _) from ⟨bt, rfl, (by have := HB.out.size; omega), h1⟩)); have HB := Lib.hid (HB.out.trans (hb.mono HB.out.size)); clear hb h1 h2)))
  all_goals
    go_wp2_with fail
    go_ret
    exact ⟨w2.heap.size, _, rfl, HB.out.size, (fields7 (heap_alloc_new w2 _)), HF.out.grown (grown_of_below (below_one _)), HB.out.alloc HB.out.size _⟩
set_option maxHeartbeats 4000000 in
theorem row_2 (B : Nat) (w : World) (hc : w.cell? ⟨B, 0, none⟩ = some (.int .i64 2)) : Calls Try.prog 19 #[.pointer (some ⟨B, 0, none⟩)] w (RowRet w B [.z, .n4 1, .n4 2, .t 4, .t 7, .t 11, .t 12]) := by
  have hBl := World.block_lt_of_cell? w _ hc
  have HF : Hid (FdsIs w.drew B [] []) := Lib.hid trivial
  have HB : Hid (Below w.heap.size w w.drew) := Lib.hid (Below.refl _ _).drew
  go_enter Try.func19, Try.ntmps19
  go_wp2_with fail
  go_region_held3 (fun _ => True) (trivial) (first | (go_at_call 33; ((with_reducible refine (mkz_any _).mono ?_); rintro e w2 ⟨rfl, hb⟩; (try dsimp only [fdZ]); have HF := Lib.hid (fds_next HF.out hb (show FdIs w2 B .z fdZ from rfl)); have HB := Lib.hid (HB.out.trans (hb.mono HB.out.size)); clear hb)) | (go_at_call 34; ((with_reducible refine (mk4_any _ _).mono ?_); rintro e w2 ⟨bp, bs, rfl, h1, h2, h3, h4, hb⟩; (try dsimp only [fd4]); have HF := Lib.hid (fds_next HF.out hb (show FdIs w2 B (.n4 _) (fd4 bp bs) from ⟨bp, bs, rfl, (by have := HB.out.size; omega), (by have := HB.out.size; omega), h1, h2⟩)); have HB := Lib.hid (HB.out.trans (hb.mono HB.out.size)); clear hb h1 h2 h3 h4)) | (go_at_call 36; ((with_reducible refine (mk8_any _ _).mono ?_); rintro e w2 ⟨bp, bs, rfl, h1, h2, h3, h4, hb⟩; (try dsimp only [fd8]); have HF := Lib.hid (fds_next HF.out hb (show FdIs w2 B (.n8 _) (fd8 bp bs) from ⟨bp, bs, rfl, (by have := HB.out.size; omega), (by have := HB.out.size; omega), h1, h2⟩)); have HB := Lib.hid (HB.out.trans (hb.mono HB.out.size)); clear hb h1 h2 h3 h4)) | (go_at_call 35; ((with_reducible refine (mkt_any _ _).mono ?_); rintro e w2 ⟨bt, rfl, h1, h2, hb⟩; (try dsimp only [fdT]); have HF := Lib.hid (fds_next HF.out hb (show FdIs w2 B (.t _) (fdT bt _) from ⟨bt, rfl, (by have := HB.out.size; omega), h1⟩)); have HB := Lib.hid (HB.out.trans (hb.mono HB.out.size)); clear hb h1 h2)))
  all_goals
    go_wp2_with fail
    go_ret
    exact ⟨w2.heap.size, _, rfl, HB.out.size, (fields7 (heap_alloc_new w2 _)), HF.out.grown (grown_of_below (below_one _)), HB.out.alloc HB.out.size _⟩
set_option maxHeartbeats 4000000 in
theorem row_3 (B : Nat) (w : World) (hc : w.cell? ⟨B, 0, none⟩ = some (.int .i64 3)) : Calls Try.prog 19 #[.pointer (some ⟨B, 0, none⟩)] w (RowRet w B [.z, .n4 2, .t 8, .t 9]) := by
  have hBl := World.block_lt_of_cell? w _ hc
  have HF : Hid (FdsIs w.drew B [] []) := Lib.hid trivial
  have HB : Hid (Below w.heap.size w w.drew) := Lib.hid (Below.refl _ _).drew
  go_enter Try.func19, Try.ntmps19
  go_wp2_with fail
  go_region_held3 (fun _ => True) (trivial) (first | (go_at_call 33; ((with_reducible refine (mkz_any _).mono ?_); rintro e w2 ⟨rfl, hb⟩; (try dsimp only [fdZ]); have HF := Lib.hid (fds_next HF.out hb (show FdIs w2 B .z fdZ from rfl)); have HB := Lib.hid (HB.out.trans (hb.mono HB.out.size)); clear hb)) | (go_at_call 34; ((with_reducible refine (mk4_any _ _).mono ?_); rintro e w2 ⟨bp, bs, rfl, h1, h2, h3, h4, hb⟩; (try dsimp only [fd4]); have HF := Lib.hid (fds_next HF.out hb (show FdIs w2 B (.n4 _) (fd4 bp bs) from ⟨bp, bs, rfl, (by have := HB.out.size; omega), (by have := HB.out.size; omega), h1, h2⟩)); have HB := Lib.hid (HB.out.trans (hb.mono HB.out.size)); clear hb h1 h2 h3 h4)) | (go_at_call 36; ((with_reducible refine (mk8_any _ _).mono ?_); rintro e w2 ⟨bp, bs, rfl, h1, h2, h3, h4, hb⟩; (try dsimp only [fd8]); have HF := Lib.hid (fds_next HF.out hb (show FdIs w2 B (.n8 _) (fd8 bp bs) from ⟨bp, bs, rfl, (by have := HB.out.size; omega), (by have := HB.out.size; omega), h1, h2⟩)); have HB := Lib.hid (HB.out.trans (hb.mono HB.out.size)); clear hb h1 h2 h3 h4)) | (go_at_call 35; ((with_reducible refine (mkt_any _ _).mono ?_); rintro e w2 ⟨bt, rfl, h1, h2, hb⟩; (try dsimp only [fdT]); have HF := Lib.hid (fds_next HF.out hb (show FdIs w2 B (.t _) (fdT bt _) from ⟨bt, rfl, (by have := HB.out.size; omega), h1⟩)); have HB := Lib.hid (HB.out.trans (hb.mono HB.out.size)); clear hb h1 h2)))
  all_goals
    go_wp2_with fail
    go_ret
    exact ⟨w2.heap.size, _, rfl, HB.out.size, (fields4 (heap_alloc_new w2 _)), HF.out.grown (grown_of_below (below_one _)), HB.out.alloc HB.out.size _⟩
set_option maxHeartbeats 4000000 in
theorem row_4 (B : Nat) (w : World) (hc : w.cell? ⟨B, 0, none⟩ = some (.int .i64 4)) : Calls Try.prog 19 #[.pointer (some ⟨B, 0, none⟩)] w (RowRet w B [.z, .n4 2, .n8 3, .t 10]) := by
  have hBl := World.block_lt_of_cell? w _ hc
  have HF : Hid (FdsIs w.drew B [] []) := Lib.hid trivial
  have HB : Hid (Below w.heap.size w w.drew) := Lib.hid (Below.refl _ _).drew
  go_enter Try.func19, Try.ntmps19
  go_wp2_with fail
  go_region_held3 (fun _ => True) (trivial) (first | (go_at_call 33; ((with_reducible refine (mkz_any _).mono ?_); rintro e w2 ⟨rfl, hb⟩; (try dsimp only [fdZ]); have HF := Lib.hid (fds_next HF.out hb (show FdIs w2 B .z fdZ from rfl)); have HB := Lib.hid (HB.out.trans (hb.mono HB.out.size)); clear hb)) | (go_at_call 34; ((with_reducible refine (mk4_any _ _).mono ?_); rintro e w2 ⟨bp, bs, rfl, h1, h2, h3, h4, hb⟩; (try dsimp only [fd4]); have HF := Lib.hid (fds_next HF.out hb (show FdIs w2 B (.n4 _) (fd4 bp bs) from ⟨bp, bs, rfl, (by have := HB.out.size; omega), (by have := HB.out.size; omega), h1, h2⟩)); have HB := Lib.hid (HB.out.trans (hb.mono HB.out.size)); clear hb h1 h2 h3 h4)) | (go_at_call 36; ((with_reducible refine (mk8_any _ _).mono ?_); rintro e w2 ⟨bp, bs, rfl, h1, h2, h3, h4, hb⟩; (try dsimp only [fd8]); have HF := Lib.hid (fds_next HF.out hb (show FdIs w2 B (.n8 _) (fd8 bp bs) from ⟨bp, bs, rfl, (by have := HB.out.size; omega), (by have := HB.out.size; omega), h1, h2⟩)); have HB := Lib.hid (HB.out.trans (hb.mono HB.out.size)); clear hb h1 h2 h3 h4)) | (go_at_call 35; ((with_reducible refine (mkt_any _ _).mono ?_); rintro e w2 ⟨bt, rfl, h1, h2, hb⟩; (try dsimp only [fdT]); have HF := Lib.hid (fds_next HF.out hb (show FdIs w2 B (.t _) (fdT bt _) from ⟨bt, rfl, (by have := HB.out.size; omega), h1⟩)); have HB := Lib.hid (HB.out.trans (hb.mono HB.out.size)); clear hb h1 h2)))
  all_goals
    go_wp2_with fail
    go_ret
    exact ⟨w2.heap.size, _, rfl, HB.out.size, (fields4 (heap_alloc_new w2 _)), HF.out.grown (grown_of_below (below_one _)), HB.out.alloc HB.out.size _⟩
theorem row_no (B : Nat) (k : Int) (w : World) (hc : w.cell? ⟨B, 0, none⟩ = some (.int .i64 k)) (h1 : k ≠ 1) (h2 : k ≠ 2) (h3 : k ≠ 3) (h4 : k ≠ 4) :
    Calls Try.prog 19 #[.pointer (some ⟨B, 0, none⟩)] w fun e w' => e = .returned (.slice none 0 0) ∧ w' = w := by
  have e1 : (k == 1) = false := beqf h1
  have e2 : (k == 2) = false := beqf h2
  have e3 : (k == 3) = false := beqf h3
  have e4 : (k == 4) = false := beqf h4
  clear h1 h2 h3 h4
  go_enter Try.func19, Try.ntmps19
  go_wp2_with fail
  go_ret
  exact ⟨rfl, rfl⟩
end Go.Proofs.Ytjbmcjppaadkgaa
