/- The two readers of terms find the same of whole texts. -/
import Derived.Test.YteiadbiopcidmaaTermMath
namespace Go.Proofs.Yteiadbiopcidmaa
set_option linter.unusedVariables false
set_option linter.unusedSimpArgs false

theorem leL_nil (x : List UInt8) : leL [] x = true := by
  cases x <;> simp [leL, Op.bytesLess]

theorem partOf_ne {r rest : List UInt8} (h : rest.length < r.length) : (partOf r rest).length = r.length - rest.length := by
  unfold partOf; simp

theorem pNum_suf {lo hi : Nat} {l : List UInt8} {y : Nat × List UInt8} (hy : pNum lo hi l = some y) : y.2 <:+ l := by
  unfold pNum at hy
  split at hy
  · cases hy; exact List.dropWhile_suffix _
  · cases hy
theorem pass_suf' {c : UInt8} {l r : List UInt8} (h : pass c l = some r) : r <:+ l := by
  rw [pass_some] at h; subst h; exact List.suffix_cons ..

theorem pTermS_len {L : Nat → LoopT} (hL : ∀ k acc r x, L k acc r = some x → x.2 <:+ r) {l : List UInt8} {x : Nat × Nat × List UInt8 × List (List UInt8) × List UInt8} (h : pTermS L l = some x) : x.2.2.2.2 <:+ l ∧ x.2.2.2.2.length < l.length := by
  cases l with
  | nil => cases h
  | cons c r =>
    have key : x.2.2.2.2 <:+ r := by
      simp only [pTermS] at h
      obtain ⟨sh, _, h⟩ := Option.bind_eq_some_iff.1 h
      split at h
      · obtain ⟨y, hy, e⟩ := Option.bind_eq_some_iff.1 h
        cases e
        unfold pLeaf at hy
        split at hy
        · cases hy; exact List.suffix_refl _
        · split at hy
          · split at hy
            · cases hy; exact List.dropWhile_suffix _
            · cases hy
          · obtain ⟨z, hz, e⟩ := Option.bind_eq_some_iff.1 hy
            cases e; exact pNum_suf hz
      · obtain ⟨r1, h1, h⟩ := Option.bind_eq_some_iff.1 h
        obtain ⟨y, hy, h⟩ := Option.bind_eq_some_iff.1 h
        have s2 : y.2 <:+ r1 := by
          unfold pHead at hy
          split at hy
          · obtain ⟨z, hz, hy⟩ := Option.bind_eq_some_iff.1 hy
            obtain ⟨r3, h3, e⟩ := Option.bind_eq_some_iff.1 hy
            cases e
            exact (pass_suf' h3).trans (pNum_suf hz)
          · cases hy; exact List.suffix_refl _
        split at h
        · cases h; exact ((List.tail_suffix _).trans s2).trans (pass_suf' h1)
        · obtain ⟨z, hz, e⟩ := Option.bind_eq_some_iff.1 h
          cases e
          exact ((hL _ _ _ _ hz).trans s2).trans (pass_suf' h1)
    exact ⟨key.trans (List.suffix_cons ..), by have := key.length_le; simp; omega⟩

theorem pLoop_suf : ∀ (f k : Nat) (acc : List (List UInt8)) (r : List UInt8) (x : List (List UInt8) × List UInt8), pLoop f k acc r = some x → x.2 <:+ r := by
  intro f
  induction f with
  | zero => intro k acc r x h; cases h
  | succ f ih =>
    intro k acc r x h
    simp only [pLoop] at h
    obtain ⟨y, hy, h⟩ := Option.bind_eq_some_iff.1 h
    have hs := (pTermS_len (fun k acc r x => ih k acc r x) hy).1
    split at h
    · split at h
      · cases h; exact (List.tail_suffix _).trans hs
      · cases h
    · split at h
      · exact ((ih _ _ _ _ h).trans (List.tail_suffix _)).trans hs
      · cases h
theorem pTerm_suf {f : Nat} {l : List UInt8} {x : Nat × Nat × List UInt8 × List (List UInt8) × List UInt8} (h : pTermS (pLoop f) l = some x) : x.2.2.2.2 <:+ l ∧ x.2.2.2.2.length < l.length :=
  pTermS_len (fun k acc r x => pLoop_suf f k acc r x) h

theorem pLoop_ok : ∀ (f k : Nat) (acc : List (List UInt8)) (r : List UInt8) (x : List (List UInt8) × List UInt8), pLoop f k acc r = some x → okParts k x.1 = true ∧ acc.length + 1 ≤ x.1.length := by
  intro f
  induction f with
  | zero => intro k acc r x h; cases h
  | succ f ih =>
    intro k acc r x h
    simp only [pLoop] at h
    obtain ⟨y, hy, h⟩ := Option.bind_eq_some_iff.1 h
    split at h
    · split at h
      · rename_i hk
        cases h; exact ⟨hk, by simp⟩
      · cases h
    · split at h
      · have := ih _ _ _ _ h
        exact ⟨this.1, by have := this.2; simp at this; omega⟩
      · cases h

def bytesIn (k : Nat) (l : List UInt8) : List UInt8 := if k = 4 then hxBytes (l.tail.takeWhile isWord) else []

/-- the condition of the induction -/
def EqA (f : Nat) : Prop := ∀ (k : Nat) (sh : Shape) (acc : List (List UInt8)) (r : List UInt8), shapeOf k = some sh → 0 < sh.most → acc.length + r.length ≤ 65536 →
  ∀ ps r', pLoop f k acc r = some (ps, r') ↔ qLoop f sh acc r = some (ps, 41 :: r')

theorem least_zero {k : Nat} {sh : Shape} (hs : shapeOf k = some sh) (hm : 0 < sh.most) : sh.least = 0 ↔ k = 11 := by
  rcases shape_cases hs with rfl | rfl | rfl | rfl | rfl | rfl | rfl | rfl | rfl | rfl | rfl
  all_goals (simp only [shapeOf, Option.some.injEq] at hs; subst hs)
  all_goals first | (exact absurd hm (by decide)) | simp

theorem head_cons {l : List UInt8} {c : UInt8} (h : l.head? = some c) : l = c :: l.tail := by
  cases l with
  | nil => cases h
  | cons x l => simp at h; subst h; rfl

theorem T1 {f : Nat} (hA : EqA f) {l : List UInt8} (hl : l.length ≤ 65536) {k n : Nat} {b : List UInt8} {ps : List (List UInt8)} {rest : List UInt8} (h : pTermS (pLoop f) l = some (k, n, b, ps, rest)) :
    qTermS (qLoop f) l = some (k, n, ps, rest) ∧ b = bytesIn k l := by
  cases l with
  | nil => cases h
  | cons c r =>
    simp only [pTermS] at h
    simp only [qTermS]
    obtain ⟨sh, hs, h⟩ := Option.bind_eq_some_iff.1 h
    rw [hs]
    show (if 0 < sh.most then _ else _) = _ ∧ _
    split at h
    · rename_i hk
      obtain ⟨x, hx, e⟩ := Option.bind_eq_some_iff.1 h
      have := pLeaf_q hs hk hx
      rw [if_neg this.1, this.2.1]
      cases e
      exact ⟨rfl, this.2.2⟩
    · rename_i hk
      obtain ⟨r1, h1, h⟩ := Option.bind_eq_some_iff.1 h
      obtain ⟨x, hx, h⟩ := Option.bind_eq_some_iff.1 h
      obtain ⟨hm, y, hy, hc, e1⟩ := pHead_q hs hk hx
      have hlen : x.2.length ≤ 65536 := by
        have h2 := (pass_suf' h1).length_le
        have h3 : x.2 <:+ r1 := by
          unfold pHead at hx
          split at hx
          · obtain ⟨z, hz, hx⟩ := Option.bind_eq_some_iff.1 hx
            obtain ⟨r3, h3, e⟩ := Option.bind_eq_some_iff.1 hx
            cases e
            exact (pass_suf' h3).trans (pNum_suf hz)
          · cases hx; exact List.suffix_refl _
        have := h3.length_le
        simp at hl; omega
      rw [if_pos hm]
      have hb : bytesIn (kindOf c) (c :: r) = [] := if_neg (by omega)
      split at h
      · rename_i hd
        cases h
        refine ⟨?_, hb.symm⟩
        have hp : pass 41 x.2 = some x.2.tail := pass_some.2 (head_cons hd.2)
        have hq : qList (qLoop f) sh x.2 = some ([], x.2) := by unfold qList; rw [if_pos ⟨(least_zero hs hm).2 hd.1, hd.2⟩]
        simp [qIn, h1, hy, hc, hq, hp, e1]
      · rename_i hd
        obtain ⟨z, hz, e⟩ := Option.bind_eq_some_iff.1 h
        cases e
        refine ⟨?_, hb.symm⟩
        have hq : qList (qLoop f) sh x.2 = some (z.1, 41 :: z.2) := by
          unfold qList
          rw [if_neg fun hh => hd ⟨(least_zero hs hm).1 hh.1, hh.2⟩]
          exact (hA _ sh [] x.2 hs hm (by simpa using hlen) z.1 z.2).1 hz
        have hp : pass 41 (41 :: z.2) = some z.2 := rfl
        simp [qIn, h1, hy, hc, hq, hp, e1]

theorem T2 {f : Nat} (hA : EqA f) {l : List UInt8} (hl : l.length ≤ 65536) {k n : Nat} {ps : List (List UInt8)} {rest : List UInt8} (h : qTermS (qLoop f) l = some (k, n, ps, rest)) (hst : Stop rest) :
    pTermS (pLoop f) l = some (k, n, bytesIn k l, ps, rest) := by
  cases l with
  | nil => cases h
  | cons c r =>
    simp only [qTermS] at h
    simp only [pTermS]
    obtain ⟨sh, hs, h⟩ := Option.bind_eq_some_iff.1 h
    rw [hs]
    show (if kindOf c ≤ 4 then _ else _) = _
    split at h
    · rename_i hm
      obtain ⟨x, hx, e⟩ := Option.bind_eq_some_iff.1 h
      cases e
      unfold qIn at hx
      obtain ⟨r1, h1, hx⟩ := Option.bind_eq_some_iff.1 hx
      obtain ⟨y, hy, hx⟩ := Option.bind_eq_some_iff.1 hx
      obtain ⟨r3, hc, hx⟩ := Option.bind_eq_some_iff.1 hx
      obtain ⟨z, hz, hx⟩ := Option.bind_eq_some_iff.1 hx
      obtain ⟨r5, h5, hx⟩ := Option.bind_eq_some_iff.1 hx
      cases hx
      obtain ⟨hk, hh⟩ := qHead_p hs hm hy hc
      rw [if_neg hk]
      have hb : bytesIn (kindOf c) (c :: r) = [] := if_neg (by omega)
      rw [hb]
      rw [pass_some] at h5
      unfold qList at hz
      split at hz
      · rename_i hd
        cases hz
        have hcond : kindOf c = 11 ∧ r3.head? = some 41 := ⟨(least_zero hs hm).1 hd.1, hd.2⟩
        simp only at h5
        subst h5
        have hk11 := hcond.1
        rw [hk11] at hh
        simp [h1, hh, hk11]
      · rename_i hd
        have hcond : ¬ (kindOf c = 11 ∧ r3.head? = some 41) := fun hq => hd ⟨(least_zero hs hm).2 hq.1, hq.2⟩
        have hlen : r3.length ≤ 65536 := by
          have h2 := (pass_suf' h1).length_le
          have h3 : y.2 <:+ r1 := by
            unfold qNum at hy
            split at hy
            · split at hy
              · cases hy; exact List.dropWhile_suffix _
              · cases hy
            · cases hy; exact List.suffix_refl _
          have h4 : r3 <:+ y.2 := by
            unfold qComma at hc
            split at hc
            · exact pass_suf' hc
            · cases hc; exact List.suffix_refl _
          have := h3.length_le
          have := h4.length_le
          simp at hl; omega
        have e5 : z = (z.1, 41 :: r5) := by rw [← h5]
        rw [e5] at hz
        have hp := (hA _ sh [] r3 hs hm (by simpa using hlen) z.1 r5).2 hz
        simp [h1, hh, hcond, hp]
    · rename_i hm
      obtain ⟨x, hx, e⟩ := Option.bind_eq_some_iff.1 h
      cases e
      have := qLeaf_p hs hm hx hst
      rw [if_pos this.1, this.2]
      rfl

theorem right_iff {k : Nat} {sh : Shape} (hs : shapeOf k = some sh) (hm : 0 < sh.most) (n : Nat) (hn : 1 ≤ n) (hn2 : n ≤ 65536) : right k n = true ↔ sh.least ≤ n ∧ n ≤ sh.most := by
  rcases shape_cases hs with rfl | rfl | rfl | rfl | rfl | rfl | rfl | rfl | rfl | rfl | rfl
  all_goals (simp only [shapeOf, Option.some.injEq] at hs; subst hs)
  all_goals first | (exact absurd hm (by decide)) | (simp [right]; try omega)

theorem ordered_iff {k : Nat} {sh : Shape} (hs : shapeOf k = some sh) : sh.ordered = true ↔ k = 6 := by
  rcases shape_cases hs with rfl | rfl | rfl | rfl | rfl | rfl | rfl | rfl | rfl | rfl | rfl
  all_goals (simp only [shapeOf, Option.some.injEq] at hs; subst hs; simp)

theorem eqA : ∀ f, EqA f := by
  intro f
  induction f with
  | zero => intro k sh acc r _ _ _ ps r'; simp [pLoop, qLoop]
  | succ f ih =>
    intro k sh acc r hs hm hlen ps r'
    constructor
    · intro h
      simp only [pLoop] at h
      obtain ⟨⟨k1, n1, b1, ps1, rest⟩, hx, h⟩ := Option.bind_eq_some_iff.1 h
      have hq := (T1 ih (by omega) hx).1
      have hsuf := pTerm_suf hx
      simp only at h hsuf
      simp only [qLoop]
      rw [hq]
      show (if sh.ordered = true ∧ leL (acc.getLast?.getD []) (partOf r rest) = false then none else if rest.head? = some 44 then _ else _) = _
      have hl2 := hsuf.2
      split at h
      · rename_i h41
        split at h
        · rename_i hok
          cases h
          have hok' := hok
          simp only [okParts, Bool.and_eq_true, Bool.not_eq_true', Bool.and_eq_false_iff] at hok
          have hcount := (right_iff hs hm (acc.length + 1) (by omega) (by omega)).1 (by simpa using hok.1)
          rw [if_neg, if_neg (by rw [h41]; simp), if_pos hcount, ← head_cons h41]
          rintro ⟨ho, hle⟩
          have hk6 := (ordered_iff hs).1 ho
          subst hk6
          have hr := hok.1
          simp [right] at hr
          match acc, hr with
          | [a], _ =>
            rcases hok.2 with h6 | h6
            · simp at h6
            · simp at h6 hle; rw [hle] at h6; cases h6
        · cases h
      · rename_i h41
        split at h
        · rename_i h44
          have hpo := pLoop_ok f k _ _ _ h
          rw [if_neg, if_pos h44]
          · exact (ih k sh _ _ hs hm (by simp; omega) ps r').1 h
          · rintro ⟨ho, hle⟩
            have hk6 := (ordered_iff hs).1 ho
            subst hk6
            have h1 := hpo.1
            simp only [okParts, Bool.and_eq_true] at h1
            have hr := h1.1
            simp [right] at hr
            have h2 := hpo.2
            rw [hr] at h2
            simp at h2
            subst h2
            rw [show (([] : List (List UInt8)).getLast?.getD []) = [] from rfl, leL_nil] at hle
            cases hle
        · cases h
    · intro h
      simp only [qLoop] at h
      obtain ⟨⟨k1, n1, ps1, rest⟩, hx, h⟩ := Option.bind_eq_some_iff.1 h
      simp only at h
      split at h
      · cases h
      · rename_i hno
        split at h
        · rename_i h44
          have hp := T2 ih (by omega) hx (.inr (.inl h44))
          have hsuf := pTerm_suf hp
          simp only at hsuf
          have hl2 := hsuf.2
          simp only [pLoop]
          rw [hp]
          show (if rest.head? = some 41 then _ else if rest.head? = some 44 then _ else _) = _
          rw [if_neg (by rw [h44]; simp), if_pos h44]
          exact (ih k sh _ _ hs hm (by simp; omega) ps r').2 h
        · split at h
          · rename_i hcount
            simp only [Option.some.injEq, Prod.mk.injEq] at h
            obtain ⟨e1, e2⟩ := h
            subst e2
            have hp := T2 ih (by omega) hx (.inr (.inr rfl))
            have hsuf := pTerm_suf hp
            simp only at hsuf
            have hl2 := hsuf.2
            simp only [pLoop]
            rw [hp]
            show (if (41 :: r').head? = some 41 then (if okParts k (acc ++ [partOf r (41 :: r')]) = true then some (acc ++ [partOf r (41 :: r')], (41 :: r').tail) else none) else (if (41 :: r').head? = some 44 then pLoop f k (acc ++ [partOf r (41 :: r')]) (41 :: r').tail else none)) = _
            rw [if_pos (show (41 :: r').head? = some 41 from rfl), if_pos, e1]
            · rfl
            · simp only [okParts, Bool.and_eq_true, Bool.not_eq_true', Bool.and_eq_false_iff]
              refine ⟨by simpa using (right_iff hs hm (acc.length + 1) (by omega) (by omega)).2 hcount, ?_⟩
              by_cases hk6 : k = 6
              · right
                subst hk6
                have ho := (ordered_iff hs).2 rfl
                simp only [shapeOf, Option.some.injEq] at hs
                subst hs
                simp only at hcount
                match acc, hcount with
                | [a], _ =>
                  simp only [not_and, Bool.not_eq_false] at hno
                  have := hno trivial
                  simp at this ⊢
                  exact this
                | [], hc => simp at hc
                | _ :: _ :: _, hc => simp at hc
              · left; simpa using hk6
          · cases h

/-- what a whole text is, as the program finds it: kind, number, parts -/
def qLook (t : List UInt8) : Option (Nat × Nat × List (List UInt8)) :=
  if t.length ≤ 65536 then (qTermS (qLoop t.length) t).bind fun x => if x.2.2.2 = [] then some (x.1, x.2.1, x.2.2.1) else none else none
/-- .. as the reference finds it: kind, number, bytes, parts -/
def pLook (t : List UInt8) : Option (Nat × Nat × List UInt8 × List (List UInt8)) :=
  if t.length ≤ 65536 then (pTermS (pLoop t.length) t).bind fun x => if x.2.2.2.2 = [] then some (x.1, x.2.1, x.2.2.1, x.2.2.2.1) else none else none

theorem look_eq (t : List UInt8) : pLook t = (qLook t).map fun x => (x.1, x.2.1, bytesIn x.1 t, x.2.2) := by
  unfold pLook qLook
  split
  · rename_i hl
    cases hq : qTermS (qLoop t.length) t with
    | none =>
      cases hp : pTermS (pLoop t.length) t with
      | none => rfl
      | some x =>
        obtain ⟨k, n, b, ps, rest⟩ := x
        have := (T1 (eqA _) hl hp).1
        rw [hq] at this; cases this
    | some x =>
      obtain ⟨k, n, ps, rest⟩ := x
      by_cases hr : rest = []
      · subst hr
        rw [T2 (eqA _) hl hq (.inl rfl)]
        rfl
      · cases hp : pTermS (pLoop t.length) t with
        | none => simp [hr]
        | some y =>
          obtain ⟨k', n', b', ps', rest'⟩ := y
          have := (T1 (eqA _) hl hp).1
          rw [hq] at this
          cases this
          simp [hr]
  · rfl
end Go.Proofs.Yteiadbiopcidmaa
