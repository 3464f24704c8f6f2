/- The plain mathematics of terms: two readers of a term's text, one as the program goes (by runs of digits), one as the reference goes (by words), and that they find the same of whole texts. -/
import Derived.Test.YteiadbiopcidmaaNumMath
import Derived.Laws.Strings
import Derived.Lib.Join
namespace Go.Proofs.Yteiadbiopcidmaa
set_option linter.unusedVariables false
set_option linter.unusedSimpArgs false

structure Shape where
  numbered : Bool
  low : Nat
  high : Nat
  hex : Bool
  least : Nat
  most : Nat
  ordered : Bool

def shapeOf : Nat → Option Shape
  | 1 => some ⟨false, 0, 0, false, 0, 0, false⟩
  | 2 => some ⟨true, 0, 4294967295, false, 0, 0, false⟩
  | 3 => some ⟨true, 0, 18446744073709551615, false, 0, 0, false⟩
  | 4 => some ⟨false, 0, 0, true, 0, 0, false⟩
  | 5 => some ⟨false, 0, 0, false, 1, 1, false⟩
  | 6 => some ⟨false, 0, 0, false, 2, 2, true⟩
  | 7 => some ⟨false, 0, 0, false, 1, 65536, false⟩
  | 8 => some ⟨true, 1, 3, false, 2, 2, false⟩
  | 9 => some ⟨false, 0, 0, false, 2, 2, false⟩
  | 10 => some ⟨true, 0, 18446744073709551615, false, 3, 3, false⟩
  | 11 => some ⟨false, 0, 0, false, 0, 65536, false⟩
  | _ => none

def kindOf (c : UInt8) : Nat :=
  if c = 48 then 1 else if c = 97 then 2 else if c = 110 then 3 else if c = 120 then 4 else if c = 112 then 5 else if c = 100 then 6
  else if c = 104 then 7 else if c = 107 then 8 else if c = 109 then 9 else if c = 115 then 10 else if c = 108 then 11 else 0

def isDig (c : UInt8) : Bool := decide (48 ≤ c.toNat ∧ c.toNat ≤ 57)
def isHex (c : UInt8) : Bool := decide ((48 ≤ c.toNat ∧ c.toNat ≤ 57) ∨ (97 ≤ c.toNat ∧ c.toNat ≤ 102))
def isWord (c : UInt8) : Bool := decide (c ≠ 44 ∧ c ≠ 41)
def leL (a b : List UInt8) : Bool := Op.bytesLess a b || a == b

def numIn (low high : Nat) (d : List UInt8) : Bool := decide (rdCode d = 0 ∧ (low : Int) ≤ rdVal d ∧ rdVal d ≤ (high : Int))

def pass (c : UInt8) : List UInt8 → Option (List UInt8)
  | [] => none
  | x :: r => if x = c then some r else none

theorem pass_some {c : UInt8} {l r : List UInt8} : pass c l = some r ↔ l = c :: r := by
  cases l with
  | nil => simp [pass]
  | cons x l => unfold pass; split <;> simp_all

def qNum (sh : Shape) (l : List UInt8) : Option (Nat × List UInt8) :=
  if sh.numbered then
    if numIn sh.low sh.high (l.takeWhile isDig) then some ((rdVal (l.takeWhile isDig)).toNat, l.dropWhile isDig) else none
  else some (0, l)

def qLeaf (sh : Shape) (l : List UInt8) : Option (Nat × List UInt8) :=
  if sh.hex then if (l.takeWhile isHex).length % 2 = 0 then qNum sh (l.dropWhile isHex) else none
  else qNum sh l

def qComma (sh : Shape) (l : List UInt8) : Option (List UInt8) := if sh.numbered then pass 44 l else some l

abbrev LoopT := List (List UInt8) → List UInt8 → Option (List (List UInt8) × List UInt8)

def qList (L : Shape → LoopT) (sh : Shape) (r : List UInt8) : Option (List (List UInt8) × List UInt8) :=
  if sh.least = 0 ∧ r.head? = some 41 then some ([], r) else L sh [] r

def qIn (L : Shape → LoopT) (sh : Shape) (r : List UInt8) : Option (Nat × List (List UInt8) × List UInt8) :=
  (pass 40 r).bind fun r1 => (qNum sh r1).bind fun x => (qComma sh x.2).bind fun r3 => (qList L sh r3).bind fun y => (pass 41 y.2).bind fun r5 => some (x.1, y.1, r5)

def qTermS (L : Shape → LoopT) : List UInt8 → Option (Nat × Nat × List (List UInt8) × List UInt8)
  | [] => none
  | c :: r => (shapeOf (kindOf c)).bind fun sh =>
      if 0 < sh.most then (qIn L sh r).bind fun x => some (kindOf c, x.1, x.2.1, x.2.2) else (qLeaf sh r).bind fun x => some (kindOf c, x.1, [], x.2)

def partOf (r rest : List UInt8) : List UInt8 := r.take (r.length - rest.length)

def qLoop : Nat → Shape → LoopT
  | 0, _, _, _ => none
  | f + 1, sh, acc, r => (qTermS (qLoop f) r).bind fun x =>
      if sh.ordered = true ∧ leL (acc.getLast?.getD []) (partOf r x.2.2.2) = false then none
      else if x.2.2.2.head? = some 44 then qLoop f sh (acc ++ [partOf r x.2.2.2]) x.2.2.2.tail
      else if sh.least ≤ acc.length + 1 ∧ acc.length + 1 ≤ sh.most then some (acc ++ [partOf r x.2.2.2], x.2.2.2) else none

/-! the reference's way -/
def pNum (low high : Nat) (l : List UInt8) : Option (Nat × List UInt8) :=
  if numIn low high (l.takeWhile isWord) then some ((rdVal (l.takeWhile isWord)).toNat, l.dropWhile isWord) else none

def right (k n : Nat) : Bool :=
  if k = 5 then n == 1 else if k = 6 ∨ k = 8 ∨ k = 9 then n == 2 else if k = 7 then decide (1 ≤ n) else if k = 10 then n == 3 else true

def pHead (k : Nat) (sh : Shape) (r : List UInt8) : Option (Nat × List UInt8) :=
  if k = 8 ∨ k = 10 then (pNum sh.low sh.high r).bind fun x => (pass 44 x.2).bind fun r3 => some (x.1, r3) else some (0, r)

def pLeaf (k : Nat) (sh : Shape) (r : List UInt8) : Option (Nat × List UInt8 × List UInt8) :=
  if k = 1 then some (0, [], r)
  else if k = 4 then (if hxCode (r.takeWhile isWord) = 0 then some (0, hxBytes (r.takeWhile isWord), r.dropWhile isWord) else none)
  else (pNum sh.low sh.high r).bind fun x => some (x.1, [], x.2)

/-- kind, number, bytes, parts, rest -/
def pTermS (L : Nat → LoopT) : List UInt8 → Option (Nat × Nat × List UInt8 × List (List UInt8) × List UInt8)
  | [] => none
  | c :: r => (shapeOf (kindOf c)).bind fun sh =>
      if kindOf c ≤ 4 then (pLeaf (kindOf c) sh r).bind fun x => some (kindOf c, x.1, x.2.1, [], x.2.2)
      else (pass 40 r).bind fun r1 => (pHead (kindOf c) sh r1).bind fun x =>
        if kindOf c = 11 ∧ x.2.head? = some 41 then some (kindOf c, x.1, [], [], x.2.tail)
        else (L (kindOf c) [] x.2).bind fun y => some (kindOf c, x.1, [], y.1, y.2)

def okParts (k : Nat) (ps : List (List UInt8)) : Bool := right k ps.length && !(k == 6 && !leL (ps.getD 0 []) (ps.getD 1 []))

def pLoop : Nat → Nat → LoopT
  | 0, _, _, _ => none
  | f + 1, k, acc, r => (pTermS (pLoop f) r).bind fun x =>
      if x.2.2.2.2.head? = some 41 then (if okParts k (acc ++ [partOf r x.2.2.2.2]) then some (acc ++ [partOf r x.2.2.2.2], x.2.2.2.2.tail) else none)
      else if x.2.2.2.2.head? = some 44 then pLoop f k (acc ++ [partOf r x.2.2.2.2]) x.2.2.2.2.tail else none

/-! words and runs -/
def Stop (l : List UInt8) : Prop := l = [] ∨ l.head? = some 44 ∨ l.head? = some 41

theorem stop_word (l : List UInt8) : Stop (l.dropWhile isWord) := by
  induction l with
  | nil => exact .inl rfl
  | cons c l ih =>
    rw [List.dropWhile_cons]
    split
    · exact ih
    · rename_i h
      simp only [isWord, decide_eq_true_eq, not_and, Decidable.not_not] at h
      by_cases h1 : c = 44
      · subst h1; exact .inr (.inl rfl)
      · have := h h1; subst this; exact .inr (.inr rfl)

theorem run_word {P : UInt8 → Bool} (hP : ∀ c, P c = true → isWord c = true) : ∀ (l : List UInt8), (∀ c ∈ l.takeWhile isWord, P c = true) → l.takeWhile P = l.takeWhile isWord ∧ l.dropWhile P = l.dropWhile isWord := by
  intro l
  induction l with
  | nil => intro _; exact ⟨rfl, rfl⟩
  | cons c l ih =>
    intro h
    by_cases hw : isWord c = true
    · rw [List.takeWhile_cons_of_pos hw] at h ⊢
      have hc := h c (List.mem_cons_self ..)
      rw [List.takeWhile_cons_of_pos hc, List.dropWhile_cons_of_pos hc, List.dropWhile_cons_of_pos hw]
      have := ih fun x hx => h x (List.mem_cons_of_mem _ hx)
      exact ⟨by rw [this.1], this.2⟩
    · have hc : ¬ P c = true := fun hc => hw (hP c hc)
      rw [List.takeWhile_cons_of_neg hw, List.takeWhile_cons_of_neg hc, List.dropWhile_cons_of_neg hc, List.dropWhile_cons_of_neg hw]
      exact ⟨rfl, rfl⟩

theorem word_run {P : UInt8 → Bool} (hP : ∀ c, P c = true → isWord c = true) : ∀ (l : List UInt8), Stop (l.dropWhile P) → l.takeWhile P = l.takeWhile isWord ∧ l.dropWhile P = l.dropWhile isWord := by
  intro l
  induction l with
  | nil => intro _; exact ⟨rfl, rfl⟩
  | cons c l ih =>
    intro h
    by_cases hc : P c = true
    · have hw := hP c hc
      rw [List.dropWhile_cons_of_pos hc] at h
      rw [List.takeWhile_cons_of_pos hc, List.takeWhile_cons_of_pos hw, List.dropWhile_cons_of_pos hc, List.dropWhile_cons_of_pos hw]
      exact ⟨by rw [(ih h).1], (ih h).2⟩
    · rw [List.dropWhile_cons_of_neg hc] at h
      have hw : ¬ isWord c = true := by
        rcases h with h | h | h
        · cases h
        · simp at h; subst h; decide
        · simp at h; subst h; decide
      rw [List.takeWhile_cons_of_neg hw, List.takeWhile_cons_of_neg hc, List.dropWhile_cons_of_neg hc, List.dropWhile_cons_of_neg hw]
      exact ⟨rfl, rfl⟩

theorem dig_word (c : UInt8) (h : isDig c = true) : isWord c = true := by
  simp only [isDig, decide_eq_true_eq] at h
  simp only [isWord, decide_eq_true_eq]
  constructor <;> (intro e; subst e; revert h; decide)
theorem hex_word (c : UInt8) (h : isHex c = true) : isWord c = true := by
  simp only [isHex, decide_eq_true_eq] at h
  simp only [isWord, decide_eq_true_eq]
  constructor <;> (intro e; subst e; revert h; decide)

theorem digs_isDig {l : List UInt8} (h : digs l 10 = true) : ∀ c ∈ l, isDig c = true := by
  intro c hc
  have := (val_dec _).1 (digs_mem h hc)
  simp only [isDig, decide_eq_true_eq]; omega
theorem digs_isHex {l : List UInt8} (h : digs l 16 = true) : ∀ c ∈ l, isHex c = true := by
  intro c hc
  have := digs_mem h hc
  simp only [isHex, decide_eq_true_eq]
  unfold val at this
  split at this
  · omega
  · split at this <;> omega
theorem isHex_digs {l : List UInt8} (h : ∀ c ∈ l, isHex c = true) : digs l 16 = true := by
  simp only [digs, List.all_eq_true, decide_eq_true_eq]
  intro c hc
  have := h c hc
  simp only [isHex, decide_eq_true_eq] at this
  unfold val
  split
  · omega
  · split <;> omega
theorem numIn_digs {lo hi : Nat} {l : List UInt8} (h : numIn lo hi l = true) : digs l 10 = true := by
  simp only [numIn, decide_eq_true_eq] at h
  have h1 := h.1
  by_cases hf : formBad l = true
  · rw [(rd_bad hf).2] at h1; omega
  · have : formBad l = false := by simpa using hf
    simp only [formBad, Bool.or_eq_false_iff] at this
    simpa using this.2

theorem pNum_q {sh : Shape} {l : List UInt8} {x : Nat × List UInt8} (hn : sh.numbered = true) (h : pNum sh.low sh.high l = some x) : qNum sh l = some x ∧ Stop x.2 := by
  unfold pNum at h
  split at h
  · rename_i hi
    simp only [Option.some.injEq] at h
    subst h
    have := run_word dig_word l (digs_isDig (numIn_digs hi))
    refine ⟨?_, stop_word l⟩
    unfold qNum
    rw [if_pos hn, this.1, this.2, if_pos hi]
  · cases h
theorem qNum_p {sh : Shape} {l : List UInt8} {x : Nat × List UInt8} (hn : sh.numbered = true) (h : qNum sh l = some x) (hs : Stop x.2) : pNum sh.low sh.high l = some x := by
  unfold qNum at h
  rw [if_pos hn] at h
  split at h
  · rename_i hi
    simp only [Option.some.injEq] at h
    subst h
    have := word_run dig_word l hs
    unfold pNum
    rw [← this.1, ← this.2, if_pos hi]
  · cases h

theorem stop_pass {c : UInt8} {l r : List UInt8} (hc : c = 44 ∨ c = 41) (h : pass c l = some r) : Stop l := by
  rw [pass_some] at h
  subst h
  rcases hc with rfl | rfl
  · exact .inr (.inl rfl)
  · exact .inr (.inr rfl)

theorem takeWhile_all {P : UInt8 → Bool} : ∀ (l : List UInt8), ∀ c ∈ l.takeWhile P, P c = true := by
  intro l
  induction l with
  | nil => intro c h; cases h
  | cons x l ih =>
    intro c h
    by_cases hx : P x = true
    · rw [List.takeWhile_cons_of_pos hx] at h
      rcases List.mem_cons.1 h with rfl | h
      · exact hx
      · exact ih c h
    · rw [List.takeWhile_cons_of_neg hx] at h; cases h

theorem hxCode_zero {l : List UInt8} : hxCode l = 0 ↔ digs l 16 = true ∧ l.length % 2 = 0 := by
  unfold hxCode
  split
  · split <;> simp_all
  · simp_all

/-- the kinds one by one -/
theorem shape_cases {k : Nat} {sh : Shape} (h : shapeOf k = some sh) : (k = 1 ∨ k = 2 ∨ k = 3 ∨ k = 4 ∨ k = 5 ∨ k = 6 ∨ k = 7 ∨ k = 8 ∨ k = 9 ∨ k = 10 ∨ k = 11) := by
  unfold shapeOf at h
  split at h <;> first | omega | cases h

theorem pLeaf_q {k : Nat} {sh : Shape} {r : List UInt8} {x : Nat × List UInt8 × List UInt8} (hs : shapeOf k = some sh) (hk : k ≤ 4) (h : pLeaf k sh r = some x) :
    ¬ 0 < sh.most ∧ qLeaf sh r = some (x.1, x.2.2) ∧ x.2.1 = (if k = 4 then hxBytes (r.takeWhile isWord) else []) := by
  rcases (show k = 1 ∨ k = 2 ∨ k = 3 ∨ k = 4 by have := shape_cases hs; omega) with rfl | rfl | rfl | rfl
  · simp only [shapeOf, Option.some.injEq] at hs; subst hs
    simp only [pLeaf] at h; simp at h; subst h
    exact ⟨by decide, rfl, rfl⟩
  · simp only [shapeOf, Option.some.injEq] at hs; subst hs
    simp only [pLeaf] at h
    simp only [show ¬ (2:Nat) = 1 by decide, show ¬ (2:Nat) = 4 by decide, if_false] at h
    obtain ⟨y, hy, e⟩ := Option.bind_eq_some_iff.1 h
    cases e
    exact ⟨by decide, (pNum_q (sh := ⟨true, 0, 4294967295, false, 0, 0, false⟩) rfl hy).1, rfl⟩
  · simp only [shapeOf, Option.some.injEq] at hs; subst hs
    simp only [pLeaf] at h
    simp only [show ¬ (3:Nat) = 1 by decide, show ¬ (3:Nat) = 4 by decide, if_false] at h
    obtain ⟨y, hy, e⟩ := Option.bind_eq_some_iff.1 h
    cases e
    exact ⟨by decide, (pNum_q (sh := ⟨true, 0, 18446744073709551615, false, 0, 0, false⟩) rfl hy).1, rfl⟩
  · simp only [shapeOf, Option.some.injEq] at hs; subst hs
    simp only [pLeaf] at h
    simp only [show ¬ (4:Nat) = 1 by decide, if_false, if_true] at h
    split at h
    · rename_i hx
      cases h
      have hd := hxCode_zero.1 hx
      have := run_word hex_word r (digs_isHex hd.1)
      refine ⟨by decide, ?_, rfl⟩
      unfold qLeaf
      rw [if_pos rfl, this.1, if_pos hd.2, this.2]
      rfl
    · cases h

theorem qLeaf_p {k : Nat} {sh : Shape} {r : List UInt8} {x : Nat × List UInt8} (hs : shapeOf k = some sh) (hk : ¬ 0 < sh.most) (h : qLeaf sh r = some x) (hst : Stop x.2) :
    k ≤ 4 ∧ pLeaf k sh r = some (x.1, if k = 4 then hxBytes (r.takeWhile isWord) else [], x.2) := by
  rcases shape_cases hs with rfl | rfl | rfl | rfl | rfl | rfl | rfl | rfl | rfl | rfl | rfl
  · simp only [shapeOf, Option.some.injEq] at hs; subst hs
    simp only [qLeaf, qNum] at h; simp at h; subst h
    exact ⟨by decide, rfl⟩
  · simp only [shapeOf, Option.some.injEq] at hs; subst hs
    have := qNum_p (sh := ⟨true, 0, 4294967295, false, 0, 0, false⟩) rfl h hst
    refine ⟨by decide, ?_⟩
    simp only [pLeaf, show ¬ (2:Nat) = 1 by decide, show ¬ (2:Nat) = 4 by decide, if_false]
    exact Option.bind_eq_some_iff.2 ⟨x, this, rfl⟩
  · simp only [shapeOf, Option.some.injEq] at hs; subst hs
    have := qNum_p (sh := ⟨true, 0, 18446744073709551615, false, 0, 0, false⟩) rfl h hst
    refine ⟨by decide, ?_⟩
    simp only [pLeaf, show ¬ (3:Nat) = 1 by decide, show ¬ (3:Nat) = 4 by decide, if_false]
    exact Option.bind_eq_some_iff.2 ⟨x, this, rfl⟩
  · simp only [shapeOf, Option.some.injEq] at hs; subst hs
    refine ⟨by decide, ?_⟩
    unfold qLeaf at h
    rw [if_pos rfl] at h
    split at h
    · rename_i hl
      simp only [qNum] at h
      simp at h; subst h
      have := word_run hex_word r hst
      have hd : hxCode (r.takeWhile isWord) = 0 := hxCode_zero.2 ⟨by rw [← this.1]; exact isHex_digs (takeWhile_all r), by rw [← this.1]; exact hl⟩
      simp only [pLeaf, show ¬ (4:Nat) = 1 by decide, if_false, if_true]
      rw [if_pos hd, this.2]
    · cases h
  all_goals (simp only [shapeOf, Option.some.injEq] at hs; subst hs; exact absurd (by decide) hk)

theorem pHead_q {k : Nat} {sh : Shape} {r : List UInt8} {x : Nat × List UInt8} (hs : shapeOf k = some sh) (hk : ¬ k ≤ 4) (h : pHead k sh r = some x) :
    0 < sh.most ∧ ∃ y, qNum sh r = some y ∧ qComma sh y.2 = some x.2 ∧ y.1 = x.1 := by
  unfold pHead at h
  rcases shape_cases hs with rfl | rfl | rfl | rfl | rfl | rfl | rfl | rfl | rfl | rfl | rfl
  all_goals (try (exact absurd (by decide) hk))
  all_goals (simp only [shapeOf, Option.some.injEq] at hs; subst hs)
  all_goals (refine ⟨by decide, ?_⟩)
  all_goals first
    | (rw [if_neg (by decide)] at h; cases h; exact ⟨(0, r), rfl, rfl, rfl⟩)
    | (rw [if_pos (by decide)] at h; obtain ⟨y, hy, h2⟩ := Option.bind_eq_some_iff.1 h; obtain ⟨r3, hp, e⟩ := Option.bind_eq_some_iff.1 h2; cases e; exact ⟨y, (pNum_q (sh := ⟨true, _, _, _, _, _, _⟩) rfl hy).1, hp, rfl⟩)

theorem qHead_p {k : Nat} {sh : Shape} {r r3 : List UInt8} {y : Nat × List UInt8} (hs : shapeOf k = some sh) (hm : 0 < sh.most) (h : qNum sh r = some y) (hc : qComma sh y.2 = some r3) :
    ¬ k ≤ 4 ∧ pHead k sh r = some (y.1, r3) := by
  unfold pHead
  rcases shape_cases hs with rfl | rfl | rfl | rfl | rfl | rfl | rfl | rfl | rfl | rfl | rfl
  all_goals (simp only [shapeOf, Option.some.injEq] at hs; subst hs)
  all_goals (try (exact absurd hm (by decide)))
  all_goals (refine ⟨by decide, ?_⟩)
  all_goals first
    | (simp only [qNum, qComma] at h hc; simp at h hc; subst h; simp at hc ⊢; exact hc)
    | (rw [if_pos (by decide)]; exact Option.bind_eq_some_iff.2 ⟨y, qNum_p (sh := ⟨true, _, _, _, _, _, _⟩) rfl h (stop_pass (.inl rfl) hc), Option.bind_eq_some_iff.2 ⟨r3, hc, rfl⟩⟩)
end Go.Proofs.Yteiadbiopcidmaa
