import Derived.Test.YtbaceiohcbhpaaaDoorAddrSpec
import Derived.Lib.Join
namespace Go.Proofs.YtbaceiohcbhpaaaDoor
set_option linter.unusedVariables false
set_option linter.unusedSimpArgs false
open Go.RowKit

/-- cut at points and colons -/
def splitP : List UInt8 → List (List UInt8)
  | [] => [[]]
  | c :: r => if c = 46 ∨ c = 58 then [] :: splitP r else (match splitP r with | p :: ps => (c :: p) :: ps | [] => [[c]])
def guessOne (six : Bool) (p : List UInt8) : Option (List UInt8) := if six then (if hxCode p = 0 then some (hxBytes p) else none) else (if rdCode p = 0 then some [UInt8.ofNat ((rdVal p).toNat % 256)] else none)
def guessAll (six : Bool) : List (List UInt8) → Option (List UInt8)
  | [] => some []
  | p :: ps => (guessOne six p).bind fun x => (guessAll six ps).bind fun y => some (x ++ y)
/-- the address whose text it is -/
def refRead (s : List UInt8) : Option (List UInt8) := (guessAll (s.length == 39) (splitP s)).bind fun g => if (g.length = if s.length = 39 then 16 else 4) ∧ printA g = s then some g else none
theorem splitP_ne (s : List UInt8) : splitP s ≠ [] := by
  cases s with
  | nil => simp [splitP]
  | cons c r =>
    simp only [splitP]
    split
    · simp
    · split <;> simp
def NoSep (p : List UInt8) : Prop := ∀ c ∈ p, c ≠ 46 ∧ c ≠ 58
theorem split_one : ∀ {p : List UInt8}, NoSep p → splitP p = [p] := by
  intro p
  induction p with
  | nil => intro _; rfl
  | cons c p ih =>
    intro h
    have hc := h c (List.mem_cons_self ..)
    simp only [splitP]
    rw [if_neg (by simp [hc.1, hc.2]), ih fun x hx => h x (List.mem_cons_of_mem _ hx)]
theorem split_cons {s : UInt8} (hs : s = 46 ∨ s = 58) : ∀ {p r : List UInt8}, NoSep p → splitP (p ++ s :: r) = p :: splitP r := by
  intro p
  induction p with
  | nil => intro r _; simp only [List.nil_append, splitP]; rw [if_pos hs]
  | cons c p ih =>
    intro r h
    have hc := h c (List.mem_cons_self ..)
    rw [List.cons_append]
    simp only [splitP]
    rw [if_neg (by simp [hc.1, hc.2]), ih fun x hx => h x (List.mem_cons_of_mem _ hx)]
theorem split_join {s : UInt8} (hs : s = 46 ∨ s = 58) : ∀ {ps : List (List UInt8)}, ps ≠ [] → (∀ p ∈ ps, NoSep p) → splitP (Lib.join ps [s]) = ps := by
  intro ps
  induction ps with
  | nil => intro h; exact absurd rfl h
  | cons p ps ih =>
    intro _ h
    have hp := h p (List.mem_cons_self ..)
    by_cases hps : ps = []
    · subst hps; rw [Lib.join_one, split_one hp]
    · have hj : Lib.join (p :: ps) [s] = p ++ s :: Lib.join ps [s] := by
        cases ps with
        | nil => exact absurd rfl hps
        | cons y l => rw [Lib.join_cons, Lib.join_cons]; simp [Lib.joinTail]
      rw [hj, split_cons hs hp, ih hps fun x hx => h x (List.mem_cons_of_mem _ hx)]
theorem nosep_digs {p : List UInt8} {b : Nat} (hb : b ≤ 16) (h : digs p b = true) : NoSep p := by
  intro c hc
  have := digs_mem h hc
  constructor <;> (intro e; subst e; revert this; simp [val]; try omega)
theorem guess_four (x : UInt8) : guessOne false (decs x.toNat) = some [x] := by
  have hx := UInt8.toNat_lt x
  obtain ⟨h1, h2⟩ := rd_decs x.toNat (by unfold top; omega)
  unfold guessOne
  rw [if_neg (by simp), if_pos h2, h1]
  simp
theorem guess_six (x y : UInt8) : guessOne true (hexOf [x, y]) = some [x, y] := by
  unfold guessOne
  rw [if_pos rfl, (hx_hexOf _).2, if_pos rfl, (hx_hexOf _).1]
theorem print4 (x0 x1 x2 x3 : UInt8) : printA [x0, x1, x2, x3] = Lib.join [decs x0.toNat, decs x1.toNat, decs x2.toNat, decs x3.toNat] [46] := by
  simp [printA, prt, prtP, Lib.join_cons, Lib.joinTail]
theorem hexOf_two (x y : UInt8) : hexOf [x] ++ hexOf [y] = hexOf [x, y] := by simp [hexOf]
theorem refRead4 (x0 x1 x2 x3 : UInt8) : refRead (printA [x0, x1, x2, x3]) = some [x0, x1, x2, x3] := by
  have hl : (printA [x0, x1, x2, x3]).length ≤ 30 := by
    rw [print4]
    have h0 := decs_len 2 x0.toNat (by have := UInt8.toNat_lt x0; omega)
    have h1 := decs_len 2 x1.toNat (by have := UInt8.toNat_lt x1; omega)
    have h2 := decs_len 2 x2.toNat (by have := UInt8.toNat_lt x2; omega)
    have h3 := decs_len 2 x3.toNat (by have := UInt8.toNat_lt x3; omega)
    simp [Lib.join_cons, Lib.joinTail]
    omega
  have hsp : splitP (printA [x0, x1, x2, x3]) = [decs x0.toNat, decs x1.toNat, decs x2.toNat, decs x3.toNat] := by
    rw [print4]
    refine split_join (.inl rfl) (by simp) ?_
    intro p hp
    simp only [List.mem_cons, List.not_mem_nil, or_false] at hp
    rcases hp with rfl | rfl | rfl | rfl <;> exact nosep_digs (b := 10) (by omega) (decs_digs _)
  unfold refRead
  rw [show ((printA [x0, x1, x2, x3]).length == 39) = false by simp; omega, hsp]
  simp only [guessAll, guess_four]
  simp
  omega
theorem print16 (x0 x1 x2 x3 x4 x5 x6 x7 x8 x9 xa xb xc xd xe xf : UInt8) : printA [x0, x1, x2, x3, x4, x5, x6, x7, x8, x9, xa, xb, xc, xd, xe, xf] =
    Lib.join [hexOf [x0, x1], hexOf [x2, x3], hexOf [x4, x5], hexOf [x6, x7], hexOf [x8, x9], hexOf [xa, xb], hexOf [xc, xd], hexOf [xe, xf]] [58] := by
  simp only [← hexOf_two]
  simp [printA, prt, prtP, Lib.join_cons, Lib.joinTail]
theorem refRead16 (x0 x1 x2 x3 x4 x5 x6 x7 x8 x9 xa xb xc xd xe xf : UInt8) : refRead (printA [x0, x1, x2, x3, x4, x5, x6, x7, x8, x9, xa, xb, xc, xd, xe, xf]) = some [x0, x1, x2, x3, x4, x5, x6, x7, x8, x9, xa, xb, xc, xd, xe, xf] := by
  have hl : (printA [x0, x1, x2, x3, x4, x5, x6, x7, x8, x9, xa, xb, xc, xd, xe, xf]).length = 39 := by
    rw [print16]
    simp [Lib.join_cons, Lib.joinTail, hexOf_length]
  have hsp : splitP (printA [x0, x1, x2, x3, x4, x5, x6, x7, x8, x9, xa, xb, xc, xd, xe, xf]) = [hexOf [x0, x1], hexOf [x2, x3], hexOf [x4, x5], hexOf [x6, x7], hexOf [x8, x9], hexOf [xa, xb], hexOf [xc, xd], hexOf [xe, xf]] := by
    rw [print16]
    refine split_join (.inr rfl) (by simp) ?_
    intro p hp
    simp only [List.mem_cons, List.not_mem_nil, or_false] at hp
    rcases hp with rfl | rfl | rfl | rfl | rfl | rfl | rfl | rfl <;> exact nosep_digs (b := 16) (by omega) (hexOf_digs _)
  unfold refRead
  rw [show ((printA [x0, x1, x2, x3, x4, x5, x6, x7, x8, x9, xa, xb, xc, xd, xe, xf]).length == 39) = true by simp [hl], hsp]
  simp only [guessAll, guess_six]
  simp [hl]
theorem refRead_print {a : List UInt8} (h : a.length = 4 ∨ a.length = 16) : refRead (printA a) = some a := by
  rcases h with h | h
  · match a, h with
    | [x0, x1, x2, x3], _ => exact refRead4 ..
  · match a, h with
    | [x0, x1, x2, x3, x4, x5, x6, x7, x8, x9, xa, xb, xc, xd, xe, xf], _ => exact refRead16 ..
/-- the plain prefix whose text it is -/
def refReadP (s : List UInt8) : Option (List UInt8 × Nat) :=
  if s.dropWhile (· != 47) = [] then none else
  (refRead (s.takeWhile (· != 47))).bind fun a =>
    if rdCode (s.dropWhile (· != 47)).tail = 0 ∧ (rdVal (s.dropWhile (· != 47)).tail).toNat ≤ 128 ∧ rightP a.length ((rdVal (s.dropWhile (· != 47)).tail).toNat : Int) = true ∧ plainS a (rdVal (s.dropWhile (· != 47)).tail).toNat = a then some (a, (rdVal (s.dropWhile (· != 47)).tail).toNat) else none
def NoSlash (p : List UInt8) : Prop := ∀ c ∈ p, (c != 47) = true
theorem noslash_app {p q : List UInt8} (h : NoSlash p) (h2 : NoSlash q) : NoSlash (p ++ q) := fun c hc => by
  rcases List.mem_append.1 hc with hc | hc
  · exact h c hc
  · exact h2 c hc
theorem noslash_digs {p : List UInt8} {b : Nat} (hb : b ≤ 16) (h : digs p b = true) : NoSlash p := by
  intro c hc
  have := digs_mem h hc
  simp only [bne_iff_ne]
  intro e; subst e; revert this; simp [val]; try omega
theorem noslash_prt (n : Nat) (a : List UInt8) (k : Nat) : NoSlash (prt n a k) := by
  induction k with
  | zero => intro c hc; cases hc
  | succ k ih =>
    refine noslash_app ih ?_
    unfold prtP
    split
    · refine noslash_app ?_ (noslash_digs (b := 10) (by omega) (decs_digs _))
      split
      · intro c hc; rw [List.mem_singleton.1 hc]; decide
      · intro c hc; cases hc
    · refine noslash_app ?_ (noslash_digs (b := 16) (by omega) (hexOf_digs _))
      split
      · intro c hc; rw [List.mem_singleton.1 hc]; decide
      · intro c hc; cases hc
theorem slash_cut : ∀ {p : List UInt8} (r : List UInt8), NoSlash p → (p ++ 47 :: r).takeWhile (· != 47) = p ∧ (p ++ 47 :: r).dropWhile (· != 47) = 47 :: r := by
  intro p
  induction p with
  | nil => intro r _; exact ⟨rfl, rfl⟩
  | cons c p ih =>
    intro r h
    have hc := h c (List.mem_cons_self ..)
    have := ih r fun x hx => h x (List.mem_cons_of_mem _ hx)
    rw [List.cons_append, List.takeWhile_cons_of_pos (p := fun x => x != 47) hc, List.dropWhile_cons_of_pos (p := fun x => x != 47) hc, this.1, this.2]
    exact ⟨rfl, rfl⟩
theorem refReadP_print {a : List UInt8} {m : Nat} (hr : rightP a.length m = true) (hp : plainS a m = a) : refReadP (printA a ++ 47 :: decs m) = some (a, m) := by
  obtain ⟨h1, h2, h3⟩ := right_len hr
  have hm : m ≤ 128 := by omega
  obtain ⟨e1, e2⟩ := slash_cut (decs m) (noslash_prt a.length a a.length)
  obtain ⟨d1, d2⟩ := rd_decs m (by unfold top; omega)
  unfold refReadP printA
  rw [e1, e2, if_neg (by simp)]
  rw [show prt a.length a a.length = printA a from rfl, refRead_print h1]
  simp [d1, d2, hm, hr, hp]
def readC (s : List UInt8) : List UInt8 × Int := match refRead s with | some a => (a, 0) | none => ([], 3)
def ReadRet (w : World) (x : List UInt8 × Int) (e : Ending) (w' : World) : Prop :=
  ∃ ad cp, e = .returned (.tuple #[.slice ad x.1.length cp, .int .i64 x.2]) ∧ Bytes w' (.slice ad x.1.length cp) x.1 ∧ x.1.length ≤ cp ∧ cp ≤ maxLen ∧ Below w.heap.size w w'
def readPC (s : List UInt8) : List UInt8 × Int × Int := match refReadP s with | some x => (x.1, x.2, 0) | none => ([], 0, 3)
def ReadPRet (w : World) (x : List UInt8 × Int × Int) (e : Ending) (w' : World) : Prop :=
  ∃ ad cp, e = .returned (.tuple #[.agg #[.slice ad x.1.length cp, .int .i64 x.2.1], .int .i64 x.2.2]) ∧ Bytes w' (.slice ad x.1.length cp) x.1 ∧ x.1.length ≤ cp ∧ cp ≤ maxLen ∧ Below w.heap.size w w'
end Go.Proofs.YtbaceiohcbhpaaaDoor
