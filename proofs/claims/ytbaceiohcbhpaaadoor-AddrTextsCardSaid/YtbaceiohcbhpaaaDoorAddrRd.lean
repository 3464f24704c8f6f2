/- What the program reads as an address is what the reference reads: plain mathematics. -/
import Derived.Test.YtbaceiohcbhpaaaDoorAddrMath
import Derived.Lib.Bytealg
namespace Go.Proofs.YtbaceiohcbhpaaaDoor
set_option linter.unusedVariables false
set_option linter.unusedSimpArgs false
open Go.RowKit

def NoC (c : UInt8) (p : List UInt8) : Prop := ∀ x ∈ p, x ≠ c
theorem idx_no {c : UInt8} : ∀ {s : List UInt8}, NoC c s → Lib.indexByte s c = -1
  | [], _ => rfl
  | b :: l, h => by
    have hb : b ≠ c := h b (List.mem_cons_self ..)
    have ih := idx_no (s := l) fun x hx => h x (List.mem_cons_of_mem _ hx)
    unfold Lib.indexByte
    rw [ih]
    simp [hb]
theorem idx_at {c : UInt8} (r : List UInt8) : ∀ {p : List UInt8}, NoC c p → Lib.indexByte (p ++ c :: r) c = p.length
  | [], _ => by simp [Lib.indexByte]
  | b :: l, h => by
    have hb : b ≠ c := h b (List.mem_cons_self ..)
    have ih := idx_at (c := c) r (p := l) fun x hx => h x (List.mem_cons_of_mem _ hx)
    rw [List.cons_append]
    unfold Lib.indexByte
    rw [ih]
    have h1 : ((l.length : Int) == -1) = false := by simp
    simp [hb, h1]
theorem c_or (c : UInt8) : ∀ s : List UInt8, NoC c s ∨ ∃ p r, s = p ++ c :: r ∧ NoC c p
  | [] => .inl fun x hx => by cases hx
  | b :: l => by
    by_cases hb : b = c
    · right; exact ⟨[], l, by simp [hb], fun x hx => by cases hx⟩
    · rcases c_or c l with h | ⟨p, r, rfl, hp⟩
      · left; intro x hx
        rcases List.mem_cons.1 hx with rfl | hx
        · exact hb
        · exact h x hx
      · right; refine ⟨b :: p, r, rfl, fun x hx => ?_⟩
        rcases List.mem_cons.1 hx with rfl | hx
        · exact hb
        · exact hp x hx
/-- at most k cuts at c -/
def splitK (c : UInt8) : Nat → List UInt8 → List (List UInt8)
  | 0, s => [s]
  | k + 1, s => if Lib.indexByte s c < 0 then [s] else s.take (Lib.indexByte s c).toNat :: splitK c k (s.drop ((Lib.indexByte s c).toNat + 1))
theorem splitK_no {c : UInt8} {s : List UInt8} (h : NoC c s) : ∀ k, splitK c k s = [s]
  | 0 => rfl
  | k + 1 => by unfold splitK; rw [idx_no h]; rfl
theorem splitK_at {c : UInt8} {p : List UInt8} (r : List UInt8) (h : NoC c p) (k : Nat) : splitK c (k + 1) (p ++ c :: r) = p :: splitK c k r := by
  conv => lhs; unfold splitK
  rw [idx_at r h, if_neg (by omega)]
  simp
theorem splitK_ne (c : UInt8) (k : Nat) (s : List UInt8) : splitK c k s ≠ [] := by
  cases k with
  | zero => simp [splitK]
  | succ k => unfold splitK; split <;> simp
theorem join_two (c : UInt8) (p : List UInt8) {L : List (List UInt8)} (h : L ≠ []) : Lib.join (p :: L) [c] = p ++ c :: Lib.join L [c] := by
  cases L with
  | nil => exact absurd rfl h
  | cons y l => rw [Lib.join_cons, Lib.join_cons]; simp [Lib.joinTail]
theorem splitK_join (c : UInt8) : ∀ (k : Nat) (s : List UInt8), Lib.join (splitK c k s) [c] = s
  | 0, s => Lib.join_one _ _
  | k + 1, s => by
    rcases c_or c s with h | ⟨p, r, rfl, hp⟩
    · rw [splitK_no h]; exact Lib.join_one _ _
    · rw [splitK_at r hp, join_two _ _ (splitK_ne _ _ _), splitK_join c k r]
theorem splitK_len (c : UInt8) : ∀ (k : Nat) (s : List UInt8), (splitK c k s).length ≤ k + 1 ∧ ((splitK c k s).length < k + 1 → ∀ p ∈ splitK c k s, NoC c p)
  | 0, s => ⟨by simp [splitK], fun h => by simp [splitK] at h⟩
  | k + 1, s => by
    rcases c_or c s with h | ⟨p, r, rfl, hp⟩
    · rw [splitK_no h]; exact ⟨by simp, fun _ q hq => by rw [List.mem_singleton.1 hq]; exact h⟩
    · have ih := splitK_len c k r
      rw [splitK_at r hp]
      refine ⟨by simp; exact ih.1, fun hlt q hq => ?_⟩
      rcases List.mem_cons.1 hq with rfl | hq
      · exact hp
      · exact ih.2 (by simp at hlt; omega) q hq
theorem splitK_of {c : UInt8} : ∀ (k : Nat) {L : List (List UInt8)}, L ≠ [] → (∀ p ∈ L, NoC c p) → L.length ≤ k + 1 → splitK c k (Lib.join L [c]) = L
  | k, [], h, _, _ => absurd rfl h
  | k, [p], _, hp, _ => by rw [Lib.join_one, splitK_no (hp p (List.mem_cons_self ..))]
  | 0, p :: q :: l, _, _, hl => by simp at hl
  | k + 1, p :: q :: l, _, hp, hl => by
    rw [join_two _ _ (by simp), splitK_at _ (hp p (List.mem_cons_self ..)), splitK_of k (L := q :: l) (by simp) (fun x hx => hp x (List.mem_cons_of_mem _ hx)) (by simp at hl ⊢; omega)]
theorem join_size (c : UInt8) : ∀ {L : List (List UInt8)}, L ≠ [] → (Lib.join L [c]).length + 1 = (L.map List.length).sum + L.length
  | [], h => absurd rfl h
  | [p], _ => by rw [Lib.join_one]; simp
  | p :: q :: l, _ => by
    rw [join_two _ _ (by simp), List.length_append, List.length_cons]
    have := join_size c (L := q :: l) (by simp)
    simp only [List.map_cons, List.sum_cons, List.length_cons] at this ⊢
    omega
/-- the n fields that stand between the signs c, if there are just n -/
def fieldsP (c : UInt8) (n : Nat) (s : List UInt8) : Option (List (List UInt8)) := if (splitK c (min n s.length) s).length = n then some (splitK c (min n s.length) s) else none
theorem sum_zero {L : List (List UInt8)} (h : (L.map List.length).sum = 0) : ∀ p ∈ L, p = [] := by
  intro p hp
  induction L with
  | nil => cases hp
  | cons q l ih =>
    simp only [List.map_cons, List.sum_cons] at h
    rcases List.mem_cons.1 hp with rfl | hp
    · exact List.length_eq_zero_iff.1 (by omega)
    · exact ih (by omega) hp
theorem fields_of {c : UInt8} {n : Nat} {s : List UInt8} {L : List (List UInt8)} (h : fieldsP c n s = some L) : L.length = n ∧ (∀ p ∈ L, NoC c p) ∧ Lib.join L [c] = s := by
  unfold fieldsP at h
  split at h
  · rename_i hl
    cases h
    refine ⟨hl, ?_, splitK_join ..⟩
    obtain ⟨h1, h2⟩ := splitK_len c (min n s.length) s
    rcases Nat.lt_or_ge (splitK c (min n s.length) s).length (min n s.length + 1) with h3 | h3
    · exact h2 h3
    · have h4 := join_size c (splitK_ne c (min n s.length) s)
      rw [splitK_join] at h4
      intro p hp
      rw [sum_zero (by omega) p hp]
      intro x hx; cases hx
  · cases h
theorem fields_is {c : UInt8} {n : Nat} {L : List (List UInt8)} (hn : 1 ≤ n) (h1 : L.length = n) (h2 : ∀ p ∈ L, NoC c p) : fieldsP c n (Lib.join L [c]) = some L := by
  have hne : L ≠ [] := by intro h; rw [h] at h1; simp at h1; omega
  have h4 := join_size c hne
  unfold fieldsP
  rw [splitK_of _ hne h2 (by omega), if_pos h1]
/-! short ones -/
def okS (f : List UInt8) : Bool := decide (rdCode f = 0) && decide (rdVal f ≤ 255)
def shortGo : List (List UInt8) → Option (List UInt8)
  | [] => some []
  | f :: fs => if okS f = true then (shortGo fs).map (UInt8.ofNat (rdVal f).toNat :: ·) else none
theorem shortGo_snoc (f : List UInt8) : ∀ L : List (List UInt8), shortGo (L ++ [f]) = (shortGo L).bind fun a => if okS f = true then some (a ++ [UInt8.ofNat (rdVal f).toNat]) else none
  | [] => by simp only [List.nil_append, shortGo]; cases okS f <;> rfl
  | g :: L => by
    rw [List.cons_append]
    unfold shortGo
    rw [shortGo_snoc f L]
    cases okS g with
    | false => rfl
    | true =>
      cases shortGo L with
      | none => rfl
      | some a => cases okS f <;> rfl
theorem shortGo_none {L M : List (List UInt8)} (h : shortGo L = none) : shortGo (L ++ M) = none := by
  induction L with
  | nil => cases h
  | cons g L ih =>
    rw [List.cons_append]
    unfold shortGo at h ⊢
    cases hg : okS g with
    | false => rfl
    | true =>
      rw [hg] at h
      cases hL : shortGo L with
      | none => rw [ih hL]; rfl
      | some a => rw [hL] at h; cases h
def shortP (s : List UInt8) : Option (List UInt8) := (fieldsP 46 4 s).bind shortGo
/-! long ones -/
def okL (f : List UInt8) : Bool := decide (hxCode f = 0) && decide ((hxBytes f).length = 2)
def longGo : List (List UInt8) → Option (List UInt8)
  | [] => some []
  | f :: fs => if okL f = true then (longGo fs).map (hxBytes f ++ ·) else none
theorem longGo_snoc (f : List UInt8) : ∀ L : List (List UInt8), longGo (L ++ [f]) = (longGo L).bind fun a => if okL f = true then some (a ++ hxBytes f) else none
  | [] => by simp only [List.nil_append, longGo]; cases okL f <;> simp
  | g :: L => by
    rw [List.cons_append]
    unfold longGo
    rw [longGo_snoc f L]
    cases okL g with
    | false => rfl
    | true =>
      cases longGo L with
      | none => rfl
      | some a => cases okL f <;> simp
theorem longGo_none {L M : List (List UInt8)} (h : longGo L = none) : longGo (L ++ M) = none := by
  induction L with
  | nil => cases h
  | cons g L ih =>
    rw [List.cons_append]
    unfold longGo at h ⊢
    cases hg : okL g with
    | false => rfl
    | true =>
      rw [hg] at h
      cases hL : longGo L with
      | none => rw [ih hL]; rfl
      | some a => rw [hL] at h; cases h
def longP (s : List UInt8) : Option (List UInt8) := (fieldsP 58 8 s).bind longGo
theorem okS_decs {f : List UInt8} (h : okS f = true) : f = decs (UInt8.ofNat (rdVal f).toNat).toNat := by
  unfold okS at h
  rw [Bool.and_eq_true, decide_eq_true_eq, decide_eq_true_eq] at h
  obtain ⟨u, h1, h2, h3⟩ := decs_rd f h.1
  have : u < 256 := by omega
  rw [h1]
  show f = decs (UInt8.ofNat u).toNat
  rw [toNat_ofNat this, h3]
theorem okS_u8 (x : UInt8) : okS (decs x.toNat) = true ∧ UInt8.ofNat (rdVal (decs x.toNat)).toNat = x := by
  have hx := UInt8.toNat_lt x
  obtain ⟨h1, h2⟩ := rd_decs x.toNat (by unfold top; omega)
  refine ⟨?_, ?_⟩
  · unfold okS; rw [h1, h2]; simp; omega
  · rw [h1]; simp
theorem okL_hex {f : List UInt8} (h : okL f = true) : ∃ x y, hxBytes f = [x, y] ∧ f = hexOf [x, y] := by
  unfold okL at h
  rw [Bool.and_eq_true, decide_eq_true_eq, decide_eq_true_eq] at h
  have h2 := hexOf_hx f h.1
  match hb : hxBytes f, h.2 with
  | [x, y], _ => exact ⟨x, y, rfl, by rw [← h2, hb]⟩
theorem okL_two (x y : UInt8) : okL (hexOf [x, y]) = true ∧ hxBytes (hexOf [x, y]) = [x, y] := by
  obtain ⟨h1, h2⟩ := hx_hexOf [x, y]
  refine ⟨?_, h1⟩
  unfold okL; rw [h1, h2]; rfl
theorem short_print {s a : List UInt8} (h : shortP s = some a) : a.length = 4 ∧ printA a = s := by
  unfold shortP at h
  cases hf : fieldsP 46 4 s with
  | none => rw [hf] at h; cases h
  | some L =>
    rw [hf] at h
    obtain ⟨h1, _, h3⟩ := fields_of hf
    match L, h1 with
    | [f0, f1, f2, f3], _ =>
      simp only [Option.bind_some, shortGo] at h
      cases h00 : okS f0 with
      | false => rw [h00] at h; cases h
      | true =>
      cases h01 : okS f1 with
      | false => rw [h00, h01] at h; cases h
      | true =>
      cases h02 : okS f2 with
      | false => rw [h00, h01, h02] at h; cases h
      | true =>
      cases h03 : okS f3 with
      | false => rw [h00, h01, h02, h03] at h; cases h
      | true =>
      rw [h00, h01, h02, h03] at h
      simp only [if_true, Option.map_some, Option.some.injEq] at h
      subst h
      refine ⟨rfl, ?_⟩
      rw [print4, ← okS_decs h00, ← okS_decs h01, ← okS_decs h02, ← okS_decs h03]
      exact h3
theorem noc_digs {p : List UInt8} {b : Nat} (hb : b ≤ 16) (h : digs p b = true) : NoC 46 p ∧ NoC 58 p := by
  have := nosep_digs hb h
  exact ⟨fun x hx => (this x hx).1, fun x hx => (this x hx).2⟩
theorem short_is {a : List UInt8} (h : a.length = 4) : shortP (printA a) = some a := by
  match a, h with
  | [x0, x1, x2, x3], _ =>
    unfold shortP
    rw [print4, fields_is (n := 4) (by omega) rfl (by
      intro p hp
      simp only [List.mem_cons, List.not_mem_nil, or_false] at hp
      rcases hp with rfl | rfl | rfl | rfl <;> exact (noc_digs (b := 10) (by omega) (decs_digs _)).1)]
    simp only [Option.bind_some, shortGo, (okS_u8 _).1, (okS_u8 _).2, if_true, Option.map_some]
theorem long_print {s a : List UInt8} (h : longP s = some a) : a.length = 16 ∧ printA a = s := by
  unfold longP at h
  cases hf : fieldsP 58 8 s with
  | none => rw [hf] at h; cases h
  | some L =>
    rw [hf] at h
    obtain ⟨h1, _, h3⟩ := fields_of hf
    match L, h1 with
    | [f0, f1, f2, f3, f4, f5, f6, f7], _ =>
      simp only [Option.bind_some, longGo] at h
      cases h00 : okL f0 with
      | false => rw [h00] at h; cases h
      | true =>
      cases h01 : okL f1 with
      | false => rw [h00, h01] at h; cases h
      | true =>
      cases h02 : okL f2 with
      | false => rw [h00, h01, h02] at h; cases h
      | true =>
      cases h03 : okL f3 with
      | false => rw [h00, h01, h02, h03] at h; cases h
      | true =>
      cases h04 : okL f4 with
      | false => rw [h00, h01, h02, h03, h04] at h; cases h
      | true =>
      cases h05 : okL f5 with
      | false => rw [h00, h01, h02, h03, h04, h05] at h; cases h
      | true =>
      cases h06 : okL f6 with
      | false => rw [h00, h01, h02, h03, h04, h05, h06] at h; cases h
      | true =>
      cases h07 : okL f7 with
      | false => rw [h00, h01, h02, h03, h04, h05, h06, h07] at h; cases h
      | true =>
      rw [h00, h01, h02, h03, h04, h05, h06, h07] at h
      obtain ⟨x0, y0, b0, e0⟩ := okL_hex h00
      obtain ⟨x1, y1, b1, e1⟩ := okL_hex h01
      obtain ⟨x2, y2, b2, e2⟩ := okL_hex h02
      obtain ⟨x3, y3, b3, e3⟩ := okL_hex h03
      obtain ⟨x4, y4, b4, e4⟩ := okL_hex h04
      obtain ⟨x5, y5, b5, e5⟩ := okL_hex h05
      obtain ⟨x6, y6, b6, e6⟩ := okL_hex h06
      obtain ⟨x7, y7, b7, e7⟩ := okL_hex h07
      simp only [if_true, Option.map_some, Option.some.injEq, b0, b1, b2, b3, b4, b5, b6, b7, List.cons_append, List.nil_append] at h
      subst h
      refine ⟨rfl, ?_⟩
      rw [print16, ← e0, ← e1, ← e2, ← e3, ← e4, ← e5, ← e6, ← e7]
      exact h3
theorem long_is {a : List UInt8} (h : a.length = 16) : longP (printA a) = some a := by
  match a, h with
  | [x0, x1, x2, x3, x4, x5, x6, x7, x8, x9, xa, xb, xc, xd, xe, xf], _ =>
    unfold longP
    rw [print16, fields_is (n := 8) (by omega) rfl (by
      intro p hp
      simp only [List.mem_cons, List.not_mem_nil, or_false] at hp
      rcases hp with rfl | rfl | rfl | rfl | rfl | rfl | rfl | rfl <;> exact (noc_digs (b := 16) (by omega) (hexOf_digs _)).2)]
    simp only [Option.bind_some, longGo, (okL_two _ _).1, (okL_two _ _).2, if_true, Option.map_some, List.cons_append, List.nil_append]
theorem refRead_some {s g : List UInt8} (h : refRead s = some g) : (g.length = 4 ∨ g.length = 16) ∧ printA g = s := by
  unfold refRead at h
  cases hg : guessAll (s.length == 39) (splitP s) with
  | none => rw [hg] at h; cases h
  | some x =>
    rw [hg] at h
    rw [Option.bind_some] at h
    by_cases hc : (x.length = (if s.length = 39 then 16 else 4)) ∧ printA x = s
    · rw [if_pos hc] at h
      cases h
      refine ⟨?_, hc.2⟩
      have := hc.1
      split at this
      · right; exact this
      · left; exact this
    · rw [if_neg hc] at h; cases h
theorem read_eq (s : List UInt8) : refRead s = match shortP s with | some a => some a | none => longP s := by
  cases hs : shortP s with
  | some a =>
    obtain ⟨h1, h2⟩ := short_print hs
    show refRead s = some a
    rw [← h2]; exact refRead_print (.inl h1)
  | none =>
    show refRead s = longP s
    cases hl : longP s with
    | some a =>
      obtain ⟨h1, h2⟩ := long_print hl
      rw [← h2]; exact refRead_print (.inr h1)
    | none =>
      cases hr : refRead s with
      | none => rfl
      | some g =>
        obtain ⟨h1, h2⟩ := refRead_some hr
        rcases h1 with h1 | h1
        · have := short_is h1
          rw [h2, hs] at this; cases this
        · have := long_is h1
          rw [h2, hl] at this; cases this
theorem readC_short {s a : List UInt8} (h : shortP s = some a) : readC s = (a, 0) := by unfold readC; rw [read_eq, h]
theorem readC_long {s a : List UInt8} (h : shortP s = none) (h2 : longP s = some a) : readC s = (a, 0) := by unfold readC; rw [read_eq]; simp only [h, h2]
theorem readC_none {s : List UInt8} (h : shortP s = none) (h2 : longP s = none) : readC s = ([], 3) := by unfold readC; rw [read_eq]; simp only [h, h2]
end Go.Proofs.YtbaceiohcbhpaaaDoor
