import Derived.Test.YteiadbiopcidmaaTerm5
namespace Go.Proofs.Yteiadbiopcidmaa
set_option linter.unusedVariables false
set_option linter.unusedSimpArgs false
set_option maxRecDepth 100000
open Go.RowKit


def strV (l : List UInt8) : Value := .string (strB l)
theorem Try.infoStr : (Try.prog.info? 9).map (fun i => (i.zero, i.size, i.bytes)) = some (some (.string ⟨#[]⟩), 1, 16) := by kernel_rfl

/-- the parts that are kept: at the outermost term's alone -/
def Parts (z : Bool) (R : Nat) (w : World) (pv pv' : Value) (ps : List (List UInt8)) : Prop :=
  match z with
  | true => w.ownsRow R 9 1 pv' ps.length (ps.map strV)
  | false => pv' = pv

theorem ownsRow_base {w : World} {B B' : Nat} {e : TypeId} {size : Nat} {v : Value} {n : Nat} {xs : List Value} (h : w.ownsRow B e size v n xs) (hB : B' ≤ B) : w.ownsRow B' e size v n xs := by
  refine ⟨h.1, ?_⟩
  rcases h.2 with h2 | ⟨g, cap, cur, h1, h2, rest⟩
  · exact .inl h2
  · exact .inr ⟨g, cap, cur, h1, Nat.le_trans hB h2, rest⟩
theorem Parts.base {z : Bool} {R R' : Nat} {w : World} {pv pv' : Value} {ps : List (List UInt8)} (h : Parts z R w pv pv' ps) (hR : R' ≤ R) : Parts z R' w pv pv' ps := by
  cases z with
  | true => exact ownsRow_base h hR
  | false => exact h
theorem own_ne {w : World} {B b : Nat} {e : TypeId} {size : Nat} {v : Value} {n : Nat} {xs : List Value} (h : w.ownsRow B e size v n xs) (hb : b < B) : v.ownBlock ≠ some b := by
  intro e
  have := h.lt b e
  omega
theorem Parts.kept {z : Bool} {R b : Nat} {w w' : World} {pv pv' : Value} {ps : List (List UInt8)} (h : Parts z R w pv pv' ps) (hb : b < R) (hG : w.grownBy w' (some b)) : Parts z R w' pv pv' ps := by
  cases z with
  | true => exact World.ownsRow.kept h hG (.inr (own_ne h hb))
  | false => exact h

def TOk (w : World) (b : Nat) (s : ByteArray) (m d : Nat) (pv : Value) (x : Nat × Nat × List (List UInt8) × List UInt8) (e : Ending) (w' : World) : Prop :=
  e = .returned (.tuple #[.int .i64 x.1, .int .u64 x.2.1]) ∧ ∃ pv', Rd w' b s (posOf s x.2.2.2) m d pv' ∧ w.grownBy w' (some b) ∧ Parts (d == 0) w.heap.size w' pv pv' x.2.2.1
def TBad (w : World) (b : Nat) (e : Ending) (w' : World) : Prop := e = .panicked faultC ∧ w.grownBy w' (some b)
def TPost (w : World) (b : Nat) (s : ByteArray) (m d : Nat) (pv : Value) (o : Option (Nat × Nat × List (List UInt8) × List UInt8)) (e : Ending) (w' : World) : Prop :=
  match o with
  | some x => TOk w b s m d pv x e w'
  | none => TBad w b e w'
def LPost (w : World) (b : Nat) (s : ByteArray) (m d : Nat) (pv : Value) (o : Option (List (List UInt8) × List UInt8)) (e : Ending) (w' : World) : Prop :=
  match o with
  | some x => e = .returned (.tuple #[]) ∧ ∃ pv', Rd w' b s (posOf s x.2) m d pv' ∧ w.grownBy w' (some b) ∧ Parts (d == 1) w.heap.size w' pv pv' x.1
  | none => TBad w b e w'

abbrev nilV : Value := .slice none 0 0
def TermIH (g : Nat) : Prop := ∀ (b m d p : Nat) (s : ByteArray) (pv : Value) (w : World), s.size ≤ 65536 → d ≤ p → p ≤ s.size → s.size - p ≤ g + 1 → Rd w b s p m d pv →
  w.heap[m]? = some (.map (esN 11) 11) → m ≠ b → (d = 0 → pv = nilV) → Calls Try.prog 29 #[.pointer (some ⟨b, 0, none⟩)] w (TPost w b s m d pv (qTermS (qLoop g) (s.data.toList.drop p)))

theorem TOk.deep {w : World} {b : Nat} {s : ByteArray} {m d : Nat} {pv : Value} {x : Nat × Nat × List (List UInt8) × List UInt8} {e : Ending} {w' : World} (hd : 1 ≤ d) (h : TOk w b s m d pv x e w') :
    e = .returned (.tuple #[.int .i64 x.1, .int .u64 x.2.1]) ∧ Rd w' b s (posOf s x.2.2.2) m d pv ∧ w.grownBy w' (some b) := by
  obtain ⟨he, pv', hR, hG, hP⟩ := h
  rw [show (d == 0) = false by simp; omega] at hP
  cases hP
  exact ⟨he, hR, hG⟩

theorem head_byte (s : ByteArray) (q : Nat) (c : UInt8) (hc : c ≠ 0) : (s.data.toList.drop q).head? = some c ↔ byteAt s q = c.toNat := by
  by_cases h : q < s.size
  · rw [drop_at s q h, byteAt_lt h]
    simp only [List.head?_cons, Option.some.injEq]
    exact ⟨fun e => by rw [e], fun e => UInt8.toNat_inj.1 (Int.ofNat.inj e)⟩
  · rw [drop_end s q h, byteAt_ge h]
    simp only [List.head?_nil, reduceCtorEq, false_iff]
    intro e
    exact hc (UInt8.toNat_inj.1 (by simp; omega))
theorem byte_in {s : ByteArray} {q : Nat} {c : Int} (hc : c ≠ 0) (h : byteAt s q = c) : q < s.size := by
  by_cases hq : q < s.size
  · exact hq
  · rw [byteAt_ge hq] at h; omega

theorem qTermS_len {L : Shape → LoopT} (hL : ∀ sh acc r x, L sh acc r = some x → x.2 <:+ r) {l : List UInt8} {x : Nat × Nat × List (List UInt8) × List UInt8} (h : qTermS L l = some x) : x.2.2.2 <:+ l ∧ x.2.2.2.length < l.length := by
  cases l with
  | nil => cases h
  | cons c r =>
    have key : x.2.2.2 <:+ r := by
      simp only [qTermS] at h
      obtain ⟨sh, _, h⟩ := Option.bind_eq_some_iff.1 h
      have hnum : ∀ {l : List UInt8} {y : Nat × List UInt8}, qNum sh l = some y → y.2 <:+ l := by
        intro l y hy
        unfold qNum at hy
        split at hy
        · split at hy
          · cases hy; exact List.dropWhile_suffix _
          · cases hy
        · cases hy; exact List.suffix_refl _
      have hpass : ∀ {c : UInt8} {l r : List UInt8}, pass c l = some r → r <:+ l := by
        intro c l r hp
        rw [pass_some] at hp; subst hp; exact List.suffix_cons ..
      split at h
      · obtain ⟨y, hy, e⟩ := Option.bind_eq_some_iff.1 h
        cases e
        unfold qIn at hy
        obtain ⟨r1, h1, hy⟩ := Option.bind_eq_some_iff.1 hy
        obtain ⟨r2, h2, hy⟩ := Option.bind_eq_some_iff.1 hy
        obtain ⟨r3, h3, hy⟩ := Option.bind_eq_some_iff.1 hy
        obtain ⟨r4, h4, hy⟩ := Option.bind_eq_some_iff.1 hy
        obtain ⟨r5, h5, hy⟩ := Option.bind_eq_some_iff.1 hy
        cases hy
        have s3 : r3 <:+ r2.2 := by
          unfold qComma at h3
          split at h3
          · exact hpass h3
          · cases h3; exact List.suffix_refl _
        have s4 : r4.2 <:+ r3 := by
          unfold qList at h4
          split at h4
          · cases h4; exact List.suffix_refl _
          · exact hL _ _ _ _ h4
        exact (hpass h5).trans (s4.trans (s3.trans ((hnum h2).trans (hpass h1))))
      · obtain ⟨y, hy, e⟩ := Option.bind_eq_some_iff.1 h
        cases e
        unfold qLeaf at hy
        split at hy
        · split at hy
          · exact (hnum hy).trans (List.dropWhile_suffix _)
          · cases hy
        · exact hnum hy
    exact ⟨key.trans (List.suffix_cons ..), by have := key.length_le; simp; omega⟩

theorem qLoop_suf : ∀ (f : Nat) (sh : Shape) (acc : List (List UInt8)) (r : List UInt8) (x : List (List UInt8) × List UInt8), qLoop f sh acc r = some x → x.2 <:+ r := by
  intro f
  induction f with
  | zero => intro sh acc r x h; cases h
  | succ f ih =>
    intro sh acc r x h
    simp only [qLoop] at h
    obtain ⟨y, hy, h⟩ := Option.bind_eq_some_iff.1 h
    have hs := (qTermS_len (fun sh acc r x => ih sh acc r x) hy).1
    split at h
    · cases h
    · split at h
      · exact ((ih _ _ _ _ h).trans (List.tail_suffix _)).trans hs
      · split at h
        · cases h; exact hs
        · cases h
theorem qTerm_suf {f : Nat} {l : List UInt8} {x : Nat × Nat × List (List UInt8) × List UInt8} (h : qTermS (qLoop f) l = some x) : x.2.2.2 <:+ l ∧ x.2.2.2.length < l.length :=
  qTermS_len (fun sh acc r x => qLoop_suf f sh acc r x) h

/-- the piece between two places -/
theorem part_eq (s : ByteArray) (q : Nat) (rest : List UInt8) (hq : q ≤ posOf s rest) (hq2 : posOf s rest ≤ s.size) (hl : rest.length ≤ s.size) : s.extract q (posOf s rest) = strB (partOf (s.data.toList.drop q) rest) := by
  rw [slice_str s q _ hq hq2]
  unfold sub strB partOf posOf
  congr 3
  simp; omega
end Go.Proofs.Yteiadbiopcidmaa
