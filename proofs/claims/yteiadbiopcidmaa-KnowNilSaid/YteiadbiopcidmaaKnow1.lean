/- Pieces of terms, as know reads them: plain mathematics, and what lies in memory. -/
import Derived.Test.YteiadbiopcidmaaTerm11
import Derived.Deep.AppendLies
namespace Go.Proofs.Yteiadbiopcidmaa
set_option linter.unusedVariables false
set_option linter.unusedSimpArgs false
set_option maxRecDepth 100000
open Go.RowKit

inductive Tm where
  | mk : Nat → List UInt8 → List Tm → Tm
def Tm.kind : Tm → Nat | .mk k _ _ => k
def Tm.text : Tm → List UInt8 | .mk _ t _ => t
def Tm.parts : Tm → List Tm | .mk _ _ p => p
def isStop (c : UInt8) : Bool := c == 0 || c == 40 || c == 44 || c == 41
def goes (c : UInt8) : Bool := !isStop c
def kW (l : List UInt8) : List UInt8 := l.takeWhile goes
def kR (l : List UInt8) : List UInt8 := l.dropWhile goes
def fixParts (k : Nat) (ps : List Tm) : Option (List Tm) := if k = 8 ∨ k = 10 then (match ps with | [] => none | _ :: t => some t) else some ps
abbrev KLoop := List Tm → List UInt8 → Option (List Tm × List UInt8)
def kPieceS (L : KLoop) (l : List UInt8) : Option (Tm × List UInt8) :=
  if kW l = [] then none else
  if (kR l).head? = some 40 then (L [] (kR l)).bind fun x => (fixParts (kindOf (l.headD 0)) x.1).map fun ps => (.mk (kindOf (l.headD 0)) (l.take (l.length - x.2.length)) ps, x.2)
  else (fixParts (kindOf (l.headD 0)) []).map fun ps => (.mk (kindOf (l.headD 0)) (kW l) ps, kR l)
def kLoop : Nat → KLoop
  | 0, _, _ => none
  | f + 1, acc, l => match l with
    | [] => none
    | _ :: r => if r.head? = some 41 then some (acc, r.tail) else
      (kPieceS (kLoop f) r).bind fun x => if x.2.head? = some 44 then kLoop f (acc ++ [x.1]) x.2 else if x.2.head? = some 41 then some (acc ++ [x.1], x.2.tail) else none
theorem kW_R (l : List UInt8) : kW l ++ kR l = l := List.takeWhile_append_dropWhile
/-- a suffix of what was to be read -/
theorem kPieceS_suf {L : KLoop} (hL : ∀ acc l ps r, L acc l = some (ps, r) → r <:+ l) {l : List UInt8} {t : Tm} {r : List UInt8} (h : kPieceS L l = some (t, r)) : r <:+ l ∧ r.length < l.length := by
  unfold kPieceS at h
  split at h
  · cases h
  · rename_i hw
    have hwl : (kW l).length + (kR l).length = l.length := by rw [← List.length_append, kW_R]
    have hw0 : 0 < (kW l).length := List.length_pos_iff.2 hw
    split at h
    · cases hx : L [] (kR l) with
      | none => rw [hx] at h; cases h
      | some x =>
        rw [hx] at h
        simp only [Option.bind_some] at h
        cases hf : fixParts (kindOf (l.headD 0)) x.1 with
        | none => rw [hf] at h; cases h
        | some ps =>
          rw [hf] at h
          cases h
          have h1 := hL _ _ _ _ hx
          have h2 := h1.length_le
          exact ⟨h1.trans (List.dropWhile_suffix _), by omega⟩
    · cases hf : fixParts (kindOf (l.headD 0)) [] with
      | none => rw [hf] at h; cases h
      | some ps =>
        rw [hf] at h
        cases h
        exact ⟨List.dropWhile_suffix _, by omega⟩
theorem kLoop_suf : ∀ f acc l ps r, kLoop f acc l = some (ps, r) → r <:+ l
  | 0, _, _, _, _, h => by cases h
  | f + 1, acc, l, ps, r, h => by
    cases l with
    | nil => cases h
    | cons c l =>
      simp only [kLoop] at h
      split at h
      · cases h; exact (List.tail_suffix _).trans (List.suffix_cons _ _)
      · cases hx : kPieceS (kLoop f) l with
        | none => rw [hx] at h; cases h
        | some x =>
          rw [hx] at h
          simp only [Option.bind_some] at h
          have h1 := (kPieceS_suf (kLoop_suf f) hx).1
          split at h
          · exact ((kLoop_suf f _ _ _ _ h).trans h1).trans (List.suffix_cons _ _)
          · split at h
            · cases h; exact ((List.tail_suffix _).trans h1).trans (List.suffix_cons _ _)
            · cases h
/-! in memory -/
def PtrRow (w : World) (v : Value) (bs : List Nat) : Prop :=
  ∃ a cap, v = .slice a bs.length cap ∧ bs.length ≤ cap ∧ cap ≤ maxLen ∧ (bs = [] ∨ ∃ g off, a = some ⟨g, off, none⟩ ∧ ∀ i, i < bs.length → w.cell? ⟨g, off + i, none⟩ = some (.pointer (some ⟨bs.getD i 0, 0, none⟩)))
/-- from a bound on -/
def Fr (b : Nat) : Nat → Prop := fun k => b ≤ k
/-- the block of a row in which something stands -/
def rowOk (ok : Nat → Prop) (v : Value) (bs : List Nat) : Prop := bs ≠ [] → ∀ a n c, v = .slice (some a) n c → ok a.block
mutual
def PieceAt (ok : Nat → Prop) (w : World) : Tm → Nat → Prop
  | .mk k t ps, B => ok B ∧ ∃ v bs, w.heap[B]? = some (.cells #[.int .i64 k, .string (strB t), v] 64 (0, 0)) ∧ PtrRow w v bs ∧ rowOk ok v bs ∧ PiecesAt ok w ps bs
def PiecesAt (ok : Nat → Prop) (w : World) : List Tm → List Nat → Prop
  | [], bs => bs = []
  | t :: ts, bs => ∃ b r, bs = b :: r ∧ PieceAt ok w t b ∧ PiecesAt ok w ts r
end
theorem PtrRow.kept {ok : Nat → Prop} {w w' : World} {v : Value} {bs : List Nat} {row : Option Nat} (h : PtrRow w v bs) (hf : rowOk ok v bs) (hg : w.grownBy w' row) (hr : ∀ r, row = some r → ¬ ok r) : PtrRow w' v bs := by
  obtain ⟨a, cap, rfl, h1, h2, h3⟩ := h
  by_cases h0 : bs = []
  · exact ⟨a, cap, rfl, h1, h2, .inl h0⟩
  · refine ⟨a, cap, rfl, h1, h2, .inr ?_⟩
    rcases h3 with h3 | ⟨g, off, rfl, hc⟩
    · exact absurd h3 h0
    · refine ⟨g, off, rfl, fun i hi => ?_⟩
      have hb := hf h0 _ _ _ rfl
      have h4 := hc i hi
      rw [← h4]
      exact World.cell?_of_block (hg.block g (World.block_lt_of_cell? w _ h4) (fun e => hr g e.symm hb))
mutual
theorem PieceAt.kept {ok : Nat → Prop} {w w' : World} {row : Option Nat} (hg : w.grownBy w' row) (hr : ∀ r, row = some r → ¬ ok r) : ∀ {t : Tm} {B : Nat}, PieceAt ok w t B → PieceAt ok w' t B
  | .mk k t ps, B, h => by
    unfold PieceAt at h ⊢
    obtain ⟨h0, v, bs, h1, h2, h3, h4⟩ := h
    exact ⟨h0, v, bs, (hg.block B (Array.getElem?_eq_some_iff.1 h1).1 (fun e => hr B e.symm h0)).trans h1, h2.kept h3 hg hr, h3, PiecesAt.kept hg hr h4⟩
theorem PiecesAt.kept {ok : Nat → Prop} {w w' : World} {row : Option Nat} (hg : w.grownBy w' row) (hr : ∀ r, row = some r → ¬ ok r) : ∀ {ts : List Tm} {bs : List Nat}, PiecesAt ok w ts bs → PiecesAt ok w' ts bs
  | [], bs, h => by unfold PiecesAt at h ⊢; exact h
  | t :: ts, bs, h => by
    unfold PiecesAt at h ⊢
    obtain ⟨b, r, e, h1, h2⟩ := h
    exact ⟨b, r, e, PieceAt.kept hg hr h1, PiecesAt.kept hg hr h2⟩
end
mutual
/-- all of it lies in the heap -/
theorem PieceAt.inHeap {ok ok' : Nat → Prop} {w : World} (hk : ∀ k, ok k → k < w.heap.size → ok' k) : ∀ {t : Tm} {B : Nat}, PieceAt ok w t B → PieceAt ok' w t B
  | .mk k t ps, B, h => by
    unfold PieceAt at h ⊢
    obtain ⟨h0, v, bs, h1, h2, h3, h4⟩ := h
    refine ⟨hk _ h0 (Array.getElem?_eq_some_iff.1 h1).1, v, bs, h1, h2, ?_, PiecesAt.inHeap hk h4⟩
    intro hn a n c e
    obtain ⟨a', cap, e', _, _, h5⟩ := h2
    rcases h5 with h5 | ⟨g, off, rfl, hc⟩
    · exact absurd h5 hn
    · subst e'
      cases e
      exact hk _ (h3 hn _ _ _ rfl) (World.block_lt_of_cell? w _ (hc 0 (List.length_pos_iff.2 hn)))
theorem PiecesAt.inHeap {ok ok' : Nat → Prop} {w : World} (hk : ∀ k, ok k → k < w.heap.size → ok' k) : ∀ {ts : List Tm} {bs : List Nat}, PiecesAt ok w ts bs → PiecesAt ok' w ts bs
  | [], bs, h => by unfold PiecesAt at h ⊢; exact h
  | t :: ts, bs, h => by
    unfold PiecesAt at h ⊢
    obtain ⟨b, r, e, h1, h2⟩ := h
    exact ⟨b, r, e, PieceAt.inHeap hk h1, PiecesAt.inHeap hk h2⟩
end
theorem PiecesAt.snoc {ok : Nat → Prop} {w : World} {t : Tm} {b : Nat} : ∀ {ts : List Tm} {bs : List Nat}, PiecesAt ok w ts bs → PieceAt ok w t b → PiecesAt ok w (ts ++ [t]) (bs ++ [b])
  | [], bs, h, h2 => by
    unfold PiecesAt at h; subst h
    rw [List.nil_append, List.nil_append]; unfold PiecesAt
    exact ⟨b, [], rfl, h2, by unfold PiecesAt; rfl⟩
  | x :: ts, bs, h, h2 => by
    unfold PiecesAt at h
    obtain ⟨c, r, rfl, h3, h4⟩ := h
    rw [List.cons_append, List.cons_append]; unfold PiecesAt
    exact ⟨c, r ++ [b], rfl, h3, PiecesAt.snoc h4 h2⟩
theorem PiecesAt.len {ok : Nat → Prop} {w : World} : ∀ {ts : List Tm} {bs : List Nat}, PiecesAt ok w ts bs → bs.length = ts.length
  | [], bs, h => by unfold PiecesAt at h; subst h; rfl
  | t :: ts, bs, h => by
    unfold PiecesAt at h
    obtain ⟨b, r, rfl, _, h2⟩ := h
    simp [PiecesAt.len h2]
/-! the reader -/
def RK (w : World) (R : Nat) (s : ByteArray) (p : Nat) : Prop := w.heap[R]? = some (.cells #[.string s, .int .i64 p] 57 (0, 0))
theorem RK.c0 {w : World} {R : Nat} {s : ByteArray} {p : Nat} (h : RK w R s p) : w.cell? ⟨R, 0, none⟩ = some (.string s) := cell_of h 0 rfl
theorem RK.c1 {w : World} {R : Nat} {s : ByteArray} {p : Nat} (h : RK w R s p) : w.cell? ⟨R, 1, none⟩ = some (.int .i64 p) := cell_of h 1 rfl
theorem RK.lt {w : World} {R : Nat} {s : ByteArray} {p : Nat} (h : RK w R s p) : R < w.heap.size := (Array.getElem?_eq_some_iff.1 h).1
theorem RK.set {w : World} {R : Nat} {s : ByteArray} {p : Nat} (h : RK w R s p) (q : Nat) : RK (w.setCell ⟨R, 1, none⟩ (.int .i64 q)) R s q := heap_set h
theorem RK.drewN {w : World} {R : Nat} {s : ByteArray} {p : Nat} (h : RK w R s p) (n : Nat) : RK (w.drewN n) R s p := h
theorem knext_any (s : ByteArray) (p R : Nat) (w : World) (hs : s.size ≤ maxLen) (hp : p ≤ s.size) (h : RK w R s p) :
    Calls Try.prog 32 #[.pointer (some ⟨R, 0, none⟩)] w fun e w' => e = .returned (.int .u8 (byteAt s p)) ∧ ∃ n, w' = w.drewN n := by
  have h0 := h.c0
  have h1 := h.c1
  clear h
  unfold maxLen at hs
  by_cases hlt : p < s.size
  · have hne : ((p : Int) == s.size) = false := beqf (by omega)
    go_enter Try.func32, Try.ntmps32
    go_wp2
    go_quiet (fail)
    go_wp2
    go_quiet (fail)
    go_wp2
    go_ret
    exact ⟨ret_int (byteAt_lt hlt).symm, _, drew2 _ _ _⟩
  · have e : p = s.size := by omega
    subst e
    go_enter Try.func32, Try.ntmps32
    go_wp2
    go_quiet (fail)
    go_wp2
    go_ret
    exact ⟨ret_int (byteAt_ge hlt).symm, _, rfl⟩
end Go.Proofs.Yteiadbiopcidmaa
