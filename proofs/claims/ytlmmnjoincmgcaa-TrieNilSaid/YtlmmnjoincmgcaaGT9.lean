/- Texts of this seat, merged: Tm5, Tp1, Tp2, Tp3, Aq1. -/
import Derived.Test.YtlmmnjoincmgcaaGT8
namespace Go.Proofs.Ytlmmnjoincmgcaa
set_option linter.unusedVariables false
set_option linter.unusedSimpArgs false
set_option maxRecDepth 100000
open Go.RowKit
def TrAt (w : World) (base : Nat) : Tr → Prop
  | .nil => True
  | .node b ad cp a n o l r => (base ≤ b ∧ w.heap[b]? = some (.cells #[.slice ad a.length cp, .int .i64 n, .int .i64 o, l.ptr, r.ptr] 58 (0, 0)) ∧ Bytes w (.slice ad a.length cp) a ∧ TypAt w ad 5 ∧ a.length ≤ cp ∧ cp ≤ maxLen) ∧ TrAt w base l ∧ TrAt w base r
def Tr.blks : Tr → List Nat
  | .nil => []
  | .node b _ _ _ _ _ l r => b :: (l.blks ++ r.blks)
/-- a call that changes the trie's own blocks only -/
structure Kp (base : Nat) (w w' : World) : Prop where
  bel : Below base w w'
  blk : ∀ (k : Nat) (cur : Array Value) (t : TypeId) (fz : Nat × Nat), w.heap[k]? = some (.cells cur t fz) → t ≠ 58 → t ≠ 53 → w'.heap[k]? = some (.cells cur t fz)
theorem Kp.refl (base : Nat) (w : World) : Kp base w w := ⟨Below.refl _ _, fun _ _ _ _ h _ _ => h⟩
theorem Kp.trans {base : Nat} {a b c : World} (h : Kp base a b) (h2 : Kp base b c) : Kp base a c := ⟨h.bel.trans h2.bel, fun k cur t fz h0 h1 h3 => h2.blk k cur t fz (h.blk k cur t fz h0 h1 h3) h1 h3⟩
theorem Kp.below {base : Nat} {a b : World} (h : Below a.heap.size a b) (hb : base ≤ a.heap.size) : Kp base a b := ⟨h.mono hb, fun k cur t fz h0 _ _ => (h.block k (heap_lt h0)).trans h0⟩
theorem Kp.next {base : Nat} {a b c : World} (h : Kp base a b) (h2 : Below b.heap.size b c) (hb : base ≤ b.heap.size) : Kp base a c := h.trans (Kp.below h2 hb)
theorem Kp.keeps {base : Nat} {a b : World} (h : Kp base a b) : Keeps base a b := ⟨h.bel, fun k cur t fz h0 ht => h.blk k cur t fz h0 (by rcases ht with rfl | rfl | rfl <;> decide) (by rcases ht with rfl | rfl | rfl <;> decide)⟩
theorem Kp.set {base b i : Nat} {w : World} {v : Value} {cur : Array Value} {t : TypeId} {fz : Nat × Nat} (hb : base ≤ b) (h : w.heap[b]? = some (.cells cur t fz)) (ht : t = 58 ∨ t = 53) : Kp base w (w.setCell ⟨b, i, none⟩ v) := by
  refine ⟨(Below.refl _ _).setCell (p := ⟨b, i, none⟩) hb v, fun k cur' t' fz' h0 h1 h2 => ?_⟩
  by_cases e : k = b
  · subst e
    rw [h] at h0
    injection h0 with h0
    injection h0 with _ h3 _
    subst h3
    rcases ht with rfl | rfl
    · exact absurd rfl h1
    · exact absurd rfl h2
  · rw [heap_other e]; exact h0
theorem Kp.cell {base : Nat} {a b : World} (h : Kp base a b) {k i : Nat} {cur : Array Value} {t : TypeId} {fz : Nat × Nat} (h0 : a.heap[k]? = some (.cells cur t fz)) (h1 : t ≠ 58) (h2 : t ≠ 53) : b.cell? ⟨k, i, none⟩ = a.cell? ⟨k, i, none⟩ := World.cell?_of_block ((h.blk k cur t fz h0 h1 h2).trans h0.symm)
theorem TypAt.kp {base : Nat} {w w' : World} {a : Option Addr} {t : TypeId} (h : TypAt w a t) (hk : Kp base w w') (h1 : t ≠ 58) (h2 : t ≠ 53) : TypAt w' a t := by
  intro b off x e
  obtain ⟨cur, fz, hc⟩ := h b off x e
  exact ⟨cur, fz, hk.blk b cur t fz hc h1 h2⟩
theorem bytes_kp {base : Nat} {w w' : World} {a : Option Addr} {n cp : Nat} {l : List UInt8} (h : Bytes w (.slice a n cp) l) (ht : TypAt w a 5) (hk : Kp base w w') : Bytes w' (.slice a n cp) l := bytes_keeps h ht hk.keeps
/-! a tree whose blocks stay -/
theorem TrAt.below {w w' : World} {base : Nat} (hb : Below w.heap.size w w') : ∀ {t : Tr}, TrAt w base t → TrAt w' base t
  | .nil, _ => trivial
  | .node b ad cp a n o l r, h => ⟨⟨h.1.1, (hb.block b (heap_lt h.1.2.1)).trans h.1.2.1, h.1.2.2.1.below hb, h.1.2.2.2.1.below hb, h.1.2.2.2.2⟩, h.2.1.below hb, h.2.2.below hb⟩
theorem TrAt.set {w : World} {base b i : Nat} {v : Value} {cur : Array Value} {T : TypeId} {fz : Nat × Nat} (hT : w.heap[b]? = some (.cells cur T fz)) (ht : T = 58 ∨ T = 53) : ∀ {t : Tr}, TrAt w base t → b ∉ t.blks → TrAt (w.setCell ⟨b, i, none⟩ v) base t
  | .nil, _, _ => trivial
  | .node k ad cp a n o l r, h, hn => by
    have hn2 : k ≠ b ∧ b ∉ l.blks ∧ b ∉ r.blks := by
      simp only [Tr.blks, List.mem_cons, List.mem_append, not_or] at hn
      exact ⟨fun e => hn.1 e.symm, hn.2⟩
    have hk : Kp 0 w (w.setCell ⟨b, i, none⟩ v) := Kp.set (Nat.zero_le _) hT ht
    exact ⟨⟨h.1.1, by rw [heap_other hn2.1]; exact h.1.2.1, bytes_kp h.1.2.2.1 h.1.2.2.2.1 hk, h.1.2.2.2.1.kp hk (by decide) (by decide), h.1.2.2.2.2⟩, h.2.1.set hT ht hn2.2.1, h.2.2.set hT ht hn2.2.2⟩
theorem blks_node (b : Nat) (ad : Option Addr) (cp : Nat) (a : List UInt8) (n : Nat) (o : Int) (l r : Tr) : (Tr.node b ad cp a n o l r).blks = b :: (l.blks ++ r.blks) := rfl
def ctxB (fs : List Fr) : List Nat := fs.flatMap fun f => f.b :: f.sib.blks
theorem blks_plug (f : Fr) (e : Tr) : (plug f e).blks.Perm (e.blks ++ (f.b :: f.sib.blks)) := by
  unfold plug
  rw [blks_node]
  by_cases h : f.d = 0
  · rw [if_pos h, if_pos h]; exact List.perm_middle.symm
  · rw [if_neg h, if_neg h]
    exact ((List.perm_append_comm).cons f.b).trans List.perm_middle.symm
theorem blks_fill : ∀ (fs : List Fr) (e : Tr), (fill fs e).blks.Perm (e.blks ++ ctxB fs)
  | [], e => by simp [fill, ctxB]
  | f :: fs, e => by
    have h := blks_fill fs (plug f e)
    refine h.trans ?_
    have h2 := (blks_plug f e).append_right (ctxB fs)
    refine h2.trans ?_
    rw [List.append_assoc]
    exact List.Perm.refl _
theorem trAt_plug {w : World} {base : Nat} {f : Fr} {e : Tr} (hd : f.d = 0 ∨ f.d = 1) : TrAt w base (plug f e) ↔ (base ≤ f.b ∧ w.heap[f.b]? = some (.cells (if f.d = 0 then #[.slice f.ad f.adr.length f.cp, .int .i64 f.bits, .int .i64 f.own, e.ptr, f.sib.ptr] else #[.slice f.ad f.adr.length f.cp, .int .i64 f.bits, .int .i64 f.own, f.sib.ptr, e.ptr]) 58 (0, 0)) ∧ Bytes w (.slice f.ad f.adr.length f.cp) f.adr ∧ TypAt w f.ad 5 ∧ f.adr.length ≤ f.cp ∧ f.cp ≤ maxLen) ∧ TrAt w base e ∧ TrAt w base f.sib := by
  unfold plug
  rcases hd with h | h
  · simp only [h, if_true, TrAt]
  · simp only [h, Nat.one_ne_zero, if_false, TrAt]
    exact and_congr_right fun _ => And.comm
theorem trAt_fill {w : World} {base : Nat} : ∀ {fs : List Fr} {e : Tr}, (∀ f ∈ fs, f.d = 0 ∨ f.d = 1) → TrAt w base (fill fs e) → TrAt w base e
  | [], _, _, h => h
  | f :: fs, e, hd, h => by
    have h2 := trAt_fill (fs := fs) (e := plug f e) (fun g hg => hd g (List.mem_cons_of_mem _ hg)) h
    exact ((trAt_plug (hd f (by simp))).1 h2).2.1
theorem plug_ptr (f : Fr) (e : Tr) : (plug f e).ptr = .pointer (some ⟨f.b, 0, none⟩) := rfl
/-- what lies around stays when something in the hole is stored to -/
theorem trAt_outer {w : World} {base b i : Nat} {v : Value} {cur : Array Value} {T : TypeId} {fz : Nat × Nat} (hT : w.heap[b]? = some (.cells cur T fz)) (ht : T = 58 ∨ T = 53) :
    ∀ {fs : List Fr} {x x' : Tr}, (∀ f ∈ fs, f.d = 0 ∨ f.d = 1) → TrAt w base (fill fs x) → x.ptr = x'.ptr → TrAt (w.setCell ⟨b, i, none⟩ v) base x' → b ∉ ctxB fs → TrAt (w.setCell ⟨b, i, none⟩ v) base (fill fs x')
  | [], x, x', _, _, _, h, _ => h
  | f :: fs, x, x', hd, h, hp, hx, hb => by
    have hd1 := hd f (by simp)
    have hd2 : ∀ g ∈ fs, g.d = 0 ∨ g.d = 1 := fun g hg => hd g (List.mem_cons_of_mem _ hg)
    have hb2 : b ≠ f.b ∧ b ∉ f.sib.blks ∧ b ∉ ctxB fs := by
      simp only [ctxB, List.flatMap_cons, List.mem_append, List.mem_cons, not_or] at hb
      exact ⟨hb.1.1, hb.1.2, hb.2⟩
    obtain ⟨h1, _, h2⟩ := (trAt_plug hd1).1 (trAt_fill hd2 h)
    have hk : Kp 0 w (w.setCell ⟨b, i, none⟩ v) := Kp.set (Nat.zero_le _) hT ht
    refine trAt_outer hT ht (fs := fs) (x := plug f x) hd2 h rfl ((trAt_plug hd1).2 ⟨⟨h1.1, ?_, bytes_kp h1.2.2.1 h1.2.2.2.1 hk, h1.2.2.2.1.kp hk (by decide) (by decide), h1.2.2.2.2⟩, hx, h2.set hT ht hb2.2.1⟩) hb2.2.2
    rw [heap_other (fun e => hb2.1 e.symm), ← hp]
    exact h1.2.1
/-! the table: the tree of one size, and the other one -/
structure Tab (w : World) (base B d : Nat) (t o : Tr) : Prop where
  d01 : d = 0 ∨ d = 1
  blk : w.heap[B]? = some (.cells (if d = 0 then #[t.ptr, o.ptr] else #[o.ptr, t.ptr]) 53 (0, 0))
  ge : base ≤ B
  here : TrAt w base t
  oth : TrAt w base o
  nd : (t.blks ++ o.blks).Nodup
theorem Tab.below {w w' : World} {base B d : Nat} {t o : Tr} (h : Tab w base B d t o) (hb : Below w.heap.size w w') : Tab w' base B d t o :=
  ⟨h.d01, (hb.block B (heap_lt h.blk)).trans h.blk, h.ge, h.here.below hb, h.oth.below hb, h.nd⟩
theorem Tab.size {w : World} {base B d : Nat} {t o : Tr} (h : Tab w base B d t o) : base ≤ w.heap.size := Nat.le_of_lt (Nat.lt_of_le_of_lt h.ge (heap_lt h.blk))
theorem Tab.swap {w : World} {base B d : Nat} {t o : Tr} (h : Tab w base B d t o) : Tab w base B (1 - d) o t := by
  refine ⟨by have := h.d01; omega, ?_, h.ge, h.oth, h.here, (List.perm_append_comm.nodup_iff).1 h.nd⟩
  rw [h.blk]
  rcases h.d01 with rfl | rfl <;> rfl
theorem trAt_typ {w : World} {base : Nat} : ∀ {t : Tr}, TrAt w base t → ∀ b ∈ t.blks, ∃ cur, w.heap[b]? = some (.cells cur 58 (0, 0))
  | .nil, _, b, hb => by simp [Tr.blks] at hb
  | .node k ad cp a n o l r, h, b, hb => by
    simp only [Tr.blks, List.mem_cons, List.mem_append] at hb
    rcases hb with rfl | hb | hb
    · exact ⟨_, h.1.2.1⟩
    · exact trAt_typ h.2.1 b hb
    · exact trAt_typ h.2.2 b hb
theorem Tab.ne {w : World} {base B d : Nat} {t o : Tr} (h : Tab w base B d t o) : B ∉ t.blks ∧ B ∉ o.blks := by
  refine ⟨fun hb => ?_, fun hb => ?_⟩
  · obtain ⟨cur, hc⟩ := trAt_typ h.here B hb
    rw [h.blk] at hc
    injection hc with hc
    injection hc with _ h2 _
    exact absurd h2 (by decide)
  · obtain ⟨cur, hc⟩ := trAt_typ h.oth B hb
    rw [h.blk] at hc
    injection hc with hc
    injection hc with _ h2 _
    exact absurd h2 (by decide)
def plB (B : Nat) : List Fr → Nat
  | [] => B
  | f :: _ => f.b
def plO (d : Nat) : List Fr → Nat
  | [] => d
  | f :: _ => 3 + f.d
theorem Tab.at {w : World} {base B d : Nat} {fs : List Fr} {e o : Tr} (h : Tab w base B d (fill fs e) o) (hd : ∀ f ∈ fs, f.d = 0 ∨ f.d = 1) :
    w.cell? ⟨plB B fs, plO d fs, none⟩ = some e.ptr ∧ w.frozen? ⟨plB B fs, plO d fs, none⟩ = false ∧ ∃ cur T, w.heap[plB B fs]? = some (.cells cur T (0, 0)) ∧ (T = 58 ∨ T = 53) := by
  cases fs with
  | nil =>
    refine ⟨cell_of h.blk _ ?_, free_of h.blk _, _, _, h.blk, .inr rfl⟩
    rcases h.d01 with rfl | rfl <;> rfl
  | cons f fs =>
    obtain ⟨h1, _⟩ := (trAt_plug (hd f (by simp))).1 (trAt_fill (fs := fs) (e := plug f e) (fun g hg => hd g (List.mem_cons_of_mem _ hg)) h.here)
    refine ⟨cell_of h1.2.1 _ ?_, free_of h1.2.1 _, _, _, h1.2.1, .inl rfl⟩
    have := hd f (by simp)
    show (if f.d = 0 then _ else _)[3 + f.d]? = _
    rcases this with h2 | h2 <;> rw [h2] <;> rfl
theorem plB_ge {w : World} {base B d : Nat} {fs : List Fr} {e o : Tr} (h : Tab w base B d (fill fs e) o) (hd : ∀ f ∈ fs, f.d = 0 ∨ f.d = 1) : base ≤ plB B fs := by
  cases fs with
  | nil => exact h.ge
  | cons f fs => exact ((trAt_plug (hd f (by simp))).1 (trAt_fill (fs := fs) (e := plug f e) (fun g hg => hd g (List.mem_cons_of_mem _ hg)) h.here)).1.1
theorem nodup_parts {α : Type} {a b c : List α} (h : ((a ++ b) ++ c).Nodup) : a.Nodup ∧ b.Nodup ∧ c.Nodup ∧ (∀ x ∈ a, x ∉ b ∧ x ∉ c) ∧ (∀ x ∈ b, x ∉ c) := by
  rw [List.nodup_append, List.nodup_append] at h
  obtain ⟨⟨h1, h2, h3⟩, h4, h5⟩ := h
  exact ⟨h1, h2, h4, fun x hx => ⟨fun hb => h3 x hx x hb rfl, fun hc => h5 x (List.mem_append_left _ hx) x hc rfl⟩, fun x hx hc => h5 x (List.mem_append_right _ hx) x hc rfl⟩
theorem Tab.parts {w : World} {base B d : Nat} {fs : List Fr} {e o : Tr} (h : Tab w base B d (fill fs e) o) : e.blks.Nodup ∧ (ctxB fs).Nodup ∧ o.blks.Nodup ∧ (∀ x ∈ e.blks, x ∉ ctxB fs ∧ x ∉ o.blks) ∧ (∀ x ∈ ctxB fs, x ∉ o.blks) :=
  nodup_parts ((((blks_fill fs e).append_right o.blks).nodup_iff).1 h.nd)
theorem nodup_of {fs : List Fr} {e o : Tr} (h1 : e.blks.Nodup) (h2 : (ctxB fs).Nodup) (h3 : o.blks.Nodup) (h4 : ∀ x ∈ e.blks, x ∉ ctxB fs ∧ x ∉ o.blks) (h5 : ∀ x ∈ ctxB fs, x ∉ o.blks) : ((fill fs e).blks ++ o.blks).Nodup := by
  refine (((blks_fill fs e).append_right o.blks).nodup_iff).2 ?_
  rw [List.nodup_append, List.nodup_append]
  refine ⟨⟨h1, h2, fun a ha b hb e => (h4 a ha).1 (e ▸ hb)⟩, h3, fun a ha b hb e => ?_⟩
  rcases List.mem_append.1 ha with ha | ha
  · exact (h4 a ha).2 (e ▸ hb)
  · exact h5 a ha (e ▸ hb)
/-- another tree is put where the way ends -/
theorem Tab.put {w : World} {base B d : Nat} {fs : List Fr} {e o : Tr} (h : Tab w base B d (fill fs e) o) (hd : ∀ f ∈ fs, f.d = 0 ∨ f.d = 1) {e' : Tr} (he : TrAt w base e') (hn : e'.blks.Nodup) (hx : ∀ x ∈ e'.blks, x ∉ ctxB fs ∧ x ∉ o.blks) :
    Tab (w.setCell ⟨plB B fs, plO d fs, none⟩ e'.ptr) base B d (fill fs e') o ∧ Kp base w (w.setCell ⟨plB B fs, plO d fs, none⟩ e'.ptr) := by
  obtain ⟨p1, p2, p3, p4, p5⟩ := h.parts
  obtain ⟨_, _, cur, T, hb, hT⟩ := h.at hd
  refine ⟨⟨h.d01, ?_, h.ge, ?_, ?_, nodup_of hn p2 p3 hx p5⟩, Kp.set (plB_ge h hd) hb hT⟩
  · cases fs with
    | nil =>
      have h2 := set_block (i := d) (v := e'.ptr) h.blk
      show (w.setCell ⟨B, d, none⟩ e'.ptr).heap[B]? = _
      rw [h2]
      rcases h.d01 with rfl | rfl <;> rfl
    | cons f fs =>
      have hne : B ≠ f.b := fun e2 => h.ne.1 ((blks_fill (f :: fs) e).mem_iff.2 (List.mem_append_right _ (by rw [e2]; simp [ctxB])))
      show (w.setCell ⟨f.b, 3 + f.d, none⟩ e'.ptr).heap[B]? = _
      rw [heap_other hne, h.blk]
      have hp : (fill (f :: fs) e).ptr = (fill (f :: fs) e').ptr := by
        have key : ∀ (gs : List Fr) (x y : Tr), x.ptr = y.ptr → (fill gs x).ptr = (fill gs y).ptr := by
          intro gs
          induction gs with
          | nil => intro x y h; exact h
          | cons g gs ih => intro x y _; exact ih (plug g x) (plug g y) rfl
        exact key fs _ _ rfl
      rw [hp]
  · cases fs with
    | nil =>
      refine he.set hb hT fun hB => ?_
      obtain ⟨cur2, hc⟩ := trAt_typ he B hB
      have hb2 := h.blk
      rw [hb2] at hc
      injection hc with hc
      injection hc with _ h2 _
      exact absurd h2 (by decide)
    | cons f fs =>
      have hd1 := hd f (by simp)
      have hd2 : ∀ g ∈ fs, g.d = 0 ∨ g.d = 1 := fun g hg => hd g (List.mem_cons_of_mem _ hg)
      have hcc : ctxB (f :: fs) = f.b :: (f.sib.blks ++ ctxB fs) := by simp [ctxB]
      rw [hcc] at p2 hx
      have q1 : f.b ∉ f.sib.blks ∧ f.b ∉ ctxB fs := by
        have := (List.nodup_cons.1 p2).1
        simp only [List.mem_append, not_or] at this
        exact this
      have q2 : f.b ∉ e'.blks := fun hm => (hx _ hm).1 (by simp)
      obtain ⟨h1, _, h2⟩ := (trAt_plug hd1).1 (trAt_fill (fs := fs) (e := plug f e) hd2 h.here)
      have hk : Kp 0 w (w.setCell ⟨f.b, 3 + f.d, none⟩ e'.ptr) := Kp.set (Nat.zero_le _) h1.2.1 (.inl rfl)
      refine trAt_outer (fs := fs) (x := plug f e) (x' := plug f e') h1.2.1 (.inl rfl) hd2 h.here rfl ((trAt_plug hd1).2 ⟨⟨h1.1, ?_, bytes_kp h1.2.2.1 h1.2.2.2.1 hk, h1.2.2.2.1.kp hk (by decide) (by decide), h1.2.2.2.2⟩, he.set h1.2.1 (.inl rfl) q2, h2.set h1.2.1 (.inl rfl) q1.1⟩) q1.2
      rw [set_block h1.2.1]
      rcases hd1 with h3 | h3 <;> simp [h3, plO]
  · refine h.oth.set hb hT fun hB => ?_
    cases fs with
    | nil => exact h.ne.2 hB
    | cons f fs => exact p5 f.b (by simp [ctxB]) hB
/-- another owner where the way ends -/
theorem Tab.own {w : World} {base B d : Nat} {fs : List Fr} {b : Nat} {ad : Option Addr} {cp : Nat} {a : List UInt8} {n : Nat} {o : Int} {l r : Tr} {ot : Tr} (h : Tab w base B d (fill fs (.node b ad cp a n o l r)) ot) (hd : ∀ f ∈ fs, f.d = 0 ∨ f.d = 1) (o' : Int) :
    Tab (w.setCell ⟨b, 2, none⟩ (.int .i64 o')) base B d (fill fs (.node b ad cp a n o' l r)) ot ∧ Kp base w (w.setCell ⟨b, 2, none⟩ (.int .i64 o')) := by
  obtain ⟨p1, p2, p3, p4, p5⟩ := h.parts
  have hn := trAt_fill hd h.here
  have hb := hn.1.2.1
  have hk : Kp base w (w.setCell ⟨b, 2, none⟩ (.int .i64 o')) := Kp.set hn.1.1 hb (.inl rfl)
  have hbn := List.nodup_cons.1 p1
  have hnb : b ∉ l.blks ∧ b ∉ r.blks := by
    have := hbn.1
    simp only [List.mem_append, not_or] at this
    exact this
  have hbm : b ∈ (Tr.node b ad cp a n o l r).blks := by simp [Tr.blks]
  refine ⟨⟨h.d01, ?_, h.ge, ?_, h.oth.set hb (.inl rfl) (p4 b hbm).2, nodup_of p1 p2 p3 p4 p5⟩, hk⟩
  · have hne : B ≠ b := fun e2 => h.ne.1 ((blks_fill fs _).mem_iff.2 (List.mem_append_left _ (by rw [e2]; exact hbm)))
    rw [heap_other hne, h.blk]
    have hp : (fill fs (.node b ad cp a n o l r)).ptr = (fill fs (.node b ad cp a n o' l r)).ptr := by
      have key : ∀ (gs : List Fr) (x y : Tr), x.ptr = y.ptr → (fill gs x).ptr = (fill gs y).ptr := by
        intro gs
        induction gs with
        | nil => intro x y h; exact h
        | cons g gs ih => intro x y _; exact ih (plug g x) (plug g y) rfl
      exact key fs _ _ rfl
    rw [hp]
  · refine trAt_outer hb (.inl rfl) hd h.here (x' := .node b ad cp a n o' l r) rfl ⟨⟨hn.1.1, ?_, bytes_kp hn.1.2.2.1 hn.1.2.2.2.1 hk, hn.1.2.2.2.1.kp hk (by decide) (by decide), hn.1.2.2.2.2⟩, hn.2.1.set hb (.inl rfl) hnb.1, hn.2.2.set hb (.inl rfl) hnb.2⟩ (p4 b hbm).1
    rw [set_block hb]
    rfl
end Go.Proofs.Ytlmmnjoincmgcaa

namespace Go.Proofs.Ytlmmnjoincmgcaa
set_option linter.unusedVariables false
set_option linter.unusedSimpArgs false
set_option maxRecDepth 100000
open Go.RowKit
theorem and_one {x : Nat} (hx : x < 256) (k : Nat) : bits BinOp.and IntKind.u8 ((x : Int) / 2 ^ k) 1 = ((x / 2 ^ k % 2 : Nat) : Int) := by
  have key : ∀ i : Fin 256, bits BinOp.and IntKind.u8 (i.val : Int) 1 = ((i.val % 2 : Nat) : Int) := by decide +kernel
  have h : x / 2 ^ k < 256 := Nat.lt_of_le_of_lt (Nat.div_le_self _ _) hx
  have e : ((x : Int) / 2 ^ k) = ((x / 2 ^ k : Nat) : Int) := by simp
  rw [e]
  exact key ⟨_, h⟩
theorem pbit_any (v : Value) (l : List UInt8) (i : Nat) (w : World) (hv : Bytes w v l) (hi : i / 8 < l.length) (hl : l.length ≤ 100000) :
    Calls Try.prog 46 #[v, .int .i64 i] w fun e w' => e = .returned (.int .u8 (bitAt l i)) ∧ w' = w := by
  obtain ⟨a, cap, rfl, _⟩ := id hv
  obtain ⟨b, off, rfl, hc⟩ := bytes_cell hv (by omega)
  have c1 := hc (i / 8) hi
  have hx : (l.getD (i / 8) 0).toNat < 256 := UInt8.toNat_lt _
  unfold bitAt
  generalize (l.getD (i / 8) 0).toNat = x at *
  have hi0 : (0 : Int) ≤ i := by omega
  have hi1 : (0 : Int) ≤ (i : Int) / 8 := by omega
  have hi2 : (i : Int) / 8 < l.length := by omega
  have hi3 : (i : Int) ≤ 1000000 := by omega
  have hr0 : (0 : Int) ≤ (i : Int) % 8 := by omega
  have hr1 : (i : Int) % 8 ≤ 7 := by omega
  clear hv hc
  go_enter Try.func46, Try.ntmps46
  go_wp2_with fail
  go_ret
  exact ⟨ret_int (and_one hx _), rfl⟩
/-- the place among a node's kids -/
theorem kid_any (b : Nat) (ad : Option Addr) (cp : Nat) (a : List UInt8) (n : Nat) (o : Int) (l r : Tr) (qd : Option Addr) (qc : Nat) (q : List UInt8) (m : Int) (w : World)
    (hn : w.heap[b]? = some (.cells #[.slice ad a.length cp, .int .i64 n, .int .i64 o, l.ptr, r.ptr] 58 (0, 0))) (hq : Bytes w (.slice qd q.length qc) q) (hnq : n < 8 * q.length) (hl : q.length ≤ 100) :
    Calls Try.prog 39 #[.pointer (some ⟨b, 0, none⟩), .agg #[.slice qd q.length qc, .int .i64 m]] w fun e w' => e = .returned (.pointer (some ⟨b, 3 + bitAt q n, none⟩)) ∧ Below w.heap.size w w' := by
  obtain ⟨w1, hw1⟩ : ∃ w1, w1 = w.alloc (.cells #[.slice qd q.length qc, .int .i64 m] 29) := ⟨_, rfl⟩
  have h1 : w1.heap[w.heap.size]? = some (.cells #[.slice qd q.length qc, .int .i64 m] 29 (0, 0)) := by rw [hw1]; exact heap_alloc_new w _
  have hb1 : Below w.heap.size w w1 := by rw [hw1]; exact below_one _
  have hn1 := (hb1.block b (heap_lt hn)).trans hn
  have HB1 := Lib.hid hb1
  have c0 := cell_of h1 0 rfl
  have c1 := cell_of h1 1 rfl
  have d1 := cell_of hn1 1 rfl
  have HBT := Lib.hid (fun w h => pbit_any (.slice qd q.length qc) q n w h (by omega) (by omega))
  have HQ := Lib.hid (hq.below hb1)
  have hbt := bit_two q n
  obtain ⟨k, hk⟩ : ∃ k, bitAt q n = k := ⟨_, rfl⟩
  rw [hk] at HBT hbt ⊢
  have hk0 : (0 : Int) ≤ k := by omega
  have hk2 : (k : Int) < 2 := by omega
  have hk3 : k < 2 := by omega
  clear hn hq h1 hn1 hb1
  go_enter Try.func39, Try.ntmps39
  go_wp2_with fail
  rw [← hw1]
  clear hw1
  go_wp2_with fail
  refine wp_region_still_tail 12 (by kernel_rfl) (by kernel_rfl) ?_
  simp only [List.take_succ_cons, List.take_zero, List.drop_succ_cons, List.drop_zero]
  repeat still_step
  still_call (HBT.out w1.drew HQ.out)
  repeat still_step
  try refine wpStill_nil ?_
  change wpList _ _ _ _ _ w1.drew
  go_wp2_with fail
  go_ret
  exact ⟨rfl, below_dr HB1.out 1⟩
/-- the place of the first node -/
theorem root_any (B d n : Nat) (hd : (d = 0 ∧ n = 4) ∨ (d = 1 ∧ n ≠ 4)) (cur : Array Value) (w : World) (hb : w.heap[B]? = some (.cells cur 53 (0, 0))) :
    Calls Try.prog 41 #[.pointer (some ⟨B, 0, none⟩), .int .i64 n] w fun e w' => e = .returned (.pointer (some ⟨B, d, none⟩)) ∧ w' = w := by
  rcases hd with ⟨rfl, rfl⟩ | ⟨rfl, hn⟩
  · have h4 : (((4 : Nat) : Int) == 4) = true := rfl
    go_enter Try.func41, Try.ntmps41
    go_wp2_with fail
    go_ret
    exact ⟨rfl, rfl⟩
  · have h4 : ((n : Int) == 4) = false := beqf (by omega)
    go_enter Try.func41, Try.ntmps41
    go_wp2_with fail
    go_ret
    exact ⟨rfl, rfl⟩
/-- what has to stay -/
theorem needed_any (base : Nat) (e : Tr) (w : World) (h : TrAt w base e) :
    Calls Try.prog 28 #[e.ptr] w fun x w' => x = .returned (need e).ptr ∧ w' = w := by
  cases e with
  | nil =>
    change Calls _ _ #[.pointer none] _ _
    go_enter Try.func28, Try.ntmps28
    go_wp2_with fail
    go_ret
    exact ⟨rfl, rfl⟩
  | node b ad cp a n o l r =>
    have hb := h.1.2.1
    have c2 := cell_of hb 2 rfl
    have c3 := cell_of hb 3 rfl
    have c4 := cell_of hb 4 rfl
    clear h hb
    change Calls _ _ #[.pointer (some ⟨b, 0, none⟩)] _ _
    by_cases ho : o = -1
    · have h1 : (o != -1) = false := bneq_i ho
      cases l with
      | nil =>
        have HR : Hid (need (.node b ad cp a n o .nil r) = r) := Lib.hid (by simp [need, ho])
        rw [HR.out]
        clear ho HR
        simp only [Tr.ptr] at c3
        generalize r.ptr = v at c4 ⊢
        go_enter Try.func28, Try.ntmps28
        go_wp2_with fail
        go_ret
        exact ⟨rfl, rfl⟩
      | node b1 ad1 cp1 a1 n1 o1 l1 r1 =>
        cases r with
        | nil =>
          have HR : Hid (need (.node b ad cp a n o (.node b1 ad1 cp1 a1 n1 o1 l1 r1) .nil) = .node b1 ad1 cp1 a1 n1 o1 l1 r1) := Lib.hid (by simp [need, ho])
          rw [HR.out]
          clear ho
          simp only [Tr.ptr] at c3 c4
          go_enter Try.func28, Try.ntmps28
          go_wp2_with fail
          go_ret
          exact ⟨rfl, rfl⟩
        | node b2 ad2 cp2 a2 n2 o2 l2 r2 =>
          have HR : Hid (need (.node b ad cp a n o (.node b1 ad1 cp1 a1 n1 o1 l1 r1) (.node b2 ad2 cp2 a2 n2 o2 l2 r2)) = .node b ad cp a n o (.node b1 ad1 cp1 a1 n1 o1 l1 r1) (.node b2 ad2 cp2 a2 n2 o2 l2 r2)) := Lib.hid (by simp [need, ho])
          rw [HR.out]
          clear ho
          simp only [Tr.ptr] at c3 c4
          go_enter Try.func28, Try.ntmps28
          go_wp2_with fail
          go_ret
          exact ⟨rfl, rfl⟩
    · have h1 : (o != -1) = true := bnne_i ho
      have HR : Hid (need (.node b ad cp a n o l r) = .node b ad cp a n o l r) := Lib.hid (by simp [need, ho])
      rw [HR.out]
      clear ho
      go_enter Try.func28, Try.ntmps28
      go_wp2_with fail
      go_ret
      exact ⟨rfl, rfl⟩
end Go.Proofs.Ytlmmnjoincmgcaa

namespace Go.Proofs.Ytlmmnjoincmgcaa
set_option linter.unusedVariables false
set_option linter.unusedSimpArgs false
set_option maxRecDepth 100000
open Go.RowKit
/-- a prefix that was made anew: its address in a block of its own -/
def FreshP (w : World) (a : List UInt8) (bits : Int) (e : Ending) (w' : World) : Prop :=
  ∃ g c, e = .returned (.agg #[.slice (some ⟨g, 0, none⟩) a.length c, .int .i64 bits]) ∧ w.heap.size ≤ g ∧ Bytes w' (.slice (some ⟨g, 0, none⟩) a.length c) a ∧ TypAt w' (some ⟨g, 0, none⟩) 5 ∧ a.length ≤ c ∧ c ≤ maxLen ∧ Below w.heap.size w w'
theorem cell_set_no {W : World} {b i j k : Nat} {v : Value} (h : j ≠ b) : (W.setCell ⟨b, i, none⟩ v).cell? ⟨j, k, none⟩ = W.cell? ⟨j, k, none⟩ := World.cell?_of_block (heap_other h)
theorem bytes_same {w w' : World} {g off n c : Nat} {l : List UInt8} (h : Bytes w (.slice (some ⟨g, off, none⟩) n c) l) (he : w'.heap[g]? = w.heap[g]?) : Bytes w' (.slice (some ⟨g, off, none⟩) n c) l := by
  obtain ⟨a2, cp2, e, h2⟩ := h
  refine ⟨a2, cp2, e, h2.imp id ?_⟩
  rintro ⟨b, off, rfl, hc⟩
  refine ⟨b, off, rfl, fun i hi => ?_⟩
  injection e with e1
  injection e1 with e1
  injection e1 with e1
  subst e1
  exact (World.cell?_of_block he).trans (hc i hi)
theorem typ_same {w w' : World} {g off : Nat} {t : TypeId} (h : TypAt w (some ⟨g, off, none⟩) t) (he : w'.heap[g]? = w.heap[g]?) : TypAt w' (some ⟨g, off, none⟩) t := by
  intro b o x e
  obtain ⟨cur, fz, hc⟩ := h b o x e
  injection e with e
  injection e with e1
  subst e1
  exact ⟨cur, fz, he.trans hc⟩
theorem own_results (W : World) (b : Nat) (v0 v1 : Value) (h : W.heap[b]? = some (.cells #[v0, v1] 29 (0, 0))) (T : Array Value) (h2 : T.getD 2 undef = .pointer (some ⟨b, 0, none⟩)) :
    (results Try.f34 T).run Try.prog W = .ok (.agg #[v0, v1]) W := by
  have c0 := cell_of h 0 rfl; have c1 := cell_of h 1 rfl
  have e2 : T[2]?.getD undef = .pointer (some ⟨b, 0, none⟩) := by simpa using h2
  simp [results, Try.results34, go_sem, e2, c0, c1]
theorem own_any (a : List UInt8) (ad : Option Addr) (cp : Nat) (bits : Int) (w : World) (ha : Bytes w (.slice ad a.length cp) a) (h0 : 0 < a.length) (hal : a.length ≤ 1000) :
    Calls Try.prog 34 #[.agg #[.slice ad a.length cp, .int .i64 bits]] w (FreshP w a bits) := by
  have e0 := heap_alloc_new w (.cells #[.slice ad a.length cp, .int .i64 bits] 29)
  have e1 := heap_alloc_new (w.alloc (.cells #[.slice ad a.length cp, .int .i64 bits] 29)) (.cells #[.slice none 0 0, .int .i64 0] 29)
  have s1 : (w.alloc (.cells #[.slice ad a.length cp, .int .i64 bits] 29)).heap.size = w.heap.size + 1 := by simp
  rw [s1] at e1
  have k0 := (below_one (w := w.alloc (.cells #[.slice ad a.length cp, .int .i64 bits] 29)) (.cells #[.slice none 0 0, .int .i64 0] 29)).block w.heap.size (by rw [s1]; omega)
  rw [e0] at k0
  have HB0 : Hid (Below w.heap.size w ((w.alloc (.cells #[.slice ad a.length cp, .int .i64 bits] 29)).alloc (.cells #[.slice none 0 0, .int .i64 0] 29))) := Lib.hid (((Below.refl _ _).alloc (Nat.le_refl _) _).alloc (by simp) _)
  have c0 : (((w.alloc (.cells #[.slice ad a.length cp, .int .i64 bits] 29)).alloc (.cells #[.slice none 0 0, .int .i64 0] 29))).cell? ⟨w.heap.size, 0, none⟩ = some (.slice ad a.length cp) := cell_of k0 0 rfl
  have c1 : (((w.alloc (.cells #[.slice ad a.length cp, .int .i64 bits] 29)).alloc (.cells #[.slice none 0 0, .int .i64 0] 29))).cell? ⟨w.heap.size, 1, none⟩ = some (.int .i64 bits) := cell_of k0 1 rfl
  have HK0 := Lib.hid k0
  have HK1 := Lib.hid e1
  have HVA := Lib.hid (ha.below HB0.out)
  have HCL : Hid (∀ w, Bytes w (.slice ad a.length cp) a → Calls Try.prog 36 #[.slice ad a.length cp] w (CloneRet w a)) := Lib.hid (fun w h => bclone_any a ad cp w h h0 (by omega))
  have HNE : Hid (w.heap.size ≠ w.heap.size + 1) := Lib.hid (by omega)
  clear e0 e1 s1 k0 ha
  go_enter Try.func34, Try.ntmps34
  go_wp2_with fail
  generalize hW : ((w.alloc (.cells #[.slice ad a.length cp, .int .i64 bits] 29)).alloc (.cells #[.slice none 0 0, .int .i64 0] 29)) = W2 at *
  have HDR : Hid (Below W2.heap.size W2 W2.drew) := Lib.hid (below_dr (Below.refl _ _) 1)
  go_region_held3 (fun W => W.cell? ⟨w.heap.size, 0, none⟩ = some (.slice ad a.length cp) ∧ W.cell? ⟨w.heap.size, 1, none⟩ = some (.int .i64 bits)) (first | exact ⟨c0, c1⟩ | exact ⟨q0, q1⟩ | exact ⟨(cell_set_no HNE.out).trans ((cell_set_no HNE.out).trans q0), (cell_set_no HNE.out).trans ((cell_set_no HNE.out).trans q1)⟩) (first | (go_at_call 36; ((with_reducible refine (HCL.out _ (HVA.out.below HDR.out)).mono ?_); rintro e w3 ⟨g, c, rfl, hg, hown, hnc, hcm, hb3⟩; have q0 := cell_keep4 (w := W2.drew) c0 hb3; have q1 := cell_keep4 (w := W2.drew) c1 hb3; have k3 := (hb3.block (w.heap.size + 1) (heap_lt (w := W2.drew) HK1.out)).trans HK1.out; have q2 := cell_of k3 0 rfl; have q3 := cell_of k3 1 rfl; have g1 := fun i => free_of k3 i; have HK3 := Lib.hid k3; clear k3; have HO := Lib.hid hown; have HB3 := Lib.hid hb3; have HG := Lib.hid hg; have HNC := Lib.hid hnc; have HCM := Lib.hid hcm; clear hg hown hnc hcm hb3)) | fail)
  go_wp2_with fail
  have HE : ((w3.setCell ⟨w.heap.size + 1, 0, none⟩ (.slice (some ⟨g, 0, none⟩) a.length c)).setCell ⟨w.heap.size + 1, 1, none⟩ (.int .i64 bits)).heap[w.heap.size + 1]? = some (.cells #[.slice (some ⟨g, 0, none⟩) a.length c, .int .i64 bits] 29 (0, 0)) := set_block (i := 1) (v := .int .i64 bits) (set_block (i := 0) (v := .slice (some ⟨g, 0, none⟩) a.length c) HK3.out)
  have hs2 : W2.heap.size = w.heap.size + 2 := by rw [← hW]; simp
  have hg2 : w.heap.size + 2 ≤ g := by have : W2.heap.size ≤ g := HG.out; omega
  have hne : g ≠ w.heap.size + 1 := by omega
  have he : ((w3.setCell ⟨w.heap.size + 1, 0, none⟩ (.slice (some ⟨g, 0, none⟩) a.length c)).setCell ⟨w.heap.size + 1, 1, none⟩ (.int .i64 bits)).heap[g]? = w3.heap[g]? := by rw [heap_other hne, heap_other hne]
  refine bodyPost_ret (own_results _ _ _ _ HE _ rfl) rfl ⟨g, c, rfl, by omega, bytes_same (own_bytes HO.out) he, typ_same (typ_own HO.out) he, HNC.out, HCM.out, ?_⟩
  exact ((Below.next HB0.out (Below.next (below_dr (Below.refl _ _) 1) HB3.out)).setCell (by simp) _).setCell (by simp) _
end Go.Proofs.Ytlmmnjoincmgcaa

namespace Go.Proofs.Ytlmmnjoincmgcaa
set_option linter.unusedVariables false
set_option linter.unusedSimpArgs false
set_option maxRecDepth 100000
open Go.RowKit
/-- Plain's answer for a right prefix: the address in a block of its own -/
def FreshQ (w : World) (a : List UInt8) (bits : Int) (e : Ending) (w' : World) : Prop :=
  ∃ g c, e = .returned (.tuple #[.agg #[.slice (some ⟨g, 0, none⟩) a.length c, .int .i64 bits], .int .i64 0]) ∧ w.heap.size ≤ g ∧ Bytes w' (.slice (some ⟨g, 0, none⟩) a.length c) a ∧ TypAt w' (some ⟨g, 0, none⟩) 5 ∧ a.length ≤ c ∧ c ≤ maxLen ∧ Below w.heap.size w w'
set_option maxHeartbeats 8000000 in
theorem aplain_fresh (a : List UInt8) (ad : Option Addr) (cp : Nat) (bits : Int) (w : World) (ha : Bytes w (.slice ad a.length cp) a) (hal : a.length ≤ 1000) (hr : rightP a.length bits = true) :
    Calls Try.prog 20 #[.agg #[.slice ad a.length cp, .int .i64 bits]] w (FreshQ w (plainS a bits.toNat) bits) := by
  have e0 := heap_alloc_new w (.cells #[.slice ad a.length cp, .int .i64 bits] 29)
  have e1 := heap_alloc_new (w.alloc (.cells #[.slice ad a.length cp, .int .i64 bits] 29)) (.cells #[.slice none 0 0, .int .i64 0] 29)
  have s1 : (w.alloc (.cells #[.slice ad a.length cp, .int .i64 bits] 29)).heap.size = w.heap.size + 1 := by simp
  rw [s1] at e1
  have k0 := (below_one (w := w.alloc (.cells #[.slice ad a.length cp, .int .i64 bits] 29)) (.cells #[.slice none 0 0, .int .i64 0] 29)).block w.heap.size (by rw [s1]; omega)
  rw [e0] at k0
  have HK0 := Lib.hid k0
  have HK1 := Lib.hid e1
  have HB0 : Hid (Below w.heap.size w ((w.alloc (.cells #[.slice ad a.length cp, .int .i64 bits] 29)).alloc (.cells #[.slice none 0 0, .int .i64 0] 29))) := Lib.hid (((Below.refl _ _).alloc (Nat.le_refl _) _).alloc (by simp) _)
  have c0 : (((w.alloc (.cells #[.slice ad a.length cp, .int .i64 bits] 29)).alloc (.cells #[.slice none 0 0, .int .i64 0] 29))).cell? ⟨w.heap.size, 0, none⟩ = some (.slice ad a.length cp) := cell_of k0 0 rfl
  have c1 : (((w.alloc (.cells #[.slice ad a.length cp, .int .i64 bits] 29)).alloc (.cells #[.slice none 0 0, .int .i64 0] 29))).cell? ⟨w.heap.size, 1, none⟩ = some (.int .i64 bits) := cell_of k0 1 rfl
  have HVA := Lib.hid ha
  clear e0 e1 s1 k0 ha
  have HRI := Lib.hid (aright_v ad a.length cp bits (by omega) true hr)
  obtain ⟨hlen4, hb0, hb8⟩ := right_len hr
  have h0 : 0 < a.length := by omega
  have HCL : Hid (∀ w, Bytes w (.slice ad a.length cp) a → Calls Try.prog 36 #[.slice ad a.length cp] w (CloneRet w a)) := Lib.hid (fun w h => bclone_any a ad cp w h h0 (by omega))
  clear hr hlen4
  have hali : (a.length : Int) ≤ 1000 := by omega
  go_enter Try.func20, Try.ntmps20
  go_wp2_with (first | (go_at_call 29; ((with_reducible refine (HRI.out _).mono ?_); rintro e w2 ⟨rfl, hb2⟩; have hx0 := (hb2.block _ (by simp only [World.size_alloc]; omega)).trans HK0.out; have hx1 := (hb2.block _ (by simp only [World.size_alloc]; omega)).trans HK1.out; have HX0 := Lib.hid hx0; have HX1 := Lib.hid hx1; have HB := Lib.hid (Below.next HB0.out hb2); have hsz : w.heap.size + 2 ≤ w2.heap.size := (by have := hb2.size; simp only [World.size_alloc] at this; omega); have c0 : w2.cell? ⟨w.heap.size, 0, none⟩ = some (.slice ad a.length cp) := cell_of hx0 0 rfl; have c1 : w2.cell? ⟨w.heap.size, 1, none⟩ = some (.int .i64 bits) := cell_of hx0 1 rfl; have d0 : w2.cell? ⟨w.heap.size + 1, 0, none⟩ = some (.slice none 0 0) := cell_of hx1 0 rfl; have d1 : w2.cell? ⟨w.heap.size + 1, 1, none⟩ = some (.int .i64 0) := cell_of hx1 1 rfl; have g1 := fun i => free_of hx1 i; clear hb2 hx0 hx1)) | (go_at_call 36; ((with_reducible refine (HCL.out _ (HVA.out.below HB.out)).mono ?_); rintro e w3 ⟨g, c, rfl, hg, hown, hnc, hcmm, hb3⟩; have HO := Lib.hid hown; have HB3 := Lib.hid hb3; have HG : Hid (w.heap.size + 2 ≤ g) := Lib.hid (by omega); have HNC := Lib.hid hnc; have HCM := Lib.hid hcmm; clear hown hb3 hg hnc hcmm)) | fail)
  have HST : Hid (PlainPW w w3 a ad cp bits g c 0) := Lib.hid ⟨(HB3.out.block _ (by omega)).trans HX0.out, (HB3.out.block _ (by omega)).trans HX1.out, by rw [plainU_zero]; exact HO.out.mono hsz, Below.next HB.out HB3.out⟩
  clear c0 c1 d0 d1 g1 HX0 HX1 HO
  go_loopw [15] (fun i wr => ∃ k : Nat, i = .int .i64 k ∧ k ≤ a.length ∧ PlainPW w wr a ad cp bits g c k) (fun i _ => a.length - (intOf i).toNat)
  case atStart => exact ⟨0, rfl, by omega, HST.out⟩
  case round =>
    obtain ⟨k, rfl, hk, hpw⟩ := hrel
    have HPW := Lib.hid hpw
    have d0 : wr.cell? ⟨w.heap.size, 0, none⟩ = some (.slice ad a.length cp) := cell_of hpw.1 0 rfl
    have d1 : wr.cell? ⟨w.heap.size, 1, none⟩ = some (.int .i64 bits) := cell_of hpw.1 1 rfl
    by_cases hlt : k < a.length
    · have c1 : wr.cell? ⟨g, k, none⟩ = some (.int .u8 (a.getD k 0).toNat) := by
        rw [hpw.2.2.1.cellAt k (by omega)]
        unfold cellsOf
        rw [List.getElem?_map, List.getElem?_eq_getElem (by rw [plainU_len]; exact hlt)]
        have := plainU_at (m := bits.toNat) hlt
        rw [List.getD, List.getElem?_eq_getElem (by rw [plainU_len]; exact hlt)] at this
        simp only [Option.getD_some] at this
        rw [this]; rfl
      have f1 : wr.frozen? ⟨g, k, none⟩ = false := hpw.2.2.1.frozenAt k
      have HLT := Lib.hid hlt
      obtain ⟨x, hx⟩ : ∃ x, keepH (a.getD k 0).toNat (bits.toNat - 8 * k) = x := ⟨_, rfl⟩
      obtain ⟨mk, hmk⟩ : ∃ m, maskN (clampN (bits - 8 * k)) = m := ⟨_, rfl⟩
      have hand : Go.bits BinOp.and IntKind.u8 ((a.getD k 0).toNat : Int) (mk : Int) = (x : Int) := by
        rw [← hmk, mask_keep _ _ (clampN_le _), clamp_eq hb0, keepH_min, hx]
      have HM : Hid (∀ w, Calls Try.prog 37 #[.int .i64 (bits - 8 * k)] w fun e w' => e = .returned (.int .u8 (mk : Int)) ∧ w' = w) := Lib.hid (fun w => by rw [← hmk]; exact mask_any _ (by omega) (by omega) w)
      have HX := Lib.hid hx
      generalize (a.getD k 0).toNat = y at c1 hand
      have hw1 := wrap_i64 (8 * (k : Int)) (by omega) (by omega)
      have hw2 := wrap_s64 (bits - 8 * (k : Int)) (by omega) (by omega)
      have hk0 : (0 : Int) ≤ k := by omega
      have hk1 : (k : Int) < a.length := by omega
      clear hpw hx hmk hlt
      have ht1 : (k : Int).toNat = k := by omega
      go_wp2_with fail
      refine wp_region_still_tail 12 (by kernel_rfl) (by kernel_rfl) ?_
      simp only [List.take_succ_cons, List.take_zero, List.drop_succ_cons, List.drop_zero]
      repeat still_step
      still_call (HM.out wr.drew)
      repeat still_step
      try refine wpStill_nil ?_
      change wpList _ _ _ _ _ wr.drew
      go_wp2_with fail
      go_roundw
      case rel => exact ⟨k + 1, by go_num, by omega, plainp_step (n := 1) HPW.out HG.out HLT.out HX.out.symm⟩
      case measure => simp [intOf]; omega
    · have HPB : Hid (k = a.length) := Lib.hid (by omega)
      have d2 : wr.cell? ⟨w.heap.size + 1, 0, none⟩ = some (.slice none 0 0) := cell_of hpw.2.1 0 rfl
      have d3 : wr.cell? ⟨w.heap.size + 1, 1, none⟩ = some (.int .i64 0) := cell_of hpw.2.1 1 rfl
      have g2 := fun i => free_of hpw.2.1 i
      clear hpw
      go_wp2_with fail
      have HE : ((wr.setCell ⟨w.heap.size + 1, 0, none⟩ (.slice (some ⟨g, 0, none⟩) a.length c)).setCell ⟨w.heap.size + 1, 1, none⟩ (.int .i64 bits)).heap[w.heap.size + 1]? = some (.cells #[.slice (some ⟨g, 0, none⟩) a.length c, .int .i64 bits] 29 (0, 0)) := set_block (i := 1) (v := .int .i64 bits) (set_block (i := 0) (v := .slice (some ⟨g, 0, none⟩) a.length c) HPW.out.2.1)
      have HL : (plainS a bits.toNat).length = a.length := plainS_len _ _
      have h1 : wr.ownsRow (w.heap.size + 2) 5 1 (.slice (some ⟨g, 0, none⟩) a.length c) a.length (cellsOf (plainU a bits.toNat k)) := HPW.out.2.2.1
      rw [HPB.out, plainU_all] at h1
      have h2 : Bytes wr (.slice (some ⟨g, 0, none⟩) (plainS a bits.toNat).length c) (plainS a bits.toNat) := own_bytes (by rw [HL]; exact h1)
      have hne : g ≠ w.heap.size + 1 := by have := HG.out; omega
      have he : ((wr.setCell ⟨w.heap.size + 1, 0, none⟩ (.slice (some ⟨g, 0, none⟩) a.length c)).setCell ⟨w.heap.size + 1, 1, none⟩ (.int .i64 bits)).heap[g]? = wr.heap[g]? := by rw [heap_other hne, heap_other hne]
      refine bodyPost_ret (plainp_results _ _ _ _ HE _ 0 rfl rfl) rfl ⟨g, c, by rw [HL], by have := HG.out; omega, bytes_same h2 he, typ_same (typ_own h1) he, by rw [HL]; exact HNC.out, HCM.out, ((HPW.out.2.2.2).setCell (by simp) _).setCell (by simp) _⟩
/-- Plain's answer for what is no prefix -/
theorem aplain_no (a : List UInt8) (ad : Option Addr) (cp : Nat) (bits : Int) (w : World) (ha : Bytes w (.slice ad a.length cp) a) (hal : a.length ≤ 1000) (hr : rightP a.length bits = false) :
    Calls Try.prog 20 #[.agg #[.slice ad a.length cp, .int .i64 bits]] w fun e w' => e = .returned (.tuple #[.agg #[.slice none 0 0, .int .i64 0], .int .i64 3]) ∧ Below w.heap.size w w' := by
  have e0 := heap_alloc_new w (.cells #[.slice ad a.length cp, .int .i64 bits] 29)
  have e1 := heap_alloc_new (w.alloc (.cells #[.slice ad a.length cp, .int .i64 bits] 29)) (.cells #[.slice none 0 0, .int .i64 0] 29)
  have s1 : (w.alloc (.cells #[.slice ad a.length cp, .int .i64 bits] 29)).heap.size = w.heap.size + 1 := by simp
  rw [s1] at e1
  have k0 := (below_one (w := w.alloc (.cells #[.slice ad a.length cp, .int .i64 bits] 29)) (.cells #[.slice none 0 0, .int .i64 0] 29)).block w.heap.size (by rw [s1]; omega)
  rw [e0] at k0
  have HK0 := Lib.hid k0
  have HK1 := Lib.hid e1
  have HB0 : Hid (Below w.heap.size w ((w.alloc (.cells #[.slice ad a.length cp, .int .i64 bits] 29)).alloc (.cells #[.slice none 0 0, .int .i64 0] 29))) := Lib.hid (((Below.refl _ _).alloc (Nat.le_refl _) _).alloc (by simp) _)
  have c0 : (((w.alloc (.cells #[.slice ad a.length cp, .int .i64 bits] 29)).alloc (.cells #[.slice none 0 0, .int .i64 0] 29))).cell? ⟨w.heap.size, 0, none⟩ = some (.slice ad a.length cp) := cell_of k0 0 rfl
  have c1 : (((w.alloc (.cells #[.slice ad a.length cp, .int .i64 bits] 29)).alloc (.cells #[.slice none 0 0, .int .i64 0] 29))).cell? ⟨w.heap.size, 1, none⟩ = some (.int .i64 bits) := cell_of k0 1 rfl
  have HVA := Lib.hid ha
  clear e0 e1 s1 k0 ha
  have HRI := Lib.hid (aright_v ad a.length cp bits (by omega) false hr)
  clear hr
  go_enter Try.func20, Try.ntmps20
  go_wp2_with (first | (go_at_call 29; ((with_reducible refine (HRI.out _).mono ?_); rintro e w2 ⟨rfl, hb2⟩; have hx0 := (hb2.block _ (by simp only [World.size_alloc]; omega)).trans HK0.out; have hx1 := (hb2.block _ (by simp only [World.size_alloc]; omega)).trans HK1.out; have HX0 := Lib.hid hx0; have HX1 := Lib.hid hx1; have HB := Lib.hid (Below.next HB0.out hb2); have hsz : w.heap.size + 2 ≤ w2.heap.size := (by have := hb2.size; simp only [World.size_alloc] at this; omega); have c0 : w2.cell? ⟨w.heap.size, 0, none⟩ = some (.slice ad a.length cp) := cell_of hx0 0 rfl; have c1 : w2.cell? ⟨w.heap.size, 1, none⟩ = some (.int .i64 bits) := cell_of hx0 1 rfl; have d0 : w2.cell? ⟨w.heap.size + 1, 0, none⟩ = some (.slice none 0 0) := cell_of hx1 0 rfl; have d1 : w2.cell? ⟨w.heap.size + 1, 1, none⟩ = some (.int .i64 0) := cell_of hx1 1 rfl; have g1 := fun i => free_of hx1 i; clear hb2 hx0 hx1)) | fail)
  have HE : ((w2.setCell ⟨w.heap.size + 1, 0, none⟩ (.slice none 0 0)).setCell ⟨w.heap.size + 1, 1, none⟩ (.int .i64 0)).heap[w.heap.size + 1]? = some (.cells #[.slice none 0 0, .int .i64 0] 29 (0, 0)) := set_block (i := 1) (v := .int .i64 0) (set_block (i := 0) (v := .slice none 0 0) HX1.out)
  exact bodyPost_ret (plainp_results _ _ _ _ HE _ 3 rfl rfl) rfl ⟨rfl, (HB.out.setCell (by simp) _).setCell (by simp) _⟩
end Go.Proofs.Ytlmmnjoincmgcaa

namespace Go.Proofs.Ytlmmnjoincmgcaa
set_option linter.unusedVariables false
set_option linter.unusedSimpArgs false
set_option maxRecDepth 100000
open Go.RowKit Go.Shelf
attribute [local go_sem] Oper.semAt_some
set_option maxHeartbeats 8000000 in
theorem ahas_all (a b : List UInt8) (ad bd : Option Addr) (cp cb : Nat) (bits : Int) (w : World) (ha : Bytes w (.slice ad a.length cp) a) (hb : Bytes w (.slice bd b.length cb) b) (hal : a.length ≤ 1000) (hbl : b.length ≤ 1000) :
    Calls Try.prog 30 #[.agg #[.slice ad a.length cp, .int .i64 bits], .slice bd b.length cb] w (RightRet w (hasP a bits b)) := by
  have e0 := heap_alloc_new w (.cells #[.slice ad a.length cp, .int .i64 bits] 29)
  have e1 := heap_alloc_new (w.alloc (.cells #[.slice ad a.length cp, .int .i64 bits] 29)) (.cells #[.bool false] 4)
  have s1 : (w.alloc (.cells #[.slice ad a.length cp, .int .i64 bits] 29)).heap.size = w.heap.size + 1 := by simp
  rw [s1] at e1
  have k0 := (below_one (w := w.alloc (.cells #[.slice ad a.length cp, .int .i64 bits] 29)) (.cells #[.bool false] 4)).block w.heap.size (by rw [s1]; omega)
  rw [e0] at k0
  have HK0 := Lib.hid k0
  have HK1 := Lib.hid e1
  have HB0 : Hid (Below w.heap.size w ((w.alloc (.cells #[.slice ad a.length cp, .int .i64 bits] 29)).alloc (.cells #[.bool false] 4))) := Lib.hid (((Below.refl _ _).alloc (Nat.le_refl _) _).alloc (by simp) _)
  have c0 : (((w.alloc (.cells #[.slice ad a.length cp, .int .i64 bits] 29)).alloc (.cells #[.bool false] 4))).cell? ⟨w.heap.size, 0, none⟩ = some (.slice ad a.length cp) := cell_of k0 0 rfl
  have c1 : (((w.alloc (.cells #[.slice ad a.length cp, .int .i64 bits] 29)).alloc (.cells #[.bool false] 4))).cell? ⟨w.heap.size, 1, none⟩ = some (.int .i64 bits) := cell_of k0 1 rfl
  have HVA := Lib.hid ha
  have HVB := Lib.hid hb
  have hali : (a.length : Int) ≤ 1000 := by omega
  have hbli : (b.length : Int) ≤ 1000 := by omega
  clear e0 e1 s1 k0 ha hb
  cases hr : rightP a.length bits with
  | false =>
    have HR : Hid (hasP a bits b = false) := Lib.hid (by unfold hasP; rw [hr]; rfl)
    have HRI := Lib.hid (aright_v ad a.length cp bits (by omega) false hr)
    clear hr
    (refine calls_of_wp_marks Try.func30 rfl ?_; simp only [Try.ntmps30, List.size_toArray, List.length_cons, List.length_nil, Nat.reduceAdd, Nat.reduceSub, Array.replicate_succ, Array.replicate_zero, List.push_toArray, List.append_toArray, List.nil_append, List.cons_append])
    go_wp2_with (first | (go_at_call 29; ((with_reducible refine (HRI.out _).mono ?_); rintro e w2 ⟨rfl, hb2⟩; have hx0 := (hb2.block _ (by simp only [World.size_alloc]; omega)).trans HK0.out; have hx1 := (hb2.block _ (by simp only [World.size_alloc]; omega)).trans HK1.out; have HX0 := Lib.hid hx0; have HX1 := Lib.hid hx1; have HB := Lib.hid (Below.next HB0.out hb2); have hsz : w.heap.size + 2 ≤ w2.heap.size := (by have := hb2.size; simp only [World.size_alloc] at this; omega); have c0 : w2.cell? ⟨w.heap.size, 0, none⟩ = some (.slice ad a.length cp) := cell_of hx0 0 rfl; have c1 : w2.cell? ⟨w.heap.size, 1, none⟩ = some (.int .i64 bits) := cell_of hx0 1 rfl; have cA : ∀ o, (w2.alloc o).cell? ⟨w.heap.size, 0, none⟩ = some (.slice ad a.length cp) := fun o => cell_of (((below_one o).block _ (Array.getElem?_eq_some_iff.1 hx0).1).trans hx0) 0 rfl; have d0 : w2.cell? ⟨w.heap.size + 1, 0, none⟩ = some (.bool false) := cell_of hx1 0 rfl; have g1 := fun i => free_of hx1 i; clear hb2 hx0 hx1)) | fail)
    refine postM_ret (has_results _ _ false (World.cell?_setCell_same' _ _ _ (by rw [d0]; rfl)) _ rfl) rfl ⟨ret_bool HR.out.symm, HB.out.setCell (by simp) _⟩
  | true =>
    by_cases hlen : b.length = a.length
    · have hne : ((b.length : Int) != a.length) = false := bneq_i (by omega)
      have HRI := Lib.hid (aright_v ad a.length cp bits (by omega) true hr)
      have HOK := Lib.hid (okP_has (b := b) hr hlen.symm)
      obtain ⟨hlen4, hb0, hb8⟩ := right_len hr
      have HAT := Lib.hid (bytes_cell HVA.out (by omega))
      have HBT := Lib.hid (bytes_cell HVB.out (by omega))
      have H0 : Hid (0 < a.length) := Lib.hid (by omega)
      clear hr hlen4
      (refine calls_of_wp_marks Try.func30 rfl ?_; simp only [Try.ntmps30, List.size_toArray, List.length_cons, List.length_nil, Nat.reduceAdd, Nat.reduceSub, Array.replicate_succ, Array.replicate_zero, List.push_toArray, List.append_toArray, List.nil_append, List.cons_append])
      go_wp2_with (first | (go_at_call 29; ((with_reducible refine (HRI.out _).mono ?_); rintro e w2 ⟨rfl, hb2⟩; have hx0 := (hb2.block _ (by simp only [World.size_alloc]; omega)).trans HK0.out; have hx1 := (hb2.block _ (by simp only [World.size_alloc]; omega)).trans HK1.out; have HX0 := Lib.hid hx0; have HX1 := Lib.hid hx1; have HB := Lib.hid (Below.next HB0.out hb2); have hsz : w.heap.size + 2 ≤ w2.heap.size := (by have := hb2.size; simp only [World.size_alloc] at this; omega); have c0 : w2.cell? ⟨w.heap.size, 0, none⟩ = some (.slice ad a.length cp) := cell_of hx0 0 rfl; have c1 : w2.cell? ⟨w.heap.size, 1, none⟩ = some (.int .i64 bits) := cell_of hx0 1 rfl; have cA : ∀ o, (w2.alloc o).cell? ⟨w.heap.size, 0, none⟩ = some (.slice ad a.length cp) := fun o => cell_of (((below_one o).block _ (Array.getElem?_eq_some_iff.1 hx0).1).trans hx0) 0 rfl; have d0 : w2.cell? ⟨w.heap.size + 1, 0, none⟩ = some (.bool false) := cell_of hx1 0 rfl; have g1 := fun i => free_of hx1 i; clear hb2 hx0 hx1)) | (go_at_call 44; ((with_reducible refine (pairs_any _ _ _ _ _ _ _).mono ?_); rintro e w3 ⟨rfl, rfl⟩)) | fail)
      obtain ⟨bk, off, rfl, hca⟩ := HAT.out
      obtain ⟨bl, ofl, rfl, hcb⟩ := HBT.out
      obtain ⟨L, hL⟩ : ∃ L, w2.heap.size = L := ⟨_, rfl⟩
      rw [hL] at hsz ⊢
      have eL := heap_alloc_new w2 (.cells #[.int .i64 bits] 3)
      have eA := heap_alloc_new (w2.alloc (.cells #[.int .i64 bits] 3)) (.cells #[.slice (some ⟨bk, off, none⟩) a.length cp] 23)
      have eB := heap_alloc_new ((w2.alloc (.cells #[.int .i64 bits] 3)).alloc (.cells #[.slice (some ⟨bk, off, none⟩) a.length cp] 23)) (.cells #[.slice (some ⟨bl, ofl, none⟩) a.length cb] 23)
      simp only [World.size_alloc, hL] at eL eA eB
      have hb5 : Below (L + 2) ((w2.alloc (.cells #[.int .i64 bits] 3)).alloc (.cells #[.slice (some ⟨bk, off, none⟩) a.length cp] 23)) (((w2.alloc (.cells #[.int .i64 bits] 3)).alloc (.cells #[.slice (some ⟨bk, off, none⟩) a.length cp] 23)).alloc (.cells #[.slice (some ⟨bl, ofl, none⟩) a.length cb] 23)) := (Below.refl _ _).alloc (by simp [hL]) _
      have hb4 : Below (L + 1) (w2.alloc (.cells #[.int .i64 bits] 3)) ((w2.alloc (.cells #[.int .i64 bits] 3)).alloc (.cells #[.slice (some ⟨bk, off, none⟩) a.length cp] 23)) := (Below.refl _ _).alloc (by simp [hL]) _
      have hb3 : Below L w2 (w2.alloc (.cells #[.int .i64 bits] 3)) := (Below.refl _ _).alloc (by rw [hL]; exact Nat.le_refl _) _
      obtain ⟨W0, hW0⟩ : ∃ W0, ((w2.alloc (.cells #[.int .i64 bits] 3)).alloc (.cells #[.slice (some ⟨bk, off, none⟩) a.length cp] 23)).alloc (.cells #[.slice (some ⟨bl, ofl, none⟩) a.length cb] 23) = W0 := ⟨_, rfl⟩
      have hs0 : W0.heap.size = L + 1 + 1 + 1 := by rw [← hW0]; simp [hL]
      rw [hW0] at eB hb5 ⊢
      have fL := (hb5.block L (by omega)).trans ((hb4.block L (by omega)).trans eL)
      have fA := (hb5.block (L + 1) (by omega)).trans eA
      have fR : W0.heap[w.heap.size + 1]? = some (.cells #[.bool false] 4 (0, 0)) := (hb5.block _ (by omega)).trans ((hb4.block _ (by omega)).trans ((hb3.block _ (by omega)).trans HX1.out))
      have hB0 : Below w.heap.size w W0 := HB.out.trans (((hb3.mono (by omega)).trans (hb4.mono (by omega))).trans (hb5.mono (by omega)))
      have HK : Hid _ := Lib.hid (pairs_stops Fence.wide (9 - 1) (openF_wide _) rfl (by decide) (L + 1) (L + 1 + 1) w.heap.size bk off bl ofl cp cb a b hlen.symm hal W0 (by omega) (by omega) (by omega) (cell_of fA 0 rfl) (by rw [hlen]; exact cell_of eB 0 rfl)
        ⟨World.block_lt_of_cell? w _ (hca 0 H0.out), fun i hi => (hB0.cell (p := ⟨bk, off + i, none⟩) (World.block_lt_of_cell? w _ (hca i hi))).trans (hca i hi)⟩
        ⟨World.block_lt_of_cell? w _ (hcb 0 (by have := H0.out; omega)), fun i hi => (hB0.cell (p := ⟨bl, ofl + i, none⟩) (World.block_lt_of_cell? w _ (hcb i hi))).trans (hcb i hi)⟩)
      refine wpIn_wide.1 (wpIn_rangeFunc_ownG (n := 9) rfl (by decide) (gf := 47) (lb := #[.pointer (some ⟨L + 1, 0, none⟩), .pointer (some ⟨L + 1 + 1, 0, none⟩)]) rfl trivial (enters_of Try.func47 (by kernel_rfl) rfl)
        HK.out kpB_t (kpB_b (by omega) (by omega) (by omega)) (Below.refl _ _) (fun _ => rfl)
        (fun pre W => (okP bits pre ∧ W.cell? ⟨L, 0, none⟩ = some (.int .i64 (bits - 8 * pre.length)) ∧ W.frozen? ⟨L, 0, none⟩ = false ∧ W.cell? ⟨w.heap.size + 1, 0, none⟩ = some (.bool false) ∧ W.frozen? ⟨w.heap.size + 1, 0, none⟩ = false) ∧ Below w.heap.size w W)
        (fun c pre W => (c = .ret ∧ ¬ okP bits pre ∧ W.cell? ⟨w.heap.size + 1, 0, none⟩ = some (.bool false)) ∧ Below w.heap.size w W)
        (OwnFrom.and (Own.from (fun s A B row hs hg hr => ⟨hs.1, cell_kept hs.2.1 hg hr, (frozen_kept hs.2.1 hg hr).trans hs.2.2.1, cell_kept hs.2.2.2.1 hg hr, (frozen_kept hs.2.2.2.1 hg hr).trans hs.2.2.2.2⟩) _) (ownFrom_below (Nat.le_refl _) (by omega)))
        (fun c => OwnFrom.and (Own.from (fun s A B row hs hg hr => ⟨hs.1, hs.2.1, cell_kept hs.2.2 hg hr⟩) _) (ownFrom_below (Nat.le_refl _) (by omega)))
        ⟨⟨okP_nil _, by simpa using cell_of fL 0 rfl, free_of fL 0, cell_of fR 0 rfl, free_of fR 0⟩, hB0⟩ ?a1 ?assign ?body ?done ?stop)
      case assign =>
        intro l x W K hK
        gi_wp2
        exact hK
      case body =>
        rintro l pre x W ⟨⟨hok, hcl, hfl, hcr, hfr⟩, hB⟩ hpre
        obtain ⟨lv, hlv⟩ : ∃ lv, bits - 8 * (pre.length : Int) = lv := ⟨_, rfl⟩
        obtain ⟨mk, hmk⟩ : ∃ m, maskN (clampN lv) = m := ⟨_, rfl⟩
        rw [hlv] at hcl
        have HM : Hid (∀ w, CallsIn (Fence.wide.inRound l) (9 - 1 - 1 - 1) Try.prog 37 #[.int .i64 lv] w fun e w' => e = .returned (.int .u8 (mk : Int)) ∧ w' = w) := Lib.hid (fun w => CallsIn.inRound l (callsIn_wide.2 (by rw [← hmk]; exact mask_any _ (by omega) (by omega) w)))
        have HZ : Hid (zInt x.1 x.2 (clampN (bits - 8 * pre.length)) = Go.bits BinOp.and IntKind.u8 (Go.bits BinOp.xor IntKind.u8 (x.1.toNat : Int) (x.2.toNat : Int)) (mk : Int)) := Lib.hid (by rw [hlv, ← hmk]; rfl)
        obtain ⟨z, hz⟩ : ∃ z, Go.bits BinOp.and IntKind.u8 (Go.bits BinOp.xor IntKind.u8 (x.1.toNat : Int) (x.2.toNat : Int)) (mk : Int) = z := ⟨_, rfl⟩
        have HZ2 : Hid (zInt x.1 x.2 (clampN (bits - 8 * pre.length)) = z) := Lib.hid (HZ.out.trans hz)
        have hw := wrap_s64 (lv - 8) (by omega) (by omega)
        have HLV : Hid (lv - 8 = bits - 8 * ((pre ++ [x]).length : Nat)) := Lib.hid (by rw [List.length_append, List.length_singleton]; omega)
        have HOKP := Lib.hid hok
        have HBW := Lib.hid hB
        have HLN : Hid (w.heap.size + 2 ≤ L) := Lib.hid hsz
        clear hlv hmk hok hB HZ hsz hpre hs0
        by_cases h0 : z = 0
        · have hz0 : (z != 0) = false := bneq_i h0
          gi_wp2_with (refine ⟨trivial, ?_⟩; gi_at_call 37; (with_reducible refine (HM.out _).mono ?_); rintro e w' ⟨rfl, rfl⟩)
          refine ⟨(KeepsOthers.setCell _ _ _).from _, kpB_set (by have := HLN.out; omega) (by omega) (by omega), ⟨okP_next HOKP.out (HZ2.out.trans h0), ?_, ?_, ?_, ?_⟩, HBW.out.setCell (by have := HLN.out; show w.heap.size ≤ L; omega) _⟩
          · rw [← HLV.out]; exact World.cell?_setCell_same' _ _ _ (by rw [hcl]; rfl)
          · rw [World.frozen?_setCell]; exact hfl
          · have hne : w.heap.size + 1 ≠ L := by have := HLN.out; omega
            rw [← hcr]; simp [World.cell?, heap_other hne]
          · rw [World.frozen?_setCell]; exact hfr
        · have hz0 : (z != 0) = true := bnne_i h0
          gi_wp2_with (refine ⟨trivial, ?_⟩; gi_at_call 37; (with_reducible refine (HM.out _).mono ?_); rintro e w' ⟨rfl, rfl⟩)
          exact ⟨(KeepsOthers.setCell _ _ _).from _, ⟨rfl, okP_bad (by rw [HZ2.out]; exact h0), World.cell?_setCell_same' _ _ _ (by rw [hcr]; rfl)⟩, HBW.out.setCell (by simp) _⟩
      case done =>
        rintro D ys W hD rfl ⟨⟨hok, hcl, hfl, hcr, hfr⟩, hB⟩ hK
        have HR : Hid (hasP a bits b = true) := Lib.hid (HOK.out.2 hok)
        clear hok hcl hfl
        go_wp2_with fail
        have hK' := (KeepsOthers.setCell W ⟨w.heap.size + 1, 0, none⟩ (.bool true)).same D _ hK rfl
        exact postM_mark hK' rfl (has_results _ _ true (mark_cell (o := .deferred none) hK' (World.cell?_setCell_same' _ _ _ (by rw [hcr]; rfl))) _ rfl) ⟨ret_bool HR.out.symm, mark_below (hB.setCell (by simp) _) (by omega) hK'⟩
      case stop =>
        rintro D c pre W hD ⟨k, hk, rfl⟩ ⟨⟨rfl, hno, hcr⟩, hB⟩ hK
        have HR : Hid (hasP a bits b = false) := Lib.hid (by
          cases h : hasP a bits b with
          | false => rfl
          | true => exact absurd (okP_take (HOK.out.1 h) k) hno)
        refine wpIn_wide.2 ?_
        go_wp2_with fail
        exact postM_mark hK rfl (has_results _ _ false (mark_cell (o := .deferred none) hK hcr) _ rfl) ⟨ret_bool HR.out.symm, mark_below hB (by omega) hK⟩
    · have hne : ((b.length : Int) != a.length) = true := bnne_i (by omega)
      have HR : Hid (hasP a bits b = false) := Lib.hid (by unfold hasP; rw [show (b.length == a.length) = false by simpa using hlen]; simp)
      have HRI := Lib.hid (aright_v ad a.length cp bits (by omega) true hr)
      clear hr hlen
      (refine calls_of_wp_marks Try.func30 rfl ?_; simp only [Try.ntmps30, List.size_toArray, List.length_cons, List.length_nil, Nat.reduceAdd, Nat.reduceSub, Array.replicate_succ, Array.replicate_zero, List.push_toArray, List.append_toArray, List.nil_append, List.cons_append])
      go_wp2_with (first | (go_at_call 29; ((with_reducible refine (HRI.out _).mono ?_); rintro e w2 ⟨rfl, hb2⟩; have hx0 := (hb2.block _ (by simp only [World.size_alloc]; omega)).trans HK0.out; have hx1 := (hb2.block _ (by simp only [World.size_alloc]; omega)).trans HK1.out; have HX0 := Lib.hid hx0; have HX1 := Lib.hid hx1; have HB := Lib.hid (Below.next HB0.out hb2); have hsz : w.heap.size + 2 ≤ w2.heap.size := (by have := hb2.size; simp only [World.size_alloc] at this; omega); have c0 : w2.cell? ⟨w.heap.size, 0, none⟩ = some (.slice ad a.length cp) := cell_of hx0 0 rfl; have c1 : w2.cell? ⟨w.heap.size, 1, none⟩ = some (.int .i64 bits) := cell_of hx0 1 rfl; have cA : ∀ o, (w2.alloc o).cell? ⟨w.heap.size, 0, none⟩ = some (.slice ad a.length cp) := fun o => cell_of (((below_one o).block _ (Array.getElem?_eq_some_iff.1 hx0).1).trans hx0) 0 rfl; have d0 : w2.cell? ⟨w.heap.size + 1, 0, none⟩ = some (.bool false) := cell_of hx1 0 rfl; have g1 := fun i => free_of hx1 i; clear hb2 hx0 hx1)) | fail)
      refine postM_ret (has_results _ _ false (World.cell?_setCell_same' _ _ _ (by rw [d0]; rfl)) _ rfl) rfl ⟨ret_bool HR.out.symm, HB.out.setCell (by simp) _⟩
set_option maxHeartbeats 4000000 in
theorem awithin_all (a b : List UInt8) (ad bd : Option Addr) (cp cb : Nat) (m n : Int) (w : World) (ha : Bytes w (.slice ad a.length cp) a) (hb : Bytes w (.slice bd b.length cb) b) (hal : a.length ≤ 1000) (hbl : b.length ≤ 1000) :
    Calls Try.prog 26 #[.agg #[.slice ad a.length cp, .int .i64 m], .agg #[.slice bd b.length cb, .int .i64 n]] w (RightRet w (withinP a m b n)) := by
  have e0 := heap_alloc_new w (.cells #[.slice ad a.length cp, .int .i64 m] 29)
  have e1 := heap_alloc_new (w.alloc (.cells #[.slice ad a.length cp, .int .i64 m] 29)) (.cells #[.slice bd b.length cb, .int .i64 n] 29)
  have s1 : (w.alloc (.cells #[.slice ad a.length cp, .int .i64 m] 29)).heap.size = w.heap.size + 1 := by simp
  rw [s1] at e1
  have k0 := (below_one (w := w.alloc (.cells #[.slice ad a.length cp, .int .i64 m] 29)) (.cells #[.slice bd b.length cb, .int .i64 n] 29)).block w.heap.size (by rw [s1]; omega)
  rw [e0] at k0
  have c0 : (((w.alloc (.cells #[.slice ad a.length cp, .int .i64 m] 29)).alloc (.cells #[.slice bd b.length cb, .int .i64 n] 29))).cell? ⟨w.heap.size, 0, none⟩ = some (.slice ad a.length cp) := cell_of k0 0 rfl
  have c1 : (((w.alloc (.cells #[.slice ad a.length cp, .int .i64 m] 29)).alloc (.cells #[.slice bd b.length cb, .int .i64 n] 29))).cell? ⟨w.heap.size, 1, none⟩ = some (.int .i64 m) := cell_of k0 1 rfl
  have c2 : (((w.alloc (.cells #[.slice ad a.length cp, .int .i64 m] 29)).alloc (.cells #[.slice bd b.length cb, .int .i64 n] 29))).cell? ⟨w.heap.size + 1, 0, none⟩ = some (.slice bd b.length cb) := cell_of e1 0 rfl
  have c3 : (((w.alloc (.cells #[.slice ad a.length cp, .int .i64 m] 29)).alloc (.cells #[.slice bd b.length cb, .int .i64 n] 29))).cell? ⟨w.heap.size + 1, 1, none⟩ = some (.int .i64 n) := cell_of e1 1 rfl
  have HB0 : Hid (Below w.heap.size w ((w.alloc (.cells #[.slice ad a.length cp, .int .i64 m] 29)).alloc (.cells #[.slice bd b.length cb, .int .i64 n] 29))) := Lib.hid (((Below.refl _ _).alloc (Nat.le_refl _) _).alloc (by simp) _)
  have HVA := Lib.hid ha
  have HVB := Lib.hid hb
  have HE := Lib.hid (within_eq a b m n)
  clear e0 e1 s1 k0 ha hb
  cases hr : rightP a.length m with
  | false =>
    have HR : Hid (withinP a m b n = false) := Lib.hid (by rw [HE.out, hr]; rfl)
    have HRI := Lib.hid (aright_v ad a.length cp m (by omega) false hr)
    clear hr
    go_enter Try.func26, Try.ntmps26
    go_wp2_with (first | (go_at_call 29; ((with_reducible refine (HRI.out _).mono ?_); rintro e w2 ⟨rfl, hb2⟩; have c0 := cell_keep4 c0 hb2; have c1 := cell_keep4 c1 hb2; have c2 := cell_keep4 c2 hb2; have c3 := cell_keep4 c3 hb2; have HB := Lib.hid (Below.next HB0.out hb2); clear hb2)) | fail)
    go_ret
    exact ⟨ret_bool HR.out.symm, HB.out⟩
  | true =>
    have HRI := Lib.hid (aright_v ad a.length cp m (by omega) true hr)
    by_cases hnm : n ≤ m
    · obtain ⟨h, hh⟩ : ∃ h, hasP b n a = h := ⟨_, rfl⟩
      have HR : Hid (withinP a m b n = h) := Lib.hid (by rw [HE.out, hr, hh, decide_eq_true hnm]; rfl)
      have HHA : Hid (∀ w, Bytes w (.slice bd b.length cb) b → Bytes w (.slice ad a.length cp) a → Calls Try.prog 30 #[.agg #[.slice bd b.length cb, .int .i64 n], .slice ad a.length cp] w fun e w' => e = .returned (.bool h) ∧ Below w.heap.size w w') :=
        Lib.hid (fun w h1 h2 => by rw [← hh]; exact ahas_all b a bd ad cb cp n w h1 h2 hbl hal)
      clear hr hh
      go_enter Try.func26, Try.ntmps26
      go_wp2_with (first | (go_at_call 29; ((with_reducible refine (HRI.out _).mono ?_); rintro e w2 ⟨rfl, hb2⟩; have c0 := cell_keep4 c0 hb2; have c1 := cell_keep4 c1 hb2; have c2 := cell_keep4 c2 hb2; have c3 := cell_keep4 c3 hb2; have HB := Lib.hid (Below.next HB0.out hb2); clear hb2)) | (go_at_call 30; ((with_reducible refine (HHA.out _ (HVB.out.below HB.out) (HVA.out.below HB.out)).mono ?_); rintro e w3 ⟨rfl, hb3⟩; have HB2 := Lib.hid (Below.next HB.out hb3); clear hb3)) | fail)
      go_ret
      exact ⟨ret_bool HR.out.symm, HB2.out⟩
    · have HR : Hid (withinP a m b n = false) := Lib.hid (by rw [HE.out, decide_eq_false hnm]; simp)
      have hmn : m < n := by omega
      clear hr hnm
      go_enter Try.func26, Try.ntmps26
      go_wp2_with (first | (go_at_call 29; ((with_reducible refine (HRI.out _).mono ?_); rintro e w2 ⟨rfl, hb2⟩; have c0 := cell_keep4 c0 hb2; have c1 := cell_keep4 c1 hb2; have c2 := cell_keep4 c2 hb2; have c3 := cell_keep4 c3 hb2; have HB := Lib.hid (Below.next HB0.out hb2); clear hb2)) | fail)
      go_ret
      exact ⟨ret_bool HR.out.symm, HB.out⟩
end Go.Proofs.Ytlmmnjoincmgcaa
