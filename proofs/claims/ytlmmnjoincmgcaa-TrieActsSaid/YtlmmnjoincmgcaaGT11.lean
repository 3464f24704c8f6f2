/- Texts of this seat, merged: Tp5, Tp6, Tp7, Tp8, Tp9, Tp10, Tp11. -/
import Derived.Test.YtlmmnjoincmgcaaGT10
import Derived.Shelf.RegionOpen
import Derived.OwnWalkIn
import Derived.TacticsInMore
import Derived.LoopNIn
import Derived.LoopIn
import Derived.StillTailTactics
import Derived.Deep.Cut
import Derived.Deep.RegionLaw
namespace Go.Proofs.Ytlmmnjoincmgcaa
set_option linter.unusedVariables false
set_option linter.unusedSimpArgs false
set_option maxRecDepth 100000
open Go.RowKit Go.Shelf
attribute [local go_sem] Oper.semAt_some
/-- what the rounds leave to the iterator: the box of its slice, and the slice's block -/
def Kq (Ba g : Nat) (A B : World) : Prop := B.heap[Ba]? = A.heap[Ba]? ∧ B.heap[g]? = A.heap[g]?
theorem kq_refl (Ba g : Nat) (A : World) : Kq Ba g A A := ⟨rfl, rfl⟩
theorem kq_t {Ba g : Nat} {A B C : World} (h : Kq Ba g A B) (k : Kq Ba g B C) : Kq Ba g A C := ⟨k.1.trans h.1, k.2.trans h.2⟩
theorem kq_b {Ba g : Nat} {w : World} (ha : Ba < w.heap.size) (hg : g < w.heap.size) (W : World) (l : Nat) (o o' : Obj) (hl : w.heap.size ≤ l) (h : W.heap[l]? = some o) (h1 : o.isCells = false) (h2 : o.isWalk = false) : Kq Ba g W (W.putObj l o') :=
  ⟨World.putObj_heap_other (by omega), World.putObj_heap_other (by omega)⟩
theorem kq_drewN {Ba g : Nat} (A : World) (n : Nat) : Kq Ba g A (A.drewN n) := ⟨rfl, rfl⟩
theorem kq_kp {base Ba g : Nat} {A B : World} {c1 c2 : Array Value} {t1 t2 : TypeId} {f1 f2 : Nat × Nat} (h : Kp base A B) (h1 : A.heap[Ba]? = some (.cells c1 t1 f1)) (h2 : A.heap[g]? = some (.cells c2 t2 f2)) (n1 : t1 ≠ 58) (n2 : t1 ≠ 53) (n3 : t2 ≠ 58) (n4 : t2 ≠ 53) : Kq Ba g A B :=
  ⟨(h.blk _ _ _ _ h1 n1 n2).trans h1.symm, (h.blk _ _ _ _ h2 n3 n4).trans h2.symm⟩
/-- the places of a way, by how far back they lie -/
abbrev Ix (fs : List Fr) := {k : Nat // k ≤ fs.length}
abbrev encQ (B d : Nat) (fs : List Fr) (x : Ix fs) : Array Value := #[.pointer (some ⟨plB B (fs.drop x.1), plO d (fs.drop x.1), none⟩)]
def Chain {fs : List Fr} (pre : List (Ix fs)) : Prop := pre.map Subtype.val = List.range pre.length
theorem chain_nil {fs : List Fr} : Chain ([] : List (Ix fs)) := rfl
theorem chain_snoc {fs : List Fr} {pre : List (Ix fs)} {x : Ix fs} : Chain (pre ++ [x]) ↔ Chain pre ∧ x.1 = pre.length := by
  unfold Chain
  rw [List.map_append, List.length_append, List.length_singleton, List.range_succ, List.map_singleton]
  constructor
  · intro h
    have := List.append_inj' h rfl
    exact ⟨this.1, by simpa using this.2⟩
  · rintro ⟨h1, h2⟩
    rw [h1, h2]
set_option maxHeartbeats 4000000 in
theorem back1_in (F : Fence) (n : Nat) (hF : OpenF F Try.prog) (hf : F.fn 42) (hro : F.round = none) (hn : 1 ≤ n) (l Ba g cp B d : Nat) (fs : List Fr) (hfs : fs.length ≤ 1000) (J Jx : List (Ix fs) → World → Prop)
    (hY : ∀ pre x W, J pre W → pre.length < fs.length + 1 → YieldAt F (n - 1) Try.prog l (encQ B d fs x) W fun e W' =>
      (e = .returned (.bool true) ∧ J (pre ++ [x]) W' ∧ Kq Ba g W W') ∨ (e = .returned (.bool false) ∧ Jx (pre ++ [x]) W'))
    (W : World) (hx : W.heap[Ba]? = some (.cells #[.slice (some ⟨g, 0, none⟩) (fs.length + 1) cp] 64 (0, 0))) (hc : PtrsAt W g (places B d fs)) (h0 : J [] W) (hJd : ∀ pre W n, J pre W → J pre (W.drewN n)) :
    CallsIn F n Try.prog 42 #[.func (.yield l) #[] #[], .pointer (some ⟨Ba, 0, none⟩)] W fun e W' => (∃ v, e = .returned v) ∧
      ((∃ xs, (Chain xs ∧ xs.length = fs.length + 1) ∧ J xs W') ∨ (∃ pre, (Chain pre ∧ 0 < pre.length ∧ pre.length ≤ fs.length + 1) ∧ Jx pre W')) := by
  have hfi : (fs.length : Int) ≤ 1000 := by omega
  refine callsIn_of_wp Try.func42 rfl hf ?_ hro
  simp only [Try.ntmps42, List.size_toArray, List.length_cons, List.length_nil, Nat.reduceAdd, Nat.reduceSub, Array.replicate_succ, Array.replicate_zero, List.push_toArray, List.append_toArray, List.nil_append, List.cons_append]
  have x0 := cell_of hx 0 rfl
  have hw1 : IntKind.i64.wrap (((fs.length + 1 : Nat) : Int) - 1) = fs.length := by rw [wrap_s64 _ (by omega) (by omega)]; omega
  gi_wp2
  gi_loopw [3] (fun i wr => ∃ pre : List (Ix fs), Chain pre ∧ pre.length ≤ fs.length + 1 ∧ i = .int .i64 ((fs.length : Int) - pre.length) ∧ J pre wr ∧ Kq Ba g W wr) (fun i _ => (intOf i + 1).toNat)
  case atStart => exact ⟨[], chain_nil, Nat.zero_le _, by simp, h0, kq_refl _ _ _⟩
  case round =>
    obtain ⟨pre, hch, hpl, rfl, hJs, hnx⟩ := hrel
    by_cases hlt : pre.length ≤ fs.length
    · obtain ⟨i, hi, hi2⟩ : ∃ i : Nat, (fs.length : Int) - pre.length = i ∧ fs.length - pre.length = i := ⟨fs.length - pre.length, by omega, rfl⟩
      have ya : wr.cell? ⟨Ba, 0, none⟩ = some (.slice (some ⟨g, 0, none⟩) (fs.length + 1) cp) := (World.cell?_of_block hnx.1).trans x0
      have yc : wr.cell? ⟨g, i, none⟩ = some (.pointer (some ⟨plB B (fs.drop pre.length), plO d (fs.drop pre.length), none⟩)) := by
        have := ptrs_cell hc (places_back B d fs pre.length hlt)
        rw [hi2] at this
        exact (World.cell?_of_block hnx.2).trans this
      obtain ⟨fn, tmps, assign, body, hy, hR⟩ := hY pre ⟨pre.length, hlt⟩ wr hJs (by omega)
      dsimp only [encQ] at hy
      have HR : Hid (RoundIn F (n - 1) Try.prog l fn tmps assign body wr fun e W' => ∃ r, e = .returned (.bool r) ∧ ((r = true ∧ J (pre ++ [⟨pre.length, hlt⟩]) W' ∧ Kq Ba g wr W') ∨ (r = false ∧ Jx (pre ++ [⟨pre.length, hlt⟩]) W'))) := Lib.hid (hR.mono (by
        rintro e W' (⟨rfl, h1, h2⟩ | ⟨rfl, h1⟩)
        · exact ⟨true, rfl, .inl ⟨rfl, h1, h2⟩⟩
        · exact ⟨false, rfl, .inr ⟨rfl, h1⟩⟩))
      have HCH : Hid (Chain (pre ++ [⟨pre.length, hlt⟩])) := Lib.hid (chain_snoc.2 ⟨hch, rfl⟩)
      have HLEN : Hid ((pre ++ [(⟨pre.length, hlt⟩ : Ix fs)]).length = pre.length + 1) := Lib.hid (by simp)
      have HLT := Lib.hid hlt
      have hii : (i : Int) < (fs.length + 1 : Nat) := by omega
      have hi0 : (0 : Int) ≤ i := by omega
      have hw2 : IntKind.i64.wrap ((i : Int) - 1) = (fs.length : Int) - (pre.length + 1 : Nat) := by rw [wrap_s64 _ (by omega) (by omega)]; omega
      have HI := Lib.hid hi
      rw [hi]
      generalize (pre ++ [(⟨pre.length, hlt⟩ : Ix fs)]) = pre2 at *
      clear hR hlt hi hi2
      gi_wp2
      refine HR.out.mono ?_
      rintro e W3 ⟨r, rfl, hd⟩
      rcases hd with ⟨rfl, hJ3, hk3⟩ | ⟨rfl, hJx3⟩
      · gi_wp2
        go_roundw
        case rel => exact ⟨pre2, HCH.out, by have := HLEN.out; have := HLT.out; omega, by rw [HLEN.out]; congr 1, hJ3, kq_t hnx hk3⟩
        case measure => have := HI.out; simp [intOf]; omega
      · gi_wp2
        refine bodyPost_ret (results_none rfl _ _ _) rfl ?_
        exact ⟨⟨_, rfl⟩, .inr ⟨pre2, ⟨HCH.out, by have := HLEN.out; omega, by have := HLEN.out; have := HLT.out; omega⟩, hJx3⟩⟩
    · have hn0 : ¬ (0 : Int) ≤ (fs.length : Int) - pre.length := by omega
      have HLT : Hid (pre.length = fs.length + 1) := Lib.hid (by omega)
      clear hlt
      gi_wp2
      go_end0
      exact ⟨⟨_, rfl⟩, .inl ⟨pre, ⟨hch, HLT.out⟩, hJs⟩⟩
theorem back_any (a : Option Addr) (n cp : Nat) (w : World) : Calls Try.prog 27 #[.slice a n cp] w fun e w' =>
    e = .returned (.func (.func 42) #[] #[.pointer (some ⟨w.heap.size, 0, none⟩)]) ∧ w' = w.alloc (.cells #[.slice a n cp] 64) := by
  go_enter Try.func27, Try.ntmps27
  go_wp2_with fail
  go_ret
  exact ⟨rfl, rfl⟩
theorem back_stops (F : Fence) (n : Nat) (hF : OpenF F Try.prog) (hro : F.round = none) (hn : 1 ≤ n) (Ba g cp B d : Nat) (fs : List Fr) (hfs : fs.length ≤ 1000) (w : World)
    (hx : w.heap[Ba]? = some (.cells #[.slice (some ⟨g, 0, none⟩) (fs.length + 1) cp] 64 (0, 0))) (hc : PtrsAt w g (places B d fs)) :
    SeqStopsK F n Try.prog 42 #[.pointer (some ⟨Ba, 0, none⟩)] (encQ B d fs) (Kq Ba g) (fun xs => Chain xs ∧ xs.length = fs.length + 1) (fun pre => Chain pre ∧ 0 < pre.length ∧ pre.length ≤ fs.length + 1) (fs.length + 1) w :=
  fun l J Jx W hW hJ hJx hY h0 =>
    back1_in F n hF (hF.fn _) hro hn l Ba g cp B d fs hfs J Jx hY W ((hW.block Ba (heap_lt hx)).trans hx) (hc.below hW) h0 (fun pre W1 m hs => abides_drew hJ hs m)
end Go.Proofs.Ytlmmnjoincmgcaa

namespace Go.Proofs.Ytlmmnjoincmgcaa
set_option linter.unusedVariables false
set_option linter.unusedSimpArgs false
set_option maxRecDepth 100000
open Go.RowKit Go.Shelf
attribute [local go_sem] Oper.semAt_some
theorem wpStill_no {P : Program} {ops : Array Oper} {w : World} {Q : Act → Prop} {a : Act} {o : Oper} {rest : List Oper} (hw : Region.wanted o (yielded ops a.tmps) = false) (h : wpStill P ops w Q rest (a.put o.dst undef)) : wpStill P ops w Q (o :: rest) a := by
  unfold wpStill
  rw [if_neg (by rw [hw]; simp)]
  exact h
theorem wpStill_go {P : Program} {ops : Array Oper} {w : World} {Q : Act → Prop} {a : Act} {o : Oper} {rest : List Oper} (hw : Region.wanted o (yielded ops a.tmps) = true) (h : ∀ K : Act → Prop, (∀ a, wpStill P ops w Q rest a → K a) → o.still P a w K) : wpStill P ops w Q (o :: rest) a := by
  unfold wpStill
  rw [if_pos hw]
  exact h _ fun _ h => h
/-! the trees below the places of a way -/
def upTr : List Fr → Tr → Nat → Tr
  | _, e, 0 => e
  | [], e, _ + 1 => e
  | f :: fs, e, k + 1 => upTr fs (plug f e) k
theorem up_fill : ∀ (fs : List Fr) (e : Tr) (k : Nat), k ≤ fs.length → fill (fs.drop k) (upTr fs e k) = fill fs e
  | _, _, 0, _ => by simp [upTr]
  | [], _, _ + 1, h => by simp at h
  | f :: fs, e, k + 1, h => up_fill fs (plug f e) k (by simpa using h)
theorem up_at : ∀ (fs : List Fr) (e : Tr) (k : Nat) (f : Fr), fs[k]? = some f → ∃ x, upTr fs e (k + 1) = plug f x
  | [], _, _, _, h => by simp at h
  | g :: fs, e, 0, f, h => by
    simp only [List.getElem?_cons_zero, Option.some.injEq] at h
    subst h
    exact ⟨e, by simp [upTr]⟩
  | g :: fs, e, k + 1, f, h => up_at fs (plug g e) k f (by simpa using h)
def hitB (A : List UInt8) : Tr → Bool
  | .nil => false
  | .node _ _ _ a n o _ _ => o != -1 && hasP a n A
theorem ownF_none : ∀ {fs : List Fr}, (∀ f ∈ fs, f.own = -1) → ownF fs = (0, false)
  | [], _ => rfl
  | f :: fs, h => by unfold ownF; rw [if_pos (h f (by simp)), ownF_none (fun g hg => h g (List.mem_cons_of_mem _ hg))]
theorem ownF_at : ∀ {fs : List Fr} {k : Nat} {f : Fr}, fs[k]? = some f → f.own ≠ -1 → (∀ j g, j < k → fs[j]? = some g → g.own = -1) → ownF fs = (f.own, true)
  | [], _, _, h, _, _ => by simp at h
  | g :: fs, 0, f, h, ho, _ => by
    simp only [List.getElem?_cons_zero, Option.some.injEq] at h
    subst h
    unfold ownF
    rw [if_neg ho]
  | g :: fs, k + 1, f, h, ho, hn => by
    unfold ownF
    rw [if_pos (hn 0 g (by omega) rfl)]
    exact ownF_at (by simpa using h) ho fun j x hj hx => hn (j + 1) x (by omega) (by simpa using hx)
theorem hit_frame {A : List UInt8} {f : Fr} {x : Tr} (h : hasP f.adr f.bits A = true) : hitB A (plug f x) = true ↔ f.own ≠ -1 := by
  show (f.own != -1 && hasP f.adr f.bits A) = true ↔ _
  rw [h]
  simp
theorem hit_end {s : Nat} {A : List UInt8} {e : Tr} (hA : A.length = s) (hs : s = 4 ∨ s = 16) (h : e.Wf s) : hitB A e = true ↔ hitT A e := by
  cases e with
  | nil => simp [hitB, hitT]
  | node b ad cp a n o l r =>
    have hl : a.length = s := h.1.1
    have hn := h.1.2.1
    unfold hitB hitT
    have := hasP_iff (a := a) (b := A) (m := n) (rightP_nat.2 ⟨by omega, by omega⟩)
    simp only [Bool.and_eq_true, bne_iff_ne, this]
    constructor
    · rintro ⟨h1, _, h2⟩; exact ⟨h1, h2⟩
    · rintro ⟨h1, h2⟩; exact ⟨h1, by omega, h2⟩
theorem own_none {s : Nat} {A : List UInt8} {fs : List Fr} {e : Tr} (hA : A.length = s) (hs : s = 4 ∨ s = 16) (he : e.Wf s) (hf : ∀ f ∈ fs, hasP f.adr f.bits A = true) (h : ∀ k, k ≤ fs.length → hitB A (upTr fs e k) = false) : ownT A fs e (0, false) := by
  right
  refine ⟨fun h2 => ?_, (ownF_none fun f hf2 => ?_).symm⟩
  · have h3 := (hit_end hA hs he).2 h2
    have h4 := h 0 (Nat.zero_le _)
    rw [show upTr fs e 0 = e by cases fs <;> rfl, h3] at h4
    cases h4
  · obtain ⟨k, hk⟩ := List.getElem?_of_mem hf2
    have hlt := (List.getElem?_eq_some_iff.1 hk).1
    obtain ⟨x, hx⟩ := up_at fs e k f hk
    have h4 := h (k + 1) (by omega)
    rw [hx] at h4
    cases Decidable.em (f.own = -1) with
    | inl h5 => exact h5
    | inr h5 => rw [(hit_frame (hf f hf2)).2 h5] at h4; cases h4
theorem own_some {s : Nat} {A : List UInt8} {fs : List Fr} {e : Tr} (hA : A.length = s) (hs : s = 4 ∨ s = 16) (he : e.Wf s) (hf : ∀ f ∈ fs, hasP f.adr f.bits A = true) {k : Nat} (hk : k ≤ fs.length) (h : ∀ j, j < k → hitB A (upTr fs e j) = false) (hh : hitB A (upTr fs e k) = true) : ownT A fs e (ownTr (upTr fs e k), true) := by
  cases k with
  | zero =>
    rw [show upTr fs e 0 = e by cases fs <;> rfl] at hh ⊢
    exact .inl ⟨(hit_end hA hs he).1 hh, rfl⟩
  | succ k =>
    right
    refine ⟨fun h2 => ?_, ?_⟩
    · have h3 := (hit_end hA hs he).2 h2
      have h4 := h 0 (by omega)
      rw [show upTr fs e 0 = e by cases fs <;> rfl, h3] at h4
      cases h4
    · have hlt : k < fs.length := by omega
      have hk2 : fs[k]? = some fs[k] := List.getElem?_eq_getElem hlt
      obtain ⟨x, hx⟩ := up_at fs e k _ hk2
      rw [hx] at hh ⊢
      refine (ownF_at hk2 ((hit_frame (hf _ (List.getElem_mem hlt))).1 hh) fun j g hj hg => ?_).symm
      obtain ⟨y, hy⟩ := up_at fs e j g hg
      have h4 := h (j + 1) (by omega)
      rw [hy] at h4
      cases Decidable.em (g.own = -1) with
      | inl h5 => exact h5
      | inr h5 => rw [(hit_frame (hf g (List.mem_of_getElem? hg))).2 h5] at h4; cases h4
theorem keeps_bel {W W' : World} (h : Below W.heap.size W W') : KeepsOthers W W' := ⟨h.size, fun k o ho _ => (h.block k (heap_lt ho)).trans ho⟩
theorem owner_results (W : World) (b c : Nat) (v0 v1 : Value) (h : W.cell? ⟨b, 0, none⟩ = some v0) (hc : W.cell? ⟨c, 0, none⟩ = some v1) (T : Array Value) (h4 : T.getD 4 undef = .pointer (some ⟨b, 0, none⟩)) (h5 : T.getD 5 undef = .pointer (some ⟨c, 0, none⟩)) :
    (results Try.f15 T).run Try.prog W = .ok (.tuple #[v0, v1]) W := by
  have e4 : T[4]?.getD undef = .pointer (some ⟨b, 0, none⟩) := by simpa using h4
  have e5 : T[5]?.getD undef = .pointer (some ⟨c, 0, none⟩) := by simpa using h5
  simp [results, Try.results15, go_sem, e4, e5, h, hc]
set_option maxHeartbeats 2000000 in
theorem powner_any (base B d : Nat) (t o : Tr) (A : List UInt8) (ad : Option Addr) (cp : Nat) (w : World) (hT : Tab w base B d t o) (hW : t.Wf A.length) (hd : (d = 0 ∧ A.length = 4) ∨ (d = 1 ∧ A.length = 16)) (hA : Bytes w (.slice ad A.length cp) A)
    (x : Int × Bool) (hx : ∀ fs e, wayF A (8 * A.length) t [] = (fs, e) → ∀ y, ownT A fs e y → x = y) :
    Calls Try.prog 15 #[.pointer (some ⟨B, 0, none⟩), .slice ad A.length cp] w (OwnerRet x w) := by
  obtain ⟨w3, hw3⟩ : ∃ w3, w3 = (((w.alloc (.cells #[.slice ad A.length cp] 23)).alloc (.cells #[.int .i64 0] 3)).alloc (.cells #[.bool false] 4)) := ⟨_, rfl⟩
  have hs3 : w3.heap.size = w.heap.size + 3 := by rw [hw3]; simp
  have hb3 : Below w.heap.size w w3 := by rw [hw3]; exact (((Below.refl _ _).alloc (Nat.le_refl _) _).alloc (by simp) _).alloc (by simp; omega) _
  have k0 : w3.heap[w.heap.size]? = some (.cells #[.slice ad A.length cp] 23 (0, 0)) := by
    rw [hw3, (below_one (w := (w.alloc (.cells #[.slice ad A.length cp] 23)).alloc (.cells #[.int .i64 0] 3)) _).block _ (by simp; omega), (below_one (w := w.alloc (.cells #[.slice ad A.length cp] 23)) _).block _ (by simp), heap_alloc_new]
  have k1 : w3.heap[w.heap.size + 1]? = some (.cells #[.int .i64 0] 3 (0, 0)) := by
    rw [hw3, (below_one (w := (w.alloc (.cells #[.slice ad A.length cp] 23)).alloc (.cells #[.int .i64 0] 3)) _).block _ (by simp)]
    have := heap_alloc_new (w.alloc (.cells #[.slice ad A.length cp] 23)) (.cells #[.int .i64 0] 3)
    simpa using this
  have k2 : w3.heap[w.heap.size + 2]? = some (.cells #[.bool false] 4 (0, 0)) := by
    rw [hw3]
    have := heap_alloc_new ((w.alloc (.cells #[.slice ad A.length cp] 23)).alloc (.cells #[.int .i64 0] 3)) (.cells #[.bool false] 4)
    simpa using this
  obtain ⟨⟨fs, e⟩, hwy⟩ : ∃ z, z = wayF A (8 * A.length) t [] := ⟨_, rfl⟩
  have hs4 : A.length = 4 ∨ A.length = 16 := by omega
  have hon : ∀ f ∈ fs, OnWay A (8 * A.length) f := by
    have := way_on A (8 * A.length) t [] (fun f hf => by simp at hf)
    rw [← hwy] at this
    exact this
  have hfl : fill fs e = t := by
    have := way_fill A (8 * A.length) t []
    rw [← hwy] at this
    exact this
  have hwf : (fill fs e).Wf A.length := by rw [hfl]; exact hW
  obtain ⟨hctx, hew, heu⟩ := (wf_fill (on_d hon)).1 hwf
  have hfh : ∀ f ∈ fs, hasP f.adr f.bits A = true := fun f hf => by
    obtain ⟨_, ⟨l1, l2⟩, _⟩ := ctx_sib hctx f hf
    exact (hasP_iff (rightP_nat.2 ⟨by omega, by omega⟩)).2 ⟨by omega, (hon f hf).2.1⟩
  have hlen : fs.length ≤ 200 := by have := ctx_len hctx hon; omega
  have HX : Hid (∀ y, ownT A fs e y → x = y) := Lib.hid (fun y h => hx fs e hwy.symm y h)
  have HNO : Hid ((∀ k, k ≤ fs.length → hitB A (upTr fs e k) = false) → x = (0, false)) := Lib.hid (fun h => HX.out _ (own_none rfl hs4 hew hfh h))
  have HYES : Hid (∀ k, k ≤ fs.length → (∀ j, j < k → hitB A (upTr fs e j) = false) → hitB A (upTr fs e k) = true → x = (ownTr (upTr fs e k), true)) := Lib.hid (fun k hk h1 h2 => HX.out _ (own_some rfl hs4 hew hfh hk h1 h2))
  have HTT : Hid (∀ W, Below w.heap.size w W → Tab W base B d (fill fs e) o) := Lib.hid (fun W hb => by rw [hfl]; exact hT.below hb)
  have HWF : Hid (∀ k, k ≤ fs.length → (upTr fs e k).Wf A.length) := Lib.hid (fun k hk => by
    have := up_fill fs e k hk
    rw [← this] at hwf
    exact ((wf_fill (fun f hf => on_d hon f (List.mem_of_mem_drop hf))).1 hwf).2.1)
  have HD := Lib.hid (on_d hon)
  obtain ⟨m, hm⟩ : ∃ m, 8 * A.length = m := ⟨_, rfl⟩
  have hmul : IntKind.i64.wrap (8 * (A.length : Int)) = (m : Int) := by rw [wrap_s64 _ (by omega) (by omega)]; omega
  have HWY : Hid (∀ w1, Below w.heap.size w w1 → Calls Try.prog 25 #[.pointer (some ⟨B, 0, none⟩), .agg #[.slice ad A.length cp, .int .i64 m]] w1 (WayRet w1 (places B d fs))) := Lib.hid (fun w1 hb => by
    have := way_any base B d A.length t o A m ad cp w1 (hT.below hb) hW (by omega) (hA.below hb) rfl (by omega)
    rw [← hm, ← hwy] at this
    rw [← hm]
    exact this)
  have HRI := Lib.hid (aright_v ad A.length cp 0 (by omega) true (rightP_nat (m := 0) |>.2 ⟨hs4, by omega⟩))
  have HVA := Lib.hid hA
  have HB3 := Lib.hid hb3
  have HK0 := Lib.hid k0
  have HK1 := Lib.hid k1
  have HK2 := Lib.hid k2
  have HS3 := Lib.hid hs3
  have HL := Lib.hid hlen
  have HAL : Hid (A.length ≤ 16) := Lib.hid (by omega)
  have c0 := cell_of k0 0 rfl
  clear hT hW hd hA hx hs4 hon hfl hwf hctx hew heu hfh hwy hm hb3 k0 k1 k2 hs3 hlen
  (refine calls_of_wp_marks Try.func15 rfl ?_; simp only [Try.ntmps15, List.size_toArray, List.length_cons, List.length_nil, Nat.reduceAdd, Nat.reduceSub, Array.replicate_succ, Array.replicate_zero, List.push_toArray, List.append_toArray, List.nil_append, List.cons_append])
  go_wp2_with fail
  rw [← hw3]
  clear hw3
  go_wp2_with (first | (go_at_call 29; ((with_reducible refine (HRI.out _).mono ?_); rintro e w4 ⟨rfl, hb4⟩; have HB4 := Lib.hid (Below.next HB3.out hb4); have c0 := cell_keep4 c0 hb4; have HK0 := Lib.hid ((hb4.block _ (heap_lt HK0.out)).trans HK0.out); have HK1 := Lib.hid ((hb4.block _ (heap_lt HK1.out)).trans HK1.out); have HK2 := Lib.hid ((hb4.block _ (heap_lt HK2.out)).trans HK2.out); clear hb4)) | (go_at_call 25; ((with_reducible refine (HWY.out _ HB4.out).mono ?_); rintro e w5 ⟨g, gc, rfl, hg1, hg2, hg3, hptr, hb5⟩; have HPT := Lib.hid hptr; have HB5 := Lib.hid (Below.next HB4.out hb5); have HK0 := Lib.hid ((hb5.block _ (heap_lt HK0.out)).trans HK0.out); have HK1 := Lib.hid ((hb5.block _ (heap_lt HK1.out)).trans HK1.out); have HK2 := Lib.hid ((hb5.block _ (heap_lt HK2.out)).trans HK2.out); clear hb5 hptr hg1 hg2 hg3)) | (go_at_call 27; ((with_reducible refine (back_any _ _ _ _).mono ?_); rintro e w6 ⟨rfl, rfl⟩)) | fail)
  rw [places_len]
  have eB := heap_alloc_new w5 (.cells #[.slice (some ⟨g, 0, none⟩) (fs.length + 1) gc] 64)
  have hb6 := below_one (w := w5) (.cells #[.slice (some ⟨g, 0, none⟩) (fs.length + 1) gc] 64)
  obtain ⟨W0, hW0⟩ : ∃ W0, w5.alloc (.cells #[.slice (some ⟨g, 0, none⟩) (fs.length + 1) gc] 64) = W0 := ⟨_, rfl⟩
  have hs6 : W0.heap.size = w5.heap.size + 1 := by rw [← hW0]; simp
  rw [hW0] at eB hb6 ⊢
  clear hW0
  have hsw : w.heap.size + 3 ≤ W0.heap.size := by have := heap_lt HK2.out; omega
  have hpt0 := HPT.out.below hb6
  have hg0 : g < W0.heap.size := by obtain ⟨cur, hc, _⟩ := hpt0; exact heap_lt hc
  have hB0 := Below.next HB5.out hb6
  have j0 := (hb6.block _ (heap_lt HK0.out)).trans HK0.out
  have j1 := (hb6.block _ (heap_lt HK1.out)).trans HK1.out
  have j2 := (hb6.block _ (heap_lt HK2.out)).trans HK2.out
  have HK : Hid _ := Lib.hid (back_stops Fence.wide (9 - 1) (openF_wide _) rfl (by decide) w5.heap.size g gc B d fs (by have := HL.out; omega) W0 eB hpt0)
  have HBA : Hid (w5.heap.size < W0.heap.size) := Lib.hid (by omega)
  have HG0 := Lib.hid hg0
  have HEB := Lib.hid eB
  have HPW := Lib.hid hpt0
  have HSW := Lib.hid hsw
  clear eB hb6 hpt0 hg0 hsw hs6 c0
  refine wpIn_wide.1 (wpIn_rangeFunc_ownG (n := 9) rfl (by decide) (gf := 42) (lb := #[.pointer (some ⟨w5.heap.size, 0, none⟩)]) rfl trivial (enters_of Try.func42 (by kernel_rfl) rfl)
    HK.out kq_t (kq_b HBA.out HG0.out) (Below.refl _ _) (fun _ => rfl)
    (fun pre W => ((∀ y ∈ pre, hitB A (upTr fs e y.1) = false) ∧ W.cell? ⟨w.heap.size, 0, none⟩ = some (.slice ad A.length cp) ∧ W.cell? ⟨w.heap.size + 1, 0, none⟩ = some (.int .i64 0) ∧ W.frozen? ⟨w.heap.size + 1, 0, none⟩ = false ∧ W.cell? ⟨w.heap.size + 1 + 1, 0, none⟩ = some (.bool false) ∧ W.frozen? ⟨w.heap.size + 1 + 1, 0, none⟩ = false) ∧ Below w.heap.size w W ∧ W0.heap.size ≤ W.heap.size)
    (fun c pre W => (c = .ret ∧ (∃ pre' y, pre = pre' ++ [y] ∧ (∀ z ∈ pre', hitB A (upTr fs e z.1) = false) ∧ hitB A (upTr fs e y.1) = true ∧ W.cell? ⟨w.heap.size + 1, 0, none⟩ = some (.int .i64 (ownTr (upTr fs e y.1)))) ∧ W.cell? ⟨w.heap.size + 1 + 1, 0, none⟩ = some (.bool true)) ∧ Below w.heap.size w W)
    (OwnFrom.and (Own.from (fun s A B row hs hg hr => ⟨hs.1, cell_kept hs.2.1 hg hr, cell_kept hs.2.2.1 hg hr, (frozen_kept hs.2.2.1 hg hr).trans hs.2.2.2.1, cell_kept hs.2.2.2.2.1 hg hr, (frozen_kept hs.2.2.2.2.1 hg hr).trans hs.2.2.2.2.2⟩) _) (OwnFrom.and (ownFrom_below (Nat.le_refl _) (by have := HSW.out; omega)) (fun s A B row hs hg hr => Nat.le_trans hs hg.size)))
    (fun c => OwnFrom.and (Own.from (fun s A B row hs hg hr => ⟨hs.1, (by obtain ⟨p, y, h1, h2, h3, h4⟩ := hs.2.1; exact ⟨p, y, h1, h2, h3, cell_kept h4 hg hr⟩), cell_kept hs.2.2 hg hr⟩) _) (ownFrom_below (Nat.le_refl _) (by have := HSW.out; omega)))
    ⟨⟨fun y hy => by simp at hy, cell_of j0 0 rfl, cell_of j1 0 rfl, free_of j1 0, cell_of j2 0 rfl, free_of j2 0⟩, hB0, Nat.le_refl _⟩ ?a1 ?assign ?body ?done ?stop)
  case assign =>
    intro l x W K hK
    gi_wp2
    exact hK
  case body =>
    rintro l pre ⟨k, hk⟩ W ⟨⟨hno, hcA, hc4, hf4, hc5, hf5⟩, hB, hWs⟩ hpre
    have hTb := HTT.out W hB
    have HWS := Lib.hid hWs
    clear hWs
    rw [← up_fill fs e k hk] at hTb
    have hdk : ∀ f ∈ fs.drop k, f.d = 0 ∨ f.d = 1 := fun f hf => HD.out f (List.mem_of_mem_drop hf)
    have hat := (Tab.at hTb hdk).1
    have htr := trAt_fill hdk hTb.here
    have hwk := HWF.out k hk
    cases hu : upTr fs e k with
    | nil =>
      rw [hu] at hat
      replace hat : W.cell? ⟨plB B (fs.drop k), plO d (fs.drop k), none⟩ = some (.pointer none) := hat
      have HNO2 : Hid (∀ y ∈ pre ++ [(⟨k, hk⟩ : Ix fs)], hitB A (upTr fs e y.1) = false) := Lib.hid (fun y hy => by
        rcases List.mem_append.1 hy with h | h
        · exact hno y h
        · rw [List.mem_singleton.1 h]; show hitB A (upTr fs e k) = false; rw [hu]; rfl)
      have HBW := Lib.hid hB
      clear hTb hdk htr hwk hno hB hu hpre
      gi_wp2
      refine wpIn_region_still_tail 15 (openF_round l _) (by kernel_rfl) (by kernel_rfl) ?_
      simp only [List.take_succ_cons, List.take_zero, List.drop_succ_cons, List.drop_zero]
      iterate 3 (with_reducible refine wpStill_go (by kernel_rfl) (fun K hK => ?_); go_simp; refine hK _ ?_; clear hK K)
      iterate 5 (with_reducible refine wpStill_no (by kernel_rfl) ?_; try simp only [Act.put, List.setIfInBounds_toArray, List.set_cons_zero, List.set_cons_succ])
      iterate 2 (with_reducible refine wpStill_go (by kernel_rfl) (fun K hK => ?_); go_simp; refine hK _ ?_; clear hK K)
      iterate 5 (with_reducible refine wpStill_no (by kernel_rfl) ?_; try simp only [Act.put, List.setIfInBounds_toArray, List.set_cons_zero, List.set_cons_succ])
      refine wpStill_nil ?_
      change wpListIn _ _ _ _ _ _ _ W.drew
      gi_wp2
      refine ⟨trivial, ?_⟩
      gi_wp2
      exact ⟨(KeepsOthers.drew W).from _, kq_drewN W 1, ⟨HNO2.out, hcA, hc4, hf4, hc5, hf5⟩, below_dr HBW.out 1, HWS.out⟩
    | node b1 ad1 cp1 a1 n1 o1 l1 r1 =>
      rw [hu] at hat htr hwk
      replace hat : W.cell? ⟨plB B (fs.drop k), plO d (fs.drop k), none⟩ = some (.pointer (some ⟨b1, 0, none⟩)) := hat
      have n0 := cell_of htr.1.2.1 0 rfl
      have n2 := cell_of htr.1.2.1 1 rfl
      have n3 := cell_of htr.1.2.1 2 rfl
      have hal : a1.length = A.length := hwk.1.1
      have HBA1 : Hid (Bytes W.drew (.slice ad1 a1.length cp1) a1) := Lib.hid (htr.1.2.2.1.below (Below.drew (Below.refl _ _)))
      have HVW : Hid (Bytes W.drew (.slice ad A.length cp) A) := Lib.hid (HVA.out.below (Below.drew hB))
      have HBW := Lib.hid hB
      by_cases ho : o1 = -1
      · have HNO2 : Hid (∀ y ∈ pre ++ [(⟨k, hk⟩ : Ix fs)], hitB A (upTr fs e y.1) = false) := Lib.hid (fun y hy => by
          rcases List.mem_append.1 hy with h | h
          · exact hno y h
          · rw [List.mem_singleton.1 h]; show hitB A (upTr fs e k) = false; rw [hu]; simp [hitB, ho])
        have ho1 : (o1 != -1) = false := bneq_i ho
        clear hTb hdk htr hwk hno hB hu hpre hal ho
        gi_wp2
        refine wpIn_region_still_tail 15 (openF_round l _) (by kernel_rfl) (by kernel_rfl) ?_
        simp only [List.take_succ_cons, List.take_zero, List.drop_succ_cons, List.drop_zero]
        iterate 10 (with_reducible refine wpStill_go (by kernel_rfl) (fun K hK => ?_); go_simp; refine hK _ ?_; clear hK K)
        iterate 5 (with_reducible refine wpStill_no (by kernel_rfl) ?_; try simp only [Act.put, List.setIfInBounds_toArray, List.set_cons_zero, List.set_cons_succ])
        refine wpStill_nil ?_
        change wpListIn _ _ _ _ _ _ _ W.drew
        gi_wp2
        refine ⟨trivial, ?_⟩
        gi_wp2
        exact ⟨(KeepsOthers.drew W).from _, kq_drewN W 1, ⟨HNO2.out, hcA, hc4, hf4, hc5, hf5⟩, below_dr HBW.out 1, HWS.out⟩
      · have ho1 : (o1 != -1) = true := bnne_i ho
        obtain ⟨r, hr⟩ : ∃ r, hasP a1 n1 A = r := ⟨_, rfl⟩
        have HHA : Hid (∀ w, Bytes w (.slice ad1 a1.length cp1) a1 → Bytes w (.slice ad A.length cp) A → CallsIn (Fence.wide.inRound l) (9 - 1 - 1 - 1) Try.prog 30 #[.agg #[.slice ad1 a1.length cp1, .int .i64 n1], .slice ad A.length cp] w (RightRet w r)) := Lib.hid (fun w h1 h2 => CallsIn.inRound l (callsIn_wide.2 (by rw [← hr]; exact ahas_all a1 A ad1 ad cp1 cp n1 w h1 h2 (by have := HAL.out; omega) (by have := HAL.out; omega))))
        have HHIT : Hid (hitB A (upTr fs e k) = r) := Lib.hid (by rw [hu]; show (o1 != -1 && hasP a1 n1 A) = r; rw [ho1, hr]; rfl)
        have HOT : Hid (ownTr (upTr fs e k) = o1) := Lib.hid (by rw [hu]; rfl)
        have HNO := Lib.hid hno
        clear hTb hdk htr hwk hno hB hu hpre hal ho hr
        cases r with
        | false =>
          gi_wp2
          refine wpIn_region_still_tail 15 (openF_round l _) (by kernel_rfl) (by kernel_rfl) ?_
          simp only [List.take_succ_cons, List.take_zero, List.drop_succ_cons, List.drop_zero]
          iterate 15 (with_reducible refine wpStill_go (by kernel_rfl) (fun K hK => ?_); go_simp; refine hK _ ?_; clear hK K)
          refine wpStill_nil ?_
          change wpListIn _ _ _ _ _ _ _ W.drew
          gi_wp2_with (refine ⟨trivial, ?_⟩; gi_at_call 30; (with_reducible refine (HHA.out _ HBA1.out HVW.out).mono ?_); rintro e w7 ⟨rfl, hb7⟩; have hf4 := (World.frozen?_of_block (hb7.block (w.heap.size + 1) (World.block_lt_of_cell? W.drew _ hc4))).trans hf4; have hf5 := (World.frozen?_of_block (hb7.block (w.heap.size + 1 + 1) (World.block_lt_of_cell? W.drew _ hc5))).trans hf5; have n3 := cell_keep4 (w := W.drew) n3 hb7; have hcA := cell_keep4 (w := W.drew) hcA hb7; have hc4 := cell_keep4 (w := W.drew) hc4 hb7; have hc5 := cell_keep4 (w := W.drew) hc5 hb7; have HB7 := Lib.hid hb7; clear hb7)
          have HNO2 : ∀ y ∈ pre ++ [(⟨k, hk⟩ : Ix fs)], hitB A (upTr fs e y.1) = false := fun y hy => by
            rcases List.mem_append.1 hy with h | h
            · exact HNO.out y h
            · rw [List.mem_singleton.1 h]; exact HHIT.out
          have hb77 : Below W.heap.size W w7 := Below.next (Below.drew (Below.refl _ _)) HB7.out
          exact ⟨(keeps_bel hb77).from _, ⟨hb77.block _ (by have := HBA.out; have := HWS.out; omega), hb77.block _ (by have := HG0.out; have := HWS.out; omega)⟩, ⟨HNO2, hcA, hc4, hf4, hc5, hf5⟩, Below.next HBW.out hb77, Nat.le_trans HWS.out hb77.size⟩
        | true =>
          gi_wp2
          refine wpIn_region_still_tail 15 (openF_round l _) (by kernel_rfl) (by kernel_rfl) ?_
          simp only [List.take_succ_cons, List.take_zero, List.drop_succ_cons, List.drop_zero]
          iterate 15 (with_reducible refine wpStill_go (by kernel_rfl) (fun K hK => ?_); go_simp; refine hK _ ?_; clear hK K)
          refine wpStill_nil ?_
          change wpListIn _ _ _ _ _ _ _ W.drew
          gi_wp2_with (refine ⟨trivial, ?_⟩; gi_at_call 30; (with_reducible refine (HHA.out _ HBA1.out HVW.out).mono ?_); rintro e w7 ⟨rfl, hb7⟩; have hf4 := (World.frozen?_of_block (hb7.block (w.heap.size + 1) (World.block_lt_of_cell? W.drew _ hc4))).trans hf4; have hf5 := (World.frozen?_of_block (hb7.block (w.heap.size + 1 + 1) (World.block_lt_of_cell? W.drew _ hc5))).trans hf5; have n3 := cell_keep4 (w := W.drew) n3 hb7; have hcA := cell_keep4 (w := W.drew) hcA hb7; have hc4 := cell_keep4 (w := W.drew) hc4 hb7; have hc5 := cell_keep4 (w := W.drew) hc5 hb7; have HB7 := Lib.hid hb7; clear hb7)
          have hb77 : Below W.heap.size W w7 := Below.next (Below.drew (Below.refl _ _)) HB7.out
          have hne : w.heap.size + 1 ≠ w.heap.size + 1 + 1 := by omega
          refine ⟨((keeps_bel hb77).trans ((KeepsOthers.setCell _ _ _).trans (KeepsOthers.setCell _ _ _))).from _, ⟨rfl, ⟨pre, ⟨k, hk⟩, rfl, HNO.out, HHIT.out, ?_⟩, ?_⟩, ?_⟩
          · rw [cell_set_no hne, HOT.out]
            exact World.cell?_setCell_same' _ _ _ (by rw [hc4]; rfl)
          · refine World.cell?_setCell_same' _ _ _ ?_
            rw [cell_set_no hne.symm, hc5]
            rfl
          · exact ((Below.next HBW.out hb77).setCell (by simp) _).setCell (by simp; omega) _
  case done =>
    rintro D ys W hD ⟨hch, hln⟩ ⟨⟨hno, hcA, hc4, hf4, hc5, hf5⟩, hB, hWs⟩ hK
    have hall : ∀ k, k ≤ fs.length → hitB A (upTr fs e k) = false := fun k hk => by
      have h1 : k ∈ ys.map Subtype.val := by rw [hch, List.mem_range, hln]; omega
      obtain ⟨y, hy, rfl⟩ := List.mem_map.1 h1
      exact hno y hy
    have hx0 := HNO.out hall
    subst hx0
    clear hall hno hch hln hcA
    have HBW := Lib.hid hB
    clear hB
    go_wp2_with fail
    have hne : w.heap.size + 1 ≠ w.heap.size + 1 + 1 := by omega
    have hK' := ((KeepsOthers.setCell W ⟨w.heap.size + 1, 0, none⟩ (.int .i64 0)).trans (KeepsOthers.setCell _ ⟨w.heap.size + 1 + 1, 0, none⟩ (.bool false))).same D _ hK rfl
    have z4 : ((W.setCell ⟨w.heap.size + 1, 0, none⟩ (.int .i64 0)).setCell ⟨w.heap.size + 1 + 1, 0, none⟩ (.bool false)).cell? ⟨w.heap.size + 1, 0, none⟩ = some (.int .i64 0) := by
      rw [cell_set_no hne]
      exact World.cell?_setCell_same' _ _ _ (by rw [hc4]; rfl)
    have z5 : ((W.setCell ⟨w.heap.size + 1, 0, none⟩ (.int .i64 0)).setCell ⟨w.heap.size + 1 + 1, 0, none⟩ (.bool false)).cell? ⟨w.heap.size + 1 + 1, 0, none⟩ = some (.bool false) := by
      refine World.cell?_setCell_same' _ _ _ ?_
      rw [cell_set_no hne.symm, hc5]
      rfl
    exact postM_mark hK' rfl (owner_results _ _ _ _ _ (mark_cell (o := .deferred none) hK' z4) (mark_cell (o := .deferred none) hK' z5) _ rfl rfl) ⟨rfl, mark_below ((HBW.out.setCell (by simp) _).setCell (by simp; omega) _) (by have := HSW.out; omega) hK'⟩
  case stop =>
    rintro D c pre W hD ⟨hch, hl0, hln⟩ ⟨⟨rfl, ⟨pre', y, rfl, hno, hyes, hc4⟩, hc5⟩, hB⟩ hK
    have hy1 := (chain_snoc.1 hch)
    have hx0 := HYES.out y.1 y.2 (fun j hj => by
      have h1 : j ∈ pre'.map Subtype.val := by rw [hy1.1, List.mem_range]; omega
      obtain ⟨z, hz, rfl⟩ := List.mem_map.1 h1
      exact hno z hz) hyes
    subst hx0
    refine wpIn_wide.2 ?_
    go_wp2_with fail
    exact postM_mark hK rfl (owner_results _ _ _ _ _ (mark_cell (o := .deferred none) hK hc4) (mark_cell (o := .deferred none) hK hc5) _ rfl rfl) ⟨rfl, mark_below hB (by have := HSW.out; omega) hK⟩
end Go.Proofs.Ytlmmnjoincmgcaa

namespace Go.Proofs.Ytlmmnjoincmgcaa
set_option linter.unusedVariables false
set_option linter.unusedSimpArgs false
set_option maxRecDepth 100000
open Go.RowKit Go.Shelf
theorem zeros_back {w W : World} {b : Nat} (h1 : W.heap[b + 1]? = some (.cells #[.int .i64 0] 3 (0, 0))) (h2 : W.heap[b + 1 + 1]? = some (.cells #[.bool false] 4 (0, 0))) :
    ((W.setCell ⟨b + 1, 0, none⟩ (.int .i64 0)).setCell ⟨b + 1 + 1, 0, none⟩ (.bool false)).cell? ⟨b + 1, 0, none⟩ = some (.int .i64 0) ∧ ((W.setCell ⟨b + 1, 0, none⟩ (.int .i64 0)).setCell ⟨b + 1 + 1, 0, none⟩ (.bool false)).cell? ⟨b + 1 + 1, 0, none⟩ = some (.bool false) := by
  have hne : b + 1 ≠ b + 1 + 1 := by omega
  refine ⟨?_, ?_⟩
  · rw [cell_set_no hne]
    exact World.cell?_setCell_same' _ _ _ (by rw [cell_of h1 0 rfl]; rfl)
  · refine World.cell?_setCell_same' _ _ _ ?_
    rw [cell_set_no hne.symm, cell_of h2 0 rfl]
    rfl
theorem powner_no (B : Nat) (ad : Option Addr) (n cp : Nat) (w : World) (hn : n ≤ 100000) (h4 : n ≠ 4) (h16 : n ≠ 16) :
    Calls Try.prog 15 #[.pointer (some ⟨B, 0, none⟩), .slice ad n cp] w (OwnerRet (0, false) w) := by
  obtain ⟨w3, hw3⟩ : ∃ w3, w3 = (((w.alloc (.cells #[.slice ad n cp] 23)).alloc (.cells #[.int .i64 0] 3)).alloc (.cells #[.bool false] 4)) := ⟨_, rfl⟩; have hb3 : Below w.heap.size w w3 := (by rw [hw3]; exact (((Below.refl _ _).alloc (Nat.le_refl _) _).alloc (by simp) _).alloc (by simp; omega) _); have k0 : w3.heap[w.heap.size]? = some (.cells #[.slice ad n cp] 23 (0, 0)) := (by rw [hw3, (below_one (w := (w.alloc (.cells #[.slice ad n cp] 23)).alloc (.cells #[.int .i64 0] 3)) _).block _ (by simp; omega), (below_one (w := w.alloc (.cells #[.slice ad n cp] 23)) _).block _ (by simp), heap_alloc_new]); have k1 : w3.heap[w.heap.size + 1]? = some (.cells #[.int .i64 0] 3 (0, 0)) := (by rw [hw3, (below_one (w := (w.alloc (.cells #[.slice ad n cp] 23)).alloc (.cells #[.int .i64 0] 3)) _).block _ (by simp)]; have := heap_alloc_new (w.alloc (.cells #[.slice ad n cp] 23)) (.cells #[.int .i64 0] 3); simpa using this); have k2 : w3.heap[w.heap.size + 1 + 1]? = some (.cells #[.bool false] 4 (0, 0)) := (by rw [hw3]; have := heap_alloc_new ((w.alloc (.cells #[.slice ad n cp] 23)).alloc (.cells #[.int .i64 0] 3)) (.cells #[.bool false] 4); simpa using this)
  have HRI := Lib.hid (aright_v ad n cp 0 hn false (by unfold rightP; simp [h4, h16]))
  have HB3 := Lib.hid hb3
  have HK1 := Lib.hid k1
  have HK2 := Lib.hid k2
  have c0 := cell_of k0 0 rfl
  clear hb3 k0 k1 k2 h4 h16
  (refine calls_of_wp_marks Try.func15 rfl ?_; simp only [Try.ntmps15, List.size_toArray, List.length_cons, List.length_nil, Nat.reduceAdd, Nat.reduceSub, Array.replicate_succ, Array.replicate_zero, List.push_toArray, List.append_toArray, List.nil_append, List.cons_append])
  go_wp2_with fail
  rw [← hw3]
  clear hw3
  go_wp2_with (first | (go_at_call 29; ((with_reducible refine (HRI.out _).mono ?_); rintro e w4 ⟨rfl, hb4⟩; have HB4 := Lib.hid (Below.next HB3.out hb4); have c0 := cell_keep4 c0 hb4; have HK1 := Lib.hid ((hb4.block _ (heap_lt HK1.out)).trans HK1.out); have HK2 := Lib.hid ((hb4.block _ (heap_lt HK2.out)).trans HK2.out); have c1 := cell_of HK1.out 0 rfl; have c2 := cell_of HK2.out 0 rfl; have f1 := free_of HK1.out 0; have f2 := free_of HK2.out 0; clear hb4)) | fail)
  have hz := zeros_back (w := w) HK1.out HK2.out
  exact postM_ret (owner_results _ _ _ _ _ hz.1 hz.2 _ rfl rfl) rfl ⟨rfl, (HB4.out.setCell (by simp) _).setCell (by simp; omega) _⟩
theorem powner_nil (ad : Option Addr) (n cp : Nat) (w : World) :
    Calls Try.prog 15 #[.pointer none, .slice ad n cp] w (OwnerRet (0, false) w) := by
  obtain ⟨w3, hw3⟩ : ∃ w3, w3 = (((w.alloc (.cells #[.slice ad n cp] 23)).alloc (.cells #[.int .i64 0] 3)).alloc (.cells #[.bool false] 4)) := ⟨_, rfl⟩; have hb3 : Below w.heap.size w w3 := (by rw [hw3]; exact (((Below.refl _ _).alloc (Nat.le_refl _) _).alloc (by simp) _).alloc (by simp; omega) _); have k0 : w3.heap[w.heap.size]? = some (.cells #[.slice ad n cp] 23 (0, 0)) := (by rw [hw3, (below_one (w := (w.alloc (.cells #[.slice ad n cp] 23)).alloc (.cells #[.int .i64 0] 3)) _).block _ (by simp; omega), (below_one (w := w.alloc (.cells #[.slice ad n cp] 23)) _).block _ (by simp), heap_alloc_new]); have k1 : w3.heap[w.heap.size + 1]? = some (.cells #[.int .i64 0] 3 (0, 0)) := (by rw [hw3, (below_one (w := (w.alloc (.cells #[.slice ad n cp] 23)).alloc (.cells #[.int .i64 0] 3)) _).block _ (by simp)]; have := heap_alloc_new (w.alloc (.cells #[.slice ad n cp] 23)) (.cells #[.int .i64 0] 3); simpa using this); have k2 : w3.heap[w.heap.size + 1 + 1]? = some (.cells #[.bool false] 4 (0, 0)) := (by rw [hw3]; have := heap_alloc_new ((w.alloc (.cells #[.slice ad n cp] 23)).alloc (.cells #[.int .i64 0] 3)) (.cells #[.bool false] 4); simpa using this)
  have HB3 := Lib.hid hb3
  have HK1 := Lib.hid k1
  have HK2 := Lib.hid k2
  have c0 := cell_of k0 0 rfl
  have c1 := cell_of k1 0 rfl
  have c2 := cell_of k2 0 rfl
  have f1 := free_of k1 0
  have f2 := free_of k2 0
  clear hb3 k0 k1 k2
  (refine calls_of_wp_marks Try.func15 rfl ?_; simp only [Try.ntmps15, List.size_toArray, List.length_cons, List.length_nil, Nat.reduceAdd, Nat.reduceSub, Array.replicate_succ, Array.replicate_zero, List.push_toArray, List.append_toArray, List.nil_append, List.cons_append])
  go_wp2_with fail
  rw [← hw3]
  clear hw3
  exact postM_ret (owner_results _ _ _ _ _ c1 c2 _ rfl rfl) rfl ⟨rfl, HB3.out⟩
end Go.Proofs.Ytlmmnjoincmgcaa

namespace Go.Proofs.Ytlmmnjoincmgcaa
set_option linter.unusedVariables false
set_option linter.unusedSimpArgs false
set_option maxRecDepth 100000
open Go.RowKit Go.Shelf
/-- what two plain prefixes have in common -/
def Comm (q : List UInt8) (m : Nat) (a : List UInt8) (k c : Nat) : Prop := c ≤ m ∧ c ≤ k ∧ Agr q a c ∧ (c = min m k ∨ bitAt q c ≠ bitAt a c)
theorem agr_next {a b : List UInt8} {c : Nat} (h : Agr a b c) (h2 : bitAt a c = bitAt b c) : Agr a b (c + 1) := fun j hj => by
  by_cases e : j = c
  · rw [e]; exact h2
  · exact h j (by omega)
theorem common_results (W : World) (b : Nat) (v0 v1 : Value) (h : W.heap[b]? = some (.cells #[v0, v1] 29 (0, 0))) (T : Array Value) (h2 : T.getD 4 undef = .pointer (some ⟨b, 0, none⟩)) :
    (results Try.f38 T).run Try.prog W = .ok (.agg #[v0, v1]) W := by
  have c0 := cell_of h 0 rfl; have c1 := cell_of h 1 rfl
  have e2 : T[4]?.getD undef = .pointer (some ⟨b, 0, none⟩) := by simpa using h2
  simp [results, Try.results38, go_sem, e2, c0, c1]
/-- the three variables, all along -/
def ComW (w wr : World) (qd : Option Addr) (n qc : Nat) (m : Int) (ad : Option Addr) (l cp : Nat) (k : Int) : Prop :=
  wr.heap[w.heap.size]? = some (.cells #[.slice qd n qc, .int .i64 m] 29 (0, 0)) ∧ wr.heap[w.heap.size + 1]? = some (.cells #[.slice ad l cp, .int .i64 k] 29 (0, 0)) ∧
  wr.heap[w.heap.size + 1 + 1]? = some (.cells #[.slice none 0 0, .int .i64 0] 29 (0, 0)) ∧ Below w.heap.size w wr
set_option maxHeartbeats 4000000 in
theorem common_any (q a : List UInt8) (m k : Nat) (qd ad : Option Addr) (qc cp : Nat) (w : World) (hq : Bytes w (.slice qd q.length qc) q) (ha : Bytes w (.slice ad a.length cp) a)
    (hl : a.length = q.length) (h4 : q.length = 4 ∨ q.length = 16) (hm : m ≤ 8 * q.length) (hk : k ≤ 8 * q.length) :
    Calls Try.prog 38 #[.agg #[.slice qd q.length qc, .int .i64 m], .agg #[.slice ad a.length cp, .int .i64 k]] w fun e w' => ∃ c, Comm q m a k c ∧ FreshP w (plainS q c) c e w' := by
  obtain ⟨w3, hw3⟩ : ∃ w3, w3 = (((w.alloc (.cells #[.slice qd q.length qc, .int .i64 m] 29)).alloc (.cells #[.slice ad a.length cp, .int .i64 k] 29)).alloc (.cells #[.slice none 0 0, .int .i64 0] 29)) := ⟨_, rfl⟩
  have hb3 : Below w.heap.size w w3 := by rw [hw3]; exact (((Below.refl _ _).alloc (Nat.le_refl _) _).alloc (by simp) _).alloc (by simp; omega) _
  have k0 : w3.heap[w.heap.size]? = some (.cells #[.slice qd q.length qc, .int .i64 m] 29 (0, 0)) := by rw [hw3, (below_one (w := (w.alloc (.cells #[.slice qd q.length qc, .int .i64 m] 29)).alloc (.cells #[.slice ad a.length cp, .int .i64 k] 29)) _).block _ (by simp; omega), (below_one (w := w.alloc (.cells #[.slice qd q.length qc, .int .i64 m] 29)) _).block _ (by simp), heap_alloc_new]
  have k1 : w3.heap[w.heap.size + 1]? = some (.cells #[.slice ad a.length cp, .int .i64 k] 29 (0, 0)) := by rw [hw3, (below_one (w := (w.alloc (.cells #[.slice qd q.length qc, .int .i64 m] 29)).alloc (.cells #[.slice ad a.length cp, .int .i64 k] 29)) _).block _ (by simp)]; have := heap_alloc_new (w.alloc (.cells #[.slice qd q.length qc, .int .i64 m] 29)) (.cells #[.slice ad a.length cp, .int .i64 k] 29); simpa using this
  have k2 : w3.heap[w.heap.size + 1 + 1]? = some (.cells #[.slice none 0 0, .int .i64 0] 29 (0, 0)) := by rw [hw3]; have := heap_alloc_new ((w.alloc (.cells #[.slice qd q.length qc, .int .i64 m] 29)).alloc (.cells #[.slice ad a.length cp, .int .i64 k] 29)) (.cells #[.slice none 0 0, .int .i64 0] 29); simpa using this
  have HW3 : Hid (ComW w w3 qd q.length qc m ad a.length cp k) := Lib.hid ⟨k0, k1, k2, hb3⟩
  have HQ := Lib.hid hq
  have HA := Lib.hid ha
  have HLEN := Lib.hid hl
  have H4 := Lib.hid h4
  have HM := Lib.hid hm
  have HKK := Lib.hid hk
  have HPL : Hid (∀ w c, c ≤ m → Bytes w (.slice qd q.length qc) q → Calls Try.prog 20 #[.agg #[.slice qd q.length qc, .int .i64 ((c : Nat) : Int)]] w (FreshQ w (plainS q c) (c : Nat))) := Lib.hid (fun w c hc h => by
    have := aplain_fresh q qd qc (c : Nat) w h (by omega) (rightP_nat.2 ⟨h4, by omega⟩)
    simpa using this)
  clear hq ha hl h4 hm hk k0 k1 k2 hb3
  go_enter Try.func38, Try.ntmps38
  go_wp2_with fail
  rw [← hw3]
  clear hw3
  go_wp2_with fail
  go_loopw [5] (fun i wr => ∃ c : Nat, i = .int .i64 c ∧ c ≤ m ∧ c ≤ k ∧ Agr q a c ∧ ComW w wr qd q.length qc m ad a.length cp k) (fun i _ => m - (intOf i).toNat)
  case atStart => exact ⟨0, rfl, Nat.zero_le _, Nat.zero_le _, (fun j hj => by omega), HW3.out⟩
  case round =>
    obtain ⟨c, rfl, hcm, hck, hag, hcw⟩ := hrel
    have HF := Lib.hid hcw
    have x0 := cell_of HF.out.1 0 rfl; have x1 := cell_of HF.out.1 1 rfl; have y0 := cell_of HF.out.2.1 0 rfl; have y1 := cell_of HF.out.2.1 1 rfl
    have x2 := fun i => free_of hcw.2.2.1 i
    have HBT1 : Hid (c < m → ∀ w, Bytes w (.slice qd q.length qc) q → Calls Try.prog 46 #[.slice qd q.length qc, .int .i64 c] w fun e w' => e = .returned (.int .u8 (bitAt q c)) ∧ w' = w) := Lib.hid (fun hc w h => pbit_any _ q c w h (by have := HM.out; omega) (by have := H4.out; omega))
    have HBT2 : Hid (c < k → ∀ w, Bytes w (.slice ad a.length cp) a → Calls Try.prog 46 #[.slice ad a.length cp, .int .i64 c] w fun e w' => e = .returned (.int .u8 (bitAt a c)) ∧ w' = w) := Lib.hid (fun hc w h => pbit_any _ a c w h (by have := HKK.out; have := HLEN.out; omega) (by have := H4.out; have := HLEN.out; omega))
    have HQ3 : Hid (Bytes wr.drew (.slice qd q.length qc) q) := Lib.hid (HQ.out.below (Below.drew hcw.2.2.2))
    have HA3 : Hid (Bytes wr.drew (.slice ad a.length cp) a) := Lib.hid (HA.out.below (Below.drew hcw.2.2.2))
    clear hcw
    have hcs : (k < m ∧ (k : Int) < m) ∨ (¬ k < m ∧ ¬ (k : Int) < m) := by omega
    by_cases hlt : c < m ∧ c < k
    · have HB1 := Lib.hid (HBT1.out hlt.1)
      have HB2 := Lib.hid (HBT2.out hlt.2)
      have hc1 : (c : Int) < m := by omega
      have hc2 : (c : Int) < k := by omega
      have hn1 : c < m := hlt.1
      have hn2 : c < k := hlt.2
      have hcw1 : IntKind.i64.wrap ((c : Int) + 1) = ((c + 1 : Nat) : Int) := by rw [wrap_s64 _ (by omega) (by have := HM.out; have := H4.out; omega)]; omega
      have HLT := Lib.hid hlt
      by_cases he : bitAt q c = bitAt a c
      · have HN := Lib.hid (agr_next hag he)
        rw [he] at HB1
        clear HBT1 HBT2 hag he hcm hck hlt
        rcases hcs with ⟨hmk, hmi⟩ | ⟨hmk, hmi⟩
        all_goals
          go_wp2_with fail
          refine wp_region_still_tail 17 (by kernel_rfl) (by kernel_rfl) ?_
          simp only [List.take_succ_cons, List.take_zero, List.drop_succ_cons, List.drop_zero]
          iterate 11 (with_reducible refine wpStill_go (by kernel_rfl) (fun K hK => ?_); go_simp; refine hK _ ?_; clear hK K)
          with_reducible refine wpStill_go (by kernel_rfl) (fun K hK => ?_); go_simp; refine ⟨_, HB1.out wr.drew HQ3.out, hK _ ?_⟩; clear hK K
          iterate 3 (with_reducible refine wpStill_go (by kernel_rfl) (fun K hK => ?_); go_simp; refine hK _ ?_; clear hK K)
          with_reducible refine wpStill_go (by kernel_rfl) (fun K hK => ?_); go_simp; refine ⟨_, HB2.out wr.drew HA3.out, hK _ ?_⟩; clear hK K
          iterate 1 (with_reducible refine wpStill_go (by kernel_rfl) (fun K hK => ?_); go_simp; refine hK _ ?_; clear hK K)
          refine wpStill_nil ?_
          change wpList _ _ _ _ _ wr.drew
          go_wp2_with fail
          go_roundw
          case rel => exact ⟨c + 1, by go_num, HLT.out.1, HLT.out.2, HN.out, HF.out.1, HF.out.2.1, HF.out.2.2.1, Below.drew HF.out.2.2.2⟩
          case measure => have := HLT.out; simp [intOf]; omega
      · have hend : c = min m k ∨ bitAt q c ≠ bitAt a c := .inr he
        have hne : ((bitAt q c : Int) == bitAt a c) = false := beqf (by omega)
        have HCM : Hid (Comm q m a k c) := Lib.hid ⟨hcm, hck, hag, hend⟩
        have HCL := Lib.hid hcm
        have HFD : Hid (ComW w wr.drew qd q.length qc m ad a.length cp k) := Lib.hid ⟨HF.out.1, HF.out.2.1, HF.out.2.2.1, Below.drew HF.out.2.2.2⟩
        clear hcm hck hag hend HBT1 HBT2
        generalize bitAt q c = bq at *
        generalize bitAt a c = ba at *
        clear he hlt
        rcases hcs with ⟨hmk, hmi⟩ | ⟨hmk, hmi⟩
        all_goals
          go_wp2_with fail
          refine wp_region_still_tail 17 (by kernel_rfl) (by kernel_rfl) ?_
          simp only [List.take_succ_cons, List.take_zero, List.drop_succ_cons, List.drop_zero]
          iterate 11 (with_reducible refine wpStill_go (by kernel_rfl) (fun K hK => ?_); go_simp; refine hK _ ?_; clear hK K)
          with_reducible refine wpStill_go (by kernel_rfl) (fun K hK => ?_); go_simp; refine ⟨_, HB1.out wr.drew HQ3.out, hK _ ?_⟩; clear hK K
          iterate 3 (with_reducible refine wpStill_go (by kernel_rfl) (fun K hK => ?_); go_simp; refine hK _ ?_; clear hK K)
          with_reducible refine wpStill_go (by kernel_rfl) (fun K hK => ?_); go_simp; refine ⟨_, HB2.out wr.drew HA3.out, hK _ ?_⟩; clear hK K
          iterate 1 (with_reducible refine wpStill_go (by kernel_rfl) (fun K hK => ?_); go_simp; refine hK _ ?_; clear hK K)
          refine wpStill_nil ?_
          change wpList _ _ _ _ _ wr.drew
          go_wp2_with (first | (go_at_call 20; ((with_reducible refine (HPL.out _ c HCL.out HQ3.out).mono ?_); rintro e w4 ⟨g, gc, rfl, hg, hby, hty, hc1, hc2, hb4⟩; have HB4 := Lib.hid hb4; have HG := Lib.hid hg; have HBY := Lib.hid hby; have HTY := Lib.hid hty; have HGC := Lib.hid (And.intro hc1 hc2); have z2 := (hb4.block _ (heap_lt HFD.out.2.2.1)).trans HFD.out.2.2.1; have HZ := Lib.hid z2; have zA := fun o => ((below_one o).block _ (heap_lt z2)).trans z2; have zc0 : ∀ o, (w4.alloc o).cell? ⟨w.heap.size + 1 + 1, 0, none⟩ = some (.slice none 0 0) := fun o => cell_of (zA o) 0 rfl; have zc1 : ∀ o, (w4.alloc o).cell? ⟨w.heap.size + 1 + 1, 1, none⟩ = some (.int .i64 0) := fun o => cell_of (zA o) 1 rfl; have zf : ∀ o i, (w4.alloc o).frozen? ⟨w.heap.size + 1 + 1, i, none⟩ = false := fun o i => free_of (zA o) i; clear zA; clear hg hby hty hc1 hc2 hb4 z2)) | fail)
          generalize hw5 : w4.alloc (.cells #[.slice (some ⟨g, 0, none⟩) (plainS q c).length gc, .int .i64 c] 29) = w5
          have hb45 : Below w4.heap.size w4 w5 := by rw [← hw5]; exact below_one _
          have hS : w.heap.size + 1 + 1 < wr.drew.heap.size := heap_lt HFD.out.2.2.1
          have hG : wr.drew.heap.size ≤ g := HG.out
          have hz := (hb45.block _ (heap_lt HZ.out)).trans HZ.out
          have hE : ((w5.setCell ⟨w.heap.size + 1 + 1, 0, none⟩ (.slice (some ⟨g, 0, none⟩) (plainS q c).length gc)).setCell ⟨w.heap.size + 1 + 1, 1, none⟩ (.int .i64 c)).heap[w.heap.size + 1 + 1]? = some (.cells #[.slice (some ⟨g, 0, none⟩) (plainS q c).length gc, .int .i64 c] 29 (0, 0)) := set_block (i := 1) (v := .int .i64 c) (set_block (i := 0) (v := .slice (some ⟨g, 0, none⟩) (plainS q c).length gc) hz)
          have hgw : ((w5.setCell ⟨w.heap.size + 1 + 1, 0, none⟩ (.slice (some ⟨g, 0, none⟩) (plainS q c).length gc)).setCell ⟨w.heap.size + 1 + 1, 1, none⟩ (.int .i64 c)).heap[g]? = w5.heap[g]? := by rw [heap_other (by omega), heap_other (by omega)]
          refine bodyPost_ret (common_results _ _ _ _ hE _ rfl) rfl ⟨c, HCM.out, g, gc, rfl, ?_, bytes_same (HBY.out.below hb45) hgw, typ_same (HTY.out.below hb45) hgw, HGC.out.1, HGC.out.2, ?_⟩
          · have := HFD.out.2.2.2.size
            omega
          · exact ((Below.next (Below.next HFD.out.2.2.2 HB4.out) hb45).setCell (by simp; omega) _).setCell (by simp; omega) _
    · have hend : c = min m k ∨ bitAt q c ≠ bitAt a c := by omega
      have HCM : Hid (Comm q m a k c) := Lib.hid ⟨hcm, hck, hag, hend⟩
      have HCL := Lib.hid hcm
      have HFD : Hid (ComW w wr.drew qd q.length qc m ad a.length cp k) := Lib.hid ⟨HF.out.1, HF.out.2.1, HF.out.2.2.1, Below.drew HF.out.2.2.2⟩
      clear hcm hck hag hend HBT1 HBT2
      rcases hcs with ⟨hmk, hmi⟩ | ⟨hmk, hmi⟩
      · have hx : ¬ (c : Int) < k := by omega
        have hx2 : ¬ c < k := by omega
        clear hlt
        go_wp2_with fail
        refine wp_region_still_tail 17 (by kernel_rfl) (by kernel_rfl) ?_
        simp only [List.take_succ_cons, List.take_zero, List.drop_succ_cons, List.drop_zero]
        iterate 8 (with_reducible refine wpStill_go (by kernel_rfl) (fun K hK => ?_); go_simp; refine hK _ ?_; clear hK K)
        iterate 9 (with_reducible refine wpStill_no (by kernel_rfl) ?_; try simp only [Act.put, List.setIfInBounds_toArray, List.set_cons_zero, List.set_cons_succ])
        refine wpStill_nil ?_
        change wpList _ _ _ _ _ wr.drew
        go_wp2_with (first | (go_at_call 20; ((with_reducible refine (HPL.out _ c HCL.out HQ3.out).mono ?_); rintro e w4 ⟨g, gc, rfl, hg, hby, hty, hc1, hc2, hb4⟩; have HB4 := Lib.hid hb4; have HG := Lib.hid hg; have HBY := Lib.hid hby; have HTY := Lib.hid hty; have HGC := Lib.hid (And.intro hc1 hc2); have z2 := (hb4.block _ (heap_lt HFD.out.2.2.1)).trans HFD.out.2.2.1; have HZ := Lib.hid z2; have zA := fun o => ((below_one o).block _ (heap_lt z2)).trans z2; have zc0 : ∀ o, (w4.alloc o).cell? ⟨w.heap.size + 1 + 1, 0, none⟩ = some (.slice none 0 0) := fun o => cell_of (zA o) 0 rfl; have zc1 : ∀ o, (w4.alloc o).cell? ⟨w.heap.size + 1 + 1, 1, none⟩ = some (.int .i64 0) := fun o => cell_of (zA o) 1 rfl; have zf : ∀ o i, (w4.alloc o).frozen? ⟨w.heap.size + 1 + 1, i, none⟩ = false := fun o i => free_of (zA o) i; clear zA; clear hg hby hty hc1 hc2 hb4 z2)) | fail)
        generalize hw5 : w4.alloc (.cells #[.slice (some ⟨g, 0, none⟩) (plainS q c).length gc, .int .i64 c] 29) = w5
        have hb45 : Below w4.heap.size w4 w5 := by rw [← hw5]; exact below_one _
        have hS : w.heap.size + 1 + 1 < wr.drew.heap.size := heap_lt HFD.out.2.2.1
        have hG : wr.drew.heap.size ≤ g := HG.out
        have hz := (hb45.block _ (heap_lt HZ.out)).trans HZ.out
        have hE : ((w5.setCell ⟨w.heap.size + 1 + 1, 0, none⟩ (.slice (some ⟨g, 0, none⟩) (plainS q c).length gc)).setCell ⟨w.heap.size + 1 + 1, 1, none⟩ (.int .i64 c)).heap[w.heap.size + 1 + 1]? = some (.cells #[.slice (some ⟨g, 0, none⟩) (plainS q c).length gc, .int .i64 c] 29 (0, 0)) := set_block (i := 1) (v := .int .i64 c) (set_block (i := 0) (v := .slice (some ⟨g, 0, none⟩) (plainS q c).length gc) hz)
        have hgw : ((w5.setCell ⟨w.heap.size + 1 + 1, 0, none⟩ (.slice (some ⟨g, 0, none⟩) (plainS q c).length gc)).setCell ⟨w.heap.size + 1 + 1, 1, none⟩ (.int .i64 c)).heap[g]? = w5.heap[g]? := by rw [heap_other (by omega), heap_other (by omega)]
        refine bodyPost_ret (common_results _ _ _ _ hE _ rfl) rfl ⟨c, HCM.out, g, gc, rfl, ?_, bytes_same (HBY.out.below hb45) hgw, typ_same (HTY.out.below hb45) hgw, HGC.out.1, HGC.out.2, ?_⟩
        · have := HFD.out.2.2.2.size
          omega
        · exact ((Below.next (Below.next HFD.out.2.2.2 HB4.out) hb45).setCell (by simp; omega) _).setCell (by simp; omega) _
      · have hx : ¬ (c : Int) < m := by omega
        have hx2 : ¬ c < m := by omega
        clear hlt
        go_wp2_with fail
        refine wp_region_still_tail 17 (by kernel_rfl) (by kernel_rfl) ?_
        simp only [List.take_succ_cons, List.take_zero, List.drop_succ_cons, List.drop_zero]
        iterate 8 (with_reducible refine wpStill_go (by kernel_rfl) (fun K hK => ?_); go_simp; refine hK _ ?_; clear hK K)
        iterate 9 (with_reducible refine wpStill_no (by kernel_rfl) ?_; try simp only [Act.put, List.setIfInBounds_toArray, List.set_cons_zero, List.set_cons_succ])
        refine wpStill_nil ?_
        change wpList _ _ _ _ _ wr.drew
        go_wp2_with (first | (go_at_call 20; ((with_reducible refine (HPL.out _ c HCL.out HQ3.out).mono ?_); rintro e w4 ⟨g, gc, rfl, hg, hby, hty, hc1, hc2, hb4⟩; have HB4 := Lib.hid hb4; have HG := Lib.hid hg; have HBY := Lib.hid hby; have HTY := Lib.hid hty; have HGC := Lib.hid (And.intro hc1 hc2); have z2 := (hb4.block _ (heap_lt HFD.out.2.2.1)).trans HFD.out.2.2.1; have HZ := Lib.hid z2; have zA := fun o => ((below_one o).block _ (heap_lt z2)).trans z2; have zc0 : ∀ o, (w4.alloc o).cell? ⟨w.heap.size + 1 + 1, 0, none⟩ = some (.slice none 0 0) := fun o => cell_of (zA o) 0 rfl; have zc1 : ∀ o, (w4.alloc o).cell? ⟨w.heap.size + 1 + 1, 1, none⟩ = some (.int .i64 0) := fun o => cell_of (zA o) 1 rfl; have zf : ∀ o i, (w4.alloc o).frozen? ⟨w.heap.size + 1 + 1, i, none⟩ = false := fun o i => free_of (zA o) i; clear zA; clear hg hby hty hc1 hc2 hb4 z2)) | fail)
        generalize hw5 : w4.alloc (.cells #[.slice (some ⟨g, 0, none⟩) (plainS q c).length gc, .int .i64 c] 29) = w5
        have hb45 : Below w4.heap.size w4 w5 := by rw [← hw5]; exact below_one _
        have hS : w.heap.size + 1 + 1 < wr.drew.heap.size := heap_lt HFD.out.2.2.1
        have hG : wr.drew.heap.size ≤ g := HG.out
        have hz := (hb45.block _ (heap_lt HZ.out)).trans HZ.out
        have hE : ((w5.setCell ⟨w.heap.size + 1 + 1, 0, none⟩ (.slice (some ⟨g, 0, none⟩) (plainS q c).length gc)).setCell ⟨w.heap.size + 1 + 1, 1, none⟩ (.int .i64 c)).heap[w.heap.size + 1 + 1]? = some (.cells #[.slice (some ⟨g, 0, none⟩) (plainS q c).length gc, .int .i64 c] 29 (0, 0)) := set_block (i := 1) (v := .int .i64 c) (set_block (i := 0) (v := .slice (some ⟨g, 0, none⟩) (plainS q c).length gc) hz)
        have hgw : ((w5.setCell ⟨w.heap.size + 1 + 1, 0, none⟩ (.slice (some ⟨g, 0, none⟩) (plainS q c).length gc)).setCell ⟨w.heap.size + 1 + 1, 1, none⟩ (.int .i64 c)).heap[g]? = w5.heap[g]? := by rw [heap_other (by omega), heap_other (by omega)]
        refine bodyPost_ret (common_results _ _ _ _ hE _ rfl) rfl ⟨c, HCM.out, g, gc, rfl, ?_, bytes_same (HBY.out.below hb45) hgw, typ_same (HTY.out.below hb45) hgw, HGC.out.1, HGC.out.2, ?_⟩
        · have := HFD.out.2.2.2.size
          omega
        · exact ((Below.next (Below.next HFD.out.2.2.2 HB4.out) hb45).setCell (by simp; omega) _).setCell (by simp; omega) _
end Go.Proofs.Ytlmmnjoincmgcaa

namespace Go.Proofs.Ytlmmnjoincmgcaa
set_option linter.unusedVariables false
set_option linter.unusedSimpArgs false
set_option maxRecDepth 100000
open Go.RowKit Go.Shelf
theorem tab_lt {w : World} {base B d : Nat} {fs : List Fr} {e o : Tr} (h : Tab w base B d (fill fs e) o) : (∀ x ∈ ctxB fs, x < w.heap.size) ∧ (∀ x ∈ o.blks, x < w.heap.size) ∧ (∀ x ∈ e.blks, x < w.heap.size) := by
  refine ⟨fun x hx => ?_, fun x hx => ?_, fun x hx => ?_⟩
  · obtain ⟨cur, hc⟩ := trAt_typ h.here x ((blks_fill fs e).mem_iff.2 (List.mem_append_right _ hx))
    exact heap_lt hc
  · obtain ⟨cur, hc⟩ := trAt_typ h.oth x hx
    exact heap_lt hc
  · obtain ⟨cur, hc⟩ := trAt_typ h.here x ((blks_fill fs e).mem_iff.2 (List.mem_append_left _ hx))
    exact heap_lt hc
/-- a new node, where nothing was -/
theorem Tab.new {w : World} {base B d : Nat} {fs : List Fr} {o : Tr} (h : Tab w base B d (fill fs .nil) o) (hd : ∀ f ∈ fs, f.d = 0 ∨ f.d = 1) {q : List UInt8} {m : Nat} {qd : Option Addr} {qc : Nat} (hq : Bytes w (.slice qd q.length qc) q) (ht : TypAt w qd 5) (hqc : q.length ≤ qc) (hcm : qc ≤ maxLen) :
    Tab ((w.alloc (.cells #[.slice qd q.length qc, .int .i64 m, .int .i64 (-1), .pointer none, .pointer none] 58)).setCell ⟨plB B fs, plO d fs, none⟩ (.pointer (some ⟨w.heap.size, 0, none⟩))) base B d (fill fs (.node w.heap.size qd qc q m (-1) .nil .nil)) o ∧
    Kp base w ((w.alloc (.cells #[.slice qd q.length qc, .int .i64 m, .int .i64 (-1), .pointer none, .pointer none] 58)).setCell ⟨plB B fs, plO d fs, none⟩ (.pointer (some ⟨w.heap.size, 0, none⟩))) := by
  have hb := below_one (w := w) (.cells #[.slice qd q.length qc, .int .i64 m, .int .i64 (-1), .pointer none, .pointer none] 58)
  have h1 := h.below hb
  obtain ⟨l1, l2, l3⟩ := tab_lt h
  have := Tab.put (e' := .node w.heap.size qd qc q m (-1) .nil .nil) h1 hd ⟨⟨h.size, heap_alloc_new w _, hq.below hb, ht.below hb, hqc, hcm⟩, trivial, trivial⟩ (by simp [Tr.blks]) (fun x hx => by
    have hx2 : x = w.heap.size := by simpa [Tr.blks] using hx
    subst hx2
    exact ⟨fun hx => absurd (l1 _ hx) (Nat.lt_irrefl _), fun hx => absurd (l2 _ hx) (Nat.lt_irrefl _)⟩)
  exact ⟨this.1, (Kp.below hb h.size).trans this.2⟩
/-- a node above what is there -/
theorem Tab.above {w : World} {base B d : Nat} {fs : List Fr} {o e : Tr} (h : Tab w base B d (fill fs e) o) (hd : ∀ f ∈ fs, f.d = 0 ∨ f.d = 1) {q a : List UInt8} {c : Nat} {qd : Option Addr} {qc : Nat} (hq : Bytes w (.slice qd (plainS q c).length qc) (plainS q c)) (ht : TypAt w qd 5) (hqc : (plainS q c).length ≤ qc) (hcm : qc ≤ maxLen)
    {w1 w2 : World} {b : Nat} (hw1 : w1.heap[b]? = some (.cells #[.slice qd (plainS q c).length qc, .int .i64 c, .int .i64 (-1), .pointer none, .pointer none] 58 (0, 0))) (hb : w.heap.size ≤ b) (hb1 : Below w.heap.size w w1) (h2 : w2 = w1.setCell ⟨b, 3 + bitAt a c, none⟩ e.ptr) :
    Tab (w2.setCell ⟨plB B fs, plO d fs, none⟩ (.pointer (some ⟨b, 0, none⟩))) base B d (fill fs (plug (aboveF q c a b qd qc) e)) o ∧
    Kp base w (w2.setCell ⟨plB B fs, plO d fs, none⟩ (.pointer (some ⟨b, 0, none⟩))) := by
  obtain ⟨l1, l2, l3⟩ := tab_lt h
  obtain ⟨p1, p2, p3, p4, p5⟩ := h.parts
  have hbc := bit_two a c
  have hb12 : Below w.heap.size w w2 := by rw [h2]; exact hb1.setCell (by simpa using hb) _
  have hbl : b ∉ e.blks := fun hx => absurd (l3 _ hx) (by omega)
  have he1 : TrAt w1 base e := (trAt_fill hd h.here).below hb1
  have he2 : TrAt w2 base e := by rw [h2]; exact he1.set hw1 (.inl rfl) hbl
  have hk12 : Kp 0 w1 w2 := by rw [h2]; exact Kp.set (Nat.zero_le _) hw1 (.inl rfl)
  have hp : TrAt w2 base (plug (aboveF q c a b qd qc) e) := by
    refine (trAt_plug (f := aboveF q c a b qd qc) hbc).2 ⟨⟨Nat.le_trans h.size hb, ?_, bytes_kp (hq.below hb1) (ht.below hb1) hk12, (ht.below hb1).kp hk12 (by decide) (by decide), hqc, hcm⟩, he2, trivial⟩
    rw [h2]
    show (w1.setCell ⟨b, 3 + bitAt a c, none⟩ e.ptr).heap[b]? = _
    rw [set_block hw1]
    rcases hbc with h3 | h3
    · have hdd : (aboveF q c a b qd qc).d = 0 := h3
      rw [if_pos hdd, h3]
      rfl
    · have hdd : ¬ (aboveF q c a b qd qc).d = 0 := by show ¬ bitAt a c = 0; omega
      rw [if_neg hdd, h3]
      rfl
  have hblk : ∀ x, x ∈ (plug (aboveF q c a b qd qc) e).blks ↔ x ∈ e.blks ∨ x = b := by
    intro x
    rw [(blks_plug _ e).mem_iff]
    simp [aboveF, Tr.blks]
  have hnd : (plug (aboveF q c a b qd qc) e).blks.Nodup := by
    rw [(blks_plug _ e).nodup_iff]
    simp only [aboveF, Tr.blks]
    rw [List.nodup_append]
    refine ⟨p1, by simp, fun x hx y hy e2 => ?_⟩
    simp only [List.mem_singleton] at hy
    subst hy
    subst e2
    exact hbl hx
  have := Tab.put (e' := plug (aboveF q c a b qd qc) e) (h.below hb12) hd hp hnd (fun x hx => by
    rcases (hblk x).1 hx with hx | rfl
    · exact p4 x hx
    · exact ⟨fun hx => absurd (l1 _ hx) (by omega), fun hx => absurd (l2 _ hx) (by omega)⟩)
  exact ⟨this.1, (Kp.below hb12 h.size).trans this.2⟩
end Go.Proofs.Ytlmmnjoincmgcaa

namespace Go.Proofs.Ytlmmnjoincmgcaa
set_option linter.unusedVariables false
set_option linter.unusedSimpArgs false
set_option maxRecDepth 100000
open Go.RowKit Go.Shelf
/-- the node of a prefix, in a table with the same rows -/
def NodeRet (base B d s : Nat) (t o : Tr) (q : List UInt8) (m : Nat) (w : World) (e : Ending) (w' : World) : Prop :=
  ∃ fs b ad cp own l r, e = .returned (.pointer (some ⟨b, 0, none⟩)) ∧ Tab w' base B d (fill fs (.node b ad cp q m own l r)) o ∧ (fill fs (.node b ad cp q m own l r)).Wf s ∧ (fill fs (.node b ad cp q m own l r)).rows = t.rows ∧ (∀ f ∈ fs, f.d = 0 ∨ f.d = 1) ∧ Kp base w w'
/-- what holds at the label -/
def NodeI (base B d s : Nat) (t o : Tr) (q : List UInt8) (m : Nat) (qd : Option Addr) (qc : Nat) (w : World) (n : Nat) (t' : Tr) (W : World) : Prop :=
  Tab W base B d t' o ∧ t'.Wf s ∧ t'.rows = t.rows ∧ (n = 0 → Ready q m t') ∧ Kp base w W ∧ W.heap[w.heap.size]? = some (.cells #[.slice qd q.length qc, .int .i64 m] 29 (0, 0))
/-- what is common, in a variable of its own, since the world w5 -/
def AbR (w5 W : World) (Bx c g2 gc2 : Nat) (L : List UInt8) : Prop :=
  W.heap[Bx]? = some (.cells #[.slice (some ⟨g2, 0, none⟩) L.length gc2, .int .i64 c] 29 (0, 0)) ∧ Bytes W (.slice (some ⟨g2, 0, none⟩) L.length gc2) L ∧ TypAt W (some ⟨g2, 0, none⟩) 5 ∧ Below w5.heap.size w5 W
theorem abr_late {w5 w6 : World} {c g2 gc2 : Nat} {L : List UInt8} (hb : Below w5.drew.heap.size w5.drew w6) (hy : Bytes w6 (.slice (some ⟨g2, 0, none⟩) L.length gc2) L) (ht : TypAt w6 (some ⟨g2, 0, none⟩) 5) :
    AbR w5 (w6.alloc (.cells #[.slice (some ⟨g2, 0, none⟩) L.length gc2, .int .i64 c] 29)) w6.heap.size c g2 gc2 L :=
  ⟨heap_alloc_new w6 _, hy.below (below_one _), ht.below (below_one _), Below.next (Below.next (Below.drew (Below.refl _ _)) hb) (below_one _)⟩
theorem abr_early {w5 w6 : World} {c g2 gc2 : Nat} {L : List UInt8} (hb : Below (w5.alloc (.cells #[.slice none 0 0, .int .i64 0] 29)).drew.heap.size (w5.alloc (.cells #[.slice none 0 0, .int .i64 0] 29)).drew w6)
    (hg : (w5.alloc (.cells #[.slice none 0 0, .int .i64 0] 29)).drew.heap.size ≤ g2) (hz : w6.heap[w5.heap.size]? = some (.cells #[.slice none 0 0, .int .i64 0] 29 (0, 0)))
    (hy : Bytes w6 (.slice (some ⟨g2, 0, none⟩) L.length gc2) L) (ht : TypAt w6 (some ⟨g2, 0, none⟩) 5) :
    AbR w5 ((w6.setCell ⟨w5.heap.size, 0, none⟩ (.slice (some ⟨g2, 0, none⟩) L.length gc2)).setCell ⟨w5.heap.size, 1, none⟩ (.int .i64 c)) w5.heap.size c g2 gc2 L := by
  have hg2 : w5.heap.size + 1 ≤ g2 := by
    have h : (w5.alloc (.cells #[.slice none 0 0, .int .i64 0] 29)).heap.size ≤ g2 := hg
    rw [World.size_alloc] at h
    exact h
  have he : ((w6.setCell ⟨w5.heap.size, 0, none⟩ (.slice (some ⟨g2, 0, none⟩) L.length gc2)).setCell ⟨w5.heap.size, 1, none⟩ (.int .i64 c)).heap[g2]? = w6.heap[g2]? := by rw [heap_other (by omega), heap_other (by omega)]
  exact ⟨set_block (i := 1) (v := .int .i64 c) (set_block (i := 0) (v := .slice (some ⟨g2, 0, none⟩) L.length gc2) hz), bytes_same hy he, typ_same ht he,
    ((Below.next (Below.drew (below_one _)) hb).setCell (by simp) _).setCell (by simp) _⟩
set_option maxHeartbeats 4000000 in
theorem node_any (base B d s : Nat) (t o : Tr) (q : List UInt8) (m : Nat) (qd : Option Addr) (qc : Nat) (w : World) (hT : Tab w base B d t o) (hW : t.Wf s) (hd : (d = 0 ∧ s = 4) ∨ (d = 1 ∧ s = 16))
    (hq : Bytes w (.slice qd q.length qc) q) (hqt : TypAt w qd 5) (hqs : q.length = s) (hqp : plainS q m = q) (hqc : q.length ≤ qc) (hcm : qc ≤ maxLen) (hm : m ≤ 8 * s) :
    Calls Try.prog 21 #[.pointer (some ⟨B, 0, none⟩), .agg #[.slice qd q.length qc, .int .i64 m]] w (NodeRet base B d s t o q m w) := by
  subst hqs
  obtain ⟨w1, hw1⟩ : ∃ w1, w1 = w.alloc (.cells #[.slice qd q.length qc, .int .i64 m] 29) := ⟨_, rfl⟩
  have h1 : w1.heap[w.heap.size]? = some (.cells #[.slice qd q.length qc, .int .i64 m] 29 (0, 0)) := by rw [hw1]; exact heap_alloc_new w _
  have hb1 : Below w.heap.size w w1 := by rw [hw1]; exact below_one _
  have HI0 : Hid (NodeI base B d q.length t o q m qd qc w 1 t w1) := Lib.hid ⟨hT.below hb1, hW, rfl, (fun h => by omega), Kp.below hb1 hT.size, h1⟩
  have HWAY : Hid (∀ t' W, Tab W base B d t' o → t'.Wf q.length → Kp base w W → Calls Try.prog 25 #[.pointer (some ⟨B, 0, none⟩), .agg #[.slice qd q.length qc, .int .i64 m]] W (WayRet W (places B d (wayF q m t' []).1))) := Lib.hid (fun t' W h1 h2 h3 => way_any base B d q.length t' o q m qd qc W h1 h2 hd (bytes_kp hq hqt h3) rfl hm)
  have HQ : Hid (∀ W, Kp base w W → Bytes W (.slice qd q.length qc) q ∧ TypAt W qd 5) := Lib.hid (fun W h => ⟨bytes_kp hq hqt h, hqt.kp h (by decide) (by decide)⟩)
  clear h1 hb1 hT hW hq hqt
  go_enter Try.func21, Try.ntmps21
  go_wp2_with fail
  rw [← hw1]
  clear hw1
  refine wp_scope_goto 0 (fun n a' wr => ∃ t' : Tr, a'.defers = [] ∧ a'.tmps.size = 60 ∧ a'.tmps.getD 0 undef = .pointer (some ⟨B, 0, none⟩) ∧ a'.tmps.getD 3 undef = .pointer (some ⟨w.heap.size, 0, none⟩) ∧ NodeI base B d q.length t o q m qd qc w n t' wr) rfl ?_ ?_
  · intro R hpass hout
    have HP := Lib.hid hpass
    clear hpass hout
    go_wp2_with fail
    first | go_step3 | skip
    go_step
    go_step
    exact HP.out _ _ _ ⟨t, rfl, rfl, rfl, rfl, HI0.out⟩
  · intro n a' wr hrel J hJ
    obtain ⟨t', hfd, hfs, hf0, hf3, hTw, hWf, hrows, hrdy, hkp, hbx⟩ := hrel
    obtain ⟨T, DD⟩ := a'
    obtain rfl : DD = [] := hfd
    obtain ⟨u, hu⟩ : ∃ u : Nat → Value, T = #[u 0, u 1, u 2, u 3, u 4, u 5, u 6, u 7, u 8, u 9, u 10, u 11, u 12, u 13, u 14, u 15, u 16, u 17, u 18, u 19, u 20, u 21, u 22, u 23, u 24, u 25, u 26, u 27, u 28, u 29, u 30, u 31, u 32, u 33, u 34, u 35, u 36, u 37, u 38, u 39, u 40, u 41, u 42, u 43, u 44, u 45, u 46, u 47, u 48, u 49, u 50, u 51, u 52, u 53, u 54, u 55, u 56, u 57, u 58, u 59] := ⟨fun i => T.getD i undef, lit_eq T 60 hfs⟩
    subst hu
    have he0 : u 0 = .pointer (some ⟨B, 0, none⟩) := hf0
    have he3 : u 3 = .pointer (some ⟨w.heap.size, 0, none⟩) := hf3
    clear hfs hf0 hf3
    rw [he0, he3]
    clear he0 he3
    have HJ := Lib.hid hJ
    obtain ⟨⟨fs, e⟩, hwy⟩ : ∃ z, z = wayF q m t' [] := ⟨_, rfl⟩
    have hon : ∀ f ∈ fs, OnWay q m f := by
      have := way_on q m t' [] (fun f hf => by simp at hf)
      rw [← hwy] at this
      exact this
    have hfl : fill fs e = t' := by
      have := way_fill q m t' []
      rw [← hwy] at this
      exact this
    have hend : Ends q m e := by
      have := way_end q m t' []
      rw [← hwy] at this
      exact this
    have hrd2 : n = 0 → e = .nil ∨ ∃ b ad cp o l r, e = .node b ad cp q m o l r := fun h => by
      have := hrdy h
      unfold Ready at this
      rw [← hwy] at this
      exact this
    have hwp : (wayF q m t' []).1 = fs := by rw [← hwy]
    have HWY := Lib.hid (HWAY.out t' wr hTw hWf hkp)
    rw [hwp] at HWY
    subst hfl
    obtain ⟨hctx, hew, heu⟩ := (wf_fill (on_d hon)).1 hWf
    have hlen := ctx_len hctx hon
    have HON := Lib.hid (on_d hon)
    have HPL := Lib.hid (places_len B d fs)
    have HT := Lib.hid hTw
    have HX := Lib.hid hbx
    have z0 := cell_of hbx 0 rfl
    have z1 := cell_of hbx 1 rfl
    have HKP := Lib.hid hkp
    obtain ⟨pe, hpe⟩ : ∃ pe, pe = e.ptr := ⟨_, rfl⟩
    have HPE := Lib.hid hpe
    obtain ⟨pl, hpl⟩ : ∃ pl, (places B d fs).length = pl := ⟨_, rfl⟩
    have hpl2 : pl = fs.length + 1 := by rw [← hpl]; exact places_len B d fs
    have hpw : IntKind.i64.wrap ((pl : Int) - 1) = (fs.length : Int) := by rw [wrap_s64 _ (by omega) (by omega)]; omega
    have hpi : (fs.length : Int) < pl := by omega
    have hp0 : (0 : Int) ≤ fs.length := by omega
    unfold WayRet at HWY
    rw [hpl] at HWY
    clear hJ hwy hwp hrdy hTw hkp hbx hpe hpl
    cases e with
    | nil =>
      obtain rfl : pe = .pointer none := HPE.out
      go_wp2_with (first | (go_at_call 25; ((with_reducible refine (HWY.out).mono ?_); rintro e w5 ⟨g, gc, rfl, hg1, hg2, hg3, hptr, hb5⟩; have hlast := ptrs_cell hptr (places_back B d fs 0 (Nat.zero_le _)); simp only [Nat.sub_zero, List.drop_zero] at hlast; have HB5 := Lib.hid hb5; have HX5 := Lib.hid ((hb5.block _ (heap_lt HX.out)).trans HX.out); have HT5 := Lib.hid (HT.out.below hb5); have hat : w5.cell? ⟨plB B fs, plO d fs, none⟩ = some (.pointer none) := (Tab.at HT5.out HON.out).1; have hatA : ∀ o, (w5.alloc o).cell? ⟨plB B fs, plO d fs, none⟩ = some (.pointer none) := (fun o => (Tab.at (HT5.out.below (below_one o)) HON.out).1); have hfA : ∀ o, (w5.alloc o).frozen? ⟨plB B fs, plO d fs, none⟩ = false := (fun o => (Tab.at (HT5.out.below (below_one o)) HON.out).2.1); have x0 := cell_of HX5.out 0 rfl; have x1 := cell_of HX5.out 1 rfl; clear hb5 hptr hg1 hg2 hg3)) | fail)
      refine jump_ret ?_
      have hk5 : Kp base w w5 := HKP.out.next HB5.out HT.out.size
      have hq5 := HQ.out w5 hk5
      have hnew := Tab.new HT5.out HON.out hq5.1 hq5.2 hqc hcm (m := m)
      have hwf2 := new_wf hon hqp rfl hm hWf w5.heap.size qd qc
      have hr2 : (fill fs (.node w5.heap.size qd qc q m (-1) .nil .nil)).rows = t.rows := (fill_rows (by simp [Tr.rows, ownR])).trans hrows
      have HRES : Hid _ := Lib.hid (And.intro hnew.1 (And.intro hwf2 (And.intro hr2 (And.intro HON.out (hk5.trans hnew.2)))))
      clear hnew hwf2 hr2 hq5 hk5
      go_ret
      exact ⟨fs, _, _, _, _, _, _, rfl, HRES.out⟩
    | node b ad cp a n1 o1 l r =>
      obtain rfl : pe = .pointer (some ⟨b, 0, none⟩) := HPE.out
      go_wp2_with (first | (go_at_call 25; ((with_reducible refine (HWY.out).mono ?_); rintro e w5 ⟨g, gc, rfl, hg1, hg2, hg3, hptr, hb5⟩; have hlast := ptrs_cell hptr (places_back B d fs 0 (Nat.zero_le _)); simp only [Nat.sub_zero, List.drop_zero] at hlast; have HB5 := Lib.hid hb5; have HX5 := Lib.hid ((hb5.block _ (heap_lt HX.out)).trans HX.out); have HT5 := Lib.hid (HT.out.below hb5); have hat : w5.cell? ⟨plB B fs, plO d fs, none⟩ = some (.pointer (some ⟨b, 0, none⟩)) := (Tab.at HT5.out HON.out).1; have hatA : ∀ o, (w5.alloc o).cell? ⟨plB B fs, plO d fs, none⟩ = some (.pointer (some ⟨b, 0, none⟩)) := (fun o => (Tab.at (HT5.out.below (below_one o)) HON.out).1); have hfA : ∀ o, (w5.alloc o).frozen? ⟨plB B fs, plO d fs, none⟩ = false := (fun o => (Tab.at (HT5.out.below (below_one o)) HON.out).2.1); have x0 := cell_of HX5.out 0 rfl; have x1 := cell_of HX5.out 1 rfl; clear hb5 hptr hg1 hg2 hg3)) | fail)
      have hnd := trAt_fill HON.out HT5.out.here
      have hal : a.length = q.length := hew.1.1
      have hn8 : n1 ≤ 8 * q.length := hew.1.2.1
      have hap : plainS a n1 = a := hew.1.2.2.1
      have h4 : q.length = 4 ∨ q.length = 16 := by omega
      have hk5 : Kp base w w5 := HKP.out.next HB5.out HT.out.size
      have HK5 := Lib.hid hk5
      have HQ5 : Hid (Bytes w5.drew (.slice qd q.length qc) q) := Lib.hid ((HQ.out w5 hk5).1.below (Below.drew (Below.refl _ _)))
      have HA5 : Hid (Bytes w5.drew (.slice ad a.length cp) a) := Lib.hid (hnd.1.2.2.1.below (Below.drew (Below.refl _ _)))
      have HQW := Lib.hid (HQ.out w5 hk5).1
      have HAW := Lib.hid hnd.1.2.2.1
      have HCO : Hid (∀ W, Bytes W (.slice qd q.length qc) q → Bytes W (.slice ad a.length cp) a → Calls Try.prog 38 #[.agg #[.slice qd q.length qc, .int .i64 m], .agg #[.slice ad a.length cp, .int .i64 n1]] W fun e w' => ∃ c, Comm q m a n1 c ∧ FreshP W (plainS q c) c e w') := Lib.hid (fun W h1 h2 => common_any q a m n1 qd ad qc cp W h1 h2 hal h4 hm hn8)
      have n0 := cell_of hnd.1.2.1 0 rfl
      have n2 := cell_of hnd.1.2.1 1 rfl
      have HN := Lib.hid hnd.1.2.1
      have HAT := Lib.hid hat
      have HAL := Lib.hid hal
      have x0A : ∀ o, (w5.alloc o).cell? ⟨w.heap.size, 0, none⟩ = some (.slice qd q.length qc) := fun o => cell_keep4 x0 (below_one o)
      have x1A : ∀ o, (w5.alloc o).cell? ⟨w.heap.size, 1, none⟩ = some (.int .i64 m) := fun o => cell_keep4 x1 (below_one o)
      have n0A : ∀ o, (w5.alloc o).cell? ⟨b, 0, none⟩ = some (.slice ad a.length cp) := fun o => cell_keep4 n0 (below_one o)
      have n2A : ∀ o, (w5.alloc o).cell? ⟨b, 1, none⟩ = some (.int .i64 n1) := fun o => cell_keep4 n2 (below_one o)
      clear hnd hk5 hat hatA hfA hal h4
      refine wp_cut (fun a' W => ∃ (Bx c g2 gc2 : Nat), a'.defers = [] ∧ a'.tmps.size = 60 ∧ a'.tmps.getD 0 undef = .pointer (some ⟨B, 0, none⟩) ∧ a'.tmps.getD 3 undef = .pointer (some ⟨w.heap.size, 0, none⟩) ∧ a'.tmps.getD 6 undef = .pointer (some ⟨plB B fs, plO d fs, none⟩) ∧ a'.tmps.getD 7 undef = .pointer (some ⟨b, 0, none⟩) ∧ a'.tmps.getD 8 undef = .pointer (some ⟨Bx, 0, none⟩) ∧ Comm q m a n1 c ∧ AbR w5 W Bx c g2 gc2 (plainS q c) ∧ (plainS q c).length ≤ gc2 ∧ gc2 ≤ maxLen) ?_ ?_
      rotate_left
      · intro J5 K5 hJ5 hK5
        refine wp_region_noPanic ?_
        go_region_with (first | ((go_at_call 38; ((with_reducible refine (HCO.out w5.drew HQ5.out HA5.out).mono ?_); rintro e w6 ⟨c, hcom, g2, gc2, rfl, hg, hby, hty, hc1, hc2, hb6⟩; have HCM := Lib.hid hcom; have HBY := Lib.hid hby; have HTY := Lib.hid hty; have HGC := Lib.hid (And.intro hc1 hc2); have HB6 := Lib.hid hb6; clear hcom hg hby hty hc1 hc2 hb6))) | ((go_at_call 38; ((with_reducible refine (HCO.out (w5.alloc (.cells #[.slice none 0 0, .int .i64 0] 29)).drew (HQW.out.below (Below.drew (below_one _))) (HAW.out.below (Below.drew (below_one _)))).mono ?_); rintro e w6 ⟨c, hcom, g2, gc2, rfl, hg, hby, hty, hc1, hc2, hb6⟩; have HCM := Lib.hid hcom; have HBY := Lib.hid hby; have HTY := Lib.hid hty; have HGC := Lib.hid (And.intro hc1 hc2); have HG6 := Lib.hid hg; have HB6 := Lib.hid hb6; have hz := (hb6.block w5.heap.size (by show w5.heap.size < (w5.alloc _).heap.size; simp)).trans (heap_alloc_new w5 (.cells #[.slice none 0 0, .int .i64 0] 29)); have HZ := Lib.hid hz; have y0 := cell_of hz 0 rfl; have y1 := cell_of hz 1 rfl; have yf := fun i => free_of hz i; clear hcom hg hby hty hc1 hc2 hb6 hz))))
        all_goals
          refine NoPanic.normal ?_
          first
          | exact hK5 _ _ (Met.intro (hJ5 _ _ ⟨_, _, _, _, rfl, rfl, rfl, rfl, rfl, rfl, rfl, HCM.out, abr_late HB6.out HBY.out HTY.out, HGC.out.1, HGC.out.2⟩))
          | exact hK5 _ _ (Met.intro (hJ5 _ _ ⟨_, _, _, _, rfl, rfl, rfl, rfl, rfl, rfl, rfl, HCM.out, abr_early HB6.out HG6.out HZ.out HBY.out HTY.out, HGC.out.1, HGC.out.2⟩))
      intro a' W hrel
      obtain ⟨Bx, c, g2, gc2, hfd, hfs, hf0, hf3, hf6, hf7, hf8, hcom, hab, hc1, hc2⟩ := hrel
      obtain ⟨T, DD⟩ := a'
      obtain rfl : DD = [] := hfd
      obtain ⟨u, hu⟩ : ∃ u : Nat → Value, T = #[u 0, u 1, u 2, u 3, u 4, u 5, u 6, u 7, u 8, u 9, u 10, u 11, u 12, u 13, u 14, u 15, u 16, u 17, u 18, u 19, u 20, u 21, u 22, u 23, u 24, u 25, u 26, u 27, u 28, u 29, u 30, u 31, u 32, u 33, u 34, u 35, u 36, u 37, u 38, u 39, u 40, u 41, u 42, u 43, u 44, u 45, u 46, u 47, u 48, u 49, u 50, u 51, u 52, u 53, u 54, u 55, u 56, u 57, u 58, u 59] := ⟨fun i => T.getD i undef, lit_eq T 60 hfs⟩
      subst hu
      have he0 : u 0 = .pointer (some ⟨B, 0, none⟩) := hf0
      have he3 : u 3 = .pointer (some ⟨w.heap.size, 0, none⟩) := hf3
      have he6 : u 6 = .pointer (some ⟨plB B fs, plO d fs, none⟩) := hf6
      have he7 : u 7 = .pointer (some ⟨b, 0, none⟩) := hf7
      have he8 : u 8 = .pointer (some ⟨Bx, 0, none⟩) := hf8
      clear hfs hf0 hf3 hf6 hf7 hf8
      rw [he0, he3, he6, he7, he8]
      clear he0 he3 he6 he7 he8
      have hcom2 := hcom
      obtain ⟨hcm1, hcn1, hcag, hcend⟩ := hcom2
      have hTW : Tab W base B d (fill fs (.node b ad cp a n1 o1 l r)) o := HT5.out.below hab.2.2.2
      have hKW : Kp base w W := HK5.out.next hab.2.2.2 HT5.out.size
      have k0 := cell_of hab.1 0 rfl
      have k1 := cell_of hab.1 1 rfl
      have n0 : W.cell? ⟨b, 0, none⟩ = some (.slice ad a.length cp) := cell_keep4 n0 hab.2.2.2
      have n2 : W.cell? ⟨b, 1, none⟩ = some (.int .i64 n1) := cell_keep4 n2 hab.2.2.2
      have HTW := Lib.hid hTW
      have HKW := Lib.hid hKW
      clear x0A x1A n0A n2A x0 x1
      by_cases hcc : c = n1
      · have he : a = q ∧ n1 = m := ends_is hend (by omega) (by rw [← hcc]; exact hcag) hqp hew.1.2.2.1 HAL.out.symm
        have HRES : Hid (Tab W.drew base B d (fill fs (.node b ad cp q m o1 l r)) o ∧ (fill fs (.node b ad cp q m o1 l r)).Wf q.length ∧ (fill fs (.node b ad cp q m o1 l r)).rows = t.rows ∧ (∀ f ∈ fs, f.d = 0 ∨ f.d = 1) ∧ Kp base w W.drew) := Lib.hid (by
          rw [← he.1, ← he.2]
          exact ⟨hTW.below (Below.drew (Below.refl _ _)), by rw [he.1] at hWf ⊢; exact hWf, hrows, HON.out, hKW.next (Below.drew (Below.refl _ _)) hTW.size⟩)
        have hce : ((c : Int) == n1) = true := beq_i (by omega)
        clear he hTW hKW hcom hcm1 hcn1 hcag hcend hWf hew heu hctx hon hend hrd2 hrows hab hcc
        go_wp2_with fail
        refine wp_region_still_tail 7 (by kernel_rfl) (by kernel_rfl) ?_
        simp only [List.take_succ_cons, List.take_zero, List.drop_succ_cons, List.drop_zero]
        iterate 7 (with_reducible refine wpStill_go (by kernel_rfl) (fun K hK => ?_); go_simp; refine hK _ ?_; clear hK K)
        refine wpStill_nil ?_
        change wpList _ _ _ _ _ W.drew
        go_wp2_with fail
        refine jump_ret ?_
        go_ret
        exact ⟨fs, _, _, _, _, _, _, rfl, HRES.out⟩
      · have hce : ((c : Int) == n1) = false := beqf (by omega)
        have n0A : ∀ o, (W.alloc o).cell? ⟨b, 0, none⟩ = some (.slice ad a.length cp) := fun o => cell_keep4 n0 (below_one o)
        have n2A : ∀ o, (W.alloc o).cell? ⟨b, 1, none⟩ = some (.int .i64 n1) := fun o => cell_keep4 n2 (below_one o)
        have hclt : c < n1 := by omega
        have hcend2 : c = m ∨ bitAt q c ≠ bitAt a c := by rcases hcend with h | h
                                                          · left; omega
                                                          · exact .inr h
        have hwf2 := fun b' ad' cp' => above_wf hon rfl hm hWf hcm1 hclt hcag hcend2 b' ad' cp'
        have hrd3 := fun b' ad' cp' => above_ready (fs := fs) (a := a) (n := n1) (b0 := b) (cp0 := cp) (ad0 := ad) (o := o1) (l := l) (r := r) hon hqp hm hcm1 hcend2 b' ad' cp'
        have hn0 : 0 < n := by
          rcases Nat.eq_zero_or_pos n with h | h
          · rcases hrd2 h with h3 | ⟨_, _, _, _, _, _, h3⟩
            · cases h3
            · injection h3 with _ _ _ h5 h6 _ _ _
              refine absurd ?_ hcc
              subst h5; subst h6
              rcases hcend with h7 | h7
              · omega
              · exact absurd rfl h7
          · exact h
        obtain ⟨k, hk⟩ : ∃ k, bitAt a c = k := ⟨_, rfl⟩
        have hk2 : k = 0 ∨ k = 1 := by rw [← hk]; exact bit_two a c
        have HKD : Hid (∀ w, w.heap[W.heap.size]? = some (.cells #[.slice (some ⟨g2, 0, none⟩) (plainS q c).length gc2, .int .i64 c, .int .i64 (-1), .pointer none, .pointer none] 58 (0, 0)) → Bytes w (.slice ad a.length cp) a → Calls Try.prog 39 #[.pointer (some ⟨W.heap.size, 0, none⟩), .agg #[.slice ad a.length cp, .int .i64 n1]] w fun e w' => e = .returned (.pointer (some ⟨W.heap.size, 3 + k, none⟩)) ∧ Below w.heap.size w w') := Lib.hid (fun w h1 h2 => by
          rw [← hk]
          exact kid_any W.heap.size (some ⟨g2, 0, none⟩) gc2 (plainS q c) c (-1) .nil .nil ad cp a n1 w h1 h2 (by have := HAL.out; have := hew.1.2.1; omega) (by have := HAL.out; omega))
        have HAWW : Hid (∀ o, Bytes (W.alloc o).drew (.slice ad a.length cp) a) := Lib.hid (fun o => (trAt_fill HON.out hTW.here).1.2.2.1.below (Below.drew (below_one o)))
        have HNEW : Hid ((W.alloc (.cells #[.slice (some ⟨g2, 0, none⟩) (plainS q c).length gc2, .int .i64 c, .int .i64 (-1), .pointer none, .pointer none] 58)).drew.heap[W.heap.size]? = some (.cells #[.slice (some ⟨g2, 0, none⟩) (plainS q c).length gc2, .int .i64 c, .int .i64 (-1), .pointer none, .pointer none] 58 (0, 0))) := Lib.hid (heap_alloc_new W (.cells #[.slice (some ⟨g2, 0, none⟩) (plainS q c).length gc2, .int .i64 c, .int .i64 (-1), .pointer none, .pointer none] 58))
        have HWF2 := Lib.hid hwf2
        have HRD3 := Lib.hid hrd3
        have HAB := Lib.hid hab
        have HKK := Lib.hid hk
        have HN0 := Lib.hid hn0
        have HROW := Lib.hid hrows
        have HC12 := Lib.hid (And.intro hc1 hc2)
        clear hwf2 hrd3 hTW hKW hcom hcm1 hcn1 hcag hcend hcend2 hWf hew heu hctx hon hend hrd2 hrows hab hcc hk hn0 hclt hc1 hc2
        go_wp2_with fail
        refine wp_region_still_tail 7 (by kernel_rfl) (by kernel_rfl) ?_
        simp only [List.take_succ_cons, List.take_zero, List.drop_succ_cons, List.drop_zero]
        iterate 7 (with_reducible refine wpStill_go (by kernel_rfl) (fun K hK => ?_); go_simp; refine hK _ ?_; clear hK K)
        refine wpStill_nil ?_
        change wpList _ _ _ _ _ W.drew
        go_wp2_with (first | (go_at_call 39; ((with_reducible refine (HKD.out (W.alloc (.cells #[.slice (some ⟨g2, 0, none⟩) (plainS q c).length gc2, .int .i64 c, .int .i64 (-1), .pointer none, .pointer none] 58)).drew HNEW.out (HAWW.out _)).mono ?_); rintro e w7 ⟨rfl, hb7⟩; have hnb := (hb7.block W.heap.size (by show W.heap.size < (W.alloc _).heap.size; simp)).trans (heap_alloc_new W (.cells #[.slice (some ⟨g2, 0, none⟩) (plainS q c).length gc2, .int .i64 c, .int .i64 (-1), .pointer none, .pointer none] 58)); have HNB := Lib.hid hnb; have HB7 := Lib.hid hb7; have q3 : w7.cell? ⟨W.heap.size, 3 + k, none⟩ = some (.pointer none) := (by rcases hk2 with rfl | rfl; exact cell_of hnb 3 rfl; exact cell_of hnb 4 rfl); have q4 := free_of hnb (3 + k); have hb77 : Below W.heap.size W (w7.setCell ⟨W.heap.size, 3 + k, none⟩ (.pointer (some ⟨b, 0, none⟩))) := ((Below.next (Below.drew (below_one _)) hb7).setCell (Nat.le_refl _) _); have q5 : (w7.setCell ⟨W.heap.size, 3 + k, none⟩ (.pointer (some ⟨b, 0, none⟩))).cell? ⟨plB B fs, plO d fs, none⟩ = some (.pointer (some ⟨b, 0, none⟩)) := (Tab.at (HTW.out.below hb77) HON.out).1; have q6 := (Tab.at (HTW.out.below hb77) HON.out).2.1; clear hnb hb7)) | fail)
        first | go_step3 | skip
        have hb17 : Below W.heap.size W w7 := Below.next (Below.drew (below_one _)) HB7.out
        have habv := Tab.above HTW.out HON.out (q := q) (a := a) (c := c) HAB.out.2.1 HAB.out.2.2.1 HC12.out.1 HC12.out.2 HNB.out (Nat.le_refl _) hb17 (w2 := w7.setCell ⟨W.heap.size, 3 + k, none⟩ (.pointer (some ⟨b, 0, none⟩))) (by rw [HKK.out]; rfl)
        have hxW := (HAB.out.2.2.2.block _ (heap_lt HX5.out)).trans HX5.out
        exact jump_back (HJ.out 0 _ _ HN0.out ⟨_, rfl, rfl, rfl, rfl, habv.1, HWF2.out _ _ _, (fill_rows (above_rows _)).trans HROW.out, fun _ => HRD3.out _ _ _, HKW.out.trans habv.2, habv.2.blk _ _ _ _ hxW (by decide) (by decide)⟩)
end Go.Proofs.Ytlmmnjoincmgcaa

namespace Go.Proofs.Ytlmmnjoincmgcaa
set_option linter.unusedVariables false
set_option linter.unusedSimpArgs false
set_option maxRecDepth 100000
open Go.RowKit Go.Shelf
/-- the table in block B has these rows -/
def TT (w : World) (base B : Nat) (vs : List Rw) : Prop := ∃ t o, Tab w base B 0 t o ∧ t.Wf 4 ∧ o.Wf 16 ∧ vs.map Rw.key = t.rows ++ o.rows
theorem two_srt {t o : Tr} (ht : t.Wf 4) (ho : o.Wf 16) : (t.rows ++ o.rows).Pairwise ltK := by
  rw [List.pairwise_append]
  refine ⟨rows_srt ht, rows_srt ho, fun x hx y hy => ?_⟩
  have h1 := (rows_wf ht x hx).1
  have h2 := (rows_wf ho y hy).1
  unfold ltK beforeP
  rw [if_neg (by omega)]
  simp only [decide_eq_true_eq]
  omega
/-- the tree of one size, and the other one -/
structure Pick (w : World) (base B s : Nat) (vs : List Rw) (d : Nat) (t o : Tr) : Prop where
  tab : Tab w base B d t o
  wf : t.Wf s
  ds : (d = 0 ∧ s = 4) ∨ (d = 1 ∧ s = 16)
  wo : o.Wf (20 - s)
  mem : ∀ z, z ∈ vs.map Rw.key ↔ z ∈ t.rows ∨ z ∈ o.rows
  srt : Srt vs
theorem TT.srt {w : World} {base B : Nat} {vs : List Rw} (h : TT w base B vs) : Srt vs := by
  obtain ⟨t, o, _, h1, h2, h3⟩ := h
  unfold Srt
  rw [h3]
  exact two_srt h1 h2
theorem TT.pick {w : World} {base B s : Nat} {vs : List Rw} (h : TT w base B vs) (hs : s = 4 ∨ s = 16) : ∃ d t o, Pick w base B s vs d t o := by
  have hsr := h.srt
  obtain ⟨t, o, h0, h1, h2, h3⟩ := h
  rcases hs with rfl | rfl
  · exact ⟨0, t, o, h0, h1, .inl ⟨rfl, rfl⟩, h2, fun z => by rw [h3, List.mem_append], hsr⟩
  · exact ⟨1, o, t, h0.swap, h2, .inr ⟨rfl, rfl⟩, h1, fun z => by rw [h3, List.mem_append]; exact Or.comm, hsr⟩
theorem Pick.back {w w' : World} {base B s : Nat} {vs vs' : List Rw} {d : Nat} {t t' o : Tr} (h : Pick w base B s vs d t o) (ht : Tab w' base B d t' o) (hw : t'.Wf s) (hs : Srt vs') (hm : ∀ z, z ∈ vs'.map Rw.key ↔ z ∈ t'.rows ∨ z ∈ o.rows) : TT w' base B vs' := by
  rcases h.ds with ⟨rfl, rfl⟩ | ⟨rfl, rfl⟩
  · exact ⟨t', o, ht, hw, h.wo, srt_ext hs (two_srt hw h.wo) fun z => by rw [hm, List.mem_append]⟩
  · exact ⟨o, t', ht.swap, h.wo, hw, srt_ext hs (two_srt h.wo hw) fun z => by rw [hm, List.mem_append]; exact Or.comm⟩
theorem Pick.below {w w' : World} {base B s : Nat} {vs : List Rw} {d : Nat} {t o : Tr} (h : Pick w base B s vs d t o) (hb : Below w.heap.size w w') : Pick w' base B s vs d t o := ⟨h.tab.below hb, h.wf, h.ds, h.wo, h.mem, h.srt⟩
theorem Pick.other {w : World} {base B s : Nat} {vs : List Rw} {d : Nat} {t o : Tr} (h : Pick w base B s vs d t o) {z : Ky} (hz : z ∈ o.rows) : z.1.length ≠ s := by
  have := (rows_wf h.wo z hz).1
  have := h.ds
  omega
theorem TT.below {w w' : World} {base B : Nat} {vs : List Rw} (h : TT w base B vs) (hb : Below w.heap.size w w') : TT w' base B vs := by
  obtain ⟨t, o, h0, h1⟩ := h
  exact ⟨t, o, h0.below hb, h1⟩
theorem TT.size {w : World} {base B : Nat} {vs : List Rw} (h : TT w base B vs) : base ≤ w.heap.size := by
  obtain ⟨t, o, h0, h1⟩ := h
  exact h0.size
theorem pnew_any (w : World) : Calls Try.prog 6 #[] w fun e w' => ∃ B, e = .returned (.pointer (some ⟨B, 0, none⟩)) ∧ TT w' w.heap.size B [] ∧ Below w.heap.size w w' := by
  go_enter Try.func6, Try.ntmps6
  go_wp2_with fail
  go_ret
  exact ⟨_, rfl, ⟨.nil, .nil, ⟨.inl rfl, heap_alloc_new w _, Nat.le_refl _, trivial, trivial, by simp [Tr.blks]⟩, trivial, trivial, rfl⟩, below_one _⟩
end Go.Proofs.Ytlmmnjoincmgcaa
