/- The program's iterator twos, by contract; rows of strings that grow. -/
import Derived.Test.YtbaceiohcbhpaaaDoorAddrP4
import Derived.Test.YtbaceiohcbhpaaaDoorShelf
import Derived.Deep.AppendLies
import Derived.Deep.RegionLaw
namespace Go.Proofs.YtbaceiohcbhpaaaDoor
set_option linter.unusedVariables false
set_option linter.unusedSimpArgs false
set_option maxRecDepth 100000
open Go.RowKit Go.Shelf
attribute [local go_sem] Oper.semAt_some

/-- the bytes of an address, two by two -/
def twoL (a : List UInt8) : List (UInt8 × UInt8) := (List.range (a.length / 2)).map fun q => (a.getD (2 * q) 0, a.getD (2 * q + 1) 0)
theorem twoL_len (a : List UInt8) : (twoL a).length = a.length / 2 := by simp [twoL]
theorem twoL_next {a : List UInt8} {q : Nat} (hq : q < a.length / 2) : (twoL a).take (q + 1) = (twoL a).take q ++ [(a.getD (2 * q) 0, a.getD (2 * q + 1) 0)] := by
  rw [List.take_succ_eq_append_getElem (by rw [twoL_len]; exact hq)]
  simp [twoL]
set_option maxHeartbeats 4000000 in
theorem twos1_in (F : Fence) (n : Nat) (hF : OpenF F Tryd.prog) (hf : F.fn 46) (hro : F.round = none) (hn : 1 ≤ n) (l Ba n₀ bk off cp : Nat) (a : List UInt8) (hal : a.length ≤ 1000) (J Jx : List (UInt8 × UInt8) → World → Prop)
    (hY : ∀ pre x W, J pre W → pre.length < a.length / 2 → YieldAt F (n - 1) Tryd.prog l (encP x) W fun e W' =>
      (e = .returned (.bool true) ∧ J (pre ++ [x]) W' ∧ KpB n₀ Ba Ba W W') ∨ (e = .returned (.bool false) ∧ Jx (pre ++ [x]) W'))
    (W : World) (hxa : W.cell? ⟨Ba, 0, none⟩ = some (.slice (some ⟨bk, off, none⟩) a.length cp)) (hca : RowAt n₀ W bk off a) (h0 : J [] W) (hJd : ∀ pre W n, J pre W → J pre (W.drewN n)) :
    CallsIn F n Tryd.prog 46 #[.func (.yield l) #[] #[], .pointer (some ⟨Ba, 0, none⟩)] W fun e W' => (∃ v, e = .returned v) ∧
      (J (twoL a) W' ∨ (∃ k, k ≤ a.length / 2 ∧ Jx ((twoL a).take k) W')) := by
  have hali : (a.length : Int) ≤ 1000 := by omega
  refine callsIn_of_wp Tryd.func46 rfl hf ?_ hro
  simp only [Tryd.ntmps46, List.size_toArray, List.length_cons, List.length_nil, Nat.reduceAdd, Nat.reduceSub, Array.replicate_succ, Array.replicate_zero, List.push_toArray, List.append_toArray, List.nil_append, List.cons_append]
  gi_wp2
  gi_loopw [3] (fun i wr => ∃ k q : Nat, q ≤ a.length / 2 ∧ k = 2 * q ∧ i = .int .i64 ((k : Int) + 1) ∧ J ((twoL a).take q) wr ∧ KpB n₀ Ba Ba W wr) (fun i _ => a.length + 2 - (intOf i).toNat)
  case atStart => exact ⟨0, 0, Nat.zero_le _, rfl, rfl, h0, kpB_refl _ _ _ _⟩
  case round =>
    obtain ⟨k, q, hq, hkq, rfl, hJs, hnx⟩ := hrel
    have ya := hnx.2.1.trans hxa
    by_cases hlt : k + 1 < a.length
    · have hq2 : q < a.length / 2 := by omega
      have ca := (hca.below hnx.1).2 k (by omega)
      have cb := (hca.below hnx.1).2 (k + 1) hlt
      obtain ⟨x, hx⟩ : ∃ x, a.getD k 0 = x := ⟨_, rfl⟩
      obtain ⟨y, hyy⟩ : ∃ y, a.getD (k + 1) 0 = y := ⟨_, rfl⟩
      have HN : Hid ((twoL a).take (q + 1) = (twoL a).take q ++ [(x, y)]) := Lib.hid (by rw [← hx, ← hyy, twoL_next hq2, hkq])
      rw [hx] at ca
      rw [hyy] at cb
      clear hx hyy
      have hk0 : (0 : Int) ≤ k := by omega
      have hk1 : (k : Int) < a.length := by omega
      have hk2 : (0 : Int) ≤ (k : Int) + 1 := by omega
      have hk3 : (k : Int) + 1 < a.length := by omega
      have ht1 : ((k : Int) + 1).toNat = k + 1 := by omega
      have hw1 := wrap_i64 (k : Int) (by omega) (by omega)
      have hw2 := wrap_i64 ((k : Int) + 1 + 2) (by omega) (by omega)
      have HKQ := Lib.hid hkq
      have HQ2 := Lib.hid hq2
      obtain ⟨fn, tmps, assign, body, hy, hR⟩ := hY _ (x, y) wr.drew (hJd _ _ 1 hJs) (by rw [List.length_take, twoL_len]; omega)
      dsimp only [encP] at hy
      have HR : Hid (RoundIn F (n - 1) Tryd.prog l fn tmps assign body wr.drew fun e W' => ∃ r, e = .returned (.bool r) ∧ ((r = true ∧ J ((twoL a).take q ++ [(x, y)]) W' ∧ KpB n₀ Ba Ba wr.drew W') ∨ (r = false ∧ Jx ((twoL a).take q ++ [(x, y)]) W'))) := Lib.hid (hR.mono (by
        rintro e W' (⟨rfl, h1, h2⟩ | ⟨rfl, h1⟩)
        · exact ⟨true, rfl, .inl ⟨rfl, h1, h2⟩⟩
        · exact ⟨false, rfl, .inr ⟨rfl, h1⟩⟩))
      clear hR hkq hq2
      gi_wp2
      refine wpIn_region_still_tail 10 hF (by kernel_rfl) (by kernel_rfl) ?_
      simp only [List.take_succ_cons, List.take_zero, List.drop_succ_cons, List.drop_zero]
      repeat still_step
      try refine wpStill_nil ?_
      change wpListIn _ _ _ _ _ _ _ wr.drew
      gi_wp2
      refine HR.out.mono ?_
      rintro e W3 ⟨r, rfl, hd⟩
      rcases hd with ⟨rfl, hJ3, hk3⟩ | ⟨rfl, hJx3⟩
      · gi_wp2
        go_roundw
        case rel => exact ⟨k + 2, q + 1, HQ2.out, by have := HKQ.out; omega, by go_num, by rw [HN.out]; exact hJ3, kpB_t hnx (kpB_t (kpB_drew _) hk3)⟩
        case measure => simp [intOf]; omega
      · gi_wp2
        refine bodyPost_ret (results_none rfl _ _ _) rfl ?_
        exact ⟨⟨_, rfl⟩, .inr ⟨q + 1, HQ2.out, by rw [HN.out]; exact hJx3⟩⟩
    · have hqe : q = a.length / 2 := by omega
      gi_wp2
      go_end0
      exact ⟨⟨_, rfl⟩, .inl (by rw [List.take_of_length_le (by rw [twoL_len]; omega)] at hJs; exact hJs)⟩
theorem twos_any (ad : Option Addr) (n cp : Nat) (w : World) : Calls Tryd.prog 28 #[.slice ad n cp] w fun e w' =>
    e = .returned (.func (.func 46) #[] #[.pointer (some ⟨w.heap.size, 0, none⟩)]) ∧ w' = w.alloc (.cells #[.slice ad n cp] 23) := by
  go_enter Tryd.func28, Tryd.ntmps28
  go_wp2_with fail
  go_ret
  exact ⟨rfl, rfl⟩
theorem twos_stops (F : Fence) (n : Nat) (hF : OpenF F Tryd.prog) (hro : F.round = none) (hn : 1 ≤ n) (Ba n₀ bk off cp : Nat) (a : List UInt8) (hal : a.length ≤ 1000) (w : World)
    (hBa : Ba < w.heap.size) (hn₀ : n₀ ≤ w.heap.size) (hxa : w.cell? ⟨Ba, 0, none⟩ = some (.slice (some ⟨bk, off, none⟩) a.length cp)) (hca : RowAt n₀ w bk off a) :
    SeqStopsK F n Tryd.prog 46 #[.pointer (some ⟨Ba, 0, none⟩)] encP (KpB n₀ Ba Ba) (fun xs => xs = twoL a) (fun pre => ∃ k, k ≤ a.length / 2 ∧ pre = (twoL a).take k) (a.length / 2) w :=
  fun l J Jx W hW hJ hJx hY h0 => by
  refine (twos1_in F n hF (hF.fn _) hro hn l Ba n₀ bk off cp a hal J Jx hY W ((hW.cell (p := ⟨Ba, 0, none⟩) hBa).trans hxa) (hca.below (hW.mono hn₀)) h0 (fun pre W1 m hs => ?_)).mono ?_
  · exact abides_drew hJ hs m
  · rintro e W' ⟨he, h | ⟨k, hk, h⟩⟩
    · exact ⟨he, .inl ⟨_, rfl, h⟩⟩
    · exact ⟨he, .inr ⟨_, ⟨k, hk, rfl⟩, h⟩⟩
/-! rows of strings -/
theorem Tryd.infoStr4 : (Tryd.prog.info? 9).map (fun i => (i.zero, i.size, i.bytes)) = some (some (.string ⟨#[]⟩), 1, 16) := by kernel_rfl
def strV4 (l : List UInt8) : Value := .string (strB l)
theorem keep_far4 {a c : World} {k : Nat} {o : Obj} {row : Option Nat} (h : a.heap[k]? = some o) (hg : a.grownBy c row) (hrow : some k ≠ row) : c.heap[k]? = some o :=
  (hg.block k (Array.getElem?_eq_some_iff.1 h).1 hrow).trans h
theorem own_ne4 {w : World} {B b : Nat} {e : TypeId} {size : Nat} {v : Value} {n : Nat} {xs : List Value} (h : w.ownsRow B e size v n xs) (hb : b < B) : some b ≠ v.ownBlock := by
  intro e
  have := h.lt b e.symm
  omega
theorem grown_below4 {w w' : World} (h : Below w.heap.size w w') : w.grownBy w' none := ⟨h.os, h.tape, h.output, h.size, fun k hk _ => h.block k hk⟩
theorem own_below4 {w w' : World} {B : Nat} {v : Value} {e : TypeId} {n : Nat} {xs : List Value} (h : w.ownsRow B e 1 v n xs) (hb : Below w.heap.size w w') : w'.ownsRow B e 1 v n xs :=
  h.kept (grown_below4 hb) (by cases v.ownBlock <;> simp)
/-- what holds of the list of strings under way -/
def PS (m : Nat) (w wr : World) (v : Value) (l : List (List UInt8)) : Prop :=
  wr.heap[w.heap.size]? = some (.cells #[v] 51 (0, 0)) ∧ wr.ownsRow (w.heap.size + 1 + m) 9 1 v l.length (l.map strV4) ∧ Below w.heap.size w wr
theorem ps_app {m : Nat} {w wr w3 w4 : World} {v : Value} {l : List (List UInt8)} {part : List UInt8} {g c : Nat} {o : Obj} (h : PS m w wr v l) (hb : Below wr.heap.size wr w3)
    (hown : w4.ownsRow (w.heap.size + 1 + m) 9 1 (.slice (some ⟨g, 0, none⟩) (l.length + 1) c) (l.length + 1) (l.map strV4 ++ [strV4 part])) (hg : (w3.alloc o).grownBy w4 v.ownBlock) :
    PS m w (w4.setCell ⟨w.heap.size, 0, none⟩ (.slice (some ⟨g, 0, none⟩) (l.length + 1) c)) (.slice (some ⟨g, 0, none⟩) (l.length + 1) c) (l ++ [part]) := by
  obtain ⟨h1, h2, h3⟩ := h
  have hsz := h3.size
  have hsz2 := hb.size
  have hlt : w.heap.size < wr.heap.size := (Array.getElem?_eq_some_iff.1 h1).1
  have hne : some w.heap.size ≠ v.ownBlock := own_ne4 h2 (by omega)
  have e1 : (w3.alloc o).heap[w.heap.size]? = some (.cells #[v] 51 (0, 0)) := ((below_one o).block _ (by omega)).trans ((hb.block _ hlt).trans h1)
  have e2 := keep_far4 e1 hg hne
  have hge : w.heap.size + 1 + m ≤ g := (hown.lt g rfl).1
  refine ⟨by have := set_block (i := 0) (v := .slice (some ⟨g, 0, none⟩) (l.length + 1) c) e2; exact this, ?_, ?_⟩
  · rw [List.length_append, List.length_singleton, List.map_append, List.map_singleton]
    exact hown.kept ⟨rfl, rfl, rfl, by simp, fun k _ hk => heap_other (fun e => hk (by rw [e]))⟩ (.inr (by
      show some g ≠ some w.heap.size
      intro e; cases e; omega))
  · have b1 : Below w.heap.size w (w3.alloc o) := (h3.trans (hb.mono hsz)).alloc (by omega) _
    have b2 : Below w.heap.size w w4 := b1.grown hg b1.size (fun k hk => by have := h2.lt k hk; omega)
    exact b2.setCell (by simp) _
theorem ps_own {β : Type} {m B : Nat} {w : World} (f : β → List (List UInt8)) (hB : w.heap.size ≤ B) (n : Nat) : OwnFrom B (fun (s : β) W => ∃ v, PS m w W v (f s) ∧ n ≤ W.heap.size) := by
  rintro s A C row ⟨v, ⟨h1, h2, h3⟩, h4⟩ hg hr
  have hk : ∀ (k : Nat) (o : Obj), A.heap[k]? = some o → o.isCells = true → C.heap[k]? = some o := fun k o ho hc => by
    refine (hg.block k (Array.getElem?_eq_some_iff.1 ho).1 ?_).trans ho
    intro e
    obtain ⟨_, o2, ho2, hn⟩ := hr k e.symm
    rw [ho] at ho2; cases ho2; rw [hc] at hn; cases hn
  refine ⟨v, ⟨hk _ _ h1 rfl, ?_, h3.grown hg h3.size (fun k e => by have := (hr k e).1; omega)⟩, Nat.le_trans h4 hg.size⟩
  refine ⟨h2.1, h2.2.imp id ?_⟩
  rintro ⟨g, cap, cur, e1, e2, e3, e4⟩
  exact ⟨g, cap, cur, e1, e2, hk _ _ e3 rfl, e4⟩
theorem keeps_below {W W' : World} (h : Below W.heap.size W W') : KeepsOthers W W' := ⟨h.size, fun k o ho _ => (h.block k (Array.getElem?_eq_some_iff.1 ho).1).trans ho⟩
theorem keeps_grown {W W' : World} {B n : Nat} {e : TypeId} {v : Value} {xs : List Value} (h : W.ownsRow B e 1 v n xs) (hg : W.grownBy W' v.ownBlock) : KeepsOthers W W' := by
  refine ⟨hg.size, fun k o ho hc => (hg.block k (Array.getElem?_eq_some_iff.1 ho).1 ?_).trans ho⟩
  intro hk
  rcases h.2 with ⟨h1, _⟩ | ⟨g, c, cur, h1, _, h3, _⟩
  · rw [h1] at hk; cases hk
  · rw [h1] at hk; cases hk; rw [h3] at ho; cases ho; cases hc
theorem ps_round {w W w3 w4 : World} {v : Value} {l : List (List UInt8)} {o : Obj} {u : Value} (h : PS 1 w W v l) (hW : w.heap.size + 2 ≤ W.heap.size) (hb : Below W.heap.size W w3) (hown3 : (w3.alloc o).ownsRow (w.heap.size + 1 + 1) 9 1 v l.length (l.map strV4))
    (hg : (w3.alloc o).grownBy w4 v.ownBlock) : KeepsOthers W (w4.setCell ⟨w.heap.size, 0, none⟩ u) ∧ KpB w.heap.size (w.heap.size + 1) (w.heap.size + 1) W (w4.setCell ⟨w.heap.size, 0, none⟩ u) := by
  obtain ⟨h1, h2, h3⟩ := h
  have hs2 := hb.size
  have hs1 := h3.size
  refine ⟨(((keeps_below hb).trans (KeepsOthers.alloc _ _)).trans (keeps_grown hown3 hg)).trans (KeepsOthers.setCell _ _ _), ?_⟩
  have hlt : ∀ k, v.ownBlock = some k → w.heap.size + 1 + 1 ≤ k := fun k e => (hown3.lt k e).1
  have b1 : Below w.heap.size W (w3.alloc o) := (hb.mono hs1).alloc (by omega) _
  have b2 : Below w.heap.size W w4 := b1.grown hg (by simp; omega) (fun k hk => by have := hlt k hk; omega)
  refine kpB_t ⟨b2, ?_, ?_⟩ (kpB_set (Nat.le_refl _) (by omega) (by omega))
  all_goals
    refine World.cell?_of_block ?_
    show w4.heap[w.heap.size + 1]? = W.heap[w.heap.size + 1]?
    rw [hg.block _ (by simp; omega) (fun e => by have := hlt _ e.symm; omega)]
    exact ((below_one (w := w3) o).block _ (by omega)).trans (hb.block _ (by omega))
theorem join_own4 {w : World} {B : Nat} {v : Value} {l : List (List UInt8)} (c : UInt8) (h : w.ownsRow B 9 1 v l.length (l.map strV4)) (hl : l.length ≤ 140737488355328) (hj : (Lib.join l [c]).length ≤ 140737488355328) :
    Calls Tryd.prog 27 #[v, .string (strB [c])] w fun e w' => e = .returned (.string (strB (Lib.join l [c]))) ∧ Below w.heap.size w w' := by
  rcases h.2 with ⟨rfl, hn⟩ | ⟨g, cap, cur, rfl, hB, hg, hcap, _, hsz, htk⟩
  · have : l = [] := List.length_eq_zero_iff.1 hn
    subst this
    refine (Tryd.strings_Join_none none 0 (strB [c]) w).mono ?_
    rintro e w' ⟨rfl, rfl⟩
    exact ⟨rfl, Below.refl _ _⟩
  · have hm : (l.map strB).map (·.data.toList) = l := by
      rw [List.map_map]
      have : (fun x : ByteArray => x.data.toList) ∘ strB = id := by funext x; rfl
      rw [this, List.map_id]
    have := Tryd.strings_Join g 0 cap (l.map strB) (strB [c]) w (fun j x hx => by
      rw [Nat.zero_add]
      refine cell_of hg j ?_
      have h1 : (l.map strV4)[j]? = some (.string x) := by
        rw [List.getElem?_map] at hx ⊢
        cases hj : l[j]? with
        | none => rw [hj] at hx; cases hx
        | some y => rw [hj] at hx; cases hx; rfl
      rw [← htk, List.getElem?_take] at h1
      split at h1
      · simpa using h1
      · cases h1) (Array.getElem?_eq_some_iff.1 hg).1 (by simpa using hl) (by simpa using hcap) (by rw [hm]; exact hj)
    rw [hm, List.length_map] at this
    exact this
end Go.Proofs.YtbaceiohcbhpaaaDoor
