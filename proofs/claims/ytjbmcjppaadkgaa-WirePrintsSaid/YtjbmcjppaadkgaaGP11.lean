/- Texts of this seat, merged: Wire20, Wire21, Wire23, Wire24, Wire25. -/
import Derived.Test.YtjbmcjppaadkgaaGP10
import Derived.WalkKit
import Derived.ProofKit
import Derived.OpenShut
import Derived.ChangeOld
import Derived.Lib.AppendZeros
namespace Go.Proofs.Ytjbmcjppaadkgaa
set_option linter.unusedVariables false
set_option linter.unusedSimpArgs false
set_option maxRecDepth 100000
open Go.RowKit
theorem info_u64 : (Try.prog.info? 23).map (fun i => (i.zero, i.size, i.bytes)) = some (some (.int .u64 0), 1, 8) := by kernel_rfl
theorem wpList_app_u64 {w : World} {ops : Array Oper} {rest : List Oper} {o : Oper} {a : Act} {Q : Exit → Act → World → Prop} (hgd : o.guard = none) (s x : Operand)
    (ho : o.op = .call { callee := .builtin .append, args := #[s, x], argTypes := #[60, 60] })
    (base : Nat) (v : Value) (n : Nat) (xs : List Value) (hs : a.eval s = v) (hown : w.ownsRow base 23 1 v n xs)
    (g c : Nat) (u : Value) (hx : a.eval x = .slice (some ⟨g, 0, none⟩) 1 c) (hc : w.cell? ⟨g, 0, none⟩ = some u) (h1 : u.oneCell' = true) (hn : n ≤ 1000000) (hbase : base ≤ w.heap.size)
    (h : ∀ v' w', w'.ownsRow base 23 1 v' (n + 1) (xs ++ [u]) → w.grownBy w' v.ownBlock → wpList Try.prog ops Q rest (a.put o.dst v') w') : wpList Try.prog ops Q (o :: rest) a w := by
  obtain ⟨i0, hi0, hz0, hz1, hz2⟩ := info_parts info_u64
  refine wpList_append_own w hgd s x 60 ho base 23 i0 _ 1 8 Try.underlying60 hi0 hz0 hz1 hz2 rfl (by decide) v n xs hs hown ⟨g, 0, none⟩ 1 c [u] hx rfl (fun j y hy => ?_) (fun y hy => by simp at hy; subst hy; exact h1) (by unfold maxLen; omega) (by omega) hbase ?_
  · cases j with
    | zero => cases hy; exact hc
    | succ j => cases hy
  · intro v' w' h1 h2 _
    exact h v' w' h1 h2
theorem info_str : (Try.prog.info? 9).map (fun i => (i.zero, i.size, i.bytes)) = some (some (.string ⟨#[]⟩), 1, 16) := by kernel_rfl
theorem wpList_app_str {w : World} {ops : Array Oper} {rest : List Oper} {o : Oper} {a : Act} {Q : Exit → Act → World → Prop} (hgd : o.guard = none) (s x : Operand)
    (ho : o.op = .call { callee := .builtin .append, args := #[s, x], argTypes := #[33, 33] })
    (base : Nat) (v : Value) (n : Nat) (xs : List Value) (hs : a.eval s = v) (hown : w.ownsRow base 9 1 v n xs)
    (g c : Nat) (u : Value) (hx : a.eval x = .slice (some ⟨g, 0, none⟩) 1 c) (hc : w.cell? ⟨g, 0, none⟩ = some u) (h1 : u.oneCell' = true) (hn : n ≤ 1000000) (hbase : base ≤ w.heap.size)
    (h : ∀ v' w', w'.ownsRow base 9 1 v' (n + 1) (xs ++ [u]) → w.grownBy w' v.ownBlock → wpList Try.prog ops Q rest (a.put o.dst v') w') : wpList Try.prog ops Q (o :: rest) a w := by
  obtain ⟨i0, hi0, hz0, hz1, hz2⟩ := info_parts info_str
  refine wpList_append_own w hgd s x 33 ho base 9 i0 _ 1 16 Try.underlying33 hi0 hz0 hz1 hz2 rfl (by decide) v n xs hs hown ⟨g, 0, none⟩ 1 c [u] hx rfl (fun j y hy => ?_) (fun y hy => by simp at hy; subst hy; exact h1) (by unfold maxLen; omega) (by omega) hbase ?_
  · cases j with
    | zero => cases hy; exact hc
    | succ j => cases hy
  · intro v' w' h1 h2 _
    exact h v' w' h1 h2
theorem szs_len (k : Nat) : (szsOf k).length ≤ 2 := by
  unfold szsOf
  split; · decide
  split; · decide
  split <;> decide
theorem cs_len (k : Nat) : (csOf k).length ≤ 5 := by
  unfold csOf
  split; · decide
  split; · decide
  split <;> decide
theorem bd_snoc {szs ns : List Nat} {j s V : Nat} (h : ∀ (i s n : Nat), szs[i]? = some s → ns[i]? = some n → n < 256 ^ s) (hj : ns.length = j) (hs : szs[j]? = some s) (hV : V < 256 ^ s) : ∀ (i s n : Nat), szs[i]? = some s → (ns ++ [V])[i]? = some n → n < 256 ^ s := by
  intro i s' n h1 h2
  by_cases hi : i < ns.length
  · rw [List.getElem?_append_left hi] at h2
    exact h i s' n h1 h2
  · rw [List.getElem?_append_right (by omega)] at h2
    have hi2 : i - ns.length = 0 := by have := (List.getElem?_eq_some_iff.1 h2).1; simp at this; omega
    rw [hi2] at h2
    cases h2
    obtain rfl : i = j := by omega
    rw [hs] at h1
    cases h1
    exact hV
theorem rdTxt_short {c : Nat} {l : List UInt8} {N : Nat → Nat} {X : Nat → ByteArray} (h : l.length < 2) : rdTxt c l N X = (4, [], N, upd X c ⟨#[]⟩) := by
  have e : cutTxt l = (4, [], []) := by unfold cutTxt; rw [if_pos h]
  unfold rdTxt
  rw [e]; rfl
theorem rdTxt_cut {c V : Nat} {l : List UInt8} {N : Nat → Nat} {X : Nat → ByteArray} (h : ¬ l.length < 2) (hV : valB (l.take 2) = V) (h2 : l.length < 2 + V) : rdTxt c l N X = (4, [], N, upd X c ⟨#[]⟩) := by
  have e : cutTxt l = (4, [], []) := by unfold cutTxt; rw [if_neg h, hV, if_pos h2]
  unfold rdTxt
  rw [e]; rfl
theorem rdTxt_no {c V : Nat} {l : List UInt8} {N : Nat → Nat} {X : Nat → ByteArray} (h : ¬ l.length < 2) (hV : valB (l.take 2) = V) (h2 : ¬ l.length < 2 + V) (hL : isL (bsub l 2 (2 + V)) = false) : rdTxt c l N X = (3, [], N, X) := by
  have e : cutTxt l = (0, bsub l 2 (2 + V), l.drop (2 + V)) := by unfold cutTxt; rw [if_neg h, hV, if_neg h2]
  unfold rdTxt
  rw [e]
  exact if_pos ⟨rfl, hL⟩
theorem rdTxt_yes {c V : Nat} {l : List UInt8} {N : Nat → Nat} {X : Nat → ByteArray} (h : ¬ l.length < 2) (hV : valB (l.take 2) = V) (h2 : ¬ l.length < 2 + V) (hL : isL (bsub l 2 (2 + V)) = true) : rdTxt c l N X = (0, l.drop (2 + V), N, upd X c (strB (bsub l 2 (2 + V)))) := by
  have e : cutTxt l = (0, bsub l 2 (2 + V), l.drop (2 + V)) := by unfold cutTxt; rw [if_neg h, hV, if_neg h2]
  unfold rdTxt
  rw [e]
  exact if_neg (fun h => by rw [hL] at h; exact absurd h.2 (by decide))
theorem bsub_drop (l : List UInt8) (p i j : Nat) : bsub (l.drop p) i j = bsub l (p + i) (p + j) := by
  unfold bsub
  rw [List.drop_drop]
  congr 1
  omega
theorem wrap64_big (a : Int) (h0 : 0 ≤ a) (h : a < 4611686018427387904) : wrap64 a = a := by unfold wrap64; omega
theorem isL_nil : isL [] = false := by
  cases h : isL [] with
  | false => rfl
  | true =>
    exfalso
    unfold isL at h
    have h0 := of_decide_eq_true h
    obtain ⟨y, hy⟩ : ∃ y, lookR [] = y := ⟨_, rfl⟩
    obtain ⟨k, n, ps⟩ := y
    rw [hy] at h0
    have h2 := ((look_p (t := []) (k := k) (n := n) (ps := ps) (show k ≠ 0 from Nat.ne_of_gt h0)).1 hy).2
    cases h2
theorem ownsRow_below {w w' : World} {base n : Nat} {e : TypeId} {v : Value} {xs : List Value} (h : w.ownsRow base e 1 v n xs) (hb : Below w.heap.size w w') : w'.ownsRow base e 1 v n xs := by
  refine ⟨h.1, ?_⟩
  rcases h.2 with h | ⟨g, cap, cur, h1, h2, h3, h4⟩
  · exact .inl h
  · exact .inr ⟨g, cap, cur, h1, h2, (hb.block g (Array.getElem?_eq_some_iff.1 h3).1).trans h3, h4⟩
theorem ia {p V L : Nat} (h : ¬ p + 2 + V ≤ L + 1) : (L : Int) + 1 < p + 2 + V := by omega
theorem ib {p V L : Nat} (h : p + 2 + V ≤ L + 1) : ¬ (L : Int) + 1 < p + 2 + V := by omega
theorem ic {p V L cp : Nat} (h : p + 2 + V ≤ L + 1) (hl : L + 1 ≤ cp) : (p : Int) + 2 + V ≤ cp := by omega
theorem id1 {p V : Nat} {x : UInt8} {r : List UInt8} (h : ¬ p + 2 + V ≤ r.length + 1) : ((x :: r).drop p).length < 2 + V := by rw [List.length_drop, List.length_cons]; omega
theorem id2 {p V : Nat} {x : UInt8} {r : List UInt8} (h : p + 2 + V ≤ r.length + 1) : ¬ ((x :: r).drop p).length < 2 + V := by rw [List.length_drop, List.length_cons]; omega
theorem ie {p V L cp : Nat} (h : p + 2 + V ≤ L + 1) (hl : L + 1 ≤ cp) (hc : cp = p + 2) : V = 0 := by omega
theorem ig {p cp : Nat} (h : ¬ cp = p + 2) : ¬ (cp : Int) = p + 2 := by omega
theorem ih {p V L : Nat} (h : p + 2 + V ≤ L + 1) (hL : L ≤ 100000) : p + 2 + V - (p + 2) ≤ maxLen := by unfold maxLen; omega
theorem ja {p q : Nat} (h : q = p + 2) : (p : Int) + 2 = q := by omega
theorem jb {p q : Nat} (h : q = p + 2) : q - p = 2 := by omega
theorem jc {p q : Nat} (h : q = p + 2) : (p : Int) ≤ q := by omega
theorem jd {p q L : Nat} (h : q = p + 2) (h2 : p + 2 ≤ L + 1) : ¬ (L : Int) + 1 < q := by omega
theorem je {p q L cp : Nat} (h : q = p + 2) (h2 : p + 2 ≤ L + 1) (hl : L + 1 ≤ cp) : (q : Int) ≤ cp := by omega
theorem jf {p q L V : Nat} (h : q = p + 2) (h2 : p + 2 ≤ L + 1) (hL : L ≤ 100000) (hV : V < 65536) : wrap64 ((q : Int) + V) = q + V := wrap64_big _ (by omega) (by omega)
theorem alloc_le {w : World} {n : Nat} (h : n ≤ w.heap.size) (o : Obj) : n ≤ (w.alloc o).heap.size := by simp; omega
theorem cs_pos (k : Nat) : 0 < (csOf k).length := by
  unfold csOf
  split; · decide
  split; · decide
  split <;> decide
theorem list_1 {α : Type} {l : List α} (h : l.length = 1) : ∃ a, l = [a] := by
  match l, h with
  | [a], _ => exact ⟨a, rfl⟩
theorem list_2 {α : Type} {l : List α} (h : l.length = 2) : ∃ a b, l = [a, b] := by
  match l, h with
  | [a, b], _ => exact ⟨a, b, rfl⟩
theorem list_4 {α : Type} {l : List α} (h : l.length = 4) : ∃ a b c d, l = [a, b, c, d] := by
  match l, h with
  | [a, b, c, d], _ => exact ⟨a, b, c, d, rfl⟩
theorem list_5 {α : Type} {l : List α} (h : l.length = 5) : ∃ a b c d e, l = [a, b, c, d, e] := by
  match l, h with
  | [a, b, c, d, e], _ => exact ⟨a, b, c, d, e, rfl⟩
def numsV (ns : List Nat) : List Value := ns.map fun n => Value.int .u64 (n : Nat)
set_option maxHeartbeats 4000000 in
theorem rread_x (x : UInt8) (r : List UInt8) (b off cp : Nat) (w : World) (kn : Nat) (hkn : x.toNat = kn) (h1 : 1 ≤ kn) (h4 : kn ≤ 4) (hl : r.length + 1 ≤ cp) (hcm : cp ≤ maxLen) (hlen : r.length ≤ 100000) (hcell : ∀ i, i < (x :: r).length → w.cell? ⟨b, off + i, none⟩ = some (.int .u8 ((x :: r).getD i 0).toNat)) :
    Calls Try.prog 18 #[.slice (some ⟨b, off, none⟩) (r.length + 1) cp] w (ReadRet6 w (readS (x :: r))) := by
  have HX : Hid ((((w.alloc (.cells #[.int .i64 0, .int .u32 0, .int .u32 0, .int .u64 0, .string ⟨#[]⟩, .string ⟨#[]⟩, .string ⟨#[]⟩, .string ⟨#[]⟩, .string ⟨#[]⟩, .string ⟨#[]⟩, .string ⟨#[]⟩, .string ⟨#[]⟩, .string ⟨#[]⟩] 25)).alloc (.cells #[.int .i64 0, .int .u32 0, .int .u32 0, .int .u64 0, .string ⟨#[]⟩, .string ⟨#[]⟩, .string ⟨#[]⟩, .string ⟨#[]⟩, .string ⟨#[]⟩, .string ⟨#[]⟩, .string ⟨#[]⟩, .string ⟨#[]⟩, .string ⟨#[]⟩] 25))).heap[w.heap.size]? = some (.cells #[.int .i64 0, .int .u32 0, .int .u32 0, .int .u64 0, .string ⟨#[]⟩, .string ⟨#[]⟩, .string ⟨#[]⟩, .string ⟨#[]⟩, .string ⟨#[]⟩, .string ⟨#[]⟩, .string ⟨#[]⟩, .string ⟨#[]⟩, .string ⟨#[]⟩] 25 (0, 0))) := Lib.hid (w2_x w)
  have HY := Lib.hid (new2 w (.cells #[.int .i64 0, .int .u32 0, .int .u32 0, .int .u64 0, .string ⟨#[]⟩, .string ⟨#[]⟩, .string ⟨#[]⟩, .string ⟨#[]⟩, .string ⟨#[]⟩, .string ⟨#[]⟩, .string ⟨#[]⟩, .string ⟨#[]⟩, .string ⟨#[]⟩] 25) (.cells #[.int .i64 0, .int .u32 0, .int .u32 0, .int .u64 0, .string ⟨#[]⟩, .string ⟨#[]⟩, .string ⟨#[]⟩, .string ⟨#[]⟩, .string ⟨#[]⟩, .string ⟨#[]⟩, .string ⟨#[]⟩, .string ⟨#[]⟩, .string ⟨#[]⟩] 25))
  have HC : Hid (∀ i, i < (x :: r).length → (((w.alloc (.cells #[.int .i64 0, .int .u32 0, .int .u32 0, .int .u64 0, .string ⟨#[]⟩, .string ⟨#[]⟩, .string ⟨#[]⟩, .string ⟨#[]⟩, .string ⟨#[]⟩, .string ⟨#[]⟩, .string ⟨#[]⟩, .string ⟨#[]⟩, .string ⟨#[]⟩] 25)).alloc (.cells #[.int .i64 0, .int .u32 0, .int .u32 0, .int .u64 0, .string ⟨#[]⟩, .string ⟨#[]⟩, .string ⟨#[]⟩, .string ⟨#[]⟩, .string ⟨#[]⟩, .string ⟨#[]⟩, .string ⟨#[]⟩, .string ⟨#[]⟩, .string ⟨#[]⟩] 25))).cell? ⟨b, off + i, none⟩ = some (.int .u8 ((x :: r).getD i 0).toNat)) := Lib.hid (fun i hi => old1 _ (old1 _ (hcell i hi)))
  have q0 : (((w.alloc (.cells #[.int .i64 0, .int .u32 0, .int .u32 0, .int .u64 0, .string ⟨#[]⟩, .string ⟨#[]⟩, .string ⟨#[]⟩, .string ⟨#[]⟩, .string ⟨#[]⟩, .string ⟨#[]⟩, .string ⟨#[]⟩, .string ⟨#[]⟩, .string ⟨#[]⟩] 25)).alloc (.cells #[.int .i64 0, .int .u32 0, .int .u32 0, .int .u64 0, .string ⟨#[]⟩, .string ⟨#[]⟩, .string ⟨#[]⟩, .string ⟨#[]⟩, .string ⟨#[]⟩, .string ⟨#[]⟩, .string ⟨#[]⟩, .string ⟨#[]⟩, .string ⟨#[]⟩] 25))).cell? ⟨b, off, none⟩ = some (.int .u8 x.toNat) := HC.out 0 (by simp)
  have HB : Hid (Below w.heap.size w (((w.alloc (.cells #[.int .i64 0, .int .u32 0, .int .u32 0, .int .u64 0, .string ⟨#[]⟩, .string ⟨#[]⟩, .string ⟨#[]⟩, .string ⟨#[]⟩, .string ⟨#[]⟩, .string ⟨#[]⟩, .string ⟨#[]⟩, .string ⟨#[]⟩, .string ⟨#[]⟩] 25)).alloc (.cells #[.int .i64 0, .int .u32 0, .int .u32 0, .int .u64 0, .string ⟨#[]⟩, .string ⟨#[]⟩, .string ⟨#[]⟩, .string ⟨#[]⟩, .string ⟨#[]⟩, .string ⟨#[]⟩, .string ⟨#[]⟩, .string ⟨#[]⟩, .string ⟨#[]⟩] 25)))) := Lib.hid (Below.next (below_one _) (below_one _))
  have hw64 : wrap64 (x.toNat : Int) = x.toNat := wrap64_id _ (by omega) (by omega)
  have HZ : Hid (readS (x :: r) = readR x (rCont (List.zipWith numFd (szsOf kn) (ncsOf kn) ++ (csOf kn).map .t) ((zr 3 r).1, (zr 3 r).2, N0, X0))) := Lib.hid (by
    show (if fsOf x.toNat = [] then _ else _) = _
    rw [hkn, if_neg (fsOf_ne h1 h4), fs_split h1 h4]; rfl)
  rw [hkn] at q0 hw64
  have h1i : ¬ (kn : Int) < 1 := by omega
  have h4i : ¬ (4 : Int) < kn := by omega
  have hrl : (0 : Int) ≤ r.length := by omega
  clear hcell
  go_enter Try.func18, Try.ntmps18
  go_wp2_with fail
  clear hw64
  go_loop [6] (fun i => ∃ j : Nat, i = .int .i64 ((j + 1 : Nat) : Int) ∧ j ≤ 3 ∧ j ≤ r.length ∧ zr 3 r = zr (3 - j) (r.drop j)) (fun i => (4 - intOf i).toNat)
  case atStart => exact ⟨0, rfl, by omega, by omega, rfl⟩
  case round =>
    obtain ⟨j, rfl, hj3, hjr, hz⟩ := hrel
    have HXr := HX
    have HYr := HY
    have HBr := HB
    by_cases hj : j = 3
    · subst hj
      have HZ3 : Hid (zr 3 r = (0, r.drop 3)) := Lib.hid hz
      clear hz
      obtain ⟨hT1, hT2, hT3, hT4⟩ := tables (((w.alloc (.cells #[.int .i64 0, .int .u32 0, .int .u32 0, .int .u64 0, .string ⟨#[]⟩, .string ⟨#[]⟩, .string ⟨#[]⟩, .string ⟨#[]⟩, .string ⟨#[]⟩, .string ⟨#[]⟩, .string ⟨#[]⟩, .string ⟨#[]⟩, .string ⟨#[]⟩] 25)).alloc (.cells #[.int .i64 0, .int .u32 0, .int .u32 0, .int .u64 0, .string ⟨#[]⟩, .string ⟨#[]⟩, .string ⟨#[]⟩, .string ⟨#[]⟩, .string ⟨#[]⟩, .string ⟨#[]⟩, .string ⟨#[]⟩, .string ⟨#[]⟩, .string ⟨#[]⟩] 25))) (w.heap.size + 1 + 1) (by simp) kn h1 h4
      have HT1 := Lib.hid hT1; have HT2 := Lib.hid hT2; have HT3 := Lib.hid hT3; have HT4 := Lib.hid hT4
      clear hT1 hT2 hT3 hT4
      go_wp2_with fail
      generalize (((((((((((w.alloc (.cells #[.int .i64 0, .int .u32 0, .int .u32 0, .int .u64 0, .string ⟨#[]⟩, .string ⟨#[]⟩, .string ⟨#[]⟩, .string ⟨#[]⟩, .string ⟨#[]⟩, .string ⟨#[]⟩, .string ⟨#[]⟩, .string ⟨#[]⟩, .string ⟨#[]⟩] 25)).alloc (.cells #[.int .i64 0, .int .u32 0, .int .u32 0, .int .u64 0, .string ⟨#[]⟩, .string ⟨#[]⟩, .string ⟨#[]⟩, .string ⟨#[]⟩, .string ⟨#[]⟩, .string ⟨#[]⟩, .string ⟨#[]⟩, .string ⟨#[]⟩, .string ⟨#[]⟩] 25))).alloc (.cells #[] 3)).alloc (.cells #[.int .i64 4] 3)).alloc (.cells #[.int .i64 4, .int .i64 4] 3)).alloc (.cells #[.int .i64 4] 3)).alloc (.cells #[.int .i64 4, .int .i64 8] 3)).alloc (.cells #[.slice (some ⟨(w.heap.size + 1 + 1), 0, none⟩) 0 0, .slice (some ⟨(w.heap.size + 1 + 1) + 1, 0, none⟩) 1 1, .slice (some ⟨(w.heap.size + 1 + 1) + 1 + 1, 0, none⟩) 2 2, .slice (some ⟨(w.heap.size + 1 + 1) + 1 + 1 + 1, 0, none⟩) 1 1, .slice (some ⟨(w.heap.size + 1 + 1) + 1 + 1 + 1 + 1, 0, none⟩) 2 2] 58)).alloc (.cells #[.int .i64 0, .int .i64 5, .int .i64 4, .int .i64 2, .int .i64 1] 3))) = W7 at *
      have hsz7 := HT4.out
      have HX7 : Hid (W7.heap[w.heap.size]? = some (.cells #[.int .i64 0, .int .u32 0, .int .u32 0, .int .u64 0, .string ⟨#[]⟩, .string ⟨#[]⟩, .string ⟨#[]⟩, .string ⟨#[]⟩, .string ⟨#[]⟩, .string ⟨#[]⟩, .string ⟨#[]⟩, .string ⟨#[]⟩, .string ⟨#[]⟩] 25 (0, 0))) := Lib.hid ((HT3.out.block _ (by simp; omega)).trans HX.out)
      have HY7 : Hid (W7.heap[w.heap.size + 1]? = some (.cells #[.int .i64 0, .int .u32 0, .int .u32 0, .int .u64 0, .string ⟨#[]⟩, .string ⟨#[]⟩, .string ⟨#[]⟩, .string ⟨#[]⟩, .string ⟨#[]⟩, .string ⟨#[]⟩, .string ⟨#[]⟩, .string ⟨#[]⟩, .string ⟨#[]⟩] 25 (0, 0))) := Lib.hid ((HT3.out.block _ (by simp)).trans HY.out)
      have HB7 : Hid (Below w.heap.size w W7) := Lib.hid (Below.next HB.out HT3.out)
      have HC7 : Hid (∀ i, i < (x :: r).length → W7.cell? ⟨b, off + i, none⟩ = some (.int .u8 ((x :: r).getD i 0).toNat)) := Lib.hid (fun i hi => (HT3.out.cell (p := ⟨b, off + i, none⟩) (World.block_lt_of_cell? _ _ (HC.out i hi))).trans (HC.out i hi))
      have HZ7 : Hid (readS (x :: r) = readR x (rCont (List.zipWith numFd (szsOf kn) (ncsOf kn) ++ (csOf kn).map .t) (0, (x :: r).drop 4, N0, X0))) := Lib.hid (by rw [HZ.out, HZ3.out]; rfl)
      obtain ⟨sb, hsb1, hsb2⟩ := HT1.out
      have HSB1 := Lib.hid hsb1
      have HSB2 := Lib.hid hsb2
      have HJR := Lib.hid hjr
      have HRW0 : Hid ((W7.alloc (.cells #[] 23)).ownsRow W7.heap.size 23 1 (.slice (some ⟨w.heap.size + 1 + 1 + 1 + 1 + 1 + 1 + 1 + 1 + 1, 0, none⟩) 0 0) 0 (numsV [])) := Lib.hid (by
        rw [show w.heap.size + 1 + 1 + 1 + 1 + 1 + 1 + 1 + 1 + 1 = W7.heap.size by omega]
        exact World.ownsRow_made (base := W7.heap.size) (e := 23) (size := 1) W7 #[] 0 (Nat.le_refl _) (by decide) rfl)
      clear hsb1 hsb2 hjr q0 HT3 HT4 HZ HZ3 HX HY HB HC HXr HYr HBr hj3
      go_loopw [9, 10, 11] (fun at' nm i wr => ∃ (p j : Nat) (ns : List Nat), at' = .int .i64 (p : Nat) ∧ i = .int .i64 (j : Nat) ∧ j ≤ (szsOf kn).length ∧ ns.length = j ∧ 4 ≤ p ∧ p ≤ r.length + 1 ∧ wr.ownsRow W7.heap.size 23 1 nm j (numsV ns) ∧ Below W7.heap.size W7 wr ∧ (∀ (i s n : Nat), (szsOf kn)[i]? = some s → ns[i]? = some n → n < 256 ^ s) ∧ readS (x :: r) = readR x (rCont ((List.zipWith numFd (szsOf kn) (ncsOf kn)).drop j ++ (csOf kn).map .t) (0, (x :: r).drop p, updLN N0 (ncsOf kn) ns, X0))) (fun _ _ i _ => (szsOf kn).length - (intOf i).toNat)
      case atStart => exact ⟨4, 0, [], rfl, rfl, Nat.zero_le _, rfl, Nat.le_refl _, Nat.succ_le_succ HJR.out, HRW0.out, below_one _, (fun i s n _ h => by simp at h), by rw [updLN_nil]; exact HZ7.out⟩
      case round =>
        obtain ⟨p, j, ns, rfl, rfl, hj, hns, hp4, hpl, hrow, hbel, hbd, hz⟩ := hrel
        have HBW := Lib.hid hbel
        have HRW := Lib.hid hrow
        have HZ := Lib.hid hz
        have HBD := Lib.hid hbd
        have t1 : wr.cell? ⟨w.heap.size + 1 + 1 + 1 + 1 + 1 + 1 + 1, kn, none⟩ = some (.slice (some ⟨sb, 0, none⟩) (szsOf kn).length (szsOf kn).length) := (hbel.cell (p := ⟨_, kn, none⟩) (World.block_lt_of_cell? _ _ HSB1.out)).trans HSB1.out
        have HXr : Hid (wr.heap[w.heap.size]? = some (.cells #[.int .i64 0, .int .u32 0, .int .u32 0, .int .u64 0, .string ⟨#[]⟩, .string ⟨#[]⟩, .string ⟨#[]⟩, .string ⟨#[]⟩, .string ⟨#[]⟩, .string ⟨#[]⟩, .string ⟨#[]⟩, .string ⟨#[]⟩, .string ⟨#[]⟩] 25 (0, 0))) := Lib.hid ((hbel.block _ (by omega)).trans HX7.out)
        have HYr : Hid (wr.heap[w.heap.size + 1]? = some (.cells #[.int .i64 0, .int .u32 0, .int .u32 0, .int .u64 0, .string ⟨#[]⟩, .string ⟨#[]⟩, .string ⟨#[]⟩, .string ⟨#[]⟩, .string ⟨#[]⟩, .string ⟨#[]⟩, .string ⟨#[]⟩, .string ⟨#[]⟩, .string ⟨#[]⟩] 25 (0, 0))) := Lib.hid ((hbel.block _ (by omega)).trans HY7.out)
        have HBr : Hid (Below w.heap.size w wr) := Lib.hid (HB7.out.trans (hbel.mono HB7.out.size))
        have HCr : Hid (PartB wr b (.slice (some ⟨b, off, none⟩) (r.length + 1) cp) (x :: r)) := Lib.hid ⟨off, cp, rfl, by simpa using hl, hcm, fun i hi => (hbel.cell (p := ⟨b, off + i, none⟩) (World.block_lt_of_cell? _ _ (HC7.out i hi))).trans (HC7.out i hi)⟩
        clear hrow hbel hz hbd
        by_cases hjs : j < (szsOf kn).length
        · obtain ⟨s, c, hs1, hc1, hs48, hdrop⟩ := nums_next h1 h4 hjs
          have t2 : wr.cell? ⟨sb, j, none⟩ = some (.int .i64 (s : Nat)) := (HBW.out.cell (p := ⟨sb, j, none⟩) (World.block_lt_of_cell? _ _ (HSB2.out j s hs1))).trans (HSB2.out j s hs1)
          have HZr : Hid (readS (x :: r) = readR x (rCont ((List.zipWith numFd (szsOf kn) (ncsOf kn)).drop (j + 1) ++ (csOf kn).map .t) (rdNum s c ((x :: r).drop p) (updLN N0 (ncsOf kn) ns) X0))) := Lib.hid (by rw [HZ.out, hdrop, List.cons_append, rCont_num hs48])
          have hs8 : s ≤ 8 := by omega
          have hj100 : j ≤ 1000000 := by have := szs_len kn; omega
          have hs0 : 0 < s := by omega
          have HS48 := Lib.hid hs48
          clear hdrop hs48
          by_cases hps : p + s ≤ r.length + 1
          · have hpsi : ¬ (r.length : Int) + 1 < p + s := by omega
            have hpsc : (p : Int) + s ≤ cp := by omega
            have hcpi : (cp : Int) ≤ 9223372036854775807 := by unfold maxLen at hcm; omega
            have hbs := bytes_sub (c2 := cp - p) (i := p) (j := p + s) (w := wr) (b := b) (off := off) (cp := cp) (l := x :: r) (n := s) (HCr.out.bytes) (by omega) (by simpa using hps) (by omega)
            have hval := rvalue6_any _ _ wr hbs (by rw [bsub_len (by simpa using hps)]; omega)
            have hVe : valB (((x :: r).drop p).take s) = valB (bsub (x :: r) p (p + s)) := by unfold bsub; rw [Nat.add_sub_cancel_left]
            have hVl := valB_lt (bsub (x :: r) p (p + s))
            rw [bsub_len (by simpa using hps), Nat.add_sub_cancel_left] at hVl
            have HZs : Hid (readS (x :: r) = readR x (rCont ((List.zipWith numFd (szsOf kn) (ncsOf kn)).drop (j + 1) ++ (csOf kn).map .t) (0, (x :: r).drop (p + s), upd (updLN N0 (ncsOf kn) ns) c (valB (bsub (x :: r) p (p + s))), X0))) := Lib.hid (by
              rw [HZr.out]
              unfold rdNum
              rw [if_neg (by simp; omega), hVe, List.drop_drop])
            generalize valB (bsub (x :: r) p (p + s)) = V at *
            have HVAL := Lib.hid hval
            have HVL := Lib.hid hVl
            have HNC : Hid (∀ W, W = wr.alloc (.cells #[.int .u64 (V : Nat)] 23) → W.cell? ⟨wr.heap.size, 0, none⟩ = some (.int .u64 (V : Nat))) := Lib.hid (fun W hW => by subst hW; exact cell_of (heap_alloc_new wr _) 0 rfl)
            clear hval hbs hVe hVl
            go_wp2_with (first | (go_at_call 32; ((with_reducible refine (HVAL.out).mono ?_); rintro e w2 ⟨rfl, rfl⟩)) | (at_builtin; refine wpList_app_u64 rfl _ _ rfl W7.heap.size u10 j _ rfl (HRW.out.alloc _) wr.heap.size 1 (.int .u64 (V : Nat)) rfl (HNC.out _ rfl) rfl (by omega) (by have := HBW.out.size; simp; omega) ?_; intro v' w4 hown hgrow) | fail)
            have hb4 := (HBW.out.alloc HBW.out.size (.cells #[.int .u64 (V : Nat)] 23)).grown hgrow (by have := HBW.out.size; simp; omega) (fun g hg => (HRW.out.lt g hg).1)
            go_roundw
            case rel => exact ⟨p + s, j + 1, ns ++ [V], by first | rfl | go_num, by first | rfl | go_num, hjs, by simp [hns], by omega, hps, by simpa [numsV] using hown, hb4, bd_snoc HBD.out hns hs1 HVL.out, by rw [updLN_snoc _ _ _ _ _ (by rw [hns]; exact hc1)]; exact HZs.out⟩
            case measure => simp [intOf]; omega
          · have hpsi : (r.length : Int) + 1 < p + s := by omega
            have HZs : Hid (readS (x :: r) = (4, 0, N0, X0)) := Lib.hid (by
              rw [HZr.out]
              unfold rdNum
              rw [if_pos (by simp; omega)]
              exact readR_err (by decide))
            obtain ⟨c0, c1, c2, c3, c4, c5, c6, c7, c8, c9, c10, c11, c12⟩ := cells13 HXr.out; obtain ⟨d0, d1, d2, d3, d4, d5, d6, d7, d8, d9, d10, d11, d12⟩ := cells13 HYr.out; have fz := fun i => free_of HXr.out i
            go_wp2_with fail
            rw [HZs.out]
            exact bodyPost_ret (res_cell13t (t := 2) (u := 3) rfl _ _ _ _ _ _ _ _ _ _ _ _ _ _ _ _ (set13_block HXr.out _ _ _ _ _ _ _ _ _ _ _ _ _) _ rfl rfl) rfl ⟨rfl, set13_below HBr.out (Nat.le_refl _) _ _ _ _ _ _ _ _ _ _ _ _ _⟩
        · obtain rfl : j = (szsOf kn).length := by omega
          have HZe : Hid (readS (x :: r) = readR x (rCont ((csOf kn).map .t) (0, (x :: r).drop p, updLN N0 (ncsOf kn) ns, X0))) := Lib.hid (by rw [HZ.out, nums_end, List.nil_append])
          have hcs5 := cs_len kn
          have t3 : wr.cell? ⟨w.heap.size + 1 + 1 + 1 + 1 + 1 + 1 + 1 + 1, kn, none⟩ = some (.int .i64 ((csOf kn).length : Nat)) := (HBW.out.cell (p := ⟨_, kn, none⟩) (World.block_lt_of_cell? _ _ HT2.out)).trans HT2.out
          have HT3 := Lib.hid t3
          have HP4 := Lib.hid hp4
          have HPL := Lib.hid hpl
          have HNS := Lib.hid hns
          obtain ⟨N1, hN1⟩ : ∃ N1, updLN N0 (ncsOf kn) ns = N1 := ⟨_, rfl⟩
          rw [hN1] at HZe
          have HN1 := Lib.hid hN1
          clear hN1 t3 HZ hj hns hp4 hpl
          go_wp2_with fail
          clear t1
          obtain ⟨wB, hwB⟩ : ∃ W, W = wr := ⟨_, rfl⟩
          subst hwB
          go_loopw [9, 13, 14] (fun at' lv i wr => ∃ (p j : Nat) (ts : List (List UInt8)), at' = .int .i64 (p : Nat) ∧ i = .int .i64 (j : Nat) ∧ j ≤ (csOf kn).length ∧ ts.length = j ∧ 4 ≤ p ∧ p ≤ r.length + 1 ∧ wr.ownsRow wB.heap.size 9 1 lv j (ts.map strV) ∧ Below wB.heap.size wB wr ∧ readS (x :: r) = readR x (rCont (((csOf kn).drop j).map .t) (0, (x :: r).drop p, N1, updLX X0 (csOf kn) ts))) (fun _ _ i _ => (csOf kn).length - (intOf i).toNat)
          case atStart => exact ⟨p, 0, [], rfl, rfl, Nat.zero_le _, rfl, HP4.out, HPL.out, World.ownsRow_made (base := wB.heap.size) (e := 9) (size := 1) wB #[] 0 (Nat.le_refl _) (by decide) rfl, below_one _, by rw [updLX_nil]; exact HZe.out⟩
          case round =>
            obtain ⟨p, j, ts, rfl, rfl, hj, hts, hp4, hpl, hrow, hbel, hz⟩ := hrel
            have HB9 := Lib.hid hbel
            have HR9 := Lib.hid hrow
            have HZ := Lib.hid hz
            have t4 : wr.cell? ⟨w.heap.size + 1 + 1 + 1 + 1 + 1 + 1 + 1 + 1, kn, none⟩ = some (.int .i64 ((csOf kn).length : Nat)) := (hbel.cell (p := ⟨_, kn, none⟩) (World.block_lt_of_cell? _ _ HT3.out)).trans HT3.out
            have HX9 : Hid (wr.heap[w.heap.size]? = some (.cells #[.int .i64 0, .int .u32 0, .int .u32 0, .int .u64 0, .string ⟨#[]⟩, .string ⟨#[]⟩, .string ⟨#[]⟩, .string ⟨#[]⟩, .string ⟨#[]⟩, .string ⟨#[]⟩, .string ⟨#[]⟩, .string ⟨#[]⟩, .string ⟨#[]⟩] 25 (0, 0))) := Lib.hid ((hbel.block _ (Array.getElem?_eq_some_iff.1 HXr.out).1).trans HXr.out)
            have HY9 : Hid (wr.heap[w.heap.size + 1]? = some (.cells #[.int .i64 0, .int .u32 0, .int .u32 0, .int .u64 0, .string ⟨#[]⟩, .string ⟨#[]⟩, .string ⟨#[]⟩, .string ⟨#[]⟩, .string ⟨#[]⟩, .string ⟨#[]⟩, .string ⟨#[]⟩, .string ⟨#[]⟩, .string ⟨#[]⟩] 25 (0, 0))) := Lib.hid ((hbel.block _ (Array.getElem?_eq_some_iff.1 HYr.out).1).trans HYr.out)
            have HXr := HX9
            have HYr := HY9
            have HBr : Hid (Below w.heap.size w wr) := Lib.hid (Below.next HBr.out hbel)
            have HC9 := Lib.hid (HCr.out.below hbel)
            clear hrow hbel hz
            by_cases hjs : j < (csOf kn).length
            · obtain ⟨c, hc1, hdrop⟩ := texts_next hjs
              have HZr : Hid (readS (x :: r) = readR x (rCont (((csOf kn).drop (j + 1)).map .t) (rdTxt c ((x :: r).drop p) N1 (updLX X0 (csOf kn) ts)))) := Lib.hid (by rw [HZ.out, hdrop, List.map_cons, rCont_txt])
              clear hdrop
              by_cases hp2 : p + 2 ≤ r.length + 1
              · have hlc : p + 2 ≤ (x :: r).length := hp2
                have hbs := fun c2 => bytes_sub (c2 := c2) (i := p) (j := p + 2) (w := wr) (b := b) (off := off) (cp := cp) (l := x :: r) (n := 2) (HC9.out.bytes) (by omega) hlc (by omega)
                have hval := fun c2 => rvalue6_any _ _ wr (hbs c2) (by rw [bsub_len hlc]; omega)
                have hVe : valB (((x :: r).drop p).take 2) = valB (bsub (x :: r) p (p + 2)) := by unfold bsub; rw [Nat.add_sub_cancel_left]
                have hVl := valB_lt (bsub (x :: r) p (p + 2))
                rw [bsub_len hlc, Nat.add_sub_cancel_left] at hVl
                have hd2 : ¬ ((x :: r).drop p).length < 2 := by rw [List.length_drop, List.length_cons]; omega
                generalize valB (bsub (x :: r) p (p + 2)) = V at *
                have hV65 : V < 65536 := hVl
                have HVAL := Lib.hid hval
                have hwV : wrap64 (V : Int) = V := wrap64_big _ (Int.natCast_nonneg V) (by omega)
                have HV65 := Lib.hid hV65
                clear hV65
                obtain ⟨q, hq⟩ : ∃ q, q = p + 2 := ⟨_, rfl⟩
                have hpq : (p : Int) + 2 = q := ja hq
                have hqp : q - p = 2 := jb hq
                have hq0 : (p : Int) ≤ q := jc hq
                have hp2i : ¬ (r.length : Int) + 1 < q := jd hq hp2
                have hp2c : (q : Int) ≤ cp := je hq hp2 hl
                have hcpi : (cp : Int) ≤ 9223372036854775807 := by unfold maxLen at hcm; omega
                clear hval hbs hVl
                by_cases hpv : p + 2 + V ≤ r.length + 1
                · have hlv : p + 2 + V ≤ (x :: r).length := hpv
                  have hdv : ¬ ((x :: r).drop p).length < 2 + V := id2 hpv
                  have hpvi : ¬ (r.length : Int) + 1 < q + V := by rw [← hpq]; exact ib hpv
                  have hpvc : (q : Int) + V ≤ cp := by rw [← hpq]; exact ic hpv hl
                  have hbd2 : bsub ((x :: r).drop p) 2 (2 + V) = bsub (x :: r) (p + 2) (p + 2 + V) := by rw [bsub_drop, ← Nat.add_assoc]
                  by_cases hat : cp = p + 2
                  · obtain rfl : V = 0 := ie hpv hl hat
                    have hT0 : bsub (x :: r) (p + 2) (p + 2 + 0) = [] := by unfold bsub; simp
                    have HZs : Hid (readS (x :: r) = (3, 0, N0, X0)) := Lib.hid (by
                      rw [HZr.out, rdTxt_no hd2 hVe hdv (by rw [hbd2, hT0]; exact isL_nil)]
                      exact readR_err (by decide))
                    have HIS := Lib.hid (fun w => ris_v [] (by decide) false isL_nil (strB []) rfl w)
                    have hcv : (convert 28 9 (.slice (some ⟨b, off, none⟩) 0 0)).run Try.prog wr = .ok (.string (strB [])) wr := str_of ⟨_, _, rfl, .inl rfl⟩
                    have hatq : cp = q := hat.trans hq.symm
                    subst hatq
                    have HQ := Lib.hid hq
                    clear hVe hd2 hdv hbd2 hT0 hlc hlv hat hq hpv hp2
                    go_wp2_with (first | (go_at_call 32; ((with_reducible refine (HVAL.out _).mono ?_); rintro e w2 ⟨rfl, rfl⟩)) | (go_at_call 22; ((with_reducible refine (HIS.out _).mono ?_); rintro e w2 ⟨rfl, hb2⟩; (try dsimp only); have hx2 := (hb2.block _ (Array.getElem?_eq_some_iff.1 HXr.out).1).trans HXr.out; have hy2 := (hb2.block _ (Array.getElem?_eq_some_iff.1 HYr.out).1).trans HYr.out; have HX2 := Lib.hid hx2; have HB2 := Lib.hid (Below.next HBr.out hb2); obtain ⟨c0, c1, c2, c3, c4, c5, c6, c7, c8, c9, c10, c11, c12⟩ := cells13 hx2; obtain ⟨d0, d1, d2, d3, d4, d5, d6, d7, d8, d9, d10, d11, d12⟩ := cells13 hy2; have fz := fun i => free_of hx2 i; clear hx2 hy2 hb2)) | fail)
                    rw [HZs.out]
                    exact bodyPost_ret (res_cell13t (t := 2) (u := 3) rfl _ _ _ _ _ _ _ _ _ _ _ _ _ _ _ _ (set13_block HX2.out _ _ _ _ _ _ _ _ _ _ _ _ _) _ rfl rfl) rfl ⟨rfl, set13_below HB2.out (Nat.le_refl _) _ _ _ _ _ _ _ _ _ _ _ _ _⟩
                  · have hbs2 := bytes_sub (c2 := cp - q) (i := p + 2) (j := p + 2 + V) (w := wr) (b := b) (off := off) (cp := cp) (l := x :: r) (n := V) (HC9.out.bytes) (Nat.le_add_right _ _) hlv (Nat.add_sub_cancel_left (p + 2) V).symm
                    have hcv := str_of hbs2
                    obtain ⟨T, hT⟩ : ∃ T, bsub (x :: r) (p + 2) (p + 2 + V) = T := ⟨_, rfl⟩
                    have hTl : T.length ≤ maxLen := by rw [← hT, bsub_len hlv]; exact ih hpv hlen
                    rw [hT] at hcv hbd2
                    rw [← hq] at hcv
                    have HQ := Lib.hid hq
                    have hcp2 : ¬ (cp : Int) = q := by rw [← hpq]; exact ig hat
                    cases hL : isL T with
                    | false =>
                      have HZs : Hid (readS (x :: r) = (3, 0, N0, X0)) := Lib.hid (by
                        rw [HZr.out, rdTxt_no hd2 hVe hdv (by rw [hbd2]; exact hL)]
                        exact readR_err (by decide))
                      have HIS := Lib.hid (fun w => ris_v T hTl false hL (strB T) rfl w)
                      clear hVe hd2 hdv hbd2 hbs2 hT hL hTl hlc hlv hat hq hpv hp2
                      go_wp2_with (first | (go_at_call 32; ((with_reducible refine (HVAL.out _).mono ?_); rintro e w2 ⟨rfl, rfl⟩)) | (go_at_call 22; ((with_reducible refine (HIS.out _).mono ?_); rintro e w2 ⟨rfl, hb2⟩; (try dsimp only); have hx2 := (hb2.block _ (Array.getElem?_eq_some_iff.1 HXr.out).1).trans HXr.out; have hy2 := (hb2.block _ (Array.getElem?_eq_some_iff.1 HYr.out).1).trans HYr.out; have HX2 := Lib.hid hx2; have HB2 := Lib.hid (Below.next HBr.out hb2); obtain ⟨c0, c1, c2, c3, c4, c5, c6, c7, c8, c9, c10, c11, c12⟩ := cells13 hx2; obtain ⟨d0, d1, d2, d3, d4, d5, d6, d7, d8, d9, d10, d11, d12⟩ := cells13 hy2; have fz := fun i => free_of hx2 i; clear hx2 hy2 hb2)) | fail)
                      rw [HZs.out]
                      exact bodyPost_ret (res_cell13t (t := 2) (u := 3) rfl _ _ _ _ _ _ _ _ _ _ _ _ _ _ _ _ (set13_block HX2.out _ _ _ _ _ _ _ _ _ _ _ _ _) _ rfl rfl) rfl ⟨rfl, set13_below HB2.out (Nat.le_refl _) _ _ _ _ _ _ _ _ _ _ _ _ _⟩
                    | true =>
                      have HPVq : Hid (q + V ≤ r.length + 1) := Lib.hid (by rw [hq]; exact hpv)
                      have HPVq4 : Hid (4 ≤ q + V) := Lib.hid (by rw [hq]; exact Nat.le_trans hp4 (Nat.le_trans (Nat.le_add_right _ _) (Nat.le_add_right _ _)))
                      have HZs : Hid (readS (x :: r) = readR x (rCont (((csOf kn).drop (j + 1)).map .t) (0, (x :: r).drop (q + V), N1, upd (updLX X0 (csOf kn) ts) c (strB T)))) := Lib.hid (by
                        rw [HZr.out, rdTxt_yes hd2 hVe hdv (by rw [hbd2]; exact hL), hbd2, List.drop_drop, ← Nat.add_assoc, ← hq])
                      have HIS := Lib.hid (fun w => ris_v T hTl true hL (strB T) rfl w)
                      have hj5 : j ≤ 1000000 := Nat.le_trans hj (Nat.le_trans hcs5 (by decide))
                      clear hVe hd2 hdv hbd2 hbs2 hT hL hTl hlc hlv hat hq hpv hp2
                      go_wp2_with (first | (go_at_call 32; ((with_reducible refine (HVAL.out _).mono ?_); rintro e w2 ⟨rfl, rfl⟩)) | (go_at_call 22; ((with_reducible refine (HIS.out _).mono ?_); rintro e w2 ⟨rfl, hb2⟩; (try dsimp only); have HB29 := Lib.hid (Below.next HB9.out hb2); have HR29 := Lib.hid (ownsRow_below HR9.out hb2); have HNC : Hid (∀ W, W = w2.alloc (.cells #[.string (strB T)] 9) → W.cell? ⟨w2.heap.size, 0, none⟩ = some (.string (strB T))) := Lib.hid (fun W hW => by subst hW; exact cell_of (heap_alloc_new w2 _) 0 rfl); clear hb2)) | (at_builtin; refine wpList_app_str rfl _ _ rfl wB.heap.size u13 j _ rfl (HR29.out.alloc _) w2.heap.size 1 (.string (strB T)) rfl (HNC.out _ rfl) rfl hj5 (alloc_le HB29.out.size _) ?_; intro v' w4 hown hgrow) | fail)
                      have hb4 := (HB29.out.alloc HB29.out.size (.cells #[.string (strB T)] 9)).grown hgrow (alloc_le HB29.out.size _) (fun g hg => (HR29.out.lt g hg).1)
                      go_roundw
                      case rel => exact ⟨q + V, j + 1, ts ++ [T], by first | rfl | go_num, by first | rfl | go_num, hjs, by simp [hts], HPVq4.out, HPVq.out, by simpa [strV] using hown, hb4, by rw [updLX_snoc _ _ _ _ _ (by rw [hts]; exact hc1)]; exact HZs.out⟩
                      case measure => simp [intOf]; exact Nat.sub_lt_sub_left hjs (Nat.lt_succ_self _)
                · have hdv : ((x :: r).drop p).length < 2 + V := id1 hpv
                  have hpvi : (r.length : Int) + 1 < q + V := by rw [← hpq]; exact ia hpv
                  have hwqv : wrap64 ((q : Int) + V) = q + V := jf hq hp2 hlen HV65.out
                  have HZs : Hid (readS (x :: r) = (4, 0, N0, X0)) := Lib.hid (by
                    rw [HZr.out, rdTxt_cut hd2 hVe hdv]
                    exact readR_err (by decide))
                  have HQ := Lib.hid hq
                  clear hVe hd2 hdv hlc hq hpv hp2
                  obtain ⟨c0, c1, c2, c3, c4, c5, c6, c7, c8, c9, c10, c11, c12⟩ := cells13 HXr.out; obtain ⟨d0, d1, d2, d3, d4, d5, d6, d7, d8, d9, d10, d11, d12⟩ := cells13 HYr.out; have fz := fun i => free_of HXr.out i
                  go_wp2_with (first | (go_at_call 32; ((with_reducible refine (HVAL.out _).mono ?_); rintro e w2 ⟨rfl, rfl⟩)) | fail)
                  rw [HZs.out]
                  exact bodyPost_ret (res_cell13t (t := 2) (u := 3) rfl _ _ _ _ _ _ _ _ _ _ _ _ _ _ _ _ (set13_block HXr.out _ _ _ _ _ _ _ _ _ _ _ _ _) _ rfl rfl) rfl ⟨rfl, set13_below HBr.out (Nat.le_refl _) _ _ _ _ _ _ _ _ _ _ _ _ _⟩
              · have hp2i : (r.length : Int) + 1 < p + 2 := by omega
                have HZs : Hid (readS (x :: r) = (4, 0, N0, X0)) := Lib.hid (by
                  rw [HZr.out, rdTxt_short (by simp; omega)]
                  exact readR_err (by decide))
                obtain ⟨c0, c1, c2, c3, c4, c5, c6, c7, c8, c9, c10, c11, c12⟩ := cells13 HXr.out; obtain ⟨d0, d1, d2, d3, d4, d5, d6, d7, d8, d9, d10, d11, d12⟩ := cells13 HYr.out; have fz := fun i => free_of HXr.out i
                go_wp2_with fail
                rw [HZs.out]
                exact bodyPost_ret (res_cell13t (t := 2) (u := 3) rfl _ _ _ _ _ _ _ _ _ _ _ _ _ _ _ _ (set13_block HXr.out _ _ _ _ _ _ _ _ _ _ _ _ _) _ rfl rfl) rfl ⟨rfl, set13_below HBr.out (Nat.le_refl _) _ _ _ _ _ _ _ _ _ _ _ _ _⟩
            · obtain rfl : j = (csOf kn).length := by omega
              have HZf : Hid (readS (x :: r) = readR x (0, (x :: r).drop p, N1, updLX X0 (csOf kn) ts)) := Lib.hid (by rw [HZ.out, List.drop_length]; rfl)
              by_cases hpn : p = r.length + 1
              · subst hpn
                have HZs : Hid (readS (x :: r) = (0, ((x.toNat : Nat) : Int), N1, updLX X0 (csOf kn) ts)) := Lib.hid (by
                  rw [HZf.out]
                  unfold readR
                  rw [if_neg (by simp), if_neg (by simp)])
                have HB7r : Hid (W7.heap.size ≤ wr.heap.size) := Lib.hid (Nat.le_trans HBW.out.size HB9.out.size)
                have HR07 : Hid (w.heap.size < W7.heap.size) := Lib.hid (by rw [hsz7]; omega)
                obtain ⟨gl, ql, hlv, hgl, hglq, hglm⟩ := own_at HR9.out (cs_pos kn)
                subst hlv
                have HE : Hid (∀ i t, ts[i]? = some t → wr.cell? ⟨gl, i, none⟩ = some (.string (strB t))) := Lib.hid (fun i t h => by
                  rw [HR9.out.cellAt i (by have := (List.getElem?_eq_some_iff.1 h).1; rw [hts] at this; rw [Nat.mul_one]; exact this), List.getElem?_map, h]; rfl)
                have HNE : Hid (some gl ≠ u10.ownBlock) := Lib.hid (fun h => by have := (HRW.out.lt gl h.symm).2; omega)
                have HGT : Hid (gl < wr.heap.size) := Lib.hid (World.block_lt_of_cell? (a := ⟨gl, 0, none⟩) _ (HE.out 0 _ (List.getElem?_eq_getElem (by rw [hts]; exact cs_pos kn))))
                have HRWr := Lib.hid (ownsRow_below HRW.out HB9.out)
                have HNC0 : Hid (∀ W, W = wr.alloc (.cells #[.int .u64 0] 23) → W.cell? ⟨wr.heap.size, 0, none⟩ = some (.int .u64 0)) := Lib.hid (fun W hW => by subst hW; exact cell_of (heap_alloc_new wr _) 0 rfl)
                have HNSl := HNS.out
                have HTSl := hts
                have hkn4 : kn = 1 ∨ kn = 2 ∨ kn = 3 ∨ kn = 4 := by omega
                clear h1 h4 h1i h4i hcs5 hj hts hp4 hpl hjs
                rcases hkn4 with rfl | rfl | rfl | rfl
                · obtain ⟨n0, rfl⟩ : ∃ n0, ns = [n0] := list_1 HNSl
                  obtain ⟨s0, s1, s2, s3, s4, rfl⟩ : ∃ s0 s1 s2 s3 s4, ts = [s0, s1, s2, s3, s4] := list_5 HTSl
                  have HMV : Hid (msgV ((x.toNat : Nat) : Int) N1 (updLX X0 (csOf 1) [s0, s1, s2, s3, s4]) = .agg #[.int .i64 1, .int .u32 (n0 : Nat), .int .u32 0, .int .u64 0, .string (strB s0), .string (strB s1), .string (strB s2), .string ⟨#[]⟩, .string ⟨#[]⟩, .string ⟨#[]⟩, .string ⟨#[]⟩, .string (strB s3), .string (strB s4)]) := Lib.hid (by rw [hkn, ← HN1.out]; rfl)
                  have HRWr : Hid (wr.ownsRow W7.heap.size 23 1 u10 1 [.int .u64 (n0 : Nat)]) := Lib.hid HRWr.out
                  have x0 := HE.out 0 s0 rfl
                  have x1 := HE.out 1 s1 rfl
                  have x2 := HE.out 2 s2 rfl
                  have x3 := HE.out 3 s3 rfl
                  have x4 := HE.out 4 s4 rfl
                  have HWITH : Hid (∀ cq W, W.cell? ⟨gl, 0, none⟩ = some (.string (strB s0)) → W.cell? ⟨gl, 1, none⟩ = some (.string (strB s1)) → W.cell? ⟨gl, 2, none⟩ = some (.string (strB s2)) → W.cell? ⟨gl, 3, none⟩ = some (.string (strB s3)) → W.cell? ⟨gl, 4, none⟩ = some (.string (strB s4)) → Calls Try.prog 23 #[.int .i64 1, .int .u32 (n0 : Nat), .int .u32 0, .int .u64 0, .slice (some ⟨gl, 0, none⟩) (csOf 1).length cq] W fun e w' => e = .returned (.agg #[.int .i64 1, .int .u32 (n0 : Nat), .int .u32 0, .int .u64 0, .string (strB s0), .string (strB s1), .string (strB s2), .string ⟨#[]⟩, .string ⟨#[]⟩, .string ⟨#[]⟩, .string ⟨#[]⟩, .string (strB s3), .string (strB s4)]) ∧ Below W.heap.size W w') := Lib.hid (fun cq W z0 z1 z2 z3 z4 => rwith_1 n0 0 0 (strB s0) (strB s1) (strB s2) (strB s3) (strB s4) gl 0 cq W z0 z1 z2 z3 z4)
                  have hw0 : IntKind.u32.wrap (n0 : Int) = n0 := by have := HBD.out 0 4 n0 rfl rfl; rw [IntKind.wrap_u32]; omega
                  clear hkn hsz7 HNSl HTSl HN1
                  go_wp2_with (first | (at_builtin; refine wpList_app_u64 rfl _ _ rfl W7.heap.size u10 1 _ rfl (HRWr.out.alloc _) wr.heap.size 1 (.int .u64 0) rfl (HNC0.out _ rfl) rfl (by decide) (alloc_le HB7r.out _) ?_; intro v5 w5 hown5 hgrow5; obtain ⟨g5, q5, rfl, _, _, _⟩ := own_at hown5 (by decide); have y0 : w5.cell? ⟨g5, 0, none⟩ = some (.int .u64 (n0 : Nat)) := (hown5.cellAt 0 (by decide)).trans rfl; have e0 := (hgrow5.cell_far ⟨gl, 0, none⟩ (by have := HGT.out; simp; omega) HNE.out).trans (old1 _ x0); have e1 := (hgrow5.cell_far ⟨gl, 1, none⟩ (by have := HGT.out; simp; omega) HNE.out).trans (old1 _ x1); have e2 := (hgrow5.cell_far ⟨gl, 2, none⟩ (by have := HGT.out; simp; omega) HNE.out).trans (old1 _ x2); have e3 := (hgrow5.cell_far ⟨gl, 3, none⟩ (by have := HGT.out; simp; omega) HNE.out).trans (old1 _ x3); have e4 := (hgrow5.cell_far ⟨gl, 4, none⟩ (by have := HGT.out; simp; omega) HNE.out).trans (old1 _ x4); have HB5 : Hid (Below W7.heap.size wr w5) := Lib.hid (((Below.refl _ _).alloc HB7r.out _).grown hgrow5 (alloc_le HB7r.out _) (fun g hg => (HRWr.out.lt g hg).1)); have HX5 := Lib.hid ((HB5.out.block _ HR07.out).trans HXr.out); have HBw5 := Lib.hid (HBr.out.trans (HB5.out.mono (Nat.le_of_lt HR07.out))); clear hown5 hgrow5) | (go_at_call 23; ((with_reducible refine (HWITH.out _ w5 e0 e1 e2 e3 e4).mono ?_); rintro e w6 ⟨rfl, hb6⟩; (try dsimp only); have hx6 := (hb6.block w.heap.size (Array.getElem?_eq_some_iff.1 HX5.out).1).trans HX5.out; have HX6 := Lib.hid hx6; have HB6 : Hid (Below w.heap.size w w6) := Lib.hid (Below.next HBw5.out hb6); obtain ⟨c0, c1, c2, c3, c4, c5, c6, c7, c8, c9, c10, c11, c12⟩ := cells13 hx6; have fz := fun i => free_of hx6 i; clear hx6 hb6)) | fail)
                  rw [HZs.out]
                  refine bodyPost_ret (res_cell13t (t := 2) (u := 3) rfl _ _ _ _ _ _ _ _ _ _ _ _ _ _ _ _ (set13_block HX6.out _ _ _ _ _ _ _ _ _ _ _ _ _) _ rfl rfl) rfl ⟨?_, set13_below HB6.out (Nat.le_refl _) _ _ _ _ _ _ _ _ _ _ _ _ _⟩
                  dsimp only
                  rw [HMV.out]
                  rfl
                · obtain ⟨n0, n1, rfl⟩ : ∃ n0 n1, ns = [n0, n1] := list_2 HNSl
                  obtain ⟨s0, s1, s2, s3, rfl⟩ : ∃ s0 s1 s2 s3, ts = [s0, s1, s2, s3] := list_4 HTSl
                  have HMV : Hid (msgV ((x.toNat : Nat) : Int) N1 (updLX X0 (csOf 2) [s0, s1, s2, s3]) = .agg #[.int .i64 2, .int .u32 (n0 : Nat), .int .u32 (n1 : Nat), .int .u64 0, .string (strB s0), .string ⟨#[]⟩, .string ⟨#[]⟩, .string (strB s1), .string ⟨#[]⟩, .string ⟨#[]⟩, .string ⟨#[]⟩, .string (strB s2), .string (strB s3)]) := Lib.hid (by rw [hkn, ← HN1.out]; rfl)
                  have HRWr : Hid (wr.ownsRow W7.heap.size 23 1 u10 2 [.int .u64 (n0 : Nat), .int .u64 (n1 : Nat)]) := Lib.hid HRWr.out
                  have x0 := HE.out 0 s0 rfl
                  have x1 := HE.out 1 s1 rfl
                  have x2 := HE.out 2 s2 rfl
                  have x3 := HE.out 3 s3 rfl
                  have HWITH : Hid (∀ cq W, W.cell? ⟨gl, 0, none⟩ = some (.string (strB s0)) → W.cell? ⟨gl, 1, none⟩ = some (.string (strB s1)) → W.cell? ⟨gl, 2, none⟩ = some (.string (strB s2)) → W.cell? ⟨gl, 3, none⟩ = some (.string (strB s3)) → Calls Try.prog 23 #[.int .i64 2, .int .u32 (n0 : Nat), .int .u32 (n1 : Nat), .int .u64 0, .slice (some ⟨gl, 0, none⟩) (csOf 2).length cq] W fun e w' => e = .returned (.agg #[.int .i64 2, .int .u32 (n0 : Nat), .int .u32 (n1 : Nat), .int .u64 0, .string (strB s0), .string ⟨#[]⟩, .string ⟨#[]⟩, .string (strB s1), .string ⟨#[]⟩, .string ⟨#[]⟩, .string ⟨#[]⟩, .string (strB s2), .string (strB s3)]) ∧ Below W.heap.size W w') := Lib.hid (fun cq W z0 z1 z2 z3 => rwith_2 n0 n1 0 (strB s0) (strB s1) (strB s2) (strB s3) gl 0 cq W z0 z1 z2 z3)
                  have hw0 : IntKind.u32.wrap (n0 : Int) = n0 := by have := HBD.out 0 4 n0 rfl rfl; rw [IntKind.wrap_u32]; omega
                  have hw1 : IntKind.u32.wrap (n1 : Int) = n1 := by have := HBD.out 1 4 n1 rfl rfl; rw [IntKind.wrap_u32]; omega
                  clear hkn hsz7 HNSl HTSl HN1
                  go_wp2_with (first | (at_builtin; refine wpList_app_u64 rfl _ _ rfl W7.heap.size u10 2 _ rfl (HRWr.out.alloc _) wr.heap.size 1 (.int .u64 0) rfl (HNC0.out _ rfl) rfl (by decide) (alloc_le HB7r.out _) ?_; intro v5 w5 hown5 hgrow5; obtain ⟨g5, q5, rfl, _, _, _⟩ := own_at hown5 (by decide); have y0 : w5.cell? ⟨g5, 0, none⟩ = some (.int .u64 (n0 : Nat)) := (hown5.cellAt 0 (by decide)).trans rfl; have y1 : w5.cell? ⟨g5, 1, none⟩ = some (.int .u64 (n1 : Nat)) := (hown5.cellAt 1 (by decide)).trans rfl; have e0 := (hgrow5.cell_far ⟨gl, 0, none⟩ (by have := HGT.out; simp; omega) HNE.out).trans (old1 _ x0); have e1 := (hgrow5.cell_far ⟨gl, 1, none⟩ (by have := HGT.out; simp; omega) HNE.out).trans (old1 _ x1); have e2 := (hgrow5.cell_far ⟨gl, 2, none⟩ (by have := HGT.out; simp; omega) HNE.out).trans (old1 _ x2); have e3 := (hgrow5.cell_far ⟨gl, 3, none⟩ (by have := HGT.out; simp; omega) HNE.out).trans (old1 _ x3); have HB5 : Hid (Below W7.heap.size wr w5) := Lib.hid (((Below.refl _ _).alloc HB7r.out _).grown hgrow5 (alloc_le HB7r.out _) (fun g hg => (HRWr.out.lt g hg).1)); have HX5 := Lib.hid ((HB5.out.block _ HR07.out).trans HXr.out); have HBw5 := Lib.hid (HBr.out.trans (HB5.out.mono (Nat.le_of_lt HR07.out))); have f0 : w5.drew.cell? ⟨gl, 0, none⟩ = some (.string (strB s0)) := e0; have f1 : w5.drew.cell? ⟨gl, 1, none⟩ = some (.string (strB s1)) := e1; have f2 : w5.drew.cell? ⟨gl, 2, none⟩ = some (.string (strB s2)) := e2; have f3 : w5.drew.cell? ⟨gl, 3, none⟩ = some (.string (strB s3)) := e3; clear hown5 hgrow5) | fail)
                  go_still_tail 9, (by kernel_rfl)
                  change wpList _ _ _ _ _ w5.drew
                  go_wp2_with (first | (go_at_call 23; ((with_reducible refine (HWITH.out _ w5.drew f0 f1 f2 f3).mono ?_); rintro e w6 ⟨rfl, hb6⟩; (try dsimp only); have hx6 := (hb6.block w.heap.size (Array.getElem?_eq_some_iff.1 HX5.out).1).trans HX5.out; have HX6 := Lib.hid hx6; have HB6 : Hid (Below w.heap.size w w6) := Lib.hid (Below.next HBw5.out ((Below.refl _ _).drew.trans hb6)); obtain ⟨c0, c1, c2, c3, c4, c5, c6, c7, c8, c9, c10, c11, c12⟩ := cells13 hx6; have fz := fun i => free_of hx6 i; clear hx6 hb6)) | fail)
                  rw [HZs.out]
                  refine bodyPost_ret (res_cell13t (t := 2) (u := 3) rfl _ _ _ _ _ _ _ _ _ _ _ _ _ _ _ _ (set13_block HX6.out _ _ _ _ _ _ _ _ _ _ _ _ _) _ rfl rfl) rfl ⟨?_, set13_below HB6.out (Nat.le_refl _) _ _ _ _ _ _ _ _ _ _ _ _ _⟩
                  dsimp only
                  rw [HMV.out]
                  rfl
                · obtain ⟨n0, rfl⟩ : ∃ n0, ns = [n0] := list_1 HNSl
                  obtain ⟨s0, s1, rfl⟩ : ∃ s0 s1, ts = [s0, s1] := list_2 HTSl
                  have HMV : Hid (msgV ((x.toNat : Nat) : Int) N1 (updLX X0 (csOf 3) [s0, s1]) = .agg #[.int .i64 3, .int .u32 0, .int .u32 (n0 : Nat), .int .u64 0, .string ⟨#[]⟩, .string ⟨#[]⟩, .string ⟨#[]⟩, .string ⟨#[]⟩, .string (strB s0), .string (strB s1), .string ⟨#[]⟩, .string ⟨#[]⟩, .string ⟨#[]⟩]) := Lib.hid (by rw [hkn, ← HN1.out]; rfl)
                  have HRWr : Hid (wr.ownsRow W7.heap.size 23 1 u10 1 [.int .u64 (n0 : Nat)]) := Lib.hid HRWr.out
                  have x0 := HE.out 0 s0 rfl
                  have x1 := HE.out 1 s1 rfl
                  have HWITH : Hid (∀ cq W, W.cell? ⟨gl, 0, none⟩ = some (.string (strB s0)) → W.cell? ⟨gl, 1, none⟩ = some (.string (strB s1)) → Calls Try.prog 23 #[.int .i64 3, .int .u32 0, .int .u32 (n0 : Nat), .int .u64 0, .slice (some ⟨gl, 0, none⟩) (csOf 3).length cq] W fun e w' => e = .returned (.agg #[.int .i64 3, .int .u32 0, .int .u32 (n0 : Nat), .int .u64 0, .string ⟨#[]⟩, .string ⟨#[]⟩, .string ⟨#[]⟩, .string ⟨#[]⟩, .string (strB s0), .string (strB s1), .string ⟨#[]⟩, .string ⟨#[]⟩, .string ⟨#[]⟩]) ∧ Below W.heap.size W w') := Lib.hid (fun cq W z0 z1 => rwith_3 0 n0 0 (strB s0) (strB s1) gl 0 cq W z0 z1)
                  have hw0 : IntKind.u32.wrap (n0 : Int) = n0 := by have := HBD.out 0 4 n0 rfl rfl; rw [IntKind.wrap_u32]; omega
                  clear hkn hsz7 HNSl HTSl HN1
                  go_wp2_with (first | (at_builtin; refine wpList_app_u64 rfl _ _ rfl W7.heap.size u10 1 _ rfl (HRWr.out.alloc _) wr.heap.size 1 (.int .u64 0) rfl (HNC0.out _ rfl) rfl (by decide) (alloc_le HB7r.out _) ?_; intro v5 w5 hown5 hgrow5; obtain ⟨g5, q5, rfl, _, _, _⟩ := own_at hown5 (by decide); have y0 : w5.cell? ⟨g5, 0, none⟩ = some (.int .u64 (n0 : Nat)) := (hown5.cellAt 0 (by decide)).trans rfl; have e0 := (hgrow5.cell_far ⟨gl, 0, none⟩ (by have := HGT.out; simp; omega) HNE.out).trans (old1 _ x0); have e1 := (hgrow5.cell_far ⟨gl, 1, none⟩ (by have := HGT.out; simp; omega) HNE.out).trans (old1 _ x1); have HB5 : Hid (Below W7.heap.size wr w5) := Lib.hid (((Below.refl _ _).alloc HB7r.out _).grown hgrow5 (alloc_le HB7r.out _) (fun g hg => (HRWr.out.lt g hg).1)); have HX5 := Lib.hid ((HB5.out.block _ HR07.out).trans HXr.out); have HBw5 := Lib.hid (HBr.out.trans (HB5.out.mono (Nat.le_of_lt HR07.out))); clear hown5 hgrow5) | (go_at_call 23; ((with_reducible refine (HWITH.out _ w5 e0 e1).mono ?_); rintro e w6 ⟨rfl, hb6⟩; (try dsimp only); have hx6 := (hb6.block w.heap.size (Array.getElem?_eq_some_iff.1 HX5.out).1).trans HX5.out; have HX6 := Lib.hid hx6; have HB6 : Hid (Below w.heap.size w w6) := Lib.hid (Below.next HBw5.out hb6); obtain ⟨c0, c1, c2, c3, c4, c5, c6, c7, c8, c9, c10, c11, c12⟩ := cells13 hx6; have fz := fun i => free_of hx6 i; clear hx6 hb6)) | fail)
                  rw [HZs.out]
                  refine bodyPost_ret (res_cell13t (t := 2) (u := 3) rfl _ _ _ _ _ _ _ _ _ _ _ _ _ _ _ _ (set13_block HX6.out _ _ _ _ _ _ _ _ _ _ _ _ _) _ rfl rfl) rfl ⟨?_, set13_below HB6.out (Nat.le_refl _) _ _ _ _ _ _ _ _ _ _ _ _ _⟩
                  dsimp only
                  rw [HMV.out]
                  rfl
                · obtain ⟨n0, n1, rfl⟩ : ∃ n0 n1, ns = [n0, n1] := list_2 HNSl
                  obtain ⟨s0, rfl⟩ : ∃ s0, ts = [s0] := list_1 HTSl
                  have HMV : Hid (msgV ((x.toNat : Nat) : Int) N1 (updLX X0 (csOf 4) [s0]) = .agg #[.int .i64 4, .int .u32 0, .int .u32 (n0 : Nat), .int .u64 (n1 : Nat), .string ⟨#[]⟩, .string ⟨#[]⟩, .string ⟨#[]⟩, .string ⟨#[]⟩, .string ⟨#[]⟩, .string ⟨#[]⟩, .string (strB s0), .string ⟨#[]⟩, .string ⟨#[]⟩]) := Lib.hid (by rw [hkn, ← HN1.out]; rfl)
                  have HRWr : Hid (wr.ownsRow W7.heap.size 23 1 u10 2 [.int .u64 (n0 : Nat), .int .u64 (n1 : Nat)]) := Lib.hid HRWr.out
                  have x0 := HE.out 0 s0 rfl
                  have HWITH : Hid (∀ cq W, W.cell? ⟨gl, 0, none⟩ = some (.string (strB s0)) → Calls Try.prog 23 #[.int .i64 4, .int .u32 0, .int .u32 (n0 : Nat), .int .u64 (n1 : Nat), .slice (some ⟨gl, 0, none⟩) (csOf 4).length cq] W fun e w' => e = .returned (.agg #[.int .i64 4, .int .u32 0, .int .u32 (n0 : Nat), .int .u64 (n1 : Nat), .string ⟨#[]⟩, .string ⟨#[]⟩, .string ⟨#[]⟩, .string ⟨#[]⟩, .string ⟨#[]⟩, .string ⟨#[]⟩, .string (strB s0), .string ⟨#[]⟩, .string ⟨#[]⟩]) ∧ Below W.heap.size W w') := Lib.hid (fun cq W z0 => rwith_4 0 n0 n1 (strB s0) gl 0 cq W z0)
                  have hw0 : IntKind.u32.wrap (n0 : Int) = n0 := by have := HBD.out 0 4 n0 rfl rfl; rw [IntKind.wrap_u32]; omega
                  clear hkn hsz7 HNSl HTSl HN1
                  go_wp2_with (first | (at_builtin; refine wpList_app_u64 rfl _ _ rfl W7.heap.size u10 2 _ rfl (HRWr.out.alloc _) wr.heap.size 1 (.int .u64 0) rfl (HNC0.out _ rfl) rfl (by decide) (alloc_le HB7r.out _) ?_; intro v5 w5 hown5 hgrow5; obtain ⟨g5, q5, rfl, _, _, _⟩ := own_at hown5 (by decide); have y0 : w5.cell? ⟨g5, 0, none⟩ = some (.int .u64 (n0 : Nat)) := (hown5.cellAt 0 (by decide)).trans rfl; have y1 : w5.cell? ⟨g5, 1, none⟩ = some (.int .u64 (n1 : Nat)) := (hown5.cellAt 1 (by decide)).trans rfl; have e0 := (hgrow5.cell_far ⟨gl, 0, none⟩ (by have := HGT.out; simp; omega) HNE.out).trans (old1 _ x0); have HB5 : Hid (Below W7.heap.size wr w5) := Lib.hid (((Below.refl _ _).alloc HB7r.out _).grown hgrow5 (alloc_le HB7r.out _) (fun g hg => (HRWr.out.lt g hg).1)); have HX5 := Lib.hid ((HB5.out.block _ HR07.out).trans HXr.out); have HBw5 := Lib.hid (HBr.out.trans (HB5.out.mono (Nat.le_of_lt HR07.out))); have f0 : w5.drew.cell? ⟨gl, 0, none⟩ = some (.string (strB s0)) := e0; clear hown5 hgrow5) | fail)
                  go_still_tail 8, (by kernel_rfl)
                  change wpList _ _ _ _ _ w5.drew
                  go_wp2_with (first | (go_at_call 23; ((with_reducible refine (HWITH.out _ w5.drew f0).mono ?_); rintro e w6 ⟨rfl, hb6⟩; (try dsimp only); have hx6 := (hb6.block w.heap.size (Array.getElem?_eq_some_iff.1 HX5.out).1).trans HX5.out; have HX6 := Lib.hid hx6; have HB6 : Hid (Below w.heap.size w w6) := Lib.hid (Below.next HBw5.out ((Below.refl _ _).drew.trans hb6)); obtain ⟨c0, c1, c2, c3, c4, c5, c6, c7, c8, c9, c10, c11, c12⟩ := cells13 hx6; have fz := fun i => free_of hx6 i; clear hx6 hb6)) | fail)
                  rw [HZs.out]
                  refine bodyPost_ret (res_cell13t (t := 2) (u := 3) rfl _ _ _ _ _ _ _ _ _ _ _ _ _ _ _ _ (set13_block HX6.out _ _ _ _ _ _ _ _ _ _ _ _ _) _ rfl rfl) rfl ⟨?_, set13_below HB6.out (Nat.le_refl _) _ _ _ _ _ _ _ _ _ _ _ _ _⟩
                  dsimp only
                  rw [HMV.out]
                  rfl
              · have hpne : ((p : Int) != (r.length : Int) + 1) = true := bnet (by omega)
                have HZs : Hid (readS (x :: r) = (5, 0, N0, X0)) := Lib.hid (by
                  rw [HZf.out]
                  unfold readR
                  rw [if_neg (by simp), if_pos (by rw [List.length_drop, List.length_cons]; omega)])
                obtain ⟨c0, c1, c2, c3, c4, c5, c6, c7, c8, c9, c10, c11, c12⟩ := cells13 HXr.out; obtain ⟨d0, d1, d2, d3, d4, d5, d6, d7, d8, d9, d10, d11, d12⟩ := cells13 HYr.out; have fz := fun i => free_of HXr.out i
                go_wp2_with fail
                rw [HZs.out]
                exact bodyPost_ret (res_cell13t (t := 2) (u := 3) rfl _ _ _ _ _ _ _ _ _ _ _ _ _ _ _ _ (set13_block HXr.out _ _ _ _ _ _ _ _ _ _ _ _ _) _ rfl rfl) rfl ⟨rfl, set13_below HBr.out (Nat.le_refl _) _ _ _ _ _ _ _ _ _ _ _ _ _⟩
    · have HZ3 : Hid (zr 3 r = zr (2 - j + 1) (r.drop j)) := Lib.hid (by rw [hz]; congr 1; omega)
      clear hz
      have hj4 : ((j + 1 : Nat) : Int) < 4 := by omega
      by_cases hlt : j < r.length
      · have hcm := HC.out (j + 1) (by simp; omega)
        have hgd : (x :: r).getD (j + 1) 0 = r.getD j 0 := by simp [List.getD]
        rw [hgd] at hcm
        have hd : r.drop j = r.getD j 0 :: r.drop (j + 1) := by
          rw [List.drop_eq_getElem_cons hlt]; simp [List.getD, List.getElem?_eq_getElem hlt]
        have hji : ((j + 1 : Nat) : Int) < (r.length : Int) + 1 := by omega
        have hji0 : (0 : Int) ≤ ((j + 1 : Nat) : Int) := by omega
        by_cases hx0 : r.getD j 0 = 0
        · have HZ4 : Hid (zr 3 r = zr (3 - (j + 1)) (r.drop (j + 1))) := Lib.hid (by rw [HZ3.out, hd]; show (if _ then _ else _) = _; rw [if_pos hx0]; congr 1; omega)
          rw [hx0] at hcm
          clear hd
          go_wp2_with fail
          go_round
          case rel => exact ⟨j + 1, by first | rfl | go_num, by omega, hlt, HZ4.out⟩
          case measure => simp [intOf]; omega
        · have HZ4 : Hid (readS (x :: r) = (3, 0, N0, X0)) := Lib.hid (by
            have h3 : zr 3 r = (3, []) := by rw [HZ3.out, hd]; show (if _ then _ else _) = _; rw [if_neg hx0]
            rw [HZ.out, h3]
            exact readR_err (by decide))
          have hxn : ¬ (((r.getD j 0).toNat : Int) = 0) := fun h => hx0 (u8_zero (by omega))
          generalize r.getD j 0 = y at *
          obtain ⟨c0, c1, c2, c3, c4, c5, c6, c7, c8, c9, c10, c11, c12⟩ := cells13 HXr.out; obtain ⟨d0, d1, d2, d3, d4, d5, d6, d7, d8, d9, d10, d11, d12⟩ := cells13 HYr.out; have fz := fun i => free_of HXr.out i
          clear hd hx0
          go_wp2_with fail
          rw [HZ4.out]
          exact bodyPost_ret (res_cell13t (t := 2) (u := 3) rfl _ _ _ _ _ _ _ _ _ _ _ _ _ _ _ _ HX.out _ rfl rfl) rfl ⟨rfl, HB.out⟩
      · obtain rfl : j = r.length := by omega
        have HZ4 : Hid (readS (x :: r) = (4, 0, N0, X0)) := Lib.hid (by
          have h3 : zr 3 r = (4, []) := by rw [HZ3.out, List.drop_length]; rfl
          rw [HZ.out, h3]
          exact readR_err (by decide))
        obtain ⟨c0, c1, c2, c3, c4, c5, c6, c7, c8, c9, c10, c11, c12⟩ := cells13 HXr.out; obtain ⟨d0, d1, d2, d3, d4, d5, d6, d7, d8, d9, d10, d11, d12⟩ := cells13 HYr.out; have fz := fun i => free_of HXr.out i
        go_wp2_with fail
        rw [HZ4.out]
        exact bodyPost_ret (res_cell13t (t := 2) (u := 3) rfl _ _ _ _ _ _ _ _ _ _ _ _ _ _ _ _ HX.out _ rfl rfl) rfl ⟨rfl, HB.out⟩
end Go.Proofs.Ytjbmcjppaadkgaa

namespace Go.Proofs.Ytjbmcjppaadkgaa
set_option linter.unusedVariables false
set_option linter.unusedSimpArgs false
set_option maxRecDepth 100000
open Go.RowKit
theorem rread6_any (v : Value) (l : List UInt8) (w : World) (hv : (l = [] ∧ ∃ a cp, v = .slice a 0 cp) ∨ ∃ b, PartB w b v l) (hl : l.length ≤ 100000) : Calls Try.prog 18 #[v] w (ReadRet6 w (readS l)) := by
  cases l with
  | nil =>
    rcases hv with ⟨_, a, cp, rfl⟩ | ⟨b, off, cp, rfl, _⟩
    · exact rread_nil a cp w
    · exact rread_nil _ cp w
  | cons x r =>
    rcases hv with ⟨h, _⟩ | ⟨b, off, cp, rfl, hc1, hc2, hcell⟩
    · cases h
    · rw [List.length_cons] at hl hc1 ⊢
      by_cases hk : fsOf x.toNat = []
      · exact rread_kind x r b off cp w hk (hcell 0 (by simp))
      · have hkk : ¬ (x.toNat ≠ 1 ∧ x.toNat ≠ 2 ∧ x.toNat ≠ 3 ∧ x.toNat ≠ 4) := fun h => hk (by unfold fsOf; rw [if_neg h.1, if_neg h.2.1, if_neg h.2.2.1, if_neg h.2.2.2])
        exact rread_x x r b off cp w x.toNat rfl (by omega) (by omega) hc1 hc2 (by omega) hcell
theorem look_0x : lookR [48] = (1, 0, []) := (look_p (by decide)).2 ⟨by decide, rfl⟩
theorem isL_0 : isL [48] = true := by unfold isL; rw [look_0x]; rfl
def exN : Nat → Nat := fun i => if i = 2 then 7 else if i = 3 then 1 else 0
def exX : Nat → ByteArray := fun i => if i = 10 then ⟨#[48]⟩ else ⟨#[]⟩
def exB : List UInt8 := [4, 0, 0, 0, 7, 0, 0, 0, 1, 0, 0, 0, 0, 0, 0, 0, 1, 0, 48]
theorem ex_pall : pAll exN exX (fsOf 4) [UInt8.ofNat 4] = (0, exB) := by decide +kernel
theorem ex_txt : rdTxt 10 [1, 0, 48] (upd (upd N0 2 7) 3 1) X0 = (0, [], upd (upd N0 2 7) 3 1, upd X0 10 (strB [48])) := by
  exact rdTxt_yes (V := 1) (by decide) (by decide) (by decide) isL_0
theorem ex_read : readS exB = (0, 4, upd (upd N0 2 7) 3 1, upd X0 10 (strB [48])) := by
  have h : rAll (fsOf 4) [0, 0, 0, 7, 0, 0, 0, 1, 0, 0, 0, 0, 0, 0, 0, 1, 0, 48] N0 X0 = rCont [] (rdTxt 10 [1, 0, 48] (upd (upd N0 2 7) 3 1) X0) := by rfl
  show readR 4 (rAll (fsOf 4) [0, 0, 0, 7, 0, 0, 0, 1, 0, 0, 0, 0, 0, 0, 0, 1, 0, 48] N0 X0) = _
  rw [h, ex_txt]
  rfl
theorem ex_print : printS 4 exN exX = (0, exB) := by
  have h : printS 4 exN exX = printP 4 exN exX (pAll exN exX (fsOf 4) [UInt8.ofNat 4]) := rfl
  rw [h, ex_pall]
  have h2 : printP 4 exN exX (0, exB) = printR 4 exN exX exB (readS exB) := rfl
  rw [h2, ex_read]
  exact if_neg (fun h => h.elim (fun h => h rfl) (fun h => h (by decide)))
theorem exN_ok : NumOk exN := ⟨by decide, by decide, by decide⟩
theorem awake6_any (w : World) : Calls Try.prog 5 #[] w fun e w' => e = .returned (.bool true) ∧ Below w.heap.size w w' := by
  have hp := wprint_any 4 exN exX w exN_ok
  unfold PrintRet6 at hp
  rw [ex_print] at hp
  have HP := Lib.hid (show Calls Try.prog 7 #[.agg #[.int .i64 4, .int .u32 0, .int .u32 7, .int .u64 1, .string ⟨#[]⟩, .string ⟨#[]⟩, .string ⟨#[]⟩, .string ⟨#[]⟩, .string ⟨#[]⟩, .string ⟨#[]⟩, .string ⟨#[48]⟩, .string ⟨#[]⟩, .string ⟨#[]⟩]] w _ from hp)
  go_enter Try.func5, Try.ntmps5
  go_wp2_with (first | (go_at_call 7; ((with_reducible refine (HP.out).mono ?_); rintro e w2 ⟨v, rfl, _, hr, hb⟩; (try dsimp only); obtain ⟨base, hrow⟩ := hr rfl; obtain ⟨a, cap, rfl, hcv⟩ := bytes_conv (bytes_own hrow))) | fail)
  go_ret
  exact ⟨ret_bool (by rfl), hb⟩
end Go.Proofs.Ytjbmcjppaadkgaa

namespace Go.Proofs.Ytjbmcjppaadkgaa
set_option linter.unusedVariables false
set_option linter.unusedSimpArgs false
set_option maxRecDepth 100000
open Go.RowKit
/-- the cells of the texts of a row of fields -/
def cellsX : List Fd → List Nat
  | [] => []
  | .t c :: fs => c :: cellsX fs
  | _ :: fs => cellsX fs
theorem cellsX_app : ∀ (a b : List Fd), cellsX (a ++ b) = cellsX a ++ cellsX b
  | [], _ => rfl
  | .t c :: a, b => congrArg (c :: ·) (cellsX_app a b)
  | .z :: a, b => cellsX_app a b
  | .n4 _ :: a, b => cellsX_app a b
  | .n8 _ :: a, b => cellsX_app a b
theorem cellsX_len : ∀ (fs : List Fd), (cellsX fs).length ≤ fs.length
  | [] => Nat.le_refl _
  | .t c :: a => Nat.succ_le_succ (cellsX_len a)
  | .z :: a => Nat.le_succ_of_le (cellsX_len a)
  | .n4 _ :: a => Nat.le_succ_of_le (cellsX_len a)
  | .n8 _ :: a => Nat.le_succ_of_le (cellsX_len a)
def valsX (X : Nat → ByteArray) (cs : List Nat) : List Value := cs.map fun c => Value.string (X c)
def RowX (w : World) (base : Nat) (v : Value) (L : List Value) : Prop := w.ownsRow base 9 1 v L.length L
theorem take_fd {fs : List Fd} {i : Nat} {f : Fd} (h : fs[i]? = some f) : fs.take (i + 1) = fs.take i ++ [f] := by
  rw [List.take_add_one, h]; rfl
set_option maxHeartbeats 1000000 in
theorem texts_any (g : Nat) (fs : List Fd) (vs : List Value) (B : Nat) (k : Int) (N : Nat → Nat) (X : Nat → ByteArray) (w : World) (hfs : FieldsAt w g vs) (hf : FdsIs w B fs vs) (hok : ∀ f ∈ fs, FdOk f) (hm : MsgAt w B k N X) (hn : fs.length ≤ 7) :
    Calls Try.prog 24 #[.slice (some ⟨g, 0, none⟩) fs.length fs.length] w fun e w' => ∃ v, e = .returned v ∧ RowX w' w.heap.size v (valsX X (cellsX fs)) ∧ Below w.heap.size w w' := by
  go_enter Try.func24, Try.ntmps24
  go_wp2_with fail
  refine wp_scope_goto 0 (fun n a' w' => ∃ (v' : Value) (i : Nat), ∃ (u1 u2 u5 u6 u7 u8 u9 u10 u11 u12 u13 u14 u15 u16 u17 u18 u19 u20 u21 u22 u23 u24 u25 u26 u27 : Value), a' = { tmps := #[.slice (some ⟨g, 0, none⟩) fs.length fs.length, u1, u2, v', .int .i64 (i : Nat), u5, u6, u7, u8, u9, u10, u11, u12, u13, u14, u15, u16, u17, u18, u19, u20, u21, u22, u23, u24, u25, u26, u27], defers := [] } ∧ i ≤ fs.length ∧ n = fs.length - i ∧ RowX w' w.heap.size v' (valsX X (cellsX (fs.take i))) ∧ Below w.heap.size w w') rfl ?_ ?_
  · intro R hpass hout
    go_wp2
    go_step3
    go_step
    go_step
    exact hpass _ _ _ ⟨_, 0, _, _, _, _, _, _, _, _, _, _, _, _, _, _, _, _, _, _, _, _, _, _, _, _, _, rfl, Nat.zero_le _, rfl, World.ownsRow_nil _ _ _ _, Below.refl _ _⟩
  · intro n a' wr hrel J hJ
    obtain ⟨v', i, u1, u2, u5, u6, u7, u8, u9, u10, u11, u12, u13, u14, u15, u16, u17, u18, u19, u20, u21, u22, u23, u24, u25, u26, u27, rfl, hi, hnn, hrow, hb⟩ := hrel
    subst hnn
    have HJ := Lib.hid hJ
    have HB := Lib.hid hb
    have HR := Lib.hid hrow
    have HLN : Hid ((valsX X (cellsX (fs.take i))).length ≤ 1000000) := Lib.hid (by
      have h1 := cellsX_len (fs.take i)
      simp only [valsX, List.length_map]
      rw [List.length_take] at h1
      omega)
    clear hJ hb hrow
    by_cases hlt : i < fs.length
    · obtain ⟨f, hfi⟩ : ∃ f, fs[i]? = some f := ⟨_, List.getElem?_eq_getElem hlt⟩
      obtain ⟨fv, hvi, hF⟩ := fds_get hf hfi
      obtain ⟨a, b, p, rfl, c0, c1, c2⟩ := hfs i fv hvi
      have q2 := (HB.out.cell (p := ⟨g, i * 3 + 2, none⟩) (World.block_lt_of_cell? w _ c2)).trans c2
      have htk := take_fd hfi
      have hii : (i : Int) < fs.length := by omega
      have hin : ¬ (i : Int) = fs.length := by omega
      have hfo := hok f (List.mem_of_getElem? hfi)
      have HRn : (∀ c, f ≠ .t c) → Hid (RowX wr w.heap.size v' (valsX X (cellsX (fs.take (i + 1))))) := fun h => Lib.hid (by
        rw [htk, cellsX_app]
        have : cellsX [f] = [] := by cases f with | t c => exact absurd rfl (h c) | z => rfl | n4 c => rfl | n8 c => rfl
        rw [this, List.append_nil]
        exact HR.out)
      cases f with
      | z =>
        have hp : p = .pointer none := by have := hF; simp only [FdIs, fdZ] at this; injection this with this; injection this with this; simp at this; exact this.2.2
        subst hp
        have HRn := HRn (fun c h => by cases h)
        clear hfi hvi hF c0 c1 c2 htk hfo
        go_wp2_with fail
        go_step3
        exact jump_back (HJ.out (fs.length - (i + 1)) _ _ (by omega) ⟨v', i + 1, _, _, _, _, _, _, _, _, _, _, _, _, _, _, _, _, _, _, _, _, _, _, _, _, _, rfl, hlt, rfl, HRn.out, HB.out⟩)
      | n4 c =>
        have hp : p = .pointer none := by
          obtain ⟨bp, bs, h, _⟩ := hF
          simp only [fd4] at h
          injection h with h
          injection h with h
          simp at h
          exact h.2.2
        subst hp
        have HRn := HRn (fun c h => by cases h)
        clear hfi hvi hF c0 c1 c2 htk hfo
        go_wp2_with fail
        go_step3
        exact jump_back (HJ.out (fs.length - (i + 1)) _ _ (by omega) ⟨v', i + 1, _, _, _, _, _, _, _, _, _, _, _, _, _, _, _, _, _, _, _, _, _, _, _, _, _, rfl, hlt, rfl, HRn.out, HB.out⟩)
      | n8 c =>
        have hp : p = .pointer none := by
          obtain ⟨bp, bs, h, _⟩ := hF
          simp only [fd8] at h
          injection h with h
          injection h with h
          simp at h
          exact h.2.2
        subst hp
        have HRn := HRn (fun c h => by cases h)
        clear hfi hvi hF c0 c1 c2 htk hfo
        go_wp2_with fail
        go_step3
        exact jump_back (HJ.out (fs.length - (i + 1)) _ _ (by omega) ⟨v', i + 1, _, _, _, _, _, _, _, _, _, _, _, _, _, _, _, _, _, _, _, _, _, _, _, _, _, rfl, hlt, rfl, HRn.out, HB.out⟩)
      | t c =>
        have hp : p = .pointer (some ⟨B, c, none⟩) := by
          obtain ⟨bt, h, _⟩ := hF
          simp only [fdT] at h
          injection h with h
          injection h with h
          simp at h
          exact h.2.2
        subst hp
        have m0 := msg_cx hm hfo.1 hfo.2
        have q3 := (HB.out.cell (p := ⟨B, c, none⟩) (World.block_lt_of_cell? w _ m0)).trans m0
        have HNC : Hid (∀ W, W = wr.alloc (.cells #[.string (X c)] 9) → W.cell? ⟨wr.heap.size, 0, none⟩ = some (.string (X c))) := Lib.hid (fun W hW => by subst hW; exact cell_of (heap_alloc_new wr _) 0 rfl)
        have HTK := Lib.hid htk
        clear hfi hvi hF c0 c1 c2 htk hfo m0 HRn
        go_wp2_with (first | (at_builtin; refine wpList_app_str rfl _ _ rfl w.heap.size v' (valsX X (cellsX (fs.take i))).length _ rfl (HR.out.alloc _) wr.heap.size 1 (.string (X c)) rfl (HNC.out _ rfl) rfl HLN.out (alloc_le HB.out.size _) ?_; intro v2 w2 hown2 hgrow2) | fail)
        go_step3
        refine jump_back (HJ.out (fs.length - (i + 1)) _ _ (by omega) ⟨v2, i + 1, _, _, _, _, _, _, _, _, _, _, _, _, _, _, _, _, _, _, _, _, _, _, _, _, _, rfl, hlt, rfl, ?_, ?_⟩)
        · rw [HTK.out, cellsX_app]
          unfold RowX
          simpa [valsX, cellsX] using hown2
        · exact (HB.out.alloc HB.out.size _).grown hgrow2 (alloc_le HB.out.size _) (fun g hg => (HR.out.lt g hg).1)
    · obtain rfl : i = fs.length := by omega
      rw [List.take_length] at HR
      go_wp2_with fail
      refine jump_ret ?_
      go_ret
      exact ⟨_, rfl, HR.out, HB.out⟩
end Go.Proofs.Ytjbmcjppaadkgaa

namespace Go.Proofs.Ytjbmcjppaadkgaa
set_option linter.unusedVariables false
set_option linter.unusedSimpArgs false
set_option maxRecDepth 100000
open Go.RowKit
def TermsW (w : World) (k : Int) (N : Nat → Nat) (X : Nat → ByteArray) (e : Ending) (w' : World) : Prop :=
  ∃ v, e = .returned v ∧ ((printS k N X).1 ≠ 0 → v = .slice none 0 0) ∧ ((printS k N X).1 = 0 → ∃ base, RowX w' base v (valsX X (cellsX (fsOf (kindB k))))) ∧ Below w.heap.size w w'
theorem printS_kind {k : Int} {N : Nat → Nat} {X : Nat → ByteArray} (h : (printS k N X).1 = 0) : 1 ≤ kindB k ∧ kindB k ≤ 4 ∧ k = ((kindB k : Nat) : Int) := by
  unfold printS at h
  by_cases h0 : kindB k = 0
  · rw [if_pos h0] at h
    exact absurd h (by simp)
  · unfold kindB at h0 ⊢
    split at h0
    · rename_i hk
      rw [if_pos hk]
      omega
    · exact absurd rfl h0
set_option maxHeartbeats 1000000 in
theorem wterms_any (k : Int) (N : Nat → Nat) (X : Nat → ByteArray) (w : World) (hN : NumOk N) : Calls Try.prog 9 #[.agg #[.int .i64 k, .int .u32 (N 1 : Nat), .int .u32 (N 2 : Nat), .int .u64 (N 3 : Nat), .string (X 4), .string (X 5), .string (X 6), .string (X 7), .string (X 8), .string (X 9), .string (X 10), .string (X 11), .string (X 12)]] w (TermsW w k N X) := by
  have hx := heap_alloc_new w (.cells #[.int .i64 k, .int .u32 (N 1 : Nat), .int .u32 (N 2 : Nat), .int .u64 (N 3 : Nat), .string (X 4), .string (X 5), .string (X 6), .string (X 7), .string (X 8), .string (X 9), .string (X 10), .string (X 11), .string (X 12)] 25)
  have c0 : (w.alloc (.cells #[.int .i64 k, .int .u32 (N 1 : Nat), .int .u32 (N 2 : Nat), .int .u64 (N 3 : Nat), .string (X 4), .string (X 5), .string (X 6), .string (X 7), .string (X 8), .string (X 9), .string (X 10), .string (X 11), .string (X 12)] 25)).cell? ⟨w.heap.size, 0, none⟩ = some (.int .i64 k) := cell_of hx 0 rfl; have c1 : (w.alloc (.cells #[.int .i64 k, .int .u32 (N 1 : Nat), .int .u32 (N 2 : Nat), .int .u64 (N 3 : Nat), .string (X 4), .string (X 5), .string (X 6), .string (X 7), .string (X 8), .string (X 9), .string (X 10), .string (X 11), .string (X 12)] 25)).cell? ⟨w.heap.size, 1, none⟩ = some (.int .u32 (N 1 : Nat)) := cell_of hx 1 rfl; have c2 : (w.alloc (.cells #[.int .i64 k, .int .u32 (N 1 : Nat), .int .u32 (N 2 : Nat), .int .u64 (N 3 : Nat), .string (X 4), .string (X 5), .string (X 6), .string (X 7), .string (X 8), .string (X 9), .string (X 10), .string (X 11), .string (X 12)] 25)).cell? ⟨w.heap.size, 2, none⟩ = some (.int .u32 (N 2 : Nat)) := cell_of hx 2 rfl; have c3 : (w.alloc (.cells #[.int .i64 k, .int .u32 (N 1 : Nat), .int .u32 (N 2 : Nat), .int .u64 (N 3 : Nat), .string (X 4), .string (X 5), .string (X 6), .string (X 7), .string (X 8), .string (X 9), .string (X 10), .string (X 11), .string (X 12)] 25)).cell? ⟨w.heap.size, 3, none⟩ = some (.int .u64 (N 3 : Nat)) := cell_of hx 3 rfl; have c4 : (w.alloc (.cells #[.int .i64 k, .int .u32 (N 1 : Nat), .int .u32 (N 2 : Nat), .int .u64 (N 3 : Nat), .string (X 4), .string (X 5), .string (X 6), .string (X 7), .string (X 8), .string (X 9), .string (X 10), .string (X 11), .string (X 12)] 25)).cell? ⟨w.heap.size, 4, none⟩ = some (.string (X 4)) := cell_of hx 4 rfl; have c5 : (w.alloc (.cells #[.int .i64 k, .int .u32 (N 1 : Nat), .int .u32 (N 2 : Nat), .int .u64 (N 3 : Nat), .string (X 4), .string (X 5), .string (X 6), .string (X 7), .string (X 8), .string (X 9), .string (X 10), .string (X 11), .string (X 12)] 25)).cell? ⟨w.heap.size, 5, none⟩ = some (.string (X 5)) := cell_of hx 5 rfl; have c6 : (w.alloc (.cells #[.int .i64 k, .int .u32 (N 1 : Nat), .int .u32 (N 2 : Nat), .int .u64 (N 3 : Nat), .string (X 4), .string (X 5), .string (X 6), .string (X 7), .string (X 8), .string (X 9), .string (X 10), .string (X 11), .string (X 12)] 25)).cell? ⟨w.heap.size, 6, none⟩ = some (.string (X 6)) := cell_of hx 6 rfl; have c7 : (w.alloc (.cells #[.int .i64 k, .int .u32 (N 1 : Nat), .int .u32 (N 2 : Nat), .int .u64 (N 3 : Nat), .string (X 4), .string (X 5), .string (X 6), .string (X 7), .string (X 8), .string (X 9), .string (X 10), .string (X 11), .string (X 12)] 25)).cell? ⟨w.heap.size, 7, none⟩ = some (.string (X 7)) := cell_of hx 7 rfl; have c8 : (w.alloc (.cells #[.int .i64 k, .int .u32 (N 1 : Nat), .int .u32 (N 2 : Nat), .int .u64 (N 3 : Nat), .string (X 4), .string (X 5), .string (X 6), .string (X 7), .string (X 8), .string (X 9), .string (X 10), .string (X 11), .string (X 12)] 25)).cell? ⟨w.heap.size, 8, none⟩ = some (.string (X 8)) := cell_of hx 8 rfl; have c9 : (w.alloc (.cells #[.int .i64 k, .int .u32 (N 1 : Nat), .int .u32 (N 2 : Nat), .int .u64 (N 3 : Nat), .string (X 4), .string (X 5), .string (X 6), .string (X 7), .string (X 8), .string (X 9), .string (X 10), .string (X 11), .string (X 12)] 25)).cell? ⟨w.heap.size, 9, none⟩ = some (.string (X 9)) := cell_of hx 9 rfl; have c10 : (w.alloc (.cells #[.int .i64 k, .int .u32 (N 1 : Nat), .int .u32 (N 2 : Nat), .int .u64 (N 3 : Nat), .string (X 4), .string (X 5), .string (X 6), .string (X 7), .string (X 8), .string (X 9), .string (X 10), .string (X 11), .string (X 12)] 25)).cell? ⟨w.heap.size, 10, none⟩ = some (.string (X 10)) := cell_of hx 10 rfl; have c11 : (w.alloc (.cells #[.int .i64 k, .int .u32 (N 1 : Nat), .int .u32 (N 2 : Nat), .int .u64 (N 3 : Nat), .string (X 4), .string (X 5), .string (X 6), .string (X 7), .string (X 8), .string (X 9), .string (X 10), .string (X 11), .string (X 12)] 25)).cell? ⟨w.heap.size, 11, none⟩ = some (.string (X 11)) := cell_of hx 11 rfl; have c12 : (w.alloc (.cells #[.int .i64 k, .int .u32 (N 1 : Nat), .int .u32 (N 2 : Nat), .int .u64 (N 3 : Nat), .string (X 4), .string (X 5), .string (X 6), .string (X 7), .string (X 8), .string (X 9), .string (X 10), .string (X 11), .string (X 12)] 25)).cell? ⟨w.heap.size, 12, none⟩ = some (.string (X 12)) := cell_of hx 12 rfl
  have HM : Hid (MsgAt (w.alloc (.cells #[.int .i64 k, .int .u32 (N 1 : Nat), .int .u32 (N 2 : Nat), .int .u64 (N 3 : Nat), .string (X 4), .string (X 5), .string (X 6), .string (X 7), .string (X 8), .string (X 9), .string (X 10), .string (X 11), .string (X 12)] 25)) w.heap.size k N X) := Lib.hid hx
  have hpr := wprint_any k N X (w.alloc (.cells #[.int .i64 k, .int .u32 (N 1 : Nat), .int .u32 (N 2 : Nat), .int .u64 (N 3 : Nat), .string (X 4), .string (X 5), .string (X 6), .string (X 7), .string (X 8), .string (X 9), .string (X 10), .string (X 11), .string (X 12)] 25)) hN
  unfold PrintRet6 at hpr
  unfold TermsW
  have hkk : (printS k N X).1 = 0 → _ := fun h => printS_kind h
  generalize printS k N X = R at *
  obtain ⟨rc, rl⟩ := R
  dsimp only at hpr hkk ⊢
  have HPR := Lib.hid hpr
  clear hpr hx
  by_cases he : rc = 0
  · subst he
    obtain ⟨h1, h4, hk⟩ := hkk rfl
    obtain ⟨fs, hfs⟩ : ∃ fs, fsOf (kindB k) = fs := ⟨_, rfl⟩
    have HROW : Hid (∀ W, W.cell? ⟨w.heap.size, 0, none⟩ = some (.int .i64 k) → Calls Try.prog 19 #[.pointer (some ⟨w.heap.size, 0, none⟩)] W (RowRet W w.heap.size fs)) := Lib.hid (fun W h => by
      rw [← hfs]
      exact row_any w.heap.size (kindB k) W (by rw [← hk]; exact h) (fsOf_ne h1 h4))
    have HOK : Hid (∀ f ∈ fs, FdOk f) := Lib.hid (by rw [← hfs]; exact fsOf_ok _)
    have HN : Hid (fs.length ≤ 7) := Lib.hid (by rw [← hfs]; exact fsOf_len _)
    rw [hfs]
    clear hkk hk h1 h4 hfs
    go_enter Try.func9, Try.ntmps9
    go_wp2_with (first | (go_at_call 7; ((with_reducible refine (HPR.out).mono ?_); rintro e w2 ⟨v2, rfl, _, _, hb2⟩; (try dsimp only); have HB2 := Lib.hid (Below.next (below_one _) hb2); have HM2 := Lib.hid (msg_below HM.out hb2); have cK : w2.cell? ⟨w.heap.size, 0, none⟩ = some (.int .i64 k) := (cell_of HM2.out 0 rfl); clear hb2)) | (go_at_call 19; ((with_reducible refine (HROW.out w2 cK).mono ?_); rintro e w3 ⟨g, vs, rfl, hg, hfa, hfi, hb3⟩; (try dsimp only); have HM3 := Lib.hid (msg_below HM2.out hb3); have HB3 := Lib.hid (Below.next HB2.out hb3); have HFA := Lib.hid hfa; have HFI := Lib.hid hfi; clear hg hfa hfi hb3)) | (go_at_call 24; ((with_reducible refine (texts_any g fs vs w.heap.size k N X w3 HFA.out HFI.out HOK.out HM3.out HN.out).mono ?_); rintro e w4 ⟨v4, rfl, hr4, hb4⟩; have HB4 := Lib.hid (Below.next HB3.out hb4))) | fail)
    go_ret
    exact ⟨_, rfl, fun h => absurd rfl h, fun _ => ⟨_, hr4⟩, HB4.out⟩
  · have hei : ((rc : Int) != 0) = true := bnet (by omega)
    clear hkk
    go_enter Try.func9, Try.ntmps9
    go_wp2_with (first | (go_at_call 7; ((with_reducible refine (HPR.out).mono ?_); rintro e w2 ⟨v2, rfl, _, _, hb2⟩; (try dsimp only); have HB2 := Lib.hid (Below.next (below_one _) hb2); have HM2 := Lib.hid (msg_below HM.out hb2); have cK : w2.cell? ⟨w.heap.size, 0, none⟩ = some (.int .i64 k) := (cell_of HM2.out 0 rfl); clear hb2)) | fail)
    go_ret
    exact ⟨_, rfl, fun _ => rfl, fun h => absurd h he, HB2.out⟩
end Go.Proofs.Ytjbmcjppaadkgaa

namespace Go.Proofs.Ytjbmcjppaadkgaa
set_option linter.unusedVariables false
set_option linter.unusedSimpArgs false
set_option maxRecDepth 100000
open Go.RowKit
def numT (n : Nat) : List UInt8 := makeR 3 n [] []
def listT (l : List (List UInt8)) : List UInt8 := makeR 11 0 [] l
theorem number_any (n : Nat) (hn : n ≤ top) (w : World) : Calls Try.prog 25 #[.int .u64 (n : Nat)] w fun e w' => e = .returned (.string (strB (numT n))) ∧ Below w.heap.size w w' := by
  have HM := Lib.hid (show Calls Try.prog 38 #[.int .i64 3, .int .u64 (n : Nat), .slice none 0 0, .slice none 0 0] w fun e w' => e = .returned (.string (strB (numT n))) ∧ Below w.heap.size w w' from make_any 3 n hn _ _ [] [] w (bytes_nil w) (strs_nil w) (by decide) (by decide))
  go_enter Try.func25, Try.ntmps25
  go_wp2_with (first | (go_at_call 38; ((with_reducible refine (HM.out).mono ?_); rintro e w2 ⟨rfl, hb⟩)) | fail)
  go_ret
  exact ⟨rfl, hb⟩
theorem list_any6 (v : Value) (l : List (List UInt8)) (w : World) (hl : Strs w v l) (hll : l.length ≤ maxLen) : Calls Try.prog 26 #[v] w fun e w' => e = .returned (.string (strB (listT l))) ∧ Below w.heap.size w w' := by
  have HM := Lib.hid (show Calls Try.prog 38 #[.int .i64 11, .int .u64 0, .slice none 0 0, v] w fun e w' => e = .returned (.string (strB (listT l))) ∧ Below w.heap.size w w' from make_any 11 0 (by decide) _ v [] l w (bytes_nil w) hl (by decide) hll)
  go_enter Try.func26, Try.ntmps26
  go_wp2_with (first | (go_at_call 38; ((with_reducible refine (HM.out).mono ?_); rintro e w2 ⟨rfl, hb⟩)) | fail)
  go_ret
  exact ⟨rfl, hb⟩
theorem zeros_row (w : World) (n : Nat) (hn : n ≤ 1000000) : (w.drew.alloc (.cells (Builtin.zeroCells (Value.string ⟨#[]⟩).cells n ++ Builtin.zeroCells (Value.string ⟨#[]⟩).cells (grownCap w n 0 9 - n)) 9)).ownsRow w.heap.size 9 1 (.slice (some ⟨w.heap.size, 0, none⟩) 0 (grownCap w n 0 9)) 0 [] := by
  have hge := grownCap_ge w n 0 9
  have hle := grownCap_le_maxLen w n 0 9 (by unfold maxLen; omega)
  refine ⟨rfl, .inr ⟨w.heap.size, _, _, rfl, Nat.le_refl _, heap_alloc_new w.drew _, Nat.zero_le _, hle, ?_, rfl⟩⟩
  have h1 : (Value.string ⟨#[]⟩).cells.size = 1 := rfl
  simp only [Array.size_append, size_zeroCells, h1]
  omega
theorem grow_nil (n : Nat) (h0 : 0 < n) (hn : n ≤ 1000000) (w : World) : Calls Try.prog 39 #[.slice none 0 0, .int .i64 (n : Nat)] w fun e w' => ∃ v, e = .returned v ∧ w'.ownsRow w.heap.size 9 1 v 0 [] ∧ Below w.heap.size w w' := by
  obtain ⟨i0, hi0, hz0, hz1, hz2⟩ := info_parts info_str
  have hz := Lib.run_append_nil_zeros (P := Try.prog) w 33 3 33 9 i0 _ .i64 .i64 Try.underlying33 Try.underlying3 hi0 hz0 n h0 (by omega) (by omega) (by rw [hz2]; omega)
  have hrow := Lib.hid (zeros_row w n hn)
  have hni : (0 : Int) < n := by omega
  have hni2 : ¬ (n : Int) < 0 := by omega
  go_enter Try.func39, Try.ntmps39
  go_wp2_with (first | (at_builtin; refine Lib.wpList_append_run _ rfl _ _ _ _ rfl _ _ rfl rfl _ _ hz ?_) | fail)
  go_ret
  exact ⟨_, rfl, hrow.out, (below_one _).drew⟩
theorem strs_news6 {w : World} {b off : Nat} {l : List (List UInt8)} (h : ∀ i, i < l.length → w.cell? ⟨b, off + i, none⟩ = some (strV (l.getD i []))) : ∀ j u, (l.map strV)[j]? = some u → w.cell? ((⟨b, off, none⟩ : Addr).add j) = some u := by
  intro j u hu
  rw [add_at]
  rw [List.getElem?_map] at hu
  cases hj : l[j]? with
  | none => rw [hj] at hu; cases hu
  | some y =>
    rw [hj] at hu
    cases hu
    rw [h j (List.getElem?_eq_some_iff.1 hj).1]
    simp [List.getD, hj]
theorem wpList_app_strs {w : World} {ops : Array Oper} {rest : List Oper} {o : Oper} {a : Act} {Q : Exit → Act → World → Prop} (hgd : o.guard = none) (s x : Operand)
    (ho : o.op = .call { callee := .builtin .append, args := #[s, x], argTypes := #[33, 33] })
    (base : Nat) (v : Value) (n : Nat) (xs : List Value) (hs : a.eval s = v) (hown : w.ownsRow base 9 1 v n xs)
    (sv : Value) (l : List (List UInt8)) (hx : a.eval x = sv) (hsrc : Strs w sv l) (hn : n + l.length ≤ 1000000) (hbase : base ≤ w.heap.size)
    (h : ∀ v' w', w'.ownsRow base 9 1 v' (n + l.length) (xs ++ l.map strV) → w.grownBy w' v.ownBlock → wpList Try.prog ops Q rest (a.put o.dst v') w') : wpList Try.prog ops Q (o :: rest) a w := by
  obtain ⟨i0, hi0, hz0, hz1, hz2⟩ := info_parts info_str
  obtain ⟨ad, cap, rfl, hno, hc⟩ := hsrc
  rcases hc with rfl | ⟨b, off, rfl, hc⟩
  · cases ad with
    | none =>
      obtain rfl := hno rfl
      refine wpList_append_own_none hgd s x 33 ho base 9 i0 1 Try.underlying33 hi0 v n xs hs hown hx ?_
      exact h v w (by simpa using hown) ⟨rfl, rfl, rfl, Nat.le_refl _, fun _ _ _ => rfl⟩
    | some ad =>
      refine wpList_append_own w hgd s x 33 ho base 9 i0 _ 1 16 Try.underlying33 hi0 hz0 hz1 hz2 rfl (by decide) v n xs hs hown ad 0 cap [] hx rfl (fun j u hu => by cases hu) (fun u hu => by cases hu) (by unfold maxLen; simp at hn; omega) (by simp at hn; omega) hbase ?_
      intro v' w' h1 h2 _
      exact h v' w' (by simpa using h1) h2
  · refine wpList_append_own w hgd s x 33 ho base 9 i0 _ 1 16 Try.underlying33 hi0 hz0 hz1 hz2 rfl (by decide) v n xs hs hown ⟨b, off, none⟩ l.length cap (l.map strV) hx (by simp) (strs_news6 hc) (fun u hu => by obtain ⟨y, _, rfl⟩ := List.mem_map.1 hu; rfl) (by unfold maxLen; omega) (by omega) hbase ?_
    intro v' w' h1 h2 _
    exact h v' w' h1 h2
def pick2 {α : Type} (j : Nat) (a b c : α) : α := if j = 0 then a else if j = 1 then b else c
set_option maxHeartbeats 1000000 in
theorem concat_any (g : Nat) (v1 v2 : Value) (l1 l2 : List (List UInt8)) (w : World) (c1 : w.cell? ⟨g, 0, none⟩ = some v1) (c2 : w.cell? ⟨g, 1, none⟩ = some v2) (h1 : Strs w v1 l1) (h2 : Strs w v2 l2) (h0 : 0 < l1.length) (hl1 : l1.length ≤ 1000) (hl2 : l2.length ≤ 1000) :
    Calls Try.prog 27 #[.slice (some ⟨g, 0, none⟩) 2 2] w fun e w' => ∃ v, e = .returned v ∧ w'.ownsRow w.heap.size 9 1 v (l1.length + l2.length) ((l1 ++ l2).map strV) ∧ Below w.heap.size w w' := by
  have HSA := Lib.hid h1
  have HSB := Lib.hid h2
  obtain ⟨a1, q1, rfl, _⟩ := id h1
  obtain ⟨a2, q2, rfl, _⟩ := id h2
  have HGR := Lib.hid (show Calls Try.prog 39 #[.slice none 0 0, .int .i64 ((l1.length : Int) + l2.length)] w _ from by
    have := grow_nil (l1.length + l2.length) (by omega) (by omega) w
    push_cast at this
    exact this)
  have hi1 : (l1.length : Int) ≤ 1000 := by omega
  have hi2 : (l2.length : Int) ≤ 1000 := by omega
  have hp1 : (0 : Int) ≤ l1.length := by omega
  have hp2 : (0 : Int) ≤ l2.length := by omega
  clear h1 h2
  go_enter Try.func27, Try.ntmps27
  go_wp2_with fail
  go_loop [3, 11] (fun s i => ∃ j : Nat, i = .int .i64 (j : Nat) ∧ j ≤ 2 ∧ s = .int .i64 (pick2 j 0 (l1.length : Int) ((l1.length : Int) + l2.length))) (fun _ i => (3 - intOf i).toNat)
  case atStart => exact ⟨0, rfl, by omega, rfl⟩
  case round =>
    obtain ⟨j, rfl, hj, rfl⟩ := hrel
    have hj3 : j = 0 ∨ j = 1 ∨ j = 2 := by omega
    rcases hj3 with rfl | rfl | rfl
    · rw [show pick2 0 (0 : Int) l1.length ((l1.length : Int) + l2.length) = 0 from rfl]
      go_wp2_with fail
      go_round
      case rel => exact ⟨1, by first | rfl | go_num, by omega, by first | rfl | (show _ = Value.int .i64 (l1.length : Int); go_num)⟩
      case measure => simp [intOf]
    · rw [show pick2 1 (0 : Int) l1.length ((l1.length : Int) + l2.length) = l1.length from rfl]
      go_wp2_with fail
      go_round
      case rel => exact ⟨2, by first | rfl | go_num, by omega, by first | rfl | (show _ = Value.int .i64 ((l1.length : Int) + l2.length); go_num)⟩
      case measure => simp [intOf]
    · rw [show pick2 2 (0 : Int) l1.length ((l1.length : Int) + l2.length) = (l1.length : Int) + l2.length from rfl]
      go_wp2_with (first | (go_at_call 39; ((with_reducible refine (HGR.out).mono ?_); rintro e w2 ⟨v2, rfl, hr2, hb2⟩; have HR2 := Lib.hid hr2; have HB2 := Lib.hid hb2; have d1 := (hb2.cell (p := ⟨g, 0, none⟩) (World.block_lt_of_cell? w _ c1)).trans c1; have d2 := (hb2.cell (p := ⟨g, 1, none⟩) (World.block_lt_of_cell? w _ c2)).trans c2; have HSA2 := Lib.hid (HSA.out.below hb2); have HSB2 := Lib.hid (HSB.out.below hb2); clear hr2 hb2)) | fail)
      go_loopw [6, 27] (fun rv i wr => ∃ j : Nat, i = .int .i64 (j : Nat) ∧ j ≤ 2 ∧ wr.ownsRow w.heap.size 9 1 rv (pick2 j 0 l1.length (l1.length + l2.length)) (pick2 j [] (l1.map strV) ((l1 ++ l2).map strV)) ∧ Below w.heap.size w wr) (fun _ i _ => (3 - intOf i).toNat)
      case atStart => exact ⟨0, rfl, by omega, HR2.out, HB2.out⟩
      case round =>
        obtain ⟨j, rfl, hj, hown, hb⟩ := hrel
        have HB := Lib.hid hb
        have e1 := (hb.cell (p := ⟨g, 0, none⟩) (World.block_lt_of_cell? w _ c1)).trans c1
        have e2 := (hb.cell (p := ⟨g, 1, none⟩) (World.block_lt_of_cell? w _ c2)).trans c2
        clear hb d1 d2
        have hj3 : j = 0 ∨ j = 1 ∨ j = 2 := by omega
        rcases hj3 with rfl | rfl | rfl
        · have hown : wr.ownsRow w.heap.size 9 1 u6 (0) ([]) := hown
          have HO := Lib.hid hown
          clear hown
          go_wp2_with (first | (at_builtin; refine wpList_app_strs rfl _ _ rfl w.heap.size u6 (0) _ rfl HO.out (.slice a1 l1.length q1) l1 rfl (HSA.out.below HB.out) (by omega) HB.out.size ?_; intro v' w4 hown4 hgrow4) | fail)
          go_roundw
          case rel => exact ⟨1, by first | rfl | go_num, by omega, by simpa [pick2] using hown4, HB.out.grown hgrow4 HB.out.size (fun g hg => (HO.out.lt g hg).1)⟩
          case measure => simp [intOf]
        · have hown : wr.ownsRow w.heap.size 9 1 u6 (l1.length) (l1.map strV) := hown
          have HO := Lib.hid hown
          clear hown
          go_wp2_with (first | (at_builtin; refine wpList_app_strs rfl _ _ rfl w.heap.size u6 (l1.length) _ rfl HO.out (.slice a2 l2.length q2) l2 rfl (HSB.out.below HB.out) (by omega) HB.out.size ?_; intro v' w4 hown4 hgrow4) | fail)
          go_roundw
          case rel => exact ⟨2, by first | rfl | go_num, by omega, by simpa [pick2, List.map_append] using hown4, HB.out.grown hgrow4 HB.out.size (fun g hg => (HO.out.lt g hg).1)⟩
          case measure => simp [intOf]
        · have HO := Lib.hid hown
          clear hown
          go_wp2_with fail
          go_ret
          exact ⟨_, rfl, HO.out, HB.out⟩
end Go.Proofs.Ytjbmcjppaadkgaa
