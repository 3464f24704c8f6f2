/- Texts of this seat, merged: Bytes, Wire1, TermMath, Term1, Term2, Term3, Term4, Term5, Term6. -/
import Derived.Test.YtjbmcjppaadkgaaGP1
import Derived.Laws.AppendOwnNone
import Derived.Lib.SliceRun
import Derived.Deep.Onto
import Derived.OwnWalk
import Derived.StillTailTactics
import Derived.Laws.CopyOwn
import Derived.Laws.Strings
import Derived.Lib.Join
import Derived.Deep.QuietTactic
import Derived.BigQuiet
import Derived.WalkLawsBesides
import Derived.Test.YtjbmcjppaadkgaaShelf
import Derived.Carry
namespace Go.Proofs.Ytjbmcjppaadkgaa
set_option linter.unusedVariables false
set_option linter.unusedSimpArgs false
set_option maxRecDepth 100000
open Go.RowKit

theorem below_one {w : World} (o : Obj) : Below w.heap.size w (w.alloc o) := (Below.refl _ _).alloc (Nat.le_refl _) _
theorem below_dr {B : Nat} {w a : World} (h : Below B w a) (n : Nat) : Below B w (a.drewN n) := ⟨h.os, h.tape, h.output, h.size, h.block⟩
theorem cell_keep4 {w w' : World} {b i : Nat} {v : Value} (h : w.cell? ⟨b, i, none⟩ = some v) (hb : Below w.heap.size w w') : w'.cell? ⟨b, i, none⟩ = some v :=
  (hb.cell (p := ⟨b, i, none⟩) (World.block_lt_of_cell? w _ h)).trans h
theorem bne_i {b c : Int} (h : b ≠ c) : (b == c) = false := beqf h
theorem bneq_i {b c : Int} (h : b = c) : (b != c) = false := by subst h; simp
/-- a slice that is nil has no room -/
def NilOk (v : Value) : Prop := ∀ n cap, v = .slice none n cap → cap = 0
theorem nilok_nil : NilOk (.slice none 0 0) := fun n cap h => by cases h; rfl
theorem nilok_own {w : World} {B : Nat} {v : Value} {e : TypeId} {n : Nat} {xs : List Value} (h : w.ownsRow B e 1 v n xs) : NilOk v := by
  intro m cap hv
  rcases h.2 with ⟨h1, _⟩ | ⟨g, c, cur, h1, _⟩
  · rw [h1] at hv; cases hv; rfl
  · rw [h1] at hv; cases hv
theorem bytes_news {w : World} {b off : Nat} {l : List UInt8} (h : ∀ i, i < l.length → w.cell? ⟨b, off + i, none⟩ = some (.int .u8 (l.getD i 0).toNat)) : ∀ j u, (cellsOf l)[j]? = some u → w.cell? ((⟨b, off, none⟩ : Addr).add j) = some u := by
  intro j u hu
  rw [add_at]
  unfold cellsOf at hu
  rw [List.getElem?_map] at hu
  cases hj : l[j]? with
  | none => rw [hj] at hu; cases hu
  | some y =>
    rw [hj] at hu
    cases hu
    have hlt : j < l.length := (List.getElem?_eq_some_iff.1 hj).1
    rw [h j hlt]
    simp [List.getD, hj]
theorem wpList_append_bytes {w : World} {ops : Array Oper} {rest : List Oper} {o : Oper} {a : Act} {Q : Exit → Act → World → Prop} (hgd : o.guard = none) (s x : Operand)
    (ho : o.op = .call { callee := .builtin .append, args := #[s, x], argTypes := #[28, 28] })
    (base : Nat) (v : Value) (n : Nat) (xs : List Value) (hs : a.eval s = v) (hown : w.ownsRow base 5 1 v n xs)
    (sv : Value) (l : List UInt8) (hx : a.eval x = sv) (hsrc : Bytes w sv l) (hno : NilOk sv) (h63 : n + l.length ≤ 8796093022208) (hbase : base ≤ w.heap.size)
    (h : ∀ v' w', w'.ownsRow base 5 1 v' (n + l.length) (xs ++ cellsOf l) → w.grownBy w' v.ownBlock → wpList Try.prog ops Q rest (a.put o.dst v') w') : wpList Try.prog ops Q (o :: rest) a w := by
  obtain ⟨i0, hi0, hz0, hz1, hz2⟩ := info_parts Try.info5
  obtain ⟨ad, cap, rfl, hc⟩ := hsrc
  rcases hc with rfl | ⟨b, off, rfl, hc⟩
  · cases ad with
    | none =>
      obtain rfl := hno _ _ rfl
      refine wpList_append_own_none hgd s x 28 ho base 5 i0 1 Try.underlying28 hi0 v n xs hs hown hx ?_
      exact h v w (by simpa [cellsOf] using hown) ⟨rfl, rfl, rfl, Nat.le_refl _, fun _ _ _ => rfl⟩
    | some ad =>
      refine wpList_append_own w hgd s x 28 ho base 5 i0 _ 1 1 Try.underlying28 hi0 hz0 hz1 hz2 rfl (by decide) v n xs hs hown ad 0 cap [] hx rfl (fun j u hu => by cases hu) (fun u hu => by cases hu) (by unfold maxLen; simp at h63; omega) (by simp at h63; omega) hbase ?_
      intro v' w' h1 h2 _
      exact h v' w' (by simpa [cellsOf] using h1) h2
  · refine wpList_append_own w hgd s x 28 ho base 5 i0 _ 1 1 Try.underlying28 hi0 hz0 hz1 hz2 rfl (by decide) v n xs hs hown ⟨b, off, none⟩ l.length cap (cellsOf l) hx (by simp [cellsOf]) (bytes_news hc) (fun u hu => by obtain ⟨y, _, rfl⟩ := List.mem_map.1 hu; rfl) (by unfold maxLen; omega) (by omega) hbase ?_
    intro v' w' h1 h2 _
    exact h v' w' h1 h2
theorem wrap_s64 (a : Int) (h0 : -9223372036854775808 ≤ a) (h : a < 9223372036854775808) : IntKind.i64.wrap a = a := by
  rw [IntKind.wrap_i64]; omega
theorem own_at {w : World} {base : Nat} {v : Value} {e : TypeId} {n : Nat} {xs : List Value} (h : w.ownsRow base e 1 v n xs) (h0 : 0 < n) : ∃ g cap, v = .slice (some ⟨g, 0, none⟩) n cap ∧ base ≤ g ∧ n ≤ cap ∧ cap ≤ maxLen := by
  rcases h.2 with ⟨_, h1⟩ | ⟨g, c, cur, h1, h2, _, h3, h4, _⟩
  · omega
  · exact ⟨g, c, h1, h2, h3, h4⟩
theorem own_bytes {w : World} {base : Nat} {a : List UInt8} {g c : Nat} (h : w.ownsRow base 5 1 (.slice (some ⟨g, 0, none⟩) a.length c) a.length (cellsOf a)) : Bytes w (.slice (some ⟨g, 0, none⟩) a.length c) a := by
  refine ⟨_, _, rfl, .inr ⟨g, 0, rfl, fun i hi => ?_⟩⟩
  rw [Nat.zero_add, h.cellAt i (by omega)]
  unfold cellsOf
  simp [List.getD, List.getElem?_eq_getElem hi]
theorem set_block {w : World} {b i : Nat} {C : Array Value} {T : TypeId} {v : Value} (h : w.heap[b]? = some (.cells C T (0, 0))) : (w.setCell ⟨b, i, none⟩ v).heap[b]? = some (.cells (C.setIfInBounds i v) T (0, 0)) := by
  simp [World.setCell, Array.getElem?_modify, h]

theorem look_cells {w : World} {v : Value} {l : List UInt8} (h : Bytes w v l) (h0 : 0 < l.length) : ∃ b off cp, v = .slice (some ⟨b, off, none⟩) l.length cp ∧ ∀ i, i < l.length → w.cell? ⟨b, off + i, none⟩ = some (.int .u8 (l.getD i 0).toNat) := by
  obtain ⟨a, cp, rfl, h⟩ := h
  rcases h with rfl | ⟨b, off, rfl, hc⟩
  · exact absurd h0 (by simp)
  · exact ⟨b, off, cp, rfl, hc⟩
def bsub (l : List UInt8) (i j : Nat) : List UInt8 := (l.drop i).take (j - i)
theorem bsub_len {l : List UInt8} {i j : Nat} (h : j ≤ l.length) : (bsub l i j).length = j - i := by unfold bsub; simp; omega
theorem bsub_get {l : List UInt8} {i j k : Nat} (h : i + k < j) : (bsub l i j).getD k 0 = l.getD (i + k) 0 := by
  unfold bsub
  simp only [List.getD, List.getElem?_take, List.getElem?_drop]
  rw [if_pos (by omega)]
theorem bytes_sub {w : World} {b off n cp c2 : Nat} {l : List UInt8} {i j : Nat} (h : Bytes w (.slice (some ⟨b, off, none⟩) l.length cp) l) (hij : i ≤ j) (hj : j ≤ l.length) (hn : n = j - i) : Bytes w (.slice (some ⟨b, off + i, none⟩) n c2) (bsub l i j) := by
  subst hn
  refine ⟨_, _, by rw [bsub_len hj], ?_⟩
  by_cases h0 : j = i
  · exact .inl (List.length_eq_zero_iff.1 (by rw [bsub_len hj]; omega))
  · refine .inr ⟨b, off + i, rfl, fun k hk => ?_⟩
    rw [bsub_len hj] at hk
    rw [bsub_get (by omega)]
    obtain ⟨a, c, hv, h⟩ := h
    cases hv
    rcases h with rfl | ⟨b', off', hv', hc⟩
    · simp at hj; omega
    · cases hv'
      rw [Nat.add_assoc]
      exact hc (i + k) (by omega)
theorem bytes_blk {w : World} {B : Nat} {L : List UInt8} {T : TypeId} {cp : Nat} (h : w.heap[B]? = some (.cells (cellsOf L).toArray T (0, 0))) : Bytes w (.slice (some ⟨B, 0, none⟩) L.length cp) L := by
  refine ⟨_, _, rfl, .inr ⟨B, 0, rfl, fun i hi => ?_⟩⟩
  rw [Nat.zero_add]
  exact cell_of h i (by simp [cellsOf, List.getElem?_eq_getElem hi, List.getD])
theorem made_z (n : Nat) : (madeCells (Value.cells (.int .u8 0)) (n * 1)) = (cellsOf (List.replicate n 0)).toArray := by
  apply Array.ext'
  simp [madeCells, cellsOf, Value.cells]
  apply List.ext_getElem
  · simp
  · intro i h1 h2
    simp [Nat.mod_one]
theorem wpList_make_bytes {w : World} {ops : Array Oper} {rest : List Oper} {o : Oper} {a : Act} {Q : Exit → Act → World → Prop}
    (hg : o.guard = none) (l c : Operand) (hop : o.op = Op.makeSlice 28 l c) (L C : Int) (n : Nat) (hl : a.eval l = .int .i64 L) (hc : a.eval c = .int .i64 C) (hL : L = (n : Int)) (hC : C = (n : Int)) (hn : n ≤ 281474976710656)
    (hK : ∀ w', w'.heap[w.heap.size]? = some (.cells (cellsOf (List.replicate n 0)).toArray 5 (0, 0)) → Below w.heap.size w w' → wpList Try.prog ops Q rest (a.put o.dst (.slice (some ⟨w.heap.size, 0, none⟩) n n)) w') :
    wpList Try.prog ops Q (o :: rest) a w := by
  obtain ⟨i0, hi0, hz0, hz1, hz2⟩ := info_parts Try.info5
  refine wpList_plain hg fun K hK' => ?_
  have hr := run_make (P := Try.prog) w 28 5 i0 _ Try.underlying28 hi0 hz0 .i64 .i64 n n (by omega) (Int.le_refl _) (by rw [hz2]; omega) (by omega)
  rw [hz1] at hr
  simp only [Int.toNat_natCast] at hr
  rw [made_z] at hr
  subst hL
  subst hC
  unfold Oper.wp
  simp [execOp, hop, hl, hc, hr, Result.andThen]
  exact hK' _ _ (hK _ (heap_alloc_new w _) (below_one _))
theorem set_bytes {w : World} {b i : Nat} {L : List UInt8} {T : TypeId} {x : Int} {y : UInt8} (h : w.heap[b]? = some (.cells (cellsOf L).toArray T (0, 0))) (hx : x = y.toNat) : (w.setCell ⟨b, i, none⟩ (.int .u8 x)).heap[b]? = some (.cells (cellsOf (L.set i y)).toArray T (0, 0)) := by
  rw [set_block h, hx]
  congr 2
  apply Array.ext'
  simp [cellsOf, List.map_set]
theorem cells_at' {w : World} {b i : Nat} {L : List UInt8} {T : TypeId} (h : w.heap[b]? = some (.cells (cellsOf L).toArray T (0, 0))) (hi : i < L.length) : w.cell? ⟨b, i, none⟩ = some (.int .u8 (L.getD i 0).toNat) :=
  cell_of h i (by simp [cellsOf, List.getElem?_eq_getElem hi, List.getD])
theorem heap_other {W : World} {g j k : Nat} {v : Value} (h : j ≠ g) : (W.setCell ⟨g, k, none⟩ v).heap[j]? = W.heap[j]? := by
  simp [World.setCell, Array.getElem?_modify, h.symm]
theorem cells_one (l : List UInt8) : ∀ v ∈ cellsOf l, v.oneCell' = true := fun u hu => by obtain ⟨y, _, rfl⟩ := List.mem_map.1 hu; rfl
theorem bytes_at {w : World} {b off n cp : Nat} {l : List UInt8} (h : Bytes w (.slice (some ⟨b, off, none⟩) n cp) l) : ∀ j u, (cellsOf l)[j]? = some u → w.cell? ((⟨b, off, none⟩ : Addr).add j) = some u := by
  obtain ⟨a, c, hv, h⟩ := h
  rcases h with rfl | ⟨b', o', rfl, hc⟩
  · intro j u hu; cases hu
  · cases hv; exact bytes_news hc
theorem splice_at {α : Type} (A R cs : List α) (off : Nat) (h : A.length = off) : splice (A ++ R) off cs = (A ++ cs) ++ R.drop cs.length := by
  subst h
  unfold splice
  rw [List.take_left, List.drop_append, List.drop_eq_nil_of_le (by omega), List.nil_append, Nat.add_sub_cancel_left, List.append_assoc]
theorem rep_get (n i : Nat) : (List.replicate n (0 : UInt8)).getD i 0 = 0 := by
  simp only [List.getD, List.getElem?_replicate]
  split <;> rfl
theorem u8of {k : Nat} (h : k < 256) : ((UInt8.ofNat k).toNat : Int) = k := by rw [UInt8.toNat_ofNat']; omega
theorem bnet {b c : Int} (h : b ≠ c) : (b != c) = true := by simpa using h
end Go.Proofs.Ytjbmcjppaadkgaa

namespace Go.Proofs.Ytjbmcjppaadkgaa
set_option linter.unusedVariables false
set_option linter.unusedSimpArgs false
set_option maxRecDepth 100000
open Go.RowKit
def numB (u size : Nat) : List UInt8 := (List.range size).map fun i => UInt8.ofNat (u / 256 ^ i % 256)
theorem numB_len (u size : Nat) : (numB u size).length = size := by simp [numB]
theorem numB_succ (u k : Nat) : numB u (k + 1) = numB u k ++ [UInt8.ofNat (u / 256 ^ k % 256)] := by simp [numB, List.range_succ]
def valB : List UInt8 → Nat
  | [] => 0
  | x :: r => x.toNat + 256 * valB r
theorem valB_lt : ∀ l : List UInt8, valB l < 256 ^ l.length
  | [] => by simp [valB]
  | x :: r => by
    have h := valB_lt r
    have hx := UInt8.toNat_lt x
    simp only [valB, List.length_cons, Nat.pow_succ]
    omega
theorem valB_app (a b : List UInt8) : valB (a ++ b) = valB a + 256 ^ a.length * valB b := by
  induction a with
  | nil => simp [valB]
  | cons x r ih => simp only [List.cons_append, valB, ih, List.length_cons, Nat.pow_succ, Nat.mul_add]; rw [Nat.mul_comm (256 ^ r.length) 256, Nat.mul_assoc]; omega
theorem valB_num : ∀ (k u : Nat), u < 256 ^ k → valB (numB u k) = u := by
  intro k
  induction k with
  | zero => intro u h; simp at h; subst h; rfl
  | succ k ih =>
    intro u h
    rw [Nat.pow_succ] at h
    have h1 : u / 256 ^ k < 256 := Nat.div_lt_of_lt_mul (by rw [Nat.mul_comm]; rw [Nat.mul_comm]; exact h)
    have e : numB u k = numB (u % 256 ^ k) k := by
      unfold numB
      apply List.map_congr_left
      intro i hi
      have hik := List.mem_range.1 hi
      congr 1
      have hp : 256 ^ k = 256 ^ i * (256 * 256 ^ (k - i - 1)) := by rw [← Nat.pow_succ', ← Nat.pow_add]; congr 1; omega
      rw [hp, Nat.mod_mul_right_div_self, Nat.mod_mul_right_mod]
    rw [numB_succ, valB_app, numB_len, e, ih _ (Nat.mod_lt _ (Nat.pow_pos (by decide)))]
    simp only [valB, Nat.mul_zero, Nat.add_zero]
    rw [UInt8.toNat_ofNat', Nat.mod_eq_of_lt (Nat.mod_lt _ (by decide)), Nat.mod_eq_of_lt h1]
    exact Nat.mod_add_div _ _
def NumRet (w : World) (l : List UInt8) (e : Ending) (w' : World) : Prop := ∃ v, e = .returned v ∧ Bytes w' v l ∧ NilOk v ∧ Below w.heap.size w w'
set_option maxHeartbeats 1000000 in
theorem rnumber_any (u size : Nat) (hu : u < 18446744073709551616) (hs : size ≤ 8) (w : World) : Calls Try.prog 29 #[.int .u64 u, .int .i64 size] w (NumRet w (numB u size)) := by
  go_enter Try.func29, Try.ntmps29
  go_wp2_with fail
  go_loopw [0, 5, 6] (fun uu v i wr => ∃ k : Nat, i = .int .i64 k ∧ k ≤ size ∧ uu = .int .u64 ((u / 256 ^ k : Nat) : Int) ∧ wr.ownsRow w.heap.size 5 1 v k (cellsOf (numB u k)) ∧ Below w.heap.size w wr) (fun _ _ i _ => size - (intOf i).toNat)
  case atStart => exact ⟨0, rfl, by omega, by simp, World.ownsRow_made w #[] 0 (Nat.le_refl _) (by decide) rfl, below_one _⟩
  case round =>
    obtain ⟨k, rfl, hk, rfl, hown, hb⟩ := hrel
    have HO := Lib.hid hown
    have HB := Lib.hid hb
    have HS := Lib.hid (numB_succ u k)
    have HQ : Hid (u / 256 ^ k / 256 = u / 256 ^ (k + 1)) := Lib.hid (by rw [Nat.div_div_eq_div_mul, ← Nat.pow_succ])
    have hx : u / 256 ^ k < 18446744073709551616 := Nat.lt_of_le_of_lt (Nat.div_le_self _ _) hu
    generalize u / 256 ^ k = x at *
    clear hown hb hu
    by_cases hlt : k < size
    · have HL : Hid (∀ W, W = wr.alloc (.cells #[.int .u8 ((x : Int) % 256)] 5) → Bytes W (.slice (some ⟨wr.heap.size, 0, none⟩) 1 1) [UInt8.ofNat (x % 256)]) := Lib.hid (fun W hW => by
        subst hW
        have h := heap_alloc_new wr (.cells #[.int .u8 ((x : Int) % 256)] 5)
        refine bytes_blk (L := [UInt8.ofNat (x % 256)]) (T := 5) ?_
        rw [h]
        show _ = some (Obj.cells #[.int .u8 ((UInt8.ofNat (x % 256)).toNat : Int)] _ _)
        rw [u8of (by omega)]
        congr 3)
      have hw1 := wrap_u8 ((x : Int) % 256) (by omega) (by omega)
      have hk1 : (k : Int) < size := by omega
      go_wp2_with (first | (at_builtin; refine wpList_append_bytes rfl _ _ rfl w.heap.size u5 k _ rfl (HO.out.alloc _) (.slice (some ⟨wr.heap.size, 0, none⟩) 1 1) [UInt8.ofNat (x % 256)] rfl (HL.out _ rfl) (fun n cap h => by cases h) (by simp; omega) (by have := HB.out.size; simp; omega) ?_; intro v' w4 hown hgrow) | fail)
      have hb4 := (HB.out.alloc HB.out.size (.cells #[.int .u8 ((x : Int) % 256)] 5)).grown hgrow (by have := HB.out.size; simp; omega) (fun g hg => (HO.out.lt g hg).1)
      have e : cellsOf (numB u k) ++ cellsOf [UInt8.ofNat (x % 256)] = cellsOf (numB u (k + 1)) := by rw [HS.out]; simp [cellsOf]
      rw [e] at hown
      go_roundw
      case rel => exact ⟨k + 1, by go_num, by omega, by rw [← HQ.out]; simp, hown, hb4⟩
      case measure => simp [intOf]; omega
    · obtain rfl : k = size := by omega
      go_wp2_with fail
      go_ret
      exact ⟨_, rfl, bytes_own HO.out, (fun m cap hv => by
        rcases HO.out.2 with ⟨h1, _⟩ | ⟨g, c, cur, h1, _⟩
        · rw [h1] at hv; cases hv; rfl
        · rw [h1] at hv; cases hv), HB.out⟩
set_option maxHeartbeats 1000000 in
theorem rvalue6_any (v : Value) (l : List UInt8) (w : World) (hv : Bytes w v l) (hl : l.length ≤ 8) : Calls Try.prog 32 #[v] w fun e w' => e = .returned (.int .u64 (valB l)) ∧ w = w' := by
  obtain ⟨a, cp, rfl, hc⟩ := hv
  have hli : (l.length : Int) ≤ 8 := by omega
  have hl0 : (0 : Int) ≤ l.length := by omega
  go_enter Try.func32, Try.ntmps32
  go_wp2_with fail
  go_loop [3, 4] (fun u i => ∃ j : Nat, i = .int .i64 ((j : Int) - 1) ∧ j ≤ l.length ∧ u = .int .u64 (valB (l.drop j))) (fun _ i => (intOf i + 1).toNat)
  case atStart => exact ⟨l.length, rfl, Nat.le_refl _, by simp [valB]⟩
  case round =>
    obtain ⟨j, rfl, hj, rfl⟩ := hrel
    by_cases h0 : j = 0
    · subst h0
      go_wp2_with fail
      go_ret
      exact ⟨by simp, rfl⟩
    · obtain ⟨m, rfl⟩ : ∃ m, j = m + 1 := ⟨j - 1, by omega⟩
      obtain ⟨b, off, rfl, hcell⟩ : ∃ b off, a = some ⟨b, off, none⟩ ∧ ∀ i, i < l.length → w.cell? ⟨b, off + i, none⟩ = some (.int .u8 (l.getD i 0).toNat) := by
        rcases hc with rfl | h
        · simp at hj
        · exact h
      have hcm := hcell m (by omega)
      have hd : l.drop m = l.getD m 0 :: l.drop (m + 1) := by
        rw [List.drop_eq_getElem_cons (by omega)]; simp [List.getD, List.getElem?_eq_getElem (show m < l.length by omega)]
      have hlt := valB_lt (l.drop (m + 1))
      have hpow : 256 ^ (l.drop (m + 1)).length ≤ 256 ^ 7 := Nat.pow_le_pow_right (by decide) (by simp; omega)
      have HV : Hid (valB (l.drop m) = (l.getD m 0).toNat + 256 * valB (l.drop (m + 1))) := Lib.hid (by rw [hd]; rfl)
      have hx : valB (l.drop (m + 1)) < 72057594037927936 := Nat.lt_of_lt_of_le hlt hpow
      clear hlt hpow hd hc hcell
      generalize valB (l.drop (m + 1)) = x at *
      have hub := UInt8.toNat_lt (l.getD m 0)
      generalize l.getD m 0 = u at *
      have hmi : ((m + 1 : Nat) : Int) - 1 = m := by omega
      have hm0 : (0 : Int) ≤ m := by omega
      have hml : (m : Int) < l.length := by omega
      rw [hmi]
      go_wp2_with fail
      go_round
      case rel => exact ⟨m, by first | rfl | go_num, by omega, by rw [HV.out]; first | go_num | (congr 1; push_cast; omega)⟩
      case measure => simp [intOf]
end Go.Proofs.Ytjbmcjppaadkgaa

namespace Go.Proofs.Ytjbmcjppaadkgaa
set_option linter.unusedVariables false
set_option linter.unusedSimpArgs false

structure Shape where
  numbered : Bool
  low : Nat
  high : Nat
  hex : Bool
  least : Nat
  most : Nat
  ordered : Bool

def shapeOf : Nat → Option Shape
  | 1 => some ⟨false, 0, 0, false, 0, 0, false⟩
  | 2 => some ⟨true, 0, 4294967295, false, 0, 0, false⟩
  | 3 => some ⟨true, 0, 18446744073709551615, false, 0, 0, false⟩
  | 4 => some ⟨false, 0, 0, true, 0, 0, false⟩
  | 5 => some ⟨false, 0, 0, false, 1, 1, false⟩
  | 6 => some ⟨false, 0, 0, false, 2, 2, true⟩
  | 7 => some ⟨false, 0, 0, false, 1, 65536, false⟩
  | 8 => some ⟨true, 1, 3, false, 2, 2, false⟩
  | 9 => some ⟨false, 0, 0, false, 2, 2, false⟩
  | 10 => some ⟨true, 0, 18446744073709551615, false, 3, 3, false⟩
  | 11 => some ⟨false, 0, 0, false, 0, 65536, false⟩
  | _ => none

def kindOf (c : UInt8) : Nat :=
  if c = 48 then 1 else if c = 97 then 2 else if c = 110 then 3 else if c = 120 then 4 else if c = 112 then 5 else if c = 100 then 6
  else if c = 104 then 7 else if c = 107 then 8 else if c = 109 then 9 else if c = 115 then 10 else if c = 108 then 11 else 0

def isDig (c : UInt8) : Bool := decide (48 ≤ c.toNat ∧ c.toNat ≤ 57)
def isHex (c : UInt8) : Bool := decide ((48 ≤ c.toNat ∧ c.toNat ≤ 57) ∨ (97 ≤ c.toNat ∧ c.toNat ≤ 102))
def isWord (c : UInt8) : Bool := decide (c ≠ 44 ∧ c ≠ 41)
def leL (a b : List UInt8) : Bool := Op.bytesLess a b || a == b

def numIn (low high : Nat) (d : List UInt8) : Bool := decide (rdCode d = 0 ∧ (low : Int) ≤ rdVal d ∧ rdVal d ≤ (high : Int))

def pass (c : UInt8) : List UInt8 → Option (List UInt8)
  | [] => none
  | x :: r => if x = c then some r else none

theorem pass_some {c : UInt8} {l r : List UInt8} : pass c l = some r ↔ l = c :: r := by
  cases l with
  | nil => simp [pass]
  | cons x l => unfold pass; split <;> simp_all

def qNum (sh : Shape) (l : List UInt8) : Option (Nat × List UInt8) :=
  if sh.numbered then
    if numIn sh.low sh.high (l.takeWhile isDig) then some ((rdVal (l.takeWhile isDig)).toNat, l.dropWhile isDig) else none
  else some (0, l)

def qLeaf (sh : Shape) (l : List UInt8) : Option (Nat × List UInt8) :=
  if sh.hex then if (l.takeWhile isHex).length % 2 = 0 then qNum sh (l.dropWhile isHex) else none
  else qNum sh l

def qComma (sh : Shape) (l : List UInt8) : Option (List UInt8) := if sh.numbered then pass 44 l else some l

abbrev LoopT := List (List UInt8) → List UInt8 → Option (List (List UInt8) × List UInt8)

def qList (L : Shape → LoopT) (sh : Shape) (r : List UInt8) : Option (List (List UInt8) × List UInt8) :=
  if sh.least = 0 ∧ r.head? = some 41 then some ([], r) else L sh [] r

def qIn (L : Shape → LoopT) (sh : Shape) (r : List UInt8) : Option (Nat × List (List UInt8) × List UInt8) :=
  (pass 40 r).bind fun r1 => (qNum sh r1).bind fun x => (qComma sh x.2).bind fun r3 => (qList L sh r3).bind fun y => (pass 41 y.2).bind fun r5 => some (x.1, y.1, r5)

def qTermS (L : Shape → LoopT) : List UInt8 → Option (Nat × Nat × List (List UInt8) × List UInt8)
  | [] => none
  | c :: r => (shapeOf (kindOf c)).bind fun sh =>
      if 0 < sh.most then (qIn L sh r).bind fun x => some (kindOf c, x.1, x.2.1, x.2.2) else (qLeaf sh r).bind fun x => some (kindOf c, x.1, [], x.2)

def partOf (r rest : List UInt8) : List UInt8 := r.take (r.length - rest.length)

def qLoop : Nat → Shape → LoopT
  | 0, _, _, _ => none
  | f + 1, sh, acc, r => (qTermS (qLoop f) r).bind fun x =>
      if sh.ordered = true ∧ leL (acc.getLast?.getD []) (partOf r x.2.2.2) = false then none
      else if x.2.2.2.head? = some 44 then qLoop f sh (acc ++ [partOf r x.2.2.2]) x.2.2.2.tail
      else if sh.least ≤ acc.length + 1 ∧ acc.length + 1 ≤ sh.most then some (acc ++ [partOf r x.2.2.2], x.2.2.2) else none

/-! the reference's way -/
def pNum (low high : Nat) (l : List UInt8) : Option (Nat × List UInt8) :=
  if numIn low high (l.takeWhile isWord) then some ((rdVal (l.takeWhile isWord)).toNat, l.dropWhile isWord) else none

def right (k n : Nat) : Bool :=
  if k = 5 then n == 1 else if k = 6 ∨ k = 8 ∨ k = 9 then n == 2 else if k = 7 then decide (1 ≤ n) else if k = 10 then n == 3 else true

def pHead (k : Nat) (sh : Shape) (r : List UInt8) : Option (Nat × List UInt8) :=
  if k = 8 ∨ k = 10 then (pNum sh.low sh.high r).bind fun x => (pass 44 x.2).bind fun r3 => some (x.1, r3) else some (0, r)

def pLeaf (k : Nat) (sh : Shape) (r : List UInt8) : Option (Nat × List UInt8 × List UInt8) :=
  if k = 1 then some (0, [], r)
  else if k = 4 then (if hxCode (r.takeWhile isWord) = 0 then some (0, hxBytes (r.takeWhile isWord), r.dropWhile isWord) else none)
  else (pNum sh.low sh.high r).bind fun x => some (x.1, [], x.2)

/-- kind, number, bytes, parts, rest -/
def pTermS (L : Nat → LoopT) : List UInt8 → Option (Nat × Nat × List UInt8 × List (List UInt8) × List UInt8)
  | [] => none
  | c :: r => (shapeOf (kindOf c)).bind fun sh =>
      if kindOf c ≤ 4 then (pLeaf (kindOf c) sh r).bind fun x => some (kindOf c, x.1, x.2.1, [], x.2.2)
      else (pass 40 r).bind fun r1 => (pHead (kindOf c) sh r1).bind fun x =>
        if kindOf c = 11 ∧ x.2.head? = some 41 then some (kindOf c, x.1, [], [], x.2.tail)
        else (L (kindOf c) [] x.2).bind fun y => some (kindOf c, x.1, [], y.1, y.2)

def okParts (k : Nat) (ps : List (List UInt8)) : Bool := right k ps.length && !(k == 6 && !leL (ps.getD 0 []) (ps.getD 1 []))

def pLoop : Nat → Nat → LoopT
  | 0, _, _, _ => none
  | f + 1, k, acc, r => (pTermS (pLoop f) r).bind fun x =>
      if x.2.2.2.2.head? = some 41 then (if okParts k (acc ++ [partOf r x.2.2.2.2]) then some (acc ++ [partOf r x.2.2.2.2], x.2.2.2.2.tail) else none)
      else if x.2.2.2.2.head? = some 44 then pLoop f k (acc ++ [partOf r x.2.2.2.2]) x.2.2.2.2.tail else none

/-! words and runs -/
def Stop (l : List UInt8) : Prop := l = [] ∨ l.head? = some 44 ∨ l.head? = some 41

theorem stop_word (l : List UInt8) : Stop (l.dropWhile isWord) := by
  induction l with
  | nil => exact .inl rfl
  | cons c l ih =>
    rw [List.dropWhile_cons]
    split
    · exact ih
    · rename_i h
      simp only [isWord, decide_eq_true_eq, not_and, Decidable.not_not] at h
      by_cases h1 : c = 44
      · subst h1; exact .inr (.inl rfl)
      · have := h h1; subst this; exact .inr (.inr rfl)

theorem run_word {P : UInt8 → Bool} (hP : ∀ c, P c = true → isWord c = true) : ∀ (l : List UInt8), (∀ c ∈ l.takeWhile isWord, P c = true) → l.takeWhile P = l.takeWhile isWord ∧ l.dropWhile P = l.dropWhile isWord := by
  intro l
  induction l with
  | nil => intro _; exact ⟨rfl, rfl⟩
  | cons c l ih =>
    intro h
    by_cases hw : isWord c = true
    · rw [List.takeWhile_cons_of_pos hw] at h ⊢
      have hc := h c (List.mem_cons_self ..)
      rw [List.takeWhile_cons_of_pos hc, List.dropWhile_cons_of_pos hc, List.dropWhile_cons_of_pos hw]
      have := ih fun x hx => h x (List.mem_cons_of_mem _ hx)
      exact ⟨by rw [this.1], this.2⟩
    · have hc : ¬ P c = true := fun hc => hw (hP c hc)
      rw [List.takeWhile_cons_of_neg hw, List.takeWhile_cons_of_neg hc, List.dropWhile_cons_of_neg hc, List.dropWhile_cons_of_neg hw]
      exact ⟨rfl, rfl⟩

theorem word_run {P : UInt8 → Bool} (hP : ∀ c, P c = true → isWord c = true) : ∀ (l : List UInt8), Stop (l.dropWhile P) → l.takeWhile P = l.takeWhile isWord ∧ l.dropWhile P = l.dropWhile isWord := by
  intro l
  induction l with
  | nil => intro _; exact ⟨rfl, rfl⟩
  | cons c l ih =>
    intro h
    by_cases hc : P c = true
    · have hw := hP c hc
      rw [List.dropWhile_cons_of_pos hc] at h
      rw [List.takeWhile_cons_of_pos hc, List.takeWhile_cons_of_pos hw, List.dropWhile_cons_of_pos hc, List.dropWhile_cons_of_pos hw]
      exact ⟨by rw [(ih h).1], (ih h).2⟩
    · rw [List.dropWhile_cons_of_neg hc] at h
      have hw : ¬ isWord c = true := by
        rcases h with h | h | h
        · cases h
        · simp at h; subst h; decide
        · simp at h; subst h; decide
      rw [List.takeWhile_cons_of_neg hw, List.takeWhile_cons_of_neg hc, List.dropWhile_cons_of_neg hc, List.dropWhile_cons_of_neg hw]
      exact ⟨rfl, rfl⟩

theorem dig_word (c : UInt8) (h : isDig c = true) : isWord c = true := by
  simp only [isDig, decide_eq_true_eq] at h
  simp only [isWord, decide_eq_true_eq]
  constructor <;> (intro e; subst e; revert h; decide)
theorem hex_word (c : UInt8) (h : isHex c = true) : isWord c = true := by
  simp only [isHex, decide_eq_true_eq] at h
  simp only [isWord, decide_eq_true_eq]
  constructor <;> (intro e; subst e; revert h; decide)

theorem digs_isDig {l : List UInt8} (h : digs l 10 = true) : ∀ c ∈ l, isDig c = true := by
  intro c hc
  have := (val_dec _).1 (digs_mem h hc)
  simp only [isDig, decide_eq_true_eq]; omega
theorem digs_isHex {l : List UInt8} (h : digs l 16 = true) : ∀ c ∈ l, isHex c = true := by
  intro c hc
  have := digs_mem h hc
  simp only [isHex, decide_eq_true_eq]
  unfold val at this
  split at this
  · omega
  · split at this <;> omega
theorem isHex_digs {l : List UInt8} (h : ∀ c ∈ l, isHex c = true) : digs l 16 = true := by
  simp only [digs, List.all_eq_true, decide_eq_true_eq]
  intro c hc
  have := h c hc
  simp only [isHex, decide_eq_true_eq] at this
  unfold val
  split
  · omega
  · split <;> omega
theorem numIn_digs {lo hi : Nat} {l : List UInt8} (h : numIn lo hi l = true) : digs l 10 = true := by
  simp only [numIn, decide_eq_true_eq] at h
  have h1 := h.1
  by_cases hf : formBad l = true
  · rw [(rd_bad hf).2] at h1; omega
  · have : formBad l = false := by simpa using hf
    simp only [formBad, Bool.or_eq_false_iff] at this
    simpa using this.2

theorem pNum_q {sh : Shape} {l : List UInt8} {x : Nat × List UInt8} (hn : sh.numbered = true) (h : pNum sh.low sh.high l = some x) : qNum sh l = some x ∧ Stop x.2 := by
  unfold pNum at h
  split at h
  · rename_i hi
    simp only [Option.some.injEq] at h
    subst h
    have := run_word dig_word l (digs_isDig (numIn_digs hi))
    refine ⟨?_, stop_word l⟩
    unfold qNum
    rw [if_pos hn, this.1, this.2, if_pos hi]
  · cases h
theorem qNum_p {sh : Shape} {l : List UInt8} {x : Nat × List UInt8} (hn : sh.numbered = true) (h : qNum sh l = some x) (hs : Stop x.2) : pNum sh.low sh.high l = some x := by
  unfold qNum at h
  rw [if_pos hn] at h
  split at h
  · rename_i hi
    simp only [Option.some.injEq] at h
    subst h
    have := word_run dig_word l hs
    unfold pNum
    rw [← this.1, ← this.2, if_pos hi]
  · cases h

theorem stop_pass {c : UInt8} {l r : List UInt8} (hc : c = 44 ∨ c = 41) (h : pass c l = some r) : Stop l := by
  rw [pass_some] at h
  subst h
  rcases hc with rfl | rfl
  · exact .inr (.inl rfl)
  · exact .inr (.inr rfl)

theorem takeWhile_all {P : UInt8 → Bool} : ∀ (l : List UInt8), ∀ c ∈ l.takeWhile P, P c = true := by
  intro l
  induction l with
  | nil => intro c h; cases h
  | cons x l ih =>
    intro c h
    by_cases hx : P x = true
    · rw [List.takeWhile_cons_of_pos hx] at h
      rcases List.mem_cons.1 h with rfl | h
      · exact hx
      · exact ih c h
    · rw [List.takeWhile_cons_of_neg hx] at h; cases h

theorem hxCode_zero {l : List UInt8} : hxCode l = 0 ↔ digs l 16 = true ∧ l.length % 2 = 0 := by
  unfold hxCode
  split
  · split <;> simp_all
  · simp_all

/-- the kinds one by one -/
theorem shape_cases {k : Nat} {sh : Shape} (h : shapeOf k = some sh) : (k = 1 ∨ k = 2 ∨ k = 3 ∨ k = 4 ∨ k = 5 ∨ k = 6 ∨ k = 7 ∨ k = 8 ∨ k = 9 ∨ k = 10 ∨ k = 11) := by
  unfold shapeOf at h
  split at h <;> first | omega | cases h

theorem pLeaf_q {k : Nat} {sh : Shape} {r : List UInt8} {x : Nat × List UInt8 × List UInt8} (hs : shapeOf k = some sh) (hk : k ≤ 4) (h : pLeaf k sh r = some x) :
    ¬ 0 < sh.most ∧ qLeaf sh r = some (x.1, x.2.2) ∧ x.2.1 = (if k = 4 then hxBytes (r.takeWhile isWord) else []) := by
  rcases (show k = 1 ∨ k = 2 ∨ k = 3 ∨ k = 4 by have := shape_cases hs; omega) with rfl | rfl | rfl | rfl
  · simp only [shapeOf, Option.some.injEq] at hs; subst hs
    simp only [pLeaf] at h; simp at h; subst h
    exact ⟨by decide, rfl, rfl⟩
  · simp only [shapeOf, Option.some.injEq] at hs; subst hs
    simp only [pLeaf] at h
    simp only [show ¬ (2:Nat) = 1 by decide, show ¬ (2:Nat) = 4 by decide, if_false] at h
    obtain ⟨y, hy, e⟩ := Option.bind_eq_some_iff.1 h
    cases e
    exact ⟨by decide, (pNum_q (sh := ⟨true, 0, 4294967295, false, 0, 0, false⟩) rfl hy).1, rfl⟩
  · simp only [shapeOf, Option.some.injEq] at hs; subst hs
    simp only [pLeaf] at h
    simp only [show ¬ (3:Nat) = 1 by decide, show ¬ (3:Nat) = 4 by decide, if_false] at h
    obtain ⟨y, hy, e⟩ := Option.bind_eq_some_iff.1 h
    cases e
    exact ⟨by decide, (pNum_q (sh := ⟨true, 0, 18446744073709551615, false, 0, 0, false⟩) rfl hy).1, rfl⟩
  · simp only [shapeOf, Option.some.injEq] at hs; subst hs
    simp only [pLeaf] at h
    simp only [show ¬ (4:Nat) = 1 by decide, if_false, if_true] at h
    split at h
    · rename_i hx
      cases h
      have hd := hxCode_zero.1 hx
      have := run_word hex_word r (digs_isHex hd.1)
      refine ⟨by decide, ?_, rfl⟩
      unfold qLeaf
      rw [if_pos rfl, this.1, if_pos hd.2, this.2]
      rfl
    · cases h

theorem qLeaf_p {k : Nat} {sh : Shape} {r : List UInt8} {x : Nat × List UInt8} (hs : shapeOf k = some sh) (hk : ¬ 0 < sh.most) (h : qLeaf sh r = some x) (hst : Stop x.2) :
    k ≤ 4 ∧ pLeaf k sh r = some (x.1, if k = 4 then hxBytes (r.takeWhile isWord) else [], x.2) := by
  rcases shape_cases hs with rfl | rfl | rfl | rfl | rfl | rfl | rfl | rfl | rfl | rfl | rfl
  · simp only [shapeOf, Option.some.injEq] at hs; subst hs
    simp only [qLeaf, qNum] at h; simp at h; subst h
    exact ⟨by decide, rfl⟩
  · simp only [shapeOf, Option.some.injEq] at hs; subst hs
    have := qNum_p (sh := ⟨true, 0, 4294967295, false, 0, 0, false⟩) rfl h hst
    refine ⟨by decide, ?_⟩
    simp only [pLeaf, show ¬ (2:Nat) = 1 by decide, show ¬ (2:Nat) = 4 by decide, if_false]
    exact Option.bind_eq_some_iff.2 ⟨x, this, rfl⟩
  · simp only [shapeOf, Option.some.injEq] at hs; subst hs
    have := qNum_p (sh := ⟨true, 0, 18446744073709551615, false, 0, 0, false⟩) rfl h hst
    refine ⟨by decide, ?_⟩
    simp only [pLeaf, show ¬ (3:Nat) = 1 by decide, show ¬ (3:Nat) = 4 by decide, if_false]
    exact Option.bind_eq_some_iff.2 ⟨x, this, rfl⟩
  · simp only [shapeOf, Option.some.injEq] at hs; subst hs
    refine ⟨by decide, ?_⟩
    unfold qLeaf at h
    rw [if_pos rfl] at h
    split at h
    · rename_i hl
      simp only [qNum] at h
      simp at h; subst h
      have := word_run hex_word r hst
      have hd : hxCode (r.takeWhile isWord) = 0 := hxCode_zero.2 ⟨by rw [← this.1]; exact isHex_digs (takeWhile_all r), by rw [← this.1]; exact hl⟩
      simp only [pLeaf, show ¬ (4:Nat) = 1 by decide, if_false, if_true]
      rw [if_pos hd, this.2]
    · cases h
  all_goals (simp only [shapeOf, Option.some.injEq] at hs; subst hs; exact absurd (by decide) hk)

theorem pHead_q {k : Nat} {sh : Shape} {r : List UInt8} {x : Nat × List UInt8} (hs : shapeOf k = some sh) (hk : ¬ k ≤ 4) (h : pHead k sh r = some x) :
    0 < sh.most ∧ ∃ y, qNum sh r = some y ∧ qComma sh y.2 = some x.2 ∧ y.1 = x.1 := by
  unfold pHead at h
  rcases shape_cases hs with rfl | rfl | rfl | rfl | rfl | rfl | rfl | rfl | rfl | rfl | rfl
  all_goals (try (exact absurd (by decide) hk))
  all_goals (simp only [shapeOf, Option.some.injEq] at hs; subst hs)
  all_goals (refine ⟨by decide, ?_⟩)
  all_goals first
    | (rw [if_neg (by decide)] at h; cases h; exact ⟨(0, r), rfl, rfl, rfl⟩)
    | (rw [if_pos (by decide)] at h; obtain ⟨y, hy, h2⟩ := Option.bind_eq_some_iff.1 h; obtain ⟨r3, hp, e⟩ := Option.bind_eq_some_iff.1 h2; cases e; exact ⟨y, (pNum_q (sh := ⟨true, _, _, _, _, _, _⟩) rfl hy).1, hp, rfl⟩)

theorem qHead_p {k : Nat} {sh : Shape} {r r3 : List UInt8} {y : Nat × List UInt8} (hs : shapeOf k = some sh) (hm : 0 < sh.most) (h : qNum sh r = some y) (hc : qComma sh y.2 = some r3) :
    ¬ k ≤ 4 ∧ pHead k sh r = some (y.1, r3) := by
  unfold pHead
  rcases shape_cases hs with rfl | rfl | rfl | rfl | rfl | rfl | rfl | rfl | rfl | rfl | rfl
  all_goals (simp only [shapeOf, Option.some.injEq] at hs; subst hs)
  all_goals (try (exact absurd hm (by decide)))
  all_goals (refine ⟨by decide, ?_⟩)
  all_goals first
    | (simp only [qNum, qComma] at h hc; simp at h hc; subst h; simp at hc ⊢; exact hc)
    | (rw [if_pos (by decide)]; exact Option.bind_eq_some_iff.2 ⟨y, qNum_p (sh := ⟨true, _, _, _, _, _, _⟩) rfl h (stop_pass (.inl rfl) hc), Option.bind_eq_some_iff.2 ⟨r3, hc, rfl⟩⟩)
end Go.Proofs.Ytjbmcjppaadkgaa

namespace Go.Proofs.Ytjbmcjppaadkgaa
set_option linter.unusedVariables false
set_option linter.unusedSimpArgs false
set_option maxRecDepth 100000
open Go.RowKit

theorem drew2 (w : World) (a b : Nat) : (w.drewN a).drewN b = w.drewN (a + b) := by simp [World.drewN, Nat.add_assoc]

def byteAt (s : ByteArray) (p : Nat) : Int := if h : p < s.size then (s[p]).toNat else 0
theorem byteAt_lt {s : ByteArray} {p : Nat} (h : p < s.size) : byteAt s p = (s[p]).toNat := by unfold byteAt; rw [dif_pos h]
theorem byteAt_ge {s : ByteArray} {p : Nat} (h : ¬ p < s.size) : byteAt s p = 0 := by unfold byteAt; rw [dif_neg h]

theorem next_any (s : ByteArray) (p b : Nat) (w : World) (hs : s.size ≤ maxLen) (hp : p ≤ s.size) (h0 : w.cell? ⟨b, 0, none⟩ = some (.string s)) (h1 : w.cell? ⟨b, 1, none⟩ = some (.int .i64 p)) :
    Calls Try.prog 79 #[.pointer (some ⟨b, 0, none⟩)] w fun e w' => e = .returned (.int .u8 (byteAt s p)) ∧ ∃ n, w' = w.drewN n := by
  unfold maxLen at hs
  by_cases hlt : p < s.size
  · have hne : ((p : Int) == s.size) = false := beqf (by omega)
    go_enter Try.func79, Try.ntmps79
    go_wp2
    go_quiet (fail)
    go_wp2
    go_quiet (fail)
    go_wp2
    go_ret
    exact ⟨ret_int (byteAt_lt hlt).symm, _, drew2 _ _ _⟩
  · have e : p = s.size := by omega
    subst e
    go_enter Try.func79, Try.ntmps79
    go_wp2
    go_quiet (fail)
    go_wp2
    go_ret
    exact ⟨ret_int (byteAt_ge hlt).symm, _, rfl⟩

theorem byteAt_bd (s : ByteArray) (p : Nat) : 0 ≤ byteAt s p ∧ byteAt s p ≤ 255 := by
  unfold byteAt
  split
  · have := UInt8.toNat_lt (s[p]); omega
  · omega

/-! the reader's block, and what else may turn -/


theorem heap_set {w : World} {b i : Nat} {C : Array Value} {T : TypeId} {fz : Nat × Nat} {v : Value} (h : w.heap[b]? = some (.cells C T fz)) : (w.setCell ⟨b, i, none⟩ v).heap[b]? = some (.cells (C.setIfInBounds i v) T fz) := by
  simp [World.setCell, Array.getElem?_modify, h]
theorem heap_set_other {w : World} {b k i : Nat} {v : Value} (h : k ≠ b) : (w.setCell ⟨b, i, none⟩ v).heap[k]? = w.heap[k]? := by
  simp only [World.setCell, Array.getElem?_modify]
  rw [if_neg (by simpa using fun e => h e.symm)]
theorem grown_refl (w : World) (row : Option Nat) : w.grownBy w row := ⟨rfl, rfl, rfl, Nat.le_refl _, fun _ _ _ => rfl⟩
theorem grown_drewN (w : World) (n : Nat) (row : Option Nat) : w.grownBy (w.drewN n) row := ⟨rfl, rfl, rfl, Nat.le_refl _, fun _ _ _ => rfl⟩
theorem grown_set (w : World) (b i : Nat) (v : Value) : w.grownBy (w.setCell ⟨b, i, none⟩ v) (some b) :=
  ⟨rfl, rfl, rfl, by simp [World.setCell], fun k _ h => heap_set_other (fun e => h (by rw [e]))⟩
theorem grown_trans {w a c : World} {row : Option Nat} (h : w.grownBy a row) (k : a.grownBy c row) : w.grownBy c row :=
  ⟨k.os.trans h.os, k.tape.trans h.tape, k.output.trans h.output, Nat.le_trans h.size k.size, fun i hi hne => (k.block i (Nat.lt_of_lt_of_le hi h.size) hne).trans (h.block i hi hne)⟩

abbrev rdCells (s : ByteArray) (p m d : Nat) (pv : Value) : Array Value := #[.string s, .int .i64 p, .map (some m), .int .i64 d, pv]
/-- the reader's block b: the text s, the place p, the shapes' map m, the depth d, the parts pv -/
def Rd (w : World) (b : Nat) (s : ByteArray) (p m d : Nat) (pv : Value) : Prop := w.heap[b]? = some (.cells (rdCells s p m d pv) 104 (0, 0))
theorem Rd.lt {w : World} {b : Nat} {s : ByteArray} {p m d : Nat} {pv : Value} (h : Rd w b s p m d pv) : b < w.heap.size := (Array.getElem?_eq_some_iff.1 h).1
theorem Rd.c0 {w : World} {b : Nat} {s : ByteArray} {p m d : Nat} {pv : Value} (h : Rd w b s p m d pv) : w.cell? ⟨b, 0, none⟩ = some (.string s) := cell_of h 0 rfl
theorem Rd.c1 {w : World} {b : Nat} {s : ByteArray} {p m d : Nat} {pv : Value} (h : Rd w b s p m d pv) : w.cell? ⟨b, 1, none⟩ = some (.int .i64 p) := cell_of h 1 rfl
theorem Rd.c2 {w : World} {b : Nat} {s : ByteArray} {p m d : Nat} {pv : Value} (h : Rd w b s p m d pv) : w.cell? ⟨b, 2, none⟩ = some (.map (some m)) := cell_of h 2 rfl
theorem Rd.c3 {w : World} {b : Nat} {s : ByteArray} {p m d : Nat} {pv : Value} (h : Rd w b s p m d pv) : w.cell? ⟨b, 3, none⟩ = some (.int .i64 d) := cell_of h 3 rfl
theorem Rd.c4 {w : World} {b : Nat} {s : ByteArray} {p m d : Nat} {pv : Value} (h : Rd w b s p m d pv) : w.cell? ⟨b, 4, none⟩ = some pv := cell_of h 4 rfl
theorem Rd.f {w : World} {b : Nat} {s : ByteArray} {p m d : Nat} {pv : Value} (h : Rd w b s p m d pv) (i : Nat) : w.frozen? ⟨b, i, none⟩ = false := free_of h i
theorem Rd.drewN {w : World} {b : Nat} {s : ByteArray} {p m d : Nat} {pv : Value} (h : Rd w b s p m d pv) (n : Nat) : Rd (w.drewN n) b s p m d pv := h
theorem Rd.set1 {w : World} {b : Nat} {s : ByteArray} {p m d : Nat} {pv : Value} (h : Rd w b s p m d pv) (q : Nat) : Rd (w.setCell ⟨b, 1, none⟩ (.int .i64 q)) b s q m d pv := heap_set h
theorem Rd.set3 {w : World} {b : Nat} {s : ByteArray} {p m d : Nat} {pv : Value} (h : Rd w b s p m d pv) (q : Nat) : Rd (w.setCell ⟨b, 3, none⟩ (.int .i64 q)) b s p m q pv := heap_set h
theorem Rd.set4 {w : World} {b : Nat} {s : ByteArray} {p m d : Nat} {pv : Value} (h : Rd w b s p m d pv) (v : Value) : Rd (w.setCell ⟨b, 4, none⟩ v) b s p m d v := heap_set h
theorem Rd.alloc {w : World} {b : Nat} {s : ByteArray} {p m d : Nat} {pv : Value} (h : Rd w b s p m d pv) (o : Obj) : Rd (w.alloc o) b s p m d pv := (Below.heap_alloc w o b h.lt).trans h
theorem Rd.setOther {w : World} {b : Nat} {s : ByteArray} {p m d : Nat} {pv : Value} (h : Rd w b s p m d pv) {k i : Nat} {v : Value} (hk : b ≠ k) : Rd (w.setCell ⟨k, i, none⟩ v) b s p m d pv := (heap_set_other hk).trans h

def faultV : Value := .iface 125 (.agg #[])
def faultC : List PanicEntry := [{ v := faultV, recovered := false }]

theorem need_ok (w : World) : Calls Try.prog 72 #[.bool true] w fun e w' => e = .returned (.tuple #[]) ∧ w = w' := by
  go_enter Try.func72, Try.ntmps72
  go_wp2
  go_end0
  exact ⟨rfl, rfl⟩
theorem need_bad (w : World) : Calls Try.prog 72 #[.bool false] w fun e w' => e = .panicked faultC ∧ w = w' := by
  go_enter Try.func72, Try.ntmps72
  go_wp2
  exact ⟨rfl, rfl, rfl⟩
end Go.Proofs.Ytjbmcjppaadkgaa

namespace Go.Proofs.Ytjbmcjppaadkgaa
set_option linter.unusedVariables false
set_option linter.unusedSimpArgs false
set_option maxRecDepth 100000
open Go.RowKit

theorem pass_ok (s : ByteArray) (p m d b : Nat) (pv : Value) (c : Int) (w : World) (hs : s.size ≤ maxLen) (hp : p < s.size) (hc : byteAt s p = c) (h : Rd w b s p m d pv) :
    Calls Try.prog 87 #[.pointer (some ⟨b, 0, none⟩), .int .u8 c] w fun e w' => e = .returned (.tuple #[]) ∧ Rd w' b s (p + 1) m d pv ∧ w.grownBy w' (some b) := by
  have hsm := hs
  unfold maxLen at hs
  have H := Lib.hid h
  have h0 := h.c0; have h1 := h.c1; have f1 := h.f 1
  clear h
  have ht : (byteAt s p == c) = true := by simpa using hc
  clear hc
  go_enter Try.func87, Try.ntmps87
  go_wp2_with (first | (go_at_call 79; ((with_reducible refine (next_any s p b _ hsm (by omega) (by assumption) (by assumption)).mono ?_); rintro e w' ⟨rfl, n1, rfl⟩)) | (go_at_call 72; ((with_reducible refine (need_ok _).mono ?_); rintro e w' ⟨rfl, rfl⟩)) | fail)
  go_end0
  refine ⟨rfl, ?_, ?_⟩
  · exact (H.out.drewN n1).set1 (p + 1)
  · exact grown_trans (grown_drewN _ n1 _) (grown_set _ _ _ _)

theorem pass_bad (s : ByteArray) (p m d b : Nat) (pv : Value) (c : Int) (w : World) (hs : s.size ≤ maxLen) (hp : p ≤ s.size) (hc : byteAt s p ≠ c) (h : Rd w b s p m d pv) :
    Calls Try.prog 87 #[.pointer (some ⟨b, 0, none⟩), .int .u8 c] w fun e w' => e = .panicked faultC ∧ w.grownBy w' (some b) := by
  have hsm := hs
  unfold maxLen at hs
  have h0 := h.c0; have h1 := h.c1
  clear h
  have ht : (byteAt s p == c) = false := beqf hc
  clear hc
  go_enter Try.func87, Try.ntmps87
  go_wp2_with (first | (go_at_call 79; ((with_reducible refine (next_any s p b _ hsm (by omega) (by assumption) (by assumption)).mono ?_); rintro e w' ⟨rfl, n1, rfl⟩)) | (go_at_call 72; ((with_reducible refine (need_bad _).mono ?_); rintro e w' ⟨rfl, rfl⟩)) | fail)
  exact ⟨rfl, rfl, grown_drewN _ n1 _⟩
end Go.Proofs.Ytjbmcjppaadkgaa

namespace Go.Proofs.Ytjbmcjppaadkgaa
set_option linter.unusedVariables false
set_option linter.unusedSimpArgs false
set_option maxRecDepth 100000
open Go.RowKit

theorem drop_at (s : ByteArray) (q : Nat) (h : q < s.size) : s.data.toList.drop q = s[q] :: s.data.toList.drop (q + 1) := by
  rw [List.drop_eq_getElem_cons (by simpa using h)]; rfl
theorem drop_end (s : ByteArray) (q : Nat) (h : ¬ q < s.size) : s.data.toList.drop q = [] := List.drop_eq_nil_of_le (by simp; omega)
theorem byte_lt (s : ByteArray) (q : Nat) (h : q < s.size) : (byteAt s q).toNat.toUInt8 = s[q] := by
  rw [byteAt_lt h]; simp
theorem byte_ge (s : ByteArray) (q : Nat) (h : ¬ q < s.size) : (byteAt s q).toNat.toUInt8 = 0 := by
  rw [byteAt_ge h]; rfl

/-- a piece of the text -/
def sub (s : ByteArray) (p q : Nat) : ByteArray := ⟨((s.data.toList.drop p).take (q - p)).toArray⟩
theorem slice_str (s : ByteArray) (p q : Nat) (h1 : p ≤ q) (h2 : q ≤ s.size) : s.extract p q = sub s p q := by
  apply ByteArray.ext
  simp only [sub, ByteArray.data_extract]
  apply Array.toList_inj.1
  simp [Array.toList_extract, List.extract_eq_take_drop, List.drop_take]

theorem run_step {s : ByteArray} {p q : Nat} {P : UInt8 → Bool} (hpq : p ≤ q) (hq : q < s.size) (hP : P s[q] = true)
    (h : (s.data.toList.drop p).takeWhile P = (s.data.toList.drop p).take (q - p) ++ (s.data.toList.drop q).takeWhile P) :
    (s.data.toList.drop p).takeWhile P = (s.data.toList.drop p).take (q + 1 - p) ++ (s.data.toList.drop (q + 1)).takeWhile P := by
  rw [h, drop_at s q hq, List.takeWhile_cons_of_pos hP]
  rw [show q + 1 - p = (q - p) + 1 by omega, List.take_succ_eq_append_getElem (i := q - p) (by simp; omega), List.append_assoc]
  simp only [List.getElem_drop, show p + (q - p) = q by omega]
  rfl
theorem run_end {s : ByteArray} {p q : Nat} {P : UInt8 → Bool} (hpq : p ≤ q) (hqs : q ≤ s.size) (hP : ∀ h : q < s.size, P s[q] = false)
    (h : (s.data.toList.drop p).takeWhile P = (s.data.toList.drop p).take (q - p) ++ (s.data.toList.drop q).takeWhile P) :
    (s.data.toList.drop p).takeWhile P = (s.data.toList.drop p).take (q - p) ∧ ((s.data.toList.drop p).takeWhile P).length = q - p := by
  have e : (s.data.toList.drop q).takeWhile P = [] := by
    by_cases hq : q < s.size
    · rw [drop_at s q hq, List.takeWhile_cons_of_neg (by rw [hP hq]; decide)]
    · rw [drop_end s q hq]; rfl
  rw [e, List.append_nil] at h
  refine ⟨h, ?_⟩
  rw [h]; simp; omega

theorem run_any (set : ByteArray) (P : UInt8 → Bool) (hP : ∀ c : UInt8, decide (0 ≤ Lib.indexByte set.data.toList c) = P c) (hP0 : P 0 = false)
    (s : ByteArray) (p m d b : Nat) (pv : Value) (w : World) (hs : s.size ≤ maxLen) (hp : p ≤ s.size) (h : Rd w b s p m d pv) :
    Calls Try.prog 81 #[.pointer (some ⟨b, 0, none⟩), .string set] w fun e w' =>
      e = .returned (.string ⟨((s.data.toList.drop p).takeWhile P).toArray⟩) ∧ Rd w' b s (p + ((s.data.toList.drop p).takeWhile P).length) m d pv ∧ w.grownBy w' (some b) := by
  have hsm := hs
  unfold maxLen at hs
  have H := Lib.hid h
  have h1 := h.c1
  have HP := Lib.hid hP
  clear h hP
  go_enter Try.func81, Try.ntmps81
  go_wp2
  refine wp_scope_goto 0 (fun n a' w' => ∃ q : Nat, ∃ (u2 u3 u6 u7 u8 u9 u10 u11 u12 u13 u14 u15 u16 u17 u18 u19 u20 u21 u22 u23 u24 u25 u26 u27 u28 u29 u30 u31 : Value), a' = { tmps := #[.pointer (some ⟨b, 0, none⟩), .string set, u2, u3, .string ⟨#[]⟩, .int .i64 p, u6, u7, u8, u9, u10, u11, u12, u13, u14, u15, u16, u17, u18, u19, u20, u21, u22, u23, u24, u25, u26, u27, u28, u29, u30, u31], defers := [] } ∧ p ≤ q ∧ q ≤ s.size ∧ n = s.size - q ∧ Rd w' b s q m d pv ∧ w.grownBy w' (some b) ∧ (s.data.toList.drop p).takeWhile P = (s.data.toList.drop p).take (q - p) ++ (s.data.toList.drop q).takeWhile P) rfl ?_ ?_
  · intro R hpass hout
    go_wp2
    go_step3
    go_step
    go_step
    exact hpass _ _ _ ⟨p, _, _, _, _, _, _, _, _, _, _, _, _, _, _, _, _, _, _, _, _, _, _, _, _, _, _, _, _, rfl, Nat.le_refl _, hp, rfl, H.out, grown_refl _ _, by simp⟩
  · intro n a' w' hrel J hJ
    obtain ⟨q, u2, u3, u6, u7, u8, u9, u10, u11, u12, u13, u14, u15, u16, u17, u18, u19, u20, u21, u22, u23, u24, u25, u26, u27, u28, u29, u30, u31, rfl, hpq, hqs, rfl, hR, hG, hT⟩ := hrel
    have HR := Lib.hid hR
    have HG := Lib.hid hG
    have HT := Lib.hid hT
    have g0 := hR.c0; have g1 := hR.c1; have f1 := hR.f 1
    clear hR hG hT
    by_cases hlt : q < s.size ∧ P (byteAt s q).toNat.toUInt8 = true
    · obtain ⟨hq, hPq⟩ := hlt
      have hix : 0 ≤ Lib.indexByte set.data.toList (UInt8.ofNat (byteAt s q).toNat) := by have := HP.out (byteAt s q).toNat.toUInt8; rw [hPq] at this; exact of_decide_eq_true this
      have HQ : Hid (P s[q] = true) := Lib.hid (by rw [← byte_lt s q hq]; exact hPq)
      clear hPq
      go_wp2_with (first | (go_at_call 79; ((with_reducible refine (next_any s q b _ hsm (by omega) (by assumption) (by assumption)).mono ?_); rintro e w' ⟨rfl, n1, rfl⟩)) | (go_at_call 78; ((with_reducible refine (Try.strings_IndexByte set _ _).mono ?_); rintro e w' ⟨rfl, hw⟩; subst hw)) | fail)
      go_step3
      go_step
      refine jump_back (hJ (s.size - (q + 1)) _ _ (by omega) ⟨q + 1, _, _, _, _, _, _, _, _, _, _, _, _, _, _, _, _, _, _, _, _, _, _, _, _, _, _, _, _, rfl, by omega, by omega, rfl, (HR.out.drewN n1).set1 (q + 1), ?_, run_step hpq hq HQ.out HT.out⟩)
      exact grown_trans HG.out (grown_trans (grown_drewN _ n1 _) (grown_set _ _ _ _))
    · have hix : Lib.indexByte set.data.toList (UInt8.ofNat (byteAt s q).toNat) < 0 := by
        have hf : P (byteAt s q).toNat.toUInt8 = false := by
          by_cases hq : q < s.size
          · simpa [hq] using hlt
          · rw [byte_ge s q hq]; exact hP0
        have := HP.out (byteAt s q).toNat.toUInt8
        rw [hf] at this
        have h2 := of_decide_eq_false this
        exact Int.not_le.1 h2
      have HQ : Hid (∀ h : q < s.size, P s[q] = false) := Lib.hid (by
        intro hq
        rw [← byte_lt s q hq]; simpa [hq] using hlt)
      clear hlt
      go_wp2_with (first | (go_at_call 79; ((with_reducible refine (next_any s q b _ hsm (by omega) (by assumption) (by assumption)).mono ?_); rintro e w' ⟨rfl, n1, rfl⟩)) | (go_at_call 78; ((with_reducible refine (Try.strings_IndexByte set _ _).mono ?_); rintro e w' ⟨rfl, hw⟩; subst hw)) | fail)
      go_quiet (fail)
      go_wp2
      refine jump_ret ?_
      go_ret
      obtain ⟨e1, e2⟩ := run_end hpq hqs HQ.out HT.out
      refine ⟨ret_str ?_, ?_, ?_⟩
      · rw [slice_str s p q hpq hqs, sub, e1]
      · rw [e2, show p + (q - p) = q by omega]; exact (HR.out.drewN n1).drewN nq
      · exact grown_trans HG.out (grown_trans (grown_drewN _ n1 _) (grown_drewN _ nq _))

theorem isDig_set (c : UInt8) : decide (0 ≤ Lib.indexByte (⟨#[48, 49, 50, 51, 52, 53, 54, 55, 56, 57]⟩ : ByteArray).data.toList c) = isDig c := by
  rw [← UInt8.ofNat_toNat (x := c)]
  have h := UInt8.toNat_lt c
  generalize c.toNat = n at h
  have key : ∀ n : Fin 256, decide (0 ≤ Lib.indexByte (⟨#[48, 49, 50, 51, 52, 53, 54, 55, 56, 57]⟩ : ByteArray).data.toList (UInt8.ofNat n.val)) = isDig (UInt8.ofNat n.val) := by decide
  exact key ⟨n, h⟩
theorem isHex_set (c : UInt8) : decide (0 ≤ Lib.indexByte (⟨#[48, 49, 50, 51, 52, 53, 54, 55, 56, 57, 97, 98, 99, 100, 101, 102]⟩ : ByteArray).data.toList c) = isHex c := by
  rw [← UInt8.ofNat_toNat (x := c)]
  have h := UInt8.toNat_lt c
  generalize c.toNat = n at h
  have key : ∀ n : Fin 256, decide (0 ≤ Lib.indexByte (⟨#[48, 49, 50, 51, 52, 53, 54, 55, 56, 57, 97, 98, 99, 100, 101, 102]⟩ : ByteArray).data.toList (UInt8.ofNat n.val)) = isHex (UInt8.ofNat n.val) := by decide
  exact key ⟨n, h⟩
theorem kind_set (c : UInt8) : Lib.indexByte (⟨#[48, 97, 110, 120, 112, 100, 104, 107, 109, 115, 108]⟩ : ByteArray).data.toList c + 1 = kindOf c := by
  rw [← UInt8.ofNat_toNat (x := c)]
  have h := UInt8.toNat_lt c
  generalize c.toNat = n at h
  have key : ∀ n : Fin 256, Lib.indexByte (⟨#[48, 97, 110, 120, 112, 100, 104, 107, 109, 115, 108]⟩ : ByteArray).data.toList (UInt8.ofNat n.val) + 1 = kindOf (UInt8.ofNat n.val) := by decide
  exact key ⟨n, h⟩
end Go.Proofs.Ytjbmcjppaadkgaa

namespace Go.Proofs.Ytjbmcjppaadkgaa
set_option linter.unusedVariables false
set_option linter.unusedSimpArgs false
set_option maxRecDepth 100000
open Go.RowKit

abbrev shapeV (sh : Shape) : Value := .agg #[.bool sh.numbered, .int .u64 sh.low, .int .u64 sh.high, .bool sh.hex, .int .i64 sh.least, .int .i64 sh.most, .bool sh.ordered]

theorem read_list (l : List UInt8) (hs : l.length ≤ maxLen) (w : World) :
    Calls Try.prog 89 #[.string ⟨l.toArray⟩] w fun e w' => e = .returned (.tuple #[.int .u64 (rdVal l), .int .i64 (rdCode l)]) ∧ w = w' :=
  read_any ⟨l.toArray⟩ (by simpa [ByteArray.size] using hs) w
theorem rdVal_bd (l : List UInt8) : 0 ≤ rdVal l ∧ rdVal l ≤ 18446744073709551615 := by
  unfold rdVal
  split
  · omega
  · split
    · omega
    · rename_i h; unfold top at h; omega
theorem digs_run_le (P : UInt8 → Bool) (s : ByteArray) (p : Nat) : ((s.data.toList.drop p).takeWhile P).length ≤ s.size - p := by
  have := (List.takeWhile_sublist P (l := s.data.toList.drop p)).length_le
  simpa using this

/-- where a rest stands -/
def posOf (s : ByteArray) (rest : List UInt8) : Nat := s.size - rest.length
theorem suf_pos {s : ByteArray} {p : Nat} {rest : List UInt8} (hp : p ≤ s.size) (h : rest <:+ s.data.toList.drop p) : p ≤ posOf s rest ∧ posOf s rest ≤ s.size ∧ rest = s.data.toList.drop (posOf s rest) := by
  obtain ⟨x, hx⟩ := h
  have hl := congrArg List.length hx
  simp at hl
  unfold posOf
  refine ⟨by omega, by omega, ?_⟩
  have : s.data.toList.drop (s.size - rest.length) = (s.data.toList.drop p).drop x.length := by
    rw [List.drop_drop]; congr 1; omega
  rw [this, ← hx, List.drop_left]
theorem posOf_drop (s : ByteArray) (p : Nat) (hp : p ≤ s.size) : posOf s (s.data.toList.drop p) = p := by
  unfold posOf; simp; omega
theorem posOf_dropWhile (P : UInt8 → Bool) (s : ByteArray) (p : Nat) (hp : p ≤ s.size) : p + ((s.data.toList.drop p).takeWhile P).length = posOf s ((s.data.toList.drop p).dropWhile P) := by
  have h := congrArg List.length (List.takeWhile_append_dropWhile (p := P) (l := s.data.toList.drop p))
  simp only [List.length_append, List.length_drop, Array.length_toList, ByteArray.size_data] at h
  unfold posOf; omega

theorem grown_box {w w1 : World} {b : Nat} {C : Array Value} {T : TypeId} (hG : (w.alloc (.cells C T)).grownBy w1 (some b)) (hb : b < w.heap.size) : w1.heap[w.heap.size]? = some (.cells C T (0, 0)) := by
  rw [hG.block w.heap.size (by simp) (by simp; omega)]
  exact (MapKept.heap_alloc w _).1

theorem number_none (sh : Shape) (hn : sh.numbered = false) (s : ByteArray) (p m d b : Nat) (pv : Value) (w : World) (h : Rd w b s p m d pv) :
    Calls Try.prog 82 #[.pointer (some ⟨b, 0, none⟩), shapeV sh] w fun e w' => e = .returned (.int .u64 0) ∧ Rd w' b s p m d pv ∧ w.grownBy w' (some b) := by
  have H := Lib.hid h
  clear h
  go_enter Try.func82, Try.ntmps82
  go_wp2
  go_ret
  exact ⟨rfl, H.out.alloc _, World.grownBy_alloc _ _ _⟩

theorem number_ok (sh : Shape) (hn : sh.numbered = true) (s : ByteArray) (p m d b : Nat) (pv : Value) (w : World) (hs : s.size ≤ maxLen) (hp : p ≤ s.size) (h : Rd w b s p m d pv)
    (hin : numIn sh.low sh.high ((s.data.toList.drop p).takeWhile isDig) = true) :
    Calls Try.prog 82 #[.pointer (some ⟨b, 0, none⟩), shapeV sh] w fun e w' => e = .returned (.int .u64 (rdVal ((s.data.toList.drop p).takeWhile isDig))) ∧ Rd w' b s (posOf s ((s.data.toList.drop p).dropWhile isDig)) m d pv ∧ w.grownBy w' (some b) := by
  have hsm := hs
  unfold maxLen at hs
  have hl := digs_run_le isDig s p
  simp only [numIn, decide_eq_true_eq] at hin
  obtain ⟨hc, h1, h2⟩ := hin
  have H := Lib.hid h
  have hb := h.lt
  have hc1 : (rdCode ((s.data.toList.drop p).takeWhile isDig) == 0) = true := by simpa using hc
  clear h hc
  go_enter Try.func82, Try.ntmps82
  go_wp2_with (first | (go_at_call 81; ((with_reducible refine (run_any _ isDig isDig_set rfl s p m d b pv _ hsm (by omega) (H.out.alloc _)).mono ?_); rintro e w1 ⟨rfl, hR1, hG1⟩; have HR1 := Lib.hid hR1; have HG1 := Lib.hid hG1; have hbx := grown_box hG1 hb; have hx1 := cell_of hbx 1 rfl; have hx2 := cell_of hbx 2 rfl; clear hR1 hG1 hbx)) | (go_at_call 89; ((with_reducible refine (read_list _ (by unfold maxLen; omega) _).mono ?_); rintro e w' ⟨rfl, rfl⟩)) | (go_at_call 72; ((with_reducible refine (need_ok _).mono ?_); rintro e w' ⟨rfl, rfl⟩)) | fail)
  go_ret
  exact ⟨rfl, by have := HR1.out; rw [posOf_dropWhile isDig s p (by omega)] at this; exact this, grown_trans (World.grownBy_alloc _ _ _) HG1.out⟩

theorem number_bad (sh : Shape) (hn : sh.numbered = true) (s : ByteArray) (p m d b : Nat) (pv : Value) (w : World) (hs : s.size ≤ maxLen) (hp : p ≤ s.size) (h : Rd w b s p m d pv)
    (hin : numIn sh.low sh.high ((s.data.toList.drop p).takeWhile isDig) = false) :
    Calls Try.prog 82 #[.pointer (some ⟨b, 0, none⟩), shapeV sh] w fun e w' => e = .panicked faultC ∧ w.grownBy w' (some b) := by
  have hsm := hs
  unfold maxLen at hs
  have hl := digs_run_le isDig s p
  have hcase : (rdCode ((s.data.toList.drop p).takeWhile isDig) ≠ 0) ∨ (rdCode ((s.data.toList.drop p).takeWhile isDig) = 0 ∧ rdVal ((s.data.toList.drop p).takeWhile isDig) < sh.low) ∨
      (rdCode ((s.data.toList.drop p).takeWhile isDig) = 0 ∧ sh.low ≤ rdVal ((s.data.toList.drop p).takeWhile isDig) ∧ (sh.high : Int) < rdVal ((s.data.toList.drop p).takeWhile isDig)) := by
    simp only [numIn, decide_eq_false_iff_not] at hin
    omega
  have H := Lib.hid h
  have hb := h.lt
  clear h hin
  rcases hcase with hc | ⟨hc, h1⟩ | ⟨hc, h1, h2⟩
  · have hc1 : (rdCode ((s.data.toList.drop p).takeWhile isDig) == 0) = false := beqf hc
    clear hc
    go_enter Try.func82, Try.ntmps82
    go_wp2_with (first | (go_at_call 81; ((with_reducible refine (run_any _ isDig isDig_set rfl s p m d b pv _ hsm (by omega) (H.out.alloc _)).mono ?_); rintro e w1 ⟨rfl, hR1, hG1⟩; have HR1 := Lib.hid hR1; have HG1 := Lib.hid hG1; have hbx := grown_box hG1 hb; have hx1 := cell_of hbx 1 rfl; have hx2 := cell_of hbx 2 rfl; clear hR1 hG1 hbx)) | (go_at_call 89; ((with_reducible refine (read_list _ (by unfold maxLen; omega) _).mono ?_); rintro e w' ⟨rfl, rfl⟩)) | (go_at_call 72; ((with_reducible refine (need_bad _).mono ?_); rintro e w' ⟨rfl, rfl⟩)) | fail)
    exact ⟨rfl, rfl, grown_trans (World.grownBy_alloc _ _ _) HG1.out⟩
  · have hc1 : (rdCode ((s.data.toList.drop p).takeWhile isDig) == 0) = true := by simpa using hc
    have hc2 : decide ((sh.low : Int) ≤ rdVal ((s.data.toList.drop p).takeWhile isDig)) = false := by simpa using h1
    clear hc h1
    go_enter Try.func82, Try.ntmps82
    go_wp2_with (first | (go_at_call 81; ((with_reducible refine (run_any _ isDig isDig_set rfl s p m d b pv _ hsm (by omega) (H.out.alloc _)).mono ?_); rintro e w1 ⟨rfl, hR1, hG1⟩; have HR1 := Lib.hid hR1; have HG1 := Lib.hid hG1; have hbx := grown_box hG1 hb; have hx1 := cell_of hbx 1 rfl; have hx2 := cell_of hbx 2 rfl; clear hR1 hG1 hbx)) | (go_at_call 89; ((with_reducible refine (read_list _ (by unfold maxLen; omega) _).mono ?_); rintro e w' ⟨rfl, rfl⟩)) | (go_at_call 72; ((with_reducible refine (need_bad _).mono ?_); rintro e w' ⟨rfl, rfl⟩)) | fail)
    exact ⟨rfl, rfl, grown_trans (World.grownBy_alloc _ _ _) HG1.out⟩
  · have hc1 : (rdCode ((s.data.toList.drop p).takeWhile isDig) == 0) = true := by simpa using hc
    have hc2 : decide (rdVal ((s.data.toList.drop p).takeWhile isDig) ≤ (sh.high : Int)) = false := by simpa using h2
    clear hc h2
    go_enter Try.func82, Try.ntmps82
    go_wp2_with (first | (go_at_call 81; ((with_reducible refine (run_any _ isDig isDig_set rfl s p m d b pv _ hsm (by omega) (H.out.alloc _)).mono ?_); rintro e w1 ⟨rfl, hR1, hG1⟩; have HR1 := Lib.hid hR1; have HG1 := Lib.hid hG1; have hbx := grown_box hG1 hb; have hx1 := cell_of hbx 1 rfl; have hx2 := cell_of hbx 2 rfl; clear hR1 hG1 hbx)) | (go_at_call 89; ((with_reducible refine (read_list _ (by unfold maxLen; omega) _).mono ?_); rintro e w' ⟨rfl, rfl⟩)) | (go_at_call 72; ((with_reducible refine (need_bad _).mono ?_); rintro e w' ⟨rfl, rfl⟩)) | fail)
    exact ⟨rfl, rfl, grown_trans (World.grownBy_alloc _ _ _) HG1.out⟩
end Go.Proofs.Ytjbmcjppaadkgaa

namespace Go.Proofs.Ytjbmcjppaadkgaa
set_option linter.unusedVariables false
set_option linter.unusedSimpArgs false
set_option maxRecDepth 100000
open Go.RowKit

def shapeAt (k : Nat) : Shape := (shapeOf k).getD ⟨false, 0, 0, false, 0, 0, false⟩
def entry (k : Nat) : MapEntry := { key := .int .i64 k, val := shapeV (shapeAt k), born := k - 1 }
/-- the map's entries when n shapes have been laid -/
def esN : Nat → Array MapEntry
  | 0 => #[]
  | n + 1 => (esN n).push (entry (n + 1))

theorem alloc_modify (w : World) (o o' : Obj) : ({ w.alloc o with heap := (w.alloc o).heap.setIfInBounds w.heap.size o' } : World) = w.alloc o' := by
  have e : (w.heap.push o).setIfInBounds w.heap.size o' = w.heap.push o' := by
    apply Array.ext'
    simp
  show ({ w with heap := (w.heap.push o).setIfInBounds w.heap.size o' } : World) = { w with heap := w.heap.push o' }
  rw [e]
theorem int_check (w : World) (e : Bool) (k : Int) : (Instr.checkKey e 10000 3 (.int .i64 k)).run Try.prog w = .ok () w :=
  MapKept.run_checkKey Try.underlying3 (by simp [MapKept.IsKey]) e 9999
theorem find_now (w : World) (k : Int) (es : List MapEntry) (r : Option (Nat × Value)) (h : Instr.findNow (.int .i64) (.int .i64 k) es 0 = some r) : (Instr.findKey 3 (.int .i64 k) es).run Try.prog w = .ok r w := by
  simp [Instr.findKey, run_underlying Try.underlying3, h, Result.andThen]

theorem ins (w : World) (k : Nat) (v : Value) (es : Array MapEntry) (clk : Nat) (h : Instr.findNow (.int .i64) (.int .i64 k) es.toList 0 = some none) :
    (Instr.mapUpdate 84 (.map (some w.heap.size)) (.int .i64 k) v).run Try.prog (w.alloc (.map es clk)) = .ok () (w.alloc (.map (es.push { key := .int .i64 k, val := v, born := clk }) (clk + 1))) := by
  have hb : (w.alloc (.map es clk)).heap[w.heap.size]? = some (.map es clk) := (MapKept.heap_alloc w _).1
  have hc := int_check (w.alloc (.map es clk)) false k
  have hf := find_now (w.alloc (.map es clk)) k es.toList none h
  have hm := alloc_modify w (.map es clk) (.map (es.push { key := .int .i64 k, val := v, born := clk }) (clk + 1))
  simp only [Instr.mapUpdate, Sem.run_bind, run_underlying Try.underlying84, MapKept.run_getObj_map hb, hc, hf, MapKept.run_setObj_map _ hb, Result.andThen, hm]

theorem look_some (w : World) (m k : Nat) (hm : w.heap[m]? = some (.map (esN 11) 11)) (h1 : 1 ≤ k) (h2 : k ≤ 11) :
    (Instr.lookup 84 (.map (some m)) (.int .i64 k) true).run Try.prog w = .ok (.tuple #[shapeV (shapeAt k), .bool true]) w := by
  have hf : Instr.findNow (.int .i64) (.int .i64 k) (esN 11).toList 0 = some (some (k - 1, shapeV (shapeAt k))) := by
    rcases (show k = 1 ∨ k = 2 ∨ k = 3 ∨ k = 4 ∨ k = 5 ∨ k = 6 ∨ k = 7 ∨ k = 8 ∨ k = 9 ∨ k = 10 ∨ k = 11 by omega) with rfl | rfl | rfl | rfl | rfl | rfl | rfl | rfl | rfl | rfl | rfl <;> rfl
  have hc := int_check w ((esN 11).isEmpty) k
  have hg := find_now w k _ _ hf
  simp only [Instr.lookup, Sem.run_bind, Sem.run_pure, run_underlying Try.underlying84, MapKept.run_getObj_map hm, hc, hg, Result.andThen, if_true]
theorem zero_shape (w : World) : (zeroValue 82).run Try.prog w = .ok (shapeV (shapeAt 0)) w := by kernel_rfl
theorem look_none (w : World) (m : Nat) (hm : w.heap[m]? = some (.map (esN 11) 11)) :
    (Instr.lookup 84 (.map (some m)) (.int .i64 0) true).run Try.prog w = .ok (.tuple #[shapeV (shapeAt 0), .bool false]) w := by
  have hf : Instr.findNow (.int .i64) (.int .i64 0) (esN 11).toList 0 = some none := rfl
  have hc := int_check w ((esN 11).isEmpty) 0
  have hg := find_now w 0 _ _ hf
  have hz := zero_shape w
  simp only [Instr.lookup, Sem.run_bind, Sem.run_pure, run_underlying Try.underlying84, MapKept.run_getObj_map hm, hc, hg, hz, Result.andThen, if_true]

theorem shapes_any (w : World) : Calls Try.prog 54 #[] w fun e w' => e = .returned (.map (some w.heap.size)) ∧ w' = w.alloc (.map (esN 11) 11) := by
  have h0 : (Instr.makeMap 84 none).run Try.prog w = .ok (.map (some w.heap.size)) (w.alloc (.map (esN 0) 0)) := run_makeMap _ _
  have h1 : (Instr.mapUpdate 84 (.map (some w.heap.size)) (.int .i64 1) (.agg #[.bool false, .int .u64 0, .int .u64 0, .bool false, .int .i64 0, .int .i64 0, .bool false])).run Try.prog (w.alloc (.map (esN 0) 0)) = .ok () (w.alloc (.map (esN 1) 1)) := ins w 1 _ (esN 0) 0 rfl
  have h2 : (Instr.mapUpdate 84 (.map (some w.heap.size)) (.int .i64 2) (.agg #[.bool true, .int .u64 0, .int .u64 4294967295, .bool false, .int .i64 0, .int .i64 0, .bool false])).run Try.prog (w.alloc (.map (esN 1) 1)) = .ok () (w.alloc (.map (esN 2) 2)) := ins w 2 _ (esN 1) 1 rfl
  have h3 : (Instr.mapUpdate 84 (.map (some w.heap.size)) (.int .i64 3) (.agg #[.bool true, .int .u64 0, .int .u64 18446744073709551615, .bool false, .int .i64 0, .int .i64 0, .bool false])).run Try.prog (w.alloc (.map (esN 2) 2)) = .ok () (w.alloc (.map (esN 3) 3)) := ins w 3 _ (esN 2) 2 rfl
  have h4 : (Instr.mapUpdate 84 (.map (some w.heap.size)) (.int .i64 4) (.agg #[.bool false, .int .u64 0, .int .u64 0, .bool true, .int .i64 0, .int .i64 0, .bool false])).run Try.prog (w.alloc (.map (esN 3) 3)) = .ok () (w.alloc (.map (esN 4) 4)) := ins w 4 _ (esN 3) 3 rfl
  have h5 : (Instr.mapUpdate 84 (.map (some w.heap.size)) (.int .i64 5) (.agg #[.bool false, .int .u64 0, .int .u64 0, .bool false, .int .i64 1, .int .i64 1, .bool false])).run Try.prog (w.alloc (.map (esN 4) 4)) = .ok () (w.alloc (.map (esN 5) 5)) := ins w 5 _ (esN 4) 4 rfl
  have h6 : (Instr.mapUpdate 84 (.map (some w.heap.size)) (.int .i64 6) (.agg #[.bool false, .int .u64 0, .int .u64 0, .bool false, .int .i64 2, .int .i64 2, .bool true])).run Try.prog (w.alloc (.map (esN 5) 5)) = .ok () (w.alloc (.map (esN 6) 6)) := ins w 6 _ (esN 5) 5 rfl
  have h7 : (Instr.mapUpdate 84 (.map (some w.heap.size)) (.int .i64 7) (.agg #[.bool false, .int .u64 0, .int .u64 0, .bool false, .int .i64 1, .int .i64 65536, .bool false])).run Try.prog (w.alloc (.map (esN 6) 6)) = .ok () (w.alloc (.map (esN 7) 7)) := ins w 7 _ (esN 6) 6 rfl
  have h8 : (Instr.mapUpdate 84 (.map (some w.heap.size)) (.int .i64 8) (.agg #[.bool true, .int .u64 1, .int .u64 3, .bool false, .int .i64 2, .int .i64 2, .bool false])).run Try.prog (w.alloc (.map (esN 7) 7)) = .ok () (w.alloc (.map (esN 8) 8)) := ins w 8 _ (esN 7) 7 rfl
  have h9 : (Instr.mapUpdate 84 (.map (some w.heap.size)) (.int .i64 9) (.agg #[.bool false, .int .u64 0, .int .u64 0, .bool false, .int .i64 2, .int .i64 2, .bool false])).run Try.prog (w.alloc (.map (esN 8) 8)) = .ok () (w.alloc (.map (esN 9) 9)) := ins w 9 _ (esN 8) 8 rfl
  have h10 : (Instr.mapUpdate 84 (.map (some w.heap.size)) (.int .i64 10) (.agg #[.bool true, .int .u64 0, .int .u64 18446744073709551615, .bool false, .int .i64 3, .int .i64 3, .bool false])).run Try.prog (w.alloc (.map (esN 9) 9)) = .ok () (w.alloc (.map (esN 10) 10)) := ins w 10 _ (esN 9) 9 rfl
  have h11 : (Instr.mapUpdate 84 (.map (some w.heap.size)) (.int .i64 11) (.agg #[.bool false, .int .u64 0, .int .u64 0, .bool false, .int .i64 0, .int .i64 65536, .bool false])).run Try.prog (w.alloc (.map (esN 10) 10)) = .ok () (w.alloc (.map (esN 11) 11)) := ins w 11 _ (esN 10) 10 rfl
  go_enter Try.func54, Try.ntmps54
  go_wp2
  go_ret
  exact ⟨rfl, rfl⟩
end Go.Proofs.Ytjbmcjppaadkgaa

namespace Go.Proofs.Ytjbmcjppaadkgaa
set_option linter.unusedVariables false
set_option linter.unusedSimpArgs false
set_option maxRecDepth 100000
open Go.RowKit


def strV (l : List UInt8) : Value := .string (strB l)
theorem Try.infoStr : (Try.prog.info? 9).map (fun i => (i.zero, i.size, i.bytes)) = some (some (.string ⟨#[]⟩), 1, 16) := by kernel_rfl

/-- the parts that are kept: at the outermost term's alone -/
def Parts (z : Bool) (R : Nat) (w : World) (pv pv' : Value) (ps : List (List UInt8)) : Prop :=
  match z with
  | true => w.ownsRow R 9 1 pv' ps.length (ps.map strV)
  | false => pv' = pv

theorem ownsRow_base {w : World} {B B' : Nat} {e : TypeId} {size : Nat} {v : Value} {n : Nat} {xs : List Value} (h : w.ownsRow B e size v n xs) (hB : B' ≤ B) : w.ownsRow B' e size v n xs := by
  refine ⟨h.1, ?_⟩
  rcases h.2 with h2 | ⟨g, cap, cur, h1, h2, rest⟩
  · exact .inl h2
  · exact .inr ⟨g, cap, cur, h1, Nat.le_trans hB h2, rest⟩
theorem Parts.base {z : Bool} {R R' : Nat} {w : World} {pv pv' : Value} {ps : List (List UInt8)} (h : Parts z R w pv pv' ps) (hR : R' ≤ R) : Parts z R' w pv pv' ps := by
  cases z with
  | true => exact ownsRow_base h hR
  | false => exact h
theorem own_ne {w : World} {B b : Nat} {e : TypeId} {size : Nat} {v : Value} {n : Nat} {xs : List Value} (h : w.ownsRow B e size v n xs) (hb : b < B) : v.ownBlock ≠ some b := by
  intro e
  have := h.lt b e
  omega
theorem Parts.kept {z : Bool} {R b : Nat} {w w' : World} {pv pv' : Value} {ps : List (List UInt8)} (h : Parts z R w pv pv' ps) (hb : b < R) (hG : w.grownBy w' (some b)) : Parts z R w' pv pv' ps := by
  cases z with
  | true => exact World.ownsRow.kept h hG (.inr (own_ne h hb))
  | false => exact h

def TOk (w : World) (b : Nat) (s : ByteArray) (m d : Nat) (pv : Value) (x : Nat × Nat × List (List UInt8) × List UInt8) (e : Ending) (w' : World) : Prop :=
  e = .returned (.tuple #[.int .i64 x.1, .int .u64 x.2.1]) ∧ ∃ pv', Rd w' b s (posOf s x.2.2.2) m d pv' ∧ w.grownBy w' (some b) ∧ Parts (d == 0) w.heap.size w' pv pv' x.2.2.1
def TBad (w : World) (b : Nat) (e : Ending) (w' : World) : Prop := e = .panicked faultC ∧ w.grownBy w' (some b)
def TPost (w : World) (b : Nat) (s : ByteArray) (m d : Nat) (pv : Value) (o : Option (Nat × Nat × List (List UInt8) × List UInt8)) (e : Ending) (w' : World) : Prop :=
  match o with
  | some x => TOk w b s m d pv x e w'
  | none => TBad w b e w'
def LPost (w : World) (b : Nat) (s : ByteArray) (m d : Nat) (pv : Value) (o : Option (List (List UInt8) × List UInt8)) (e : Ending) (w' : World) : Prop :=
  match o with
  | some x => e = .returned (.tuple #[]) ∧ ∃ pv', Rd w' b s (posOf s x.2) m d pv' ∧ w.grownBy w' (some b) ∧ Parts (d == 1) w.heap.size w' pv pv' x.1
  | none => TBad w b e w'

abbrev nilV : Value := .slice none 0 0
def TermIH (g : Nat) : Prop := ∀ (b m d p : Nat) (s : ByteArray) (pv : Value) (w : World), s.size ≤ 65536 → d ≤ p → p ≤ s.size → s.size - p ≤ g + 1 → Rd w b s p m d pv →
  w.heap[m]? = some (.map (esN 11) 11) → m ≠ b → (d = 0 → pv = nilV) → Calls Try.prog 71 #[.pointer (some ⟨b, 0, none⟩)] w (TPost w b s m d pv (qTermS (qLoop g) (s.data.toList.drop p)))

theorem TOk.deep {w : World} {b : Nat} {s : ByteArray} {m d : Nat} {pv : Value} {x : Nat × Nat × List (List UInt8) × List UInt8} {e : Ending} {w' : World} (hd : 1 ≤ d) (h : TOk w b s m d pv x e w') :
    e = .returned (.tuple #[.int .i64 x.1, .int .u64 x.2.1]) ∧ Rd w' b s (posOf s x.2.2.2) m d pv ∧ w.grownBy w' (some b) := by
  obtain ⟨he, pv', hR, hG, hP⟩ := h
  rw [show (d == 0) = false by simp; omega] at hP
  cases hP
  exact ⟨he, hR, hG⟩

theorem head_byte (s : ByteArray) (q : Nat) (c : UInt8) (hc : c ≠ 0) : (s.data.toList.drop q).head? = some c ↔ byteAt s q = c.toNat := by
  by_cases h : q < s.size
  · rw [drop_at s q h, byteAt_lt h]
    simp only [List.head?_cons, Option.some.injEq]
    exact ⟨fun e => by rw [e], fun e => UInt8.toNat_inj.1 (Int.ofNat.inj e)⟩
  · rw [drop_end s q h, byteAt_ge h]
    simp only [List.head?_nil, reduceCtorEq, false_iff]
    intro e
    exact hc (UInt8.toNat_inj.1 (by simp; omega))
theorem byte_in {s : ByteArray} {q : Nat} {c : Int} (hc : c ≠ 0) (h : byteAt s q = c) : q < s.size := by
  by_cases hq : q < s.size
  · exact hq
  · rw [byteAt_ge hq] at h; omega

theorem qTermS_len {L : Shape → LoopT} (hL : ∀ sh acc r x, L sh acc r = some x → x.2 <:+ r) {l : List UInt8} {x : Nat × Nat × List (List UInt8) × List UInt8} (h : qTermS L l = some x) : x.2.2.2 <:+ l ∧ x.2.2.2.length < l.length := by
  cases l with
  | nil => cases h
  | cons c r =>
    have key : x.2.2.2 <:+ r := by
      simp only [qTermS] at h
      obtain ⟨sh, _, h⟩ := Option.bind_eq_some_iff.1 h
      have hnum : ∀ {l : List UInt8} {y : Nat × List UInt8}, qNum sh l = some y → y.2 <:+ l := by
        intro l y hy
        unfold qNum at hy
        split at hy
        · split at hy
          · cases hy; exact List.dropWhile_suffix _
          · cases hy
        · cases hy; exact List.suffix_refl _
      have hpass : ∀ {c : UInt8} {l r : List UInt8}, pass c l = some r → r <:+ l := by
        intro c l r hp
        rw [pass_some] at hp; subst hp; exact List.suffix_cons ..
      split at h
      · obtain ⟨y, hy, e⟩ := Option.bind_eq_some_iff.1 h
        cases e
        unfold qIn at hy
        obtain ⟨r1, h1, hy⟩ := Option.bind_eq_some_iff.1 hy
        obtain ⟨r2, h2, hy⟩ := Option.bind_eq_some_iff.1 hy
        obtain ⟨r3, h3, hy⟩ := Option.bind_eq_some_iff.1 hy
        obtain ⟨r4, h4, hy⟩ := Option.bind_eq_some_iff.1 hy
        obtain ⟨r5, h5, hy⟩ := Option.bind_eq_some_iff.1 hy
        cases hy
        have s3 : r3 <:+ r2.2 := by
          unfold qComma at h3
          split at h3
          · exact hpass h3
          · cases h3; exact List.suffix_refl _
        have s4 : r4.2 <:+ r3 := by
          unfold qList at h4
          split at h4
          · cases h4; exact List.suffix_refl _
          · exact hL _ _ _ _ h4
        exact (hpass h5).trans (s4.trans (s3.trans ((hnum h2).trans (hpass h1))))
      · obtain ⟨y, hy, e⟩ := Option.bind_eq_some_iff.1 h
        cases e
        unfold qLeaf at hy
        split at hy
        · split at hy
          · exact (hnum hy).trans (List.dropWhile_suffix _)
          · cases hy
        · exact hnum hy
    exact ⟨key.trans (List.suffix_cons ..), by have := key.length_le; simp; omega⟩

theorem qLoop_suf : ∀ (f : Nat) (sh : Shape) (acc : List (List UInt8)) (r : List UInt8) (x : List (List UInt8) × List UInt8), qLoop f sh acc r = some x → x.2 <:+ r := by
  intro f
  induction f with
  | zero => intro sh acc r x h; cases h
  | succ f ih =>
    intro sh acc r x h
    simp only [qLoop] at h
    obtain ⟨y, hy, h⟩ := Option.bind_eq_some_iff.1 h
    have hs := (qTermS_len (fun sh acc r x => ih sh acc r x) hy).1
    split at h
    · cases h
    · split at h
      · exact ((ih _ _ _ _ h).trans (List.tail_suffix _)).trans hs
      · split at h
        · cases h; exact hs
        · cases h
theorem qTerm_suf {f : Nat} {l : List UInt8} {x : Nat × Nat × List (List UInt8) × List UInt8} (h : qTermS (qLoop f) l = some x) : x.2.2.2 <:+ l ∧ x.2.2.2.length < l.length :=
  qTermS_len (fun sh acc r x => qLoop_suf f sh acc r x) h

/-- the piece between two places -/
theorem part_eq (s : ByteArray) (q : Nat) (rest : List UInt8) (hq : q ≤ posOf s rest) (hq2 : posOf s rest ≤ s.size) (hl : rest.length ≤ s.size) : s.extract q (posOf s rest) = strB (partOf (s.data.toList.drop q) rest) := by
  rw [slice_str s q _ hq hq2]
  unfold sub strB partOf posOf
  congr 3
  simp; omega
end Go.Proofs.Ytjbmcjppaadkgaa
