/- Texts of this seat, merged: Tri12, Tri13, Tri14, AddrSpec, AddrMath, Addr6, AddrP1, AddrP2, AddrP3. -/
import Derived.Test.YtlmmnjoincmgcaaGT6
import Derived.Deep.Slices
import Derived.Deep.Fields
import Derived.ChangeSame
import Derived.WalkKit
import Derived.ProofKit
import Derived.OpenShut
import Derived.ChangeOld
import Derived.Lib.SmallJoins
import Derived.Lib.Join
import Derived.Laws.AppendOwnNone
import Derived.Lib.SliceRun
import Derived.Deep.Onto
import Derived.Shelf.RegionOpen
import Derived.OwnWalkIn
import Derived.TacticsInMore
import Derived.LoopNIn
import Derived.LoopIn
import Derived.StillTailTactics
namespace Go.Proofs.Ytlmmnjoincmgcaa
set_option linter.unusedVariables false
set_option linter.unusedSimpArgs false
set_option maxRecDepth 100000
open Go.RowKit
theorem bytes_lit4 (w : World) (x y z u : UInt8) : Bytes (w.alloc (.cells #[.int .u8 x.toNat, .int .u8 y.toNat, .int .u8 z.toNat, .int .u8 u.toNat] 5)) (.slice (some ⟨w.heap.size, 0, none⟩) 4 4) [x, y, z, u] := by
  have h := heap_alloc_new w (.cells #[.int .u8 x.toNat, .int .u8 y.toNat, .int .u8 z.toNat, .int .u8 u.toNat] 5)
  refine ⟨_, _, rfl, .inr ⟨_, 0, rfl, fun i hi => ?_⟩⟩
  rw [Nat.zero_add]
  match i, hi with
  | 0, _ => exact cell_of h 0 rfl
  | 1, _ => exact cell_of h 1 rfl
  | 2, _ => exact cell_of h 2 rfl
  | 3, _ => exact cell_of h 3 rfl
def exA : Rw := ⟨none, 0, [10, 0, 0, 0], 8, 1⟩
def exB : Rw := ⟨none, 0, [10, 0, 0, 0], 24, 2⟩
theorem ex_put1 : putV [] ⟨none, 0, plainS [10, 0, 0, 0] (8 : Int).toNat, 8, 1⟩ = [exA] := by kernel_rfl
theorem ex_put2 : putV [exA] ⟨none, 0, plainS [10, 0, 0, 0] (24 : Int).toNat, 24, 2⟩ = [exA, exB] := by kernel_rfl
theorem ex_own1 : ownerV [exA, exB] [10, 0, 0, 9] = (2, true) := by kernel_rfl
theorem ex_own2 : ownerV [exA, exB] [10, 0, 1, 9] = (1, true) := by kernel_rfl
theorem ex_p1 {T : World → Nat → Nat → List Rw → Prop} (C : TrieC T) (w : World) (base B : Nat) (h : T w base B []) (hs : base ≤ w.heap.size) :
    Calls Try.prog 8 #[.pointer (some ⟨B, 0, none⟩), .agg #[.slice (some ⟨w.heap.size, 0, none⟩) 4 4, .int .i64 8], .int .i64 1] ((w.alloc (.cells #[.int .u8 10, .int .u8 0, .int .u8 0, .int .u8 0] 5))) fun e w' => e = .returned (.int .i64 0) ∧ T w' base B [exA] ∧ Below base w w' := by
  refine (C.put ((w.alloc (.cells #[.int .u8 10, .int .u8 0, .int .u8 0, .int .u8 0] 5))) base B [] _ 4 [10, 0, 0, 0] 8 1 (C.below _ _ _ _ _ h (below_one _)) (by simp) (bytes_lit4 w 10 0 0 0) (by simp) (by decide) (by decide)).mono ?_
  rintro e w' ⟨rfl, ht, hk⟩
  have h2 := ht none 0
  rw [ex_put1] at h2
  exact ⟨rfl, h2, ((below_one _).mono hs).trans hk.bel⟩
theorem ex_p2 {T : World → Nat → Nat → List Rw → Prop} (C : TrieC T) (w : World) (base B : Nat) (h : T w base B [exA]) (hs : base ≤ w.heap.size) :
    Calls Try.prog 8 #[.pointer (some ⟨B, 0, none⟩), .agg #[.slice (some ⟨w.heap.size, 0, none⟩) 4 4, .int .i64 24], .int .i64 2] ((w.alloc (.cells #[.int .u8 10, .int .u8 0, .int .u8 0, .int .u8 0] 5))) fun e w' => e = .returned (.int .i64 0) ∧ T w' base B [exA, exB] ∧ Below base w w' := by
  refine (C.put ((w.alloc (.cells #[.int .u8 10, .int .u8 0, .int .u8 0, .int .u8 0] 5))) base B [exA] _ 4 [10, 0, 0, 0] 24 2 (C.below _ _ _ _ _ h (below_one _)) (by simp) (bytes_lit4 w 10 0 0 0) (by simp) (by decide) (by decide)).mono ?_
  rintro e w' ⟨rfl, ht, hk⟩
  have h2 := ht none 0
  rw [ex_put2] at h2
  exact ⟨rfl, h2, ((below_one _).mono hs).trans hk.bel⟩
theorem ex_o1 {T : World → Nat → Nat → List Rw → Prop} (C : TrieC T) (w : World) (base B : Nat) (h : T w base B [exA, exB]) :
    Calls Try.prog 15 #[.pointer (some ⟨B, 0, none⟩), .slice (some ⟨w.heap.size, 0, none⟩) 4 4] ((w.alloc (.cells #[.int .u8 10, .int .u8 0, .int .u8 0, .int .u8 9] 5))) fun e w' => e = .returned (.tuple #[.int .i64 2, .bool true]) ∧ T w' base B [exA, exB] ∧ Below w.heap.size w w' := by
  have h2 := C.below _ _ _ _ _ h (below_one (w := w) (.cells #[.int .u8 10, .int .u8 0, .int .u8 0, .int .u8 9] 5))
  refine (C.owner _ base B [exA, exB] _ [10, 0, 0, 9] h2 (by simp) (bytes_lit4 w 10 0 0 9) (by simp)).mono ?_
  rintro e w' ⟨rfl, hb⟩
  rw [ex_own1]
  exact ⟨rfl, C.below _ _ _ _ _ h2 hb, Below.next (below_one _) hb⟩
theorem ex_o2 {T : World → Nat → Nat → List Rw → Prop} (C : TrieC T) (w : World) (base B : Nat) (h : T w base B [exA, exB]) :
    Calls Try.prog 15 #[.pointer (some ⟨B, 0, none⟩), .slice (some ⟨w.heap.size, 0, none⟩) 4 4] ((w.alloc (.cells #[.int .u8 10, .int .u8 0, .int .u8 1, .int .u8 9] 5))) fun e w' => e = .returned (.tuple #[.int .i64 1, .bool true]) ∧ T w' base B [exA, exB] ∧ Below w.heap.size w w' := by
  have h2 := C.below _ _ _ _ _ h (below_one (w := w) (.cells #[.int .u8 10, .int .u8 0, .int .u8 1, .int .u8 9] 5))
  refine (C.owner _ base B [exA, exB] _ [10, 0, 1, 9] h2 (by simp) (bytes_lit4 w 10 0 1 9) (by simp)).mono ?_
  rintro e w' ⟨rfl, hb⟩
  rw [ex_own2]
  exact ⟨rfl, C.below _ _ _ _ _ h2 hb, Below.next (below_one _) hb⟩
theorem awake8_any {T : World → Nat → Nat → List Rw → Prop} (C : TrieC T) (w : World) : Calls Try.prog 5 #[] w fun e w' => e = .returned (.bool true) ∧ Below w.heap.size w w' := by
  have HNW := Lib.hid C.new
  have HTC := Lib.hid C
  clear C
  go_enter Try.func5, Try.ntmps5
  go_wp2_with (first | (go_at_call 6; ((with_reducible refine (HNW.out _).mono ?_); rintro e w1 ⟨B, rfl, ha, hb⟩; have HT := Lib.hid ha; have HB := Lib.hid hb; have HP := Lib.hid (ex_p1 HTC.out w1 w.heap.size B ha hb.size); clear ha hb)) | (go_at_call 8; ((with_reducible refine HP.out.mono ?_); rintro e w1 ⟨rfl, ha, hb⟩; have HB := Lib.hid (HB.out.trans hb); first | (have HP := Lib.hid (ex_p2 HTC.out w1 w.heap.size B ha HB.out.size); clear ha hb) | (have HO := Lib.hid (ex_o1 HTC.out w1 w.heap.size B ha); clear ha hb))) | (go_at_call 15; ((with_reducible refine HO.out.mono ?_); rintro e w1 ⟨rfl, ha, hb⟩; have HB := Lib.hid (Below.next HB.out hb); have HO := Lib.hid (ex_o2 HTC.out w1 w.heap.size B ha); clear ha hb)) | fail)
  go_ret
  exact ⟨rfl, HB.out⟩
theorem trieacts_walk (T : World → Nat → Nat → List Rw → Prop) (C : TrieC T) (la : Option Addr) (lc : Nat) (ls : List Ac) (aa : Option Addr) (ac : Nat) (A : List UInt8) (w : World) (hls : ActsAt w la ls) (hA : Bytes w (.slice aa A.length ac) A) :
    Calls Try.prog 3 #[.slice la ls.length lc, .slice aa A.length ac] w fun e w' => e = .returned (.bool true) ∧ Below w.heap.size w w' := by
  have HAW := Lib.hid (fun w => awake8_any C w)
  by_cases hn : ls.length ≤ 60
  · by_cases hm : A.length ≤ 40
    · exact trieacts_go T C la lc ls aa ac A w hls hA hn hm HAW.out
    · have hn1 : ¬ (60 : Int) < ls.length := by omega
      have hm1 : (40 : Int) < A.length := by omega
      clear hn hm hls hA
      go_enter Try.func3, Try.ntmps3
      go_wp2_with (first | (go_at_call 5; ((with_reducible refine (HAW.out _).mono ?_); rintro e w2 ⟨rfl, hb⟩; have HB := Lib.hid hb; clear hb)) | fail)
      go_ret
      exact ⟨rfl, HB.out⟩
  · have hn1 : (60 : Int) < ls.length := by omega
    clear hn hls hA
    go_enter Try.func3, Try.ntmps3
    go_wp2_with (first | (go_at_call 5; ((with_reducible refine (HAW.out _).mono ?_); rintro e w2 ⟨rfl, hb⟩; have HB := Lib.hid hb; clear hb)) | fail)
    all_goals
      go_ret
      exact ⟨rfl, HB.out⟩
end Go.Proofs.Ytlmmnjoincmgcaa

namespace Go.Proofs.Ytlmmnjoincmgcaa
set_option linter.unusedVariables false
set_option linter.unusedSimpArgs false
set_option maxRecDepth 100000
open Go.RowKit
/-- what is asked of the program's calls on nil -/
structure TrieN : Prop where
  put : ∀ w ad n cp bits own, n ≤ 40 → Calls Try.prog 8 #[.pointer none, .agg #[.slice ad n cp, .int .i64 bits], .int .i64 own] w fun e w' => e = .returned (.int .i64 1) ∧ Below w.heap.size w w'
  del : ∀ w ad cp adr bits, Bytes w (.slice ad adr.length cp) adr → adr.length ≤ 40 → Calls Try.prog 12 #[.pointer none, .agg #[.slice ad adr.length cp, .int .i64 bits]] w fun e w' => e = .returned (.bool false) ∧ Below w.heap.size w w'
  drop : ∀ w own, Calls Try.prog 14 #[.pointer none, .int .i64 own] w fun e w' => e = .returned (.int .i64 0) ∧ Below w.heap.size w w'
  owner : ∀ w ad n cp, n ≤ 40 → Calls Try.prog 15 #[.pointer none, .slice ad n cp] w fun e w' => e = .returned (.tuple #[.int .i64 0, .bool false]) ∧ Below w.heap.size w w'
  rows : ∀ w, Calls Try.prog 18 #[.pointer none] w fun e w' => (∃ a cap, e = .returned (.slice a 0 cap)) ∧ Below w.heap.size w w'
  of : ∀ w own, Calls Try.prog 19 #[.pointer none, .int .i64 own] w fun e w' => (∃ a cap, e = .returned (.slice a 0 cap)) ∧ Below w.heap.size w w'
theorem trienil_walk (T : World → Nat → Nat → List Rw → Prop) (C : TrieC T) (N : TrieN) (ad : Option Addr) (cp : Nat) (adr : List UInt8) (bits own : Int) (w : World) (ha : Bytes w (.slice ad adr.length cp) adr) :
    Calls Try.prog 4 #[.agg #[.slice ad adr.length cp, .int .i64 bits], .int .i64 own] w fun e w' => e = .returned (.bool true) ∧ Below w.heap.size w w' := by
  have HAW := Lib.hid (fun w => awake8_any C w)
  have HN := Lib.hid N
  obtain ⟨w1, hw1⟩ : ∃ w1, w1 = w.alloc (.cells #[.slice ad adr.length cp, .int .i64 bits] 29) := ⟨_, rfl⟩
  have h1 : w1.heap[w.heap.size]? = some (.cells #[.slice ad adr.length cp, .int .i64 bits] 29 (0, 0)) := by rw [hw1]; exact heap_alloc_new w _
  have HX0 := Lib.hid (cell_of h1 0 rfl)
  have HX1 := Lib.hid (cell_of h1 1 rfl)
  have HB1 : Hid (Below w.heap.size w w1) := Lib.hid (by rw [hw1]; exact below_one _)
  have HA1 : Hid (Bytes w1 (.slice ad adr.length cp) adr) := Lib.hid (by rw [hw1]; exact ha.below (below_one _))
  clear h1 ha
  by_cases hn : adr.length ≤ 40
  · have hn1 : ¬ (40 : Int) < adr.length := by omega
    have HL := Lib.hid hn
    clear hn
    go_enter Try.func4, Try.ntmps4
    go_wp2_with fail
    rw [← hw1]
    clear hw1
    go_wp2_with (first | (go_at_call 5; ((with_reducible refine (HAW.out _).mono ?_); rintro e w2 ⟨rfl, hb⟩; have HB := Lib.hid hb; have b0 := cell_keep4 HX0.out HB.out; have b1 := cell_keep4 HX1.out HB.out; clear hb)) | (go_at_call 15; ((with_reducible refine (HN.out.owner _ _ _ _ HL.out).mono ?_); rintro e w4 ⟨rfl, hb⟩; have HB := Lib.hid (Below.next HB.out hb); clear b0 b1 hb; have b0 := cell_keep4 HX0.out HB.out; have b1 := cell_keep4 HX1.out HB.out)) | (go_at_call 8; ((with_reducible refine (HN.out.put _ _ _ _ _ _ HL.out).mono ?_); rintro e w4 ⟨rfl, hb⟩; have HB := Lib.hid (Below.next HB.out hb); clear b0 b1 hb; have b0 := cell_keep4 HX0.out HB.out; have b1 := cell_keep4 HX1.out HB.out)) | (go_at_call 12; ((with_reducible refine (HN.out.del _ _ _ _ _ (by first | exact HA1.out.below HB.out | exact HA1.out.below (Below.drew HB.out)) HL.out).mono ?_); rintro e w4 ⟨rfl, hb⟩; have HB := Lib.hid (Below.next HB.out hb); clear b0 b1 hb; have b0 := cell_keep4 HX0.out HB.out; have b1 := cell_keep4 HX1.out HB.out)) | (go_at_call 14; ((with_reducible refine (HN.out.drop _ _).mono ?_); rintro e w4 ⟨rfl, hb⟩; have HB := Lib.hid (Below.next HB.out hb); clear b0 b1 hb; have b0 := cell_keep4 HX0.out HB.out; have b1 := cell_keep4 HX1.out HB.out)) | (go_at_call 18; ((with_reducible refine (HN.out.rows _).mono ?_); rintro e w4 ⟨⟨a4, cap4, rfl⟩, hb⟩; have HB := Lib.hid (Below.next HB.out hb); clear b0 b1 hb; have b0 := cell_keep4 HX0.out HB.out; have b1 := cell_keep4 HX1.out HB.out)) | (go_at_call 19; ((with_reducible refine (HN.out.of _ _).mono ?_); rintro e w4 ⟨⟨a4, cap4, rfl⟩, hb⟩; have HB := Lib.hid (Below.next HB.out hb); clear b0 b1 hb; have b0 := cell_keep4 HX0.out HB.out; have b1 := cell_keep4 HX1.out HB.out)) | fail)
    go_ret
    exact ⟨rfl, Below.next HB1.out HB.out⟩
  · have hn1 : (40 : Int) < adr.length := by omega
    clear hn
    go_enter Try.func4, Try.ntmps4
    go_wp2_with fail
    rw [← hw1]
    clear hw1
    go_wp2_with (first | (go_at_call 5; ((with_reducible refine (HAW.out _).mono ?_); rintro e w2 ⟨rfl, hb⟩; have HB := Lib.hid hb; have b0 := cell_keep4 HX0.out HB.out; have b1 := cell_keep4 HX1.out HB.out; clear hb)) | fail)
    go_ret
    exact ⟨rfl, Below.next HB1.out HB.out⟩
end Go.Proofs.Ytlmmnjoincmgcaa

namespace Go.Proofs.Ytlmmnjoincmgcaa
open Go.ChangeShapes Go.WideShapes Go.ChangeAt Go.RowKit Go.Joins Go.Deep
set_option linter.unusedVariables false
set_option linter.unusedSimpArgs false
theorem cellsPrefix8 : Try.prog.cellsOf 29 = 2 := by kernel_rfl
theorem cellsAct : Try.prog.cellsOf 31 = 4 := by kernel_rfl
/-- WHAT THE WALK IS TOLD OF A SLICE OF BYTES THAT CAME IN -/
def ByteRow (w : World) (a : Option Addr) (len cap : Nat) (zs : List Int) : Prop :=
  (a = none ∧ len = 0 ∧ cap = 0 ∧ zs = []) ∨
  ∃ x, a = some x ∧ len ≤ cap ∧ cap ≤ maxLen ∧ zs.length = cap ∧ (∀ i, i < zs.length → w.cell? (x.add i) = some (.int .u8 (zs.getD i 0))) ∧ ∀ n ∈ zs, (Lit.int .u8 n).wf = true
theorem byte_row {w : World} {a1 : Option Addr} {len1 cap1 : Nat} {z1 : List Int} (w1 : ByteRow w a1 len1 cap1 z1) : ∃ l, l.length = len1 ∧ Bytes w (.slice a1 len1 cap1) l ∧ len1 ≤ cap1 ∧ cap1 ≤ maxLen := by
  rcases w1 with ⟨rfl, rfl, rfl, rfl⟩ | ⟨x, rfl, hlc, hm, hz, hcell, hwz⟩
  · exact ⟨[], rfl, ⟨none, 0, rfl, .inl rfl⟩, Nat.le_refl _, Nat.zero_le _⟩
  · refine ⟨(z1.take len1).map fun n => UInt8.ofNat n.toNat, by simp; omega, ⟨some x, cap1, by simp; omega, ?_⟩, hlc, hm⟩
    by_cases h0 : len1 = 0
    · left; subst h0; rfl
    · right
      have hc := hcell 0 (by omega)
      obtain ⟨b, off, spot⟩ := x
      have hspot : spot = none := by simpa [Addr.add] using World.cell?_spot hc
      subst hspot
      refine ⟨b, off, rfl, fun i hi => ?_⟩
      have hi2 : i < len1 := by simp at hi; omega
      have h1 := hcell i (by omega)
      rw [add_at] at h1
      rw [h1]
      have hb := hwz (z1.getD i 0) (by simp [List.getD, List.getElem?_eq_getElem (show i < z1.length by omega)])
      have hb2 := bounds_u8 hb
      have e : (((z1.take len1).map fun n => UInt8.ofNat n.toNat).getD i 0) = UInt8.ofNat (z1.getD i 0).toNat := by
        simp [List.getD, hi2, List.getElem?_eq_getElem (show i < z1.length by omega)]
      rw [e, toNat_ofNat (by omega)]
      congr 2; omega
section
variable {H : Type} {enc : TypeId × Value → H} {w : World} {spare : Nat → Bool} {held : Bool}
theorem open_bytes {fuel : Nat} {c : Value} {x : DataW H × List MemPlace} (hsp : ∀ b, spare b = true) (h : DataW.trod enc Try.prog w 0 spare held fuel 23 [c] = some x) : ∃ a cp l, c = .slice a (List.length l) cp ∧ Bytes w (.slice a l.length cp) l := by
  rcases open_ints Try.underlying23 Try.underlying5 (by kernel_rfl) h with ⟨hcs, _⟩ | ⟨x, l, c, zs, hcs, _, hl, hm, hz, _, hcell, hwz⟩
  · simp at hcs
    exact ⟨none, 0, [], hcs, ⟨none, 0, rfl, .inl rfl⟩⟩
  · simp at hcs
    rw [hsp] at hz
    obtain ⟨L, rfl, hb, _⟩ := byte_row (z1 := zs) (len1 := l) (cap1 := c) (a1 := some x) (w := w) (.inr ⟨x, rfl, hl, hm, by simpa using hz, hcell, hwz⟩)
    exact ⟨_, _, L, hcs, hb⟩
def ActAt (w : World) (a : Option Addr) (i : Nat) (x : Ac) : Prop := ∃ b off, a = some ⟨b, off, none⟩ ∧ w.cell? ⟨b, off + i * 4, none⟩ = some (.int .u8 x.kind) ∧ w.cell? ⟨b, off + i * 4 + 1, none⟩ = some (.slice x.ad x.adr.length x.cp) ∧ w.cell? ⟨b, off + i * 4 + 2, none⟩ = some (.int .i64 x.bits) ∧ w.cell? ⟨b, off + i * 4 + 3, none⟩ = some (.int .i64 x.own) ∧ Bytes w (.slice x.ad x.adr.length x.cp) x.adr
theorem acts_list {w : World} {a : Option Addr} : ∀ n : Nat, (∀ i, i < n → ∃ x, ActAt w a i x) → ∃ ls : List Ac, ls.length = n ∧ ActsAt w a ls := by
  intro n
  induction n with
  | zero => intro _; exact ⟨[], rfl, fun i x h => by simp at h⟩
  | succ n ih =>
    intro h
    obtain ⟨ls, hl, ha⟩ := ih fun i hi => h i (by omega)
    obtain ⟨x, hx⟩ := h n (by omega)
    refine ⟨ls ++ [x], by simp [hl], fun i y hy => ?_⟩
    by_cases hi : i < ls.length
    · rw [List.getElem?_append_left hi] at hy
      exact ha i y hy
    · have hlt := (List.getElem?_eq_some_iff.1 hy).1
      simp at hlt
      obtain rfl : i = ls.length := by omega
      rw [List.getElem?_append_right (Nat.le_refl _), Nat.sub_self] at hy
      simp at hy
      subst hy
      rw [hl]
      exact hx
theorem open_acts {fuel : Nat} {a : Option Addr} {len cap : Nat} {x : DataW H × List MemPlace} (hsp : ∀ b, spare b = true) (h : DataW.trod enc Try.prog w 0 spare held fuel 22 [.slice a len cap] = some x) : ∃ ls : List Ac, ls.length = len ∧ ActsAt w a ls := by
  rcases open_slice Try.underlying22 h with ⟨hcs, _⟩ | ⟨x, l, c, m, n, D, Pl, hcs, hb, hl, hm, hmm, hx, hi⟩
  · simp at hcs
    obtain ⟨rfl, rfl, rfl⟩ := hcs
    exact ⟨[], rfl, fun i x h => by simp at h⟩
  · simp at hcs
    obtain ⟨rfl, rfl, rfl⟩ := hcs
    rw [hsp] at hmm
    by_cases hl0 : len = 0
    · subst hl0; exact ⟨[], rfl, fun i x h => by simp at h⟩
    obtain ⟨b, off, spot⟩ := x
    have hspot : spot = none := by
      obtain ⟨cs', hc, _⟩ := hi 0 (by simp at hmm; omega)
      rw [cellsAct] at hc
      obtain ⟨_, _, hat⟩ := World.cells?_some hc
      have h0 := hat 0 (by omega)
      obtain ⟨v, hv⟩ : ∃ v, cs'[0]? = some v := ⟨_, List.getElem?_eq_getElem (by omega)⟩
      rw [hv] at h0
      simpa [Addr.add] using World.cell?_spot h0
    subst hspot
    refine acts_list _ fun i hil => ?_
    obtain ⟨cs', hc, ht⟩ := hi i (by simp at hmm; omega)
    rw [cellsAct] at hc
    obtain ⟨_, hcl, hat⟩ := World.cells?_some hc
    obtain ⟨ys, n2, _, _, _, hyl, hf⟩ := DataW.trod_struct Try.underlying31 ht
    match cs', hcl with
    | [c0, c1, c2, c3], _ =>
    have g0 : DataW.trod enc Try.prog w 0 spare held n2 5 (([c0, c1, c2, c3].drop 0).take (Try.prog.cellsOf 5)) = ys[0]? := hf 0 _ rfl
    have g1 : DataW.trod enc Try.prog w 0 spare held n2 29 (([c0, c1, c2, c3].drop 1).take (Try.prog.cellsOf 29)) = ys[1]? := hf 1 _ rfl
    have g2 : DataW.trod enc Try.prog w 0 spare held n2 3 (([c0, c1, c2, c3].drop 3).take (Try.prog.cellsOf 3)) = ys[2]? := hf 2 _ rfl
    have hyl3 : ys.length = 3 := hyl
    rw [show Try.prog.cellsOf 5 = 1 by kernel_rfl, List.getElem?_eq_getElem (show 0 < ys.length by omega)] at g0
    rw [cellsPrefix8, List.getElem?_eq_getElem (show 1 < ys.length by omega)] at g1
    rw [show Try.prog.cellsOf 3 = 1 by kernel_rfl, List.getElem?_eq_getElem (show 2 < ys.length by omega)] at g2
    obtain ⟨kd, hkd, _, _⟩ := DataW.trod_int Try.underlying5 g0
    obtain ⟨ow, how, _, _⟩ := DataW.trod_int Try.underlying3 g2
    obtain ⟨zs, n3, _, _, _, hzl, hg⟩ := DataW.trod_struct Try.underlying29 g1
    have hzl2 : zs.length = 2 := hzl
    have p0 : DataW.trod enc Try.prog w 0 spare held n3 23 (([c1, c2].drop 0).take (Try.prog.cellsOf 23)) = zs[0]? := hg 0 _ rfl
    have p1 : DataW.trod enc Try.prog w 0 spare held n3 3 (([c1, c2].drop 1).take (Try.prog.cellsOf 3)) = zs[1]? := hg 1 _ rfl
    rw [show Try.prog.cellsOf 23 = 1 by kernel_rfl, List.getElem?_eq_getElem (show 0 < zs.length by omega)] at p0
    rw [show Try.prog.cellsOf 3 = 1 by kernel_rfl, List.getElem?_eq_getElem (show 1 < zs.length by omega)] at p1
    obtain ⟨bi, hbi, _, _⟩ := DataW.trod_int Try.underlying3 p1
    obtain ⟨ad, cp, l, hc1, hby⟩ := open_bytes hsp p0
    have a0 := hat 0 (by omega)
    have a1 := hat 1 (by omega)
    have a2 := hat 2 (by omega)
    have a3 := hat 3 (by omega)
    simp at hkd how hbi
    subst hkd; subst how; subst hbi; subst hc1
    rw [add_at, add_at] at a0 a1 a2 a3
    exact ⟨⟨kd, ad, cp, l, bi, ow⟩, b, off, rfl, a0, a1, a2, a3, hby⟩
end
end Go.Proofs.Ytlmmnjoincmgcaa

namespace Go.Proofs.Ytlmmnjoincmgcaa
set_option linter.unusedVariables false
set_option linter.unusedSimpArgs false
set_option maxRecDepth 100000
open Go.RowKit

def withinP (a : List UInt8) (m : Int) (b : List UInt8) (n : Int) : Bool := rightP a.length m && (rightP b.length n && (a.length == b.length && (decide (n ≤ m) && hasP b n a)))
/-- Plain's answer: the plain prefix and Fine, or nothing and Form -/
def plainOf (a : List UInt8) (bits : Int) : List UInt8 × Int × Int := if rightP a.length bits then (plainS a bits.toNat, bits, 0) else ([], 0, 3)
def PlainRet4 (w : World) (a : List UInt8) (bits : Int) (e : Ending) (w' : World) : Prop :=
  ∃ ad cp, e = .returned (.tuple #[.agg #[.slice ad (plainOf a bits).1.length cp, .int .i64 (plainOf a bits).2.1], .int .i64 (plainOf a bits).2.2]) ∧ Bytes w' (.slice ad (plainOf a bits).1.length cp) (plainOf a bits).1 ∧ (plainOf a bits).1.length ≤ cp ∧ cp ≤ maxLen ∧ Below w.heap.size w w'
def StrCode (w : World) (x : List UInt8 × Int) (e : Ending) (w' : World) : Prop := e = .returned (.tuple #[.string (strB x.1), .int .i64 x.2]) ∧ Below w.heap.size w w'
def printC (a : List UInt8) : List UInt8 × Int := if a.length = 4 ∨ a.length = 16 then (printA a, 0) else ([], 3)
def printPC (a : List UInt8) (bits : Int) : List UInt8 × Int := if rightP a.length bits = true ∧ plainS a bits.toNat = a then (printA a ++ 47 :: decs bits.toNat, 0) else ([], 3)
theorem within_has {a b c : List UInt8} {m n : Int} (h : withinP a m b n = true) (hp : hasP a m c = true) : hasP b n c = true := by
  unfold withinP at h
  simp only [Bool.and_eq_true, decide_eq_true_eq, beq_iff_eq] at h
  obtain ⟨h1, h2, h3, h4, h5⟩ := h
  unfold hasP at h5 hp ⊢
  simp only [Bool.and_eq_true, beq_iff_eq, List.all_eq_true, List.mem_range] at h5 hp ⊢
  refine ⟨h2, by omega, fun i hi => ?_⟩
  rw [hp.2.2 i (by omega), h5.2.2 i hi]
theorem rplain_v (a : List UInt8) (ad : Option Addr) (cp : Nat) (bits : Int) (w : World) (ha : Bytes w (.slice ad a.length cp) a) (hal : a.length ≤ 1000) (hr : rightP a.length bits = true) :
    Calls Try.prog 10 #[.agg #[.slice ad a.length cp, .int .i64 bits]] w (PlainRet w (plainS a bits.toNat) bits) :=
  rplain_any a ad cp bits w ha (by omega) (right_len hr).2.1 (right_len hr).2.2
theorem strs4_eq (a b : List UInt8) : ((strB a).toList == (strB b).toList) = (a == b) := by rw [str_eq]; rfl
/-! a prefix that came in, in its variable -/
def PBox (w : World) (B : Nat) (ad : Option Addr) (n cp : Nat) (bits : Int) : Prop := w.cell? ⟨B, 0, none⟩ = some (.slice ad n cp) ∧ w.cell? ⟨B, 1, none⟩ = some (.int .i64 bits)
end Go.Proofs.Ytlmmnjoincmgcaa

namespace Go.Proofs.Ytlmmnjoincmgcaa
set_option linter.unusedVariables false
set_option linter.unusedSimpArgs false
open Go.RowKit

/-- cut at points and colons -/
def splitP : List UInt8 → List (List UInt8)
  | [] => [[]]
  | c :: r => if c = 46 ∨ c = 58 then [] :: splitP r else (match splitP r with | p :: ps => (c :: p) :: ps | [] => [[c]])
def guessOne (six : Bool) (p : List UInt8) : Option (List UInt8) := if six then (if hxCode p = 0 then some (hxBytes p) else none) else (if rdCode p = 0 then some [UInt8.ofNat ((rdVal p).toNat % 256)] else none)
def guessAll (six : Bool) : List (List UInt8) → Option (List UInt8)
  | [] => some []
  | p :: ps => (guessOne six p).bind fun x => (guessAll six ps).bind fun y => some (x ++ y)
/-- the address whose text it is -/
def refRead (s : List UInt8) : Option (List UInt8) := (guessAll (s.length == 39) (splitP s)).bind fun g => if (g.length = if s.length = 39 then 16 else 4) ∧ printA g = s then some g else none
theorem splitP_ne (s : List UInt8) : splitP s ≠ [] := by
  cases s with
  | nil => simp [splitP]
  | cons c r =>
    simp only [splitP]
    split
    · simp
    · split <;> simp
def NoSep (p : List UInt8) : Prop := ∀ c ∈ p, c ≠ 46 ∧ c ≠ 58
theorem split_one : ∀ {p : List UInt8}, NoSep p → splitP p = [p] := by
  intro p
  induction p with
  | nil => intro _; rfl
  | cons c p ih =>
    intro h
    have hc := h c (List.mem_cons_self ..)
    simp only [splitP]
    rw [if_neg (by simp [hc.1, hc.2]), ih fun x hx => h x (List.mem_cons_of_mem _ hx)]
theorem split_cons {s : UInt8} (hs : s = 46 ∨ s = 58) : ∀ {p r : List UInt8}, NoSep p → splitP (p ++ s :: r) = p :: splitP r := by
  intro p
  induction p with
  | nil => intro r _; simp only [List.nil_append, splitP]; rw [if_pos hs]
  | cons c p ih =>
    intro r h
    have hc := h c (List.mem_cons_self ..)
    rw [List.cons_append]
    simp only [splitP]
    rw [if_neg (by simp [hc.1, hc.2]), ih fun x hx => h x (List.mem_cons_of_mem _ hx)]
theorem split_join {s : UInt8} (hs : s = 46 ∨ s = 58) : ∀ {ps : List (List UInt8)}, ps ≠ [] → (∀ p ∈ ps, NoSep p) → splitP (Lib.join ps [s]) = ps := by
  intro ps
  induction ps with
  | nil => intro h; exact absurd rfl h
  | cons p ps ih =>
    intro _ h
    have hp := h p (List.mem_cons_self ..)
    by_cases hps : ps = []
    · subst hps; rw [Lib.join_one, split_one hp]
    · have hj : Lib.join (p :: ps) [s] = p ++ s :: Lib.join ps [s] := by
        cases ps with
        | nil => exact absurd rfl hps
        | cons y l => rw [Lib.join_cons, Lib.join_cons]; simp [Lib.joinTail]
      rw [hj, split_cons hs hp, ih hps fun x hx => h x (List.mem_cons_of_mem _ hx)]
theorem nosep_digs {p : List UInt8} {b : Nat} (hb : b ≤ 16) (h : digs p b = true) : NoSep p := by
  intro c hc
  have := digs_mem h hc
  constructor <;> (intro e; subst e; revert this; simp [val]; try omega)
theorem guess_four (x : UInt8) : guessOne false (decs x.toNat) = some [x] := by
  have hx := UInt8.toNat_lt x
  obtain ⟨h1, h2⟩ := rd_decs x.toNat (by unfold top; omega)
  unfold guessOne
  rw [if_neg (by simp), if_pos h2, h1]
  simp
theorem guess_six (x y : UInt8) : guessOne true (hexOf [x, y]) = some [x, y] := by
  unfold guessOne
  rw [if_pos rfl, (hx_hexOf _).2, if_pos rfl, (hx_hexOf _).1]
theorem print4 (x0 x1 x2 x3 : UInt8) : printA [x0, x1, x2, x3] = Lib.join [decs x0.toNat, decs x1.toNat, decs x2.toNat, decs x3.toNat] [46] := by
  simp [printA, prt, prtP, Lib.join_cons, Lib.joinTail]
theorem hexOf_two (x y : UInt8) : hexOf [x] ++ hexOf [y] = hexOf [x, y] := by simp [hexOf]
theorem refRead4 (x0 x1 x2 x3 : UInt8) : refRead (printA [x0, x1, x2, x3]) = some [x0, x1, x2, x3] := by
  have hl : (printA [x0, x1, x2, x3]).length ≤ 30 := by
    rw [print4]
    have h0 := decs_len 2 x0.toNat (by have := UInt8.toNat_lt x0; omega)
    have h1 := decs_len 2 x1.toNat (by have := UInt8.toNat_lt x1; omega)
    have h2 := decs_len 2 x2.toNat (by have := UInt8.toNat_lt x2; omega)
    have h3 := decs_len 2 x3.toNat (by have := UInt8.toNat_lt x3; omega)
    simp [Lib.join_cons, Lib.joinTail]
    omega
  have hsp : splitP (printA [x0, x1, x2, x3]) = [decs x0.toNat, decs x1.toNat, decs x2.toNat, decs x3.toNat] := by
    rw [print4]
    refine split_join (.inl rfl) (by simp) ?_
    intro p hp
    simp only [List.mem_cons, List.not_mem_nil, or_false] at hp
    rcases hp with rfl | rfl | rfl | rfl <;> exact nosep_digs (b := 10) (by omega) (decs_digs _)
  unfold refRead
  rw [show ((printA [x0, x1, x2, x3]).length == 39) = false by simp; omega, hsp]
  simp only [guessAll, guess_four]
  simp
  omega
theorem print16 (x0 x1 x2 x3 x4 x5 x6 x7 x8 x9 xa xb xc xd xe xf : UInt8) : printA [x0, x1, x2, x3, x4, x5, x6, x7, x8, x9, xa, xb, xc, xd, xe, xf] =
    Lib.join [hexOf [x0, x1], hexOf [x2, x3], hexOf [x4, x5], hexOf [x6, x7], hexOf [x8, x9], hexOf [xa, xb], hexOf [xc, xd], hexOf [xe, xf]] [58] := by
  simp only [← hexOf_two]
  simp [printA, prt, prtP, Lib.join_cons, Lib.joinTail]
theorem refRead16 (x0 x1 x2 x3 x4 x5 x6 x7 x8 x9 xa xb xc xd xe xf : UInt8) : refRead (printA [x0, x1, x2, x3, x4, x5, x6, x7, x8, x9, xa, xb, xc, xd, xe, xf]) = some [x0, x1, x2, x3, x4, x5, x6, x7, x8, x9, xa, xb, xc, xd, xe, xf] := by
  have hl : (printA [x0, x1, x2, x3, x4, x5, x6, x7, x8, x9, xa, xb, xc, xd, xe, xf]).length = 39 := by
    rw [print16]
    simp [Lib.join_cons, Lib.joinTail, hexOf_length]
  have hsp : splitP (printA [x0, x1, x2, x3, x4, x5, x6, x7, x8, x9, xa, xb, xc, xd, xe, xf]) = [hexOf [x0, x1], hexOf [x2, x3], hexOf [x4, x5], hexOf [x6, x7], hexOf [x8, x9], hexOf [xa, xb], hexOf [xc, xd], hexOf [xe, xf]] := by
    rw [print16]
    refine split_join (.inr rfl) (by simp) ?_
    intro p hp
    simp only [List.mem_cons, List.not_mem_nil, or_false] at hp
    rcases hp with rfl | rfl | rfl | rfl | rfl | rfl | rfl | rfl <;> exact nosep_digs (b := 16) (by omega) (hexOf_digs _)
  unfold refRead
  rw [show ((printA [x0, x1, x2, x3, x4, x5, x6, x7, x8, x9, xa, xb, xc, xd, xe, xf]).length == 39) = true by simp [hl], hsp]
  simp only [guessAll, guess_six]
  simp [hl]
theorem refRead_print {a : List UInt8} (h : a.length = 4 ∨ a.length = 16) : refRead (printA a) = some a := by
  rcases h with h | h
  · match a, h with
    | [x0, x1, x2, x3], _ => exact refRead4 ..
  · match a, h with
    | [x0, x1, x2, x3, x4, x5, x6, x7, x8, x9, xa, xb, xc, xd, xe, xf], _ => exact refRead16 ..
/-- the plain prefix whose text it is -/
def refReadP (s : List UInt8) : Option (List UInt8 × Nat) :=
  if s.dropWhile (· != 47) = [] then none else
  (refRead (s.takeWhile (· != 47))).bind fun a =>
    if rdCode (s.dropWhile (· != 47)).tail = 0 ∧ (rdVal (s.dropWhile (· != 47)).tail).toNat ≤ 128 ∧ rightP a.length ((rdVal (s.dropWhile (· != 47)).tail).toNat : Int) = true ∧ plainS a (rdVal (s.dropWhile (· != 47)).tail).toNat = a then some (a, (rdVal (s.dropWhile (· != 47)).tail).toNat) else none
def NoSlash (p : List UInt8) : Prop := ∀ c ∈ p, (c != 47) = true
theorem noslash_app {p q : List UInt8} (h : NoSlash p) (h2 : NoSlash q) : NoSlash (p ++ q) := fun c hc => by
  rcases List.mem_append.1 hc with hc | hc
  · exact h c hc
  · exact h2 c hc
theorem noslash_digs {p : List UInt8} {b : Nat} (hb : b ≤ 16) (h : digs p b = true) : NoSlash p := by
  intro c hc
  have := digs_mem h hc
  simp only [bne_iff_ne]
  intro e; subst e; revert this; simp [val]; try omega
theorem noslash_prt (n : Nat) (a : List UInt8) (k : Nat) : NoSlash (prt n a k) := by
  induction k with
  | zero => intro c hc; cases hc
  | succ k ih =>
    refine noslash_app ih ?_
    unfold prtP
    split
    · refine noslash_app ?_ (noslash_digs (b := 10) (by omega) (decs_digs _))
      split
      · intro c hc; rw [List.mem_singleton.1 hc]; decide
      · intro c hc; cases hc
    · refine noslash_app ?_ (noslash_digs (b := 16) (by omega) (hexOf_digs _))
      split
      · intro c hc; rw [List.mem_singleton.1 hc]; decide
      · intro c hc; cases hc
theorem slash_cut : ∀ {p : List UInt8} (r : List UInt8), NoSlash p → (p ++ 47 :: r).takeWhile (· != 47) = p ∧ (p ++ 47 :: r).dropWhile (· != 47) = 47 :: r := by
  intro p
  induction p with
  | nil => intro r _; exact ⟨rfl, rfl⟩
  | cons c p ih =>
    intro r h
    have hc := h c (List.mem_cons_self ..)
    have := ih r fun x hx => h x (List.mem_cons_of_mem _ hx)
    rw [List.cons_append, List.takeWhile_cons_of_pos (p := fun x => x != 47) hc, List.dropWhile_cons_of_pos (p := fun x => x != 47) hc, this.1, this.2]
    exact ⟨rfl, rfl⟩
theorem refReadP_print {a : List UInt8} {m : Nat} (hr : rightP a.length m = true) (hp : plainS a m = a) : refReadP (printA a ++ 47 :: decs m) = some (a, m) := by
  obtain ⟨h1, h2, h3⟩ := right_len hr
  have hm : m ≤ 128 := by omega
  obtain ⟨e1, e2⟩ := slash_cut (decs m) (noslash_prt a.length a a.length)
  obtain ⟨d1, d2⟩ := rd_decs m (by unfold top; omega)
  unfold refReadP printA
  rw [e1, e2, if_neg (by simp)]
  rw [show prt a.length a a.length = printA a from rfl, refRead_print h1]
  simp [d1, d2, hm, hr, hp]
def readC (s : List UInt8) : List UInt8 × Int := match refRead s with | some a => (a, 0) | none => ([], 3)
def ReadRet (w : World) (x : List UInt8 × Int) (e : Ending) (w' : World) : Prop :=
  ∃ ad cp, e = .returned (.tuple #[.slice ad x.1.length cp, .int .i64 x.2]) ∧ Bytes w' (.slice ad x.1.length cp) x.1 ∧ x.1.length ≤ cp ∧ cp ≤ maxLen ∧ Below w.heap.size w w'
def readPC (s : List UInt8) : List UInt8 × Int × Int := match refReadP s with | some x => (x.1, x.2, 0) | none => ([], 0, 3)
def ReadPRet (w : World) (x : List UInt8 × Int × Int) (e : Ending) (w' : World) : Prop :=
  ∃ ad cp, e = .returned (.tuple #[.agg #[.slice ad x.1.length cp, .int .i64 x.2.1], .int .i64 x.2.2]) ∧ Bytes w' (.slice ad x.1.length cp) x.1 ∧ x.1.length ≤ cp ∧ cp ≤ maxLen ∧ Below w.heap.size w w'
end Go.Proofs.Ytlmmnjoincmgcaa

namespace Go.Proofs.Ytlmmnjoincmgcaa
set_option linter.unusedVariables false
set_option linter.unusedSimpArgs false
set_option maxRecDepth 100000
open Go.RowKit
attribute [local go_sem ↓] Go.wp_at_zero Go.wp_at_succ

/-- a slice that is nil has no room -/
def NilOk (v : Value) : Prop := ∀ n cap, v = .slice none n cap → cap = 0
theorem nilok_nil : NilOk (.slice none 0 0) := fun n cap h => by cases h; rfl
theorem nilok_own {w : World} {B : Nat} {v : Value} {e : TypeId} {n : Nat} {xs : List Value} (h : w.ownsRow B e 1 v n xs) : NilOk v := by
  intro m cap hv
  rcases h.2 with ⟨h1, _⟩ | ⟨g, c, cur, h1, _⟩
  · rw [h1] at hv; cases hv; rfl
  · rw [h1] at hv; cases hv
def HexRet2 (w : World) (l : List UInt8) (e : Ending) (w' : World) : Prop :=
  ∃ v, e = .returned (.tuple #[v, .int .i64 (hxCode l)]) ∧ Bytes w' v (hxBytes l) ∧ Below w.heap.size w w' ∧ NilOk v
theorem bytes_news {w : World} {b off : Nat} {l : List UInt8} (h : ∀ i, i < l.length → w.cell? ⟨b, off + i, none⟩ = some (.int .u8 (l.getD i 0).toNat)) : ∀ j u, (cellsOf l)[j]? = some u → w.cell? ((⟨b, off, none⟩ : Addr).add j) = some u := by
  intro j u hu
  rw [add_at]
  unfold cellsOf at hu
  rw [List.getElem?_map] at hu
  cases hj : l[j]? with
  | none => rw [hj] at hu; cases hu
  | some y =>
    rw [hj] at hu
    cases hu
    have hlt : j < l.length := (List.getElem?_eq_some_iff.1 hj).1
    rw [h j hlt]
    simp [List.getD, hj]
theorem wpList_append_bytes {w : World} {ops : Array Oper} {rest : List Oper} {o : Oper} {a : Act} {Q : Exit → Act → World → Prop} (hgd : o.guard = none) (s x : Operand)
    (ho : o.op = .call { callee := .builtin .append, args := #[s, x], argTypes := #[23, 23] })
    (base : Nat) (v : Value) (n : Nat) (xs : List Value) (hs : a.eval s = v) (hown : w.ownsRow base 5 1 v n xs)
    (sv : Value) (l : List UInt8) (hx : a.eval x = sv) (hsrc : Bytes w sv l) (hno : NilOk sv) (h63 : n + l.length ≤ 8796093022208) (hbase : base ≤ w.heap.size)
    (h : ∀ v' w', w'.ownsRow base 5 1 v' (n + l.length) (xs ++ cellsOf l) → w.grownBy w' v.ownBlock → wpList Try.prog ops Q rest (a.put o.dst v') w') : wpList Try.prog ops Q (o :: rest) a w := by
  obtain ⟨i0, hi0, hz0, hz1, hz2⟩ := info_parts Try.info5
  obtain ⟨ad, cap, rfl, hc⟩ := hsrc
  rcases hc with rfl | ⟨b, off, rfl, hc⟩
  · cases ad with
    | none =>
      obtain rfl := hno _ _ rfl
      refine wpList_append_own_none hgd s x 23 ho base 5 i0 1 Try.underlying23 hi0 v n xs hs hown hx ?_
      exact h v w (by simpa [cellsOf] using hown) ⟨rfl, rfl, rfl, Nat.le_refl _, fun _ _ _ => rfl⟩
    | some ad =>
      refine wpList_append_own w hgd s x 23 ho base 5 i0 _ 1 1 Try.underlying23 hi0 hz0 hz1 hz2 rfl (by decide) v n xs hs hown ad 0 cap [] hx rfl (fun j u hu => by cases hu) (fun u hu => by cases hu) (by unfold maxLen; simp at h63; omega) (by simp at h63; omega) hbase ?_
      intro v' w' h1 h2 _
      exact h v' w' (by simpa [cellsOf] using h1) h2
  · refine wpList_append_own w hgd s x 23 ho base 5 i0 _ 1 1 Try.underlying23 hi0 hz0 hz1 hz2 rfl (by decide) v n xs hs hown ⟨b, off, none⟩ l.length cap (cellsOf l) hx (by simp [cellsOf]) (bytes_news hc) (fun u hu => by obtain ⟨y, _, rfl⟩ := List.mem_map.1 hu; rfl) (by unfold maxLen; omega) (by omega) hbase ?_
    intro v' w' h1 h2 _
    exact h v' w' h1 h2
end Go.Proofs.Ytlmmnjoincmgcaa

namespace Go.Proofs.Ytlmmnjoincmgcaa
set_option linter.unusedVariables false
set_option linter.unusedSimpArgs false
set_option maxRecDepth 100000
open Go.RowKit

theorem isaddr_any (ad : Option Addr) (n cp : Nat) (hn : n ≤ 100000) (w : World) :
    Calls Try.prog 43 #[.slice ad n cp] w fun e w' => e = .returned (.bool (n == 4 || n == 16)) ∧ w' = w := by
  have hni : (n : Int) ≤ 100000 := by omega
  have hcase : (n = 4) ∨ (n ≠ 4 ∧ n = 16) ∨ (n ≠ 4 ∧ n ≠ 16) := by omega
  rcases hcase with h | ⟨h4, h⟩ | ⟨h4, h16⟩
  · subst h
    go_enter Try.func43, Try.ntmps43
    go_wp2_with fail
    go_ret
    exact ⟨rfl, rfl⟩
  · subst h
    go_enter Try.func43, Try.ntmps43
    go_wp2_with fail
    go_ret
    exact ⟨rfl, rfl⟩
  · have HR : Hid ((n == 4 || n == 16) = false) := Lib.hid (by simp [h4, h16])
    have e4 : ((n : Int) == 4) = false := bne_i (by omega)
    have e16 : ((n : Int) == 16) = false := bne_i (by omega)
    clear h4 h16
    go_enter Try.func43, Try.ntmps43
    go_wp2_with fail
    go_ret
    exact ⟨ret_bool HR.out.symm, rfl⟩
theorem isaddr_v (ad : Option Addr) (n cp : Nat) (hn : n ≤ 100000) (r : Bool) (hr : (n == 4 || n == 16) = r) (w : World) :
    Calls Try.prog 43 #[.slice ad n cp] w fun e w' => e = .returned (.bool r) ∧ w' = w := by
  subst hr; exact isaddr_any ad n cp hn w
theorem aright_any (ad : Option Addr) (n cp : Nat) (bits : Int) (hn : n ≤ 100000) (w : World) :
    Calls Try.prog 29 #[.agg #[.slice ad n cp, .int .i64 bits]] w (RightRet w (rightP n bits)) := by
  have hni : (n : Int) ≤ 100000 := by omega
  have hni0 : (0 : Int) ≤ n := by omega
  cases hr : (n == 4 || n == 16) with
  | false =>
    have HR : Hid (rightP n bits = false) := Lib.hid (by unfold rightP; rw [hr]; rfl)
    have HA := Lib.hid (isaddr_v ad n cp hn false hr)
    clear hr
    go_enter Try.func29, Try.ntmps29
    go_wp2_with (first | (go_at_call 43; ((with_reducible refine (HA.out _).mono ?_); rintro e w2 ⟨rfl, rfl⟩)) | fail)
    go_ret
    exact right_ret HR.out.symm _
  | true =>
    have HA := Lib.hid (isaddr_v ad n cp hn true hr)
    by_cases h0 : 0 ≤ bits
    · by_cases h1 : bits ≤ 8 * n
      · have HR : Hid (rightP n bits = true) := Lib.hid (by unfold rightP; rw [hr]; simp [h0, h1])
        clear hr
        go_enter Try.func29, Try.ntmps29
        go_wp2_with (first | (go_at_call 43; ((with_reducible refine (HA.out _).mono ?_); rintro e w2 ⟨rfl, rfl⟩)) | fail)
        go_ret
        exact right_ret (by first | (rw [HR.out]; done) | (rw [HR.out]; exact decide_eq_true (by omega))) _
      · have HR : Hid (rightP n bits = false) := Lib.hid (by unfold rightP; rw [show decide (bits ≤ 8 * (n : Int)) = false from decide_eq_false h1]; simp)
        have h2 : 8 * (n : Int) < bits := by omega
        clear hr h1
        go_enter Try.func29, Try.ntmps29
        go_wp2_with (first | (go_at_call 43; ((with_reducible refine (HA.out _).mono ?_); rintro e w2 ⟨rfl, rfl⟩)) | fail)
        go_ret
        exact right_ret (by first | (rw [HR.out]; done) | (rw [HR.out]; exact decide_eq_false (by omega))) _
    · have HR : Hid (rightP n bits = false) := Lib.hid (by unfold rightP; rw [show decide (0 ≤ bits) = false from decide_eq_false h0]; simp)
      have h2 : bits < 0 := by omega
      clear hr h0
      go_enter Try.func29, Try.ntmps29
      go_wp2_with (first | (go_at_call 43; ((with_reducible refine (HA.out _).mono ?_); rintro e w2 ⟨rfl, rfl⟩)) | fail)
      go_ret
      exact right_ret (by first | (rw [HR.out]; done) | (rw [HR.out]; exact decide_eq_false (by omega))) _
theorem aright_v (ad : Option Addr) (n cp : Nat) (bits : Int) (hn : n ≤ 100000) (r : Bool) (hr : rightP n bits = r) (w : World) :
    Calls Try.prog 29 #[.agg #[.slice ad n cp, .int .i64 bits]] w fun e w' => e = .returned (.bool r) ∧ Below w.heap.size w w' := by
  subst hr; exact aright_any ad n cp bits hn w
/-! the mask of a byte of which k bits count -/
def clampN (bits : Int) : Nat := min bits.toNat 8
def maskN (k : Nat) : Nat := 255 - 255 / 2 ^ k
theorem clampN_le (bits : Int) : clampN bits ≤ 8 := Nat.min_le_right _ _
theorem mask_any (bits : Int) (h1 : -100000 ≤ bits) (h2 : bits ≤ 100000) (w : World) :
    Calls Try.prog 37 #[.int .i64 bits] w fun e w' => e = .returned (.int .u8 (maskN (clampN bits))) ∧ w' = w := by
  by_cases hneg : bits < 0
  · have HC : Hid (clampN bits = 0) := Lib.hid (by unfold clampN; omega)
    have h8 : bits < 8 := by omega
    go_enter Try.func37, Try.ntmps37
    go_wp2_with fail
    go_ret
    exact ⟨by rw [HC.out]; rfl, rfl⟩
  · by_cases h8 : 8 < bits
    · have HC : Hid (clampN bits = 8) := Lib.hid (by unfold clampN; omega)
      go_enter Try.func37, Try.ntmps37
      go_wp2_with fail
      go_ret
      exact ⟨by rw [HC.out]; rfl, rfl⟩
    · have hc : bits = 0 ∨ bits = 1 ∨ bits = 2 ∨ bits = 3 ∨ bits = 4 ∨ bits = 5 ∨ bits = 6 ∨ bits = 7 ∨ bits = 8 := by omega
      clear h1 h2 hneg h8
      rcases hc with rfl | rfl | rfl | rfl | rfl | rfl | rfl | rfl | rfl
      all_goals
        go_enter Try.func37, Try.ntmps37
        go_wp2_with fail
        go_ret
        exact ⟨rfl, rfl⟩
end Go.Proofs.Ytlmmnjoincmgcaa

namespace Go.Proofs.Ytlmmnjoincmgcaa
set_option linter.unusedVariables false
set_option linter.unusedSimpArgs false
set_option maxRecDepth 100000
open Go.RowKit

theorem wrap_s64 (a : Int) (h0 : -9223372036854775808 ≤ a) (h : a < 9223372036854775808) : IntKind.i64.wrap a = a := by
  rw [IntKind.wrap_i64]; omega
theorem own_at {w : World} {base : Nat} {v : Value} {e : TypeId} {n : Nat} {xs : List Value} (h : w.ownsRow base e 1 v n xs) (h0 : 0 < n) : ∃ g cap, v = .slice (some ⟨g, 0, none⟩) n cap ∧ base ≤ g ∧ n ≤ cap ∧ cap ≤ maxLen := by
  rcases h.2 with ⟨_, h1⟩ | ⟨g, c, cur, h1, h2, _, h3, h4, _⟩
  · omega
  · exact ⟨g, c, h1, h2, h3, h4⟩
theorem own_bytes {w : World} {base : Nat} {a : List UInt8} {g c : Nat} (h : w.ownsRow base 5 1 (.slice (some ⟨g, 0, none⟩) a.length c) a.length (cellsOf a)) : Bytes w (.slice (some ⟨g, 0, none⟩) a.length c) a := by
  refine ⟨_, _, rfl, .inr ⟨g, 0, rfl, fun i hi => ?_⟩⟩
  rw [Nat.zero_add, h.cellAt i (by omega)]
  unfold cellsOf
  simp [List.getD, List.getElem?_eq_getElem hi]
def CloneRet (w : World) (a : List UInt8) (e : Ending) (w' : World) : Prop :=
  ∃ g c, e = .returned (.slice (some ⟨g, 0, none⟩) a.length c) ∧ w.heap.size ≤ g ∧ w'.ownsRow w.heap.size 5 1 (.slice (some ⟨g, 0, none⟩) a.length c) a.length (cellsOf a) ∧ a.length ≤ c ∧ c ≤ maxLen ∧ Below w.heap.size w w'
theorem bclone_any (a : List UInt8) (ad : Option Addr) (cp : Nat) (w : World) (ha : Bytes w (.slice ad a.length cp) a) (h0 : 0 < a.length) (hal : a.length ≤ 100000) :
    Calls Try.prog 36 #[.slice ad a.length cp] w (CloneRet w a) := by
  obtain ⟨b, off, rfl, _⟩ := bytes_cell ha h0
  have HV := Lib.hid ha
  clear ha
  have hq := Lib.run_eql_slice_nil (P := Try.prog) w 23 5 (some ⟨b, off, none⟩) a.length cp 0 0 Try.underlying23
  go_enter Try.func36, Try.ntmps36
  go_wp2_with (first | (at_builtin; refine wpList_append_bytes rfl _ _ rfl w.heap.size (.slice (some ⟨w.heap.size, 0, none⟩) 0 0) 0 [] rfl (World.ownsRow_made w #[] 0 (Nat.le_refl _) (by decide) rfl) (.slice (some ⟨b, off, none⟩) a.length cp) a rfl (HV.out.below (below_one _)) (fun n cap h => by cases h) (by simp; omega) (by simp) ?_; intro v' w4 hown hgrow) | fail)
  have hb : Below w.heap.size w w4 := (below_one _).grown hgrow (by simp) (fun k hk => by cases hk; simp)
  rw [Nat.zero_add, List.nil_append] at hown
  obtain ⟨g, c, rfl, hg, hnc, hcm⟩ := own_at hown h0
  go_ret
  exact ⟨g, c, rfl, hg, hown, hnc, hcm, hb⟩
/-! the bytes ahead of place i are cut to their bits -/
def plainU (a : List UInt8) (m i : Nat) : List UInt8 := (List.range a.length).map fun q => if q < i then UInt8.ofNat (keepH (a.getD q 0).toNat (m - 8 * q)) else a.getD q 0
theorem plainU_len (a : List UInt8) (m i : Nat) : (plainU a m i).length = a.length := by simp [plainU]
theorem plainU_zero (a : List UInt8) (m : Nat) : plainU a m 0 = a := by
  apply List.ext_getElem
  · simp [plainU]
  · intro q h1 h2
    simp [plainU, h2]
theorem plainU_all (a : List UInt8) (m : Nat) : plainU a m a.length = plainS a m := by
  apply List.ext_getElem
  · simp [plainU, plainS]
  · intro q h1 h2
    have hq : q < a.length := by rw [plainU_len] at h1; exact h1
    simp [plainU, plainS, hq]
theorem plainU_at {a : List UInt8} {m i : Nat} (hi : i < a.length) : (plainU a m i).getD i 0 = a.getD i 0 := by
  simp [plainU, List.getD, hi]
theorem plainU_next {a : List UInt8} {m i : Nat} (hi : i < a.length) : plainU a m (i + 1) = (plainU a m i).set i (UInt8.ofNat (keepH (a.getD i 0).toNat (m - 8 * i))) := by
  apply List.ext_getElem
  · simp [plainU]
  · intro q h1 h2
    by_cases he : q = i
    · subst he
      rw [List.getElem_set_self]
      simp [plainU]
    · rw [List.getElem_set_ne (fun h => he h.symm)]
      simp only [plainU, List.getElem_map, List.getElem_range]
      by_cases hlt : q < i
      · rw [if_pos hlt, if_pos (by omega)]
      · rw [if_neg hlt, if_neg (by omega)]
theorem keepH_min (c r : Nat) : keepH c (min r 8) = keepH c r := by
  unfold keepH
  rw [show 8 - min r 8 = 8 - r by omega]
theorem clamp_eq {bits : Int} (h0 : 0 ≤ bits) (i : Nat) : clampN (bits - 8 * i) = min (bits.toNat - 8 * i) 8 := by unfold clampN; omega
theorem mask_keep (u : UInt8) (k : Nat) (hk : k ≤ 8) : bits BinOp.and IntKind.u8 (u.toNat : Int) (maskN k : Nat) = ((keepH u.toNat k : Nat) : Int) := by
  have key : ∀ i : Fin 256, ∀ j : Fin 9, bits BinOp.and IntKind.u8 (i.val : Int) (maskN j.val : Nat) = ((keepH i.val j.val : Nat) : Int) := by decide +kernel
  exact key ⟨u.toNat, UInt8.toNat_lt u⟩ ⟨k, by omega⟩
theorem cells_snap (a : List UInt8) (m i x : Nat) (hi : i < a.length) (hx : x = keepH (a.getD i 0).toNat (m - 8 * i)) : (cellsOf (plainU a m i)).set i (.int .u8 (x : Int)) = cellsOf (plainU a m (i + 1)) := by
  have h1 := keepH_le (a.getD i 0).toNat (m - 8 * i)
  have h2 := UInt8.toNat_lt (a.getD i 0)
  rw [plainU_next hi]
  unfold cellsOf
  rw [List.map_set]
  congr 1
  rw [UInt8.toNat_ofNat', Nat.mod_eq_of_lt (by omega), hx]
def PlainPW (w wr : World) (a : List UInt8) (ad : Option Addr) (cp : Nat) (bits : Int) (g c k : Nat) : Prop :=
  wr.heap[w.heap.size]? = some (.cells #[.slice ad a.length cp, .int .i64 bits] 29 (0, 0)) ∧ wr.heap[w.heap.size + 1]? = some (.cells #[.slice none 0 0, .int .i64 0] 29 (0, 0)) ∧
  wr.ownsRow (w.heap.size + 2) 5 1 (.slice (some ⟨g, 0, none⟩) a.length c) a.length (cellsOf (plainU a bits.toNat k)) ∧ Below w.heap.size w wr
theorem heap_other {W : World} {g j k : Nat} {v : Value} (h : j ≠ g) : (W.setCell ⟨g, k, none⟩ v).heap[j]? = W.heap[j]? := by
  simp [World.setCell, Array.getElem?_modify, h.symm]
theorem plainp_step {w wr : World} {a : List UInt8} {ad : Option Addr} {cp : Nat} {bits : Int} {g c k x : Nat} {n : Nat} (h : PlainPW w wr a ad cp bits g c k) (hg : w.heap.size + 2 ≤ g) (hk : k < a.length) (hx : x = keepH (a.getD k 0).toNat (bits.toNat - 8 * k)) :
    PlainPW w ((wr.drewN n).setCell ⟨g, k, none⟩ (.int .u8 (x : Int))) a ad cp bits g c (k + 1) := by
  refine ⟨by rw [heap_other (by omega)]; exact h.1, by rw [heap_other (by omega)]; exact h.2.1, ?_, (below_dr h.2.2.2 n).setCell (by simp; omega) _⟩
  rw [← cells_snap a bits.toNat k x hk hx]
  have h2 : (wr.drewN n).ownsRow (w.heap.size + 2) 5 1 (.slice (some ⟨g, 0, none⟩) a.length c) a.length (cellsOf (plainU a bits.toNat k)) := h.2.2.1
  exact (h2.stored k _).1
theorem plainp_results (W : World) (b : Nat) (v0 v1 : Value) (h : W.heap[b]? = some (.cells #[v0, v1] 29 (0, 0))) (T : Array Value) (c : Int) (h2 : T.getD 2 undef = .pointer (some ⟨b, 0, none⟩)) (h3 : T.getD 3 undef = .int .i64 c) :
    (results Try.f20 T).run Try.prog W = .ok (.tuple #[.agg #[v0, v1], .int .i64 c]) W := by
  have c0 := cell_of h 0 rfl; have c1 := cell_of h 1 rfl
  have e2 : T[2]?.getD undef = .pointer (some ⟨b, 0, none⟩) := by simpa using h2
  have e3 : T[3]?.getD undef = .int .i64 c := by simpa using h3
  simp [results, Try.results20, go_sem, e2, e3, c0, c1]
set_option maxHeartbeats 8000000 in
theorem aplain_any (a : List UInt8) (ad : Option Addr) (cp : Nat) (bits : Int) (w : World) (ha : Bytes w (.slice ad a.length cp) a) (hac : a.length ≤ cp) (hcm : cp ≤ maxLen) (hal : a.length ≤ 1000) :
    Calls Try.prog 20 #[.agg #[.slice ad a.length cp, .int .i64 bits]] w (PlainRet4 w a bits) := by
  have e0 := heap_alloc_new w (.cells #[.slice ad a.length cp, .int .i64 bits] 29)
  have e1 := heap_alloc_new (w.alloc (.cells #[.slice ad a.length cp, .int .i64 bits] 29)) (.cells #[.slice none 0 0, .int .i64 0] 29)
  have s1 : (w.alloc (.cells #[.slice ad a.length cp, .int .i64 bits] 29)).heap.size = w.heap.size + 1 := by simp
  rw [s1] at e1
  have k0 := (below_one (w := w.alloc (.cells #[.slice ad a.length cp, .int .i64 bits] 29)) (.cells #[.slice none 0 0, .int .i64 0] 29)).block w.heap.size (by rw [s1]; omega)
  rw [e0] at k0
  have HK0 := Lib.hid k0
  have HK1 := Lib.hid e1
  have HB0 : Hid (Below w.heap.size w ((w.alloc (.cells #[.slice ad a.length cp, .int .i64 bits] 29)).alloc (.cells #[.slice none 0 0, .int .i64 0] 29))) := Lib.hid (((Below.refl _ _).alloc (Nat.le_refl _) _).alloc (by simp) _)
  have c0 : (((w.alloc (.cells #[.slice ad a.length cp, .int .i64 bits] 29)).alloc (.cells #[.slice none 0 0, .int .i64 0] 29))).cell? ⟨w.heap.size, 0, none⟩ = some (.slice ad a.length cp) := cell_of k0 0 rfl
  have c1 : (((w.alloc (.cells #[.slice ad a.length cp, .int .i64 bits] 29)).alloc (.cells #[.slice none 0 0, .int .i64 0] 29))).cell? ⟨w.heap.size, 1, none⟩ = some (.int .i64 bits) := cell_of k0 1 rfl
  have HVA := Lib.hid ha
  clear e0 e1 s1 k0 ha
  cases hr : rightP a.length bits with
  | false =>
    have HR : Hid (plainOf a bits = ([], 0, 3)) := Lib.hid (by unfold plainOf; rw [hr]; rfl)
    have HRI := Lib.hid (aright_v ad a.length cp bits (by omega) false hr)
    clear hr
    go_enter Try.func20, Try.ntmps20
    go_wp2_with (first | (go_at_call 29; ((with_reducible refine (HRI.out _).mono ?_); rintro e w2 ⟨rfl, hb2⟩; have hx0 := (hb2.block _ (by simp only [World.size_alloc]; omega)).trans HK0.out; have hx1 := (hb2.block _ (by simp only [World.size_alloc]; omega)).trans HK1.out; have HX0 := Lib.hid hx0; have HX1 := Lib.hid hx1; have HB := Lib.hid (Below.next HB0.out hb2); have hsz : w.heap.size + 2 ≤ w2.heap.size := (by have := hb2.size; simp only [World.size_alloc] at this; omega); have c0 : w2.cell? ⟨w.heap.size, 0, none⟩ = some (.slice ad a.length cp) := cell_of hx0 0 rfl; have c1 : w2.cell? ⟨w.heap.size, 1, none⟩ = some (.int .i64 bits) := cell_of hx0 1 rfl; have d0 : w2.cell? ⟨w.heap.size + 1, 0, none⟩ = some (.slice none 0 0) := cell_of hx1 0 rfl; have d1 : w2.cell? ⟨w.heap.size + 1, 1, none⟩ = some (.int .i64 0) := cell_of hx1 1 rfl; have g1 := fun i => free_of hx1 i; clear hb2 hx0 hx1)) | fail)
    have HE : ((w2.setCell ⟨w.heap.size + 1, 0, none⟩ (.slice none 0 0)).setCell ⟨w.heap.size + 1, 1, none⟩ (.int .i64 0)).heap[w.heap.size + 1]? = some (.cells #[.slice none 0 0, .int .i64 0] 29 (0, 0)) := set_block (i := 1) (v := .int .i64 0) (set_block (i := 0) (v := .slice none 0 0) HX1.out)
    refine bodyPost_ret (plainp_results _ _ _ _ HE _ 3 rfl rfl) rfl ⟨none, 0, ?_, ?_, ?_, ?_, ?_⟩
    · rw [HR.out]; rfl
    · rw [HR.out]; exact bytes_nil _
    · rw [HR.out]; exact Nat.le_refl _
    · exact Nat.zero_le _
    · exact (HB.out.setCell (by simp) _).setCell (by simp) _
  | true =>
    have HR : Hid (plainOf a bits = (plainS a bits.toNat, bits, 0)) := Lib.hid (by unfold plainOf; rw [hr]; rfl)
    have HRI := Lib.hid (aright_v ad a.length cp bits (by omega) true hr)
    obtain ⟨hlen4, hb0, hb8⟩ := right_len hr
    have h0 : 0 < a.length := by omega
    have HCL : Hid (∀ w, Bytes w (.slice ad a.length cp) a → Calls Try.prog 36 #[.slice ad a.length cp] w (CloneRet w a)) := Lib.hid (fun w h => bclone_any a ad cp w h h0 (by omega))
    clear hr hlen4
    have hali : (a.length : Int) ≤ 1000 := by omega
    go_enter Try.func20, Try.ntmps20
    go_wp2_with (first | (go_at_call 29; ((with_reducible refine (HRI.out _).mono ?_); rintro e w2 ⟨rfl, hb2⟩; have hx0 := (hb2.block _ (by simp only [World.size_alloc]; omega)).trans HK0.out; have hx1 := (hb2.block _ (by simp only [World.size_alloc]; omega)).trans HK1.out; have HX0 := Lib.hid hx0; have HX1 := Lib.hid hx1; have HB := Lib.hid (Below.next HB0.out hb2); have hsz : w.heap.size + 2 ≤ w2.heap.size := (by have := hb2.size; simp only [World.size_alloc] at this; omega); have c0 : w2.cell? ⟨w.heap.size, 0, none⟩ = some (.slice ad a.length cp) := cell_of hx0 0 rfl; have c1 : w2.cell? ⟨w.heap.size, 1, none⟩ = some (.int .i64 bits) := cell_of hx0 1 rfl; have d0 : w2.cell? ⟨w.heap.size + 1, 0, none⟩ = some (.slice none 0 0) := cell_of hx1 0 rfl; have d1 : w2.cell? ⟨w.heap.size + 1, 1, none⟩ = some (.int .i64 0) := cell_of hx1 1 rfl; have g1 := fun i => free_of hx1 i; clear hb2 hx0 hx1)) | (go_at_call 36; ((with_reducible refine (HCL.out _ (HVA.out.below HB.out)).mono ?_); rintro e w3 ⟨g, c, rfl, hg, hown, hnc, hcmm, hb3⟩; have HO := Lib.hid hown; have HB3 := Lib.hid hb3; have HG : Hid (w.heap.size + 2 ≤ g) := Lib.hid (by omega); have HNC := Lib.hid hnc; have HCM := Lib.hid hcmm; clear hown hb3 hg hnc hcmm)) | fail)
    have HST : Hid (PlainPW w w3 a ad cp bits g c 0) := Lib.hid ⟨(HB3.out.block _ (by omega)).trans HX0.out, (HB3.out.block _ (by omega)).trans HX1.out, by rw [plainU_zero]; exact HO.out.mono hsz, Below.next HB.out HB3.out⟩
    clear c0 c1 d0 d1 g1 HX0 HX1 HO
    go_loopw [15] (fun i wr => ∃ k : Nat, i = .int .i64 k ∧ k ≤ a.length ∧ PlainPW w wr a ad cp bits g c k) (fun i _ => a.length - (intOf i).toNat)
    case atStart => exact ⟨0, rfl, by omega, HST.out⟩
    case round =>
      obtain ⟨k, rfl, hk, hpw⟩ := hrel
      have HPW := Lib.hid hpw
      have d0 : wr.cell? ⟨w.heap.size, 0, none⟩ = some (.slice ad a.length cp) := cell_of hpw.1 0 rfl
      have d1 : wr.cell? ⟨w.heap.size, 1, none⟩ = some (.int .i64 bits) := cell_of hpw.1 1 rfl
      by_cases hlt : k < a.length
      · have c1 : wr.cell? ⟨g, k, none⟩ = some (.int .u8 (a.getD k 0).toNat) := by
          rw [hpw.2.2.1.cellAt k (by omega)]
          unfold cellsOf
          rw [List.getElem?_map, List.getElem?_eq_getElem (by rw [plainU_len]; exact hlt)]
          have := plainU_at (m := bits.toNat) hlt
          rw [List.getD, List.getElem?_eq_getElem (by rw [plainU_len]; exact hlt)] at this
          simp only [Option.getD_some] at this
          rw [this]; rfl
        have f1 : wr.frozen? ⟨g, k, none⟩ = false := hpw.2.2.1.frozenAt k
        have HLT := Lib.hid hlt
        obtain ⟨x, hx⟩ : ∃ x, keepH (a.getD k 0).toNat (bits.toNat - 8 * k) = x := ⟨_, rfl⟩
        obtain ⟨mk, hmk⟩ : ∃ m, maskN (clampN (bits - 8 * k)) = m := ⟨_, rfl⟩
        have hand : Go.bits BinOp.and IntKind.u8 ((a.getD k 0).toNat : Int) (mk : Int) = (x : Int) := by
          rw [← hmk, mask_keep _ _ (clampN_le _), clamp_eq hb0, keepH_min, hx]
        have HM : Hid (∀ w, Calls Try.prog 37 #[.int .i64 (bits - 8 * k)] w fun e w' => e = .returned (.int .u8 (mk : Int)) ∧ w' = w) := Lib.hid (fun w => by rw [← hmk]; exact mask_any _ (by omega) (by omega) w)
        have HX := Lib.hid hx
        generalize (a.getD k 0).toNat = y at c1 hand
        have hw1 := wrap_i64 (8 * (k : Int)) (by omega) (by omega)
        have hw2 := wrap_s64 (bits - 8 * (k : Int)) (by omega) (by omega)
        have hk0 : (0 : Int) ≤ k := by omega
        have hk1 : (k : Int) < a.length := by omega
        clear hpw hx hmk hlt
        have ht1 : (k : Int).toNat = k := by omega
        go_wp2_with fail
        refine wp_region_still_tail 12 (by kernel_rfl) (by kernel_rfl) ?_
        simp only [List.take_succ_cons, List.take_zero, List.drop_succ_cons, List.drop_zero]
        repeat still_step
        still_call (HM.out wr.drew)
        repeat still_step
        try refine wpStill_nil ?_
        change wpList _ _ _ _ _ wr.drew
        go_wp2_with fail
        go_roundw
        case rel => exact ⟨k + 1, by go_num, by omega, plainp_step (n := 1) HPW.out HG.out HLT.out HX.out.symm⟩
        case measure => simp [intOf]; omega
      · have HPB : Hid (k = a.length) := Lib.hid (by omega)
        have d2 : wr.cell? ⟨w.heap.size + 1, 0, none⟩ = some (.slice none 0 0) := cell_of hpw.2.1 0 rfl
        have d3 : wr.cell? ⟨w.heap.size + 1, 1, none⟩ = some (.int .i64 0) := cell_of hpw.2.1 1 rfl
        have g2 := fun i => free_of hpw.2.1 i
        clear hpw
        go_wp2_with fail
        have HE : ((wr.setCell ⟨w.heap.size + 1, 0, none⟩ (.slice (some ⟨g, 0, none⟩) a.length c)).setCell ⟨w.heap.size + 1, 1, none⟩ (.int .i64 bits)).heap[w.heap.size + 1]? = some (.cells #[.slice (some ⟨g, 0, none⟩) a.length c, .int .i64 bits] 29 (0, 0)) := set_block (i := 1) (v := .int .i64 bits) (set_block (i := 0) (v := .slice (some ⟨g, 0, none⟩) a.length c) HPW.out.2.1)
        have HL : (plainS a bits.toNat).length = a.length := plainS_len _ _
        refine bodyPost_ret (plainp_results _ _ _ _ HE _ 0 rfl rfl) rfl ⟨some ⟨g, 0, none⟩, c, ?_, ?_, ?_, HCM.out, ?_⟩
        · rw [HR.out, HL]
        · rw [HR.out]
          have h1 : wr.ownsRow (w.heap.size + 2) 5 1 (.slice (some ⟨g, 0, none⟩) a.length c) a.length (cellsOf (plainU a bits.toNat k)) := HPW.out.2.2.1
          rw [HPB.out, plainU_all] at h1
          have h2 : Bytes wr (.slice (some ⟨g, 0, none⟩) (plainS a bits.toNat).length c) (plainS a bits.toNat) := own_bytes (by rw [HL]; exact h1)
          obtain ⟨q, cq, hq, h3⟩ := h2
          refine ⟨q, cq, hq, h3.imp id ?_⟩
          rintro ⟨b, off, he, hc⟩
          refine ⟨b, off, he, fun i hi => ?_⟩
          subst he
          injection hq with h4
          injection h4 with h5
          injection h5 with h6 h7
          subst h6 h7
          have hne : g ≠ w.heap.size + 1 := by have := HG.out; omega
          rw [← hc i hi]
          simp [World.cell?, heap_other hne]
        · rw [HR.out, HL]; exact HNC.out
        · exact ((HPW.out.2.2.2).setCell (by simp) _).setCell (by simp) _
theorem conv_bytes {w : World} {ad : Option Addr} {cp : Nat} {l : List UInt8} (h : Bytes w (.slice ad l.length cp) l) (h0 : 0 < l.length) : ∃ b off, ad = some ⟨b, off, none⟩ ∧ (convert 23 9 (.slice (some ⟨b, off, none⟩) l.length cp)).run Try.prog w = .ok (.string (strB l)) w := by
  obtain ⟨b, off, rfl, hc⟩ := bytes_cell h h0
  refine ⟨b, off, rfl, run_convert_bytes_back _ _ _ _ _ _ l Try.underlying23 Try.underlying5 Try.underlying9 fun j hj => ?_⟩
  rw [add_at, hc j hj]
  simp [List.getD, List.getElem?_eq_getElem hj]
def isPlainB (a : List UInt8) (bits : Int) : Bool := rightP a.length bits && (plainS a bits.toNat == a)
end Go.Proofs.Ytlmmnjoincmgcaa

namespace Go.Proofs.Ytlmmnjoincmgcaa
set_option linter.unusedVariables false
set_option linter.unusedSimpArgs false
set_option maxRecDepth 100000
open Go.RowKit Go.Shelf
attribute [local go_sem] Oper.semAt_some

abbrev encP (x : UInt8 × UInt8) : Array Value := #[.int .u8 x.1.toNat, .int .u8 x.2.toNat]
/-- a row of bytes in a block below n₀ -/
def RowAt (n₀ : Nat) (w : World) (bk off : Nat) (l : List UInt8) : Prop := bk < n₀ ∧ ∀ i, i < l.length → w.cell? ⟨bk, off + i, none⟩ = some (.int .u8 (l.getD i 0).toNat)
theorem RowAt.below {n₀ : Nat} {w W : World} {bk off : Nat} {l : List UInt8} (h : RowAt n₀ w bk off l) (hb : Below n₀ w W) : RowAt n₀ W bk off l := ⟨h.1, fun i hi => (hb.cell (p := ⟨bk, off + i, none⟩) h.1).trans (h.2 i hi)⟩
theorem take_zip_next {a b : List UInt8} {k : Nat} (hk : k < a.length) (hl : a.length = b.length) : (a.zip b).take (k + 1) = (a.zip b).take k ++ [(a.getD k 0, b.getD k 0)] := by
  rw [List.take_succ_eq_append_getElem (by simp; omega)]
  congr 2
  have hkb : k < b.length := by omega
  simp [List.getD, List.getElem?_eq_getElem hk, List.getElem?_eq_getElem hkb]
set_option maxHeartbeats 4000000 in
theorem pairs1_in (F : Fence) (n : Nat) (hF : OpenF F Try.prog) (hf : F.fn 47) (hro : F.round = none) (hn : 1 ≤ n) (l Ba Bb n₀ bk off bl ofl cp cq : Nat) (a b : List UInt8) (hl : a.length = b.length) (hal : a.length ≤ 1000) (J Jx : List (UInt8 × UInt8) → World → Prop)
    (hY : ∀ pre x W, J pre W → pre.length < a.length → YieldAt F (n - 1) Try.prog l (encP x) W fun e W' =>
      (e = .returned (.bool true) ∧ J (pre ++ [x]) W' ∧ KpB n₀ Ba Bb W W') ∨ (e = .returned (.bool false) ∧ Jx (pre ++ [x]) W'))
    (W : World) (hxa : W.cell? ⟨Ba, 0, none⟩ = some (.slice (some ⟨bk, off, none⟩) a.length cp)) (hxb : W.cell? ⟨Bb, 0, none⟩ = some (.slice (some ⟨bl, ofl, none⟩) b.length cq))
    (hca : RowAt n₀ W bk off a) (hcb : RowAt n₀ W bl ofl b) (h0 : J [] W) (hJd : ∀ pre W n, J pre W → J pre (W.drewN n)) :
    CallsIn F n Try.prog 47 #[.func (.yield l) #[] #[], .pointer (some ⟨Ba, 0, none⟩), .pointer (some ⟨Bb, 0, none⟩)] W fun e W' => (∃ v, e = .returned v) ∧
      (J (a.zip b) W' ∨ (∃ k, k ≤ a.length ∧ Jx ((a.zip b).take k) W')) := by
  have hali : (a.length : Int) ≤ 1000 := by omega
  have hbli : (b.length : Int) = a.length := by omega
  rw [← hl] at hxb
  refine callsIn_of_wp Try.func47 rfl hf ?_ hro
  simp only [Try.ntmps47, List.size_toArray, List.length_cons, List.length_nil, Nat.reduceAdd, Nat.reduceSub, Array.replicate_succ, Array.replicate_zero, List.push_toArray, List.append_toArray, List.nil_append, List.cons_append]
  gi_wp2
  gi_loopw [10] (fun i wr => ∃ k : Nat, k ≤ a.length ∧ i = .int .i64 k ∧ J ((a.zip b).take k) wr ∧ KpB n₀ Ba Bb W wr) (fun i _ => a.length - (intOf i).toNat)
  case atStart => exact ⟨0, Nat.zero_le _, rfl, h0, kpB_refl _ _ _ _⟩
  case round =>
    obtain ⟨k, hk, rfl, hJs, hnx⟩ := hrel
    have ya := hnx.2.1.trans hxa
    have yb := hnx.2.2.trans hxb
    by_cases hlt : k < a.length
    · have ca := (hca.below hnx.1).2 k hlt
      have cb := (hcb.below hnx.1).2 k (by omega)
      obtain ⟨x, hx⟩ : ∃ x, a.getD k 0 = x := ⟨_, rfl⟩
      obtain ⟨y, hyy⟩ : ∃ y, b.getD k 0 = y := ⟨_, rfl⟩
      have HN : Hid ((a.zip b).take (k + 1) = (a.zip b).take k ++ [(x, y)]) := Lib.hid (by rw [← hx, ← hyy]; exact take_zip_next hlt hl)
      rw [hx] at ca
      rw [hyy] at cb
      clear hx hyy
      obtain ⟨fn, tmps, assign, body, hy, hR⟩ := hY _ (x, y) wr.drew (hJd _ _ 1 hJs) (by rw [List.length_take, List.length_zip]; omega)
      dsimp only [encP] at hy
      have HR : Hid (RoundIn F (n - 1) Try.prog l fn tmps assign body wr.drew fun e W' => ∃ r, e = .returned (.bool r) ∧ ((r = true ∧ J ((a.zip b).take k ++ [(x, y)]) W' ∧ KpB n₀ Ba Bb wr.drew W') ∨ (r = false ∧ Jx ((a.zip b).take k ++ [(x, y)]) W'))) := Lib.hid (hR.mono (by
        rintro e W' (⟨rfl, h1, h2⟩ | ⟨rfl, h1⟩)
        · exact ⟨true, rfl, .inl ⟨rfl, h1, h2⟩⟩
        · exact ⟨false, rfl, .inr ⟨rfl, h1⟩⟩))
      clear hR
      gi_wp2
      refine wpIn_region_still_tail 9 hF (by kernel_rfl) (by kernel_rfl) ?_
      simp only [List.take_succ_cons, List.take_zero, List.drop_succ_cons, List.drop_zero]
      repeat still_step
      try refine wpStill_nil ?_
      change wpListIn _ _ _ _ _ _ _ wr.drew
      gi_wp2
      refine HR.out.mono ?_
      rintro e W3 ⟨r, rfl, hd⟩
      rcases hd with ⟨rfl, hJ3, hk3⟩ | ⟨rfl, hJx3⟩
      · gi_wp2
        go_roundw
        case rel => exact ⟨k + 1, by omega, by simp, by rw [HN.out]; exact hJ3, kpB_t hnx (kpB_t (kpB_drew _) hk3)⟩
        case measure => simp [intOf]; omega
      · gi_wp2
        refine bodyPost_ret (results_none rfl _ _ _) rfl ?_
        exact ⟨⟨_, rfl⟩, .inr ⟨k + 1, by omega, by rw [HN.out]; exact hJx3⟩⟩
    · obtain rfl : k = a.length := by omega
      gi_wp2
      go_end0
      exact ⟨⟨_, rfl⟩, .inl (by rw [List.take_of_length_le (by rw [List.length_zip]; omega)] at hJs; exact hJs)⟩
theorem pairs_any (ad bd : Option Addr) (n cp m cq : Nat) (w : World) : Calls Try.prog 44 #[.slice ad n cp, .slice bd m cq] w fun e w' =>
    e = .returned (.func (.func 47) #[] #[.pointer (some ⟨w.heap.size, 0, none⟩), .pointer (some ⟨w.heap.size + 1, 0, none⟩)]) ∧ w' = (w.alloc (.cells #[.slice ad n cp] 23)).alloc (.cells #[.slice bd m cq] 23) := by
  go_enter Try.func44, Try.ntmps44
  go_wp2_with fail
  go_ret
  exact ⟨rfl, rfl⟩
theorem pairs_stops (F : Fence) (n : Nat) (hF : OpenF F Try.prog) (hro : F.round = none) (hn : 1 ≤ n) (Ba Bb n₀ bk off bl ofl cp cq : Nat) (a b : List UInt8) (hl : a.length = b.length) (hal : a.length ≤ 1000) (w : World)
    (hBa : Ba < w.heap.size) (hBb : Bb < w.heap.size) (hn₀ : n₀ ≤ w.heap.size) (hxa : w.cell? ⟨Ba, 0, none⟩ = some (.slice (some ⟨bk, off, none⟩) a.length cp)) (hxb : w.cell? ⟨Bb, 0, none⟩ = some (.slice (some ⟨bl, ofl, none⟩) b.length cq))
    (hca : RowAt n₀ w bk off a) (hcb : RowAt n₀ w bl ofl b) :
    SeqStopsK F n Try.prog 47 #[.pointer (some ⟨Ba, 0, none⟩), .pointer (some ⟨Bb, 0, none⟩)] encP (KpB n₀ Ba Bb) (fun xs => xs = a.zip b) (fun pre => ∃ k, k ≤ a.length ∧ pre = (a.zip b).take k) a.length w :=
  fun l J Jx W hW hJ hJx hY h0 => by
  refine (pairs1_in F n hF (hF.fn _) hro hn l Ba Bb n₀ bk off bl ofl cp cq a b hl hal J Jx hY W ((hW.cell (p := ⟨Ba, 0, none⟩) hBa).trans hxa) ((hW.cell (p := ⟨Bb, 0, none⟩) hBb).trans hxb) (hca.below (hW.mono hn₀)) (hcb.below (hW.mono hn₀)) h0 (fun pre W1 m hs => ?_)).mono ?_
  · exact abides_drew hJ hs m
  · rintro e W' ⟨he, h | ⟨k, hk, h⟩⟩
    · exact ⟨he, .inl ⟨_, rfl, h⟩⟩
    · exact ⟨he, .inr ⟨_, ⟨k, hk, rfl⟩, h⟩⟩
end Go.Proofs.Ytlmmnjoincmgcaa
