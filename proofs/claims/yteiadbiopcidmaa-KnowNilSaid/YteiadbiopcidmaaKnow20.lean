/- know: the terms of the chapter's examples, as they are read. -/
import Derived.Test.YteiadbiopcidmaaKnow19
namespace Go.Proofs.Yteiadbiopcidmaa
set_option linter.unusedVariables false
set_option maxRecDepth 100000

def xS : List UInt8 := [115, 40, 49, 44, 107, 40, 49, 44, 97, 49, 44, 48, 41, 44, 97, 50, 44, 48, 41]
def tS : Tm := .mk 10 [115, 40, 49, 44, 107, 40, 49, 44, 97, 49, 44, 48, 41, 44, 97, 50, 44, 48, 41] [.mk 8 [107, 40, 49, 44, 97, 49, 44, 48, 41] [.mk 2 [97, 49] [], .mk 1 [48] []], .mk 2 [97, 50] [], .mk 1 [48] []]
theorem read_xS : kPieceS (kLoop 30) xS = some (tS, []) := by kernel_rfl
theorem look_xS : (lookR xS).1 = 10 := by kernel_rfl
def xA1 : List UInt8 := [97, 49]
def tA1 : Tm := .mk 2 [97, 49] []
theorem read_xA1 : kPieceS (kLoop 30) xA1 = some (tA1, []) := by kernel_rfl
theorem look_xA1 : (lookR xA1).1 = 2 := by kernel_rfl
def xA2 : List UInt8 := [97, 50]
def tA2 : Tm := .mk 2 [97, 50] []
theorem read_xA2 : kPieceS (kLoop 30) xA2 = some (tA2, []) := by kernel_rfl
theorem look_xA2 : (lookR xA2).1 = 2 := by kernel_rfl
def xP1 : List UInt8 := [112, 40, 97, 49, 41]
def tP1 : Tm := .mk 5 [112, 40, 97, 49, 41] [.mk 2 [97, 49] []]
theorem read_xP1 : kPieceS (kLoop 30) xP1 = some (tP1, []) := by kernel_rfl
theorem look_xP1 : (lookR xP1).1 = 5 := by kernel_rfl
def xD : List UInt8 := [100, 40, 97, 49, 44, 97, 50, 41]
def tD : Tm := .mk 6 [100, 40, 97, 49, 44, 97, 50, 41] [.mk 2 [97, 49] [], .mk 2 [97, 50] []]
theorem read_xD : kPieceS (kLoop 30) xD = some (tD, []) := by kernel_rfl
theorem look_xD : (lookR xD).1 = 6 := by kernel_rfl
set_option linter.unusedVariables false
set_option linter.unusedSimpArgs false
set_option maxRecDepth 100000
open Go.RowKit

theorem below_kept {n : Nat} {w W W2 : World} {S : Nat → Prop} (h : Below n w W) (hk : Kept S W W2) (hn : n ≤ W.heap.size) (hs : ∀ k, S k → n ≤ k) : Below n w W2 :=
  ⟨hk.os.trans h.os, hk.tape.trans h.tape, hk.output.trans h.output, Nat.le_trans h.size hk.size, fun k hkn => (hk.block k (by omega) (fun e => by have := hs k e; omega)).trans (h.block k hkn)⟩
theorem MapIs.below {α : Type} {f : α → Value} {w w' : World} {m : Nat} {L : List (Name × α)} (h : MapIs f w m L) (hb : Below w.heap.size w w') : MapIs f w' m L := (hb.block m (Array.getElem?_eq_some_iff.1 h).1).trans h
theorem kcan_had (t : ByteArray) (ht : t.size ≤ 65536) (kk : Nat) (hkk : (lookR t.data.toList).1 = kk) (h0 : kk ≠ 0) (tm : Tm) (F : Nat) (r2 : List UInt8) (hp : kPieceS (kLoop F) t.data.toList = some (tm, r2)) (h5 : tm.kind = 5 → tm.parts ≠ []) (h6 : tm.kind = 6 → tm.parts.length = 2)
    (K hm : Nat) (Hd : List (Name × Bool)) (sv : Value) (w : World) (hk : KnowIs w K (.map (some hm)) sv) (hh : MapIs Value.bool w hm Hd) (hl : lookL Hd (nameOf tm) = some true) :
    Calls Try.prog 6 #[.pointer (some ⟨K, 0, none⟩), .string t] w fun e W => e = .returned (.bool true) ∧ Below w.heap.size w W := by
  refine kcan_any t ht kk hkk h0 tm F r2 hp K (some hm) sv w hk true fun W Ka sm n B hA => ?_
  refine (kspot_new true (fun _ _ _ _ => True) tm h5 B (Fr n) W hA.piece Ka hm sm Hd [] hA.know (hh.below hA.below) hA.map rfl hl h6 (fun k hk e => by subst e; have := hA.smLt.2; unfold Fr at hk; omega) (fun h => by cases h) (fun h => by cases h)).mono ?_
  rintro e W' ⟨Bn, rfl, hn⟩
  rw [if_pos rfl] at hn
  exact ⟨Bn, _, _, rfl, hn.2.2.1, below_kept hA.below hn.1 hA.below.size (fun k e => by subst e; exact hA.smLt.1)⟩
theorem kcan_atom (t : ByteArray) (ht : t.size ≤ 65536) (hkk : (lookR t.data.toList).1 = 2) (tx : List UInt8) (F : Nat) (r2 : List UInt8) (hp : kPieceS (kLoop F) t.data.toList = some (.mk 2 tx [], r2))
    (K hm : Nat) (Hd : List (Name × Bool)) (sv : Value) (w : World) (hk : KnowIs w K (.map (some hm)) sv) (hh : MapIs Value.bool w hm Hd) (hl : lookL Hd (false, tx) = none) :
    Calls Try.prog 6 #[.pointer (some ⟨K, 0, none⟩), .string t] w fun e W => e = .returned (.bool false) ∧ Below w.heap.size w W := by
  refine kcan_any t ht 2 hkk (by decide) (.mk 2 tx []) F r2 hp K (some hm) sv w hk false fun W Ka sm n B hA => ?_
  refine (kspot_new false (fun Bn v i W2 => SpotIs W2 Bn false (.slice none 0 0) (.slice none 0 0) ∧ Below w.heap.size w W2) (.mk 2 tx []) (fun h => by cases h) B (Fr n) W hA.piece Ka hm sm Hd [] hA.know (hh.below hA.below) hA.map rfl (by simpa [nameOf, Tm.kind, Tm.text] using hl) (fun h => by cases h) (fun k hk e => by subst e; have := hA.smLt.2; unfold Fr at hk; omega) ?_ ?_).mono ?_
  · intro _ Bn W0 W1 v hn hg _
    have hb := below_kept hA.below hn.1 hA.below.size (fun k e => by subst e; exact hA.smLt.1)
    exact ⟨keep_far hn.2.2.1 hg (fun e => by cases e), below_kept hb (Kept.of_grown hg) (Nat.le_trans hA.below.size hn.1.size) (fun k e => by cases e)⟩
  · intro _ Bn v i ts W1 hi _
    cases hi
  · rintro e W' ⟨Bn, rfl, hn⟩
    rw [if_neg (by decide)] at hn
    obtain ⟨v, h1, h2⟩ := hn
    exact ⟨Bn, _, _, rfl, h1, h2⟩
end Go.Proofs.Yteiadbiopcidmaa
