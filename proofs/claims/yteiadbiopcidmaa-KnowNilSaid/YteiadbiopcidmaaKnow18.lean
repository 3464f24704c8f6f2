/- know: Can, by the contract of spot. -/
import Derived.Test.YteiadbiopcidmaaKnow17
namespace Go.Proofs.Yteiadbiopcidmaa
set_option linter.unusedVariables false
set_option linter.unusedSimpArgs false
set_option maxRecDepth 100000
open Go.RowKit

/-- what stands when the question's spot is asked for -/
structure Asked (w : World) (hv : Value) (tm : Tm) (W : World) (Ka sm n B : Nat) : Prop where
  below : Below w.heap.size w W
  kaLt : w.heap.size ≤ Ka ∧ Ka < n
  smLt : w.heap.size ≤ sm ∧ sm < n
  know : KnowIs W Ka hv (.map (some sm))
  map : MapIs ptrV W sm []
  piece : PieceAt (Fr n) W tm B
theorem asked_mk {w w2 w4 : World} {hm : Option Nat} {tm : Tm} {B : Nat} (hb : Below w.heap.size w w2) (hp : PieceAt (Fr (((w2.alloc (.map #[] 0)).alloc (.cells #[.map hm, .map (some w2.heap.size)] 38))).heap.size) w4 tm B) (hg : (((w2.alloc (.map #[] 0)).alloc (.cells #[.map hm, .map (some w2.heap.size)] 38))).grownBy w4 none) : Asked w (.map hm) tm w4 (w2.heap.size + 1) w2.heap.size (((w2.alloc (.map #[] 0)).alloc (.cells #[.map hm, .map (some w2.heap.size)] 38))).heap.size B where
  below := hb.trans ((below_of_grown (grown_trans (grown_trans (World.grownBy_alloc w2 (.map #[] 0) none) (World.grownBy_alloc _ (.cells #[.map hm, .map (some w2.heap.size)] 38) none)) hg)).mono hb.size)
  kaLt := ⟨Nat.le_trans hb.size (Nat.le_succ _), by simp⟩
  smLt := ⟨hb.size, by simp; omega⟩
  know := by
    have h := heap_alloc_new (w2.alloc (.map #[] 0)) (.cells #[.map hm, .map (some w2.heap.size)] 38)
    rw [show (w2.alloc (.map #[] 0)).heap.size = w2.heap.size + 1 by simp] at h
    exact keep_far h hg (fun e => by cases e)
  map := keep_far (keep_alloc (heap_alloc_new w2 (.map #[] 0)) (.cells #[.map hm, .map (some w2.heap.size)] 38)) hg (fun e => by cases e)
  piece := hp
set_option maxHeartbeats 4000000 in
theorem kcan_any (t : ByteArray) (ht : t.size ≤ 65536) (kk : Nat) (hkk : (lookR t.data.toList).1 = kk) (h0 : kk ≠ 0) (tm : Tm) (F : Nat) (r2 : List UInt8) (hp : kPieceS (kLoop F) t.data.toList = some (tm, r2)) (K : Nat) (hm : Option Nat) (sv : Value) (w : World) (hk : KnowIs w K (.map hm) sv) (res : Bool)
    (hspot : ∀ W Ka sm n B, Asked w (.map hm) tm W Ka sm n B → Calls Try.prog 14 #[.pointer (some ⟨Ka, 0, none⟩), .pointer (some ⟨B, 0, none⟩)] W fun e W' => ∃ C wv sv', e = .returned (ptrV C) ∧ SpotIs W' C res wv sv' ∧ Below w.heap.size w W') :
    Calls Try.prog 6 #[.pointer (some ⟨K, 0, none⟩), .string t] w fun e W => e = .returned (.bool res) ∧ Below w.heap.size w W := by
  have HKD : Hid (∀ w, Calls Try.prog 11 #[.string t] w fun e w' => e = .returned (.int .i64 kk) ∧ Below w.heap.size w w') := Lib.hid (fun w => by
    have := kind_any t (by unfold maxLen; omega) w
    rw [hkk] at this; exact this)
  have HRD : Hid (∀ w, Calls Try.prog 13 #[.string t] w (ReadOK w tm)) := Lib.hid (fun w => kread_any t (by omega) F tm r2 hp w)
  have HK := Lib.hid hk
  have HSP := Lib.hid hspot
  have hkb : ((kk : Int) == 0) = false := beqf (by omega)
  have i0 : w.cell? ⟨K, 0, none⟩ = some (.map hm) := cell_of hk 0 rfl
  clear hkk h0 hp hk hspot
  go_enter Try.func6, Try.ntmps6
  go_wp2_with (first | (go_at_call 14; ((with_reducible refine (HSP.out _ _ _ _ _ HAS.out).mono ?_); rintro e w5 ⟨C, wv, sv', rfl, hs5, hb5⟩; have d0 : w5.cell? ⟨C, 0, none⟩ = some (.bool res) := cell_of hs5 0 rfl; have HB5 := Lib.hid hb5; unfold ptrV; clear hs5 hb5)) | (go_at_call 13; ((with_reducible refine (HRD.out (((w2.alloc (.map #[] 0)).alloc (.cells #[.map hm, .map (some w2.heap.size)] 38)))).mono ?_); rintro e w4 ⟨B, rfl, hp4, hg4⟩; have HAS : Hid (Asked w (.map hm) tm w4 (w2.heap.size + 1) w2.heap.size (((w2.alloc (.map #[] 0)).alloc (.cells #[.map hm, .map (some w2.heap.size)] 38))).heap.size B) := Lib.hid (asked_mk HB2.out hp4 hg4); unfold ptrV; clear hp4 hg4)) | (go_at_call 11; ((with_reducible refine (HKD.out _).mono ?_); rintro e w2 ⟨rfl, hb2⟩; have hk2 := KnowIs.below HK.out hb2; have j2 : w2.cell? ⟨K, 0, none⟩ = some (.map hm) := cell_of hk2 0 rfl; have HB2 := Lib.hid hb2; have hmk : (Instr.makeMap 36 none).run Try.prog w2 = .ok (.map (some w2.heap.size)) (w2.alloc (.map #[] 0)) := run_makeMap _ _; clear hk2 hb2)) | fail)
  go_ret
  exact ⟨rfl, HB5.out⟩
end Go.Proofs.Yteiadbiopcidmaa
