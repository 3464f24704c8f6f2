/- know: spots. -/
import Derived.Test.YteiadbiopcidmaaKnow9
namespace Go.Proofs.Yteiadbiopcidmaa
set_option linter.unusedVariables false
set_option linter.unusedSimpArgs false
set_option maxRecDepth 100000
open Go.RowKit

def KnowIs (w : World) (K : Nat) (hv sv : Value) : Prop := w.heap[K]? = some (.cells #[hv, sv] 38 (0, 0))
def SpotIs (w : World) (B : Nat) (m : Bool) (wv sv : Value) : Prop := w.heap[B]? = some (.cells #[.bool m, wv, sv] 42 (0, 0))
def StepIs (w : World) (B : Nat) (c : Int) (T : Nat) : Prop := w.heap[B]? = some (.cells #[.int .i64 c, .pointer (some ⟨T, 0, none⟩)] 81 (0, 0))
theorem zero_spot (w : World) : (zeroValue 43).run Try.prog w = .ok (.pointer none) w := by kernel_rfl
theorem zero_bool (w : World) : (zeroValue 4).run Try.prog w = .ok (.bool false) w := by kernel_rfl
theorem MapIs.keep {α : Type} {f : α → Value} {w w' : World} {m : Nat} {L : List (Name × α)} {row : Option Nat} (h : MapIs f w m L) (hg : w.grownBy w' row) (hr : some m ≠ row) : MapIs f w' m L := keep_far h hg hr
theorem KnowIs.keep {w w' : World} {K : Nat} {hv sv : Value} {row : Option Nat} (h : KnowIs w K hv sv) (hg : w.grownBy w' row) (hr : some K ≠ row) : KnowIs w' K hv sv := keep_far h hg hr
set_option maxHeartbeats 4000000 in
theorem kspot_found (tm : Tm) (h5 : tm.kind = 5 → tm.parts ≠ []) (B : Nat) (ok : Nat → Prop) (w : World) (h : PieceAt ok w tm B) (K : Nat) (hv : Value) (sm : Nat) (Sp : List (Name × Nat)) (hk : KnowIs w K hv (.map (some sm))) (hs : MapIs ptrV w sm Sp) (C : Nat) (hl : lookL Sp (nameOf tm) = some C) :
    Calls Try.prog 14 #[.pointer (some ⟨K, 0, none⟩), .pointer (some ⟨B, 0, none⟩)] w fun e w' => e = .returned (ptrV C) ∧ w.grownBy w' none := by
  obtain ⟨nv, hnv⟩ : ∃ nv, nameV (nameOf tm) = nv := ⟨_, rfl⟩
  have HNM : Hid (∀ w, PieceAt ok w tm B → Calls Try.prog 15 #[.pointer (some ⟨B, 0, none⟩)] w fun e w' => e = .returned nv ∧ w.grownBy w' none) := Lib.hid (fun w h => by
    have := kname_any tm h5 B ok w h
    rw [hnv] at this; exact this)
  have HLK : Hid (∀ w, MapIs ptrV w sm Sp → (Instr.lookup 36 (.map (some sm)) nv true).run Try.prog w = .ok (.tuple #[.pointer (some ⟨C, 0, none⟩), .bool true]) w) := Lib.hid (fun w h => by
    rw [← hnv]; exact look_in ptrV w sm _ _ Try.underlying36 Sp (nameOf tm) C true h hl)
  have HPD : Hid (PieceAt ok w.drew tm B) := Lib.hid (h.kept (grown_drewN w 1 none) (fun r e => by cases e))
  have HK := Lib.hid hk
  have HS := Lib.hid hs
  have i0 : w.cell? ⟨K, 0, none⟩ = some hv := cell_of hk 0 rfl
  have i1 : w.cell? ⟨K, 1, none⟩ = some (.map (some sm)) := cell_of hk 1 rfl
  clear h hk hs hl hnv h5
  go_enter Try.func14, Try.ntmps14
  go_wp2
  refine wp_region_noPanic ?_
  first
  | (go_region_with ((go_at_call 15; ((with_reducible refine (HNM.out w.drew HPD.out).mono ?_); rintro e w2 ⟨rfl, hg2⟩; have hk2 := KnowIs.keep HK.out (grown_trans (grown_drewN w 1 none) hg2) (fun e => by cases e); have j0 : w2.cell? ⟨K, 0, none⟩ = some hv := cell_of hk2 0 rfl; have j1 : w2.cell? ⟨K, 1, none⟩ = some (.map (some sm)) := cell_of hk2 1 rfl; have hl2 := HLK.out w2 (MapIs.keep HS.out (grown_trans (grown_drewN w 1 none) hg2) (fun e => by cases e)); have HG2 := Lib.hid hg2; clear hg2 hk2))))
  | fail
  all_goals
    refine NoPanic.normal ?_
    go_wp2
    go_ret
    exact ⟨rfl, grown_trans (grown_drewN w 1 none) HG2.out⟩
end Go.Proofs.Yteiadbiopcidmaa
