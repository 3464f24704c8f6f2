/- know: Has of one who has nothing. -/
import Derived.Test.YteiadbiopcidmaaKnow13
namespace Go.Proofs.Yteiadbiopcidmaa
set_option linter.unusedVariables false
set_option linter.unusedSimpArgs false
set_option maxRecDepth 100000
open Go.RowKit

theorem below_of_grown {w w' : World} (h : w.grownBy w' none) : Below w.heap.size w w' := (Below.refl w.heap.size w).grown h (Nat.le_refl _) (fun k e => by cases e)
theorem KnowIs.below {w w' : World} {K : Nat} {hv sv : Value} (h : KnowIs w K hv sv) (hb : Below w.heap.size w w') : KnowIs w' K hv sv := (hb.block K (Array.getElem?_eq_some_iff.1 h).1).trans h
set_option maxHeartbeats 8000000 in
theorem khas_new (t : ByteArray) (ht : t.size ≤ 65536) (K : Nat) (w : World) (hk : KnowIs w K (.map none) (.map none)) :
    Calls Try.prog 7 #[.pointer (some ⟨K, 0, none⟩), .string t] w fun e w' => e = .returned (.bool false) ∧ Below w.heap.size w w' := by
  have i0 : w.cell? ⟨K, 0, none⟩ = some (.map none) := cell_of hk 0 rfl
  obtain ⟨kk, hkk⟩ : ∃ k, (lookR t.data.toList).1 = k := ⟨_, rfl⟩
  have HKD : Hid (∀ w, Calls Try.prog 11 #[.string t] w fun e w' => e = .returned (.int .i64 kk) ∧ Below w.heap.size w w') := Lib.hid (fun w => by
    have := kind_any t (by unfold maxLen; omega) w
    rw [hkk] at this; exact this)
  have HK := Lib.hid hk
  by_cases h0 : kk = 0
  · subst h0
    clear hkk hk
    go_enter Try.func7, Try.ntmps7
    go_wp2
    refine wp_region_noPanic ?_
    first
    | (go_region_with ((go_at_call 11; ((with_reducible refine (HKD.out _).mono ?_); rintro e w2 ⟨rfl, hb2⟩; have hk2 := KnowIs.below (w := w.drew) HK.out hb2; have j2 : w2.cell? ⟨K, 0, none⟩ = some (.map none) := cell_of hk2 0 rfl; have HK2 := Lib.hid hk2; have HB2 := Lib.hid hb2; clear hk2 hb2))))
    | fail
    all_goals
      refine NoPanic.normal ?_
      go_wp2
      go_ret
      exact ⟨rfl, ((Below.refl w.heap.size w).drew).trans HB2.out⟩
  · have hkb : ((kk : Int) != 0) = true := by simpa using h0
    obtain ⟨n, ps, hq⟩ : ∃ n ps, qLook t.data.toList = some (kk, n, ps) := by
      unfold lookR at hkk
      cases hx : qLook t.data.toList with
      | none => rw [hx] at hkk; exact absurd hkk.symm h0
      | some x =>
        rw [hx] at hkk
        obtain ⟨a, b, c⟩ := x
        cases hkk
        exact ⟨b, c, rfl⟩
    obtain ⟨tm, hp, hkd, h5⟩ := valid_piece t.data.toList kk n ps hq
    have HRD : Hid (∀ w, Calls Try.prog 13 #[.string t] w (ReadOK w tm)) := Lib.hid (fun w => kread_any t (by omega) _ tm [] hp w)
    obtain ⟨nv, hnv⟩ : ∃ nv, nameV (nameOf tm) = nv := ⟨_, rfl⟩
    have HNM : Hid (∀ B ok w, PieceAt ok w tm B → Calls Try.prog 15 #[.pointer (some ⟨B, 0, none⟩)] w fun e w' => e = .returned nv ∧ w.grownBy w' none) := Lib.hid (fun B ok w h => by
      have := kname_any tm (fun e => h5 (hkd ▸ e)) B ok w h
      rw [hnv] at this; exact this)
    have HLK : Hid (∀ w, (Instr.lookup 35 (.map none) nv false).run Try.prog w = .ok (.bool false) w) := Lib.hid (fun w => by
      rw [← hnv]; exact look_nil w _ _ Try.underlying35 (nameOf tm) _ false (zero_bool w))
    clear hkk hk hq hp hkd h5 hnv
    go_enter Try.func7, Try.ntmps7
    go_wp2
    refine wp_region_noPanic ?_
    first
    | (go_region_with (first | (go_at_call 15; ((with_reducible refine (HNM.out B _ w3 HP3.out).mono ?_); rintro e w4 ⟨rfl, hg4⟩; have hk4 := KnowIs.keep HK3.out hg4 (fun e => by cases e); have j4 : w4.cell? ⟨K, 0, none⟩ = some (.map none) := cell_of hk4 0 rfl; have hl4 := HLK.out w4; have HG4 := Lib.hid hg4; clear hk4 hg4)) | (go_at_call 13; ((with_reducible refine (HRD.out w2).mono ?_); rintro e w3 ⟨B, rfl, hp3, hg3⟩; have hk3 := KnowIs.keep HK2.out hg3 (fun e => by cases e); have j3 : w3.cell? ⟨K, 0, none⟩ = some (.map none) := cell_of hk3 0 rfl; have HK3 := Lib.hid hk3; have HG3 := Lib.hid hg3; have HP3 := Lib.hid hp3; clear hk3 hg3 hp3; unfold ptrV)) | (go_at_call 11; ((with_reducible refine (HKD.out _).mono ?_); rintro e w2 ⟨rfl, hb2⟩; have hk2 := KnowIs.below (w := w.drew) HK.out hb2; have j2 : w2.cell? ⟨K, 0, none⟩ = some (.map none) := cell_of hk2 0 rfl; have HK2 := Lib.hid hk2; have HB2 := Lib.hid hb2; clear hk2 hb2))))
    | fail
    all_goals
      refine NoPanic.normal ?_
      go_wp2
      go_ret
      exact ⟨rfl, (((Below.refl w.heap.size w).drew).trans HB2.out).trans ((below_of_grown (grown_trans HG3.out HG4.out)).mono (((Below.refl w.heap.size w).drew).trans HB2.out).size)⟩
end Go.Proofs.Yteiadbiopcidmaa
