/- Packets: the law PacketReads. -/
import Derived.Test.YtkhomjbggfjleaaPkt8
namespace Go.Proofs.Ytkhomjbggfjleaa
set_option linter.unusedVariables false
set_option linter.unusedSimpArgs false
set_option maxRecDepth 100000
open Go.RowKit
/-! the same headers -/
theorem hsame_any (ver en : Int) (s d : List UInt8) (sa sb da db : Option Addr) (sc se dc de : Nat) (w : World) (h1 : Bytes w (.slice sa s.length sc) s) (h2 : Bytes w (.slice sb s.length se) s) (h3 : Bytes w (.slice da d.length dc) d) (h4 : Bytes w (.slice db d.length de) d) :
    Calls Try.prog 10 #[.agg #[.int .i64 ver, .slice sa s.length sc, .slice da d.length dc, .int .i64 en], .agg #[.int .i64 ver, .slice sb s.length se, .slice db d.length de, .int .i64 en]] w fun e w' => e = .returned (.bool true) ∧ Below w.heap.size w w' := by
  have e0 := heap_alloc_new w (.cells #[.int .i64 ver, .slice sa s.length sc, .slice da d.length dc, .int .i64 en] 25)
  have e1 := heap_alloc_new (w.alloc (.cells #[.int .i64 ver, .slice sa s.length sc, .slice da d.length dc, .int .i64 en] 25)) (.cells #[.int .i64 ver, .slice sb s.length se, .slice db d.length de, .int .i64 en] 25)
  have s1 : (w.alloc (.cells #[.int .i64 ver, .slice sa s.length sc, .slice da d.length dc, .int .i64 en] 25)).heap.size = w.heap.size + 1 := by simp
  have e0 := ((below_one (w := w.alloc (.cells #[.int .i64 ver, .slice sa s.length sc, .slice da d.length dc, .int .i64 en] 25)) (.cells #[.int .i64 ver, .slice sb s.length se, .slice db d.length de, .int .i64 en] 25)).block w.heap.size (by rw [s1]; omega)).trans e0
  rw [s1] at e1
  have hb : Below w.heap.size w ((w.alloc (.cells #[.int .i64 ver, .slice sa s.length sc, .slice da d.length dc, .int .i64 en] 25)).alloc (.cells #[.int .i64 ver, .slice sb s.length se, .slice db d.length de, .int .i64 en] 25)) := Below.next (below_one _) (below_one _)
  obtain ⟨a0, a1, a2, a3⟩ := cells4 e0
  obtain ⟨b0, b1, b2, b3⟩ := cells4 e1
  have g1 := h1.below hb
  have g2 := h2.below hb
  have g3 := h3.below hb
  have g4 := h4.below hb
  have HS : Hid (∀ W, W = (w.alloc (.cells #[.int .i64 ver, .slice sa s.length sc, .slice da d.length dc, .int .i64 en] 25)).alloc (.cells #[.int .i64 ver, .slice sb s.length se, .slice db d.length de, .int .i64 en] 25) → Calls Try.prog 11 #[.slice sa s.length sc, .slice sb s.length se] W fun e w' => e = .returned (.bool true) ∧ W = w') := Lib.hid (fun W hW => by subst hW; have := same_any _ _ s s _ g1 g2; simpa using this)
  have HD : Hid (∀ W, W = (w.alloc (.cells #[.int .i64 ver, .slice sa s.length sc, .slice da d.length dc, .int .i64 en] 25)).alloc (.cells #[.int .i64 ver, .slice sb s.length se, .slice db d.length de, .int .i64 en] 25) → Calls Try.prog 11 #[.slice da d.length dc, .slice db d.length de] W fun e w' => e = .returned (.bool true) ∧ W = w') := Lib.hid (fun W hW => by subst hW; have := same_any _ _ d d _ g3 g4; simpa using this)
  have HB := Lib.hid hb
  clear e0 e1 s1 hb h1 h2 h3 h4 g1 g2 g3 g4
  have hv : (ver == ver) = true := by simp
  have he : (en == en) = true := by simp
  go_enter Try.func10, Try.ntmps10
  go_wp2_with (first | (go_at_call 11; ((with_reducible refine (HS.out _ rfl).mono ?_); rintro e w' ⟨rfl, rfl⟩)) | (go_at_call 11; ((with_reducible refine (HD.out _ rfl).mono ?_); rintro e w' ⟨rfl, rfl⟩)) | fail)
  go_ret
  exact ⟨rfl, HB.out⟩
/-! the example -/
theorem awake5 (w : World) : Calls Try.prog 5 #[] w fun e w' => e = .returned (.bool true) ∧ Below w.heap.size w w' := by
  have e : makeP [10, 0, 0, 1] [10, 0, 0, 2] [7] = ([69, 0, 0, 21, 0, 0, 0, 0, 0, 0, 0, 0, 10, 0, 0, 1, 10, 0, 0, 2, 7], 0) := rfl
  have hm : ∀ W a b c, Bytes W (.slice a 4 4) [10, 0, 0, 1] → Bytes W (.slice b 4 4) [10, 0, 0, 2] → Bytes W (.slice c 1 1) [7] → Calls Try.prog 12 #[.slice a 4 4, .slice b 4 4, .slice c 1 1] W fun e w' => ∃ bb off cp, e = .returned (.tuple #[.slice (some ⟨bb, off, none⟩) 21 cp, .int .i64 0]) ∧ w'.cell? ⟨bb, off + 3, none⟩ = some (.int .u8 21) ∧ Below W.heap.size W w' := by
    intro W a b c h1 h2 h3
    refine (make_any [10, 0, 0, 1] [10, 0, 0, 2] [7] a b c 4 4 1 W (by decide) (by decide) (by decide) h1 h2 h3).mono ?_
    rintro e' w' ⟨ad, cp, rfl, hb, _, _, _, hbl⟩
    rw [e] at hb ⊢
    obtain ⟨bb, off, cp', hv, hc⟩ := look_cells hb (by decide)
    cases hv
    exact ⟨bb, off, cp, rfl, hc 3 (by decide), hbl⟩
  have HM := Lib.hid hm
  have HB : Hid (Below w.heap.size w (((w.alloc (.cells #[.int .u8 10, .int .u8 0, .int .u8 0, .int .u8 1] 5)).alloc (.cells #[.int .u8 10, .int .u8 0, .int .u8 0, .int .u8 2] 5)).alloc (.cells #[.int .u8 7] 5))) := Lib.hid (Below.next (Below.next (below_one _) (below_one _)) (below_one _))
  have hx1 := heap_alloc_new w (.cells #[.int .u8 10, .int .u8 0, .int .u8 0, .int .u8 1] 5)
  have hx2 := heap_alloc_new (w.alloc (.cells #[.int .u8 10, .int .u8 0, .int .u8 0, .int .u8 1] 5)) (.cells #[.int .u8 10, .int .u8 0, .int .u8 0, .int .u8 2] 5)
  have hx3 := heap_alloc_new ((w.alloc (.cells #[.int .u8 10, .int .u8 0, .int .u8 0, .int .u8 1] 5)).alloc (.cells #[.int .u8 10, .int .u8 0, .int .u8 0, .int .u8 2] 5)) (.cells #[.int .u8 7] 5)
  rw [World.size_alloc] at hx2
  rw [World.size_alloc, World.size_alloc] at hx3
  have b1 : Bytes (w.alloc (.cells #[.int .u8 10, .int .u8 0, .int .u8 0, .int .u8 1] 5)) (.slice (some ⟨w.heap.size, 0, none⟩) 4 4) [10, 0, 0, 1] := bytes_blk (L := [10, 0, 0, 1]) hx1
  have b2 : Bytes ((w.alloc (.cells #[.int .u8 10, .int .u8 0, .int .u8 0, .int .u8 1] 5)).alloc (.cells #[.int .u8 10, .int .u8 0, .int .u8 0, .int .u8 2] 5)) (.slice (some ⟨w.heap.size + 1, 0, none⟩) 4 4) [10, 0, 0, 2] := bytes_blk (L := [10, 0, 0, 2]) hx2
  have b3 : Bytes (((w.alloc (.cells #[.int .u8 10, .int .u8 0, .int .u8 0, .int .u8 1] 5)).alloc (.cells #[.int .u8 10, .int .u8 0, .int .u8 0, .int .u8 2] 5)).alloc (.cells #[.int .u8 7] 5)) (.slice (some ⟨w.heap.size + 1 + 1, 0, none⟩) 1 1) [7] := bytes_blk (L := [7]) hx3
  have HV : Hid (_ ∧ _ ∧ _) := Lib.hid ⟨(b1.below (below_one (.cells #[.int .u8 10, .int .u8 0, .int .u8 0, .int .u8 2] 5))).below (below_one (.cells #[.int .u8 7] 5)), b2.below (below_one (.cells #[.int .u8 7] 5)), b3⟩
  clear hm e hx1 hx2 hx3 b1 b2 b3
  go_enter Try.func5, Try.ntmps5
  go_wp2_with (first | (go_at_call 12; ((with_reducible refine (HM.out _ _ _ _ HV.out.1 HV.out.2.1 HV.out.2.2).mono ?_); rintro e w2 ⟨bb, off, cp, rfl, hc3, hb2⟩; have HB2 := Lib.hid (Below.next HB.out hb2); clear hb2)) | fail)
  go_ret
  exact ⟨rfl, HB2.out⟩

/-! a packet of which the answers are known -/
theorem readS (l : List UInt8) (b off cp : Nat) (hl : l.length ≤ 3000) (h0 : 0 < l.length) (hcp : l.length ≤ cp) (hcm : cp ≤ maxLen) :
    ∃ ver bg en code : Nat, ∃ S D : List UInt8, lookP l = (ver, bg, en, code) ∧ bg ≤ en ∧ en ≤ l.length ∧ bg ≤ 60 ∧ (code = 0 ∨ (code ≠ 0 ∧ code ≤ 5 ∧ ver = 0 ∧ bg = 0 ∧ en = 0 ∧ S = [] ∧ D = [])) ∧
    (∀ w, Bytes w (.slice (some ⟨b, off, none⟩) l.length cp) l → Calls Try.prog 6 #[.slice (some ⟨b, off, none⟩) l.length cp] w (HeadRet w ver en code S D)) ∧
    (∀ w, Bytes w (.slice (some ⟨b, off, none⟩) l.length cp) l → Calls Try.prog 9 #[.slice (some ⟨b, off, none⟩) l.length cp] w (RefRet w ver en bg code S D)) := by
  have hcell : ∀ w, Bytes w (.slice (some ⟨b, off, none⟩) l.length cp) l → ∀ i, i < l.length → w.cell? ⟨b, off + i, none⟩ = some (.int .u8 (l.getD i 0).toNat) := by
    intro w hv
    obtain ⟨b', off', cp', he, hc⟩ := look_cells hv h0
    cases he
    exact hc
  have hno : ∀ code, (code = 3 ∨ code = 4) → lookP l = (0, 0, 0, code) → ∀ w, Bytes w (.slice (some ⟨b, off, none⟩) l.length cp) l → Calls Try.prog 6 #[.slice (some ⟨b, off, none⟩) l.length cp] w (HeadRet w 0 0 code [] []) :=
    fun code hc h w hv => head_no l _ w hv (by omega) code h hc
  unfold lookP at hno ⊢
  rw [if_neg (show ¬ l.length = 0 by omega)] at hno ⊢
  by_cases h4 : pkVer l = 4
  · rw [if_pos h4] at hno ⊢
    by_cases h1 : l.length < 20
    · rw [if_pos h1] at hno ⊢
      exact ⟨0, 0, 0, 4, [], [], rfl, by omega, by omega, by omega, .inr ⟨by omega, by omega, rfl, rfl, rfl, rfl, rfl⟩, hno 4 (.inr rfl) rfl, fun w hv => ref_4_short l b off cp h0 (by omega) hcp hcm w (hcell w hv) h4 h1⟩
    rw [if_neg h1] at hno ⊢
    by_cases h2 : pkHead l < 20 ∨ pkLen4 l < pkHead l
    · rw [if_pos h2] at hno ⊢
      exact ⟨0, 0, 0, 3, [], [], rfl, by omega, by omega, by omega, .inr ⟨by omega, by omega, rfl, rfl, rfl, rfl, rfl⟩, hno 3 (.inl rfl) rfl, fun w hv => ref_4_form l b off cp h0 (by omega) hcp hcm w (hcell w hv) h4 (by omega) h2⟩
    rw [if_neg h2] at hno ⊢
    by_cases h3 : l.length < pkLen4 l
    · rw [if_pos h3] at hno ⊢
      exact ⟨0, 0, 0, 4, [], [], rfl, by omega, by omega, by omega, .inr ⟨by omega, by omega, rfl, rfl, rfl, rfl, rfl⟩, hno 4 (.inr rfl) rfl, fun w hv => ref_4_long l b off cp h0 (by omega) hcp hcm w (hcell w hv) h4 (by omega) (by omega) h3⟩
    rw [if_neg h3]
    have hlp : lookP l = (4, pkHead l, pkLen4 l, 0) := by unfold lookP; rw [if_neg (by omega), if_pos h4, if_neg h1, if_neg h2, if_neg h3]
    exact ⟨4, pkHead l, pkLen4 l, 0, sub l 12 16, sub l 16 20, rfl, by omega, by omega, by unfold pkHead; omega, .inl rfl, fun w hv => head_4 l b off cp w hv (by omega) hcp hcm _ _ hlp (by omega), fun w hv => ref_4_fine l b off cp h0 (by omega) hcp hcm w (hcell w hv) h4 (by omega) (by omega) (by omega)⟩
  · rw [if_neg h4] at hno ⊢
    by_cases h6 : pkVer l = 6
    · rw [if_pos h6] at hno ⊢
      by_cases h1 : l.length < 40
      · rw [if_pos h1] at hno ⊢
        exact ⟨0, 0, 0, 4, [], [], rfl, by omega, by omega, by omega, .inr ⟨by omega, by omega, rfl, rfl, rfl, rfl, rfl⟩, hno 4 (.inr rfl) rfl, fun w hv => ref_6_short l b off cp h0 (by omega) hcp hcm w (hcell w hv) h6 h1⟩
      rw [if_neg h1] at hno ⊢
      by_cases h3 : l.length < pkLen6 l
      · rw [if_pos h3] at hno ⊢
        exact ⟨0, 0, 0, 4, [], [], rfl, by omega, by omega, by omega, .inr ⟨by omega, by omega, rfl, rfl, rfl, rfl, rfl⟩, hno 4 (.inr rfl) rfl, fun w hv => ref_6_long l b off cp h0 (by omega) hcp hcm w (hcell w hv) h6 (by omega) h3⟩
      rw [if_neg h3]
      have hlp : lookP l = (6, 40, pkLen6 l, 0) := by unfold lookP; rw [if_neg (by omega), if_neg h4, if_pos h6, if_neg h1, if_neg h3]
      exact ⟨6, 40, pkLen6 l, 0, sub l 8 24, sub l 24 40, rfl, by unfold pkLen6; omega, by omega, by omega, .inl rfl, fun w hv => head_6 l b off cp w hv (by omega) hcp hcm _ _ hlp (by omega), fun w hv => ref_6_fine l b off cp h0 (by omega) hcp hcm w (hcell w hv) h6 (by omega) (by omega)⟩
    · rw [if_neg h6] at hno ⊢
      exact ⟨0, 0, 0, 3, [], [], rfl, by omega, by omega, by omega, .inr ⟨by omega, by omega, rfl, rfl, rfl, rfl, rfl⟩, hno 3 (.inl rfl) rfl, fun w hv => ref_other l b off cp h0 (by omega) hcp hcm w (hcell w hv) h4 h6⟩
end Go.Proofs.Ytkhomjbggfjleaa
