/- know's reader: word, by contract. -/
import Derived.Test.YteiadbiopcidmaaKnow1
namespace Go.Proofs.Yteiadbiopcidmaa
set_option linter.unusedVariables false
set_option linter.unusedSimpArgs false
set_option maxRecDepth 100000
open Go.RowKit

theorem goes_of {c : UInt8} (h : goes c = true) : ((c.toNat : Int) == 0) = false ∧ ((c.toNat : Int) == 40) = false ∧ ((c.toNat : Int) == 44) = false ∧ ((c.toNat : Int) == 41) = false := by
  unfold goes isStop at h
  simp only [Bool.not_or, Bool.and_eq_true, Bool.not_eq_true', beq_eq_false_iff_ne] at h
  obtain ⟨⟨⟨h1, h2⟩, h3⟩, h4⟩ := h
  have key : ∀ d : UInt8, c ≠ d → ((c.toNat : Int) == (d.toNat : Int)) = false := fun d hd => beqf (fun e => hd (UInt8.toNat_inj.1 (by omega)))
  exact ⟨key 0 h1, key 40 h2, key 44 h3, key 41 h4⟩
theorem stop_of {c : UInt8} (h : goes c = false) : (c.toNat : Int) = 0 ∨ (c.toNat : Int) = 40 ∨ (c.toNat : Int) = 44 ∨ (c.toNat : Int) = 41 := by
  unfold goes isStop at h
  simp only [Bool.not_eq_false', Bool.or_eq_true, beq_iff_eq] at h
  rcases h with ((h | h) | h) | h <;> subst h
  · left; rfl
  · right; left; rfl
  · right; right; left; rfl
  · right; right; right; rfl
set_option maxHeartbeats 4000000 in
theorem kword_any (s : ByteArray) (p R : Nat) (w : World) (hs : s.size ≤ maxLen) (hp : p ≤ s.size) (h : RK w R s p) :
    Calls Try.prog 31 #[.pointer (some ⟨R, 0, none⟩)] w fun e w' =>
      (∃ v, e = .returned v) ∧ RK w' R s (p + (kW (s.data.toList.drop p)).length) ∧ w.grownBy w' (some R) := by
  have hsm := hs
  unfold maxLen at hs
  have H := Lib.hid h
  clear h
  go_enter Try.func31, Try.ntmps31
  go_wp2
  refine wp_scope_goto 0 (fun n a' w' => ∃ q : Nat, ∃ (u1 u2 u3 u4 u5 u6 u7 u8 u9 u10 u11 u12 u13 u14 u15 : Value), a' = { tmps := #[.pointer (some ⟨R, 0, none⟩), u1, u2, u3, u4, u5, u6, u7, u8, u9, u10, u11, u12, u13, u14, u15], defers := [] } ∧ p ≤ q ∧ q ≤ s.size ∧ n = s.size - q ∧ RK w' R s q ∧ w.grownBy w' (some R) ∧ (s.data.toList.drop p).takeWhile goes = (s.data.toList.drop p).take (q - p) ++ (s.data.toList.drop q).takeWhile goes) rfl ?_ ?_
  · intro R2 hpass hout
    go_wp2
    go_step3
    go_step
    go_step
    exact hpass _ _ _ ⟨p, _, _, _, _, _, _, _, _, _, _, _, _, _, _, _, rfl, Nat.le_refl _, hp, rfl, H.out, grown_refl _ _, by simp⟩
  · intro n a' w' hrel J hJ
    obtain ⟨q, u1, u2, u3, u4, u5, u6, u7, u8, u9, u10, u11, u12, u13, u14, u15, rfl, hpq, hqs, rfl, hR, hG, hT⟩ := hrel
    have HR := Lib.hid hR
    have HG := Lib.hid hG
    have HT := Lib.hid hT
    have HN : Hid (∀ w, RK w R s q → Calls Try.prog 32 #[.pointer (some ⟨R, 0, none⟩)] w fun e w' => e = .returned (.int .u8 (byteAt s q)) ∧ ∃ n, w' = w.drewN n) := Lib.hid (fun w h => knext_any s q R w hsm hqs h)
    have g0 := hR.c0; have g1 := hR.c1; have f1 : w'.frozen? ⟨R, 1, none⟩ = false := free_of hR 1
    clear hR hG hT
    by_cases hlt : q < s.size
    · have hb := byteAt_lt hlt
      obtain ⟨c, hc⟩ : ∃ c, s[q] = c := ⟨_, rfl⟩
      rw [hc] at hb
      cases hgo : goes c with
      | true =>
        obtain ⟨h0, h40, h44, h41⟩ := goes_of hgo
        have HQ : Hid (goes s[q] = true) := Lib.hid (by rw [hc]; exact hgo)
        clear hc
        rw [hb] at HN
        go_wp2_with (first | (go_at_call 32; ((with_reducible refine (HN.out _ HR.out).mono ?_); rintro e w5 ⟨rfl, n1, rfl⟩)) | fail)
        first | go_step3 | skip
        refine jump_back (hJ (s.size - (q + 1)) _ _ (by omega) ⟨q + 1, _, _, _, _, _, _, _, _, _, _, _, _, _, _, _, rfl, by omega, by omega, rfl, (HR.out.drewN n1).set (q + 1), ?_, run_step hpq hlt HQ.out HT.out⟩)
        exact grown_trans HG.out (grown_trans (grown_drewN _ n1 _) (grown_set _ _ _ _))
      | false =>
        have hst := stop_of hgo
        have HQ : Hid (∀ h : q < s.size, goes s[q] = false) := Lib.hid (fun h => by rw [hc]; exact hgo)
        clear hc
        rw [hb] at HN
        rcases hst with h | h | h | h
        all_goals
          rw [h] at HN
          go_wp2_with (first | (go_at_call 32; ((with_reducible refine (HN.out _ HR.out).mono ?_); rintro e w5 ⟨rfl, n1, rfl⟩)) | fail)
          refine jump_ret ?_
          refine bodyPost_ret (results_none rfl _ _ _) rfl ?_
          obtain ⟨e1, e2⟩ := run_end hpq hqs HQ.out HT.out
          refine ⟨⟨_, rfl⟩, ?_, grown_trans HG.out (grown_drewN _ n1 _)⟩
          unfold kW
          rw [e2, show p + (q - p) = q by omega]; exact HR.out.drewN n1
    · have hb := byteAt_ge hlt
      have HQ : Hid (∀ h : q < s.size, goes s[q] = false) := Lib.hid (fun h => absurd h hlt)
      rw [hb] at HN
      go_wp2_with (first | (go_at_call 32; ((with_reducible refine (HN.out _ HR.out).mono ?_); rintro e w5 ⟨rfl, n1, rfl⟩)) | fail)
      refine jump_ret ?_
      refine bodyPost_ret (results_none rfl _ _ _) rfl ?_
      obtain ⟨e1, e2⟩ := run_end hpq hqs HQ.out HT.out
      refine ⟨⟨_, rfl⟩, ?_, grown_trans HG.out (grown_drewN _ n1 _)⟩
      unfold kW
      rw [e2, show p + (q - p) = q by omega]; exact HR.out.drewN n1
end Go.Proofs.Yteiadbiopcidmaa
