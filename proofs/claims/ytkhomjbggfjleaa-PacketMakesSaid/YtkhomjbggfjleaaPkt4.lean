/- Packets: Trim and Data by contract. -/
import Derived.Test.YtkhomjbggfjleaaPkt3
namespace Go.Proofs.Ytkhomjbggfjleaa
set_option linter.unusedVariables false
set_option linter.unusedSimpArgs false
set_option maxRecDepth 100000
open Go.RowKit
def sub (l : List UInt8) (i j : Nat) : List UInt8 := (l.drop i).take (j - i)
theorem sub_len {l : List UInt8} {i j : Nat} (h : j ≤ l.length) : (sub l i j).length = j - i := by unfold sub; simp; omega
theorem sub_get {l : List UInt8} {i j k : Nat} (h : i + k < j) : (sub l i j).getD k 0 = l.getD (i + k) 0 := by
  unfold sub
  simp only [List.getD, List.getElem?_take, List.getElem?_drop]
  rw [if_pos (by omega)]
theorem bytes_sub {w : World} {b off n cp c2 : Nat} {l : List UInt8} {i j : Nat} (h : Bytes w (.slice (some ⟨b, off, none⟩) l.length cp) l) (hij : i ≤ j) (hj : j ≤ l.length) (hn : n = j - i) : Bytes w (.slice (some ⟨b, off + i, none⟩) n c2) (sub l i j) := by
  subst hn
  refine ⟨_, _, by rw [sub_len hj], ?_⟩
  by_cases h0 : j = i
  · exact .inl (List.length_eq_zero_iff.1 (by rw [sub_len hj]; omega))
  · refine .inr ⟨b, off + i, rfl, fun k hk => ?_⟩
    rw [sub_len hj] at hk
    rw [sub_get (by omega)]
    obtain ⟨a, c, hv, h⟩ := h
    cases hv
    rcases h with rfl | ⟨b', off', hv', hc⟩
    · simp at hj; omega
    · cases hv'
      rw [Nat.add_assoc]
      exact hc (i + k) (by omega)
theorem lookP_le (l : List UInt8) : (lookP l).2.1 ≤ (lookP l).2.2.1 ∧ (lookP l).2.2.1 ≤ l.length := by
  unfold lookP
  split
  · simp
  split
  · split
    · simp
    split
    · simp
    split
    · simp
    · simp; omega
  split
  · split
    · simp
    split
    · simp
    · simp; unfold pkLen6 at *; omega
  · simp
theorem layV_lit (v : Nat) : layV v = #[.int .i64 4, .int .u8 69, .int .i64 20, .int .i64 2, .int .i64 0, .int .i64 12, .int .i64 16, .int .i64 4] ∨ layV v = #[.int .i64 6, .int .u8 96, .int .i64 40, .int .i64 4, .int .i64 40, .int .i64 8, .int .i64 24, .int .i64 16] ∨ layV v = #[.int .i64 0, .int .u8 0, .int .i64 0, .int .i64 0, .int .i64 0, .int .i64 0, .int .i64 0, .int .i64 0] := by
  unfold layV
  by_cases h4 : v = 4
  · exact .inl (if_pos h4)
  · rw [if_neg h4]
    by_cases h6 : v = 6
    · exact .inr (.inl (if_pos h6))
    · exact .inr (.inr (if_neg h6))
def TrimRet (w : World) (a : List UInt8) (c : Nat) (e : Ending) (w' : World) : Prop :=
  ∃ ad cp, e = .returned (.tuple #[.slice ad a.length cp, .int .i64 c]) ∧ Bytes w' (.slice ad a.length cp) a ∧ Below w.heap.size w w'
theorem copy_sub (l : List UInt8) (b off n cp c2 i j : Nat) (hij : i ≤ j) (hj : j ≤ l.length) (hl : l.length ≤ 100000) (hn : n = j - i) (w : World) (hv : Bytes w (.slice (some ⟨b, off, none⟩) l.length cp) l) :
    Calls Try.prog 16 #[.slice (some ⟨b, off + i, none⟩) n c2] w fun e w' => ∃ ad c, e = .returned (.slice ad (sub l i j).length c) ∧ Bytes w' (.slice ad (sub l i j).length c) (sub l i j) ∧ Below w.heap.size w w' := by
  subst hn
  have h := copy_some (sub l i j) ⟨b, off + i, none⟩ c2 w (by rw [sub_len hj]; exact bytes_sub hv hij hj rfl) (by rw [sub_len hj]; omega)
  rw [sub_len hj] at h ⊢
  refine h.mono ?_
  rintro e w' ⟨ad, c, rfl, h1, _, _, h2⟩
  rw [sub_len hj] at h1
  exact ⟨ad, c, by rw [sub_len hj], h1, h2⟩
theorem trim_some (l : List UInt8) (b off cp : Nat) (w : World) (hv : Bytes w (.slice (some ⟨b, off, none⟩) l.length cp) l) (hl : l.length ≤ 100000) (hcp : l.length ≤ cp) (hcm : cp ≤ maxLen) :
    Calls Try.prog 7 #[.slice (some ⟨b, off, none⟩) l.length cp] w (TrimRet w (sub l 0 (lookP l).2.2.1) (lookP l).2.2.2) := by
  obtain ⟨_, hle⟩ := lookP_le l
  have hlk := fun w h => look_any l (.slice (some ⟨b, off, none⟩) l.length cp) w h hl
  unfold LookRet at hlk
  generalize lookP l = r at *
  obtain ⟨ver, bg, en, code⟩ := r
  dsimp only at *
  have HLK := Lib.hid hlk
  have HV := Lib.hid hv
  have HCL := Lib.hid (fun w h => copy_sub l b off en cp cp 0 en (Nat.zero_le _) hle hl (by omega) w h)
  simp only [Nat.add_zero] at HCL
  clear hlk hv
  have hei : (en : Int) ≤ cp := by omega
  have hcmi : (cp : Int) ≤ 9223372036854775807 := by unfold maxLen at hcm; omega
  have he0 : (0 : Int) ≤ en := by omega
  clear hle hcm hcp hl
  generalize sub l 0 en = q at *
  rcases layV_lit ver with hver | hver | hver
  all_goals
    rw [hver] at HLK
    clear hver
    go_enter Try.func7, Try.ntmps7
    go_wp2_with (first | (go_at_call 15; ((with_reducible refine (HLK.out _ HV.out).mono ?_); rintro e w2 ⟨rfl, hb2⟩; (try dsimp only); have HB := Lib.hid hb2; have HV2 := Lib.hid (HV.out.below hb2); clear hb2)) | (go_at_call 16; ((with_reducible refine (HCL.out _ (HV2.out.below (below_one _))).mono ?_); rintro e w3 ⟨ad, c3, rfl, hv3, hb3⟩; have HV3 := Lib.hid hv3; have HB3 := Lib.hid (Below.next HB.out (Below.next (below_one _) hb3)); clear hv3 hb3)) | fail)
    go_ret2
    exact ⟨_, _, rfl, HV3.out, HB3.out⟩
theorem trim_none (w : World) : Calls Try.prog 7 #[.slice none 0 0] w (TrimRet w [] 4) := by
  have hlk := look_0 none 0 
  unfold LookRet at hlk
  rw [show layV ((0, 0, 0, 4) : Nat × Nat × Nat × Nat).1 = #[.int .i64 0, .int .u8 0, .int .i64 0, .int .i64 0, .int .i64 0, .int .i64 0, .int .i64 0, .int .i64 0] from rfl] at hlk
  dsimp only at hlk
  have HLK := Lib.hid hlk
  have HCL := Lib.hid (fun w => copy_nil w 0 rfl)
  clear hlk
  go_enter Try.func7, Try.ntmps7
  go_wp2_with (first | (go_at_call 15; ((with_reducible refine (HLK.out _).mono ?_); rintro e w2 ⟨rfl, hb2⟩; (try dsimp only); have HB := Lib.hid hb2; clear hb2)) | (go_at_call 16; ((with_reducible refine (HCL.out _).mono ?_); rintro e w3 ⟨ad, c3, rfl, hv3, _, _, hb3⟩; have HV3 := Lib.hid hv3; have HB3 := Lib.hid (Below.next HB.out (Below.next (below_one _) hb3)); clear hv3 hb3)) | fail)
  go_ret2
  exact ⟨_, _, rfl, HV3.out, HB3.out⟩
theorem data_some (l : List UInt8) (b off cp : Nat) (w : World) (hv : Bytes w (.slice (some ⟨b, off, none⟩) l.length cp) l) (hl : l.length ≤ 100000) (hcp : l.length ≤ cp) (hcm : cp ≤ maxLen) :
    Calls Try.prog 8 #[.slice (some ⟨b, off, none⟩) l.length cp] w (TrimRet w (sub l (lookP l).2.1 (lookP l).2.2.1) (lookP l).2.2.2) := by
  obtain ⟨hbe, hle⟩ := lookP_le l
  have hlk := fun w h => look_any l (.slice (some ⟨b, off, none⟩) l.length cp) w h hl
  unfold LookRet at hlk
  generalize lookP l = r at *
  obtain ⟨ver, bg, en, code⟩ := r
  dsimp only at *
  have HLK := Lib.hid hlk
  have HV := Lib.hid hv
  have HCL := Lib.hid (fun w c h => copy_sub l b off (en - bg) cp c bg en hbe hle hl rfl w h)
  clear hlk hv
  have hei : (en : Int) ≤ cp := by omega
  have hbi : (bg : Int) ≤ en := by omega
  have hcmi : (cp : Int) ≤ 9223372036854775807 := by unfold maxLen at hcm; omega
  have he0 : (0 : Int) ≤ bg := by omega
  have HCZ : Hid (cp - bg = 0 → ∀ w, Bytes w (.slice (some ⟨b, off, none⟩) l.length cp) l → Calls Try.prog 16 #[.slice (some ⟨b, off, none⟩) (en - bg) 0] w fun e w' => ∃ ad c, e = .returned (.slice ad (sub l bg en).length c) ∧ Bytes w' (.slice ad (sub l bg en).length c) (sub l bg en) ∧ Below w.heap.size w w') := Lib.hid (by
    intro hz w h
    have e0 : en - bg = 0 := by omega
    have el : sub l bg en = [] := List.length_eq_zero_iff.1 (by rw [sub_len hle]; exact e0)
    have e1 : sub l 0 0 = [] := rfl
    have := copy_sub l b off 0 cp 0 0 0 (Nat.le_refl _) (Nat.zero_le _) hl rfl w h
    rw [e1, Nat.add_zero] at this
    rw [el, e0]; exact this)
  clear hle hcm hcp hl hbe
  generalize sub l bg en = q at *
  by_cases hz : cp - bg = 0
  · have HZ := Lib.hid (HCZ.out hz)
    rcases layV_lit ver with hver | hver | hver
    all_goals
      rw [hver] at HLK
      clear hver
      go_enter Try.func8, Try.ntmps8
      go_wp2_with (first | (go_at_call 15; ((with_reducible refine (HLK.out _ HV.out).mono ?_); rintro e w2 ⟨rfl, hb2⟩; (try dsimp only); have HB := Lib.hid hb2; have HV2 := Lib.hid (HV.out.below hb2); clear hb2)) | (go_at_call 16; ((with_reducible refine (HZ.out _ (HV2.out.below (below_one _))).mono ?_); rintro e w3 ⟨ad, c3, rfl, hv3, hb3⟩; have HV3 := Lib.hid hv3; have HB3 := Lib.hid (Below.next HB.out (Below.next (below_one _) hb3)); clear hv3 hb3)) | fail)
      go_ret2
      exact ⟨_, _, rfl, HV3.out, HB3.out⟩
  rcases layV_lit ver with hver | hver | hver
  all_goals
    rw [hver] at HLK
    clear hver
    go_enter Try.func8, Try.ntmps8
    go_wp2_with (first | (go_at_call 15; ((with_reducible refine (HLK.out _ HV.out).mono ?_); rintro e w2 ⟨rfl, hb2⟩; (try dsimp only); have HB := Lib.hid hb2; have HV2 := Lib.hid (HV.out.below hb2); clear hb2)) | (go_at_call 16; ((with_reducible refine (HCL.out _ _ (HV2.out.below (below_one _))).mono ?_); rintro e w3 ⟨ad, c3, rfl, hv3, hb3⟩; have HV3 := Lib.hid hv3; have HB3 := Lib.hid (Below.next HB.out (Below.next (below_one _) hb3)); clear hv3 hb3)) | fail)
    go_ret2
    exact ⟨_, _, rfl, HV3.out, HB3.out⟩
theorem data_none (w : World) : Calls Try.prog 8 #[.slice none 0 0] w (TrimRet w [] 4) := by
  have hlk := look_0 none 0 
  unfold LookRet at hlk
  rw [show layV ((0, 0, 0, 4) : Nat × Nat × Nat × Nat).1 = #[.int .i64 0, .int .u8 0, .int .i64 0, .int .i64 0, .int .i64 0, .int .i64 0, .int .i64 0, .int .i64 0] from rfl] at hlk
  dsimp only at hlk
  have HLK := Lib.hid hlk
  have HCL := Lib.hid (fun w => copy_nil w 0 rfl)
  clear hlk
  go_enter Try.func8, Try.ntmps8
  go_wp2_with (first | (go_at_call 15; ((with_reducible refine (HLK.out _).mono ?_); rintro e w2 ⟨rfl, hb2⟩; (try dsimp only); have HB := Lib.hid hb2; clear hb2)) | (go_at_call 16; ((with_reducible refine (HCL.out _).mono ?_); rintro e w3 ⟨ad, c3, rfl, hv3, _, _, hb3⟩; have HV3 := Lib.hid hv3; have HB3 := Lib.hid (Below.next HB.out (Below.next (below_one _) hb3)); clear hv3 hb3)) | fail)
  go_ret2
  exact ⟨_, _, rfl, HV3.out, HB3.out⟩
end Go.Proofs.Ytkhomjbggfjleaa
