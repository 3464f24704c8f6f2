/- Packets: the law PacketReads, whole. -/
import Derived.Test.YtkhomjbggfjleaaPkt10
import Derived.WalkKit
import Derived.ProofKit
import Derived.OpenShut
import Derived.ChangeOld
namespace Go.Proofs.Ytkhomjbggfjleaa
set_option linter.unusedVariables false
set_option linter.unusedSimpArgs false
set_option maxRecDepth 100000
open Go.RowKit
def ShortRet (w : World) (code : Nat) (e : Ending) (w' : World) : Prop := ∃ ad c, e = .returned (.tuple #[.slice ad 0 c, .int .i64 code]) ∧ Below w.heap.size w w'
theorem copy_zero (b off cp : Nat) (sp : Option String) (w : World) : True := trivial
theorem copy_e (p : Addr) (c : Nat) (w : World) : Calls Try.prog 16 #[.slice (some p) 0 c] w fun e w' => ∃ ad c, e = .returned (.slice ad 0 c) ∧ Below w.heap.size w w' :=
  (copy_some [] p c w ⟨_, _, rfl, .inl rfl⟩ (Nat.zero_le _)).mono fun e w' ⟨ad, c, h, _, _, _, hb⟩ => ⟨ad, c, h, hb⟩
theorem trim_e (p : Addr) (cp : Nat) (hcm : cp ≤ maxLen) (w : World) : Calls Try.prog 7 #[.slice (some p) 0 cp] w (ShortRet w 4) := by
  have hlk := look_0 (some p) cp
  unfold LookRet at hlk
  rw [show layV ((0, 0, 0, 4) : Nat × Nat × Nat × Nat).1 = #[.int .i64 0, .int .u8 0, .int .i64 0, .int .i64 0, .int .i64 0, .int .i64 0, .int .i64 0, .int .i64 0] from rfl] at hlk
  dsimp only at hlk
  have HLK := Lib.hid hlk
  have HCL := Lib.hid copy_e
  have hcmi : (cp : Int) ≤ 9223372036854775807 := by unfold maxLen at hcm; omega
  have h0i : (0 : Int) ≤ cp := by omega
  obtain ⟨b, off, sp⟩ := p
  clear hlk
  go_enter Try.func7, Try.ntmps7
  go_wp2_with (first | (go_at_call 15; ((with_reducible refine (HLK.out _).mono ?_); rintro e w2 ⟨rfl, hb2⟩; (try dsimp only); have HB := Lib.hid hb2; clear hb2)) | (go_at_call 16; ((with_reducible refine (HCL.out _ _ _).mono ?_); rintro e w3 ⟨ad, c3, rfl, hb3⟩; have HB3 := Lib.hid (Below.next HB.out (Below.next (below_one _) hb3)); clear hb3)) | fail)
  all_goals go_ret2
  all_goals exact ⟨_, _, rfl, HB3.out⟩
theorem data_e (p : Addr) (cp : Nat) (hcm : cp ≤ maxLen) (w : World) : Calls Try.prog 8 #[.slice (some p) 0 cp] w (ShortRet w 4) := by
  have hlk := look_0 (some p) cp
  unfold LookRet at hlk
  rw [show layV ((0, 0, 0, 4) : Nat × Nat × Nat × Nat).1 = #[.int .i64 0, .int .u8 0, .int .i64 0, .int .i64 0, .int .i64 0, .int .i64 0, .int .i64 0, .int .i64 0] from rfl] at hlk
  dsimp only at hlk
  have HLK := Lib.hid hlk
  have HCL := Lib.hid copy_e
  have hcmi : (cp : Int) ≤ 9223372036854775807 := by unfold maxLen at hcm; omega
  have h0i : (0 : Int) ≤ cp := by omega
  obtain ⟨b, off, sp⟩ := p
  clear hlk
  go_enter Try.func8, Try.ntmps8
  go_wp2_with (first | (go_at_call 15; ((with_reducible refine (HLK.out _).mono ?_); rintro e w2 ⟨rfl, hb2⟩; (try dsimp only); have HB := Lib.hid hb2; clear hb2)) | (go_at_call 16; ((with_reducible refine (HCL.out _ _ _).mono ?_); rintro e w3 ⟨ad, c3, rfl, hb3⟩; have HB3 := Lib.hid (Below.next HB.out (Below.next (below_one _) hb3)); clear hb3)) | fail)
  all_goals go_ret2
  all_goals exact ⟨_, _, rfl, HB3.out⟩
theorem short_of {w : World} {code : Nat} {e : Ending} {w' : World} (h : TrimRet w [] code e w') : ShortRet w code e w' := by
  obtain ⟨ad, c, h1, _, h2⟩ := h; exact ⟨ad, c, h1, h2⟩
theorem packetreads_walk (l : List UInt8) (a : Option Addr) (cp : Nat) (w : World) (hv : Bytes w (.slice a l.length cp) l) (hcp : l.length ≤ cp) (hcm : cp ≤ maxLen) (hno : a = none → cp = 0) :
    Calls Try.prog 3 #[.slice a l.length cp] w fun e w' => e = .returned (.bool true) ∧ Below w.heap.size w w' := by
  by_cases hl : l.length ≤ 3000
  · by_cases h0 : l.length = 0
    · have el : l = [] := List.length_eq_zero_iff.1 h0
      subst el
      have hlp : lookP [] = (0, 0, 0, 4) := rfl
      refine reads_no [] a 0 cp 4 w (by omega) (by omega) hv ?_ ?_ ?_ ?_
      · intro w hv
        refine (head_no [] _ w hv (by omega) 4 hlp (.inr rfl)).mono ?_
        rintro e w' ⟨sa, sc, da, dc, h, _, _, hb⟩
        exact ⟨sa, sc, da, dc, h, hb⟩
      · intro w hv
        cases a with
        | none => obtain rfl := hno rfl; exact (trim_none w).mono fun e w' h => short_of h
        | some p => exact trim_e p cp hcm w
      · intro w hv
        cases a with
        | none => obtain rfl := hno rfl; exact (data_none w).mono fun e w' h => short_of h
        | some p => exact data_e p cp hcm w
      · intro w hv
        refine (ref_0 a cp w).mono ?_
        rintro e w' ⟨sa, sc, da, dc, h, _, _, hb⟩
        exact ⟨sa, sc, da, dc, h, hb⟩
    · obtain ⟨b, off, cp', he, _⟩ := look_cells hv (by omega)
      cases he
      obtain ⟨ver, bg, en, code, S, D, hlp, hbe, hel, _, hcode, hrd, hrf⟩ := readS l b off cp hl (by omega) hcp hcm
      rcases hcode with rfl | ⟨hc0, hc5, rfl, rfl, rfl, rfl, rfl⟩
      · refine reads_yes l S D b off cp ver bg en w hl hbe hel hcp hcm hv hrd ?_ ?_ hrf
        · intro w hv; have := trim_some l b off cp w hv (by omega) hcp hcm; rw [hlp] at this; exact this
        · intro w hv; have := data_some l b off cp w hv (by omega) hcp hcm; rw [hlp] at this; exact this
      · refine reads_no l _ l.length cp code w hl hc0 hv ?_ ?_ ?_ ?_
        · intro w hv
          refine (hrd w hv).mono ?_
          rintro e w' ⟨sa, sc, da, dc, h, _, _, hb⟩
          exact ⟨sa, sc, da, dc, h, hb⟩
        · intro w hv; have := trim_some l b off cp w hv (by omega) hcp hcm; rw [hlp] at this; exact this.mono fun e w' h => short_of h
        · intro w hv; have := data_some l b off cp w hv (by omega) hcp hcm; rw [hlp] at this; exact this.mono fun e w' h => short_of (by have e0 : sub l 0 0 = [] := rfl; rw [← e0]; exact h)
        · intro w hv
          refine (hrf w hv).mono ?_
          rintro e w' ⟨sa, sc, da, dc, h, _, _, hb⟩
          exact ⟨sa, sc, da, dc, h, hb⟩
  · have hli : (3000 : Int) < l.length := by omega
    clear hv
    go_enter Try.func3, Try.ntmps3
    go_wp2_with (first | (go_at_call 5; ((with_reducible refine (awake5 _).mono ?_); rintro e w0 ⟨rfl, hb⟩; have HB := Lib.hid hb; clear hb)) | fail)
    go_ret
    exact ⟨rfl, HB.out⟩
open Go.ChangeShapes Go.WideShapes Go.ChangeAt in
theorem bytes_row {w : World} {a1 : Option Addr} {len1 cap1 : Nat} {z1 : List Int} (w1 : ((a1 = none ∧ len1 = 0 ∧ cap1 = 0 ∧ z1 = []) ∨ ∃ x, a1 = some x ∧ len1 ≤ cap1 ∧ cap1 ≤ maxLen ∧ z1.length = cap1 ∧ (∀ i, i < z1.length → w.cell? (x.add i) = some (.int .u8 (z1.getD i 0))) ∧ ∀ n ∈ z1, (Lit.int .u8 n).wf = true)) : ∃ l, l.length = len1 ∧ Bytes w (.slice a1 len1 cap1) l ∧ len1 ≤ cap1 ∧ cap1 ≤ maxLen ∧ (a1 = none → cap1 = 0) := by
  rcases w1 with ⟨rfl, rfl, rfl, rfl⟩ | ⟨x, rfl, hlc, hm, hz, hcell, hwz⟩
  · exact ⟨[], rfl, bytes_nil w, Nat.le_refl _, Nat.zero_le _, fun _ => rfl⟩
  · refine ⟨(z1.take len1).map fun n => UInt8.ofNat n.toNat, by simp; omega, ⟨some x, cap1, by simp; omega, ?_⟩, hlc, hm, fun h => by cases h⟩
    by_cases h0 : len1 = 0
    · left; subst h0; rfl
    · right
      have hc := hcell 0 (by omega)
      obtain ⟨b, off, spot⟩ := x
      have hspot : spot = none := by simpa [Addr.add] using World.cell?_spot hc
      subst hspot
      refine ⟨b, off, rfl, fun i hi => ?_⟩
      have hi2 : i < len1 := by simp at hi; omega
      have h1 := hcell i (by omega)
      rw [add_at] at h1
      rw [h1]
      have hb := hwz (z1.getD i 0) (by simp [List.getD, List.getElem?_eq_getElem (show i < z1.length by omega)])
      have hb2 := bounds_u8 hb
      have e : (((z1.take len1).map fun n => UInt8.ofNat n.toNat).getD i 0) = UInt8.ofNat (z1.getD i 0).toNat := by
        simp [List.getD, hi2, List.getElem?_eq_getElem (show i < z1.length by omega)]
      rw [e, UInt8.toNat_ofNat', Nat.mod_eq_of_lt (by omega)]
      congr 2; omega
theorem packetreads_row {w : World} {a1 : Option Addr} {len1 cap1 : Nat} {z1 : List Int} (w1 : ((a1 = none ∧ len1 = 0 ∧ cap1 = 0 ∧ z1 = []) ∨ ∃ x, a1 = some x ∧ len1 ≤ cap1 ∧ cap1 ≤ maxLen ∧ z1.length = cap1 ∧ (∀ i, i < z1.length → w.cell? (x.add i) = some (.int .u8 (z1.getD i 0))) ∧ ∀ n ∈ z1, (Lit.int .u8 n).wf = true)) :
    Calls Try.prog 3 #[.slice a1 len1 cap1] w fun e w' => e = .returned (.bool true) ∧ Below w.heap.size w w' := by
  obtain ⟨l, rfl, hb, hc, hm, hno⟩ := bytes_row w1
  exact packetreads_walk l a1 cap1 w hb hc hm hno
end Go.Proofs.Ytkhomjbggfjleaa
