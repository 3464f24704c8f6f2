/- know: Add, by the contract of grow. -/
import Derived.Test.YteiadbiopcidmaaKnow18
namespace Go.Proofs.Yteiadbiopcidmaa
set_option linter.unusedVariables false
set_option linter.unusedSimpArgs false
set_option maxRecDepth 100000
open Go.RowKit

set_option maxHeartbeats 4000000 in
theorem kadd_any (G : Nat → World → Prop) (K : Nat) (pa : Option Addr) (pc : Nat) (l : List (List UInt8)) (tms : List Tm) (w : World) (hl : Strs w (.slice pa l.length pc) l) (hn : l.length ≤ 1000) (hsz : ∀ t ∈ l, t.length ≤ 65536)
    (hval : ∀ (i : Nat) (t : List UInt8), l[i]? = some t → (lookR t).1 ≠ 0 ∧ ∃ tm F r2, tms[i]? = some tm ∧ kPieceS (kLoop F) t = some (tm, r2))
    (hstart : ∀ W, Below w.heap.size w W → G 0 W) (hrow : ∀ i W, G i W → Strs W (.slice pa l.length pc) l)
    (hgrow : ∀ (i : Nat) (tm : Tm) (W W2 : World) (B : Nat), tms[i]? = some tm → i < l.length → G i W → PieceAt (Fr W.heap.size) W2 tm B → W.grownBy W2 none → Calls Try.prog 12 #[.pointer (some ⟨K, 0, none⟩), .pointer (some ⟨B, 0, none⟩)] W2 fun e W3 => (∃ x, e = .returned x) ∧ G (i + 1) W3) :
    Calls Try.prog 5 #[.pointer (some ⟨K, 0, none⟩), .slice pa l.length pc] w fun e W => e = .returned (.int .i64 0) ∧ G l.length W := by
  obtain ⟨n, hnn⟩ : ∃ n, l.length = n := ⟨_, rfl⟩
  have HL := Lib.hid hl
  have HV := Lib.hid hval
  have HST := Lib.hid hstart
  have HRW := Lib.hid hrow
  have HGW := Lib.hid hgrow
  have HSZ := Lib.hid hsz
  have HNN := Lib.hid hnn
  rw [hnn] at hn ⊢
  clear hl hval hstart hrow hgrow hsz hnn
  have HCELL : Hid (∀ W k, Strs W (.slice pa l.length pc) l → k < n → ∃ b off t, pa = some ⟨b, off, none⟩ ∧ l[k]? = some t ∧ t.length ≤ 65536 ∧ W.cell? ⟨b, off + k, none⟩ = some (.string (strB t))) := Lib.hid (fun W k h hk => by
    obtain ⟨a, cap, e, _, h⟩ := h
    cases e
    have hk2 : k < l.length := by have := HNN.out; omega
    rcases h with h | ⟨b, off, rfl, h⟩
    · rw [h] at hk2; simp at hk2
    · refine ⟨b, off, l[k], rfl, List.getElem?_eq_getElem hk2, HSZ.out _ (List.getElem_mem hk2), ?_⟩
      have := h k hk2
      rw [show l.getD k [] = l[k] by simp [List.getD, List.getElem?_eq_getElem hk2]] at this
      exact this)
  go_enter Try.func5, Try.ntmps5
  go_wp2
  go_loopw [13] (fun i wr => ∃ k : Nat, i = .int .i64 k ∧ k ≤ n ∧ Below w.heap.size w wr) (fun i _ => n - (intOf i).toNat)
  case atStart => exact ⟨0, rfl, Nat.zero_le _, Below.refl _ _⟩
  case round =>
    obtain ⟨k, rfl, hk, hb⟩ := hrel
    have HB := Lib.hid hb
    clear hb
    by_cases hlt : k < n
    · obtain ⟨b, off, t, rfl, ht, hts, hc⟩ := HCELL.out wr k (HL.out.below HB.out) hlt
      obtain ⟨kk, hkk⟩ : ∃ kk, (lookR t).1 = kk := ⟨_, rfl⟩
      have h0 : kk ≠ 0 := by rw [← hkk]; exact (HV.out k t ht).1
      have hkb : ((kk : Int) == 0) = false := beqf (by omega)
      have HKD : Hid (∀ w, Calls Try.prog 11 #[.string (strB t)] w fun e w' => e = .returned (.int .i64 kk) ∧ Below w.heap.size w w') := Lib.hid (fun w => by
        have := kind_any (strB t) (by rw [strB_size]; unfold maxLen; omega) w
        rw [show (strB t).data.toList = t from by simp [strB], hkk] at this; exact this)
      have hk0 : (0 : Int) ≤ k := by omega
      have hk1 : (k : Int) < n := by omega
      clear ht hkk h0
      go_wp2_with (first | (go_at_call 11; ((with_reducible refine (HKD.out _).mono ?_); rintro e w2 ⟨rfl, hb2⟩; have HB2 := Lib.hid hb2; clear hb2)) | fail)
      go_roundw
      case rel => exact ⟨k + 1, by go_num, by omega, HB.out.trans (HB2.out.mono HB.out.size)⟩
      case measure => simp [intOf]; omega
    · have e : k = n := by omega
      subst e
      go_wp2
      go_loopw [23] (fun i wr => ∃ j : Nat, i = .int .i64 j ∧ j ≤ k ∧ G j wr) (fun i _ => k - (intOf i).toNat)
      case atStart => exact ⟨0, rfl, Nat.zero_le _, HST.out _ HB.out⟩
      case round =>
        obtain ⟨j, rfl, hj, hg⟩ := hrel
        by_cases hlj : j < k
        · obtain ⟨b, off, t, rfl, ht, hts, hc⟩ := HCELL.out wr j (HRW.out j wr hg) hlj
          obtain ⟨tm, F, r2, htm, hp⟩ := (HV.out j t ht).2
          have HRD : Hid (∀ w, Calls Try.prog 13 #[.string (strB t)] w (ReadOK w tm)) := Lib.hid (fun w => kread_any (strB t) (by rw [strB_size]; omega) F tm r2 (by rw [show (strB t).data.toList = t from by simp [strB]]; exact hp) w)
          have HGR : Hid (∀ W2 B, PieceAt (Fr wr.heap.size) W2 tm B → wr.grownBy W2 none → Calls Try.prog 12 #[.pointer (some ⟨K, 0, none⟩), .pointer (some ⟨B, 0, none⟩)] W2 fun e W3 => (∃ x, e = .returned x) ∧ G (j + 1) W3) := Lib.hid (fun W2 B h1 h2 => HGW.out j tm wr W2 B htm (by have := HNN.out; omega) hg h1 h2)
          have hj0 : (0 : Int) ≤ j := by omega
          have hj1 : (j : Int) < k := by omega
          clear ht htm hp hg
          go_wp2_with (first | (go_at_call 12; ((with_reducible refine (HGR.out w4 B HP4.out HG4.out).mono ?_); rintro e w5 ⟨⟨x, rfl⟩, hgi⟩)) | (go_at_call 13; ((with_reducible refine (HRD.out wr).mono ?_); rintro e w4 ⟨B, rfl, hp4, hg4⟩; have HP4 := Lib.hid hp4; have HG4 := Lib.hid hg4; unfold ptrV; clear hp4 hg4)) | fail)
          go_roundw
          case rel => exact ⟨j + 1, by go_num, by omega, hgi⟩
          case measure => simp [intOf]; omega
        · have e : j = k := by omega
          subst e
          have HG := Lib.hid hg
          clear hg
          go_wp2
          go_ret
          exact ⟨rfl, HG.out⟩
end Go.Proofs.Yteiadbiopcidmaa
