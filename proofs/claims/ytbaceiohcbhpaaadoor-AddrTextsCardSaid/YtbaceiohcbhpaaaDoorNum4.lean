import Derived.Test.YtbaceiohcbhpaaaDoorNum3
namespace Go.Proofs.YtbaceiohcbhpaaaDoor
set_option linter.unusedVariables false
set_option linter.unusedSimpArgs false
set_option maxRecDepth 100000
open Go.RowKit

theorem digs_take_one (s : ByteArray) (k : Nat) (h : k < s.size) (hd : digs (s.data.toList.take k) 10 = true) (h1 : 48 ≤ (s[k]).toNat) (h2 : (s[k]).toNat ≤ 57) : digs (s.data.toList.take (k + 1)) 10 = true := by
  rw [take_snoc s k h, digs_snoc, hd, Bool.true_and, decide_eq_true_eq, val_dec]; omega
theorem digs_bad (s : ByteArray) (k : Nat) (h : k < s.size) (hb : (s[k]).toNat < 48 ∨ 57 < (s[k]).toNat) : digs s.data.toList 10 = false := by
  refine digs_no (mem_of s k h) ?_
  have := val_dec (s[k]).toNat
  omega

theorem rread_any (s : ByteArray) (hs : s.size ≤ maxLen) (w : World) :
    Calls Tryd.prog 22 #[.string s] w fun e w' => e = .returned (.tuple #[.int .u64 (rdVal s.data.toList), .int .i64 (rdCode s.data.toList)]) ∧ w = w' := by
  unfold maxLen at hs
  by_cases h0 : s.size = 0
  · have HR := Lib.hid (rd_bad (form_size0 s h0))
    obtain rfl := size0 s h0
    go_enter Tryd.func22, Tryd.ntmps22
    go_wp2_with fail
    go_ret2
    exact ⟨ret_rd HR.out.1.symm HR.out.2.symm, rfl⟩
  · have hp : 0 < s.size := by omega
    have hb0 : (s[0]).toNat < 256 := UInt8.toNat_lt _
    by_cases hbad : 1 < s.size ∧ (s[0]).toNat = 48
    · obtain ⟨h1, h48⟩ := hbad
      have HR := Lib.hid (rd_bad (form_48 s h1 h48))
      go_enter Tryd.func22, Tryd.ntmps22
      go_wp2_with fail
      go_ret2
      exact ⟨ret_rd HR.out.1.symm HR.out.2.symm, rfl⟩
    · have hcase : s.size ≤ 1 ∨ (1 < s.size ∧ (s[0]).toNat ≠ 48) := by omega
      have hgood := Lib.hid (show s.size ≤ 1 ∨ (s[0]).toNat ≠ 48 by omega)
      clear hbad
      have h0f : ((s.size : Int) == 0) = false := beqf (by omega)
      have hcase : s.size ≤ 1 ∨ (1 < s.size ∧ (((s[0]).toNat : Int) == 48) = false) := hcase.imp id fun h => ⟨h.1, beqf (by omega)⟩
      rcases hcase with h48 | ⟨h1, h48⟩
      all_goals
        go_enter Tryd.func22, Tryd.ntmps22
        go_wp2_with fail
        go_loop [4] (fun i => ∃ k : Nat, k ≤ s.size ∧ i = .int .i64 k ∧ digs (s.data.toList.take k) 10 = true) (fun i => s.size - (intOf i).toNat)
        case atStart => exact ⟨0, by omega, rfl, rfl⟩
        case round =>
          obtain ⟨k, hk, rfl, hd⟩ := hrel
          have HD := Lib.hid hd
          clear hd
          by_cases hlt : k < s.size
          · have hb : (s[k]).toNat < 256 := UInt8.toNat_lt _
            by_cases hx : (s[k]).toNat < 48 ∨ 57 < (s[k]).toNat
            · have HR := Lib.hid (rd_bad (form_digs s (digs_bad s k hlt hx)))
              rcases hx with hx | hx
              all_goals
                go_wp2_with fail
                go_ret2
                exact ⟨ret_rd HR.out.1.symm HR.out.2.symm, rfl⟩
            · have hx1 : 48 ≤ (s[k]).toNat := by omega
              have hx2 : (s[k]).toNat ≤ 57 := by omega
              have HD2 := Lib.hid (digs_take_one s k hlt HD.out hx1 hx2)
              clear hx
              go_wp2_with fail
              go_round
              case rel => exact ⟨k + 1, by omega, by go_num, HD2.out⟩
              case measure => simp [intOf]; omega
          · have HF := Lib.hid (form_good s hp hgood.out (by have := HD.out; rw [take_all s k (by omega)] at this; exact this))
            go_wp2_with fail
            go_loop [5, 6] (fun v i => ∃ m u : Nat, m ≤ s.size ∧ i = .int .i64 m ∧ v = .int .u64 u ∧ u = numOf (s.data.toList.take m) ∧ u ≤ top) (fun _ i => s.size - (intOf i).toNat)
            case atStart => exact ⟨0, 0, by omega, rfl, rfl, rfl, by decide⟩
            case round =>
              obtain ⟨m, u, hm, rfl, rfl, hu, ht⟩ := hrel
              have HU := Lib.hid hu
              have hut : (u : Int) ≤ 18446744073709551615 := by unfold top at ht; omega
              clear hu ht
              by_cases hlm : m < s.size
              · obtain ⟨_, hve, hv48, hv57⟩ := val_of_form s m hlm HF.out
                have HV := Lib.hid hve
                clear hve
                have hb : (s[m]).toNat < 256 := UInt8.toNat_lt _
                by_cases hv : (18446744073709551615 - (((s[m]).toNat : Int) - 48)) / 10 < (u : Int)
                · have HR := Lib.hid (rd_long_at s m hlm HF.out (by rw [← HU.out, HV.out]; exact hv))
                  go_wp2_with fail
                  go_ret2
                  exact ⟨ret_rd HR.out.1.symm HR.out.2.symm, rfl⟩
                · have HN := Lib.hid (num_next s m hlm HF.out (by rw [← HU.out, HV.out]; omega))
                  go_wp2_with fail
                  go_round
                  case rel => exact ⟨m + 1, numOf (s.data.toList.take (m + 1)), by omega, by go_num, by have := HN.out.1; rw [← HU.out, HV.out] at this; rw [← this, Int.mul_comm], rfl, HN.out.2⟩
                  case measure => simp [intOf]; omega
              · have HR := Lib.hid (rd_fine (l := s.data.toList) HF.out (by have h1 := HU.out; rw [take_all s m (by omega)] at h1; unfold top; omega))
                have HE : Hid ((u : Int) = numOf s.data.toList) := by have h1 := HU.out; rw [take_all s m (by omega)] at h1; exact congrArg Int.ofNat h1
                go_wp2_with fail
                go_ret2
                exact ⟨ret_rd (HE.out.trans HR.out.1.symm) HR.out.2.symm, rfl⟩
end Go.Proofs.YtbaceiohcbhpaaaDoor
