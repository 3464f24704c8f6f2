/- Packets: the law PacketMakes, whole. -/
import Derived.Test.YtkhomjbggfjleaaPkt13
namespace Go.Proofs.Ytkhomjbggfjleaa
set_option linter.unusedVariables false
set_option linter.unusedSimpArgs false
set_option maxRecDepth 100000
open Go.RowKit
theorem bytes_e (w : World) (a : Option Addr) (c : Nat) : Bytes w (.slice a 0 c) [] := ⟨_, _, rfl, .inl rfl⟩
set_option maxHeartbeats 2000000 in
theorem makes_no (sn dn qn : Nat) (code : Nat) (hc0 : code ≠ 0) (n : Int) (sa da qa : Option Addr) (sc dc qc : Nat) (w : World) (hs : sn ≤ 40) (hd : dn ≤ 40) (hq : qn ≤ 3000) (hn : n ≤ 5000)
    (hmk : ∀ W, Below w.heap.size w W → Calls Try.prog 12 #[.slice sa sn sc, .slice da dn dc, .slice qa qn qc] W fun e w' => ∃ ba bc, e = .returned (.tuple #[.slice ba 0 bc, .int .i64 code]) ∧ Below W.heap.size W w')
    (hrm : ∀ W, Below w.heap.size w W → Calls Try.prog 13 #[.slice sa sn sc, .slice da dn dc, .slice qa qn qc] W fun e w' => ∃ wa wc, e = .returned (.tuple #[.slice wa 0 wc, .int .i64 code]) ∧ Below W.heap.size W w')
    (hpd : ∀ W a c, Calls Try.prog 14 #[.slice a 0 c, .int .i64 n] W fun e w' => ∃ g, e = .returned (.slice (some ⟨g, 0, none⟩) 0 0) ∧ Below W.heap.size W w') :
    Calls Try.prog 4 #[.slice sa sn sc, .slice da dn dc, .slice qa qn qc, .int .i64 n] w fun e w' => e = .returned (.bool true) ∧ Below w.heap.size w w' := by
  have HMK := Lib.hid hmk
  have HRM := Lib.hid hrm
  have HPD := Lib.hid hpd
  have HSM : Hid (∀ W a c b d, Calls Try.prog 11 #[.slice a 0 c, .slice b 0 d] W fun e w' => e = .returned (.bool true) ∧ W = w') := Lib.hid (fun W a c b d => same_self [] _ _ W (bytes_e W a c) (bytes_e W b d))
  have hsi : (sn : Int) ≤ 40 := by omega
  have hdi : (dn : Int) ≤ 40 := by omega
  have hqi : (qn : Int) ≤ 3000 := by omega
  have hci : ((code : Int) != 0) = true := bnet (by omega)
  clear hmk hrm hpd hs hd hq hc0
  by_cases hlt : n < 1
  · go_enter Try.func4, Try.ntmps4
    go_wp2_with (first | (go_at_call 5; ((with_reducible refine (awake5 _).mono ?_); rintro e w0 ⟨rfl, hb⟩; have HB := Lib.hid hb; clear hb)) | (go_at_call 12; ((with_reducible refine (HMK.out _ HB.out).mono ?_); rintro e w1 ⟨ba, bc, rfl, hb⟩; have HB := Lib.hid (Below.next HB.out hb); clear hb)) | (go_at_call 13; ((with_reducible refine (HRM.out _ HB.out).mono ?_); rintro e w2 ⟨wa, wc, rfl, hb⟩; have HB := Lib.hid (Below.next HB.out hb); clear hb)) | (go_at_call 14; ((with_reducible refine (HPD.out _ _ _).mono ?_); rintro e w3 ⟨g, rfl, hb⟩; have HB := Lib.hid (Below.next HB.out hb); clear hb)) | (go_at_call 11; ((with_reducible refine (HSM.out _ _ _ _ _).mono ?_); rintro e w9 ⟨rfl, rfl⟩)) | fail)
    go_loop [14] (fun i => i = .int .i64 0) (fun i => 0)
    case atStart => rfl
    case round =>
      subst hrel
      go_wp2_with (first | (go_at_call 5; ((with_reducible refine (awake5 _).mono ?_); rintro e w0 ⟨rfl, hb⟩; have HB := Lib.hid hb; clear hb)) | (go_at_call 12; ((with_reducible refine (HMK.out _ HB.out).mono ?_); rintro e w1 ⟨ba, bc, rfl, hb⟩; have HB := Lib.hid (Below.next HB.out hb); clear hb)) | (go_at_call 13; ((with_reducible refine (HRM.out _ HB.out).mono ?_); rintro e w2 ⟨wa, wc, rfl, hb⟩; have HB := Lib.hid (Below.next HB.out hb); clear hb)) | (go_at_call 14; ((with_reducible refine (HPD.out _ _ _).mono ?_); rintro e w3 ⟨g, rfl, hb⟩; have HB := Lib.hid (Below.next HB.out hb); clear hb)) | (go_at_call 11; ((with_reducible refine (HSM.out _ _ _ _ _).mono ?_); rintro e w9 ⟨rfl, rfl⟩)) | fail)
      go_ret
      exact ⟨rfl, HB.out⟩
  · obtain ⟨r, rfl⟩ : ∃ r : Nat, n = r := ⟨n.toNat, by omega⟩
    have hr1 : (1 : Int) ≤ r := by omega
    have hr0 : (r : Int) ≠ 0 := by omega
    have hr2 : ¬ (r : Int) ≤ 0 := by omega
    have hmod : (0 : Int) % r = 0 := by simp
    have htm : (0 : Int).tmod r = 0 := by simp
    go_enter Try.func4, Try.ntmps4
    go_wp2_with (first | (go_at_call 5; ((with_reducible refine (awake5 _).mono ?_); rintro e w0 ⟨rfl, hb⟩; have HB := Lib.hid hb; clear hb)) | (go_at_call 12; ((with_reducible refine (HMK.out _ HB.out).mono ?_); rintro e w1 ⟨ba, bc, rfl, hb⟩; have HB := Lib.hid (Below.next HB.out hb); clear hb)) | (go_at_call 13; ((with_reducible refine (HRM.out _ HB.out).mono ?_); rintro e w2 ⟨wa, wc, rfl, hb⟩; have HB := Lib.hid (Below.next HB.out hb); clear hb)) | (go_at_call 14; ((with_reducible refine (HPD.out _ _ _).mono ?_); rintro e w3 ⟨g, rfl, hb⟩; have HB := Lib.hid (Below.next HB.out hb); clear hb)) | (go_at_call 11; ((with_reducible refine (HSM.out _ _ _ _ _).mono ?_); rintro e w9 ⟨rfl, rfl⟩)) | fail)
    go_loop [14] (fun i => i = .int .i64 0) (fun i => 0)
    case atStart => rfl
    case round =>
      subst hrel
      go_wp2_with (first | (go_at_call 5; ((with_reducible refine (awake5 _).mono ?_); rintro e w0 ⟨rfl, hb⟩; have HB := Lib.hid hb; clear hb)) | (go_at_call 12; ((with_reducible refine (HMK.out _ HB.out).mono ?_); rintro e w1 ⟨ba, bc, rfl, hb⟩; have HB := Lib.hid (Below.next HB.out hb); clear hb)) | (go_at_call 13; ((with_reducible refine (HRM.out _ HB.out).mono ?_); rintro e w2 ⟨wa, wc, rfl, hb⟩; have HB := Lib.hid (Below.next HB.out hb); clear hb)) | (go_at_call 14; ((with_reducible refine (HPD.out _ _ _).mono ?_); rintro e w3 ⟨g, rfl, hb⟩; have HB := Lib.hid (Below.next HB.out hb); clear hb)) | (go_at_call 11; ((with_reducible refine (HSM.out _ _ _ _ _).mono ?_); rintro e w9 ⟨rfl, rfl⟩)) | fail)
      go_ret
      exact ⟨rfl, HB.out⟩
end Go.Proofs.Ytkhomjbggfjleaa
