/- Packets: what is made is read. -/
import Derived.Test.YtkhomjbggfjleaaPkt12
namespace Go.Proofs.Ytkhomjbggfjleaa
set_option linter.unusedVariables false
set_option linter.unusedSimpArgs false
set_option maxRecDepth 100000
open Go.RowKit
theorem sub_mid (A B C : List UInt8) (i j : Nat) (hi : A.length = i) (hj : j = i + B.length) : sub (A ++ (B ++ C)) i j = B := by
  subst hi hj
  unfold sub
  rw [List.drop_left, Nat.add_sub_cancel_left, List.take_left]
def madeL (v6 : Bool) (s d q : List UInt8) : List UInt8 := headOf v6 q.length ++ (s ++ (d ++ q))
theorem madeL_app (v6 : Bool) (s d q Z : List UInt8) : madeL v6 s d q ++ Z = headOf v6 q.length ++ (s ++ (d ++ (q ++ Z))) := by unfold madeL; simp only [List.append_assoc]
theorem made_z_at (L : List UInt8) (k m : Nat) (h : L.length ≤ m) : (L ++ List.replicate k 0).getD m 0 = 0 := by
  rw [show (L ++ List.replicate k (0 : UInt8)).getD m 0 = (List.replicate k (0 : UInt8)).getD (m - L.length) 0 by simp only [List.getD]; rw [List.getElem?_append_right h]]
  exact rep_get _ _
theorem made4_look (s d q Z : List UInt8) (hs : s.length = 4) (hd : d.length = 4) (hq : q.length ≤ 1980) : lookP (madeL false s d q ++ Z) = (4, 20, 20 + q.length, 0) := by
  have hlen : (madeL false s d q ++ Z).length = 20 + q.length + Z.length := by rw [madeL_app]; simp [headOf, hs, hd]; omega
  have hv : pkVer (madeL false s d q ++ Z) = 4 := by rw [madeL_app]; show (69 : UInt8).toNat / 16 = 4; decide
  have hh : pkHead (madeL false s d q ++ Z) = 20 := by rw [madeL_app]; show 4 * ((69 : UInt8).toNat % 16) = 20; decide
  have hl : pkLen4 (madeL false s d q ++ Z) = 20 + q.length := by
    rw [madeL_app]
    show 256 * (UInt8.ofNat ((q.length + 20) / 256)).toNat + (UInt8.ofNat ((q.length + 20) % 256)).toNat = _
    rw [UInt8.toNat_ofNat', UInt8.toNat_ofNat']; omega
  unfold lookP
  rw [if_neg (by omega), if_pos hv, if_neg (by omega), if_neg (by omega), if_neg (by omega), hh, hl]
theorem made6_look (s d q Z : List UInt8) (hs : s.length = 16) (hd : d.length = 16) (hq : q.length ≤ 1960) : lookP (madeL true s d q ++ Z) = (6, 40, 40 + q.length, 0) := by
  have hlen : (madeL true s d q ++ Z).length = 40 + q.length + Z.length := by rw [madeL_app]; simp [headOf, hs, hd]; omega
  have hv : pkVer (madeL true s d q ++ Z) = 6 := by rw [madeL_app]; show (96 : UInt8).toNat / 16 = 6; decide
  have hl : pkLen6 (madeL true s d q ++ Z) = 40 + q.length := by
    rw [madeL_app]
    show 40 + 256 * (UInt8.ofNat (q.length / 256)).toNat + (UInt8.ofNat (q.length % 256)).toNat = _
    rw [UInt8.toNat_ofNat', UInt8.toNat_ofNat']; omega
  unfold lookP
  rw [if_neg (by omega), if_neg (by omega), if_pos hv, if_neg (by omega), if_neg (by omega), hl]
theorem padN_spec (size : Nat) (n : Int) : (n < 1 → padN size n = 0) ∧ (1 ≤ n → (size + padN size n) % n.toNat = 0 ∧ padN size n < n.toNat) := by
  unfold padN
  refine ⟨fun h => if_pos h, fun h => ?_⟩
  rw [if_neg (by omega)]
  have hlt := Nat.mod_lt size (show 0 < n.toNat by omega)
  by_cases h2 : size % n.toNat = 0
  · rw [if_pos h2]; exact ⟨by rw [Nat.add_zero]; exact h2, by omega⟩
  · rw [if_neg h2]
    refine ⟨?_, by omega⟩
    have e : size + (n.toNat - size % n.toNat) = n.toNat * (size / n.toNat + 1) := by
      have := Nat.div_add_mod size n.toNat
      rw [Nat.mul_add, Nat.mul_one]; omega
    rw [e, Nat.mul_mod_right]
theorem same_self (X : List UInt8) (va vb : Value) (w : World) (ha : Bytes w va X) (hb : Bytes w vb X) :
    Calls Try.prog 11 #[va, vb] w fun e w' => e = .returned (.bool true) ∧ w = w' := by
  have := same_any va vb X X w ha hb
  simpa using this
set_option maxHeartbeats 4000000 in
theorem makes_yes (s d q L P : List UInt8) (ver n1 k N : Nat) (n : Int) (sa da qa : Option Addr) (sc dc qc : Nat) (w : World) (hN : N = n1 + k) (hn1 : n1 ≤ 2000) (hk : k ≤ 5000) (hs : s.length ≤ 40) (hd : d.length ≤ 40) (hq : q.length ≤ 3000) (hn : n ≤ 5000)
    (hp1 : n < 1 → k = 0) (hp2 : 1 ≤ n → N % n.toNat = 0 ∧ k < n.toNat) (hL : L.length = n1)
    (hsv : Bytes w (.slice sa s.length sc) s) (hdv : Bytes w (.slice da d.length dc) d) (hqv : Bytes w (.slice qa q.length qc) q)
    (hmk : ∀ W, Below w.heap.size w W → Calls Try.prog 12 #[.slice sa s.length sc, .slice da d.length dc, .slice qa q.length qc] W fun e w' => ∃ ba bc, e = .returned (.tuple #[.slice ba n1 bc, .int .i64 0]) ∧ Bytes w' (.slice ba n1 bc) L ∧ Below W.heap.size W w')
    (hrm : ∀ W, Below w.heap.size w W → Calls Try.prog 13 #[.slice sa s.length sc, .slice da d.length dc, .slice qa q.length qc] W fun e w' => ∃ v, e = .returned (.tuple #[v, .int .i64 0]) ∧ Bytes w' v L ∧ Below W.heap.size W w')
    (hpd : ∀ W a c, Bytes W (.slice a n1 c) L → Calls Try.prog 14 #[.slice a n1 c, .int .i64 n] W fun e w' => ∃ g, e = .returned (.slice (some ⟨g, 0, none⟩) N N) ∧ Bytes w' (.slice (some ⟨g, 0, none⟩) N N) P ∧ Below W.heap.size W w')
    (hrd : ∀ W g, Bytes W (.slice (some ⟨g, 0, none⟩) N N) P → Calls Try.prog 6 #[.slice (some ⟨g, 0, none⟩) N N] W (HeadRet W ver n1 0 s d))
    (hdt : ∀ W g, Bytes W (.slice (some ⟨g, 0, none⟩) N N) P → Calls Try.prog 8 #[.slice (some ⟨g, 0, none⟩) N N] W (TrimRet W q 0))
    (htr : ∀ W g, Bytes W (.slice (some ⟨g, 0, none⟩) N N) P → Calls Try.prog 7 #[.slice (some ⟨g, 0, none⟩) N N] W (TrimRet W L 0))
    (hpl : ∀ W g, Bytes W (.slice (some ⟨g, 0, none⟩) N N) P → Bytes W (.slice (some ⟨g, 0, none⟩) n1 N) L)
    (hz : ∀ W g, Bytes W (.slice (some ⟨g, 0, none⟩) N N) P → ∀ m, n1 ≤ m → m < N → W.cell? ⟨g, m, none⟩ = some (.int .u8 0)) :
    Calls Try.prog 4 #[.slice sa s.length sc, .slice da d.length dc, .slice qa q.length qc, .int .i64 n] w fun e w' => e = .returned (.bool true) ∧ Below w.heap.size w w' := by
  have HSV := Lib.hid hsv
  have HDV := Lib.hid hdv
  have HQV := Lib.hid hqv
  have HMK := Lib.hid hmk
  have HRM := Lib.hid hrm
  have HPD := Lib.hid hpd
  have HRD := Lib.hid hrd
  unfold TrimRet at hdt htr
  rw [hL] at htr
  have HDT := Lib.hid hdt
  have HTR := Lib.hid htr
  have HPL := Lib.hid hpl
  have HZ := Lib.hid hz
  have hsi : (s.length : Int) ≤ 40 := by omega
  have hdi : (d.length : Int) ≤ 40 := by omega
  have hqi : (q.length : Int) ≤ 3000 := by omega
  have h10 : (0 : Int) ≤ n1 := by omega
  have h1N : (n1 : Int) ≤ N := by omega
  have h1Nn : n1 ≤ N := by omega
  have hNi : (N : Int) ≤ 7000 := by omega
  clear hsv hdv hqv hmk hrm hpd hrd hdt htr hpl hz hs hd hq hL
  by_cases hlt : n < 1
  · have hk0 := hp1 hlt
    have hne : ((N : Int) != n1) = false := bneq_i (by omega)
    clear hp1 hp2 hn1 hk hN hk0
    go_enter Try.func4, Try.ntmps4
    go_wp2_with (first | (go_at_call 5; ((with_reducible refine (awake5 _).mono ?_); rintro e w0 ⟨rfl, hb⟩; have HB := Lib.hid hb; clear hb)) | (go_at_call 12; ((with_reducible refine (HMK.out _ HB.out).mono ?_); rintro e w1 ⟨ba, bc, rfl, h1, hb⟩; have HBB := Lib.hid h1; have HB := Lib.hid (Below.next HB.out hb); clear h1 hb)) | (go_at_call 13; ((with_reducible refine (HRM.out _ HB.out).mono ?_); rintro e w2 ⟨wv, rfl, h1, hb⟩; have HW := Lib.hid h1; have HBB := Lib.hid (Bytes.below HBB.out hb); have HB := Lib.hid (Below.next HB.out hb); clear h1 hb)) | (go_at_call 14; ((with_reducible refine (HPD.out _ _ _ HBB.out).mono ?_); rintro e w3 ⟨g, rfl, h1, hb⟩; have HP := Lib.hid h1; have HW := Lib.hid (Bytes.below HW.out hb); have HBB := Lib.hid (Bytes.below HBB.out hb); have HB := Lib.hid (Below.next HB.out hb); have hpre := (HPL.out _ _ h1); have HPR := Lib.hid hpre; have hcl := HZ.out _ _ h1; clear h1 hb hpre)) | (go_at_call 11; ((with_reducible refine (same_self L _ _ _ HBB.out HW.out).mono ?_); rintro e w9 ⟨rfl, rfl⟩)) | (go_at_call 11; ((with_reducible refine (same_self L _ _ _ HPR.out HBB.out).mono ?_); rintro e w9 ⟨rfl, rfl⟩)) | fail)
    go_loop [14] (fun i => ∃ m : Nat, i = .int .i64 m ∧ n1 ≤ m ∧ m ≤ N) (fun i => N - (intOf i).toNat)
    case atStart => exact ⟨n1, rfl, by omega, by omega⟩
    case round =>
      obtain ⟨m, rfl, hm1, hm2⟩ := hrel
      by_cases hlt2 : m < N
      · have hc := hcl m hm1 hlt2
        have hmi : (m : Int) < N := by omega
        have hm0 : (0 : Int) ≤ m := by omega
        have hwm := wrap_i64 ((m : Int) + 1) (by omega) (by omega)
        clear hcl
        go_wp2_with fail
        go_round
        case rel => exact ⟨m + 1, by go_num, by omega, by omega⟩
        case measure => simp [intOf]; omega
      · obtain rfl : m = N := by omega
        clear hcl
        go_wp2_with (first | (go_at_call 6; ((with_reducible refine (HRD.out _ _ HP.out).mono ?_); rintro e w4 ⟨ha, hc, ia, ic, rfl, h1, h2, hb⟩; have HP := Lib.hid (Bytes.below HP.out hb); have HBB := Lib.hid (Bytes.below HBB.out hb); have HB := Lib.hid (Below.next HB.out hb); clear hb; have hb := below_one (w := w4) (.cells #[.int .i64 ver, .slice ha s.length hc, .slice ia d.length ic, .int .i64 n1] 25); have HP := Lib.hid (Bytes.below HP.out hb); have HBB := Lib.hid (Bytes.below HBB.out hb); have HB := Lib.hid (Below.next HB.out hb); have hx := heap_alloc_new w4 (.cells #[.int .i64 ver, .slice ha s.length hc, .slice ia d.length ic, .int .i64 n1] 25); have HX := Lib.hid hx; have HH := Lib.hid (h1.below hb); have HI := Lib.hid (h2.below hb); clear hb hx h1 h2)) | (go_at_call 8; ((with_reducible refine (HDT.out _ _ HP.out).mono ?_); rintro e w5 ⟨ea, ec, rfl, h1, hb⟩; have HP := Lib.hid (Bytes.below HP.out hb); have HBB := Lib.hid (Bytes.below HBB.out hb); have HB := Lib.hid (Below.next HB.out hb); have hx := (hb.block w4.heap.size (Array.getElem?_eq_some_iff.1 HX.out).1).trans HX.out; have HX := Lib.hid hx; have HH := Lib.hid (Bytes.below HH.out hb); have HI := Lib.hid (Bytes.below HI.out hb); have HE := Lib.hid h1; clear hb hx h1)) | (go_at_call 7; ((with_reducible refine (HTR.out _ _ HP.out).mono ?_); rintro e w6 ⟨ta, tc, rfl, h1, hb⟩; have HP := Lib.hid (Bytes.below HP.out hb); have HBB := Lib.hid (Bytes.below HBB.out hb); have HB := Lib.hid (Below.next HB.out hb); have hx := (hb.block w4.heap.size (Array.getElem?_eq_some_iff.1 HX.out).1).trans HX.out; have HX := Lib.hid hx; have HH := Lib.hid (Bytes.below HH.out hb); have HI := Lib.hid (Bytes.below HI.out hb); have HE := Lib.hid (Bytes.below HE.out hb); have HT := Lib.hid h1; obtain ⟨x0, x1, x2, x3⟩ := cells4 hx; clear hb hx h1)) | (go_at_call 11; ((with_reducible refine (same_self s _ _ _ HH.out (HSV.out.below HB.out)).mono ?_); rintro e w9 ⟨rfl, rfl⟩)) | (go_at_call 11; ((with_reducible refine (same_self d _ _ _ HI.out (HDV.out.below HB.out)).mono ?_); rintro e w9 ⟨rfl, rfl⟩)) | (go_at_call 11; ((with_reducible refine (same_self q _ _ _ HE.out (HQV.out.below HB.out)).mono ?_); rintro e w9 ⟨rfl, rfl⟩)) | (go_at_call 11; ((with_reducible refine (same_self L _ _ _ HT.out HBB.out).mono ?_); rintro e w9 ⟨rfl, rfl⟩)) | fail)
        go_ret
        exact ⟨rfl, HB.out⟩
  · obtain ⟨r, rfl⟩ : ∃ r : Nat, n = r := ⟨n.toNat, by omega⟩
    obtain ⟨h1, h2⟩ := hp2 (by omega)
    simp only [Int.toNat_natCast] at h1 h2
    have hr1 : (1 : Int) ≤ r := by omega
    have hr0 : (r : Int) ≠ 0 := by omega
    have hmod : (N : Int) % r = 0 := by have : ((N % r : Nat) : Int) = 0 := by omega
                                        simpa using this
    have htm : (N : Int).tmod r = 0 := by rw [Int.tmod_eq_emod_of_nonneg (by omega)]; exact hmod
    have hNr : (N : Int) - n1 < r := by omega
    clear hp1 hp2 hn1 hk hN h1 h2
    go_enter Try.func4, Try.ntmps4
    go_wp2_with (first | (go_at_call 5; ((with_reducible refine (awake5 _).mono ?_); rintro e w0 ⟨rfl, hb⟩; have HB := Lib.hid hb; clear hb)) | (go_at_call 12; ((with_reducible refine (HMK.out _ HB.out).mono ?_); rintro e w1 ⟨ba, bc, rfl, h1, hb⟩; have HBB := Lib.hid h1; have HB := Lib.hid (Below.next HB.out hb); clear h1 hb)) | (go_at_call 13; ((with_reducible refine (HRM.out _ HB.out).mono ?_); rintro e w2 ⟨wv, rfl, h1, hb⟩; have HW := Lib.hid h1; have HBB := Lib.hid (Bytes.below HBB.out hb); have HB := Lib.hid (Below.next HB.out hb); clear h1 hb)) | (go_at_call 14; ((with_reducible refine (HPD.out _ _ _ HBB.out).mono ?_); rintro e w3 ⟨g, rfl, h1, hb⟩; have HP := Lib.hid h1; have HW := Lib.hid (Bytes.below HW.out hb); have HBB := Lib.hid (Bytes.below HBB.out hb); have HB := Lib.hid (Below.next HB.out hb); have hpre := (HPL.out _ _ h1); have HPR := Lib.hid hpre; have hcl := HZ.out _ _ h1; clear h1 hb hpre)) | (go_at_call 11; ((with_reducible refine (same_self L _ _ _ HBB.out HW.out).mono ?_); rintro e w9 ⟨rfl, rfl⟩)) | (go_at_call 11; ((with_reducible refine (same_self L _ _ _ HPR.out HBB.out).mono ?_); rintro e w9 ⟨rfl, rfl⟩)) | fail)
    go_loop [14] (fun i => ∃ m : Nat, i = .int .i64 m ∧ n1 ≤ m ∧ m ≤ N) (fun i => N - (intOf i).toNat)
    case atStart => exact ⟨n1, rfl, by omega, by omega⟩
    case round =>
      obtain ⟨m, rfl, hm1, hm2⟩ := hrel
      by_cases hlt2 : m < N
      · have hc := hcl m hm1 hlt2
        have hmi : (m : Int) < N := by omega
        have hm0 : (0 : Int) ≤ m := by omega
        have hwm := wrap_i64 ((m : Int) + 1) (by omega) (by omega)
        clear hcl
        go_wp2_with fail
        go_round
        case rel => exact ⟨m + 1, by go_num, by omega, by omega⟩
        case measure => simp [intOf]; omega
      · obtain rfl : m = N := by omega
        clear hcl
        go_wp2_with (first | (go_at_call 6; ((with_reducible refine (HRD.out _ _ HP.out).mono ?_); rintro e w4 ⟨ha, hc, ia, ic, rfl, h1, h2, hb⟩; have HP := Lib.hid (Bytes.below HP.out hb); have HBB := Lib.hid (Bytes.below HBB.out hb); have HB := Lib.hid (Below.next HB.out hb); clear hb; have hb := below_one (w := w4) (.cells #[.int .i64 ver, .slice ha s.length hc, .slice ia d.length ic, .int .i64 n1] 25); have HP := Lib.hid (Bytes.below HP.out hb); have HBB := Lib.hid (Bytes.below HBB.out hb); have HB := Lib.hid (Below.next HB.out hb); have hx := heap_alloc_new w4 (.cells #[.int .i64 ver, .slice ha s.length hc, .slice ia d.length ic, .int .i64 n1] 25); have HX := Lib.hid hx; have HH := Lib.hid (h1.below hb); have HI := Lib.hid (h2.below hb); clear hb hx h1 h2)) | (go_at_call 8; ((with_reducible refine (HDT.out _ _ HP.out).mono ?_); rintro e w5 ⟨ea, ec, rfl, h1, hb⟩; have HP := Lib.hid (Bytes.below HP.out hb); have HBB := Lib.hid (Bytes.below HBB.out hb); have HB := Lib.hid (Below.next HB.out hb); have hx := (hb.block w4.heap.size (Array.getElem?_eq_some_iff.1 HX.out).1).trans HX.out; have HX := Lib.hid hx; have HH := Lib.hid (Bytes.below HH.out hb); have HI := Lib.hid (Bytes.below HI.out hb); have HE := Lib.hid h1; clear hb hx h1)) | (go_at_call 7; ((with_reducible refine (HTR.out _ _ HP.out).mono ?_); rintro e w6 ⟨ta, tc, rfl, h1, hb⟩; have HP := Lib.hid (Bytes.below HP.out hb); have HBB := Lib.hid (Bytes.below HBB.out hb); have HB := Lib.hid (Below.next HB.out hb); have hx := (hb.block w4.heap.size (Array.getElem?_eq_some_iff.1 HX.out).1).trans HX.out; have HX := Lib.hid hx; have HH := Lib.hid (Bytes.below HH.out hb); have HI := Lib.hid (Bytes.below HI.out hb); have HE := Lib.hid (Bytes.below HE.out hb); have HT := Lib.hid h1; obtain ⟨x0, x1, x2, x3⟩ := cells4 hx; clear hb hx h1)) | (go_at_call 11; ((with_reducible refine (same_self s _ _ _ HH.out (HSV.out.below HB.out)).mono ?_); rintro e w9 ⟨rfl, rfl⟩)) | (go_at_call 11; ((with_reducible refine (same_self d _ _ _ HI.out (HDV.out.below HB.out)).mono ?_); rintro e w9 ⟨rfl, rfl⟩)) | (go_at_call 11; ((with_reducible refine (same_self q _ _ _ HE.out (HQV.out.below HB.out)).mono ?_); rintro e w9 ⟨rfl, rfl⟩)) | (go_at_call 11; ((with_reducible refine (same_self L _ _ _ HT.out HBB.out).mono ?_); rintro e w9 ⟨rfl, rfl⟩)) | fail)
        go_ret
        exact ⟨rfl, HB.out⟩
end Go.Proofs.Ytkhomjbggfjleaa
