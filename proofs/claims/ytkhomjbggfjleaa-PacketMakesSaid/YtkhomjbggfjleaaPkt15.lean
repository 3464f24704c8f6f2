/- Packets: the law PacketMakes, whole. -/
import Derived.Test.YtkhomjbggfjleaaPkt14
namespace Go.Proofs.Ytkhomjbggfjleaa
set_option linter.unusedVariables false
set_option linter.unusedSimpArgs false
set_option maxRecDepth 100000
open Go.RowKit
theorem makes_big (sn dn qn : Nat) (n : Int) (sa da qa : Option Addr) (sc dc qc : Nat) (w : World) (h : 40 < sn ∨ 40 < dn ∨ 3000 < qn ∨ 5000 < n) : Calls Try.prog 4 #[.slice sa sn sc, .slice da dn dc, .slice qa qn qc, .int .i64 n] w fun e w' => e = .returned (.bool true) ∧ Below w.heap.size w w' := by
  by_cases h1 : 40 < sn
  · have h1i : (40 : Int) < sn := by omega
    clear h
    go_enter Try.func4, Try.ntmps4
    go_wp2_with (first | (go_at_call 5; ((with_reducible refine (awake5 _).mono ?_); rintro e w0 ⟨rfl, hb⟩; have HB := Lib.hid hb; clear hb)) | fail)
    go_ret
    exact ⟨rfl, HB.out⟩
  have h1i : (sn : Int) ≤ 40 := by omega
  by_cases h2 : 40 < dn
  · have h2i : (40 : Int) < dn := by omega
    clear h
    go_enter Try.func4, Try.ntmps4
    go_wp2_with (first | (go_at_call 5; ((with_reducible refine (awake5 _).mono ?_); rintro e w0 ⟨rfl, hb⟩; have HB := Lib.hid hb; clear hb)) | fail)
    go_ret
    exact ⟨rfl, HB.out⟩
  have h2i : (dn : Int) ≤ 40 := by omega
  by_cases h3 : 3000 < qn
  · have h3i : (3000 : Int) < qn := by omega
    clear h
    go_enter Try.func4, Try.ntmps4
    go_wp2_with (first | (go_at_call 5; ((with_reducible refine (awake5 _).mono ?_); rintro e w0 ⟨rfl, hb⟩; have HB := Lib.hid hb; clear hb)) | fail)
    go_ret
    exact ⟨rfl, HB.out⟩
  have h3i : (qn : Int) ≤ 3000 := by omega
  have h4 : 5000 < n := by omega
  clear h
  go_enter Try.func4, Try.ntmps4
  go_wp2_with (first | (go_at_call 5; ((with_reducible refine (awake5 _).mono ?_); rintro e w0 ⟨rfl, hb⟩; have HB := Lib.hid hb; clear hb)) | fail)
  go_ret
  exact ⟨rfl, HB.out⟩
theorem makes_err (s d q : List UInt8) (code : Nat) (hc0 : code ≠ 0) (n : Int) (sa da qa : Option Addr) (sc dc qc : Nat) (w : World) (hs : s.length ≤ 40) (hd : d.length ≤ 40) (hq : q.length ≤ 3000) (hn : n ≤ 5000)
    (hsv : Bytes w (.slice sa s.length sc) s) (hdv : Bytes w (.slice da d.length dc) d) (hqv : Bytes w (.slice qa q.length qc) q) (hns : NilOk (.slice sa s.length sc)) (hnd : NilOk (.slice da d.length dc)) (hnq : NilOk (.slice qa q.length qc))
    (hm : makeP s d q = ([], code)) :
    Calls Try.prog 4 #[.slice sa s.length sc, .slice da d.length dc, .slice qa q.length qc, .int .i64 n] w fun e w' => e = .returned (.bool true) ∧ Below w.heap.size w w' := by
  refine makes_no s.length d.length q.length code hc0 n sa da qa sc dc qc w hs hd hq hn ?_ ?_ ?_
  · intro W hb
    have h := make_any s d q sa da qa sc dc qc W (by omega) (by omega) (by omega) (hsv.below hb) (hdv.below hb) (hqv.below hb)
    rw [hm] at h
    refine h.mono ?_
    rintro e w' ⟨ba, bc, rfl, _, _, _, _, hb2⟩
    exact ⟨ba, bc, rfl, hb2⟩
  · intro W hb
    have h := rmake_any s d q sa da qa sc dc qc W (by omega) (by omega) (by omega) (hsv.below hb) (hdv.below hb) (hqv.below hb) hns hnd hnq
    rw [hm] at h
    refine h.mono ?_
    rintro e w' ⟨v, rfl, ⟨wa, wc, rfl, _⟩, hb2⟩
    exact ⟨wa, wc, rfl, hb2⟩
  · intro W a c
    have h := pad_any [] a c n W (bytes_e W a c) (by simp) hn
    have e : padN ([] : List UInt8).length n = 0 := by
      unfold padN
      split
      · rfl
      · rw [if_pos (by simp)]
    rw [e] at h
    refine h.mono ?_
    rintro e w' ⟨g, rfl, _, hb2⟩
    exact ⟨g, rfl, hb2⟩
theorem makes_good (v6 : Bool) (ver least : Nat) (s d q : List UInt8) (n : Int) (sa da qa : Option Addr) (sc dc qc : Nat) (w : World) (hs : s.length ≤ 40) (hd : d.length ≤ 40) (hq : q.length ≤ 1980) (hn : n ≤ 5000)
    (hsv : Bytes w (.slice sa s.length sc) s) (hdv : Bytes w (.slice da d.length dc) d) (hqv : Bytes w (.slice qa q.length qc) q) (hns : NilOk (.slice sa s.length sc)) (hnd : NilOk (.slice da d.length dc)) (hnq : NilOk (.slice qa q.length qc))
    (hm : makeP s d q = (madeL v6 s d q, 0)) (hlen : (madeL v6 s d q).length = least + q.length) (hle : least + q.length ≤ 2000)
    (hlook : ∀ Z, lookP (madeL v6 s d q ++ Z) = (ver, least, least + q.length, 0))
    (hq' : ∀ Z, sub (madeL v6 s d q ++ Z) least (least + q.length) = q)
    (hrd : ∀ Z : List UInt8, Z.length ≤ 5000 → ∀ W g, Bytes W (.slice (some ⟨g, 0, none⟩) (madeL v6 s d q ++ Z).length (madeL v6 s d q ++ Z).length) (madeL v6 s d q ++ Z) → Calls Try.prog 6 #[.slice (some ⟨g, 0, none⟩) (madeL v6 s d q ++ Z).length (madeL v6 s d q ++ Z).length] W (HeadRet W ver (least + q.length) 0 s d)) :
    Calls Try.prog 4 #[.slice sa s.length sc, .slice da d.length dc, .slice qa q.length qc, .int .i64 n] w fun e w' => e = .returned (.bool true) ∧ Below w.heap.size w w' := by
  obtain ⟨hp1, hp2⟩ := padN_spec (madeL v6 s d q).length n
  have hk := padN_le (madeL v6 s d q).length n hn
  have hpad := fun a c W h => pad_any (madeL v6 s d q) a c n W h (by omega) hn
  unfold PadRet at hpad
  rw [hlen] at hp1 hp2 hk hpad
  generalize padN (least + q.length) n = k at *
  have hPl : (madeL v6 s d q ++ List.replicate k 0).length = least + q.length + k := by rw [List.length_append, hlen]; simp
  have hz := made_z_at (madeL v6 s d q) k
  have hlook' := hlook (List.replicate k 0)
  have hq'' := hq' (List.replicate k 0)
  have hrd' := hrd (List.replicate k 0) (by simp; omega)
  have hpre : sub (madeL v6 s d q ++ List.replicate k 0) 0 (least + q.length) = madeL v6 s d q := by
    have := sub_mid [] (madeL v6 s d q) (List.replicate k 0) 0 (least + q.length) rfl (by rw [hlen]; omega)
    rwa [List.nil_append] at this
  have hmk := fun W h1 h2 h3 => make_any s d q sa da qa sc dc qc W (by omega) (by omega) (by omega) h1 h2 h3
  have hrm := fun W h1 h2 h3 => rmake_any s d q sa da qa sc dc qc W (by omega) (by omega) (by omega) h1 h2 h3 hns hnd hnq
  rw [hm] at hmk hrm
  unfold MakeRet at hmk
  unfold RMakeRet at hrm
  dsimp only at hmk hrm
  rw [hlen] at hmk hz
  generalize madeL v6 s d q = L at *
  generalize hP : L ++ List.replicate k 0 = P at *
  have h3 : P.length ≤ 7000 := by omega
  refine makes_yes s d q L P ver (least + q.length) k P.length n sa da qa sc dc qc w hPl (by omega) (by omega) hs hd (by omega) hn hp1 ?_ hlen hsv hdv hqv ?_ ?_ ?_ ?_ ?_ ?_ ?_ ?_
  · intro h; rw [hPl]; exact hp2 h
  · intro W hb
    refine (hmk W (hsv.below hb) (hdv.below hb) (hqv.below hb)).mono ?_
    rintro e w' ⟨ba, bc, rfl, h1, _, _, _, h2⟩
    exact ⟨ba, bc, rfl, h1, h2⟩
  · intro W hb
    refine (hrm W (hsv.below hb) (hdv.below hb) (hqv.below hb)).mono ?_
    rintro e w' ⟨v, rfl, h1, h2⟩
    exact ⟨v, rfl, h1, h2⟩
  · intro W a c h
    refine (hpad a c W h).mono ?_
    rintro e w' ⟨g, rfl, h1, h2⟩
    rw [hPl]
    exact ⟨g, rfl, h1, h2⟩
  · intro W g h; exact hrd' W g h
  · intro W g h
    have := data_some P g 0 P.length W h (by omega) (Nat.le_refl _) (by unfold maxLen; omega)
    rw [hlook'] at this
    dsimp only at this
    rw [hq''] at this; exact this
  · intro W g h
    have := trim_some P g 0 P.length W h (by omega) (Nat.le_refl _) (by unfold maxLen; omega)
    rw [hlook'] at this
    dsimp only at this
    rw [hpre] at this; exact this
  · intro W g h
    have := bytes_sub (c2 := P.length) (i := 0) (j := least + q.length) (n := least + q.length) h (Nat.zero_le _) (by omega) (by omega)
    rw [hpre] at this; exact this
  · intro W g h m hm1 hm2
    obtain ⟨b', o', c', he, hc⟩ := look_cells h (by omega)
    cases he
    have := hc m hm2
    rw [hz m hm1, Nat.zero_add] at this
    exact this
theorem packetmakes_walk (s d q : List UInt8) (n : Int) (sa da qa : Option Addr) (sc dc qc : Nat) (w : World)
    (hsv : Bytes w (.slice sa s.length sc) s) (hdv : Bytes w (.slice da d.length dc) d) (hqv : Bytes w (.slice qa q.length qc) q) (hns : NilOk (.slice sa s.length sc)) (hnd : NilOk (.slice da d.length dc)) (hnq : NilOk (.slice qa q.length qc)) :
    Calls Try.prog 4 #[.slice sa s.length sc, .slice da d.length dc, .slice qa q.length qc, .int .i64 n] w fun e w' => e = .returned (.bool true) ∧ Below w.heap.size w w' := by
  by_cases hbig : 40 < s.length ∨ 40 < d.length ∨ 3000 < q.length ∨ 5000 < n
  · exact makes_big _ _ _ n sa da qa sc dc qc w hbig
  by_cases h4 : s.length = 4 ∧ d.length = 4
  · by_cases hl : q.length ≤ 1980
    · have hm : makeP s d q = (madeL false s d q, 0) := by unfold makeP madeL; rw [if_pos h4, if_pos hl]
      have hH : (headOf false q.length).length = 12 := rfl
      have hlen : (madeL false s d q).length = 20 + q.length := by unfold madeL; simp only [List.length_append, hH, h4.1, h4.2]; omega
      refine makes_good false 4 20 s d q n sa da qa sc dc qc w (by omega) (by omega) hl (by omega) hsv hdv hqv hns hnd hnq hm hlen (by omega) (fun Z => made4_look s d q Z h4.1 h4.2 hl) ?_ ?_
      · intro Z
        have := sub_mid (headOf false q.length ++ (s ++ d)) q Z 20 (20 + q.length) (by simp only [List.length_append, hH, h4.1, h4.2]) rfl
        refine Eq.trans (congrArg (fun x => sub x _ _) ?_) this
        unfold madeL; simp only [List.append_assoc]
      · intro Z hZ W g hv
        have hlook := made4_look s d q Z h4.1 h4.2 hl
        have e1 : sub (madeL false s d q ++ Z) 12 16 = s := by
          have := sub_mid (headOf false q.length) s (d ++ (q ++ Z)) 12 16 hH (by omega)
          refine Eq.trans (congrArg (fun x => sub x _ _) ?_) this
          unfold madeL; simp only [List.append_assoc]
        have e2 : sub (madeL false s d q ++ Z) 16 20 = d := by
          have := sub_mid (headOf false q.length ++ s) d (q ++ Z) 16 20 (by simp only [List.length_append, hH, h4.1]) (by omega)
          refine Eq.trans (congrArg (fun x => sub x _ _) ?_) this
          unfold madeL; simp only [List.append_assoc]
        have hPl : (madeL false s d q ++ Z).length = 20 + q.length + Z.length := by rw [List.length_append, hlen]
        have h := head_4 (madeL false s d q ++ Z) g 0 (madeL false s d q ++ Z).length W hv (by omega) (Nat.le_refl _) (by unfold maxLen; omega) 20 (20 + q.length) hlook (by omega)
        rw [e1, e2] at h; exact h
    · have hm : makeP s d q = ([], 5) := by unfold makeP; rw [if_pos h4, if_neg hl]
      exact makes_err s d q 5 (by decide) n sa da qa sc dc qc w (by omega) (by omega) (by omega) (by omega) hsv hdv hqv hns hnd hnq hm
  · by_cases h6 : s.length = 16 ∧ d.length = 16
    · by_cases hl : q.length ≤ 1960
      · have hm : makeP s d q = (madeL true s d q, 0) := by unfold makeP madeL; rw [if_neg h4, if_pos h6, if_pos hl]
        have hH : (headOf true q.length).length = 8 := rfl
        have hlen : (madeL true s d q).length = 40 + q.length := by unfold madeL; simp only [List.length_append, hH, h6.1, h6.2]; omega
        refine makes_good true 6 40 s d q n sa da qa sc dc qc w (by omega) (by omega) (by omega) (by omega) hsv hdv hqv hns hnd hnq hm hlen (by omega) (fun Z => made6_look s d q Z h6.1 h6.2 hl) ?_ ?_
        · intro Z
          have := sub_mid (headOf true q.length ++ (s ++ d)) q Z 40 (40 + q.length) (by simp only [List.length_append, hH, h6.1, h6.2]) rfl
          refine Eq.trans (congrArg (fun x => sub x _ _) ?_) this
          unfold madeL; simp only [List.append_assoc]
        · intro Z hZ W g hv
          have hlook := made6_look s d q Z h6.1 h6.2 hl
          have e1 : sub (madeL true s d q ++ Z) 8 24 = s := by
            have := sub_mid (headOf true q.length) s (d ++ (q ++ Z)) 8 24 hH (by omega)
            refine Eq.trans (congrArg (fun x => sub x _ _) ?_) this
            unfold madeL; simp only [List.append_assoc]
          have e2 : sub (madeL true s d q ++ Z) 24 40 = d := by
            have := sub_mid (headOf true q.length ++ s) d (q ++ Z) 24 40 (by simp only [List.length_append, hH, h6.1]) (by omega)
            refine Eq.trans (congrArg (fun x => sub x _ _) ?_) this
            unfold madeL; simp only [List.append_assoc]
          have hPl : (madeL true s d q ++ Z).length = 40 + q.length + Z.length := by rw [List.length_append, hlen]
          have h := head_6 (madeL true s d q ++ Z) g 0 (madeL true s d q ++ Z).length W hv (by omega) (Nat.le_refl _) (by unfold maxLen; omega) 40 (40 + q.length) hlook (by omega)
          rw [e1, e2] at h; exact h
      · have hm : makeP s d q = ([], 5) := by unfold makeP; rw [if_neg h4, if_pos h6, if_neg hl]
        exact makes_err s d q 5 (by decide) n sa da qa sc dc qc w (by omega) (by omega) (by omega) (by omega) hsv hdv hqv hns hnd hnq hm
    · have hm : makeP s d q = ([], 3) := by unfold makeP; rw [if_neg h4, if_neg h6]
      exact makes_err s d q 3 (by decide) n sa da qa sc dc qc w (by omega) (by omega) (by omega) (by omega) hsv hdv hqv hns hnd hnq hm
theorem nilok_of {a : Option Addr} {n c : Nat} (h : a = none → c = 0) : NilOk (.slice a n c) := fun n' c' e => by cases e; exact h rfl
theorem packetmakes_row {w : World} {a0 a1 a2 : Option Addr} {n0 n1 n2 c0 c1 c2 : Nat} {z0 z1 z2 : List Int} {n : Int} (w0 : ((a0 = none ∧ n0 = 0 ∧ c0 = 0 ∧ z0 = []) ∨ ∃ x, a0 = some x ∧ n0 ≤ c0 ∧ c0 ≤ maxLen ∧ z0.length = c0 ∧ (∀ i, i < z0.length → w.cell? (x.add i) = some (.int .u8 (z0.getD i 0))) ∧ ∀ n ∈ z0, (Lit.int .u8 n).wf = true)) (w1 : ((a1 = none ∧ n1 = 0 ∧ c1 = 0 ∧ z1 = []) ∨ ∃ x, a1 = some x ∧ n1 ≤ c1 ∧ c1 ≤ maxLen ∧ z1.length = c1 ∧ (∀ i, i < z1.length → w.cell? (x.add i) = some (.int .u8 (z1.getD i 0))) ∧ ∀ n ∈ z1, (Lit.int .u8 n).wf = true)) (w2 : ((a2 = none ∧ n2 = 0 ∧ c2 = 0 ∧ z2 = []) ∨ ∃ x, a2 = some x ∧ n2 ≤ c2 ∧ c2 ≤ maxLen ∧ z2.length = c2 ∧ (∀ i, i < z2.length → w.cell? (x.add i) = some (.int .u8 (z2.getD i 0))) ∧ ∀ n ∈ z2, (Lit.int .u8 n).wf = true)) :
    Calls Try.prog 4 #[.slice a0 n0 c0, .slice a1 n1 c1, .slice a2 n2 c2, .int .i64 n] w fun e w' => e = .returned (.bool true) ∧ Below w.heap.size w w' := by
  obtain ⟨l0, rfl, hb0, _, _, hn0⟩ := bytes_row w0
  obtain ⟨l1, rfl, hb1, _, _, hn1⟩ := bytes_row w1
  obtain ⟨l2, rfl, hb2, _, _, hn2⟩ := bytes_row w2
  exact packetmakes_walk l0 l1 l2 n a0 a1 a2 c0 c1 c2 w hb0 hb1 hb2 (nilok_of hn0) (nilok_of hn1) (nilok_of hn2)
end Go.Proofs.Ytkhomjbggfjleaa
