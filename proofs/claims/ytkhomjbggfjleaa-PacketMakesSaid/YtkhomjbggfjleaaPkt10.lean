/- Packets: the law PacketReads, walked. -/
import Derived.Test.YtkhomjbggfjleaaPkt9
namespace Go.Proofs.Ytkhomjbggfjleaa
set_option linter.unusedVariables false
set_option linter.unusedSimpArgs false
set_option maxRecDepth 100000
open Go.RowKit
theorem hsame_nil (sa da : Option Addr) (sc dc : Nat) (w : World) :
    Calls Try.prog 10 #[.agg #[.int .i64 0, .slice sa 0 sc, .slice da 0 dc, .int .i64 0], .agg #[.int .i64 0, .slice none 0 0, .slice none 0 0, .int .i64 0]] w fun e w' => e = .returned (.bool true) ∧ Below w.heap.size w w' :=
  hsame_any 0 0 [] [] sa none da none sc 0 dc 0 w ⟨_, _, rfl, .inl rfl⟩ (bytes_nil _) ⟨_, _, rfl, .inl rfl⟩ (bytes_nil _)
theorem reads_no (l : List UInt8) (a : Option Addr) (n cp code : Nat) (w : World) (hn : n ≤ 3000) (hc0 : code ≠ 0) (hv : Bytes w (.slice a n cp) l)
    (hrd : ∀ w, Bytes w (.slice a n cp) l → Calls Try.prog 6 #[.slice a n cp] w fun e w' => ∃ sa sc da dc, e = .returned (.tuple #[.agg #[.int .i64 0, .slice sa 0 sc, .slice da 0 dc, .int .i64 0], .int .i64 code]) ∧ Below w.heap.size w w')
    (htr : ∀ w, Bytes w (.slice a n cp) l → Calls Try.prog 7 #[.slice a n cp] w fun e w' => ∃ ad c, e = .returned (.tuple #[.slice ad 0 c, .int .i64 code]) ∧ Below w.heap.size w w')
    (hdt : ∀ w, Bytes w (.slice a n cp) l → Calls Try.prog 8 #[.slice a n cp] w fun e w' => ∃ ad c, e = .returned (.tuple #[.slice ad 0 c, .int .i64 code]) ∧ Below w.heap.size w w')
    (hrf : ∀ w, Bytes w (.slice a n cp) l → Calls Try.prog 9 #[.slice a n cp] w fun e w' => ∃ sa sc da dc, e = .returned (.tuple #[.agg #[.int .i64 0, .slice sa 0 sc, .slice da 0 dc, .int .i64 0], .int .i64 0, .int .i64 code]) ∧ Below w.heap.size w w') :
    Calls Try.prog 3 #[.slice a n cp] w fun e w' => e = .returned (.bool true) ∧ Below w.heap.size w w' := by
  have HV := Lib.hid hv
  have HRD := Lib.hid hrd
  have HTR := Lib.hid htr
  have HDT := Lib.hid hdt
  have HRF := Lib.hid hrf
  have hni : (n : Int) ≤ 3000 := by omega
  have hci : ((code : Int) != 0) = true := bnet (by omega)
  clear hv hrd htr hdt hrf hn hc0
  go_enter Try.func3, Try.ntmps3
  go_wp2_with (first | (go_at_call 5; ((with_reducible refine (awake5 _).mono ?_); rintro e w0 ⟨rfl, hb⟩; have HB := Lib.hid hb; clear hb)) | (go_at_call 6; ((with_reducible refine (HRD.out _ (HV.out.below HB.out)).mono ?_); rintro e w1 ⟨sa, sc, da, dc, rfl, hb⟩; have hx := heap_alloc_new w1 (.cells #[.int .i64 0, .slice sa 0 sc, .slice da 0 dc, .int .i64 0] 25); have HX := Lib.hid hx; have HB := Lib.hid (Below.next (Below.next HB.out hb) (below_one (.cells #[.int .i64 0, .slice sa 0 sc, .slice da 0 dc, .int .i64 0] 25))); clear hb hx)) | (go_at_call 7; ((with_reducible refine (HTR.out _ (HV.out.below HB.out)).mono ?_); rintro e w2 ⟨ta, tc, rfl, hb⟩; have hx := (hb.block w1.heap.size (by simp)).trans HX.out; have HX := Lib.hid hx; have HB := Lib.hid (Below.next HB.out hb); clear hb hx)) | (go_at_call 8; ((with_reducible refine (HDT.out _ (HV.out.below HB.out)).mono ?_); rintro e w3 ⟨ea, ec, rfl, hb⟩; have hx := (hb.block w1.heap.size (Array.getElem?_eq_some_iff.1 HX.out).1).trans HX.out; have HX := Lib.hid hx; have HB := Lib.hid (Below.next HB.out hb); clear hb hx)) | (go_at_call 9; ((with_reducible refine (HRF.out _ (HV.out.below HB.out)).mono ?_); rintro e w4 ⟨sb, se, db, de, rfl, hb⟩; have hx := (hb.block w1.heap.size (Array.getElem?_eq_some_iff.1 HX.out).1).trans HX.out; have hx := ((below_one (w := w4) (.cells #[.int .i64 0, .slice sb 0 se, .slice db 0 de, .int .i64 0] 25)).block w1.heap.size (Array.getElem?_eq_some_iff.1 hx).1).trans hx; obtain ⟨x0, x1, x2, x3⟩ := cells4 hx; have HB := Lib.hid (Below.next (Below.next HB.out hb) (below_one (.cells #[.int .i64 0, .slice sb 0 se, .slice db 0 de, .int .i64 0] 25))); clear hb hx)) | (go_at_call 10; ((with_reducible refine (hsame_nil _ _ _ _ _).mono ?_); rintro e w5 ⟨rfl, hb⟩; have HB := Lib.hid (Below.next HB.out hb); clear hb)) | fail)
  go_ret
  exact ⟨rfl, HB.out⟩
set_option maxHeartbeats 2000000 in
theorem reads_yes (l S D : List UInt8) (b off cp : Nat) (ver bg en : Nat) (w : World) (hn : l.length ≤ 3000) (hbe : bg ≤ en) (hel : en ≤ l.length) (hcp : l.length ≤ cp) (hcm : cp ≤ maxLen) (hv : Bytes w (.slice (some ⟨b, off, none⟩) l.length cp) l)
    (hrd : ∀ w, Bytes w (.slice (some ⟨b, off, none⟩) l.length cp) l → Calls Try.prog 6 #[.slice (some ⟨b, off, none⟩) l.length cp] w (HeadRet w ver en 0 S D))
    (htr : ∀ w, Bytes w (.slice (some ⟨b, off, none⟩) l.length cp) l → Calls Try.prog 7 #[.slice (some ⟨b, off, none⟩) l.length cp] w (TrimRet w (sub l 0 en) 0))
    (hdt : ∀ w, Bytes w (.slice (some ⟨b, off, none⟩) l.length cp) l → Calls Try.prog 8 #[.slice (some ⟨b, off, none⟩) l.length cp] w (TrimRet w (sub l bg en) 0))
    (hrf : ∀ w, Bytes w (.slice (some ⟨b, off, none⟩) l.length cp) l → Calls Try.prog 9 #[.slice (some ⟨b, off, none⟩) l.length cp] w (RefRet w ver en bg 0 S D)) :
    Calls Try.prog 3 #[.slice (some ⟨b, off, none⟩) l.length cp] w fun e w' => e = .returned (.bool true) ∧ Below w.heap.size w w' := by
  have HV := Lib.hid hv
  have HRD := Lib.hid hrd
  have HTR := Lib.hid htr
  have HDT := Lib.hid hdt
  have HRF := Lib.hid hrf
  have HSM1 : Hid (∀ W x, Bytes W x (sub l 0 en) → Below w.heap.size w W → Calls Try.prog 11 #[x, .slice (some ⟨b, off, none⟩) en cp] W fun e w' => e = .returned (.bool true) ∧ W = w') := Lib.hid (fun W x h1 hb => by
    have h2 : Bytes W (.slice (some ⟨b, off + 0, none⟩) en cp) (sub l 0 en) := bytes_sub (hv.below hb) (Nat.zero_le _) hel (by omega)
    have := same_any x _ _ _ W h1 h2
    simpa using this)
  have HSM2 : Hid (∀ W x c, Bytes W x (sub l bg en) → Below w.heap.size w W → Calls Try.prog 11 #[x, .slice (if cp = bg then some ⟨b, off, none⟩ else some ⟨b, off + bg, none⟩) (en - bg) c] W fun e w' => e = .returned (.bool true) ∧ W = w') := Lib.hid (fun W x c h1 hb => by
    have h2 : Bytes W (.slice (if cp = bg then some ⟨b, off, none⟩ else some ⟨b, off + bg, none⟩) (en - bg) c) (sub l bg en) := by
      by_cases hz : cp = bg
      · have e0 : en - bg = 0 := by omega
        have el : sub l bg en = [] := List.length_eq_zero_iff.1 (by rw [sub_len hel]; exact e0)
        rw [el, e0]; exact ⟨_, _, rfl, .inl rfl⟩
      · rw [if_neg hz]; exact bytes_sub (hv.below hb) hbe hel rfl
    have := same_any x _ _ _ W h1 h2
    simpa using this)
  have hni : (l.length : Int) ≤ 3000 := by omega
  have hei : (en : Int) ≤ cp := by omega
  have hbi : (bg : Int) ≤ en := by omega
  have hb0 : (0 : Int) ≤ bg := by omega
  have he0 : (0 : Int) ≤ en := by omega
  have hcmi : (cp : Int) ≤ 9223372036854775807 := by unfold maxLen at hcm; omega
  clear hv hrd htr hdt hrf hn hbe hel hcp hcm
  generalize sub l 0 en = X at *
  generalize sub l bg en = Y at *
  go_enter Try.func3, Try.ntmps3
  go_wp2_with (first | (go_at_call 5; ((with_reducible refine (awake5 _).mono ?_); rintro e w0 ⟨rfl, hb⟩; have HB := Lib.hid hb; clear hb)) | (go_at_call 6; ((with_reducible refine (HRD.out _ (HV.out.below HB.out)).mono ?_); rintro e w1 ⟨sa, sc, da, dc, rfl, h1, h2, hb⟩; have hx := heap_alloc_new w1 (.cells #[.int .i64 ver, .slice sa S.length sc, .slice da D.length dc, .int .i64 en] 25); have HX := Lib.hid hx; have HSA := Lib.hid (h1.below (below_one (.cells #[.int .i64 ver, .slice sa S.length sc, .slice da D.length dc, .int .i64 en] 25))); have HDA := Lib.hid (h2.below (below_one (.cells #[.int .i64 ver, .slice sa S.length sc, .slice da D.length dc, .int .i64 en] 25))); have HB := Lib.hid (Below.next (Below.next HB.out hb) (below_one (.cells #[.int .i64 ver, .slice sa S.length sc, .slice da D.length dc, .int .i64 en] 25))); clear hb hx h1 h2)) | (go_at_call 7; ((with_reducible refine (HTR.out _ (HV.out.below HB.out)).mono ?_); rintro e w2 ⟨ta, tc, rfl, h1, hb⟩; have hx := (hb.block w1.heap.size (Array.getElem?_eq_some_iff.1 HX.out).1).trans HX.out; have HX := Lib.hid hx; have HSA := Lib.hid (Bytes.below HSA.out hb); have HDA := Lib.hid (Bytes.below HDA.out hb); have HB := Lib.hid (Below.next HB.out hb); have HT := Lib.hid h1; clear hb hx h1)) | (go_at_call 8; ((with_reducible refine (HDT.out _ (HV.out.below HB.out)).mono ?_); rintro e w3 ⟨ea, ec, rfl, h1, hb⟩; have hx := (hb.block w1.heap.size (Array.getElem?_eq_some_iff.1 HX.out).1).trans HX.out; have HX := Lib.hid hx; have HSA := Lib.hid (Bytes.below HSA.out hb); have HDA := Lib.hid (Bytes.below HDA.out hb); have HB := Lib.hid (Below.next HB.out hb); have HT := Lib.hid (Bytes.below HT.out hb); have HE := Lib.hid h1; clear hb hx h1)) | (go_at_call 9; ((with_reducible refine (HRF.out _ (HV.out.below HB.out)).mono ?_); rintro e w4 ⟨sb, se, db, de, rfl, h1, h2, hb⟩; have hx := (hb.block w1.heap.size (Array.getElem?_eq_some_iff.1 HX.out).1).trans HX.out; have HX := Lib.hid hx; have HSA := Lib.hid (Bytes.below HSA.out hb); have HDA := Lib.hid (Bytes.below HDA.out hb); have HB := Lib.hid (Below.next HB.out hb); have HT := Lib.hid (Bytes.below HT.out hb); have HE := Lib.hid (Bytes.below HE.out hb); clear hb hx; have hb := below_one (w := w4) (.cells #[.int .i64 ver, .slice sb S.length se, .slice db D.length de, .int .i64 en] 25); have hx := (hb.block w1.heap.size (Array.getElem?_eq_some_iff.1 HX.out).1).trans HX.out; have HX := Lib.hid hx; have HSA := Lib.hid (Bytes.below HSA.out hb); have HDA := Lib.hid (Bytes.below HDA.out hb); have HB := Lib.hid (Below.next HB.out hb); have HT := Lib.hid (Bytes.below HT.out hb); have HE := Lib.hid (Bytes.below HE.out hb); have HSB := Lib.hid (h1.below hb); have HDB := Lib.hid (h2.below hb); obtain ⟨x0, x1, x2, x3⟩ := cells4 hx; have hy := heap_alloc_new w4 (.cells #[.int .i64 ver, .slice sb S.length se, .slice db D.length de, .int .i64 en] 25); obtain ⟨y0, y1, y2, y3⟩ := cells4 hy; have HY := Lib.hid hy; clear hb hx hy h1 h2)) | (go_at_call 10; ((with_reducible refine (hsame_any ver en S D _ _ _ _ _ _ _ _ _ HSA.out HSB.out HDA.out HDB.out).mono ?_); rintro e w5 ⟨rfl, hb⟩; have hy := (hb.block w4.heap.size (Array.getElem?_eq_some_iff.1 HY.out).1).trans HY.out; obtain ⟨y0, y1, y2, y3⟩ := cells4 hy; have HT := Lib.hid (Bytes.below HT.out hb); have HE := Lib.hid (Bytes.below HE.out hb); have HB := Lib.hid (Below.next HB.out hb); clear hb hy)) | (go_at_call 11; ((with_reducible refine (HSM1.out _ _ HT.out (HB.out)).mono ?_); rintro e w6 ⟨rfl, rfl⟩)) | (go_at_call 11; ((with_reducible refine (HSM2.out _ _ _ HE.out (HB.out)).mono ?_); rintro e w6 ⟨rfl, rfl⟩)) | fail)
  all_goals go_ret
  all_goals exact ⟨rfl, HB.out⟩
end Go.Proofs.Ytkhomjbggfjleaa
