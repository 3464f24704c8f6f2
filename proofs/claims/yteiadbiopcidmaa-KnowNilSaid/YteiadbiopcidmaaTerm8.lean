import Derived.Test.YteiadbiopcidmaaTerm7
namespace Go.Proofs.Yteiadbiopcidmaa
set_option linter.unusedVariables false
set_option linter.unusedSimpArgs false
set_option maxRecDepth 100000
open Go.RowKit

def PassPost (w : World) (b : Nat) (s : ByteArray) (m d : Nat) (pv : Value) (o : Option (List UInt8)) (e : Ending) (w' : World) : Prop :=
  match o with
  | some r => e = .returned (.tuple #[]) ∧ Rd w' b s (posOf s r) m d pv ∧ w.grownBy w' (some b)
  | none => TBad w b e w'
def NumPost (w : World) (b : Nat) (s : ByteArray) (m d : Nat) (pv : Value) (o : Option (Nat × List UInt8)) (e : Ending) (w' : World) : Prop :=
  match o with
  | some x => e = .returned (.int .u64 x.1) ∧ Rd w' b s (posOf s x.2) m d pv ∧ w.grownBy w' (some b)
  | none => TBad w b e w'
def InPost (w : World) (b : Nat) (s : ByteArray) (m d : Nat) (pv : Value) (o : Option (Nat × List (List UInt8) × List UInt8)) (e : Ending) (w' : World) : Prop :=
  match o with
  | some x => e = .returned (.int .u64 x.1) ∧ ∃ pv', Rd w' b s (posOf s x.2.2) m d pv' ∧ w.grownBy w' (some b) ∧ Parts (d == 0) w.heap.size w' pv pv' x.2.1
  | none => TBad w b e w'

theorem pass_q (ci : Int) (c : UInt8) (hci : ((c.toNat : Nat) : Int) = ci) (hc0 : c ≠ 0) (s : ByteArray) (p m d b : Nat) (pv : Value) (w : World) (hs : s.size ≤ maxLen) (hp : p ≤ s.size) (h : Rd w b s p m d pv) :
    Calls Try.prog 58 #[.pointer (some ⟨b, 0, none⟩), .int .u8 ci] w (PassPost w b s m d pv (pass c (s.data.toList.drop p))) := by
  subst hci
  have hb := head_byte s p c hc0
  by_cases hc : byteAt s p = c.toNat
  · have hlt : p < s.size := byte_in (by intro e; exact hc0 (UInt8.toNat_inj.1 (by simp; omega))) hc
    have e : pass c (s.data.toList.drop p) = some (s.data.toList.drop (p + 1)) := by
      rw [pass_some]
      have h1 := hb.2 hc
      rw [drop_at s p hlt] at h1 ⊢
      simp at h1; rw [h1]
    rw [e]
    refine (pass_ok s p m d b pv _ w hs hlt hc h).mono fun e w' hh => ?_
    exact ⟨hh.1, by rw [posOf_drop s (p + 1) (by omega)]; exact hh.2.1, hh.2.2⟩
  · have e : pass c (s.data.toList.drop p) = none := by
      cases hx : pass c (s.data.toList.drop p) with
      | none => rfl
      | some r => rw [pass_some] at hx; exact absurd (hb.1 (by rw [hx]; rfl)) hc
    rw [e]
    exact pass_bad s p m d b pv _ w hs hp hc h

theorem number_q (sh : Shape) (s : ByteArray) (p m d b : Nat) (pv : Value) (w : World) (hs : s.size ≤ maxLen) (hp : p ≤ s.size) (h : Rd w b s p m d pv) :
    Calls Try.prog 50 #[.pointer (some ⟨b, 0, none⟩), shapeV sh] w (NumPost w b s m d pv (qNum sh (s.data.toList.drop p))) := by
  unfold qNum
  cases hn : sh.numbered with
  | false =>
    simp only [Bool.false_eq_true, if_false]
    refine (number_none sh hn s p m d b pv w h).mono fun e w' hh => ?_
    exact ⟨hh.1, by rw [posOf_drop s p hp]; exact hh.2.1, hh.2.2⟩
  | true =>
    simp only [if_true]
    cases hin : numIn sh.low sh.high ((s.data.toList.drop p).takeWhile isDig) with
    | true =>
      rw [if_pos rfl]
      refine (number_ok sh hn s p m d b pv w hs hp h hin).mono fun e w' hh => ?_
      refine ⟨?_, hh.2.1, hh.2.2⟩
      rw [hh.1]
      have := rdVal_bd ((s.data.toList.drop p).takeWhile isDig)
      exact ret_int (by show _ = (((rdVal _).toNat : Nat) : Int); omega)
    | false =>
      simp only [Bool.false_eq_true, if_false]
      exact number_bad sh hn s p m d b pv w hs hp h hin

def ListC (f : Nat) : Prop := ∀ (b m d p : Nat) (s : ByteArray) (pv : Value) (sh : Shape) (w : World), s.size ≤ 65536 → d ≤ p → p ≤ s.size → s.size - p + 1 ≤ f → 1 ≤ d →
  Rd w b s p m d pv → w.heap[m]? = some (.map (esN 11) 11) → m ≠ b → (d = 1 → pv = nilV) →
  Calls Try.prog 59 #[.pointer (some ⟨b, 0, none⟩), shapeV sh] w (LPost w b s m d pv (qList (qLoop f) sh (s.data.toList.drop p)))

theorem number_v (V : Value) (sh : Shape) (hV : V = shapeV sh) (s : ByteArray) (p m d b : Nat) (pv : Value) (w : World) (hs : s.size ≤ maxLen) (hp : p ≤ s.size) (h : Rd w b s p m d pv) :
    Calls Try.prog 50 #[.pointer (some ⟨b, 0, none⟩), V] w (NumPost w b s m d pv (qNum sh (s.data.toList.drop p))) := hV ▸ number_q sh s p m d b pv w hs hp h
theorem list_v {f : Nat} (hL : ListC f) (V : Value) (sh : Shape) (hV : V = shapeV sh) (b m d p : Nat) (s : ByteArray) (pv : Value) (w : World) (h1 : s.size ≤ 65536) (h2 : d ≤ p) (h3 : p ≤ s.size) (h4 : s.size - p + 1 ≤ f) (h5 : 1 ≤ d)
    (h6 : Rd w b s p m d pv) (h7 : w.heap[m]? = some (.map (esN 11) 11)) (h8 : m ≠ b) (h9 : d = 1 → pv = nilV) :
    Calls Try.prog 59 #[.pointer (some ⟨b, 0, none⟩), V] w (LPost w b s m d pv (qList (qLoop f) sh (s.data.toList.drop p))) := hV ▸ hL b m d p s pv sh w h1 h2 h3 h4 h5 h6 h7 h8 h9

theorem pass_suf {c : UInt8} {l r : List UInt8} (h : pass c l = some r) : r <:+ l := by
  rw [pass_some] at h; subst h; exact List.suffix_cons ..
theorem pass_len {c : UInt8} {l r : List UInt8} (h : pass c l = some r) : l.length = r.length + 1 := by
  rw [pass_some] at h; subst h; simp
theorem num_suf {sh : Shape} {l : List UInt8} {y : Nat × List UInt8} (hy : qNum sh l = some y) : y.2 <:+ l := by
  unfold qNum at hy
  split at hy
  · split at hy
    · cases hy; exact List.dropWhile_suffix _
    · cases hy
  · cases hy; exact List.suffix_refl _
theorem list_suf {f : Nat} {sh : Shape} {l : List UInt8} {y : List (List UInt8) × List UInt8} (hy : qList (qLoop f) sh l = some y) : y.2 <:+ l := by
  unfold qList at hy
  split at hy
  · cases hy; exact List.suffix_refl _
  · exact qLoop_suf _ _ _ _ _ hy


theorem Rd.up {w : World} {b : Nat} {s : ByteArray} {p m d : Nat} {pv : Value} (h : Rd w b s p m d pv) : Rd (w.setCell ⟨b, 3, none⟩ (.int .i64 ((d : Int) + 1))) b s p m (d + 1) pv := h.set3 (d + 1)
theorem Rd.down {w : World} {b : Nat} {s : ByteArray} {p m d : Nat} {pv : Value} (h : Rd w b s p m (d + 1) pv) : Rd (w.setCell ⟨b, 3, none⟩ (.int .i64 (d : Int))) b s p m d pv := h.set3 d
theorem Parts.shift {d R : Nat} {w : World} {pv pv' : Value} {ps : List (List UInt8)} (h : Parts (d + 1 == 1) R w pv pv' ps) : Parts (d == 0) R w pv pv' ps := by
  rw [show (d == 0) = (d + 1 == 1) by cases d <;> rfl]; exact h

theorem inside_any (f : Nat) (hL : ListC f) (b m d p : Nat) (s : ByteArray) (pv : Value) (sh : Shape) (w : World) (hs : s.size ≤ 65536) (hdp : d + 1 ≤ p) (hp : p ≤ s.size) (hf : s.size - p ≤ f)
    (h : Rd w b s p m d pv) (hm : w.heap[m]? = some (.map (esN 11) 11)) (hmb : m ≠ b) (hpv : d = 0 → pv = nilV) :
    Calls Try.prog 48 #[.pointer (some ⟨b, 0, none⟩), shapeV sh] w (InPost w b s m d pv (qIn (qLoop f) sh (s.data.toList.drop p))) := by
  have hsm : s.size ≤ maxLen := by unfold maxLen; omega
  have hb := h.lt
  have HR0 : Hid (Rd (w.alloc (.cells #[.bool sh.numbered, .int .u64 sh.low, .int .u64 sh.high, .bool sh.hex, .int .i64 sh.least, .int .i64 sh.most, .bool sh.ordered] 77)) b s p m d pv) := Lib.hid (h.alloc _)
  have HBX0 : Hid ((w.alloc (.cells #[.bool sh.numbered, .int .u64 sh.low, .int .u64 sh.high, .bool sh.hex, .int .i64 sh.least, .int .i64 sh.most, .bool sh.ordered] 77)).heap[w.heap.size]? = some (.cells #[.bool sh.numbered, .int .u64 sh.low, .int .u64 sh.high, .bool sh.hex, .int .i64 sh.least, .int .i64 sh.most, .bool sh.ordered] 77)) := Lib.hid (MapKept.heap_alloc w _).1
  have HM0 : Hid ((w.alloc (.cells #[.bool sh.numbered, .int .u64 sh.low, .int .u64 sh.high, .bool sh.hex, .int .i64 sh.least, .int .i64 sh.most, .bool sh.ordered] 77)).heap[m]? = some (.map (esN 11) 11)) := Lib.hid (keep_alloc hm _)
  have HL := Lib.hid hL
  have HPV := Lib.hid hpv
  clear h hm hL hpv
  cases h1 : pass 40 (s.data.toList.drop p) with
  | none =>
    have H1 := Lib.hid h1
    have HO : Hid (qIn (qLoop f) sh (s.data.toList.drop p) = none) := Lib.hid (by simp [qIn, h1])
    clear h1
    go_enter Try.func48, Try.ntmps48
    go_wp2_with (first | (go_at_call 58; ((with_reducible refine (pass_q 40 40 rfl (by decide) s p m d b pv _ hsm hp HR0.out).mono ?_); intro e wa hpost; rw [H1.out] at hpost; obtain ⟨rfl, hGa⟩ := hpost)) | fail)
    refine ⟨rfl, ?_⟩
    rw [HO.out]
    exact ⟨rfl, grown_trans (World.grownBy_alloc _ _ _) hGa⟩
  | some r1 =>
    have hu1 := suf_pos hp (pass_suf h1)
    have hl1 := pass_len h1
    have hp1 := hu1.2.1
    have hP1 : posOf s r1 = p + 1 := by simp at hl1; unfold posOf; omega
    have HE1 := Lib.hid hu1.2.2
    have H1 := Lib.hid h1
    cases h2 : qNum sh r1 with
    | none =>
      have H2 := Lib.hid h2
      have HO : Hid (qIn (qLoop f) sh (s.data.toList.drop p) = none) := Lib.hid (by simp [qIn, h1, h2])
      clear h1 h2 hu1 hl1 hP1
      go_enter Try.func48, Try.ntmps48
      go_wp2_with (first | (go_at_call 58; ((with_reducible refine (pass_q 40 40 rfl (by decide) s p m d b pv _ hsm hp HR0.out).mono ?_); intro e wa hpost; rw [H1.out] at hpost; obtain ⟨rfl, hRa, hGa⟩ := hpost; have hbx := keep_far HBX0.out hGa (by simp; omega); have HMa := Lib.hid (keep_far HM0.out hGa (by simpa using hmb)); have x0 := cell_of hbx 0 rfl; have x1 := cell_of hbx 1 rfl; have x2 := cell_of hbx 2 rfl; have x3 := cell_of hbx 3 rfl; have x4 := cell_of hbx 4 rfl; have x5 := cell_of hbx 5 rfl; have x6 := cell_of hbx 6 rfl; have HRa := Lib.hid hRa; have HGa := Lib.hid hGa; have HBXa := Lib.hid hbx; clear hRa hGa hbx)) | (go_at_call 50; ((with_reducible refine (number_v _ sh (by simp [shapeV, *]) s (posOf s r1) m d b pv _ hsm hp1 HRa.out).mono ?_); intro e wb hpost; rw [← HE1.out, H2.out] at hpost; obtain ⟨rfl, hGb⟩ := hpost)) | fail)
      refine ⟨rfl, ?_⟩
      rw [HO.out]
      exact ⟨rfl, grown_trans (World.grownBy_alloc _ _ _) (grown_trans HGa.out hGb)⟩
    | some y =>
      obtain ⟨n, r2⟩ := y
      have hu2 : posOf s r1 ≤ posOf s r2 ∧ posOf s r2 ≤ s.size ∧ r2 = s.data.toList.drop (posOf s r2) := suf_pos (rest := r2) hp1 (by rw [← hu1.2.2]; exact num_suf h2)
      have hp2 := hu2.2.1
      have hp12 := hu2.1
      have HE2 := Lib.hid hu2.2.2
      have H2 := Lib.hid h2
      have hneb : ¬ w.heap.size = b := by omega
      have hneb' : ¬ b = w.heap.size := by omega
      have hcomma : (sh.numbered = true ∧ qComma sh r2 = pass 44 r2) ∨ (sh.numbered = false ∧ qComma sh r2 = some r2) := by
        unfold qComma; cases sh.numbered <;> simp
      rcases hcomma with ⟨hn, hq⟩ | ⟨hn, hq⟩
      · rw [hn] at HR0 HBX0 HM0
        cases h3 : pass 44 r2 with
        | none =>
          have H3 := Lib.hid h3
          have HO : Hid (qIn (qLoop f) sh (s.data.toList.drop p) = none) := Lib.hid (by simp [qIn, h1, h2, hq, h3])
          clear h1 h2 h3 hu1 hu2 hl1 hP1 hq
          go_enter Try.func48, Try.ntmps48
          go_wp2_with (first | (go_at_call 58; ((with_reducible refine (pass_q 40 40 rfl (by decide) s p m d b pv _ hsm hp HR0.out).mono ?_); intro e wa hpost; rw [H1.out] at hpost; obtain ⟨rfl, hRa, hGa⟩ := hpost; have hbx := keep_far HBX0.out hGa (by simp; omega); have HMa := Lib.hid (keep_far HM0.out hGa (by simpa using hmb)); have x0 := cell_of hbx 0 rfl; have x1 := cell_of hbx 1 rfl; have x2 := cell_of hbx 2 rfl; have x3 := cell_of hbx 3 rfl; have x4 := cell_of hbx 4 rfl; have x5 := cell_of hbx 5 rfl; have x6 := cell_of hbx 6 rfl; have HRa := Lib.hid hRa; have HGa := Lib.hid hGa; have HBXa := Lib.hid hbx; clear hRa hGa hbx)) | (go_at_call 50; ((with_reducible refine (number_v _ sh (by simp [shapeV, *]) s (posOf s r1) m d b pv _ hsm hp1 HRa.out).mono ?_); intro e wb hpost; rw [← HE1.out, H2.out] at hpost; obtain ⟨rfl, hRb, hGb⟩ := hpost; have hbx := keep_far HBXa.out hGb (by simp; omega); have HMb := Lib.hid (keep_far HMa.out hGb (by simpa using hmb)); have x0 := cell_of hbx 0 rfl; have x1 := cell_of hbx 1 rfl; have x2 := cell_of hbx 2 rfl; have x3 := cell_of hbx 3 rfl; have x4 := cell_of hbx 4 rfl; have x5 := cell_of hbx 5 rfl; have x6 := cell_of hbx 6 rfl; have d3 := hRb.c3; have e3 := hRb.f 3; have HRb := Lib.hid hRb; have HGb := Lib.hid hGb; have HBXb := Lib.hid hbx; clear hRb hGb hbx)) | (go_at_call 58; ((with_reducible refine (pass_q 44 44 rfl (by decide) s (posOf s r2) m d b pv _ hsm hp2 HRb.out).mono ?_); intro e wc hpost; rw [← HE2.out, H3.out] at hpost; obtain ⟨rfl, hGc⟩ := hpost)) | fail)
          refine ⟨rfl, ?_⟩
          rw [HO.out]
          exact ⟨rfl, grown_trans (World.grownBy_alloc _ _ _) (grown_trans HGa.out (grown_trans HGb.out hGc))⟩
        | some r3 =>
          have hu3 : posOf s r2 ≤ posOf s r3 ∧ posOf s r3 ≤ s.size ∧ r3 = s.data.toList.drop (posOf s r3) := suf_pos (rest := r3) hp2 (by rw [← hu2.2.2]; exact pass_suf h3)
          have hp3 := hu3.2.1
          have HE3 := Lib.hid hu3.2.2
          have H3 := Lib.hid h3
          have hp3f : s.size - posOf s r3 + 1 ≤ f := by omega
          have hdp3 : d + 1 ≤ posOf s r3 := by omega
          cases h4 : qList (qLoop f) sh r3 with
          | none =>
            have H4 := Lib.hid h4
            have HO : Hid (qIn (qLoop f) sh (s.data.toList.drop p) = none) := Lib.hid (by simp [qIn, h1, h2, hq, h3, h4])
            clear h1 h2 h3 h4 hu1 hu2 hu3 hl1 hP1 hq
            go_enter Try.func48, Try.ntmps48
            go_wp2_with (first | (go_at_call 58; ((with_reducible refine (pass_q 40 40 rfl (by decide) s p m d b pv _ hsm hp HR0.out).mono ?_); intro e wa hpost; rw [H1.out] at hpost; obtain ⟨rfl, hRa, hGa⟩ := hpost; have hbx := keep_far HBX0.out hGa (by simp; omega); have HMa := Lib.hid (keep_far HM0.out hGa (by simpa using hmb)); have x0 := cell_of hbx 0 rfl; have x1 := cell_of hbx 1 rfl; have x2 := cell_of hbx 2 rfl; have x3 := cell_of hbx 3 rfl; have x4 := cell_of hbx 4 rfl; have x5 := cell_of hbx 5 rfl; have x6 := cell_of hbx 6 rfl; have HRa := Lib.hid hRa; have HGa := Lib.hid hGa; have HBXa := Lib.hid hbx; clear hRa hGa hbx)) | (go_at_call 50; ((with_reducible refine (number_v _ sh (by simp [shapeV, *]) s (posOf s r1) m d b pv _ hsm hp1 HRa.out).mono ?_); intro e wb hpost; rw [← HE1.out, H2.out] at hpost; obtain ⟨rfl, hRb, hGb⟩ := hpost; have hbx := keep_far HBXa.out hGb (by simp; omega); have HMb := Lib.hid (keep_far HMa.out hGb (by simpa using hmb)); have x0 := cell_of hbx 0 rfl; have x1 := cell_of hbx 1 rfl; have x2 := cell_of hbx 2 rfl; have x3 := cell_of hbx 3 rfl; have x4 := cell_of hbx 4 rfl; have x5 := cell_of hbx 5 rfl; have x6 := cell_of hbx 6 rfl; have d3 := hRb.c3; have e3 := hRb.f 3; have HRb := Lib.hid hRb; have HGb := Lib.hid hGb; have HBXb := Lib.hid hbx; clear hRb hGb hbx)) | (go_at_call 58; ((with_reducible refine (pass_q 44 44 rfl (by decide) s (posOf s r2) m d b pv _ hsm hp2 HRb.out).mono ?_); intro e wc hpost; rw [← HE2.out, H3.out] at hpost; obtain ⟨rfl, hRc, hGc⟩ := hpost; have hbx := keep_far HBXb.out hGc (by simp; omega); have HMc := Lib.hid (keep_far HMb.out hGc (by simpa using hmb)); have x0 := cell_of hbx 0 rfl; have x1 := cell_of hbx 1 rfl; have x2 := cell_of hbx 2 rfl; have x3 := cell_of hbx 3 rfl; have x4 := cell_of hbx 4 rfl; have x5 := cell_of hbx 5 rfl; have x6 := cell_of hbx 6 rfl; have d3 := hRc.c3; have e3 := hRc.f 3; have HRc := Lib.hid hRc; have HGc := Lib.hid hGc; have HBXc := Lib.hid hbx; clear hRc hGc hbx)) | (go_at_call 59; ((with_reducible refine (list_v HL.out _ sh (by simp [shapeV, *]) b m (d + 1) (posOf s r3) s pv _ hs hdp3 hp3 hp3f (by omega) HRc.out.up ((heap_set_other hmb).trans HMc.out) hmb (fun hd => HPV.out (by omega))).mono ?_); intro e wd hpost; rw [← HE3.out, H4.out] at hpost; obtain ⟨rfl, hGd⟩ := hpost)) | fail)
            refine ⟨rfl, ?_⟩
            rw [HO.out]
            exact ⟨rfl, grown_trans (World.grownBy_alloc _ _ _) (grown_trans HGa.out (grown_trans HGb.out (grown_trans HGc.out (grown_trans (grown_set _ _ _ _) hGd))))⟩
          | some z =>
            obtain ⟨ps, r4⟩ := z
            have hu4 : posOf s r3 ≤ posOf s r4 ∧ posOf s r4 ≤ s.size ∧ r4 = s.data.toList.drop (posOf s r4) := suf_pos (rest := r4) hp3 (by rw [← hu3.2.2]; exact list_suf h4)
            have hp4 := hu4.2.1
            have HE4 := Lib.hid hu4.2.2
            have H4 := Lib.hid h4
            cases h5 : pass 41 r4 with
            | none =>
              have H5 := Lib.hid h5
              have HO : Hid (qIn (qLoop f) sh (s.data.toList.drop p) = none) := Lib.hid (by simp [qIn, h1, h2, hq, h3, h4, h5])
              clear h1 h2 h3 h4 h5 hu1 hu2 hu3 hu4 hl1 hP1 hq
              go_enter Try.func48, Try.ntmps48
              go_wp2_with (first | (go_at_call 58; ((with_reducible refine (pass_q 40 40 rfl (by decide) s p m d b pv _ hsm hp HR0.out).mono ?_); intro e wa hpost; rw [H1.out] at hpost; obtain ⟨rfl, hRa, hGa⟩ := hpost; have hbx := keep_far HBX0.out hGa (by simp; omega); have HMa := Lib.hid (keep_far HM0.out hGa (by simpa using hmb)); have x0 := cell_of hbx 0 rfl; have x1 := cell_of hbx 1 rfl; have x2 := cell_of hbx 2 rfl; have x3 := cell_of hbx 3 rfl; have x4 := cell_of hbx 4 rfl; have x5 := cell_of hbx 5 rfl; have x6 := cell_of hbx 6 rfl; have HRa := Lib.hid hRa; have HGa := Lib.hid hGa; have HBXa := Lib.hid hbx; clear hRa hGa hbx)) | (go_at_call 50; ((with_reducible refine (number_v _ sh (by simp [shapeV, *]) s (posOf s r1) m d b pv _ hsm hp1 HRa.out).mono ?_); intro e wb hpost; rw [← HE1.out, H2.out] at hpost; obtain ⟨rfl, hRb, hGb⟩ := hpost; have hbx := keep_far HBXa.out hGb (by simp; omega); have HMb := Lib.hid (keep_far HMa.out hGb (by simpa using hmb)); have x0 := cell_of hbx 0 rfl; have x1 := cell_of hbx 1 rfl; have x2 := cell_of hbx 2 rfl; have x3 := cell_of hbx 3 rfl; have x4 := cell_of hbx 4 rfl; have x5 := cell_of hbx 5 rfl; have x6 := cell_of hbx 6 rfl; have d3 := hRb.c3; have e3 := hRb.f 3; have HRb := Lib.hid hRb; have HGb := Lib.hid hGb; have HBXb := Lib.hid hbx; clear hRb hGb hbx)) | (go_at_call 58; ((with_reducible refine (pass_q 44 44 rfl (by decide) s (posOf s r2) m d b pv _ hsm hp2 HRb.out).mono ?_); intro e wc hpost; rw [← HE2.out, H3.out] at hpost; obtain ⟨rfl, hRc, hGc⟩ := hpost; have hbx := keep_far HBXb.out hGc (by simp; omega); have HMc := Lib.hid (keep_far HMb.out hGc (by simpa using hmb)); have x0 := cell_of hbx 0 rfl; have x1 := cell_of hbx 1 rfl; have x2 := cell_of hbx 2 rfl; have x3 := cell_of hbx 3 rfl; have x4 := cell_of hbx 4 rfl; have x5 := cell_of hbx 5 rfl; have x6 := cell_of hbx 6 rfl; have d3 := hRc.c3; have e3 := hRc.f 3; have HRc := Lib.hid hRc; have HGc := Lib.hid hGc; have HBXc := Lib.hid hbx; clear hRc hGc hbx)) | (go_at_call 59; ((with_reducible refine (list_v HL.out _ sh (by simp [shapeV, *]) b m (d + 1) (posOf s r3) s pv _ hs hdp3 hp3 hp3f (by omega) HRc.out.up ((heap_set_other hmb).trans HMc.out) hmb (fun hd => HPV.out (by omega))).mono ?_); intro e wd hpost; rw [← HE3.out, H4.out] at hpost; obtain ⟨rfl, pv2, hRd, hGd, hPd⟩ := hpost; have d3 := hRd.c3; have e3 := hRd.f 3; have HRd := Lib.hid hRd; have HGd := Lib.hid hGd; have HPd := Lib.hid hPd; clear hRd hGd hPd)) | (go_at_call 58; ((with_reducible refine (pass_q 41 41 rfl (by decide) s (posOf s r4) m d b pv2 _ hsm hp4 HRd.out.down).mono ?_); intro e we hpost; rw [← HE4.out, H5.out] at hpost; obtain ⟨rfl, hGe⟩ := hpost)) | fail)
              refine ⟨rfl, ?_⟩
              rw [HO.out]
              exact ⟨rfl, grown_trans (World.grownBy_alloc _ _ _) (grown_trans HGa.out (grown_trans HGb.out (grown_trans HGc.out (grown_trans (grown_set _ _ _ _) (grown_trans HGd.out (grown_trans (grown_set _ _ _ _) hGe))))))⟩
            | some r5 =>
              have H5 := Lib.hid h5
              have HO : Hid (qIn (qLoop f) sh (s.data.toList.drop p) = some (n, ps, r5)) := Lib.hid (by simp [qIn, h1, h2, hq, h3, h4, h5])
              clear h1 h2 h3 h4 h5 hu1 hu2 hu3 hu4 hl1 hP1 hq
              go_enter Try.func48, Try.ntmps48
              go_wp2_with (first | (go_at_call 58; ((with_reducible refine (pass_q 40 40 rfl (by decide) s p m d b pv _ hsm hp HR0.out).mono ?_); intro e wa hpost; rw [H1.out] at hpost; obtain ⟨rfl, hRa, hGa⟩ := hpost; have hbx := keep_far HBX0.out hGa (by simp; omega); have HMa := Lib.hid (keep_far HM0.out hGa (by simpa using hmb)); have x0 := cell_of hbx 0 rfl; have x1 := cell_of hbx 1 rfl; have x2 := cell_of hbx 2 rfl; have x3 := cell_of hbx 3 rfl; have x4 := cell_of hbx 4 rfl; have x5 := cell_of hbx 5 rfl; have x6 := cell_of hbx 6 rfl; have HRa := Lib.hid hRa; have HGa := Lib.hid hGa; have HBXa := Lib.hid hbx; clear hRa hGa hbx)) | (go_at_call 50; ((with_reducible refine (number_v _ sh (by simp [shapeV, *]) s (posOf s r1) m d b pv _ hsm hp1 HRa.out).mono ?_); intro e wb hpost; rw [← HE1.out, H2.out] at hpost; obtain ⟨rfl, hRb, hGb⟩ := hpost; have hbx := keep_far HBXa.out hGb (by simp; omega); have HMb := Lib.hid (keep_far HMa.out hGb (by simpa using hmb)); have x0 := cell_of hbx 0 rfl; have x1 := cell_of hbx 1 rfl; have x2 := cell_of hbx 2 rfl; have x3 := cell_of hbx 3 rfl; have x4 := cell_of hbx 4 rfl; have x5 := cell_of hbx 5 rfl; have x6 := cell_of hbx 6 rfl; have d3 := hRb.c3; have e3 := hRb.f 3; have HRb := Lib.hid hRb; have HGb := Lib.hid hGb; have HBXb := Lib.hid hbx; clear hRb hGb hbx)) | (go_at_call 58; ((with_reducible refine (pass_q 44 44 rfl (by decide) s (posOf s r2) m d b pv _ hsm hp2 HRb.out).mono ?_); intro e wc hpost; rw [← HE2.out, H3.out] at hpost; obtain ⟨rfl, hRc, hGc⟩ := hpost; have hbx := keep_far HBXb.out hGc (by simp; omega); have HMc := Lib.hid (keep_far HMb.out hGc (by simpa using hmb)); have x0 := cell_of hbx 0 rfl; have x1 := cell_of hbx 1 rfl; have x2 := cell_of hbx 2 rfl; have x3 := cell_of hbx 3 rfl; have x4 := cell_of hbx 4 rfl; have x5 := cell_of hbx 5 rfl; have x6 := cell_of hbx 6 rfl; have d3 := hRc.c3; have e3 := hRc.f 3; have HRc := Lib.hid hRc; have HGc := Lib.hid hGc; have HBXc := Lib.hid hbx; clear hRc hGc hbx)) | (go_at_call 59; ((with_reducible refine (list_v HL.out _ sh (by simp [shapeV, *]) b m (d + 1) (posOf s r3) s pv _ hs hdp3 hp3 hp3f (by omega) HRc.out.up ((heap_set_other hmb).trans HMc.out) hmb (fun hd => HPV.out (by omega))).mono ?_); intro e wd hpost; rw [← HE3.out, H4.out] at hpost; obtain ⟨rfl, pv2, hRd, hGd, hPd⟩ := hpost; have d3 := hRd.c3; have e3 := hRd.f 3; have HRd := Lib.hid hRd; have HGd := Lib.hid hGd; have HPd := Lib.hid hPd; clear hRd hGd hPd)) | (go_at_call 58; ((with_reducible refine (pass_q 41 41 rfl (by decide) s (posOf s r4) m d b pv2 _ hsm hp4 HRd.out.down).mono ?_); intro e we hpost; rw [← HE4.out, H5.out] at hpost; obtain ⟨rfl, hRe, hGe⟩ := hpost; have HRe := Lib.hid hRe; have HGe := Lib.hid hGe; clear hRe hGe)) | fail)
              go_ret
              rw [HO.out]
              refine ⟨rfl, pv2, HRe.out, grown_trans (World.grownBy_alloc _ _ _) (grown_trans HGa.out (grown_trans HGb.out (grown_trans HGc.out (grown_trans (grown_set _ _ _ _) (grown_trans HGd.out (grown_trans (grown_set _ _ _ _) HGe.out)))))), ?_⟩
              have h1 := HGa.out.size; have h2 := HGb.out.size; have h3 := HGc.out.size
              simp at h1
              exact ((HPd.out.kept (by simp [World.setCell]; omega) (grown_trans (grown_set _ _ _ _) HGe.out)).base (by simp [World.setCell]; omega)).shift
      · rw [hn] at HR0 HBX0 HM0
        have hp3f : s.size - posOf s r2 + 1 ≤ f := by omega
        have hdp3 : d + 1 ≤ posOf s r2 := by omega
        cases h4 : qList (qLoop f) sh r2 with
        | none =>
          have H4 := Lib.hid h4
          have HO : Hid (qIn (qLoop f) sh (s.data.toList.drop p) = none) := Lib.hid (by simp [qIn, h1, h2, hq, h4])
          clear h1 h2 h4 hu1 hu2 hl1 hP1 hq
          go_enter Try.func48, Try.ntmps48
          go_wp2_with (first | (go_at_call 58; ((with_reducible refine (pass_q 40 40 rfl (by decide) s p m d b pv _ hsm hp HR0.out).mono ?_); intro e wa hpost; rw [H1.out] at hpost; obtain ⟨rfl, hRa, hGa⟩ := hpost; have hbx := keep_far HBX0.out hGa (by simp; omega); have HMa := Lib.hid (keep_far HM0.out hGa (by simpa using hmb)); have x0 := cell_of hbx 0 rfl; have x1 := cell_of hbx 1 rfl; have x2 := cell_of hbx 2 rfl; have x3 := cell_of hbx 3 rfl; have x4 := cell_of hbx 4 rfl; have x5 := cell_of hbx 5 rfl; have x6 := cell_of hbx 6 rfl; have HRa := Lib.hid hRa; have HGa := Lib.hid hGa; have HBXa := Lib.hid hbx; clear hRa hGa hbx)) | (go_at_call 50; ((with_reducible refine (number_v _ sh (by simp [shapeV, *]) s (posOf s r1) m d b pv _ hsm hp1 HRa.out).mono ?_); intro e wb hpost; rw [← HE1.out, H2.out] at hpost; obtain ⟨rfl, hRb, hGb⟩ := hpost; have hbx := keep_far HBXa.out hGb (by simp; omega); have HMb := Lib.hid (keep_far HMa.out hGb (by simpa using hmb)); have x0 := cell_of hbx 0 rfl; have x1 := cell_of hbx 1 rfl; have x2 := cell_of hbx 2 rfl; have x3 := cell_of hbx 3 rfl; have x4 := cell_of hbx 4 rfl; have x5 := cell_of hbx 5 rfl; have x6 := cell_of hbx 6 rfl; have d3 := hRb.c3; have e3 := hRb.f 3; have HRb := Lib.hid hRb; have HGb := Lib.hid hGb; have HBXb := Lib.hid hbx; clear hRb hGb hbx)) | (go_at_call 59; ((with_reducible refine (list_v HL.out _ sh (by simp [shapeV, *]) b m (d + 1) (posOf s r2) s pv _ hs hdp3 hp2 hp3f (by omega) HRb.out.up ((heap_set_other hmb).trans HMb.out) hmb (fun hd => HPV.out (by omega))).mono ?_); intro e wd hpost; rw [← HE2.out, H4.out] at hpost; obtain ⟨rfl, hGd⟩ := hpost)) | fail)
          refine ⟨rfl, ?_⟩
          rw [HO.out]
          exact ⟨rfl, grown_trans (World.grownBy_alloc _ _ _) (grown_trans HGa.out (grown_trans HGb.out (grown_trans (grown_set _ _ _ _) hGd)))⟩
        | some z =>
          obtain ⟨ps, r4⟩ := z
          have hu4 : posOf s r2 ≤ posOf s r4 ∧ posOf s r4 ≤ s.size ∧ r4 = s.data.toList.drop (posOf s r4) := suf_pos (rest := r4) hp2 (by rw [← hu2.2.2]; exact list_suf h4)
          have hp4 := hu4.2.1
          have HE4 := Lib.hid hu4.2.2
          have H4 := Lib.hid h4
          cases h5 : pass 41 r4 with
          | none =>
            have H5 := Lib.hid h5
            have HO : Hid (qIn (qLoop f) sh (s.data.toList.drop p) = none) := Lib.hid (by simp [qIn, h1, h2, hq, h4, h5])
            clear h1 h2 h4 h5 hu1 hu2 hu4 hl1 hP1 hq
            go_enter Try.func48, Try.ntmps48
            go_wp2_with (first | (go_at_call 58; ((with_reducible refine (pass_q 40 40 rfl (by decide) s p m d b pv _ hsm hp HR0.out).mono ?_); intro e wa hpost; rw [H1.out] at hpost; obtain ⟨rfl, hRa, hGa⟩ := hpost; have hbx := keep_far HBX0.out hGa (by simp; omega); have HMa := Lib.hid (keep_far HM0.out hGa (by simpa using hmb)); have x0 := cell_of hbx 0 rfl; have x1 := cell_of hbx 1 rfl; have x2 := cell_of hbx 2 rfl; have x3 := cell_of hbx 3 rfl; have x4 := cell_of hbx 4 rfl; have x5 := cell_of hbx 5 rfl; have x6 := cell_of hbx 6 rfl; have HRa := Lib.hid hRa; have HGa := Lib.hid hGa; have HBXa := Lib.hid hbx; clear hRa hGa hbx)) | (go_at_call 50; ((with_reducible refine (number_v _ sh (by simp [shapeV, *]) s (posOf s r1) m d b pv _ hsm hp1 HRa.out).mono ?_); intro e wb hpost; rw [← HE1.out, H2.out] at hpost; obtain ⟨rfl, hRb, hGb⟩ := hpost; have hbx := keep_far HBXa.out hGb (by simp; omega); have HMb := Lib.hid (keep_far HMa.out hGb (by simpa using hmb)); have x0 := cell_of hbx 0 rfl; have x1 := cell_of hbx 1 rfl; have x2 := cell_of hbx 2 rfl; have x3 := cell_of hbx 3 rfl; have x4 := cell_of hbx 4 rfl; have x5 := cell_of hbx 5 rfl; have x6 := cell_of hbx 6 rfl; have d3 := hRb.c3; have e3 := hRb.f 3; have HRb := Lib.hid hRb; have HGb := Lib.hid hGb; have HBXb := Lib.hid hbx; clear hRb hGb hbx)) | (go_at_call 59; ((with_reducible refine (list_v HL.out _ sh (by simp [shapeV, *]) b m (d + 1) (posOf s r2) s pv _ hs hdp3 hp2 hp3f (by omega) HRb.out.up ((heap_set_other hmb).trans HMb.out) hmb (fun hd => HPV.out (by omega))).mono ?_); intro e wd hpost; rw [← HE2.out, H4.out] at hpost; obtain ⟨rfl, pv2, hRd, hGd, hPd⟩ := hpost; have d3 := hRd.c3; have e3 := hRd.f 3; have HRd := Lib.hid hRd; have HGd := Lib.hid hGd; have HPd := Lib.hid hPd; clear hRd hGd hPd)) | (go_at_call 58; ((with_reducible refine (pass_q 41 41 rfl (by decide) s (posOf s r4) m d b pv2 _ hsm hp4 HRd.out.down).mono ?_); intro e we hpost; rw [← HE4.out, H5.out] at hpost; obtain ⟨rfl, hGe⟩ := hpost)) | fail)
            refine ⟨rfl, ?_⟩
            rw [HO.out]
            exact ⟨rfl, grown_trans (World.grownBy_alloc _ _ _) (grown_trans HGa.out (grown_trans HGb.out (grown_trans (grown_set _ _ _ _) (grown_trans HGd.out (grown_trans (grown_set _ _ _ _) hGe)))))⟩
          | some r5 =>
            have H5 := Lib.hid h5
            have HO : Hid (qIn (qLoop f) sh (s.data.toList.drop p) = some (n, ps, r5)) := Lib.hid (by simp [qIn, h1, h2, hq, h4, h5])
            clear h1 h2 h4 h5 hu1 hu2 hu4 hl1 hP1 hq
            go_enter Try.func48, Try.ntmps48
            go_wp2_with (first | (go_at_call 58; ((with_reducible refine (pass_q 40 40 rfl (by decide) s p m d b pv _ hsm hp HR0.out).mono ?_); intro e wa hpost; rw [H1.out] at hpost; obtain ⟨rfl, hRa, hGa⟩ := hpost; have hbx := keep_far HBX0.out hGa (by simp; omega); have HMa := Lib.hid (keep_far HM0.out hGa (by simpa using hmb)); have x0 := cell_of hbx 0 rfl; have x1 := cell_of hbx 1 rfl; have x2 := cell_of hbx 2 rfl; have x3 := cell_of hbx 3 rfl; have x4 := cell_of hbx 4 rfl; have x5 := cell_of hbx 5 rfl; have x6 := cell_of hbx 6 rfl; have HRa := Lib.hid hRa; have HGa := Lib.hid hGa; have HBXa := Lib.hid hbx; clear hRa hGa hbx)) | (go_at_call 50; ((with_reducible refine (number_v _ sh (by simp [shapeV, *]) s (posOf s r1) m d b pv _ hsm hp1 HRa.out).mono ?_); intro e wb hpost; rw [← HE1.out, H2.out] at hpost; obtain ⟨rfl, hRb, hGb⟩ := hpost; have hbx := keep_far HBXa.out hGb (by simp; omega); have HMb := Lib.hid (keep_far HMa.out hGb (by simpa using hmb)); have x0 := cell_of hbx 0 rfl; have x1 := cell_of hbx 1 rfl; have x2 := cell_of hbx 2 rfl; have x3 := cell_of hbx 3 rfl; have x4 := cell_of hbx 4 rfl; have x5 := cell_of hbx 5 rfl; have x6 := cell_of hbx 6 rfl; have d3 := hRb.c3; have e3 := hRb.f 3; have HRb := Lib.hid hRb; have HGb := Lib.hid hGb; have HBXb := Lib.hid hbx; clear hRb hGb hbx)) | (go_at_call 59; ((with_reducible refine (list_v HL.out _ sh (by simp [shapeV, *]) b m (d + 1) (posOf s r2) s pv _ hs hdp3 hp2 hp3f (by omega) HRb.out.up ((heap_set_other hmb).trans HMb.out) hmb (fun hd => HPV.out (by omega))).mono ?_); intro e wd hpost; rw [← HE2.out, H4.out] at hpost; obtain ⟨rfl, pv2, hRd, hGd, hPd⟩ := hpost; have d3 := hRd.c3; have e3 := hRd.f 3; have HRd := Lib.hid hRd; have HGd := Lib.hid hGd; have HPd := Lib.hid hPd; clear hRd hGd hPd)) | (go_at_call 58; ((with_reducible refine (pass_q 41 41 rfl (by decide) s (posOf s r4) m d b pv2 _ hsm hp4 HRd.out.down).mono ?_); intro e we hpost; rw [← HE4.out, H5.out] at hpost; obtain ⟨rfl, hRe, hGe⟩ := hpost; have HRe := Lib.hid hRe; have HGe := Lib.hid hGe; clear hRe hGe)) | fail)
            go_ret
            rw [HO.out]
            refine ⟨rfl, pv2, HRe.out, grown_trans (World.grownBy_alloc _ _ _) (grown_trans HGa.out (grown_trans HGb.out (grown_trans (grown_set _ _ _ _) (grown_trans HGd.out (grown_trans (grown_set _ _ _ _) HGe.out))))), ?_⟩
            have h1 := HGa.out.size; have h2 := HGb.out.size
            simp at h1
            exact ((HPd.out.kept (by simp [World.setCell]; omega) (grown_trans (grown_set _ _ _ _) HGe.out)).base (by simp [World.setCell]; omega)).shift
end Go.Proofs.Yteiadbiopcidmaa
