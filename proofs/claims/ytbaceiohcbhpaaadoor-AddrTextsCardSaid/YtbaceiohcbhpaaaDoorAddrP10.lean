/- The program's Read and ReadPrefix, by contract: the whole. -/
import Derived.Test.YtbaceiohcbhpaaaDoorAddrP9
namespace Go.Proofs.YtbaceiohcbhpaaaDoor
set_option linter.unusedVariables false
set_option linter.unusedSimpArgs false
set_option maxRecDepth 100000
open Go.RowKit

theorem aread_any (s : ByteArray) (hs : s.size ≤ 1000000) (w : World) : Calls Tryd.prog 6 #[.string s] w (ReadRet w (readC s.data.toList)) := by
  have HRS : Hid (∀ w, Calls Tryd.prog 19 #[.string s] w (OptRet w (shortP s.data.toList))) := Lib.hid (fun w => areadshort_any s hs w)
  have HRL : Hid (∀ w, Calls Tryd.prog 20 #[.string s] w (OptRet w (longP s.data.toList))) := Lib.hid (fun w => areadlong_any s hs w)
  cases h1 : shortP s.data.toList with
  | some a =>
    have HR := Lib.hid (readC_short h1)
    rw [h1] at HRS
    clear h1
    go_enter Tryd.func6, Tryd.ntmps6
    go_wp2_with (first | (go_at_call 19; ((with_reducible refine (HRS.out _).mono ?_); rintro e w2 ⟨ad2, cp2, rfl, hv2, hl2, hm2, hb2⟩)) | fail)
    go_ret2
    exact ⟨ad2, cp2, by rw [HR.out]; rfl, by rw [HR.out]; exact hv2, by rw [HR.out]; exact hl2, hm2, hb2⟩
  | none =>
    rw [h1] at HRS
    cases h2 : longP s.data.toList with
    | some a =>
      have HR := Lib.hid (readC_long h1 h2)
      rw [h2] at HRL
      clear h1 h2
      go_enter Tryd.func6, Tryd.ntmps6
      go_wp2_with (first | (go_at_call 19; ((with_reducible refine (HRS.out _).mono ?_); rintro e w2 ⟨ad2, cp2, rfl, hv2, hl2, hm2, hb2⟩)) | (go_at_call 20; ((with_reducible refine (HRL.out _).mono ?_); rintro e w3 ⟨ad3, cp3, rfl, hv3, hl3, hm3, hb3⟩)) | fail)
      go_ret2
      exact ⟨ad3, cp3, by rw [HR.out]; rfl, by rw [HR.out]; exact hv3, by rw [HR.out]; exact hl3, hm3, Below.next hb2 hb3⟩
    | none =>
      have HR := Lib.hid (readC_none h1 h2)
      rw [h2] at HRL
      clear h1 h2
      go_enter Tryd.func6, Tryd.ntmps6
      go_wp2_with (first | (go_at_call 19; ((with_reducible refine (HRS.out _).mono ?_); rintro e w2 ⟨ad2, cp2, rfl, hv2, hl2, hm2, hb2⟩)) | (go_at_call 20; ((with_reducible refine (HRL.out _).mono ?_); rintro e w3 ⟨ad3, cp3, rfl, hv3, hl3, hm3, hb3⟩)) | fail)
      go_ret2
      exact ⟨none, 0, by rw [HR.out]; rfl, by rw [HR.out]; exact bytes_nil _, by rw [HR.out]; exact Nat.le_refl _, Nat.zero_le _, Below.next hb2 hb3⟩
/-! prefixes -/
theorem cut_slash (S : List UInt8) : (cutS 47 S).1 = S.takeWhile (· != 47) ∧ (cutS 47 S).2.1 = (S.dropWhile (· != 47)).tail := by
  unfold cutS
  rcases c_or 47 S with h | ⟨p, r, rfl, hp⟩
  · rw [idx_no h]
    have h2 : ∀ x ∈ S, (x != 47) = true := fun x hx => by simpa using h x hx
    constructor
    · show S = _
      clear h
      induction S with
      | nil => rfl
      | cons y l ih =>
        rw [List.takeWhile_cons_of_pos (p := fun x => x != 47) (h2 y (List.mem_cons_self ..)), ← ih fun x hx => h2 x (List.mem_cons_of_mem _ hx)]
    · show [] = _
      clear h
      induction S with
      | nil => rfl
      | cons y l ih =>
        rw [List.dropWhile_cons_of_pos (p := fun x => x != 47) (h2 y (List.mem_cons_self ..))]
        exact ih fun x hx => h2 x (List.mem_cons_of_mem _ hx)
  · obtain ⟨e1, e2⟩ := slash_cut (p := p) r (fun x hx => by simpa using hp x hx)
    rw [e1, e2, idx_at r hp, if_neg (by omega)]
    simp
theorem readPC_none1 {S B : List UInt8} (hB : S.takeWhile (· != 47) = B) (h : refRead B = none) : readPC S = ([], 0, 3) := by
  have : refReadP S = none := by
    unfold refReadP
    rw [hB, h]
    split <;> rfl
  unfold readPC; rw [this]
theorem rdCode_nil : rdCode [] = 3 := by decide
theorem readPC_none2 {S B A : List UInt8} (hA : (S.dropWhile (· != 47)).tail = A) (h : rdCode A ≠ 0 ∨ (rdCode A = 0 ∧ 128 < rdVal A)) : readPC S = ([], 0, 3) := by
  have : refReadP S = none := by
    unfold refReadP
    rw [hA]
    split
    · rfl
    · cases refRead (S.takeWhile (· != 47)) with
      | none => rfl
      | some a =>
        rw [Option.bind_some, if_neg]
        rintro ⟨h1, h2, _⟩
        rcases h with h | ⟨_, h⟩
        · exact h h1
        · omega
  unfold readPC; rw [this]
theorem readPC_is {S B A a : List UInt8} {m : Nat} (hB : S.takeWhile (· != 47) = B) (hA : (S.dropWhile (· != 47)).tail = A) (h : refRead B = some a) (h0 : rdCode A = 0) (h1 : rdVal A = m) (h2 : m ≤ 128) : readPC S = if isPlainB a m = true then (a, (m : Int), 0) else ([], 0, 3) := by
  have hne : S.dropWhile (· != 47) ≠ [] := by
    intro e
    rw [e] at hA
    rw [← hA] at h0
    exact absurd h0 (by rw [show (List.tail ([] : List UInt8)) = [] from rfl, rdCode_nil]; decide)
  have : refReadP S = if isPlainB a m = true then some (a, m) else none := by
    unfold refReadP
    rw [if_neg hne, hB, hA, h, Option.bind_some, h1]
    have e : ((m : Int).toNat) = m := by omega
    rw [e]
    by_cases hp : isPlainB a m = true
    · rw [if_pos hp]
      unfold isPlainB at hp
      rw [Bool.and_eq_true, beq_iff_eq] at hp
      rw [if_pos ⟨h0, h2, hp.1, by have := hp.2; rwa [e] at this⟩]
    · rw [if_neg hp, if_neg]
      rintro ⟨_, _, h3, h4⟩
      refine hp ?_
      unfold isPlainB
      rw [Bool.and_eq_true, beq_iff_eq]
      exact ⟨h3, by rw [e]; exact h4⟩
  unfold readPC; rw [this]
  by_cases hp : isPlainB a m = true
  · rw [if_pos hp, if_pos hp]
  · rw [if_neg hp, if_neg hp]
theorem readp_resP (W : World) (b : Nat) (v0 v1 : Value) (h : W.heap[b]? = some (.cells #[v0, v1] 30 (0, 0))) (T : Array Value) (c : Int) (h2 : T.getD 2 undef = .pointer (some ⟨b, 0, none⟩)) (h3 : T.getD 3 undef = .int .i64 c) :
    (results Tryd.f8 T).run Tryd.prog W = .ok (.tuple #[.agg #[v0, v1], .int .i64 c]) W := by
  have c0 := cell_of h 0 rfl; have c1 := cell_of h 1 rfl
  have e2 : T[2]?.getD undef = .pointer (some ⟨b, 0, none⟩) := by simpa using h2
  have e3 : T[3]?.getD undef = .int .i64 c := by simpa using h3
  simp [results, Tryd.results8, go_sem, e2, e3, c0, c1]
theorem setp_block {W : World} {b : Nat} {x0 x1 v0 v1 : Value} (h : W.heap[b]? = some (.cells #[x0, x1] 30 (0, 0))) : ((W.setCell ⟨b, 0, none⟩ v0).setCell ⟨b, 1, none⟩ v1).heap[b]? = some (.cells #[v0, v1] 30 (0, 0)) :=
  set_block (i := 1) (v := v1) (set_block (i := 0) (v := v0) h)
theorem readp_bad {w W : World} {x : List UInt8 × Int × Int} (hx : x = ([], 0, 3)) (hb : Below w.heap.size w W) : ReadPRet w x (.returned (.tuple #[.agg #[.slice none 0 0, .int .i64 0], .int .i64 3])) ((W.setCell ⟨w.heap.size, 0, none⟩ (.slice none 0 0)).setCell ⟨w.heap.size, 1, none⟩ (.int .i64 0)) := by
  subst hx
  exact ⟨none, 0, rfl, bytes_nil _, Nat.le_refl _, Nat.zero_le _, (hb.setCell (by simp) _).setCell (by simp) _⟩
theorem bytes_set {W : World} {b i : Nat} {v : Value} {ad : Option Addr} {l : List UInt8} {cp n : Nat} (h : Bytes W (.slice ad n cp) l) (hn : n = l.length) (hne : ∀ a, ad = some a → a.block ≠ b) : Bytes (W.setCell ⟨b, i, none⟩ v) (.slice ad n cp) l := by
  obtain ⟨a, c, e, h2⟩ := h
  refine ⟨a, c, e, h2.imp id ?_⟩
  rintro ⟨bb, off, rfl, hc⟩
  refine ⟨bb, off, rfl, fun i hi => ?_⟩
  injection e with e1
  have := hne _ e1
  rw [← hc i hi]
  simp [World.cell?, heap_other this]
theorem not_there {W : World} {B b off : Nat} {n c : Nat} {ad : Option Addr} {i : Int} {y : Int} (h : W.heap[B]? = some (.cells #[.slice ad n c, .int .i64 i] 30 (0, 0))) (hc : W.cell? ⟨b, off, none⟩ = some (.int .u8 y)) : b ≠ B := by
  intro e
  subst e
  simp only [World.cell?, h] at hc
  match off, hc with
  | 0, hc => simp at hc
  | 1, hc => simp at hc
  | k + 2, hc => simp at hc
set_option maxHeartbeats 8000000 in
theorem areadp_any (s : ByteArray) (hs : s.size ≤ 1000000) (w : World) : Calls Tryd.prog 8 #[.string s] w (ReadPRet w (readPC s.data.toList)) := by
  obtain ⟨S, hS⟩ : ∃ S, s.data.toList = S := ⟨_, rfl⟩
  have hSl : S.length ≤ 1000000 := by rw [← hS]; simpa using hs
  obtain ⟨B, hB⟩ : ∃ B, S.takeWhile (· != 47) = B := ⟨_, rfl⟩
  obtain ⟨A, hA⟩ : ∃ A, (S.dropWhile (· != 47)).tail = A := ⟨_, rfl⟩
  have hBl : B.length ≤ 1000000 := by rw [← hB]; exact Nat.le_trans (List.takeWhile_prefix _).length_le hSl
  have hAl : A.length ≤ 1000000 := by
    rw [← hA, List.length_tail]
    have := (List.dropWhile_suffix (l := S) (fun x => x != 47)).length_le
    omega
  obtain ⟨hc1, hc2⟩ := cut_slash S
  have HCU : Hid (∀ w, Calls Tryd.prog 23 #[.string s, .string ⟨#[47]⟩] w fun e w' => e = .returned (.tuple #[.string (strB B), .string (strB A), .bool (cutS 47 S).2.2]) ∧ Below w.heap.size w w') := Lib.hid (fun w => by
    have := scut_any s 47 (by unfold maxLen; omega) w
    rw [hS] at this
    unfold CutRet at this
    rw [hc1, hc2, hB, hA] at this
    exact this)
  have e0 := heap_alloc_new w (.cells #[.slice none 0 0, .int .i64 0] 30)
  have HK := Lib.hid e0
  have HB0 : Hid (Below w.heap.size w (w.alloc (.cells #[.slice none 0 0, .int .i64 0] 30))) := Lib.hid (below_one _)
  rw [hS]
  have HNR : Hid (∀ w, Calls Tryd.prog 24 #[.string (strB A)] w fun e w' => e = .returned (.tuple #[.int .u64 (rdVal A), .int .i64 (rdCode A)]) ∧ w = w') := Lib.hid (fun w => read_any (strB A) (by rw [strB_size]; unfold maxLen; omega) w)
  have hrd := fun w => aread_any (strB B) (by rw [strB_size]; exact hBl) w
  have hcb : (strB B).data.toList = B := rfl
  generalize (cutS 47 S).2.2 = found at *
  cases hr : refRead B with
  | none =>
    have HRD : Hid (∀ w, Calls Tryd.prog 6 #[.string (strB B)] w (ReadRet w ([], 3))) := Lib.hid (fun w => by have := hrd w; rw [hcb] at this; unfold readC at this; rw [hr] at this; exact this)
    have HR := Lib.hid (readPC_none1 hB hr)
    clear hS hB hA hc1 hc2 hrd hcb hr e0
    go_enter Tryd.func8, Tryd.ntmps8
    go_wp2_with (first | (go_at_call 23; ((with_reducible refine (HCU.out _).mono ?_); rintro e w2 ⟨rfl, hb2⟩; have hx2 := (hb2.block _ (by simp)).trans HK.out; have HX2 := Lib.hid hx2; have HB2 := Lib.hid (Below.next HB0.out hb2); clear hb2 hx2)) | (go_at_call 6; ((with_reducible refine (HRD.out _).mono ?_); rintro e w3 ⟨ad3, cp3, rfl, hv3, hl3, hm3, hb3⟩; have hx3 := (hb3.block _ (Array.getElem?_eq_some_iff.1 HX2.out).1).trans HX2.out; have HX3 := Lib.hid hx3; have HB3 := Lib.hid (Below.next HB2.out hb3); have HV3 := Lib.hid hv3; have HL3 := Lib.hid hl3; have HM3 := Lib.hid hm3; have d0 : w3.cell? ⟨w.heap.size, 0, none⟩ = some (.slice none 0 0) := cell_of hx3 0 rfl; have d1 : w3.cell? ⟨w.heap.size, 1, none⟩ = some (.int .i64 0) := cell_of hx3 1 rfl; have g3 := fun i => free_of hx3 i; clear hb3 hx3 hv3 hl3 hm3)) | fail)
    exact bodyPost_ret (readp_resP _ _ _ _ (setp_block HX3.out) _ 3 rfl rfl) rfl (readp_bad HR.out HB3.out)
  | some a =>
    have HRD : Hid (∀ w, Calls Tryd.prog 6 #[.string (strB B)] w (ReadRet w (a, 0))) := Lib.hid (fun w => by have := hrd w; rw [hcb] at this; unfold readC at this; rw [hr] at this; exact this)
    by_cases hbad : rdCode A ≠ 0 ∨ (rdCode A = 0 ∧ 128 < rdVal A)
    · have HR := Lib.hid (readPC_none2 (B := B) hA hbad)
      clear hS hB hA hc1 hc2 hrd hcb hr e0
      generalize rdCode A = cA at *
      generalize rdVal A = vA at *
      rcases hbad with h1 | ⟨h1, h2⟩
      · have e1 : (cA != 0) = true := bnne_i h1
        go_enter Tryd.func8, Tryd.ntmps8
        go_wp2_with (first | (go_at_call 23; ((with_reducible refine (HCU.out _).mono ?_); rintro e w2 ⟨rfl, hb2⟩; have hx2 := (hb2.block _ (by simp)).trans HK.out; have HX2 := Lib.hid hx2; have HB2 := Lib.hid (Below.next HB0.out hb2); clear hb2 hx2)) | (go_at_call 6; ((with_reducible refine (HRD.out _).mono ?_); rintro e w3 ⟨ad3, cp3, rfl, hv3, hl3, hm3, hb3⟩; have hx3 := (hb3.block _ (Array.getElem?_eq_some_iff.1 HX2.out).1).trans HX2.out; have HX3 := Lib.hid hx3; have HB3 := Lib.hid (Below.next HB2.out hb3); have HV3 := Lib.hid hv3; have HL3 := Lib.hid hl3; have HM3 := Lib.hid hm3; have d0 : w3.cell? ⟨w.heap.size, 0, none⟩ = some (.slice none 0 0) := cell_of hx3 0 rfl; have d1 : w3.cell? ⟨w.heap.size, 1, none⟩ = some (.int .i64 0) := cell_of hx3 1 rfl; have g3 := fun i => free_of hx3 i; clear hb3 hx3 hv3 hl3 hm3)) | (go_at_call 24; ((with_reducible refine (HNR.out _).mono ?_); rintro e w4 ⟨rfl, rfl⟩)) | fail)
        exact bodyPost_ret (readp_resP _ _ _ _ (setp_block HX3.out) _ 3 rfl rfl) rfl (readp_bad HR.out HB3.out)
      · subst h1
        go_enter Tryd.func8, Tryd.ntmps8
        go_wp2_with (first | (go_at_call 23; ((with_reducible refine (HCU.out _).mono ?_); rintro e w2 ⟨rfl, hb2⟩; have hx2 := (hb2.block _ (by simp)).trans HK.out; have HX2 := Lib.hid hx2; have HB2 := Lib.hid (Below.next HB0.out hb2); clear hb2 hx2)) | (go_at_call 6; ((with_reducible refine (HRD.out _).mono ?_); rintro e w3 ⟨ad3, cp3, rfl, hv3, hl3, hm3, hb3⟩; have hx3 := (hb3.block _ (Array.getElem?_eq_some_iff.1 HX2.out).1).trans HX2.out; have HX3 := Lib.hid hx3; have HB3 := Lib.hid (Below.next HB2.out hb3); have HV3 := Lib.hid hv3; have HL3 := Lib.hid hl3; have HM3 := Lib.hid hm3; have d0 : w3.cell? ⟨w.heap.size, 0, none⟩ = some (.slice none 0 0) := cell_of hx3 0 rfl; have d1 : w3.cell? ⟨w.heap.size, 1, none⟩ = some (.int .i64 0) := cell_of hx3 1 rfl; have g3 := fun i => free_of hx3 i; clear hb3 hx3 hv3 hl3 hm3)) | (go_at_call 24; ((with_reducible refine (HNR.out _).mono ?_); rintro e w4 ⟨rfl, rfl⟩)) | fail)
        exact bodyPost_ret (readp_resP _ _ _ _ (setp_block HX3.out) _ 3 rfl rfl) rfl (readp_bad HR.out HB3.out)
    · have hc0 : rdCode A = 0 := by
        by_cases h : rdCode A = 0
        · exact h
        · exact absurd (.inl h) hbad
      obtain ⟨m, hm1, hm2, hm3⟩ := decs_rd A hc0
      have hm : m ≤ 128 := by
        by_cases h : 128 < rdVal A
        · exact absurd (.inr ⟨hc0, h⟩) hbad
        · omega
      have HRC := Lib.hid (readPC_is hB hA hr hc0 hm1 hm)
      have hal : a.length ≤ 1000 := by rcases (refRead_some hr).1 with h | h <;> omega
      have h0l : 0 < a.length := by rcases (refRead_some hr).1 with h | h <;> omega
      rw [hc0, hm1] at HNR
      obtain ⟨ip, hip⟩ : ∃ r, isPlainB a (m : Int) = r := ⟨_, rfl⟩
      have HIP : Hid (∀ w ad cp, Bytes w (.slice ad a.length cp) a → a.length ≤ cp → cp ≤ maxLen → Calls Tryd.prog 25 #[.agg #[.slice ad a.length cp, .int .i64 m]] w fun e w' => e = .returned (.bool ip) ∧ Below w.heap.size w w') := Lib.hid (fun w ad cp h h1 h2 => by
        have := aisplain_any a ad cp m w h h1 h2 hal
        rw [hip] at this; exact this)
      have hw := wrap_i64 (m : Int) (by omega) (by omega)
      have hmi : (m : Int) ≤ 128 := by omega
      have hm0 : (0 : Int) ≤ m := by omega
      rw [hip] at HRC
      clear hS hB hA hc1 hc2 hrd hcb hr e0 hbad hc0 hm1 hm2 hm3 hip
      cases ip with
      | false =>
        have HR : Hid (readPC S = ([], 0, 3)) := Lib.hid (by rw [HRC.out]; rfl)
        go_enter Tryd.func8, Tryd.ntmps8
        go_wp2_with (first | (go_at_call 23; ((with_reducible refine (HCU.out _).mono ?_); rintro e w2 ⟨rfl, hb2⟩; have hx2 := (hb2.block _ (by simp)).trans HK.out; have HX2 := Lib.hid hx2; have HB2 := Lib.hid (Below.next HB0.out hb2); clear hb2 hx2)) | (go_at_call 6; ((with_reducible refine (HRD.out _).mono ?_); rintro e w3 ⟨ad3, cp3, rfl, hv3, hl3, hm3, hb3⟩; have hx3 := (hb3.block _ (Array.getElem?_eq_some_iff.1 HX2.out).1).trans HX2.out; have HX3 := Lib.hid hx3; have HB3 := Lib.hid (Below.next HB2.out hb3); have HV3 := Lib.hid hv3; have HL3 := Lib.hid hl3; have HM3 := Lib.hid hm3; have d0 : w3.cell? ⟨w.heap.size, 0, none⟩ = some (.slice none 0 0) := cell_of hx3 0 rfl; have d1 : w3.cell? ⟨w.heap.size, 1, none⟩ = some (.int .i64 0) := cell_of hx3 1 rfl; have g3 := fun i => free_of hx3 i; clear hb3 hx3 hv3 hl3 hm3)) | (go_at_call 24; ((with_reducible refine (HNR.out _).mono ?_); rintro e w4 ⟨rfl, rfl⟩)) | (go_at_call 25; ((with_reducible refine (HIP.out _ ad3 cp3 (HV3.out.below (below_one _)) HL3.out HM3.out).mono ?_); rintro e w5 ⟨rfl, hb5⟩; have hx5 := (hb5.block _ (Nat.lt_of_lt_of_le (Array.getElem?_eq_some_iff.1 HX3.out).1 (below_one (w := w3) _).size)).trans (((below_one (w := w3) _).block _ (Array.getElem?_eq_some_iff.1 HX3.out).1).trans HX3.out); have hp5 := (hb5.block w3.heap.size (by simp)).trans (heap_alloc_new w3 _); have HX5 := Lib.hid hx5; have HB5 := Lib.hid (Below.next (HB3.out.alloc HB3.out.size (.cells #[.slice ad3 a.length cp3, .int .i64 m] 30)) hb5); have HW5 := Lib.hid ((below_one (w := w3) (.cells #[.slice ad3 a.length cp3, .int .i64 m] 30)).trans (hb5.mono (by simp))); have p0 : w5.cell? ⟨w3.heap.size, 0, none⟩ = some (.slice ad3 a.length cp3) := cell_of hp5 0 rfl; have p1 : w5.cell? ⟨w3.heap.size, 1, none⟩ = some (.int .i64 m) := cell_of hp5 1 rfl; have q0 : w5.cell? ⟨w.heap.size, 0, none⟩ = some (.slice none 0 0) := cell_of hx5 0 rfl; have q1 : w5.cell? ⟨w.heap.size, 1, none⟩ = some (.int .i64 0) := cell_of hx5 1 rfl; have g5 := fun i => free_of hx5 i; clear hb5 hx5 hp5)) | fail)
        exact bodyPost_ret (readp_resP _ _ _ _ (setp_block HX5.out) _ 3 rfl rfl) rfl (readp_bad HR.out HB5.out)
      | true =>
        have HR : Hid (readPC S = (a, (m : Int), 0)) := Lib.hid (by rw [HRC.out]; rfl)
        have HAL : Hid (0 < a.length) := Lib.hid h0l
        clear h0l
        go_enter Tryd.func8, Tryd.ntmps8
        go_wp2_with (first | (go_at_call 23; ((with_reducible refine (HCU.out _).mono ?_); rintro e w2 ⟨rfl, hb2⟩; have hx2 := (hb2.block _ (by simp)).trans HK.out; have HX2 := Lib.hid hx2; have HB2 := Lib.hid (Below.next HB0.out hb2); clear hb2 hx2)) | (go_at_call 6; ((with_reducible refine (HRD.out _).mono ?_); rintro e w3 ⟨ad3, cp3, rfl, hv3, hl3, hm3, hb3⟩; have hx3 := (hb3.block _ (Array.getElem?_eq_some_iff.1 HX2.out).1).trans HX2.out; have HX3 := Lib.hid hx3; have HB3 := Lib.hid (Below.next HB2.out hb3); have HV3 := Lib.hid hv3; have HL3 := Lib.hid hl3; have HM3 := Lib.hid hm3; have d0 : w3.cell? ⟨w.heap.size, 0, none⟩ = some (.slice none 0 0) := cell_of hx3 0 rfl; have d1 : w3.cell? ⟨w.heap.size, 1, none⟩ = some (.int .i64 0) := cell_of hx3 1 rfl; have g3 := fun i => free_of hx3 i; clear hb3 hx3 hv3 hl3 hm3)) | (go_at_call 24; ((with_reducible refine (HNR.out _).mono ?_); rintro e w4 ⟨rfl, rfl⟩)) | (go_at_call 25; ((with_reducible refine (HIP.out _ ad3 cp3 (HV3.out.below (below_one _)) HL3.out HM3.out).mono ?_); rintro e w5 ⟨rfl, hb5⟩; have hx5 := (hb5.block _ (Nat.lt_of_lt_of_le (Array.getElem?_eq_some_iff.1 HX3.out).1 (below_one (w := w3) _).size)).trans (((below_one (w := w3) _).block _ (Array.getElem?_eq_some_iff.1 HX3.out).1).trans HX3.out); have hp5 := (hb5.block w3.heap.size (by simp)).trans (heap_alloc_new w3 _); have HX5 := Lib.hid hx5; have HB5 := Lib.hid (Below.next (HB3.out.alloc HB3.out.size (.cells #[.slice ad3 a.length cp3, .int .i64 m] 30)) hb5); have HW5 := Lib.hid ((below_one (w := w3) (.cells #[.slice ad3 a.length cp3, .int .i64 m] 30)).trans (hb5.mono (by simp))); have p0 : w5.cell? ⟨w3.heap.size, 0, none⟩ = some (.slice ad3 a.length cp3) := cell_of hp5 0 rfl; have p1 : w5.cell? ⟨w3.heap.size, 1, none⟩ = some (.int .i64 m) := cell_of hp5 1 rfl; have q0 : w5.cell? ⟨w.heap.size, 0, none⟩ = some (.slice none 0 0) := cell_of hx5 0 rfl; have q1 : w5.cell? ⟨w.heap.size, 1, none⟩ = some (.int .i64 0) := cell_of hx5 1 rfl; have g5 := fun i => free_of hx5 i; clear hb5 hx5 hp5)) | fail)
        refine bodyPost_ret (readp_resP _ _ _ _ (setp_block HX5.out) _ 0 rfl rfl) rfl ⟨ad3, cp3, by rw [HR.out], ?_, by rw [HR.out]; exact HL3.out, HM3.out, (HB5.out.setCell (by simp) _).setCell (by simp) _⟩
        rw [HR.out]
        have hv := HV3.out
        obtain ⟨b3, o3, rfl, hc3⟩ := bytes_cell hv HAL.out
        have hne := not_there HX3.out (hc3 0 HAL.out)
        have hv5 : Bytes w5 (.slice (some ⟨b3, o3, none⟩) a.length cp3) a := hv.below HW5.out
        exact bytes_set (bytes_set hv5 rfl (fun x hx => by cases hx; exact hne)) rfl (fun x hx => by cases hx; exact hne)
end Go.Proofs.YtbaceiohcbhpaaaDoor
