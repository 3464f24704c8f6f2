/- The program's Read and ReadPrefix, by contract. -/
import Derived.Test.YtbaceiohcbhpaaaDoorAddrP8
import Derived.Test.YtbaceiohcbhpaaaDoorAddr8
namespace Go.Proofs.YtbaceiohcbhpaaaDoor
set_option linter.unusedVariables false
set_option linter.unusedSimpArgs false
set_option maxRecDepth 100000
open Go.RowKit

theorem splitn_any (s : ByteArray) (c : UInt8) (n : Nat) (hn : 1 ≤ n) (hn2 : n ≤ 100) (hs : s.size ≤ 1000000) (w : World) :
    Calls Tryd.prog 49 #[.string s, .string ⟨#[c]⟩, .int .i64 n] w (SplitRet w (splitK c (min n (s.size + 1) - 1) s.data.toList)) := by
  have HG := Lib.hid (gensplit_any s c n hn hn2 hs w)
  go_enter Tryd.func49, Tryd.ntmps49
  go_wp2_with (first | (go_at_call 53; ((with_reducible refine HG.out.mono ?_); rintro e w2 ⟨cp, rfl, h1, h2⟩)) | fail)
  go_ret
  exact ⟨cp, rfl, h1, h2⟩
def FieldsRet (w : World) (n : Nat) (L : List (List UInt8)) (e : Ending) (w' : World) : Prop :=
  ∃ cp, e = .returned (.tuple #[.slice (some ⟨w.heap.size, 0, none⟩) L.length cp, .bool (L.length == n)]) ∧ RowS w.heap.size w' L ∧ Below w.heap.size w w'
theorem afields_any (s : ByteArray) (c : UInt8) (n : Nat) (hn : 1 ≤ n) (hn2 : n ≤ 50) (hs : s.size ≤ 1000000) (w : World) :
    Calls Tryd.prog 36 #[.string s, .string ⟨#[c]⟩, .int .i64 n] w (FieldsRet w n (splitK c (min n s.data.toList.length) s.data.toList)) := by
  have hlen : s.data.toList.length = s.size := by simp
  have h0 := splitn_any s c (n + 1) (by omega) (by omega) hs w
  rw [show min (n + 1) (s.size + 1) - 1 = min n s.data.toList.length by omega] at h0
  have HG : Hid (Calls Tryd.prog 49 #[.string s, .string ⟨#[c]⟩, .int .i64 ((n : Int) + 1)] w (SplitRet w (splitK c (min n s.data.toList.length) s.data.toList))) := Lib.hid h0
  have hw := wrap_i64 ((n : Int) + 1) (by omega) (by omega)
  generalize splitK c (min n s.data.toList.length) s.data.toList = L at *
  clear h0 hlen
  by_cases hl : L.length = n
  · have e1 : ((L.length : Int) == n) = true := beq_i (by omega)
    have HE : Hid ((L.length == n) = true) := Lib.hid (by simpa using hl)
    clear hl
    go_enter Tryd.func36, Tryd.ntmps36
    go_wp2_with (first | (go_at_call 49; ((with_reducible refine HG.out.mono ?_); rintro e w2 ⟨cp, rfl, h1, h2⟩)) | fail)
    go_ret2
    exact ⟨cp, by rw [HE.out]; rfl, h1, h2⟩
  · have e1 : ((L.length : Int) == n) = false := bne_i (by omega)
    have HE : Hid ((L.length == n) = false) := Lib.hid (by simpa using hl)
    clear hl
    go_enter Tryd.func36, Tryd.ntmps36
    go_wp2_with (first | (go_at_call 49; ((with_reducible refine HG.out.mono ?_); rintro e w2 ⟨cp, rfl, h1, h2⟩)) | fail)
    go_ret2
    exact ⟨cp, by rw [HE.out]; rfl, h1, h2⟩
def OptRet (w : World) (o : Option (List UInt8)) (e : Ending) (w' : World) : Prop :=
  ∃ ad cp, e = .returned (.tuple #[.slice ad (o.getD []).length cp, .bool o.isSome]) ∧ Bytes w' (.slice ad (o.getD []).length cp) (o.getD []) ∧ (o.getD []).length ≤ cp ∧ cp ≤ maxLen ∧ Below w.heap.size w w'
theorem optret_none {w w' : World} {o : Option (List UInt8)} (h : o = none) (hb : Below w.heap.size w w') : OptRet w o (.returned (.tuple #[.slice none 0 0, .bool false])) w' := by
  subst h
  exact ⟨none, 0, rfl, bytes_nil _, Nat.le_refl _, Nat.zero_le _, hb⟩
theorem optret_some {w w' : World} {o : Option (List UInt8)} {a : List UInt8} {ad : Option Addr} {cp : Nat} (h : o = some a) (hv : Bytes w' (.slice ad a.length cp) a) (h1 : a.length ≤ cp) (h2 : cp ≤ maxLen) (hb : Below w.heap.size w w') : OptRet w o (.returned (.tuple #[.slice ad a.length cp, .bool true])) w' := by
  subst h
  exact ⟨ad, cp, rfl, hv, h1, h2, hb⟩
theorem shortP_no {s : List UInt8} {L : List (List UInt8)} (hL : splitK 46 (min 4 s.length) s = L) (h : L.length ≠ 4) : shortP s = none := by
  unfold shortP fieldsP; rw [hL, if_neg h]; rfl
theorem shortP_go {s : List UInt8} {L : List (List UInt8)} (hL : splitK 46 (min 4 s.length) s = L) (h : L.length = 4) : shortP s = shortGo L := by
  unfold shortP fieldsP; rw [hL, if_pos h]; rfl
theorem longP_no {s : List UInt8} {L : List (List UInt8)} (hL : splitK 58 (min 8 s.length) s = L) (h : L.length ≠ 8) : longP s = none := by
  unfold longP fieldsP; rw [hL, if_neg h]; rfl
theorem longP_go {s : List UInt8} {L : List (List UInt8)} (hL : splitK 58 (min 8 s.length) s = L) (h : L.length = 8) : longP s = longGo L := by
  unfold longP fieldsP; rw [hL, if_pos h]; rfl
theorem take_getD {L : List (List UInt8)} {k : Nat} (h : k < L.length) : L.take (k + 1) = L.take k ++ [L.getD k []] := by
  rw [List.take_succ_eq_append_getElem h]; simp [List.getD, List.getElem?_eq_getElem h]
theorem take_drop' {L : List (List UInt8)} (k : Nat) : L = L.take k ++ L.drop k := (List.take_append_drop k L).symm
theorem go_some {f : List UInt8} {L : List (List UInt8)} {k : Nat} {O : List UInt8} (h : shortGo (L.take k) = some O) (hk : k < L.length) (hf : L.getD k [] = f) (hok : okS f = true) : shortGo (L.take (k + 1)) = some (O ++ [UInt8.ofNat (rdVal f).toNat]) := by
  rw [take_getD hk, shortGo_snoc, h, hf, Option.bind_some, if_pos hok]
theorem go_none {f : List UInt8} {L : List (List UInt8)} {k : Nat} {O : List UInt8} (h : shortGo (L.take k) = some O) (hk : k < L.length) (hf : L.getD k [] = f) (hok : okS f = false) : shortGo L = none := by
  rw [take_drop' (L := L) (k + 1)]
  exact shortGo_none (by rw [take_getD hk, shortGo_snoc, h, hf, Option.bind_some, hok]; rfl)
theorem gol_some {f : List UInt8} {L : List (List UInt8)} {k : Nat} {O : List UInt8} (h : longGo (L.take k) = some O) (hk : k < L.length) (hf : L.getD k [] = f) (hok : okL f = true) : longGo (L.take (k + 1)) = some (O ++ hxBytes f) := by
  rw [take_getD hk, longGo_snoc, h, hf, Option.bind_some, if_pos hok]
theorem gol_none {f : List UInt8} {L : List (List UInt8)} {k : Nat} {O : List UInt8} (h : longGo (L.take k) = some O) (hk : k < L.length) (hf : L.getD k [] = f) (hok : okL f = false) : longGo L = none := by
  rw [take_drop' (L := L) (k + 1)]
  exact longGo_none (by rw [take_getD hk, longGo_snoc, h, hf, Option.bind_some, hok]; rfl)
/-- a piece is no longer than the text -/
theorem splitK_piece (c : UInt8) : ∀ (k : Nat) (s : List UInt8), ∀ p ∈ splitK c k s, p.length ≤ s.length
  | 0, s, p, hp => by rw [List.mem_singleton.1 hp]; exact Nat.le_refl _
  | k + 1, s, p, hp => by
    rcases c_or c s with h | ⟨q, r, rfl, hq⟩
    · rw [splitK_no h] at hp; rw [List.mem_singleton.1 hp]; exact Nat.le_refl _
    · rw [splitK_at r hq] at hp
      rcases List.mem_cons.1 hp with rfl | hp
      · simp
      · have := splitK_piece c k r p hp
        simp; omega
theorem getD_mem {L : List (List UInt8)} {k : Nat} (h : k < L.length) : L.getD k [] ∈ L := by
  simp only [List.getD, List.getElem?_eq_getElem h, Option.getD_some]; exact List.getElem_mem _
set_option maxHeartbeats 8000000 in
theorem areadshort_any (s : ByteArray) (hs : s.size ≤ 1000000) (w : World) : Calls Tryd.prog 19 #[.string s] w (OptRet w (shortP s.data.toList)) := by
  obtain ⟨L, hL⟩ : ∃ L, splitK 46 (min 4 s.data.toList.length) s.data.toList = L := ⟨_, rfl⟩
  have h0 := afields_any s 46 4 (by omega) (by omega) hs w
  rw [hL] at h0
  have hpl : ∀ p ∈ L, p.length ≤ 1000000 := fun p hp => by have := splitK_piece 46 _ _ p (by rw [hL]; exact hp); simp at this; omega
  by_cases hl : L.length = 4
  · have HF : Hid (Calls Tryd.prog 36 #[.string s, .string ⟨#[46]⟩, .int .i64 4] w fun e w' => ∃ cp, e = .returned (.tuple #[.slice (some ⟨w.heap.size, 0, none⟩) L.length cp, .bool true]) ∧ RowS w.heap.size w' L ∧ Below w.heap.size w w') := Lib.hid (by
      have := h0; unfold FieldsRet at this; rw [show (L.length == 4) = true by simpa using hl] at this; exact this)
    have HP := Lib.hid (shortP_go hL hl)
    have HL := Lib.hid hl
    have HPL := Lib.hid hpl
    have hlL : (L.length : Int) ≤ 4 := by omega
    clear h0 hL hl hpl
    go_enter Tryd.func19, Tryd.ntmps19
    go_wp2_with (first | (go_at_call 36; ((with_reducible refine HF.out.mono ?_); rintro e w2 ⟨cl, rfl, hrow, hb2⟩; have HROW := Lib.hid hrow; have HB := Lib.hid hb2; clear hrow hb2)) | fail)
    go_loopw [6, 20] (fun v i wr => ∃ (k : Nat) (O : List UInt8), i = .int .i64 k ∧ k ≤ L.length ∧ O.length = k ∧ shortGo (L.take k) = some O ∧ wr.ownsRow w2.heap.size 5 1 v O.length (cellsOf O) ∧ Below w2.heap.size w2 wr) (fun _ i _ => L.length - (intOf i).toNat)
    case atStart => exact ⟨0, [], rfl, by omega, rfl, by simp [shortGo], World.ownsRow_nil _ _ _ _, Below.refl _ _⟩
    case round =>
      obtain ⟨k, O, rfl, hk, hOk, hgo, hown, hbr⟩ := hrel
      have HGO := Lib.hid hgo
      have HO := Lib.hid hown
      have HBR := Lib.hid hbr
      have HOK := Lib.hid hOk
      by_cases hlt : k < L.length
      · have hO4 : O.length ≤ 4 := by have := HL.out; omega
        have ca : wr.cell? ⟨w.heap.size, k, none⟩ = some (.string (strB (L.getD k []))) := (hbr.cell (p := ⟨w.heap.size, k, none⟩) (World.block_lt_of_cell? w2 _ (HROW.out k hlt))).trans (HROW.out k hlt)
        obtain ⟨f, hf⟩ : ∃ f, L.getD k [] = f := ⟨_, rfl⟩
        have hfl : f.length ≤ 1000000 := by rw [← hf]; exact HPL.out _ (getD_mem hlt)
        rw [hf] at ca
        have HRD : Hid (∀ w, Calls Tryd.prog 24 #[.string (strB f)] w fun e w' => e = .returned (.tuple #[.int .u64 (rdVal f), .int .i64 (rdCode f)]) ∧ w = w') := Lib.hid (fun w => read_any (strB f) (by rw [strB_size]; unfold maxLen; omega) w)
        obtain ⟨vf, hvf⟩ : ∃ v, rdVal f = v := ⟨_, rfl⟩
        obtain ⟨cf, hcf⟩ : ∃ c, rdCode f = c := ⟨_, rfl⟩
        rw [hvf, hcf] at HRD
        have hk0 : (0 : Int) ≤ k := by omega
        have hk1 : (k : Int) < L.length := by omega
        cases hok : okS f with
        | false =>
          have HN := Lib.hid (go_none hgo hlt hf hok)
          have hbad : cf ≠ 0 ∨ (cf = 0 ∧ 255 < vf) := by
            unfold okS at hok; rw [hvf, hcf] at hok
            by_cases h : cf = 0
            · right; refine ⟨h, ?_⟩
              rw [decide_eq_true h, Bool.true_and] at hok
              have := of_decide_eq_false hok; omega
            · left; exact h
          clear hgo hown hbr hf hvf hcf hok hOk
          rcases hbad with h1 | ⟨h1, h2⟩
          · have e1 : (cf != 0) = true := bnne_i h1
            go_wp2_with (first | (go_at_call 24; ((with_reducible refine (HRD.out _).mono ?_); rintro e w5 ⟨rfl, rfl⟩)) | fail)
            go_ret2
            exact optret_none (by rw [HP.out]; exact HN.out) (Below.next HB.out HBR.out)
          · subst h1
            go_wp2_with (first | (go_at_call 24; ((with_reducible refine (HRD.out _).mono ?_); rintro e w5 ⟨rfl, rfl⟩)) | fail)
            go_ret2
            exact optret_none (by rw [HP.out]; exact HN.out) (Below.next HB.out HBR.out)
        | true =>
          have HN := Lib.hid (go_some hgo hlt hf hok)
          obtain ⟨hc0, hv0⟩ : cf = 0 ∧ vf ≤ 255 := by
            unfold okS at hok; rw [hvf, hcf, Bool.and_eq_true, decide_eq_true_eq, decide_eq_true_eq] at hok; exact hok
          obtain ⟨u, hu1, hu2, hu3⟩ := decs_rd f (by rw [hcf]; exact hc0)
          rw [hvf] at hu1
          subst hc0 hu1
          rw [hvf] at HN
          obtain ⟨y, hy⟩ : ∃ y, UInt8.ofNat u = y := ⟨_, rfl⟩
          have hyu : y.toNat = u := by rw [← hy, toNat_ofNat (by omega)]
          have HN2 : Hid (shortGo (L.take (k + 1)) = some (O ++ [y])) := Lib.hid (by rw [HN.out, ← hy]; rfl)
          have hw8 := wrap_u8 (u : Int) (by omega) (by omega)
          subst hyu
          clear hgo hown hbr hf hvf hcf hok hOk hy hu2 hu3
          go_wp2_with (first | (go_at_call 24; ((with_reducible refine (HRD.out _).mono ?_); rintro e w5 ⟨rfl, rfl⟩)) | (at_builtin; refine wpList_append_bytes rfl _ _ rfl w2.heap.size u6 O.length (cellsOf O) rfl (HO.out.alloc _) (.slice (some ⟨wr.heap.size, 0, none⟩) 1 1) [y] rfl (bytes_one wr y) (fun n cap h => by cases h) (by simp; omega) (by have := HBR.out.size; simp; omega) ?_; intro v' w4 hown hgrow; have HA := Lib.hid (after_app (x := [y]) HO.out (HBR.out.alloc HBR.out.size _) hown hgrow); clear hown hgrow) | fail)
          go_roundw
          case rel => exact ⟨k + 1, O ++ [y], by go_num, by omega, by have := HOK.out; simp; omega, HN2.out, HA.out.1, HA.out.2⟩
          case measure => simp [intOf]; omega
      · have HE : Hid (shortGo L = some O) := Lib.hid (by rw [List.take_of_length_le (by omega)] at hgo; exact hgo)
        obtain ⟨ad, cp, rfl, hv, h1, h2⟩ := own_slice hown
        clear hgo hown hbr hOk
        go_wp2_with fail
        go_ret2
        exact optret_some (by rw [HP.out]; exact HE.out) hv h1 h2 (Below.next HB.out HBR.out)
  · have HF : Hid (Calls Tryd.prog 36 #[.string s, .string ⟨#[46]⟩, .int .i64 4] w fun e w' => ∃ cp, e = .returned (.tuple #[.slice (some ⟨w.heap.size, 0, none⟩) L.length cp, .bool false]) ∧ RowS w.heap.size w' L ∧ Below w.heap.size w w') := Lib.hid (by
      have := h0; unfold FieldsRet at this; rw [show (L.length == 4) = false by simpa using hl] at this; exact this)
    have HP := Lib.hid (shortP_no hL hl)
    clear h0 hL hl hpl
    go_enter Tryd.func19, Tryd.ntmps19
    go_wp2_with (first | (go_at_call 36; ((with_reducible refine HF.out.mono ?_); rintro e w2 ⟨cl, rfl, hrow, hb2⟩; have HROW := Lib.hid hrow; have HB := Lib.hid hb2; clear hrow hb2)) | fail)
    go_ret2
    exact optret_none HP.out HB.out
set_option maxHeartbeats 8000000 in
theorem areadlong_any (s : ByteArray) (hs : s.size ≤ 1000000) (w : World) : Calls Tryd.prog 20 #[.string s] w (OptRet w (longP s.data.toList)) := by
  obtain ⟨L, hL⟩ : ∃ L, splitK 58 (min 8 s.data.toList.length) s.data.toList = L := ⟨_, rfl⟩
  have h0 := afields_any s 58 8 (by omega) (by omega) hs w
  rw [hL] at h0
  have hpl : ∀ p ∈ L, p.length ≤ 1000000 := fun p hp => by have := splitK_piece 58 _ _ p (by rw [hL]; exact hp); simp at this; omega
  by_cases hl : L.length = 8
  · have HF : Hid (Calls Tryd.prog 36 #[.string s, .string ⟨#[58]⟩, .int .i64 8] w fun e w' => ∃ cp, e = .returned (.tuple #[.slice (some ⟨w.heap.size, 0, none⟩) L.length cp, .bool true]) ∧ RowS w.heap.size w' L ∧ Below w.heap.size w w') := Lib.hid (by
      have := h0; unfold FieldsRet at this; rw [show (L.length == 8) = true by simpa using hl] at this; exact this)
    have HP := Lib.hid (longP_go hL hl)
    have HL := Lib.hid hl
    have HPL := Lib.hid hpl
    have hlL : (L.length : Int) ≤ 8 := by omega
    clear h0 hL hl hpl
    go_enter Tryd.func20, Tryd.ntmps20
    go_wp2_with (first | (go_at_call 36; ((with_reducible refine HF.out.mono ?_); rintro e w2 ⟨cl, rfl, hrow, hb2⟩; have HROW := Lib.hid hrow; have HB := Lib.hid hb2; clear hrow hb2)) | fail)
    go_loopw [6, 20] (fun v i wr => ∃ (k : Nat) (O : List UInt8), i = .int .i64 k ∧ k ≤ L.length ∧ O.length = 2 * k ∧ longGo (L.take k) = some O ∧ wr.ownsRow w2.heap.size 5 1 v O.length (cellsOf O) ∧ Below w2.heap.size w2 wr) (fun _ i _ => L.length - (intOf i).toNat)
    case atStart => exact ⟨0, [], rfl, by omega, rfl, by simp [longGo], World.ownsRow_nil _ _ _ _, Below.refl _ _⟩
    case round =>
      obtain ⟨k, O, rfl, hk, hOk, hgo, hown, hbr⟩ := hrel
      have HO := Lib.hid hown
      have HBR := Lib.hid hbr
      have HOK := Lib.hid hOk
      by_cases hlt : k < L.length
      · have hO4 : O.length ≤ 16 := by have := HL.out; omega
        have ca : wr.cell? ⟨w.heap.size, k, none⟩ = some (.string (strB (L.getD k []))) := (hbr.cell (p := ⟨w.heap.size, k, none⟩) (World.block_lt_of_cell? w2 _ (HROW.out k hlt))).trans (HROW.out k hlt)
        obtain ⟨f, hf⟩ : ∃ f, L.getD k [] = f := ⟨_, rfl⟩
        have hfl : f.length ≤ 1000000 := by rw [← hf]; exact HPL.out _ (getD_mem hlt)
        rw [hf] at ca
        have HRD : Hid (∀ w, Calls Tryd.prog 37 #[.string (strB f)] w fun e w' => ∃ ad cp, e = .returned (.tuple #[.slice ad (hxBytes f).length cp, .int .i64 (hxCode f)]) ∧ Bytes w' (.slice ad (hxBytes f).length cp) (hxBytes f) ∧ Below w.heap.size w w') := Lib.hid (fun w => (readhex_any (strB f) (by rw [strB_size]; omega) w).mono (by
          rintro e w' ⟨v, rfl, hv, hb⟩
          obtain ⟨ad, cp, rfl, h⟩ := id hv
          exact ⟨ad, cp, rfl, hv, hb⟩))
        have hhl := hx_len f
        have hk0 : (0 : Int) ≤ k := by omega
        have hk1 : (k : Int) < L.length := by omega
        cases hok : okL f with
        | false =>
          have HN := Lib.hid (gol_none hgo hlt hf hok)
          have hbad : hxCode f ≠ 0 ∨ (hxCode f = 0 ∧ (hxBytes f).length ≠ 2) := by
            unfold okL at hok
            by_cases h : hxCode f = 0
            · right; refine ⟨h, ?_⟩
              rw [decide_eq_true h, Bool.true_and] at hok
              exact of_decide_eq_false hok
            · left; exact h
          clear hgo hown hbr hf hok hOk
          generalize hxCode f = cf at *
          generalize hxBytes f = H2 at *
          rcases hbad with h1 | ⟨h1, h2⟩
          · have e1 : (cf != 0) = true := bnne_i h1
            go_wp2_with (first | (go_at_call 37; ((with_reducible refine (HRD.out _).mono ?_); rintro e w5 ⟨ad5, cp5, rfl, hv5, hb5⟩; have HV5 := Lib.hid hv5; have HB5 := Lib.hid (Below.next HBR.out hb5); have HO5 := Lib.hid (own_below HO.out hb5); clear hv5 hb5)) | fail)
            go_ret2
            exact optret_none (by rw [HP.out]; exact HN.out) (Below.next HB.out HB5.out)
          · subst h1
            have e1 : ((H2.length : Int) != 2) = true := bnne_i (by omega)
            clear h2
            go_wp2_with (first | (go_at_call 37; ((with_reducible refine (HRD.out _).mono ?_); rintro e w5 ⟨ad5, cp5, rfl, hv5, hb5⟩; have HV5 := Lib.hid hv5; have HB5 := Lib.hid (Below.next HBR.out hb5); have HO5 := Lib.hid (own_below HO.out hb5); clear hv5 hb5)) | fail)
            go_ret2
            exact optret_none (by rw [HP.out]; exact HN.out) (Below.next HB.out HB5.out)
        | true =>
          have HN := Lib.hid (gol_some hgo hlt hf hok)
          obtain ⟨hc0, hv0⟩ : hxCode f = 0 ∧ (hxBytes f).length = 2 := by
            unfold okL at hok; rw [Bool.and_eq_true, decide_eq_true_eq, decide_eq_true_eq] at hok; exact hok
          rw [hc0] at HRD
          clear hgo hown hbr hf hok hOk hc0
          generalize hxBytes f = H2 at *
          have HH2 := Lib.hid hv0
          have HRD : Hid (∀ w, Calls Tryd.prog 37 #[.string (strB f)] w fun e w' => ∃ b off cp, e = .returned (.tuple #[.slice (some ⟨b, off, none⟩) 2 cp, .int .i64 0]) ∧ Bytes w' (.slice (some ⟨b, off, none⟩) 2 cp) H2 ∧ Below w.heap.size w w') := Lib.hid (fun w => (HRD.out w).mono (by
            rintro e w' ⟨ad, cp, rfl, hv, hb⟩
            obtain ⟨b, off, rfl, _⟩ := bytes_cell hv (by omega)
            rw [hv0] at hv ⊢
            exact ⟨b, off, cp, rfl, hv, hb⟩))
          have e1 : ((2 : Int) != 2) = false := by decide
          clear hv0
          go_wp2_with (first | (go_at_call 37; ((with_reducible refine (HRD.out _).mono ?_); rintro e w5 ⟨b5, o5, cp5, rfl, hv5, hb5⟩; have HV5 := Lib.hid hv5; have HB5 := Lib.hid (Below.next HBR.out hb5); have HO5 := Lib.hid (own_below HO.out hb5); clear hv5 hb5)) | (at_builtin; refine wpList_append_bytes rfl _ _ rfl w2.heap.size u6 O.length (cellsOf O) rfl HO5.out (.slice (some ⟨b5, o5, none⟩) 2 cp5) H2 rfl HV5.out (fun n cap h => by cases h) (by have := HH2.out; omega) (by have := HB5.out.size; omega) ?_; intro v' w4 hown hgrow; have HA := Lib.hid (after_app (x := H2) HO.out HB5.out hown hgrow); clear hown hgrow) | fail)
          go_roundw
          case rel => exact ⟨k + 1, O ++ H2, by go_num, by omega, by have := HOK.out; have := HH2.out; simp; omega, HN.out, HA.out.1, HA.out.2⟩
          case measure => simp [intOf]; omega
      · have HE : Hid (longGo L = some O) := Lib.hid (by rw [List.take_of_length_le (by omega)] at hgo; exact hgo)
        obtain ⟨ad, cp, rfl, hv, h1, h2⟩ := own_slice hown
        clear hgo hown hbr hOk
        go_wp2_with fail
        go_ret2
        exact optret_some (by rw [HP.out]; exact HE.out) hv h1 h2 (Below.next HB.out HBR.out)
  · have HF : Hid (Calls Tryd.prog 36 #[.string s, .string ⟨#[58]⟩, .int .i64 8] w fun e w' => ∃ cp, e = .returned (.tuple #[.slice (some ⟨w.heap.size, 0, none⟩) L.length cp, .bool false]) ∧ RowS w.heap.size w' L ∧ Below w.heap.size w w') := Lib.hid (by
      have := h0; unfold FieldsRet at this; rw [show (L.length == 8) = false by simpa using hl] at this; exact this)
    have HP := Lib.hid (longP_no hL hl)
    clear h0 hL hl hpl
    go_enter Tryd.func20, Tryd.ntmps20
    go_wp2_with (first | (go_at_call 36; ((with_reducible refine HF.out.mono ?_); rintro e w2 ⟨cl, rfl, hrow, hb2⟩; have HROW := Lib.hid hrow; have HB := Lib.hid hb2; clear hrow hb2)) | fail)
    go_ret2
    exact optret_none HP.out HB.out
end Go.Proofs.YtbaceiohcbhpaaaDoor
