import Derived.Test.YtbaceiohcbhpaaaDoorAddr7
namespace Go.Proofs.YtbaceiohcbhpaaaDoor
set_option linter.unusedVariables false
set_option linter.unusedSimpArgs false
set_option maxRecDepth 100000
open Go.RowKit

theorem bytes_one (w : World) (y : UInt8) : Bytes (w.alloc (.cells #[.int .u8 y.toNat] 5)) (.slice (some ⟨w.heap.size, 0, none⟩) 1 1) [y] := by
  have h := heap_alloc_new w (.cells #[.int .u8 y.toNat] 5)
  refine ⟨_, _, rfl, .inr ⟨_, 0, rfl, fun i hi => ?_⟩⟩
  rw [Nat.zero_add]
  match i, hi with
  | 0, _ => exact cell_of h 0 rfl
def Read4Ret (w : World) (x : Option (List UInt8)) (e : Ending) (w' : World) : Prop :=
  ∃ ad n cp, e = .returned (.tuple #[.slice ad n cp, .bool x.isSome]) ∧ Bytes w' (.slice ad n cp) (x.getD []) ∧ Below w.heap.size w w'
theorem rread_ok (s : ByteArray) (P : List UInt8) (hP : P.length ≤ 1000) (hs : s = strB P) (u : Nat) (hu : rdVal P = u) (hc : rdCode P = 0) (w : World) :
    Calls Tryd.prog 22 #[.string s] w fun e w' => e = .returned (.tuple #[.int .u64 u, .int .i64 0]) ∧ w = w' := by
  have := rread_c s P hP hs w
  rw [hu, hc] at this; exact this
theorem get_byte (s : ByteArray) (k : Nat) (h : k < s.size) : s.data.toList.getD k 0 = s[k] := by
  simp only [List.getD, List.getElem?_eq_getElem (show k < s.data.toList.length by simpa using h), Option.getD_some]
  rfl
theorem byte_ne {x c : UInt8} (h : x ≠ c) : ((x.toNat : Int) != c.toNat) = true := by
  rw [bne_iff_ne]
  intro e
  exact h (UInt8.toNat_inj.1 (by omega))
theorem own_slice {w : World} {B : Nat} {v : Value} {O : List UInt8} (h : w.ownsRow B 5 1 v O.length (cellsOf O)) : ∃ ad cp, v = .slice ad O.length cp ∧ Bytes w (.slice ad O.length cp) O ∧ O.length ≤ cp ∧ cp ≤ maxLen := by
  have hb := bytes_own h
  rcases h.2 with ⟨h1, h2⟩ | ⟨g, c, cur, h1, _, _, h2, h3, _⟩
  · refine ⟨none, 0, by rw [h1, h2], ?_, by omega, Nat.zero_le _⟩
    rw [h1] at hb; rw [h2]; exact hb
  · refine ⟨_, c, h1, ?_, h2, h3⟩
    rw [h1] at hb; exact hb
theorem ref_bad {S : List UInt8} (h : guessAll (S.length == 39) (splitP S) = none) : refRead S = none := by unfold refRead; rw [h]; rfl
theorem ref_good {S O : List UInt8} (h : guessAll (S.length == 39) (splitP S) = some O) : refRead S = if (O.length = if S.length = 39 then 16 else 4) ∧ printA O = S then some O else none := by unfold refRead; rw [h]; rfl
theorem grown_of_below {w w' : World} (h : Below w.heap.size w w') : w.grownBy w' none := ⟨h.os, h.tape, h.output, h.size, fun k hk _ => h.block k hk⟩
theorem own_below {w w' : World} {B : Nat} {v : Value} {e : TypeId} {n : Nat} {xs : List Value} (h : w.ownsRow B e 1 v n xs) (hb : Below w.heap.size w w') : w'.ownsRow B e 1 v n xs :=
  h.kept (grown_of_below hb) (by cases v.ownBlock <;> simp)
theorem own_base {w : World} {B : Nat} {v : Value} {e : TypeId} {n : Nat} {xs : List Value} (h : w.ownsRow B e 1 v n xs) : ∀ k, v.ownBlock = some k → B ≤ k := by
  intro k hk
  rcases h.2 with ⟨h1, _⟩ | ⟨g, c, cur, h1, h2, _⟩
  · rw [h1] at hk; cases hk
  · rw [h1] at hk; cases hk; exact h2
theorem hx_len (P : List UInt8) : (hxBytes P).length ≤ P.length := by
  unfold hxBytes
  split
  · rename_i h
    rw [Bool.and_eq_true] at h
    have h2 : P.length % 2 = 0 := by simpa using h.2
    have := unhex_len (P.length / 2) P (by omega)
    omega
  · simp
theorem after_app {w wr w3 w4 : World} {v v' : Value} {O x : List UInt8} (hO : wr.ownsRow w.heap.size 5 1 v O.length (cellsOf O)) (hB : Below w.heap.size w w3) (hown : w4.ownsRow w.heap.size 5 1 v' (O.length + x.length) (cellsOf O ++ cellsOf x)) (hgrow : w3.grownBy w4 v.ownBlock) :
    w4.ownsRow w.heap.size 5 1 v' (O ++ x).length (cellsOf (O ++ x)) ∧ Below w.heap.size w w4 := by
  refine ⟨?_, hB.grown hgrow hB.size (own_base hO)⟩
  rw [List.length_append]
  have : cellsOf (O ++ x) = cellsOf O ++ cellsOf x := by simp [cellsOf]
  rw [this]; exact hown
set_option maxHeartbeats 16000000 in
theorem rread4_any (s : ByteArray) (hs : s.size ≤ 900) (w : World) : Calls Tryd.prog 7 #[.string s] w (Read4Ret w (refRead s.data.toList)) := by
  obtain ⟨six, hsix⟩ : ∃ b, (s.data.toList.length == 39) = b := ⟨_, rfl⟩
  have hlen : s.data.toList.length = s.size := by simp
  have e39 : ((s.size : Int) == 39) = six := by rw [← hsix, hlen, Bool.eq_iff_iff]; simp; omega
  have HL := Lib.hid hlen
  have HSIX := Lib.hid hsix
  clear hsix hlen
  go_enter Tryd.func7, Tryd.ntmps7
  go_wp2_with fail
  go_loopw [4, 6, 7] (fun v f i wr => ∃ (k q : Nat) (O : List UInt8), i = .int .i64 k ∧ f = .int .i64 q ∧ wr.ownsRow w.heap.size 5 1 v O.length (cellsOf O) ∧ Below w.heap.size w wr ∧ k ≤ s.size + 1 ∧ RInv six s.data.toList k q O) (fun _ _ i _ => s.size + 1 - (intOf i).toNat)
  case atStart => exact ⟨0, 0, [], rfl, rfl, World.ownsRow_made w #[] 0 (Nat.le_refl _) (by decide) rfl, (Below.refl _ _).alloc (Nat.le_refl _) _, by omega, rinv_start _ _⟩
  case round =>
    obtain ⟨k, q, O, rfl, rfl, hown, hbw, hk, hri⟩ := hrel
    have HO := Lib.hid hown
    have HB := Lib.hid hbw
    have HRI := Lib.hid hri
    have hq : q ≤ k := hri.1
    have hOl : O.length ≤ q := hri.2.1
    have hsz : w.heap.size ≤ wr.heap.size := hbw.size
    clear hown hbw hri
    by_cases hlt : k ≤ s.size
    · obtain ⟨P, hP⟩ : ∃ P, piece s.data.toList q k = P := ⟨_, rfl⟩
      have HPL : Hid (P.length ≤ 1000) := Lib.hid (by rw [← hP, piece_len (by rw [HL.out]; exact hlt)]; omega)
      have HEX : Hid (s.extract q k = strB P) := Lib.hid (by rw [ext_piece, hP])
      have hcut := fun h => rinv_cut HRI.out (by rw [HL.out]; exact hlt) h
      rw [hP, HL.out] at hcut
      have HCUT := Lib.hid hcut
      clear hcut
      have hpl := piece_len (S := s.data.toList) (q := q) (k := k) (by rw [HL.out]; exact hlt)
      rw [hP] at hpl
      have HPK := Lib.hid hpl
      clear hpl hP
      have hq0 : (0 : Int) ≤ q := by omega
      have hq1 : (q : Int) ≤ k := by omega
      have hkl : (k : Int) ≤ s.size := by omega
      by_cases hend : k = s.size
      · have HC := Lib.hid (HCUT.out (.inl hend))
        have hki : ¬ (k : Int) < s.size := by omega
        have hki2 : ¬ k < s.size := by omega
        clear hend
        cases six with
        | true =>
          cases hg : guessOne true P with
          | none =>
            have hcode : (hxCode P != 0) = true := by
              unfold guessOne at hg
              rw [if_pos rfl] at hg
              split at hg
              · cases hg
              · rename_i h; simpa using h
            have HR : Hid (refRead s.data.toList = none) := Lib.hid (ref_bad (by rw [HSIX.out]; exact HC.out.1 hg))
            clear hg
            go_wp2_with (first | (go_at_call 21; ((with_reducible refine (rreadhex_c _ P HPL.out HEX.out _).mono ?_); rintro e w3 ⟨v3, rfl, hv3, hb3, hno3⟩; have HV3 := Lib.hid hv3; have HB3 := Lib.hid hb3; have HNO3 := Lib.hid hno3; clear hv3 hb3 hno3)) | fail)
            go_ret2
            exact ⟨none, 0, 0, by rw [HR.out]; rfl, by rw [HR.out]; exact bytes_nil _, Below.next HB.out HB3.out⟩
          | some x =>
            have hcode : (hxCode P != 0) = false ∧ hxBytes P = x := by
              unfold guessOne at hg
              rw [if_pos rfl] at hg
              split at hg
              · rename_i h; rw [h]; simp at hg; exact ⟨rfl, hg⟩
              · cases hg
            obtain ⟨hc1, hc2⟩ := hcode
            have hx1 := hx_len P
            have HN := Lib.hid (HC.out.2 x hg (by rw [← hc2]; have h2 := HPK.out; omega))
            have HX2 := Lib.hid hc2
            clear hc2 hg hx1
            go_wp2_with (first | (go_at_call 21; ((with_reducible refine (rreadhex_c _ P HPL.out HEX.out _).mono ?_); rintro e w3 ⟨v3, rfl, hv3, hb3, hno3⟩; have HV3 := Lib.hid hv3; have HB3 := Lib.hid hb3; have HNO3 := Lib.hid hno3; clear hv3 hb3 hno3)) | (at_builtin; refine wpList_append_bytes rfl _ _ rfl w.heap.size u4 O.length (cellsOf O) rfl (own_below HO.out HB3.out) v3 (hxBytes P) rfl HV3.out HNO3.out (by have := hx_len P; have := HPL.out; omega) (by have := HB.out.size; have := HB3.out.size; omega) ?_; intro v' w4 hown hgrow; have HA := Lib.hid (after_app HO.out (Below.next HB.out HB3.out) hown hgrow); clear hown hgrow) | fail)
            go_roundw
            case rel => exact ⟨k + 1, k + 1, O ++ hxBytes P, by go_num, by go_num, HA.out.1, HA.out.2, by omega, by rw [HX2.out]; exact HN.out⟩
            case measure => simp [intOf]; omega
        | false =>
          cases hg : guessOne false P with
          | none =>
            have hcode : (rdCode P != 0) = true := by
              unfold guessOne at hg
              rw [if_neg (by simp)] at hg
              split at hg
              · cases hg
              · rename_i h; simpa using h
            have HR : Hid (refRead s.data.toList = none) := Lib.hid (ref_bad (by rw [HSIX.out]; exact HC.out.1 hg))
            have HRD := Lib.hid (rread_c _ P HPL.out HEX.out)
            clear hg
            go_wp2_with (first | (go_at_call 22; ((with_reducible refine (HRD.out _).mono ?_); rintro e wm ⟨rfl, rfl⟩)) | fail)
            go_ret2
            exact ⟨none, 0, 0, by rw [HR.out]; rfl, by rw [HR.out]; exact bytes_nil _, HB.out⟩
          | some x =>
            have hcode : rdCode P = 0 ∧ x = [UInt8.ofNat ((rdVal P).toNat % 256)] := by
              unfold guessOne at hg
              rw [if_neg (by simp)] at hg
              split at hg
              · rename_i h; simp at hg; exact ⟨h, hg.symm⟩
              · cases hg
            obtain ⟨hc1, hc2⟩ := hcode
            obtain ⟨u, hu, hut, _⟩ := decs_rd P hc1
            obtain ⟨y, hy⟩ : ∃ y, UInt8.ofNat (u % 256) = y := ⟨_, rfl⟩
            have hyv : (u : Int) % 256 = (y.toNat : Int) := by rw [← hy, UInt8.toNat_ofNat']; omega
            have hxy : x = [y] := by rw [hc2, hu, ← hy]; simp
            have HRD := Lib.hid (rread_ok _ P HPL.out HEX.out u hu hc1)
            have hpl := HPK.out
            have HN := Lib.hid (HC.out.2 [y] (by rw [hg, hxy]) (by simp; omega))
            have hu0 : (0 : Int) ≤ u := by omega
            have hut2 : (u : Int) ≤ 18446744073709551615 := by unfold top at hut; omega
            clear hc1 hc2 hg hu hut hxy hy hpl
            go_wp2_with (first | (go_at_call 22; ((with_reducible refine (HRD.out _).mono ?_); rintro e wm ⟨rfl, rfl⟩)) | (at_builtin; refine wpList_append_bytes rfl _ _ rfl w.heap.size u4 O.length (cellsOf O) rfl (HO.out.alloc _) (.slice (some ⟨wr.heap.size, 0, none⟩) 1 1) [y] rfl (bytes_one wr y) (fun n cap h => by cases h) (by simp; omega) (by have := HB.out.size; simp; omega) ?_; intro v' w4 hown hgrow; have HA := Lib.hid (after_app (x := [y]) HO.out (HB.out.alloc HB.out.size _) hown hgrow); clear hown hgrow) | fail)
            go_roundw
            case rel => exact ⟨k + 1, k + 1, O ++ [y], by go_num, by go_num, HA.out.1, HA.out.2, by omega, HN.out⟩
            case measure => simp [intOf]; omega
      · have hkl2 : k < s.size := by omega
        have hkl3 : (k : Int) < s.size := by omega
        clear hend
        have hget : s.data.toList.getD k 0 = s[k] := get_byte s k hkl2
        by_cases h46 : s.data.toList.getD k 0 = 46
        · have HC := Lib.hid (HCUT.out (.inr ⟨hkl2, .inl h46⟩))
          have e46 : (((s[k]).toNat : Int) != 46) = false := by rw [← hget, h46]; rfl
          clear hget h46
          cases six with
          | true =>
            cases hg : guessOne true P with
            | none =>
              have hcode : (hxCode P != 0) = true := by
                unfold guessOne at hg
                rw [if_pos rfl] at hg
                split at hg
                · cases hg
                · rename_i h; simpa using h
              have HR : Hid (refRead s.data.toList = none) := Lib.hid (ref_bad (by rw [HSIX.out]; exact HC.out.1 hg))
              clear hg
              go_wp2_with (first | (go_at_call 21; ((with_reducible refine (rreadhex_c _ P HPL.out HEX.out _).mono ?_); rintro e w3 ⟨v3, rfl, hv3, hb3, hno3⟩; have HV3 := Lib.hid hv3; have HB3 := Lib.hid hb3; have HNO3 := Lib.hid hno3; clear hv3 hb3 hno3)) | fail)
              go_ret2
              exact ⟨none, 0, 0, by rw [HR.out]; rfl, by rw [HR.out]; exact bytes_nil _, Below.next HB.out HB3.out⟩
            | some x =>
              have hcode : (hxCode P != 0) = false ∧ hxBytes P = x := by
                unfold guessOne at hg
                rw [if_pos rfl] at hg
                split at hg
                · rename_i h; rw [h]; simp at hg; exact ⟨rfl, hg⟩
                · cases hg
              obtain ⟨hc1, hc2⟩ := hcode
              have hx1 := hx_len P
              have HN := Lib.hid (HC.out.2 x hg (by rw [← hc2]; have h2 := HPK.out; omega))
              have HX2 := Lib.hid hc2
              clear hc2 hg hx1
              go_wp2_with (first | (go_at_call 21; ((with_reducible refine (rreadhex_c _ P HPL.out HEX.out _).mono ?_); rintro e w3 ⟨v3, rfl, hv3, hb3, hno3⟩; have HV3 := Lib.hid hv3; have HB3 := Lib.hid hb3; have HNO3 := Lib.hid hno3; clear hv3 hb3 hno3)) | (at_builtin; refine wpList_append_bytes rfl _ _ rfl w.heap.size u4 O.length (cellsOf O) rfl (own_below HO.out HB3.out) v3 (hxBytes P) rfl HV3.out HNO3.out (by have := hx_len P; have := HPL.out; omega) (by have := HB.out.size; have := HB3.out.size; omega) ?_; intro v' w4 hown hgrow; have HA := Lib.hid (after_app HO.out (Below.next HB.out HB3.out) hown hgrow); clear hown hgrow) | fail)
              go_roundw
              case rel => exact ⟨k + 1, k + 1, O ++ hxBytes P, by go_num, by go_num, HA.out.1, HA.out.2, by omega, by rw [HX2.out]; exact HN.out⟩
              case measure => simp [intOf]; omega
          | false =>
            cases hg : guessOne false P with
            | none =>
              have hcode : (rdCode P != 0) = true := by
                unfold guessOne at hg
                rw [if_neg (by simp)] at hg
                split at hg
                · cases hg
                · rename_i h; simpa using h
              have HR : Hid (refRead s.data.toList = none) := Lib.hid (ref_bad (by rw [HSIX.out]; exact HC.out.1 hg))
              have HRD := Lib.hid (rread_c _ P HPL.out HEX.out)
              clear hg
              go_wp2_with (first | (go_at_call 22; ((with_reducible refine (HRD.out _).mono ?_); rintro e wm ⟨rfl, rfl⟩)) | fail)
              go_ret2
              exact ⟨none, 0, 0, by rw [HR.out]; rfl, by rw [HR.out]; exact bytes_nil _, HB.out⟩
            | some x =>
              have hcode : rdCode P = 0 ∧ x = [UInt8.ofNat ((rdVal P).toNat % 256)] := by
                unfold guessOne at hg
                rw [if_neg (by simp)] at hg
                split at hg
                · rename_i h; simp at hg; exact ⟨h, hg.symm⟩
                · cases hg
              obtain ⟨hc1, hc2⟩ := hcode
              obtain ⟨u, hu, hut, _⟩ := decs_rd P hc1
              obtain ⟨y, hy⟩ : ∃ y, UInt8.ofNat (u % 256) = y := ⟨_, rfl⟩
              have hyv : (u : Int) % 256 = (y.toNat : Int) := by rw [← hy, UInt8.toNat_ofNat']; omega
              have hxy : x = [y] := by rw [hc2, hu, ← hy]; simp
              have HRD := Lib.hid (rread_ok _ P HPL.out HEX.out u hu hc1)
              have hpl := HPK.out
              have HN := Lib.hid (HC.out.2 [y] (by rw [hg, hxy]) (by simp; omega))
              have hu0 : (0 : Int) ≤ u := by omega
              have hut2 : (u : Int) ≤ 18446744073709551615 := by unfold top at hut; omega
              clear hc1 hc2 hg hu hut hxy hy hpl
              go_wp2_with (first | (go_at_call 22; ((with_reducible refine (HRD.out _).mono ?_); rintro e wm ⟨rfl, rfl⟩)) | (at_builtin; refine wpList_append_bytes rfl _ _ rfl w.heap.size u4 O.length (cellsOf O) rfl (HO.out.alloc _) (.slice (some ⟨wr.heap.size, 0, none⟩) 1 1) [y] rfl (bytes_one wr y) (fun n cap h => by cases h) (by simp; omega) (by have := HB.out.size; simp; omega) ?_; intro v' w4 hown hgrow; have HA := Lib.hid (after_app (x := [y]) HO.out (HB.out.alloc HB.out.size _) hown hgrow); clear hown hgrow) | fail)
              go_roundw
              case rel => exact ⟨k + 1, k + 1, O ++ [y], by go_num, by go_num, HA.out.1, HA.out.2, by omega, HN.out⟩
              case measure => simp [intOf]; omega
        · by_cases h58 : s.data.toList.getD k 0 = 58
          · have HC := Lib.hid (HCUT.out (.inr ⟨hkl2, .inr h58⟩))
            have e46 : (((s[k]).toNat : Int) != 46) = true := by rw [← hget, h58]; rfl
            have e58 : (((s[k]).toNat : Int) != 58) = false := by rw [← hget, h58]; rfl
            clear hget h46 h58
            cases six with
            | true =>
              cases hg : guessOne true P with
              | none =>
                have hcode : (hxCode P != 0) = true := by
                  unfold guessOne at hg
                  rw [if_pos rfl] at hg
                  split at hg
                  · cases hg
                  · rename_i h; simpa using h
                have HR : Hid (refRead s.data.toList = none) := Lib.hid (ref_bad (by rw [HSIX.out]; exact HC.out.1 hg))
                clear hg
                go_wp2_with (first | (go_at_call 21; ((with_reducible refine (rreadhex_c _ P HPL.out HEX.out _).mono ?_); rintro e w3 ⟨v3, rfl, hv3, hb3, hno3⟩; have HV3 := Lib.hid hv3; have HB3 := Lib.hid hb3; have HNO3 := Lib.hid hno3; clear hv3 hb3 hno3)) | fail)
                go_ret2
                exact ⟨none, 0, 0, by rw [HR.out]; rfl, by rw [HR.out]; exact bytes_nil _, Below.next HB.out HB3.out⟩
              | some x =>
                have hcode : (hxCode P != 0) = false ∧ hxBytes P = x := by
                  unfold guessOne at hg
                  rw [if_pos rfl] at hg
                  split at hg
                  · rename_i h; rw [h]; simp at hg; exact ⟨rfl, hg⟩
                  · cases hg
                obtain ⟨hc1, hc2⟩ := hcode
                have hx1 := hx_len P
                have HN := Lib.hid (HC.out.2 x hg (by rw [← hc2]; have h2 := HPK.out; omega))
                have HX2 := Lib.hid hc2
                clear hc2 hg hx1
                go_wp2_with (first | (go_at_call 21; ((with_reducible refine (rreadhex_c _ P HPL.out HEX.out _).mono ?_); rintro e w3 ⟨v3, rfl, hv3, hb3, hno3⟩; have HV3 := Lib.hid hv3; have HB3 := Lib.hid hb3; have HNO3 := Lib.hid hno3; clear hv3 hb3 hno3)) | (at_builtin; refine wpList_append_bytes rfl _ _ rfl w.heap.size u4 O.length (cellsOf O) rfl (own_below HO.out HB3.out) v3 (hxBytes P) rfl HV3.out HNO3.out (by have := hx_len P; have := HPL.out; omega) (by have := HB.out.size; have := HB3.out.size; omega) ?_; intro v' w4 hown hgrow; have HA := Lib.hid (after_app HO.out (Below.next HB.out HB3.out) hown hgrow); clear hown hgrow) | fail)
                go_roundw
                case rel => exact ⟨k + 1, k + 1, O ++ hxBytes P, by go_num, by go_num, HA.out.1, HA.out.2, by omega, by rw [HX2.out]; exact HN.out⟩
                case measure => simp [intOf]; omega
            | false =>
              cases hg : guessOne false P with
              | none =>
                have hcode : (rdCode P != 0) = true := by
                  unfold guessOne at hg
                  rw [if_neg (by simp)] at hg
                  split at hg
                  · cases hg
                  · rename_i h; simpa using h
                have HR : Hid (refRead s.data.toList = none) := Lib.hid (ref_bad (by rw [HSIX.out]; exact HC.out.1 hg))
                have HRD := Lib.hid (rread_c _ P HPL.out HEX.out)
                clear hg
                go_wp2_with (first | (go_at_call 22; ((with_reducible refine (HRD.out _).mono ?_); rintro e wm ⟨rfl, rfl⟩)) | fail)
                go_ret2
                exact ⟨none, 0, 0, by rw [HR.out]; rfl, by rw [HR.out]; exact bytes_nil _, HB.out⟩
              | some x =>
                have hcode : rdCode P = 0 ∧ x = [UInt8.ofNat ((rdVal P).toNat % 256)] := by
                  unfold guessOne at hg
                  rw [if_neg (by simp)] at hg
                  split at hg
                  · rename_i h; simp at hg; exact ⟨h, hg.symm⟩
                  · cases hg
                obtain ⟨hc1, hc2⟩ := hcode
                obtain ⟨u, hu, hut, _⟩ := decs_rd P hc1
                obtain ⟨y, hy⟩ : ∃ y, UInt8.ofNat (u % 256) = y := ⟨_, rfl⟩
                have hyv : (u : Int) % 256 = (y.toNat : Int) := by rw [← hy, UInt8.toNat_ofNat']; omega
                have hxy : x = [y] := by rw [hc2, hu, ← hy]; simp
                have HRD := Lib.hid (rread_ok _ P HPL.out HEX.out u hu hc1)
                have hpl := HPK.out
                have HN := Lib.hid (HC.out.2 [y] (by rw [hg, hxy]) (by simp; omega))
                have hu0 : (0 : Int) ≤ u := by omega
                have hut2 : (u : Int) ≤ 18446744073709551615 := by unfold top at hut; omega
                clear hc1 hc2 hg hu hut hxy hy hpl
                go_wp2_with (first | (go_at_call 22; ((with_reducible refine (HRD.out _).mono ?_); rintro e wm ⟨rfl, rfl⟩)) | (at_builtin; refine wpList_append_bytes rfl _ _ rfl w.heap.size u4 O.length (cellsOf O) rfl (HO.out.alloc _) (.slice (some ⟨wr.heap.size, 0, none⟩) 1 1) [y] rfl (bytes_one wr y) (fun n cap h => by cases h) (by simp; omega) (by have := HB.out.size; simp; omega) ?_; intro v' w4 hown hgrow; have HA := Lib.hid (after_app (x := [y]) HO.out (HB.out.alloc HB.out.size _) hown hgrow); clear hown hgrow) | fail)
                go_roundw
                case rel => exact ⟨k + 1, k + 1, O ++ [y], by go_num, by go_num, HA.out.1, HA.out.2, by omega, HN.out⟩
                case measure => simp [intOf]; omega
          · have HN := Lib.hid (rinv_on HRI.out (by rw [HL.out]; exact hkl2) h46 h58)
            have e46 : (((s[k]).toNat : Int) != 46) = true := byte_ne (x := s[k]) (c := 46) (by rw [← hget]; exact h46)
            have e58 : (((s[k]).toNat : Int) != 58) = true := byte_ne (x := s[k]) (c := 58) (by rw [← hget]; exact h58)
            clear hget h46 h58
            go_wp2_with fail
            go_roundw
            case rel => exact ⟨k + 1, q, O, by go_num, rfl, HO.out, HB.out, by omega, HN.out⟩
            case measure => simp [intOf]; omega
    · have hall := HRI.out.2.2.1 (by rw [HL.out]; omega)
      rw [← HSIX.out] at hall
      have HG := Lib.hid (ref_good hall)
      obtain ⟨ad, cp, rfl, hby, hcp, hcm⟩ := own_slice HO.out
      have HBY := Lib.hid hby
      have HPR := Lib.hid (fun w h => rprintA_any ad cp O w h hcp hcm (by omega))
      have hkk : ¬ (k : Int) ≤ s.size := by omega
      have hOi : (O.length : Int) ≤ 1001 := by omega
      obtain ⟨b, hb⟩ : ∃ b, (printA O == s.data.toList) = b := ⟨_, rfl⟩
      have heq : ((strB (printA O)).toList == s.toList) = b := by rw [str_eq]; exact hb
      have HSL : Hid ((s.data.toList.length = 39) ↔ six = true) := Lib.hid (by rw [← HSIX.out]; simp)
      have HBB := Lib.hid hb
      clear hall hby hcp hcm hb hlt
      generalize printA O = T at *
      have hlc : (six = true ∧ O.length ≠ 16) ∨ (six = true ∧ O.length = 16) ∨ (six = false ∧ O.length ≠ 4) ∨ (six = false ∧ O.length = 4) := by
        cases six <;> simp <;> omega
      rcases hlc with ⟨h6, hl⟩ | ⟨h6, hl⟩ | ⟨h6, hl⟩ | ⟨h6, hl⟩
      · have HR : Hid (refRead s.data.toList = none) := Lib.hid (by rw [HG.out, if_neg]; rintro ⟨h, _⟩; rw [if_pos (HSL.out.2 h6)] at h; exact hl h)
        have el : ((O.length : Int) != 16) = true := bnne_i (by omega)
        subst h6
        clear hl
        go_wp2_with (first | (go_at_call 14; ((with_reducible refine (HPR.out _ HBY.out).mono ?_); rintro e w4 ⟨rfl, hb4⟩; have HB4 := Lib.hid hb4; clear hb4)) | fail)
        go_ret2
        exact ⟨none, 0, 0, by rw [HR.out]; rfl, by rw [HR.out]; exact bytes_nil _, HB.out⟩
      · have el : ((O.length : Int) != 16) = false := bneq_i (by omega)
        have HLL := Lib.hid hl
        clear hl
        cases b with
        | true =>
          have HR : Hid (refRead s.data.toList = some O) := Lib.hid (by rw [HG.out, if_pos ⟨by rw [if_pos (HSL.out.2 h6)]; exact HLL.out, by simpa using HBB.out⟩])
          subst h6
          go_wp2_with (first | (go_at_call 14; ((with_reducible refine (HPR.out _ HBY.out).mono ?_); rintro e w4 ⟨rfl, hb4⟩; have HB4 := Lib.hid hb4; clear hb4)) | fail)
          go_ret2
          exact ⟨ad, O.length, cp, by rw [HR.out]; rfl, by rw [HR.out]; exact HBY.out.below HB4.out, Below.next HB.out HB4.out⟩
        | false =>
          have HR : Hid (refRead s.data.toList = none) := Lib.hid (by rw [HG.out, if_neg]; rintro ⟨_, h⟩; have := HBB.out; rw [h] at this; simp at this)
          subst h6
          go_wp2_with (first | (go_at_call 14; ((with_reducible refine (HPR.out _ HBY.out).mono ?_); rintro e w4 ⟨rfl, hb4⟩; have HB4 := Lib.hid hb4; clear hb4)) | fail)
          go_ret2
          exact ⟨none, 0, 0, by rw [HR.out]; rfl, by rw [HR.out]; exact bytes_nil _, Below.next HB.out HB4.out⟩
      · have HR : Hid (refRead s.data.toList = none) := Lib.hid (by rw [HG.out, if_neg]; rintro ⟨h, _⟩; rw [if_neg (fun h => by rw [HSL.out.1 h] at h6; cases h6)] at h; exact hl h)
        have el : ((O.length : Int) != 4) = true := bnne_i (by omega)
        subst h6
        clear hl
        go_wp2_with (first | (go_at_call 14; ((with_reducible refine (HPR.out _ HBY.out).mono ?_); rintro e w4 ⟨rfl, hb4⟩; have HB4 := Lib.hid hb4; clear hb4)) | fail)
        go_ret2
        exact ⟨none, 0, 0, by rw [HR.out]; rfl, by rw [HR.out]; exact bytes_nil _, HB.out⟩
      · have el : ((O.length : Int) != 4) = false := bneq_i (by omega)
        have HLL := Lib.hid hl
        clear hl
        cases b with
        | true =>
          have HR : Hid (refRead s.data.toList = some O) := Lib.hid (by rw [HG.out, if_pos ⟨by rw [if_neg (fun h => by rw [HSL.out.1 h] at h6; cases h6)]; exact HLL.out, by simpa using HBB.out⟩])
          subst h6
          go_wp2_with (first | (go_at_call 14; ((with_reducible refine (HPR.out _ HBY.out).mono ?_); rintro e w4 ⟨rfl, hb4⟩; have HB4 := Lib.hid hb4; clear hb4)) | fail)
          go_ret2
          exact ⟨ad, O.length, cp, by rw [HR.out]; rfl, by rw [HR.out]; exact HBY.out.below HB4.out, Below.next HB.out HB4.out⟩
        | false =>
          have HR : Hid (refRead s.data.toList = none) := Lib.hid (by rw [HG.out, if_neg]; rintro ⟨_, h⟩; have := HBB.out; rw [h] at this; simp at this)
          subst h6
          go_wp2_with (first | (go_at_call 14; ((with_reducible refine (HPR.out _ HBY.out).mono ?_); rintro e w4 ⟨rfl, hb4⟩; have HB4 := Lib.hid hb4; clear hb4)) | fail)
          go_ret2
          exact ⟨none, 0, 0, by rw [HR.out]; rfl, by rw [HR.out]; exact bytes_nil _, Below.next HB.out HB4.out⟩
end Go.Proofs.YtbaceiohcbhpaaaDoor
