/- strings.Cut, strings.SplitN at a sign of one byte, and the program's fields, by contract. -/
import Derived.Test.YtbaceiohcbhpaaaDoorAddrP7
import Derived.Test.YtbaceiohcbhpaaaDoorAddrRd
namespace Go.Proofs.YtbaceiohcbhpaaaDoor
set_option linter.unusedVariables false
set_option linter.unusedSimpArgs false
set_option maxRecDepth 100000
open Go.RowKit

/-- what stands ahead of the first sign c, and behind it -/
def cutS (c : UInt8) (s : List UInt8) : List UInt8 × List UInt8 × Bool := if Lib.indexByte s c < 0 then (s, [], false) else (s.take (Lib.indexByte s c).toNat, s.drop ((Lib.indexByte s c).toNat + 1), true)
def CutRet (w : World) (x : List UInt8 × List UInt8 × Bool) (e : Ending) (w' : World) : Prop := e = .returned (.tuple #[.string (strB x.1), .string (strB x.2.1), .bool x.2.2]) ∧ Below w.heap.size w w'
theorem idx_bd {s : List UInt8} {c : UInt8} (h : 0 ≤ Lib.indexByte s c) : (Lib.indexByte s c).toNat < s.length := by
  rcases c_or c s with h1 | ⟨p, r, rfl, hp⟩
  · rw [idx_no h1] at h; omega
  · rw [idx_at r hp]; simp
theorem ext_take (s : ByteArray) (q : Nat) (h : q ≤ s.size) : s.extract 0 q = strB (s.data.toList.take q) := by
  have h1 := strB_self (s.extract 0 q)
  rw [← h1, Lib.extract_data]; simp
theorem ext_drop (s : ByteArray) (q : Nat) : s.extract q s.size = strB (s.data.toList.drop q) := by
  have h1 := strB_self (s.extract q s.size)
  rw [← h1, Lib.extract_data, List.take_of_length_le (by simp)]
theorem cutl_results (W : World) (T : Array Value) (v0 v1 v2 : Value) (h4 : T.getD 4 undef = v0) (h5 : T.getD 5 undef = v1) (h6 : T.getD 6 undef = v2) :
    (results Tryd.f39 T).run Tryd.prog W = .ok (.tuple #[v0, v1, v2]) W := by
  have e4 : T[4]?.getD undef = v0 := by simpa using h4
  have e5 : T[5]?.getD undef = v1 := by simpa using h5
  have e6 : T[6]?.getD undef = v2 := by simpa using h6
  simp [results, Tryd.results39, go_sem, e4, e5, e6]
theorem cuts_results (W : World) (T : Array Value) (v0 v1 v2 : Value) (h4 : T.getD 4 undef = v0) (h5 : T.getD 5 undef = v1) (h6 : T.getD 6 undef = v2) :
    (results Tryd.f23 T).run Tryd.prog W = .ok (.tuple #[v0, v1, v2]) W := by
  have e4 : T[4]?.getD undef = v0 := by simpa using h4
  have e5 : T[5]?.getD undef = v1 := by simpa using h5
  have e6 : T[6]?.getD undef = v2 := by simpa using h6
  simp [results, Tryd.results23, go_sem, e4, e5, e6]
theorem cut_any (s : ByteArray) (c : UInt8) (hs : s.size ≤ maxLen) (w : World) : Calls Tryd.prog 39 #[.string s, .string ⟨#[c]⟩] w (CutRet w (cutS c s.data.toList)) := by
  obtain ⟨i, hi⟩ : ∃ i, Lib.indexByte s.data.toList c = i := ⟨_, rfl⟩
  have hge : -1 ≤ i := by rw [← hi]; exact Lib.indexByte_ge _ _
  have HIX : Hid (∀ w, Calls Tryd.prog 50 #[.string s, .string ⟨#[c]⟩] w fun e w' => e = .returned (.int .i64 i) ∧ w' = w) := Lib.hid (fun w => by rw [← hi]; exact Tryd.stringslite_Index_one s c w)
  unfold maxLen at hs
  have hs1 : (⟨#[c]⟩ : ByteArray).size = 1 := rfl
  by_cases hneg : i < 0
  · have HR : Hid (cutS c s.data.toList = (s.data.toList, [], false)) := Lib.hid (by unfold cutS; rw [hi, if_pos hneg])
    clear hi
    go_enter Tryd.func39, Tryd.ntmps39
    go_wp2_with (first | (go_at_call 50; ((with_reducible refine (HIX.out _).mono ?_); rintro e w2 ⟨rfl, rfl⟩)) | fail)
    exact bodyPost_ret (cutl_results _ _ _ _ _ rfl rfl rfl) rfl ⟨by rw [HR.out, strB_self]; rfl, Below.refl _ _⟩
  · obtain ⟨k, rfl⟩ : ∃ k : Nat, i = k := ⟨i.toNat, by omega⟩
    have hk : k < s.size := by have := idx_bd (s := s.data.toList) (c := c) (by rw [hi]; omega); rw [hi] at this; simpa using this
    have HR : Hid (cutS c s.data.toList = (s.data.toList.take k, s.data.toList.drop (k + 1), true)) := Lib.hid (by unfold cutS; rw [hi, if_neg hneg]; simp)
    have HT := Lib.hid (ext_take s k (by omega))
    have HD := Lib.hid (ext_drop s (k + 1))
    have hk0 : (0 : Int) ≤ k := by omega
    have hk1 : (k : Int) ≤ s.size := by omega
    have hk2 : (0 : Int) ≤ (k : Int) + 1 := by omega
    have hk3 : (k : Int) + 1 ≤ s.size := by omega
    have ht : ((k : Int) + 1).toNat = k + 1 := by omega
    have hw := wrap_i64 ((k : Int) + 1) (by omega) (by omega)
    clear hi
    go_enter Tryd.func39, Tryd.ntmps39
    go_wp2_with (first | (go_at_call 50; ((with_reducible refine (HIX.out _).mono ?_); rintro e w2 ⟨rfl, rfl⟩)) | fail)
    go_quiet (fail)
    go_wp2_with fail
    exact bodyPost_ret (cutl_results _ _ _ _ _ rfl rfl rfl) rfl ⟨by rw [HR.out, ← HT.out, ← HD.out]; rfl, below_dr (Below.refl _ _) _⟩
theorem scut_any (s : ByteArray) (c : UInt8) (hs : s.size ≤ maxLen) (w : World) : Calls Tryd.prog 23 #[.string s, .string ⟨#[c]⟩] w (CutRet w (cutS c s.data.toList)) := by
  have HC := Lib.hid (cut_any s c hs w)
  go_enter Tryd.func23, Tryd.ntmps23
  go_wp2_with (first | (go_at_call 39; ((with_reducible refine HC.out.mono ?_); rintro e w2 ⟨rfl, hb⟩)) | fail)
  exact bodyPost_ret (cuts_results _ _ _ _ _ rfl rfl rfl) rfl ⟨rfl, hb⟩
/-! strings.SplitN -/
def RowS (B : Nat) (w : World) (L : List (List UInt8)) : Prop := ∀ i, i < L.length → w.cell? ⟨B, i, none⟩ = some (strV4 (L.getD i []))
def SplitRet (w : World) (L : List (List UInt8)) (e : Ending) (w' : World) : Prop := ∃ cp, e = .returned (.slice (some ⟨w.heap.size, 0, none⟩) L.length cp) ∧ RowS w.heap.size w' L ∧ Below w.heap.size w w'
/-- the loop of genSplit: i pieces are laid, t is to be cut still -/
def GS (w wr : World) (c : UInt8) (K N i : Nat) (S : List UInt8) (t : ByteArray) (P : List (List UInt8)) : Prop :=
  P.length = i ∧ i ≤ K ∧ splitK c K S = P ++ splitK c (K - i) t.data.toList ∧ t.size ≤ S.length ∧
  (∃ C : Array Value, wr.heap[w.heap.size]? = some (.cells C 9 (0, 0)) ∧ C.size = N ∧ ∀ j, j < i → C[j]? = some (strV4 (P.getD j []))) ∧ Below w.heap.size w wr
theorem gs_set {w wr : World} {c : UInt8} {K N i : Nat} {S : List UInt8} {t : ByteArray} {P : List (List UInt8)} (h : GS w wr c K N i S t P) (x : List UInt8) (hi : i < N) :
    (∃ C : Array Value, (wr.setCell ⟨w.heap.size, i, none⟩ (.string (strB x))).heap[w.heap.size]? = some (.cells C 9 (0, 0)) ∧ C.size = N ∧ ∀ j, j < i + 1 → C[j]? = some (strV4 ((P ++ [x]).getD j []))) ∧ Below w.heap.size w (wr.setCell ⟨w.heap.size, i, none⟩ (.string (strB x))) := by
  obtain ⟨h1, h2, h3, h4, ⟨C, e1, e2, e3⟩, hb⟩ := h
  refine ⟨⟨C.setIfInBounds i (.string (strB x)), set_block e1, by simp [e2], fun j hj => ?_⟩, hb.setCell (by simp) _⟩
  by_cases hji : j = i
  · subst hji
    rw [Array.getElem?_setIfInBounds_self_of_lt (by omega)]
    simp [List.getD, ← h1, strV4]
  · rw [Array.getElem?_setIfInBounds_ne (by omega), e3 j (by omega)]
    simp [List.getD, List.getElem?_append_left (show j < P.length by omega)]
theorem gs_end {w W : World} {L : List (List UInt8)} (h : ∃ C : Array Value, W.heap[w.heap.size]? = some (.cells C 9 (0, 0)) ∧ (∀ j, j < L.length → C[j]? = some (strV4 (L.getD j [])))) : RowS w.heap.size W L := by
  obtain ⟨C, e1, e2⟩ := h
  intro i hi
  exact cell_of e1 i (e2 i hi)
theorem gs_fin {w wr : World} {c : UInt8} {K N i : Nat} {S : List UInt8} {t : ByteArray} {P : List (List UInt8)} (h : GS w wr c K N i S t P) (hi : i < N) (hf : splitK c K S = P ++ [t.data.toList]) :
    SplitRet w (splitK c K S) (.returned (.slice (some ⟨w.heap.size, 0, none⟩) (i + 1) N)) (wr.setCell ⟨w.heap.size, i, none⟩ (.string t)) := by
  have h2 := gs_set h t.data.toList hi
  rw [strB_self] at h2
  obtain ⟨⟨C, e1, e2, e3⟩, hb⟩ := h2
  rw [hf]
  have hl : (P ++ [t.data.toList]).length = i + 1 := by rw [List.length_append, h.1]; rfl
  refine ⟨N, by rw [hl], gs_end ⟨C, e1, fun j hj => e3 j (by omega)⟩, hb⟩
theorem gs_next {w wr : World} {c : UInt8} {K N i m : Nat} {S : List UInt8} {t : ByteArray} {P : List (List UInt8)} (h : GS w wr c K N i S t P) (hi : i < N) (hiK : i < K) (hm : Lib.indexByte t.data.toList c = m) :
    GS w (wr.setCell ⟨w.heap.size, i, none⟩ (.string (t.extract 0 m))) c K N (i + 1) S (t.extract (m + 1) t.size) (P ++ [t.data.toList.take m]) := by
  have hml : m < t.data.toList.length := by have := idx_bd (s := t.data.toList) (c := c) (by omega); rw [hm] at this; simpa using this
  have hmt : m < t.size := by simpa using hml
  have e := ext_take t m (by omega)
  have e2 := ext_drop t (m + 1)
  obtain ⟨h2, hb⟩ := gs_set h (t.data.toList.take m) hi
  rw [e, e2]
  refine ⟨by rw [List.length_append, h.1]; rfl, hiK, ?_, ?_, h2, hb⟩
  · rw [h.2.2.1]
    obtain ⟨r, hr⟩ : ∃ r, K - i = r + 1 := ⟨K - i - 1, by omega⟩
    rw [hr, show K - (i + 1) = r by omega]
    conv => lhs; unfold splitK
    rw [hm, if_neg (by omega)]
    simp [strB]
  · have := h.2.2.2.1
    rw [strB_size, List.length_drop]
    simp at this ⊢; omega
theorem nil_facts5 (c : UInt8) : (⟨#[c]⟩ : ByteArray).toList.isEmpty = false ∧ ((⟨#[c]⟩ : ByteArray).toList == []) = false := by
  rw [toList_eq]; exact ⟨rfl, rfl⟩
set_option maxHeartbeats 8000000 in
theorem gensplit_any (s : ByteArray) (c : UInt8) (n : Nat) (hn : 1 ≤ n) (hn2 : n ≤ 100) (hs : s.size ≤ 1000000) (w : World) :
    Calls Tryd.prog 53 #[.string s, .string ⟨#[c]⟩, .int .i64 0, .int .i64 n] w (SplitRet w (splitK c (min n (s.size + 1) - 1) s.data.toList)) := by
  obtain ⟨i0, hi0, hz0, hz1, hz2⟩ := info_parts Tryd.infoStr4
  obtain ⟨n1, n2⟩ := nil_facts5 c
  have hs1 : (⟨#[c]⟩ : ByteArray).size = 1 := rfl
  have hn0 : ((n : Int) == 0) = false := bne_i (by omega)
  obtain ⟨N, hN⟩ : ∃ N, min n (s.size + 1) = N := ⟨_, rfl⟩
  have hmin : min (n : Int) ((s.size : Int) + 1) = (N : Int) := by omega
  obtain ⟨K, hK⟩ : ∃ K, N = K + 1 := ⟨N - 1, by omega⟩
  have hKn : K ≤ 100 := by omega
  have hKs : K ≤ s.size := by omega
  rw [hN, show N - 1 = K by omega]
  rw [hK] at hmin
  have hmin : min (n : Int) ((s.size : Int) + 1) = (K : Int) + 1 := by omega
  have hng : (decide ((n : Int) < 0)) = false := decide_eq_false (by omega)
  obtain ⟨N, hN2⟩ : ∃ N, K + 1 = N := ⟨_, rfl⟩
  clear hN hK
  have hmin : min (n : Int) ((s.size : Int) + 1) = (N : Int) := by omega
  have hn4 : ((N : Int) - 1) = (K : Int) := by omega
  go_enter Tryd.func53, Tryd.ntmps53
  go_wp2_with (first | (at_make; (refine wpList_make_full _ rfl _ _ 51 rfl w.heap.size 9 i0 _ 1 Tryd.underlying51 hi0 hz0 hz1 .i64 .i64 _ _ N rfl rfl rfl rfl (by rw [hz2]; omega) (by unfold maxLen; omega) (by simp) ?_; intro w3 hown hgrow)) | fail)
  have HB0 : Hid (GS w w3 c K N 0 s.data.toList s []) := Lib.hid ⟨rfl, Nat.zero_le _, by simp, by simp, ⟨_, own_block hown, by rw [List.size_toArray, hown.1]; omega, fun j hj => by omega⟩, (Below.refl _ _).grown hgrow (Nat.le_refl _) (fun k hk => by cases hk)⟩
  clear hown hgrow hi0 hz0 hz1 hz2 hn0 hmin hng
  go_loopw [0, 10] (fun sv iv wr => ∃ (i : Nat) (t : ByteArray) (P : List (List UInt8)), sv = .string t ∧ iv = .int .i64 i ∧ GS w wr c K N i s.data.toList t P) (fun _ i _ => K - (intOf i).toNat)
  case atStart => exact ⟨0, s, [], rfl, rfl, HB0.out⟩
  case round =>
    obtain ⟨i, t, P, rfl, rfl, hg⟩ := hrel
    have HG := Lib.hid hg
    obtain ⟨hP, hiK, hsp, hts, ⟨C, e1, e2, e3⟩, hb⟩ := hg
    have f1 : ∀ j, wr.frozen? ⟨w.heap.size, j, none⟩ = false := fun j => free_of e1 j
    have cI : (wr.cell? ⟨w.heap.size, i, none⟩).isSome = true := by
      have : i < C.size := by omega
      rw [cell_of e1 i (Array.getElem?_eq_getElem this)]; rfl
    obtain ⟨u, hu⟩ : ∃ u, wr.cell? ⟨w.heap.size, i, none⟩ = some u := Option.isSome_iff_exists.1 cI
    have hlen : t.size ≤ 1000000 := by simp at hts; omega
    have hi0 : (0 : Int) ≤ i := by omega
    have hiN : (i : Int) < N := by omega
    have hi1 : (0 : Int) ≤ (i : Int) + 1 := by omega
    have hiN1 : (i : Int) + 1 ≤ N := by omega
    have hwi := wrap_i64 ((i : Int) + 1) (by omega) (by omega)
    have hti : ((i : Int) + 1).toNat = i + 1 := by omega
    clear e1 e2 e3 cI hP hsp hts hb
    by_cases hlt : i < K
    · obtain ⟨m, hm⟩ : ∃ m, Lib.indexByte t.data.toList c = m := ⟨_, rfl⟩
      have HIX : Hid (∀ w, Calls Tryd.prog 62 #[.string t, .string ⟨#[c]⟩] w fun e w' => e = .returned (.int .i64 m) ∧ w' = w) := Lib.hid (fun w => by rw [← hm]; exact Tryd.strings_Index_one t c w)
      by_cases hneg : m < 0
      · have HFIN : Hid (splitK c K s.data.toList = P ++ [t.data.toList]) := Lib.hid (by
          rw [HG.out.2.2.1]
          obtain ⟨r, hr⟩ : ∃ r, K - i = r + 1 := ⟨K - i - 1, by omega⟩
          rw [hr]; congr 1
          unfold splitK
          rw [hm, if_pos hneg])
        clear hm
        go_wp2_with (first | (go_at_call 62; ((with_reducible refine (HIX.out _).mono ?_); rintro e w2 ⟨rfl, rfl⟩)) | fail)
        go_ret
        exact gs_fin HG.out (by omega) HFIN.out
      · obtain ⟨q, rfl⟩ : ∃ q : Nat, m = q := ⟨m.toNat, by omega⟩
        have hq : q < t.size := by have := idx_bd (s := t.data.toList) (c := c) (by rw [hm]; omega); rw [hm] at this; simpa using this
        have HNX := Lib.hid (gs_next HG.out (by omega) hlt hm)
        have hq0 : (0 : Int) ≤ q := by omega
        have hq1 : (q : Int) ≤ t.size := by omega
        have hq2 : (0 : Int) ≤ (q : Int) + 1 := by omega
        have hq3 : (q : Int) + 1 ≤ t.size := by omega
        have htq : ((q : Int) + 1).toNat = q + 1 := by omega
        have hwq0 := wrap_i64 (q : Int) (by omega) (by omega)
        have hwq := wrap_i64 ((q : Int) + 1) (by omega) (by omega)
        clear hm
        go_wp2_with (first | (go_at_call 62; ((with_reducible refine (HIX.out _).mono ?_); rintro e w2 ⟨rfl, rfl⟩)) | fail)
        go_roundw
        case rel => exact ⟨i + 1, _, _, rfl, by go_num, HNX.out⟩
        case measure => simp [intOf]; omega
    · have HFIN : Hid (splitK c K s.data.toList = P ++ [t.data.toList]) := Lib.hid (by
        rw [HG.out.2.2.1, show K - i = 0 by omega]; rfl)
      go_wp2_with fail
      go_ret
      exact gs_fin HG.out (by omega) HFIN.out
end Go.Proofs.YtbaceiohcbhpaaaDoor
