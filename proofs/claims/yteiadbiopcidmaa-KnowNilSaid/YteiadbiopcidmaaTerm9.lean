import Derived.Test.YteiadbiopcidmaaTerm8
namespace Go.Proofs.Yteiadbiopcidmaa
set_option linter.unusedVariables false
set_option linter.unusedSimpArgs false
set_option maxRecDepth 100000
open Go.RowKit

theorem kind_idx (c : Int) (k : Nat) (hk : kindOf c.toNat.toUInt8 = k) (w : World) :
    Calls Try.prog 35 #[.string ⟨#[48, 97, 110, 120, 112, 100, 104, 107, 109, 115, 108]⟩, .int .u8 c] w fun e w' => e = .returned (.int .i64 ((k : Int) - 1)) ∧ w = w' := by
  refine (Try.strings_IndexByte _ c w).mono ?_
  rintro e w' ⟨rfl, rfl⟩
  refine ⟨ret_int ?_, rfl⟩
  have := kind_set c.toNat.toUInt8
  rw [hk] at this
  omega
theorem zero_lit (w : World) : (zeroValue 77).run Try.prog w = .ok (.agg #[.bool false, .int .u64 0, .int .u64 0, .bool false, .int .i64 0, .int .i64 0, .bool false]) w := zero_shape w
theorem look_lit (w : World) (m : Nat) (hm : w.heap[m]? = some (.map (esN 11) 11)) :
    (Instr.lookup 69 (.map (some m)) (.int .i64 0) true).run Try.prog w = .ok (.tuple #[.agg #[.bool false, .int .u64 0, .int .u64 0, .bool false, .int .i64 0, .int .i64 0, .bool false], .bool false]) w := look_none w m hm
theorem look_sh (w : World) (m k : Nat) (sh : Shape) (hm : w.heap[m]? = some (.map (esN 11) 11)) (hk : k ≤ 11) (h : shapeOf k = some sh) :
    (Instr.lookup 69 (.map (some m)) (.int .i64 k) true).run Try.prog w = .ok (.tuple #[.agg #[.bool sh.numbered, .int .u64 sh.low, .int .u64 sh.high, .bool sh.hex, .int .i64 sh.least, .int .i64 sh.most, .bool sh.ordered], .bool true]) w := by
  have h1 := look_some w m k hm (by have := shape_cases h; omega) hk
  have e : shapeAt k = sh := by unfold shapeAt; rw [h]; rfl
  rw [e] at h1
  exact h1
theorem kindOf_le (c : UInt8) : kindOf c ≤ 11 := by
  unfold kindOf
  repeat' split
  all_goals omega
theorem shapeAt_of {k : Nat} {sh : Shape} (h : shapeOf k = some sh) : shapeAt k = sh := by unfold shapeAt; rw [h]; rfl
theorem shape_none {k : Nat} (h : k ≤ 11) (hn : shapeOf k = none) : k = 0 := by
  rcases (show k = 0 ∨ k = 1 ∨ k = 2 ∨ k = 3 ∨ k = 4 ∨ k = 5 ∨ k = 6 ∨ k = 7 ∨ k = 8 ∨ k = 9 ∨ k = 10 ∨ k = 11 by omega) with rfl | rfl | rfl | rfl | rfl | rfl | rfl | rfl | rfl | rfl | rfl | rfl
  · rfl
  all_goals (simp [shapeOf] at hn)

theorem Rd.next {w : World} {b : Nat} {s : ByteArray} {p m d : Nat} {pv : Value} (h : Rd w b s p m d pv) : Rd (w.setCell ⟨b, 1, none⟩ (.int .i64 ((p : Int) + 1))) b s (p + 1) m d pv := h.set1 (p + 1)
theorem inside_v {f : Nat} (hL : ListC f) (V : Value) (sh : Shape) (hV : V = shapeV sh) (b m d p : Nat) (s : ByteArray) (pv : Value) (w : World) (h1 : s.size ≤ 65536) (h2 : d + 1 ≤ p) (h3 : p ≤ s.size) (h4 : s.size - p ≤ f)
    (h6 : Rd w b s p m d pv) (h7 : w.heap[m]? = some (.map (esN 11) 11)) (h8 : m ≠ b) (h9 : d = 0 → pv = nilV) :
    Calls Try.prog 48 #[.pointer (some ⟨b, 0, none⟩), V] w (InPost w b s m d pv (qIn (qLoop f) sh (s.data.toList.drop p))) := hV ▸ inside_any f hL b m d p s pv sh w h1 h2 h3 h4 h6 h7 h8 h9
section
variable {W : World} {k : Nat} {v0 v1 v2 v3 v4 v5 v6 : Value}
theorem chain_box {C : Array Value} {T : TypeId} (h : W.heap[k]? = some (.cells C T (0, 0))) (hC : C.size = 7) :
    (((((((W.setCell ⟨k, 0, none⟩ v0).setCell ⟨k, 1, none⟩ v1).setCell ⟨k, 2, none⟩ v2).setCell ⟨k, 3, none⟩ v3).setCell ⟨k, 4, none⟩ v4).setCell ⟨k, 5, none⟩ v5).setCell ⟨k, 6, none⟩ v6).heap[k]? = some (.cells #[v0, v1, v2, v3, v4, v5, v6] T (0, 0)) := by
  rw [heap_set (heap_set (heap_set (heap_set (heap_set (heap_set (heap_set h))))))]
  obtain ⟨l⟩ := C
  match l, hC with
  | [a, b, c, d, e, f, g], _ => rfl
theorem chain_keep {q : Nat} {o : Obj} (hq : ¬ q = k) (h : W.heap[q]? = some o) :
    (((((((W.setCell ⟨k, 0, none⟩ v0).setCell ⟨k, 1, none⟩ v1).setCell ⟨k, 2, none⟩ v2).setCell ⟨k, 3, none⟩ v3).setCell ⟨k, 4, none⟩ v4).setCell ⟨k, 5, none⟩ v5).setCell ⟨k, 6, none⟩ v6).heap[q]? = some o := by
  rw [heap_set_other hq, heap_set_other hq, heap_set_other hq, heap_set_other hq, heap_set_other hq, heap_set_other hq, heap_set_other hq, h]
theorem chain_rd {b : Nat} {s : ByteArray} {p m d : Nat} {pv : Value} (hq : ¬ b = k) (h : Rd W b s p m d pv) :
    Rd (((((((W.setCell ⟨k, 0, none⟩ v0).setCell ⟨k, 1, none⟩ v1).setCell ⟨k, 2, none⟩ v2).setCell ⟨k, 3, none⟩ v3).setCell ⟨k, 4, none⟩ v4).setCell ⟨k, 5, none⟩ v5).setCell ⟨k, 6, none⟩ v6) b s p m d pv := chain_keep hq h
end
theorem chain_grown (W : World) (k : Nat) (v0 v1 v2 v3 v4 v5 v6 : Value) :
    W.grownBy (((((((W.setCell ⟨k, 0, none⟩ v0).setCell ⟨k, 1, none⟩ v1).setCell ⟨k, 2, none⟩ v2).setCell ⟨k, 3, none⟩ v3).setCell ⟨k, 4, none⟩ v4).setCell ⟨k, 5, none⟩ v5).setCell ⟨k, 6, none⟩ v6) (some k) :=
  grown_trans (grown_set _ _ _ _) (grown_trans (grown_set _ _ _ _) (grown_trans (grown_set _ _ _ _) (grown_trans (grown_set _ _ _ _) (grown_trans (grown_set _ _ _ _) (grown_trans (grown_set _ _ _ _) (grown_set _ _ _ _))))))
theorem grown_new {a c e : World} {b k : Nat} (h : a.grownBy c (some b)) (hg : c.grownBy e (some k)) (hk : a.heap.size ≤ k) : a.grownBy e (some b) :=
  grown_far h hg (fun q hq => by cases hq; exact hk)

set_option maxHeartbeats 4000000 in
theorem term_step (g : Nat) (hL : ListC g) : TermIH g := by
  intro b m d p s pv w hs hdp hp hf h hm hmb hpv
  have hsm : s.size ≤ maxLen := by unfold maxLen; omega
  have hb := h.lt
  have hz := zero_lit
  have HR := Lib.hid h
  have HM := Lib.hid hm
  have HL := Lib.hid hL
  have HPV := Lib.hid hpv
  have r1 := h.c1; have rf1 := h.f 1; have r2 := h.c2
  clear h hm hL hpv
  obtain ⟨k, hk⟩ : ∃ k, kindOf (byteAt s p).toNat.toUInt8 = k := ⟨_, rfl⟩
  have hk11 : k ≤ 11 := by rw [← hk]; exact kindOf_le _
  have HK := Lib.hid hk
  clear hk
  cases hsh : shapeOf k with
  | none =>
    obtain rfl := shape_none hk11 hsh
    have HO : Hid (qTermS (qLoop g) (s.data.toList.drop p) = none) := Lib.hid (by
      by_cases hlt : p < s.size
      · rw [drop_at s p hlt]
        have hk := HK.out
        rw [byte_lt s p hlt] at hk
        simp [qTermS, hk, hsh]
      · rw [drop_end s p hlt]; rfl)
    clear hsh
    go_enter Try.func29, Try.ntmps29
    go_wp2_with (first | (go_at_call 47; ((with_reducible refine (next_any s p b _ hsm hp HR.out.c0 HR.out.c1).mono ?_); rintro e w' ⟨rfl, n1, rfl⟩)) | (go_at_call 35; ((with_reducible refine (kind_idx _ 0 HK.out _).mono ?_); rintro e w' ⟨rfl, rfl⟩; have hlk := look_lit (w.drewN n1) m HM.out; have hal : ((w.drewN n1).alloc (.cells #[.bool false, .int .u64 0, .int .u64 0, .bool false, .int .i64 0, .int .i64 0, .bool false] 77)).heap[w.heap.size]? = some (.cells #[.bool false, .int .u64 0, .int .u64 0, .bool false, .int .i64 0, .int .i64 0, .bool false] 77) := heap_alloc_new (w.drewN n1) _; have q0 := cell_of hal 0 rfl; have q1 := cell_of hal 1 rfl; have q2 := cell_of hal 2 rfl; have q3 := cell_of hal 3 rfl; have q4 := cell_of hal 4 rfl; have q5 := cell_of hal 5 rfl; have q6 := cell_of hal 6 rfl; have qf := fun i => free_of hal i; have HAL := Lib.hid hal; clear hal)) | (go_at_call 30; ((with_reducible refine (need_bad _).mono ?_); rintro e w' ⟨rfl, rfl⟩)) | fail)
    refine ⟨rfl, ?_⟩
    rw [HO.out]
    exact ⟨rfl, grown_new (grown_trans (grown_drewN w n1 _) (World.grownBy_alloc _ _ _)) (chain_grown _ _ _ _ _ _ _ _ _) (Nat.le_refl _)⟩
  | some sh =>
    have hlt : p < s.size := by
      by_cases hlt : p < s.size
      · exact hlt
      · have hk := HK.out
        rw [byte_ge s p hlt] at hk
        rw [← hk] at hsh
        simp [kindOf, shapeOf] at hsh
    have HSH := Lib.hid hsh
    have HQ : Hid (qTermS (qLoop g) (s.data.toList.drop p) = if 0 < sh.most then (qIn (qLoop g) sh (s.data.toList.drop (p + 1))).bind fun x => some (k, x.1, x.2.1, x.2.2) else (qLeaf sh (s.data.toList.drop (p + 1))).bind fun x => some (k, x.1, [], x.2)) := Lib.hid (by
      have hk := HK.out
      rw [byte_lt s p hlt] at hk
      rw [drop_at s p hlt]
      simp [qTermS, hk, hsh])
    have hneb : ¬ w.heap.size = b := by omega
    have hneb' : ¬ b = w.heap.size := by omega
    have hp1 : p + 1 ≤ s.size := hlt
    have hmlt : m < w.heap.size := (Array.getElem?_eq_some_iff.1 HM.out).1
    have hnem : ¬ m = w.heap.size := by omega
    clear hsh
    by_cases hmo : 0 < sh.most
    · cases h1 : qIn (qLoop g) sh (s.data.toList.drop (p + 1)) with
      | none =>
        have H1 := Lib.hid h1
        have HO : Hid (qTermS (qLoop g) (s.data.toList.drop p) = none) := Lib.hid (by rw [HQ.out, if_pos hmo, h1]; rfl)
        clear h1
        go_enter Try.func29, Try.ntmps29
        go_wp2_with (first | (go_at_call 47; ((with_reducible refine (next_any s p b _ hsm hp HR.out.c0 HR.out.c1).mono ?_); rintro e w' ⟨rfl, n1, rfl⟩)) | (go_at_call 35; ((with_reducible refine (kind_idx _ k HK.out _).mono ?_); rintro e w' ⟨rfl, rfl⟩; have hlk := look_sh (w.drewN n1) m k sh HM.out hk11 HSH.out; have hal : ((w.drewN n1).alloc (.cells #[.bool false, .int .u64 0, .int .u64 0, .bool false, .int .i64 0, .int .i64 0, .bool false] 77)).heap[w.heap.size]? = some (.cells #[.bool false, .int .u64 0, .int .u64 0, .bool false, .int .i64 0, .int .i64 0, .bool false] 77) := heap_alloc_new (w.drewN n1) _; have q0 := cell_of hal 0 rfl; have q1 := cell_of hal 1 rfl; have q2 := cell_of hal 2 rfl; have q3 := cell_of hal 3 rfl; have q4 := cell_of hal 4 rfl; have q5 := cell_of hal 5 rfl; have q6 := cell_of hal 6 rfl; have qf := fun i => free_of hal i; have HAL := Lib.hid hal; clear hal; have hRA := (HR.out.drewN n1).alloc (.cells #[.bool false, .int .u64 0, .int .u64 0, .bool false, .int .i64 0, .int .i64 0, .bool false] 77); have g1 := hRA.c1; have gf := hRA.f 1; have HRA := Lib.hid hRA; have HMA := Lib.hid (keep_alloc (w := w.drewN n1) HM.out (.cells #[.bool false, .int .u64 0, .int .u64 0, .bool false, .int .i64 0, .int .i64 0, .bool false] 77)); clear hRA)) | (go_at_call 30; ((with_reducible refine (need_ok _).mono ?_); rintro e w' ⟨rfl, rfl⟩)) | (go_at_call 48; ((with_reducible refine (inside_v HL.out _ sh rfl b m d (p + 1) s pv _ hs (by omega) hp1 (by omega) (chain_rd hneb' HRA.out).next ((heap_set_other hmb).trans (chain_keep hnem HMA.out)) hmb HPV.out).mono ?_); intro e w2 hpost; rw [H1.out] at hpost; obtain ⟨rfl, hG2⟩ := hpost)) | fail)
        refine ⟨rfl, ?_⟩
        rw [HO.out]
        exact ⟨rfl, grown_trans (grown_new (grown_trans (grown_drewN w n1 _) (World.grownBy_alloc _ _ _)) (chain_grown _ _ _ _ _ _ _ _ _) (Nat.le_refl _)) (grown_trans (grown_set _ _ _ _) hG2)⟩
      | some x =>
        have H1 := Lib.hid h1
        have HO : Hid (qTermS (qLoop g) (s.data.toList.drop p) = some (k, x.1, x.2.1, x.2.2)) := Lib.hid (by rw [HQ.out, if_pos hmo, h1]; rfl)
        clear h1
        go_enter Try.func29, Try.ntmps29
        go_wp2_with (first | (go_at_call 47; ((with_reducible refine (next_any s p b _ hsm hp HR.out.c0 HR.out.c1).mono ?_); rintro e w' ⟨rfl, n1, rfl⟩)) | (go_at_call 35; ((with_reducible refine (kind_idx _ k HK.out _).mono ?_); rintro e w' ⟨rfl, rfl⟩; have hlk := look_sh (w.drewN n1) m k sh HM.out hk11 HSH.out; have hal : ((w.drewN n1).alloc (.cells #[.bool false, .int .u64 0, .int .u64 0, .bool false, .int .i64 0, .int .i64 0, .bool false] 77)).heap[w.heap.size]? = some (.cells #[.bool false, .int .u64 0, .int .u64 0, .bool false, .int .i64 0, .int .i64 0, .bool false] 77) := heap_alloc_new (w.drewN n1) _; have q0 := cell_of hal 0 rfl; have q1 := cell_of hal 1 rfl; have q2 := cell_of hal 2 rfl; have q3 := cell_of hal 3 rfl; have q4 := cell_of hal 4 rfl; have q5 := cell_of hal 5 rfl; have q6 := cell_of hal 6 rfl; have qf := fun i => free_of hal i; have HAL := Lib.hid hal; clear hal; have hRA := (HR.out.drewN n1).alloc (.cells #[.bool false, .int .u64 0, .int .u64 0, .bool false, .int .i64 0, .int .i64 0, .bool false] 77); have g1 := hRA.c1; have gf := hRA.f 1; have HRA := Lib.hid hRA; have HMA := Lib.hid (keep_alloc (w := w.drewN n1) HM.out (.cells #[.bool false, .int .u64 0, .int .u64 0, .bool false, .int .i64 0, .int .i64 0, .bool false] 77)); clear hRA)) | (go_at_call 30; ((with_reducible refine (need_ok _).mono ?_); rintro e w' ⟨rfl, rfl⟩)) | (go_at_call 48; ((with_reducible refine (inside_v HL.out _ sh rfl b m d (p + 1) s pv _ hs (by omega) hp1 (by omega) (chain_rd hneb' HRA.out).next ((heap_set_other hmb).trans (chain_keep hnem HMA.out)) hmb HPV.out).mono ?_); intro e w2 hpost; rw [H1.out] at hpost; obtain ⟨rfl, pv2, hR2, hG2, hP2⟩ := hpost; have HR2 := Lib.hid hR2; have HG2 := Lib.hid hG2; have HP2 := Lib.hid hP2; clear hR2 hG2 hP2)) | fail)
        go_ret2
        rw [HO.out]
        exact ⟨rfl, pv2, HR2.out, grown_trans (grown_new (grown_trans (grown_drewN w n1 _) (World.grownBy_alloc _ _ _)) (chain_grown _ _ _ _ _ _ _ _ _) (Nat.le_refl _)) (grown_trans (grown_set _ _ _ _) HG2.out), HP2.out.base (by simp [World.setCell])⟩
    · have HQL : Hid (qTermS (qLoop g) (s.data.toList.drop p) = (qLeaf sh (s.data.toList.drop (p + 1))).bind fun x => some (k, x.1, [], x.2)) := Lib.hid (by rw [HQ.out, if_neg hmo])
      have HPN : Hid (∀ (R : Nat) (w' : World), Parts (d == 0) R w' pv pv []) := Lib.hid fun R w' => by
        by_cases h0 : d = 0
        · rw [show (d == 0) = true by simpa using h0, HPV.out h0]; exact ⟨rfl, .inl ⟨rfl, rfl⟩⟩
        · rw [show (d == 0) = false by simpa using h0]; exact rfl
      cases hx : sh.hex with
      | true =>
        have hsuf := List.dropWhile_suffix (p := isHex) (l := s.data.toList.drop (p + 1))
        have hu := suf_pos hp1 hsuf
        have hq := hu.2.1
        have HE := Lib.hid hu.2.2
        have hbl := digs_run_le isHex s (p + 1)
        clear hu hsuf
        by_cases hpar : ((s.data.toList.drop (p + 1)).takeWhile isHex).length % 2 = 0
        · have hpar1 : (((((s.data.toList.drop (p + 1)).takeWhile isHex).length : Int) % 2) == 0) = true := by simp; omega
          cases h2 : qNum sh ((s.data.toList.drop (p + 1)).dropWhile isHex) with
          | none =>
            have H2 := Lib.hid h2
            have HO : Hid (qTermS (qLoop g) (s.data.toList.drop p) = none) := Lib.hid (by rw [HQL.out]; unfold qLeaf; rw [if_pos hx, if_pos hpar, h2]; rfl)
            clear h2 hpar
            go_enter Try.func29, Try.ntmps29
            go_wp2_with (first | (go_at_call 47; ((with_reducible refine (next_any s p b _ hsm hp HR.out.c0 HR.out.c1).mono ?_); rintro e w' ⟨rfl, n1, rfl⟩)) | (go_at_call 35; ((with_reducible refine (kind_idx _ k HK.out _).mono ?_); rintro e w' ⟨rfl, rfl⟩; have hlk := look_sh (w.drewN n1) m k sh HM.out hk11 HSH.out; have hal : ((w.drewN n1).alloc (.cells #[.bool false, .int .u64 0, .int .u64 0, .bool false, .int .i64 0, .int .i64 0, .bool false] 77)).heap[w.heap.size]? = some (.cells #[.bool false, .int .u64 0, .int .u64 0, .bool false, .int .i64 0, .int .i64 0, .bool false] 77) := heap_alloc_new (w.drewN n1) _; have q0 := cell_of hal 0 rfl; have q1 := cell_of hal 1 rfl; have q2 := cell_of hal 2 rfl; have q3 := cell_of hal 3 rfl; have q4 := cell_of hal 4 rfl; have q5 := cell_of hal 5 rfl; have q6 := cell_of hal 6 rfl; have qf := fun i => free_of hal i; have HAL := Lib.hid hal; clear hal; have hRA := (HR.out.drewN n1).alloc (.cells #[.bool false, .int .u64 0, .int .u64 0, .bool false, .int .i64 0, .int .i64 0, .bool false] 77); have g1 := hRA.c1; have gf := hRA.f 1; have HRA := Lib.hid hRA; have HMA := Lib.hid (keep_alloc (w := w.drewN n1) HM.out (.cells #[.bool false, .int .u64 0, .int .u64 0, .bool false, .int .i64 0, .int .i64 0, .bool false] 77)); clear hRA)) | (go_at_call 30; ((with_reducible refine (need_ok _).mono ?_); rintro e w' ⟨rfl, rfl⟩)) | (go_at_call 49; ((with_reducible refine (run_any _ isHex isHex_set rfl s (p + 1) m d b pv _ hsm hp1 (chain_rd hneb' HRA.out).next).mono ?_); rintro e w2 ⟨rfl, hR2, hG2⟩; rw [posOf_dropWhile isHex s (p + 1) hp1] at hR2; have hbx := keep_far ((heap_set_other hneb).trans (chain_box HAL.out rfl)) hG2 (by simp; omega); have y0 := cell_of hbx 0 rfl; have y1 := cell_of hbx 1 rfl; have y2 := cell_of hbx 2 rfl; have y3 := cell_of hbx 3 rfl; have y4 := cell_of hbx 4 rfl; have y5 := cell_of hbx 5 rfl; have y6 := cell_of hbx 6 rfl; have HR2 := Lib.hid hR2; have HG2 := Lib.hid hG2; clear hR2 hG2 hbx)) | (go_at_call 50; ((with_reducible refine (number_v _ sh (by simp [shapeV, hx]) s (posOf s ((s.data.toList.drop (p + 1)).dropWhile isHex)) m d b pv _ hsm hq HR2.out).mono ?_); intro e w3 hpost; rw [← HE.out, H2.out] at hpost; obtain ⟨rfl, hG3⟩ := hpost)) | fail)
            refine ⟨rfl, ?_⟩
            rw [HO.out]
            exact ⟨rfl, grown_trans (grown_new (grown_trans (grown_drewN w n1 _) (World.grownBy_alloc _ _ _)) (chain_grown _ _ _ _ _ _ _ _ _) (Nat.le_refl _)) (grown_trans (grown_set _ _ _ _) (grown_trans HG2.out hG3))⟩
          | some y =>
            have H2 := Lib.hid h2
            have HO : Hid (qTermS (qLoop g) (s.data.toList.drop p) = some (k, y.1, [], y.2)) := Lib.hid (by rw [HQL.out]; unfold qLeaf; rw [if_pos hx, if_pos hpar, h2]; rfl)
            clear h2 hpar
            go_enter Try.func29, Try.ntmps29
            go_wp2_with (first | (go_at_call 47; ((with_reducible refine (next_any s p b _ hsm hp HR.out.c0 HR.out.c1).mono ?_); rintro e w' ⟨rfl, n1, rfl⟩)) | (go_at_call 35; ((with_reducible refine (kind_idx _ k HK.out _).mono ?_); rintro e w' ⟨rfl, rfl⟩; have hlk := look_sh (w.drewN n1) m k sh HM.out hk11 HSH.out; have hal : ((w.drewN n1).alloc (.cells #[.bool false, .int .u64 0, .int .u64 0, .bool false, .int .i64 0, .int .i64 0, .bool false] 77)).heap[w.heap.size]? = some (.cells #[.bool false, .int .u64 0, .int .u64 0, .bool false, .int .i64 0, .int .i64 0, .bool false] 77) := heap_alloc_new (w.drewN n1) _; have q0 := cell_of hal 0 rfl; have q1 := cell_of hal 1 rfl; have q2 := cell_of hal 2 rfl; have q3 := cell_of hal 3 rfl; have q4 := cell_of hal 4 rfl; have q5 := cell_of hal 5 rfl; have q6 := cell_of hal 6 rfl; have qf := fun i => free_of hal i; have HAL := Lib.hid hal; clear hal; have hRA := (HR.out.drewN n1).alloc (.cells #[.bool false, .int .u64 0, .int .u64 0, .bool false, .int .i64 0, .int .i64 0, .bool false] 77); have g1 := hRA.c1; have gf := hRA.f 1; have HRA := Lib.hid hRA; have HMA := Lib.hid (keep_alloc (w := w.drewN n1) HM.out (.cells #[.bool false, .int .u64 0, .int .u64 0, .bool false, .int .i64 0, .int .i64 0, .bool false] 77)); clear hRA)) | (go_at_call 30; ((with_reducible refine (need_ok _).mono ?_); rintro e w' ⟨rfl, rfl⟩)) | (go_at_call 49; ((with_reducible refine (run_any _ isHex isHex_set rfl s (p + 1) m d b pv _ hsm hp1 (chain_rd hneb' HRA.out).next).mono ?_); rintro e w2 ⟨rfl, hR2, hG2⟩; rw [posOf_dropWhile isHex s (p + 1) hp1] at hR2; have hbx := keep_far ((heap_set_other hneb).trans (chain_box HAL.out rfl)) hG2 (by simp; omega); have y0 := cell_of hbx 0 rfl; have y1 := cell_of hbx 1 rfl; have y2 := cell_of hbx 2 rfl; have y3 := cell_of hbx 3 rfl; have y4 := cell_of hbx 4 rfl; have y5 := cell_of hbx 5 rfl; have y6 := cell_of hbx 6 rfl; have HR2 := Lib.hid hR2; have HG2 := Lib.hid hG2; clear hR2 hG2 hbx)) | (go_at_call 50; ((with_reducible refine (number_v _ sh (by simp [shapeV, hx]) s (posOf s ((s.data.toList.drop (p + 1)).dropWhile isHex)) m d b pv _ hsm hq HR2.out).mono ?_); intro e w3 hpost; rw [← HE.out, H2.out] at hpost; obtain ⟨rfl, hR3, hG3⟩ := hpost; have HR3 := Lib.hid hR3; have HG3 := Lib.hid hG3; clear hR3 hG3)) | fail)
            go_ret2
            rw [HO.out]
            exact ⟨rfl, pv, HR3.out, grown_trans (grown_new (grown_trans (grown_drewN w n1 _) (World.grownBy_alloc _ _ _)) (chain_grown _ _ _ _ _ _ _ _ _) (Nat.le_refl _)) (grown_trans (grown_set _ _ _ _) (grown_trans HG2.out HG3.out)), HPN.out _ _⟩
        · have hpar1 : (((((s.data.toList.drop (p + 1)).takeWhile isHex).length : Int) % 2) == 0) = false := beqf (by omega)
          have HO : Hid (qTermS (qLoop g) (s.data.toList.drop p) = none) := Lib.hid (by rw [HQL.out]; unfold qLeaf; rw [if_pos hx, if_neg hpar]; rfl)
          clear hpar
          go_enter Try.func29, Try.ntmps29
          go_wp2_with (first | (go_at_call 47; ((with_reducible refine (next_any s p b _ hsm hp HR.out.c0 HR.out.c1).mono ?_); rintro e w' ⟨rfl, n1, rfl⟩)) | (go_at_call 35; ((with_reducible refine (kind_idx _ k HK.out _).mono ?_); rintro e w' ⟨rfl, rfl⟩; have hlk := look_sh (w.drewN n1) m k sh HM.out hk11 HSH.out; have hal : ((w.drewN n1).alloc (.cells #[.bool false, .int .u64 0, .int .u64 0, .bool false, .int .i64 0, .int .i64 0, .bool false] 77)).heap[w.heap.size]? = some (.cells #[.bool false, .int .u64 0, .int .u64 0, .bool false, .int .i64 0, .int .i64 0, .bool false] 77) := heap_alloc_new (w.drewN n1) _; have q0 := cell_of hal 0 rfl; have q1 := cell_of hal 1 rfl; have q2 := cell_of hal 2 rfl; have q3 := cell_of hal 3 rfl; have q4 := cell_of hal 4 rfl; have q5 := cell_of hal 5 rfl; have q6 := cell_of hal 6 rfl; have qf := fun i => free_of hal i; have HAL := Lib.hid hal; clear hal; have hRA := (HR.out.drewN n1).alloc (.cells #[.bool false, .int .u64 0, .int .u64 0, .bool false, .int .i64 0, .int .i64 0, .bool false] 77); have g1 := hRA.c1; have gf := hRA.f 1; have HRA := Lib.hid hRA; have HMA := Lib.hid (keep_alloc (w := w.drewN n1) HM.out (.cells #[.bool false, .int .u64 0, .int .u64 0, .bool false, .int .i64 0, .int .i64 0, .bool false] 77)); clear hRA)) | (go_at_call 30; ((with_reducible refine (need_ok _).mono ?_); rintro e w' ⟨rfl, rfl⟩)) | (go_at_call 30; ((with_reducible refine (need_bad _).mono ?_); rintro e w' ⟨rfl, rfl⟩)) | (go_at_call 49; ((with_reducible refine (run_any _ isHex isHex_set rfl s (p + 1) m d b pv _ hsm hp1 (chain_rd hneb' HRA.out).next).mono ?_); rintro e w2 ⟨rfl, hR2, hG2⟩; rw [posOf_dropWhile isHex s (p + 1) hp1] at hR2; have hbx := keep_far ((heap_set_other hneb).trans (chain_box HAL.out rfl)) hG2 (by simp; omega); have y0 := cell_of hbx 0 rfl; have y1 := cell_of hbx 1 rfl; have y2 := cell_of hbx 2 rfl; have y3 := cell_of hbx 3 rfl; have y4 := cell_of hbx 4 rfl; have y5 := cell_of hbx 5 rfl; have y6 := cell_of hbx 6 rfl; have HR2 := Lib.hid hR2; have HG2 := Lib.hid hG2; clear hR2 hG2 hbx)) | fail)
          refine ⟨rfl, ?_⟩
          rw [HO.out]
          exact ⟨rfl, grown_trans (grown_new (grown_trans (grown_drewN w n1 _) (World.grownBy_alloc _ _ _)) (chain_grown _ _ _ _ _ _ _ _ _) (Nat.le_refl _)) (grown_trans (grown_set _ _ _ _) HG2.out)⟩
      | false =>
        cases h2 : qNum sh (s.data.toList.drop (p + 1)) with
        | none =>
          have H2 := Lib.hid h2
          have HO : Hid (qTermS (qLoop g) (s.data.toList.drop p) = none) := Lib.hid (by rw [HQL.out]; unfold qLeaf; rw [if_neg (by rw [hx]; decide), h2]; rfl)
          clear h2
          go_enter Try.func29, Try.ntmps29
          go_wp2_with (first | (go_at_call 47; ((with_reducible refine (next_any s p b _ hsm hp HR.out.c0 HR.out.c1).mono ?_); rintro e w' ⟨rfl, n1, rfl⟩)) | (go_at_call 35; ((with_reducible refine (kind_idx _ k HK.out _).mono ?_); rintro e w' ⟨rfl, rfl⟩; have hlk := look_sh (w.drewN n1) m k sh HM.out hk11 HSH.out; have hal : ((w.drewN n1).alloc (.cells #[.bool false, .int .u64 0, .int .u64 0, .bool false, .int .i64 0, .int .i64 0, .bool false] 77)).heap[w.heap.size]? = some (.cells #[.bool false, .int .u64 0, .int .u64 0, .bool false, .int .i64 0, .int .i64 0, .bool false] 77) := heap_alloc_new (w.drewN n1) _; have q0 := cell_of hal 0 rfl; have q1 := cell_of hal 1 rfl; have q2 := cell_of hal 2 rfl; have q3 := cell_of hal 3 rfl; have q4 := cell_of hal 4 rfl; have q5 := cell_of hal 5 rfl; have q6 := cell_of hal 6 rfl; have qf := fun i => free_of hal i; have HAL := Lib.hid hal; clear hal; have hRA := (HR.out.drewN n1).alloc (.cells #[.bool false, .int .u64 0, .int .u64 0, .bool false, .int .i64 0, .int .i64 0, .bool false] 77); have g1 := hRA.c1; have gf := hRA.f 1; have HRA := Lib.hid hRA; have HMA := Lib.hid (keep_alloc (w := w.drewN n1) HM.out (.cells #[.bool false, .int .u64 0, .int .u64 0, .bool false, .int .i64 0, .int .i64 0, .bool false] 77)); clear hRA)) | (go_at_call 30; ((with_reducible refine (need_ok _).mono ?_); rintro e w' ⟨rfl, rfl⟩)) | (go_at_call 50; ((with_reducible refine (number_v _ sh (by simp [shapeV, hx]) s (p + 1) m d b pv _ hsm hp1 (chain_rd hneb' HRA.out).next).mono ?_); intro e w3 hpost; rw [H2.out] at hpost; obtain ⟨rfl, hG3⟩ := hpost)) | fail)
          refine ⟨rfl, ?_⟩
          rw [HO.out]
          exact ⟨rfl, grown_trans (grown_new (grown_trans (grown_drewN w n1 _) (World.grownBy_alloc _ _ _)) (chain_grown _ _ _ _ _ _ _ _ _) (Nat.le_refl _)) (grown_trans (grown_set _ _ _ _) hG3)⟩
        | some y =>
          have H2 := Lib.hid h2
          have HO : Hid (qTermS (qLoop g) (s.data.toList.drop p) = some (k, y.1, [], y.2)) := Lib.hid (by rw [HQL.out]; unfold qLeaf; rw [if_neg (by rw [hx]; decide), h2]; rfl)
          clear h2
          go_enter Try.func29, Try.ntmps29
          go_wp2_with (first | (go_at_call 47; ((with_reducible refine (next_any s p b _ hsm hp HR.out.c0 HR.out.c1).mono ?_); rintro e w' ⟨rfl, n1, rfl⟩)) | (go_at_call 35; ((with_reducible refine (kind_idx _ k HK.out _).mono ?_); rintro e w' ⟨rfl, rfl⟩; have hlk := look_sh (w.drewN n1) m k sh HM.out hk11 HSH.out; have hal : ((w.drewN n1).alloc (.cells #[.bool false, .int .u64 0, .int .u64 0, .bool false, .int .i64 0, .int .i64 0, .bool false] 77)).heap[w.heap.size]? = some (.cells #[.bool false, .int .u64 0, .int .u64 0, .bool false, .int .i64 0, .int .i64 0, .bool false] 77) := heap_alloc_new (w.drewN n1) _; have q0 := cell_of hal 0 rfl; have q1 := cell_of hal 1 rfl; have q2 := cell_of hal 2 rfl; have q3 := cell_of hal 3 rfl; have q4 := cell_of hal 4 rfl; have q5 := cell_of hal 5 rfl; have q6 := cell_of hal 6 rfl; have qf := fun i => free_of hal i; have HAL := Lib.hid hal; clear hal; have hRA := (HR.out.drewN n1).alloc (.cells #[.bool false, .int .u64 0, .int .u64 0, .bool false, .int .i64 0, .int .i64 0, .bool false] 77); have g1 := hRA.c1; have gf := hRA.f 1; have HRA := Lib.hid hRA; have HMA := Lib.hid (keep_alloc (w := w.drewN n1) HM.out (.cells #[.bool false, .int .u64 0, .int .u64 0, .bool false, .int .i64 0, .int .i64 0, .bool false] 77)); clear hRA)) | (go_at_call 30; ((with_reducible refine (need_ok _).mono ?_); rintro e w' ⟨rfl, rfl⟩)) | (go_at_call 50; ((with_reducible refine (number_v _ sh (by simp [shapeV, hx]) s (p + 1) m d b pv _ hsm hp1 (chain_rd hneb' HRA.out).next).mono ?_); intro e w3 hpost; rw [H2.out] at hpost; obtain ⟨rfl, hR3, hG3⟩ := hpost; have HR3 := Lib.hid hR3; have HG3 := Lib.hid hG3; clear hR3 hG3)) | fail)
          go_ret2
          rw [HO.out]
          exact ⟨rfl, pv, HR3.out, grown_trans (grown_new (grown_trans (grown_drewN w n1 _) (World.grownBy_alloc _ _ _)) (chain_grown _ _ _ _ _ _ _ _ _) (Nat.le_refl _)) (grown_trans (grown_set _ _ _ _) HG3.out), HPN.out _ _⟩

theorem term_all : ∀ g, TermIH g := by
  intro g
  induction g using Nat.strongRecOn with
  | ind g ih => exact term_step g (fun b m d p s pv sh w h1 h2 h3 h4 h5 h6 h7 h8 h9 => list_any g ih b m d p s pv sh w h1 h2 h3 h4 h5 h6 h7 h8 h9)
end Go.Proofs.Yteiadbiopcidmaa
