/- Texts of this seat, merged: Term9, TermMath2, Term10, Term11, Wire5, Wire6, Wire7, Wire8. -/
import Derived.Test.YtjbmcjppaadkgaaGP3
import Derived.Defers
import Derived.Recover
import Derived.RegionTactic
import Derived.StillTailTactics
import Derived.ChangeAlike
import Derived.Deep.QuietTactic
import Derived.BigQuiet
namespace Go.Proofs.Ytjbmcjppaadkgaa
set_option linter.unusedVariables false
set_option linter.unusedSimpArgs false
set_option maxRecDepth 100000
open Go.RowKit

theorem kind_idx (c : Int) (k : Nat) (hk : kindOf c.toNat.toUInt8 = k) (w : World) :
    Calls Try.prog 78 #[.string ⟨#[48, 97, 110, 120, 112, 100, 104, 107, 109, 115, 108]⟩, .int .u8 c] w fun e w' => e = .returned (.int .i64 ((k : Int) - 1)) ∧ w = w' := by
  refine (Try.strings_IndexByte _ c w).mono ?_
  rintro e w' ⟨rfl, rfl⟩
  refine ⟨ret_int ?_, rfl⟩
  have := kind_set c.toNat.toUInt8
  rw [hk] at this
  omega
theorem zero_lit (w : World) : (zeroValue 82).run Try.prog w = .ok (.agg #[.bool false, .int .u64 0, .int .u64 0, .bool false, .int .i64 0, .int .i64 0, .bool false]) w := zero_shape w
theorem look_lit (w : World) (m : Nat) (hm : w.heap[m]? = some (.map (esN 11) 11)) :
    (Instr.lookup 84 (.map (some m)) (.int .i64 0) true).run Try.prog w = .ok (.tuple #[.agg #[.bool false, .int .u64 0, .int .u64 0, .bool false, .int .i64 0, .int .i64 0, .bool false], .bool false]) w := look_none w m hm
theorem look_sh (w : World) (m k : Nat) (sh : Shape) (hm : w.heap[m]? = some (.map (esN 11) 11)) (hk : k ≤ 11) (h : shapeOf k = some sh) :
    (Instr.lookup 84 (.map (some m)) (.int .i64 k) true).run Try.prog w = .ok (.tuple #[.agg #[.bool sh.numbered, .int .u64 sh.low, .int .u64 sh.high, .bool sh.hex, .int .i64 sh.least, .int .i64 sh.most, .bool sh.ordered], .bool true]) w := by
  have h1 := look_some w m k hm (by have := shape_cases h; omega) hk
  have e : shapeAt k = sh := by unfold shapeAt; rw [h]; rfl
  rw [e] at h1
  exact h1
theorem kindOf_le (c : UInt8) : kindOf c ≤ 11 := by
  unfold kindOf
  repeat' split
  all_goals omega
theorem shapeAt_of {k : Nat} {sh : Shape} (h : shapeOf k = some sh) : shapeAt k = sh := by unfold shapeAt; rw [h]; rfl
theorem shape_none {k : Nat} (h : k ≤ 11) (hn : shapeOf k = none) : k = 0 := by
  rcases (show k = 0 ∨ k = 1 ∨ k = 2 ∨ k = 3 ∨ k = 4 ∨ k = 5 ∨ k = 6 ∨ k = 7 ∨ k = 8 ∨ k = 9 ∨ k = 10 ∨ k = 11 by omega) with rfl | rfl | rfl | rfl | rfl | rfl | rfl | rfl | rfl | rfl | rfl | rfl
  · rfl
  all_goals (simp [shapeOf] at hn)

theorem Rd.next {w : World} {b : Nat} {s : ByteArray} {p m d : Nat} {pv : Value} (h : Rd w b s p m d pv) : Rd (w.setCell ⟨b, 1, none⟩ (.int .i64 ((p : Int) + 1))) b s (p + 1) m d pv := h.set1 (p + 1)
theorem inside_v {f : Nat} (hL : ListC f) (V : Value) (sh : Shape) (hV : V = shapeV sh) (b m d p : Nat) (s : ByteArray) (pv : Value) (w : World) (h1 : s.size ≤ 65536) (h2 : d + 1 ≤ p) (h3 : p ≤ s.size) (h4 : s.size - p ≤ f)
    (h6 : Rd w b s p m d pv) (h7 : w.heap[m]? = some (.map (esN 11) 11)) (h8 : m ≠ b) (h9 : d = 0 → pv = nilV) :
    Calls Try.prog 80 #[.pointer (some ⟨b, 0, none⟩), V] w (InPost w b s m d pv (qIn (qLoop f) sh (s.data.toList.drop p))) := hV ▸ inside_any f hL b m d p s pv sh w h1 h2 h3 h4 h6 h7 h8 h9
section
variable {W : World} {k : Nat} {v0 v1 v2 v3 v4 v5 v6 : Value}
theorem chain_box {C : Array Value} {T : TypeId} (h : W.heap[k]? = some (.cells C T (0, 0))) (hC : C.size = 7) :
    (((((((W.setCell ⟨k, 0, none⟩ v0).setCell ⟨k, 1, none⟩ v1).setCell ⟨k, 2, none⟩ v2).setCell ⟨k, 3, none⟩ v3).setCell ⟨k, 4, none⟩ v4).setCell ⟨k, 5, none⟩ v5).setCell ⟨k, 6, none⟩ v6).heap[k]? = some (.cells #[v0, v1, v2, v3, v4, v5, v6] T (0, 0)) := by
  rw [heap_set (heap_set (heap_set (heap_set (heap_set (heap_set (heap_set h))))))]
  obtain ⟨l⟩ := C
  match l, hC with
  | [a, b, c, d, e, f, g], _ => rfl
theorem chain_keep {q : Nat} {o : Obj} (hq : ¬ q = k) (h : W.heap[q]? = some o) :
    (((((((W.setCell ⟨k, 0, none⟩ v0).setCell ⟨k, 1, none⟩ v1).setCell ⟨k, 2, none⟩ v2).setCell ⟨k, 3, none⟩ v3).setCell ⟨k, 4, none⟩ v4).setCell ⟨k, 5, none⟩ v5).setCell ⟨k, 6, none⟩ v6).heap[q]? = some o := by
  rw [heap_set_other hq, heap_set_other hq, heap_set_other hq, heap_set_other hq, heap_set_other hq, heap_set_other hq, heap_set_other hq, h]
theorem chain_rd {b : Nat} {s : ByteArray} {p m d : Nat} {pv : Value} (hq : ¬ b = k) (h : Rd W b s p m d pv) :
    Rd (((((((W.setCell ⟨k, 0, none⟩ v0).setCell ⟨k, 1, none⟩ v1).setCell ⟨k, 2, none⟩ v2).setCell ⟨k, 3, none⟩ v3).setCell ⟨k, 4, none⟩ v4).setCell ⟨k, 5, none⟩ v5).setCell ⟨k, 6, none⟩ v6) b s p m d pv := chain_keep hq h
end
theorem chain_grown (W : World) (k : Nat) (v0 v1 v2 v3 v4 v5 v6 : Value) :
    W.grownBy (((((((W.setCell ⟨k, 0, none⟩ v0).setCell ⟨k, 1, none⟩ v1).setCell ⟨k, 2, none⟩ v2).setCell ⟨k, 3, none⟩ v3).setCell ⟨k, 4, none⟩ v4).setCell ⟨k, 5, none⟩ v5).setCell ⟨k, 6, none⟩ v6) (some k) :=
  grown_trans (grown_set _ _ _ _) (grown_trans (grown_set _ _ _ _) (grown_trans (grown_set _ _ _ _) (grown_trans (grown_set _ _ _ _) (grown_trans (grown_set _ _ _ _) (grown_trans (grown_set _ _ _ _) (grown_set _ _ _ _))))))
theorem grown_new {a c e : World} {b k : Nat} (h : a.grownBy c (some b)) (hg : c.grownBy e (some k)) (hk : a.heap.size ≤ k) : a.grownBy e (some b) :=
  grown_far h hg (fun q hq => by cases hq; exact hk)

set_option maxHeartbeats 4000000 in
theorem term_step (g : Nat) (hL : ListC g) : TermIH g := by
  intro b m d p s pv w hs hdp hp hf h hm hmb hpv
  have hsm : s.size ≤ maxLen := by unfold maxLen; omega
  have hb := h.lt
  have hz := zero_lit
  have HR := Lib.hid h
  have HM := Lib.hid hm
  have HL := Lib.hid hL
  have HPV := Lib.hid hpv
  have r1 := h.c1; have rf1 := h.f 1; have r2 := h.c2
  clear h hm hL hpv
  obtain ⟨k, hk⟩ : ∃ k, kindOf (byteAt s p).toNat.toUInt8 = k := ⟨_, rfl⟩
  have hk11 : k ≤ 11 := by rw [← hk]; exact kindOf_le _
  have HK := Lib.hid hk
  clear hk
  cases hsh : shapeOf k with
  | none =>
    obtain rfl := shape_none hk11 hsh
    have HO : Hid (qTermS (qLoop g) (s.data.toList.drop p) = none) := Lib.hid (by
      by_cases hlt : p < s.size
      · rw [drop_at s p hlt]
        have hk := HK.out
        rw [byte_lt s p hlt] at hk
        simp [qTermS, hk, hsh]
      · rw [drop_end s p hlt]; rfl)
    clear hsh
    go_enter Try.func71, Try.ntmps71
    go_wp2_with (first | (go_at_call 79; ((with_reducible refine (next_any s p b _ hsm hp HR.out.c0 HR.out.c1).mono ?_); rintro e w' ⟨rfl, n1, rfl⟩)) | (go_at_call 78; ((with_reducible refine (kind_idx _ 0 HK.out _).mono ?_); rintro e w' ⟨rfl, rfl⟩; have hlk := look_lit (w.drewN n1) m HM.out; have hal : ((w.drewN n1).alloc (.cells #[.bool false, .int .u64 0, .int .u64 0, .bool false, .int .i64 0, .int .i64 0, .bool false] 82)).heap[w.heap.size]? = some (.cells #[.bool false, .int .u64 0, .int .u64 0, .bool false, .int .i64 0, .int .i64 0, .bool false] 82) := heap_alloc_new (w.drewN n1) _; have q0 := cell_of hal 0 rfl; have q1 := cell_of hal 1 rfl; have q2 := cell_of hal 2 rfl; have q3 := cell_of hal 3 rfl; have q4 := cell_of hal 4 rfl; have q5 := cell_of hal 5 rfl; have q6 := cell_of hal 6 rfl; have qf := fun i => free_of hal i; have HAL := Lib.hid hal; clear hal)) | (go_at_call 72; ((with_reducible refine (need_bad _).mono ?_); rintro e w' ⟨rfl, rfl⟩)) | fail)
    refine ⟨rfl, ?_⟩
    rw [HO.out]
    exact ⟨rfl, grown_new (grown_trans (grown_drewN w n1 _) (World.grownBy_alloc _ _ _)) (chain_grown _ _ _ _ _ _ _ _ _) (Nat.le_refl _)⟩
  | some sh =>
    have hlt : p < s.size := by
      by_cases hlt : p < s.size
      · exact hlt
      · have hk := HK.out
        rw [byte_ge s p hlt] at hk
        rw [← hk] at hsh
        simp [kindOf, shapeOf] at hsh
    have HSH := Lib.hid hsh
    have HQ : Hid (qTermS (qLoop g) (s.data.toList.drop p) = if 0 < sh.most then (qIn (qLoop g) sh (s.data.toList.drop (p + 1))).bind fun x => some (k, x.1, x.2.1, x.2.2) else (qLeaf sh (s.data.toList.drop (p + 1))).bind fun x => some (k, x.1, [], x.2)) := Lib.hid (by
      have hk := HK.out
      rw [byte_lt s p hlt] at hk
      rw [drop_at s p hlt]
      simp [qTermS, hk, hsh])
    have hneb : ¬ w.heap.size = b := by omega
    have hneb' : ¬ b = w.heap.size := by omega
    have hp1 : p + 1 ≤ s.size := hlt
    have hmlt : m < w.heap.size := (Array.getElem?_eq_some_iff.1 HM.out).1
    have hnem : ¬ m = w.heap.size := by omega
    clear hsh
    by_cases hmo : 0 < sh.most
    · cases h1 : qIn (qLoop g) sh (s.data.toList.drop (p + 1)) with
      | none =>
        have H1 := Lib.hid h1
        have HO : Hid (qTermS (qLoop g) (s.data.toList.drop p) = none) := Lib.hid (by rw [HQ.out, if_pos hmo, h1]; rfl)
        clear h1
        go_enter Try.func71, Try.ntmps71
        go_wp2_with (first | (go_at_call 79; ((with_reducible refine (next_any s p b _ hsm hp HR.out.c0 HR.out.c1).mono ?_); rintro e w' ⟨rfl, n1, rfl⟩)) | (go_at_call 78; ((with_reducible refine (kind_idx _ k HK.out _).mono ?_); rintro e w' ⟨rfl, rfl⟩; have hlk := look_sh (w.drewN n1) m k sh HM.out hk11 HSH.out; have hal : ((w.drewN n1).alloc (.cells #[.bool false, .int .u64 0, .int .u64 0, .bool false, .int .i64 0, .int .i64 0, .bool false] 82)).heap[w.heap.size]? = some (.cells #[.bool false, .int .u64 0, .int .u64 0, .bool false, .int .i64 0, .int .i64 0, .bool false] 82) := heap_alloc_new (w.drewN n1) _; have q0 := cell_of hal 0 rfl; have q1 := cell_of hal 1 rfl; have q2 := cell_of hal 2 rfl; have q3 := cell_of hal 3 rfl; have q4 := cell_of hal 4 rfl; have q5 := cell_of hal 5 rfl; have q6 := cell_of hal 6 rfl; have qf := fun i => free_of hal i; have HAL := Lib.hid hal; clear hal; have hRA := (HR.out.drewN n1).alloc (.cells #[.bool false, .int .u64 0, .int .u64 0, .bool false, .int .i64 0, .int .i64 0, .bool false] 82); have g1 := hRA.c1; have gf := hRA.f 1; have HRA := Lib.hid hRA; have HMA := Lib.hid (keep_alloc (w := w.drewN n1) HM.out (.cells #[.bool false, .int .u64 0, .int .u64 0, .bool false, .int .i64 0, .int .i64 0, .bool false] 82)); clear hRA)) | (go_at_call 72; ((with_reducible refine (need_ok _).mono ?_); rintro e w' ⟨rfl, rfl⟩)) | (go_at_call 80; ((with_reducible refine (inside_v HL.out _ sh rfl b m d (p + 1) s pv _ hs (by omega) hp1 (by omega) (chain_rd hneb' HRA.out).next ((heap_set_other hmb).trans (chain_keep hnem HMA.out)) hmb HPV.out).mono ?_); intro e w2 hpost; rw [H1.out] at hpost; obtain ⟨rfl, hG2⟩ := hpost)) | fail)
        refine ⟨rfl, ?_⟩
        rw [HO.out]
        exact ⟨rfl, grown_trans (grown_new (grown_trans (grown_drewN w n1 _) (World.grownBy_alloc _ _ _)) (chain_grown _ _ _ _ _ _ _ _ _) (Nat.le_refl _)) (grown_trans (grown_set _ _ _ _) hG2)⟩
      | some x =>
        have H1 := Lib.hid h1
        have HO : Hid (qTermS (qLoop g) (s.data.toList.drop p) = some (k, x.1, x.2.1, x.2.2)) := Lib.hid (by rw [HQ.out, if_pos hmo, h1]; rfl)
        clear h1
        go_enter Try.func71, Try.ntmps71
        go_wp2_with (first | (go_at_call 79; ((with_reducible refine (next_any s p b _ hsm hp HR.out.c0 HR.out.c1).mono ?_); rintro e w' ⟨rfl, n1, rfl⟩)) | (go_at_call 78; ((with_reducible refine (kind_idx _ k HK.out _).mono ?_); rintro e w' ⟨rfl, rfl⟩; have hlk := look_sh (w.drewN n1) m k sh HM.out hk11 HSH.out; have hal : ((w.drewN n1).alloc (.cells #[.bool false, .int .u64 0, .int .u64 0, .bool false, .int .i64 0, .int .i64 0, .bool false] 82)).heap[w.heap.size]? = some (.cells #[.bool false, .int .u64 0, .int .u64 0, .bool false, .int .i64 0, .int .i64 0, .bool false] 82) := heap_alloc_new (w.drewN n1) _; have q0 := cell_of hal 0 rfl; have q1 := cell_of hal 1 rfl; have q2 := cell_of hal 2 rfl; have q3 := cell_of hal 3 rfl; have q4 := cell_of hal 4 rfl; have q5 := cell_of hal 5 rfl; have q6 := cell_of hal 6 rfl; have qf := fun i => free_of hal i; have HAL := Lib.hid hal; clear hal; have hRA := (HR.out.drewN n1).alloc (.cells #[.bool false, .int .u64 0, .int .u64 0, .bool false, .int .i64 0, .int .i64 0, .bool false] 82); have g1 := hRA.c1; have gf := hRA.f 1; have HRA := Lib.hid hRA; have HMA := Lib.hid (keep_alloc (w := w.drewN n1) HM.out (.cells #[.bool false, .int .u64 0, .int .u64 0, .bool false, .int .i64 0, .int .i64 0, .bool false] 82)); clear hRA)) | (go_at_call 72; ((with_reducible refine (need_ok _).mono ?_); rintro e w' ⟨rfl, rfl⟩)) | (go_at_call 80; ((with_reducible refine (inside_v HL.out _ sh rfl b m d (p + 1) s pv _ hs (by omega) hp1 (by omega) (chain_rd hneb' HRA.out).next ((heap_set_other hmb).trans (chain_keep hnem HMA.out)) hmb HPV.out).mono ?_); intro e w2 hpost; rw [H1.out] at hpost; obtain ⟨rfl, pv2, hR2, hG2, hP2⟩ := hpost; have HR2 := Lib.hid hR2; have HG2 := Lib.hid hG2; have HP2 := Lib.hid hP2; clear hR2 hG2 hP2)) | fail)
        go_ret2
        rw [HO.out]
        exact ⟨rfl, pv2, HR2.out, grown_trans (grown_new (grown_trans (grown_drewN w n1 _) (World.grownBy_alloc _ _ _)) (chain_grown _ _ _ _ _ _ _ _ _) (Nat.le_refl _)) (grown_trans (grown_set _ _ _ _) HG2.out), HP2.out.base (by simp [World.setCell])⟩
    · have HQL : Hid (qTermS (qLoop g) (s.data.toList.drop p) = (qLeaf sh (s.data.toList.drop (p + 1))).bind fun x => some (k, x.1, [], x.2)) := Lib.hid (by rw [HQ.out, if_neg hmo])
      have HPN : Hid (∀ (R : Nat) (w' : World), Parts (d == 0) R w' pv pv []) := Lib.hid fun R w' => by
        by_cases h0 : d = 0
        · rw [show (d == 0) = true by simpa using h0, HPV.out h0]; exact ⟨rfl, .inl ⟨rfl, rfl⟩⟩
        · rw [show (d == 0) = false by simpa using h0]; exact rfl
      cases hx : sh.hex with
      | true =>
        have hsuf := List.dropWhile_suffix (p := isHex) (l := s.data.toList.drop (p + 1))
        have hu := suf_pos hp1 hsuf
        have hq := hu.2.1
        have HE := Lib.hid hu.2.2
        have hbl := digs_run_le isHex s (p + 1)
        clear hu hsuf
        by_cases hpar : ((s.data.toList.drop (p + 1)).takeWhile isHex).length % 2 = 0
        · have hpar1 : (((((s.data.toList.drop (p + 1)).takeWhile isHex).length : Int) % 2) == 0) = true := by simp; omega
          cases h2 : qNum sh ((s.data.toList.drop (p + 1)).dropWhile isHex) with
          | none =>
            have H2 := Lib.hid h2
            have HO : Hid (qTermS (qLoop g) (s.data.toList.drop p) = none) := Lib.hid (by rw [HQL.out]; unfold qLeaf; rw [if_pos hx, if_pos hpar, h2]; rfl)
            clear h2 hpar
            go_enter Try.func71, Try.ntmps71
            go_wp2_with (first | (go_at_call 79; ((with_reducible refine (next_any s p b _ hsm hp HR.out.c0 HR.out.c1).mono ?_); rintro e w' ⟨rfl, n1, rfl⟩)) | (go_at_call 78; ((with_reducible refine (kind_idx _ k HK.out _).mono ?_); rintro e w' ⟨rfl, rfl⟩; have hlk := look_sh (w.drewN n1) m k sh HM.out hk11 HSH.out; have hal : ((w.drewN n1).alloc (.cells #[.bool false, .int .u64 0, .int .u64 0, .bool false, .int .i64 0, .int .i64 0, .bool false] 82)).heap[w.heap.size]? = some (.cells #[.bool false, .int .u64 0, .int .u64 0, .bool false, .int .i64 0, .int .i64 0, .bool false] 82) := heap_alloc_new (w.drewN n1) _; have q0 := cell_of hal 0 rfl; have q1 := cell_of hal 1 rfl; have q2 := cell_of hal 2 rfl; have q3 := cell_of hal 3 rfl; have q4 := cell_of hal 4 rfl; have q5 := cell_of hal 5 rfl; have q6 := cell_of hal 6 rfl; have qf := fun i => free_of hal i; have HAL := Lib.hid hal; clear hal; have hRA := (HR.out.drewN n1).alloc (.cells #[.bool false, .int .u64 0, .int .u64 0, .bool false, .int .i64 0, .int .i64 0, .bool false] 82); have g1 := hRA.c1; have gf := hRA.f 1; have HRA := Lib.hid hRA; have HMA := Lib.hid (keep_alloc (w := w.drewN n1) HM.out (.cells #[.bool false, .int .u64 0, .int .u64 0, .bool false, .int .i64 0, .int .i64 0, .bool false] 82)); clear hRA)) | (go_at_call 72; ((with_reducible refine (need_ok _).mono ?_); rintro e w' ⟨rfl, rfl⟩)) | (go_at_call 81; ((with_reducible refine (run_any _ isHex isHex_set rfl s (p + 1) m d b pv _ hsm hp1 (chain_rd hneb' HRA.out).next).mono ?_); rintro e w2 ⟨rfl, hR2, hG2⟩; rw [posOf_dropWhile isHex s (p + 1) hp1] at hR2; have hbx := keep_far ((heap_set_other hneb).trans (chain_box HAL.out rfl)) hG2 (by simp; omega); have y0 := cell_of hbx 0 rfl; have y1 := cell_of hbx 1 rfl; have y2 := cell_of hbx 2 rfl; have y3 := cell_of hbx 3 rfl; have y4 := cell_of hbx 4 rfl; have y5 := cell_of hbx 5 rfl; have y6 := cell_of hbx 6 rfl; have HR2 := Lib.hid hR2; have HG2 := Lib.hid hG2; clear hR2 hG2 hbx)) | (go_at_call 82; ((with_reducible refine (number_v _ sh (by simp [shapeV, hx]) s (posOf s ((s.data.toList.drop (p + 1)).dropWhile isHex)) m d b pv _ hsm hq HR2.out).mono ?_); intro e w3 hpost; rw [← HE.out, H2.out] at hpost; obtain ⟨rfl, hG3⟩ := hpost)) | fail)
            refine ⟨rfl, ?_⟩
            rw [HO.out]
            exact ⟨rfl, grown_trans (grown_new (grown_trans (grown_drewN w n1 _) (World.grownBy_alloc _ _ _)) (chain_grown _ _ _ _ _ _ _ _ _) (Nat.le_refl _)) (grown_trans (grown_set _ _ _ _) (grown_trans HG2.out hG3))⟩
          | some y =>
            have H2 := Lib.hid h2
            have HO : Hid (qTermS (qLoop g) (s.data.toList.drop p) = some (k, y.1, [], y.2)) := Lib.hid (by rw [HQL.out]; unfold qLeaf; rw [if_pos hx, if_pos hpar, h2]; rfl)
            clear h2 hpar
            go_enter Try.func71, Try.ntmps71
            go_wp2_with (first | (go_at_call 79; ((with_reducible refine (next_any s p b _ hsm hp HR.out.c0 HR.out.c1).mono ?_); rintro e w' ⟨rfl, n1, rfl⟩)) | (go_at_call 78; ((with_reducible refine (kind_idx _ k HK.out _).mono ?_); rintro e w' ⟨rfl, rfl⟩; have hlk := look_sh (w.drewN n1) m k sh HM.out hk11 HSH.out; have hal : ((w.drewN n1).alloc (.cells #[.bool false, .int .u64 0, .int .u64 0, .bool false, .int .i64 0, .int .i64 0, .bool false] 82)).heap[w.heap.size]? = some (.cells #[.bool false, .int .u64 0, .int .u64 0, .bool false, .int .i64 0, .int .i64 0, .bool false] 82) := heap_alloc_new (w.drewN n1) _; have q0 := cell_of hal 0 rfl; have q1 := cell_of hal 1 rfl; have q2 := cell_of hal 2 rfl; have q3 := cell_of hal 3 rfl; have q4 := cell_of hal 4 rfl; have q5 := cell_of hal 5 rfl; have q6 := cell_of hal 6 rfl; have qf := fun i => free_of hal i; have HAL := Lib.hid hal; clear hal; have hRA := (HR.out.drewN n1).alloc (.cells #[.bool false, .int .u64 0, .int .u64 0, .bool false, .int .i64 0, .int .i64 0, .bool false] 82); have g1 := hRA.c1; have gf := hRA.f 1; have HRA := Lib.hid hRA; have HMA := Lib.hid (keep_alloc (w := w.drewN n1) HM.out (.cells #[.bool false, .int .u64 0, .int .u64 0, .bool false, .int .i64 0, .int .i64 0, .bool false] 82)); clear hRA)) | (go_at_call 72; ((with_reducible refine (need_ok _).mono ?_); rintro e w' ⟨rfl, rfl⟩)) | (go_at_call 81; ((with_reducible refine (run_any _ isHex isHex_set rfl s (p + 1) m d b pv _ hsm hp1 (chain_rd hneb' HRA.out).next).mono ?_); rintro e w2 ⟨rfl, hR2, hG2⟩; rw [posOf_dropWhile isHex s (p + 1) hp1] at hR2; have hbx := keep_far ((heap_set_other hneb).trans (chain_box HAL.out rfl)) hG2 (by simp; omega); have y0 := cell_of hbx 0 rfl; have y1 := cell_of hbx 1 rfl; have y2 := cell_of hbx 2 rfl; have y3 := cell_of hbx 3 rfl; have y4 := cell_of hbx 4 rfl; have y5 := cell_of hbx 5 rfl; have y6 := cell_of hbx 6 rfl; have HR2 := Lib.hid hR2; have HG2 := Lib.hid hG2; clear hR2 hG2 hbx)) | (go_at_call 82; ((with_reducible refine (number_v _ sh (by simp [shapeV, hx]) s (posOf s ((s.data.toList.drop (p + 1)).dropWhile isHex)) m d b pv _ hsm hq HR2.out).mono ?_); intro e w3 hpost; rw [← HE.out, H2.out] at hpost; obtain ⟨rfl, hR3, hG3⟩ := hpost; have HR3 := Lib.hid hR3; have HG3 := Lib.hid hG3; clear hR3 hG3)) | fail)
            go_ret2
            rw [HO.out]
            exact ⟨rfl, pv, HR3.out, grown_trans (grown_new (grown_trans (grown_drewN w n1 _) (World.grownBy_alloc _ _ _)) (chain_grown _ _ _ _ _ _ _ _ _) (Nat.le_refl _)) (grown_trans (grown_set _ _ _ _) (grown_trans HG2.out HG3.out)), HPN.out _ _⟩
        · have hpar1 : (((((s.data.toList.drop (p + 1)).takeWhile isHex).length : Int) % 2) == 0) = false := beqf (by omega)
          have HO : Hid (qTermS (qLoop g) (s.data.toList.drop p) = none) := Lib.hid (by rw [HQL.out]; unfold qLeaf; rw [if_pos hx, if_neg hpar]; rfl)
          clear hpar
          go_enter Try.func71, Try.ntmps71
          go_wp2_with (first | (go_at_call 79; ((with_reducible refine (next_any s p b _ hsm hp HR.out.c0 HR.out.c1).mono ?_); rintro e w' ⟨rfl, n1, rfl⟩)) | (go_at_call 78; ((with_reducible refine (kind_idx _ k HK.out _).mono ?_); rintro e w' ⟨rfl, rfl⟩; have hlk := look_sh (w.drewN n1) m k sh HM.out hk11 HSH.out; have hal : ((w.drewN n1).alloc (.cells #[.bool false, .int .u64 0, .int .u64 0, .bool false, .int .i64 0, .int .i64 0, .bool false] 82)).heap[w.heap.size]? = some (.cells #[.bool false, .int .u64 0, .int .u64 0, .bool false, .int .i64 0, .int .i64 0, .bool false] 82) := heap_alloc_new (w.drewN n1) _; have q0 := cell_of hal 0 rfl; have q1 := cell_of hal 1 rfl; have q2 := cell_of hal 2 rfl; have q3 := cell_of hal 3 rfl; have q4 := cell_of hal 4 rfl; have q5 := cell_of hal 5 rfl; have q6 := cell_of hal 6 rfl; have qf := fun i => free_of hal i; have HAL := Lib.hid hal; clear hal; have hRA := (HR.out.drewN n1).alloc (.cells #[.bool false, .int .u64 0, .int .u64 0, .bool false, .int .i64 0, .int .i64 0, .bool false] 82); have g1 := hRA.c1; have gf := hRA.f 1; have HRA := Lib.hid hRA; have HMA := Lib.hid (keep_alloc (w := w.drewN n1) HM.out (.cells #[.bool false, .int .u64 0, .int .u64 0, .bool false, .int .i64 0, .int .i64 0, .bool false] 82)); clear hRA)) | (go_at_call 72; ((with_reducible refine (need_ok _).mono ?_); rintro e w' ⟨rfl, rfl⟩)) | (go_at_call 72; ((with_reducible refine (need_bad _).mono ?_); rintro e w' ⟨rfl, rfl⟩)) | (go_at_call 81; ((with_reducible refine (run_any _ isHex isHex_set rfl s (p + 1) m d b pv _ hsm hp1 (chain_rd hneb' HRA.out).next).mono ?_); rintro e w2 ⟨rfl, hR2, hG2⟩; rw [posOf_dropWhile isHex s (p + 1) hp1] at hR2; have hbx := keep_far ((heap_set_other hneb).trans (chain_box HAL.out rfl)) hG2 (by simp; omega); have y0 := cell_of hbx 0 rfl; have y1 := cell_of hbx 1 rfl; have y2 := cell_of hbx 2 rfl; have y3 := cell_of hbx 3 rfl; have y4 := cell_of hbx 4 rfl; have y5 := cell_of hbx 5 rfl; have y6 := cell_of hbx 6 rfl; have HR2 := Lib.hid hR2; have HG2 := Lib.hid hG2; clear hR2 hG2 hbx)) | fail)
          refine ⟨rfl, ?_⟩
          rw [HO.out]
          exact ⟨rfl, grown_trans (grown_new (grown_trans (grown_drewN w n1 _) (World.grownBy_alloc _ _ _)) (chain_grown _ _ _ _ _ _ _ _ _) (Nat.le_refl _)) (grown_trans (grown_set _ _ _ _) HG2.out)⟩
      | false =>
        cases h2 : qNum sh (s.data.toList.drop (p + 1)) with
        | none =>
          have H2 := Lib.hid h2
          have HO : Hid (qTermS (qLoop g) (s.data.toList.drop p) = none) := Lib.hid (by rw [HQL.out]; unfold qLeaf; rw [if_neg (by rw [hx]; decide), h2]; rfl)
          clear h2
          go_enter Try.func71, Try.ntmps71
          go_wp2_with (first | (go_at_call 79; ((with_reducible refine (next_any s p b _ hsm hp HR.out.c0 HR.out.c1).mono ?_); rintro e w' ⟨rfl, n1, rfl⟩)) | (go_at_call 78; ((with_reducible refine (kind_idx _ k HK.out _).mono ?_); rintro e w' ⟨rfl, rfl⟩; have hlk := look_sh (w.drewN n1) m k sh HM.out hk11 HSH.out; have hal : ((w.drewN n1).alloc (.cells #[.bool false, .int .u64 0, .int .u64 0, .bool false, .int .i64 0, .int .i64 0, .bool false] 82)).heap[w.heap.size]? = some (.cells #[.bool false, .int .u64 0, .int .u64 0, .bool false, .int .i64 0, .int .i64 0, .bool false] 82) := heap_alloc_new (w.drewN n1) _; have q0 := cell_of hal 0 rfl; have q1 := cell_of hal 1 rfl; have q2 := cell_of hal 2 rfl; have q3 := cell_of hal 3 rfl; have q4 := cell_of hal 4 rfl; have q5 := cell_of hal 5 rfl; have q6 := cell_of hal 6 rfl; have qf := fun i => free_of hal i; have HAL := Lib.hid hal; clear hal; have hRA := (HR.out.drewN n1).alloc (.cells #[.bool false, .int .u64 0, .int .u64 0, .bool false, .int .i64 0, .int .i64 0, .bool false] 82); have g1 := hRA.c1; have gf := hRA.f 1; have HRA := Lib.hid hRA; have HMA := Lib.hid (keep_alloc (w := w.drewN n1) HM.out (.cells #[.bool false, .int .u64 0, .int .u64 0, .bool false, .int .i64 0, .int .i64 0, .bool false] 82)); clear hRA)) | (go_at_call 72; ((with_reducible refine (need_ok _).mono ?_); rintro e w' ⟨rfl, rfl⟩)) | (go_at_call 82; ((with_reducible refine (number_v _ sh (by simp [shapeV, hx]) s (p + 1) m d b pv _ hsm hp1 (chain_rd hneb' HRA.out).next).mono ?_); intro e w3 hpost; rw [H2.out] at hpost; obtain ⟨rfl, hG3⟩ := hpost)) | fail)
          refine ⟨rfl, ?_⟩
          rw [HO.out]
          exact ⟨rfl, grown_trans (grown_new (grown_trans (grown_drewN w n1 _) (World.grownBy_alloc _ _ _)) (chain_grown _ _ _ _ _ _ _ _ _) (Nat.le_refl _)) (grown_trans (grown_set _ _ _ _) hG3)⟩
        | some y =>
          have H2 := Lib.hid h2
          have HO : Hid (qTermS (qLoop g) (s.data.toList.drop p) = some (k, y.1, [], y.2)) := Lib.hid (by rw [HQL.out]; unfold qLeaf; rw [if_neg (by rw [hx]; decide), h2]; rfl)
          clear h2
          go_enter Try.func71, Try.ntmps71
          go_wp2_with (first | (go_at_call 79; ((with_reducible refine (next_any s p b _ hsm hp HR.out.c0 HR.out.c1).mono ?_); rintro e w' ⟨rfl, n1, rfl⟩)) | (go_at_call 78; ((with_reducible refine (kind_idx _ k HK.out _).mono ?_); rintro e w' ⟨rfl, rfl⟩; have hlk := look_sh (w.drewN n1) m k sh HM.out hk11 HSH.out; have hal : ((w.drewN n1).alloc (.cells #[.bool false, .int .u64 0, .int .u64 0, .bool false, .int .i64 0, .int .i64 0, .bool false] 82)).heap[w.heap.size]? = some (.cells #[.bool false, .int .u64 0, .int .u64 0, .bool false, .int .i64 0, .int .i64 0, .bool false] 82) := heap_alloc_new (w.drewN n1) _; have q0 := cell_of hal 0 rfl; have q1 := cell_of hal 1 rfl; have q2 := cell_of hal 2 rfl; have q3 := cell_of hal 3 rfl; have q4 := cell_of hal 4 rfl; have q5 := cell_of hal 5 rfl; have q6 := cell_of hal 6 rfl; have qf := fun i => free_of hal i; have HAL := Lib.hid hal; clear hal; have hRA := (HR.out.drewN n1).alloc (.cells #[.bool false, .int .u64 0, .int .u64 0, .bool false, .int .i64 0, .int .i64 0, .bool false] 82); have g1 := hRA.c1; have gf := hRA.f 1; have HRA := Lib.hid hRA; have HMA := Lib.hid (keep_alloc (w := w.drewN n1) HM.out (.cells #[.bool false, .int .u64 0, .int .u64 0, .bool false, .int .i64 0, .int .i64 0, .bool false] 82)); clear hRA)) | (go_at_call 72; ((with_reducible refine (need_ok _).mono ?_); rintro e w' ⟨rfl, rfl⟩)) | (go_at_call 82; ((with_reducible refine (number_v _ sh (by simp [shapeV, hx]) s (p + 1) m d b pv _ hsm hp1 (chain_rd hneb' HRA.out).next).mono ?_); intro e w3 hpost; rw [H2.out] at hpost; obtain ⟨rfl, hR3, hG3⟩ := hpost; have HR3 := Lib.hid hR3; have HG3 := Lib.hid hG3; clear hR3 hG3)) | fail)
          go_ret2
          rw [HO.out]
          exact ⟨rfl, pv, HR3.out, grown_trans (grown_new (grown_trans (grown_drewN w n1 _) (World.grownBy_alloc _ _ _)) (chain_grown _ _ _ _ _ _ _ _ _) (Nat.le_refl _)) (grown_trans (grown_set _ _ _ _) HG3.out), HPN.out _ _⟩

theorem term_all : ∀ g, TermIH g := by
  intro g
  induction g using Nat.strongRecOn with
  | ind g ih => exact term_step g (fun b m d p s pv sh w h1 h2 h3 h4 h5 h6 h7 h8 h9 => list_any g ih b m d p s pv sh w h1 h2 h3 h4 h5 h6 h7 h8 h9)
end Go.Proofs.Ytjbmcjppaadkgaa

namespace Go.Proofs.Ytjbmcjppaadkgaa
set_option linter.unusedVariables false
set_option linter.unusedSimpArgs false

theorem leL_nil (x : List UInt8) : leL [] x = true := by
  cases x <;> simp [leL, Op.bytesLess]

theorem partOf_ne {r rest : List UInt8} (h : rest.length < r.length) : (partOf r rest).length = r.length - rest.length := by
  unfold partOf; simp

theorem pNum_suf {lo hi : Nat} {l : List UInt8} {y : Nat × List UInt8} (hy : pNum lo hi l = some y) : y.2 <:+ l := by
  unfold pNum at hy
  split at hy
  · cases hy; exact List.dropWhile_suffix _
  · cases hy
theorem pass_suf' {c : UInt8} {l r : List UInt8} (h : pass c l = some r) : r <:+ l := by
  rw [pass_some] at h; subst h; exact List.suffix_cons ..

theorem pTermS_len {L : Nat → LoopT} (hL : ∀ k acc r x, L k acc r = some x → x.2 <:+ r) {l : List UInt8} {x : Nat × Nat × List UInt8 × List (List UInt8) × List UInt8} (h : pTermS L l = some x) : x.2.2.2.2 <:+ l ∧ x.2.2.2.2.length < l.length := by
  cases l with
  | nil => cases h
  | cons c r =>
    have key : x.2.2.2.2 <:+ r := by
      simp only [pTermS] at h
      obtain ⟨sh, _, h⟩ := Option.bind_eq_some_iff.1 h
      split at h
      · obtain ⟨y, hy, e⟩ := Option.bind_eq_some_iff.1 h
        cases e
        unfold pLeaf at hy
        split at hy
        · cases hy; exact List.suffix_refl _
        · split at hy
          · split at hy
            · cases hy; exact List.dropWhile_suffix _
            · cases hy
          · obtain ⟨z, hz, e⟩ := Option.bind_eq_some_iff.1 hy
            cases e; exact pNum_suf hz
      · obtain ⟨r1, h1, h⟩ := Option.bind_eq_some_iff.1 h
        obtain ⟨y, hy, h⟩ := Option.bind_eq_some_iff.1 h
        have s2 : y.2 <:+ r1 := by
          unfold pHead at hy
          split at hy
          · obtain ⟨z, hz, hy⟩ := Option.bind_eq_some_iff.1 hy
            obtain ⟨r3, h3, e⟩ := Option.bind_eq_some_iff.1 hy
            cases e
            exact (pass_suf' h3).trans (pNum_suf hz)
          · cases hy; exact List.suffix_refl _
        split at h
        · cases h; exact ((List.tail_suffix _).trans s2).trans (pass_suf' h1)
        · obtain ⟨z, hz, e⟩ := Option.bind_eq_some_iff.1 h
          cases e
          exact ((hL _ _ _ _ hz).trans s2).trans (pass_suf' h1)
    exact ⟨key.trans (List.suffix_cons ..), by have := key.length_le; simp; omega⟩

theorem pLoop_suf : ∀ (f k : Nat) (acc : List (List UInt8)) (r : List UInt8) (x : List (List UInt8) × List UInt8), pLoop f k acc r = some x → x.2 <:+ r := by
  intro f
  induction f with
  | zero => intro k acc r x h; cases h
  | succ f ih =>
    intro k acc r x h
    simp only [pLoop] at h
    obtain ⟨y, hy, h⟩ := Option.bind_eq_some_iff.1 h
    have hs := (pTermS_len (fun k acc r x => ih k acc r x) hy).1
    split at h
    · split at h
      · cases h; exact (List.tail_suffix _).trans hs
      · cases h
    · split at h
      · exact ((ih _ _ _ _ h).trans (List.tail_suffix _)).trans hs
      · cases h
theorem pTerm_suf {f : Nat} {l : List UInt8} {x : Nat × Nat × List UInt8 × List (List UInt8) × List UInt8} (h : pTermS (pLoop f) l = some x) : x.2.2.2.2 <:+ l ∧ x.2.2.2.2.length < l.length :=
  pTermS_len (fun k acc r x => pLoop_suf f k acc r x) h

theorem pLoop_ok : ∀ (f k : Nat) (acc : List (List UInt8)) (r : List UInt8) (x : List (List UInt8) × List UInt8), pLoop f k acc r = some x → okParts k x.1 = true ∧ acc.length + 1 ≤ x.1.length := by
  intro f
  induction f with
  | zero => intro k acc r x h; cases h
  | succ f ih =>
    intro k acc r x h
    simp only [pLoop] at h
    obtain ⟨y, hy, h⟩ := Option.bind_eq_some_iff.1 h
    split at h
    · split at h
      · rename_i hk
        cases h; exact ⟨hk, by simp⟩
      · cases h
    · split at h
      · have := ih _ _ _ _ h
        exact ⟨this.1, by have := this.2; simp at this; omega⟩
      · cases h

def bytesIn (k : Nat) (l : List UInt8) : List UInt8 := if k = 4 then hxBytes (l.tail.takeWhile isWord) else []

/-- the condition of the induction -/
def EqA (f : Nat) : Prop := ∀ (k : Nat) (sh : Shape) (acc : List (List UInt8)) (r : List UInt8), shapeOf k = some sh → 0 < sh.most → acc.length + r.length ≤ 65536 →
  ∀ ps r', pLoop f k acc r = some (ps, r') ↔ qLoop f sh acc r = some (ps, 41 :: r')

theorem least_zero {k : Nat} {sh : Shape} (hs : shapeOf k = some sh) (hm : 0 < sh.most) : sh.least = 0 ↔ k = 11 := by
  rcases shape_cases hs with rfl | rfl | rfl | rfl | rfl | rfl | rfl | rfl | rfl | rfl | rfl
  all_goals (simp only [shapeOf, Option.some.injEq] at hs; subst hs)
  all_goals first | (exact absurd hm (by decide)) | simp

theorem head_cons {l : List UInt8} {c : UInt8} (h : l.head? = some c) : l = c :: l.tail := by
  cases l with
  | nil => cases h
  | cons x l => simp at h; subst h; rfl

theorem T1 {f : Nat} (hA : EqA f) {l : List UInt8} (hl : l.length ≤ 65536) {k n : Nat} {b : List UInt8} {ps : List (List UInt8)} {rest : List UInt8} (h : pTermS (pLoop f) l = some (k, n, b, ps, rest)) :
    qTermS (qLoop f) l = some (k, n, ps, rest) ∧ b = bytesIn k l := by
  cases l with
  | nil => cases h
  | cons c r =>
    simp only [pTermS] at h
    simp only [qTermS]
    obtain ⟨sh, hs, h⟩ := Option.bind_eq_some_iff.1 h
    rw [hs]
    show (if 0 < sh.most then _ else _) = _ ∧ _
    split at h
    · rename_i hk
      obtain ⟨x, hx, e⟩ := Option.bind_eq_some_iff.1 h
      have := pLeaf_q hs hk hx
      rw [if_neg this.1, this.2.1]
      cases e
      exact ⟨rfl, this.2.2⟩
    · rename_i hk
      obtain ⟨r1, h1, h⟩ := Option.bind_eq_some_iff.1 h
      obtain ⟨x, hx, h⟩ := Option.bind_eq_some_iff.1 h
      obtain ⟨hm, y, hy, hc, e1⟩ := pHead_q hs hk hx
      have hlen : x.2.length ≤ 65536 := by
        have h2 := (pass_suf' h1).length_le
        have h3 : x.2 <:+ r1 := by
          unfold pHead at hx
          split at hx
          · obtain ⟨z, hz, hx⟩ := Option.bind_eq_some_iff.1 hx
            obtain ⟨r3, h3, e⟩ := Option.bind_eq_some_iff.1 hx
            cases e
            exact (pass_suf' h3).trans (pNum_suf hz)
          · cases hx; exact List.suffix_refl _
        have := h3.length_le
        simp at hl; omega
      rw [if_pos hm]
      have hb : bytesIn (kindOf c) (c :: r) = [] := if_neg (by omega)
      split at h
      · rename_i hd
        cases h
        refine ⟨?_, hb.symm⟩
        have hp : pass 41 x.2 = some x.2.tail := pass_some.2 (head_cons hd.2)
        have hq : qList (qLoop f) sh x.2 = some ([], x.2) := by unfold qList; rw [if_pos ⟨(least_zero hs hm).2 hd.1, hd.2⟩]
        simp [qIn, h1, hy, hc, hq, hp, e1]
      · rename_i hd
        obtain ⟨z, hz, e⟩ := Option.bind_eq_some_iff.1 h
        cases e
        refine ⟨?_, hb.symm⟩
        have hq : qList (qLoop f) sh x.2 = some (z.1, 41 :: z.2) := by
          unfold qList
          rw [if_neg fun hh => hd ⟨(least_zero hs hm).1 hh.1, hh.2⟩]
          exact (hA _ sh [] x.2 hs hm (by simpa using hlen) z.1 z.2).1 hz
        have hp : pass 41 (41 :: z.2) = some z.2 := rfl
        simp [qIn, h1, hy, hc, hq, hp, e1]

theorem T2 {f : Nat} (hA : EqA f) {l : List UInt8} (hl : l.length ≤ 65536) {k n : Nat} {ps : List (List UInt8)} {rest : List UInt8} (h : qTermS (qLoop f) l = some (k, n, ps, rest)) (hst : Stop rest) :
    pTermS (pLoop f) l = some (k, n, bytesIn k l, ps, rest) := by
  cases l with
  | nil => cases h
  | cons c r =>
    simp only [qTermS] at h
    simp only [pTermS]
    obtain ⟨sh, hs, h⟩ := Option.bind_eq_some_iff.1 h
    rw [hs]
    show (if kindOf c ≤ 4 then _ else _) = _
    split at h
    · rename_i hm
      obtain ⟨x, hx, e⟩ := Option.bind_eq_some_iff.1 h
      cases e
      unfold qIn at hx
      obtain ⟨r1, h1, hx⟩ := Option.bind_eq_some_iff.1 hx
      obtain ⟨y, hy, hx⟩ := Option.bind_eq_some_iff.1 hx
      obtain ⟨r3, hc, hx⟩ := Option.bind_eq_some_iff.1 hx
      obtain ⟨z, hz, hx⟩ := Option.bind_eq_some_iff.1 hx
      obtain ⟨r5, h5, hx⟩ := Option.bind_eq_some_iff.1 hx
      cases hx
      obtain ⟨hk, hh⟩ := qHead_p hs hm hy hc
      rw [if_neg hk]
      have hb : bytesIn (kindOf c) (c :: r) = [] := if_neg (by omega)
      rw [hb]
      rw [pass_some] at h5
      unfold qList at hz
      split at hz
      · rename_i hd
        cases hz
        have hcond : kindOf c = 11 ∧ r3.head? = some 41 := ⟨(least_zero hs hm).1 hd.1, hd.2⟩
        simp only at h5
        subst h5
        have hk11 := hcond.1
        rw [hk11] at hh
        simp [h1, hh, hk11]
      · rename_i hd
        have hcond : ¬ (kindOf c = 11 ∧ r3.head? = some 41) := fun hq => hd ⟨(least_zero hs hm).2 hq.1, hq.2⟩
        have hlen : r3.length ≤ 65536 := by
          have h2 := (pass_suf' h1).length_le
          have h3 : y.2 <:+ r1 := by
            unfold qNum at hy
            split at hy
            · split at hy
              · cases hy; exact List.dropWhile_suffix _
              · cases hy
            · cases hy; exact List.suffix_refl _
          have h4 : r3 <:+ y.2 := by
            unfold qComma at hc
            split at hc
            · exact pass_suf' hc
            · cases hc; exact List.suffix_refl _
          have := h3.length_le
          have := h4.length_le
          simp at hl; omega
        have e5 : z = (z.1, 41 :: r5) := by rw [← h5]
        rw [e5] at hz
        have hp := (hA _ sh [] r3 hs hm (by simpa using hlen) z.1 r5).2 hz
        simp [h1, hh, hcond, hp]
    · rename_i hm
      obtain ⟨x, hx, e⟩ := Option.bind_eq_some_iff.1 h
      cases e
      have := qLeaf_p hs hm hx hst
      rw [if_pos this.1, this.2]
      rfl

theorem right_iff {k : Nat} {sh : Shape} (hs : shapeOf k = some sh) (hm : 0 < sh.most) (n : Nat) (hn : 1 ≤ n) (hn2 : n ≤ 65536) : right k n = true ↔ sh.least ≤ n ∧ n ≤ sh.most := by
  rcases shape_cases hs with rfl | rfl | rfl | rfl | rfl | rfl | rfl | rfl | rfl | rfl | rfl
  all_goals (simp only [shapeOf, Option.some.injEq] at hs; subst hs)
  all_goals first | (exact absurd hm (by decide)) | (simp [right]; try omega)

theorem ordered_iff {k : Nat} {sh : Shape} (hs : shapeOf k = some sh) : sh.ordered = true ↔ k = 6 := by
  rcases shape_cases hs with rfl | rfl | rfl | rfl | rfl | rfl | rfl | rfl | rfl | rfl | rfl
  all_goals (simp only [shapeOf, Option.some.injEq] at hs; subst hs; simp)

theorem eqA : ∀ f, EqA f := by
  intro f
  induction f with
  | zero => intro k sh acc r _ _ _ ps r'; simp [pLoop, qLoop]
  | succ f ih =>
    intro k sh acc r hs hm hlen ps r'
    constructor
    · intro h
      simp only [pLoop] at h
      obtain ⟨⟨k1, n1, b1, ps1, rest⟩, hx, h⟩ := Option.bind_eq_some_iff.1 h
      have hq := (T1 ih (by omega) hx).1
      have hsuf := pTerm_suf hx
      simp only at h hsuf
      simp only [qLoop]
      rw [hq]
      show (if sh.ordered = true ∧ leL (acc.getLast?.getD []) (partOf r rest) = false then none else if rest.head? = some 44 then _ else _) = _
      have hl2 := hsuf.2
      split at h
      · rename_i h41
        split at h
        · rename_i hok
          cases h
          have hok' := hok
          simp only [okParts, Bool.and_eq_true, Bool.not_eq_true', Bool.and_eq_false_iff] at hok
          have hcount := (right_iff hs hm (acc.length + 1) (by omega) (by omega)).1 (by simpa using hok.1)
          rw [if_neg, if_neg (by rw [h41]; simp), if_pos hcount, ← head_cons h41]
          rintro ⟨ho, hle⟩
          have hk6 := (ordered_iff hs).1 ho
          subst hk6
          have hr := hok.1
          simp [right] at hr
          match acc, hr with
          | [a], _ =>
            rcases hok.2 with h6 | h6
            · simp at h6
            · simp at h6 hle; rw [hle] at h6; cases h6
        · cases h
      · rename_i h41
        split at h
        · rename_i h44
          have hpo := pLoop_ok f k _ _ _ h
          rw [if_neg, if_pos h44]
          · exact (ih k sh _ _ hs hm (by simp; omega) ps r').1 h
          · rintro ⟨ho, hle⟩
            have hk6 := (ordered_iff hs).1 ho
            subst hk6
            have h1 := hpo.1
            simp only [okParts, Bool.and_eq_true] at h1
            have hr := h1.1
            simp [right] at hr
            have h2 := hpo.2
            rw [hr] at h2
            simp at h2
            subst h2
            rw [show (([] : List (List UInt8)).getLast?.getD []) = [] from rfl, leL_nil] at hle
            cases hle
        · cases h
    · intro h
      simp only [qLoop] at h
      obtain ⟨⟨k1, n1, ps1, rest⟩, hx, h⟩ := Option.bind_eq_some_iff.1 h
      simp only at h
      split at h
      · cases h
      · rename_i hno
        split at h
        · rename_i h44
          have hp := T2 ih (by omega) hx (.inr (.inl h44))
          have hsuf := pTerm_suf hp
          simp only at hsuf
          have hl2 := hsuf.2
          simp only [pLoop]
          rw [hp]
          show (if rest.head? = some 41 then _ else if rest.head? = some 44 then _ else _) = _
          rw [if_neg (by rw [h44]; simp), if_pos h44]
          exact (ih k sh _ _ hs hm (by simp; omega) ps r').2 h
        · split at h
          · rename_i hcount
            simp only [Option.some.injEq, Prod.mk.injEq] at h
            obtain ⟨e1, e2⟩ := h
            subst e2
            have hp := T2 ih (by omega) hx (.inr (.inr rfl))
            have hsuf := pTerm_suf hp
            simp only at hsuf
            have hl2 := hsuf.2
            simp only [pLoop]
            rw [hp]
            show (if (41 :: r').head? = some 41 then (if okParts k (acc ++ [partOf r (41 :: r')]) = true then some (acc ++ [partOf r (41 :: r')], (41 :: r').tail) else none) else (if (41 :: r').head? = some 44 then pLoop f k (acc ++ [partOf r (41 :: r')]) (41 :: r').tail else none)) = _
            rw [if_pos (show (41 :: r').head? = some 41 from rfl), if_pos, e1]
            · rfl
            · simp only [okParts, Bool.and_eq_true, Bool.not_eq_true', Bool.and_eq_false_iff]
              refine ⟨by simpa using (right_iff hs hm (acc.length + 1) (by omega) (by omega)).2 hcount, ?_⟩
              by_cases hk6 : k = 6
              · right
                subst hk6
                have ho := (ordered_iff hs).2 rfl
                simp only [shapeOf, Option.some.injEq] at hs
                subst hs
                simp only at hcount
                match acc, hcount with
                | [a], _ =>
                  simp only [not_and, Bool.not_eq_false] at hno
                  have := hno trivial
                  simp at this ⊢
                  exact this
                | [], hc => simp at hc
                | _ :: _ :: _, hc => simp at hc
              · left; simpa using hk6
          · cases h

/-- what a whole text is, as the program finds it: kind, number, parts -/
def qLook (t : List UInt8) : Option (Nat × Nat × List (List UInt8)) :=
  if t.length ≤ 65536 then (qTermS (qLoop t.length) t).bind fun x => if x.2.2.2 = [] then some (x.1, x.2.1, x.2.2.1) else none else none
/-- .. as the reference finds it: kind, number, bytes, parts -/
def pLook (t : List UInt8) : Option (Nat × Nat × List UInt8 × List (List UInt8)) :=
  if t.length ≤ 65536 then (pTermS (pLoop t.length) t).bind fun x => if x.2.2.2.2 = [] then some (x.1, x.2.1, x.2.2.1, x.2.2.2.1) else none else none

theorem look_eq (t : List UInt8) : pLook t = (qLook t).map fun x => (x.1, x.2.1, bytesIn x.1 t, x.2.2) := by
  unfold pLook qLook
  split
  · rename_i hl
    cases hq : qTermS (qLoop t.length) t with
    | none =>
      cases hp : pTermS (pLoop t.length) t with
      | none => rfl
      | some x =>
        obtain ⟨k, n, b, ps, rest⟩ := x
        have := (T1 (eqA _) hl hp).1
        rw [hq] at this; cases this
    | some x =>
      obtain ⟨k, n, ps, rest⟩ := x
      by_cases hr : rest = []
      · subst hr
        rw [T2 (eqA _) hl hq (.inl rfl)]
        rfl
      · cases hp : pTermS (pLoop t.length) t with
        | none => simp [hr]
        | some y =>
          obtain ⟨k', n', b', ps', rest'⟩ := y
          have := (T1 (eqA _) hl hp).1
          rw [hq] at this
          cases this
          simp [hr]
  · rfl
end Go.Proofs.Ytjbmcjppaadkgaa

namespace Go.Proofs.Ytjbmcjppaadkgaa
set_option linter.unusedVariables false
set_option linter.unusedSimpArgs false
set_option maxRecDepth 100000
open Go.RowKit

theorem catch_panicking (b : Nat) (v0 v1 v2 v3 : Value) (w : World) (h : w.heap[b]? = some (.cells #[v0, v1, v2, v3] 89 (0, 0))) :
    CallsD Try.prog 70 #[.pointer (some ⟨b, 0, none⟩)] (.panicking [{ v := faultV, recovered := false }]) w fun e u' w' =>
      e = .returned (.tuple #[]) ∧ u' = .panicking [{ v := faultV, recovered := true }] ∧ w' = (((w.setCell ⟨b, 0, none⟩ (.int .i64 0)).setCell ⟨b, 1, none⟩ (.bool false)).setCell ⟨b, 2, none⟩ (.int .u64 0)).setCell ⟨b, 3, none⟩ (.slice none 0 0) := by
  have c0 := cell_of h 0 rfl; have c1 := cell_of h 1 rfl; have c2 := cell_of h 2 rfl; have c3 := cell_of h 3 rfl
  have f0 := free_of h 0; have f1 := free_of h 1; have f2 := free_of h 2; have f3 := free_of h 3
  refine callsD_of_wpS Try.func70 rfl fun c₀ cs hu => ?_
  apply wpS_seq
  apply wpS_region
  simp [wpOpsS, go_sem, recoverD, hu, Try.ntmps70, Exit.thenS]
  refine wpS_cond (t := true) (by simp [Act.eval, Array.replicate, faultV, Act.put]) ?_
  simp only [if_true]
  apply wpS_region
  simp [wpOpsS, go_sem, c0, c1, c2, c3, f0, f1, f2, f3, bodyPostS, results, Try.results70]

theorem catch_idle (p : Addr) (w : World) :
    CallsD Try.prog 70 #[.pointer (some p)] .returning w fun e u' w' => e = .returned (.tuple #[]) ∧ u' = .returning ∧ w' = w := by
  refine callsD_of_wpS Try.func70 rfl fun c₀ cs hu => ?_
  apply wpS_seq
  apply wpS_region
  simp [wpOpsS, go_sem, recoverD, hu, Try.ntmps70, Exit.thenS]
  refine wpS_cond (t := false) (by simp [Act.eval, Array.replicate]) ?_
  simp only [Bool.false_eq_true, if_false]
  refine wpS_of_wp (wp_skip ?_)
  cases c₀
  simp_all [bodyPostS, results, Try.results70]

/-- a slice of strings that reads as these -/
def Strs (w : World) (v : Value) (l : List (List UInt8)) : Prop :=
  ∃ a cap, v = .slice a l.length cap ∧ (a = none → cap = 0) ∧ (l = [] ∨ ∃ b off, a = some ⟨b, off, none⟩ ∧ ∀ i, i < l.length → w.cell? ⟨b, off + i, none⟩ = some (strV (l.getD i [])))
theorem strs_nil (w : World) : Strs w (.slice none 0 0) [] := ⟨none, 0, rfl, fun _ => rfl, .inl rfl⟩
theorem strs_own {w : World} {B : Nat} {v : Value} {l : List (List UInt8)} (h : w.ownsRow B 9 1 v l.length (l.map strV)) : Strs w v l := by
  rcases h.2 with ⟨rfl, hn⟩ | ⟨g, cap, cur, rfl, hB, hg, hcap, _, hsz, htk⟩
  · have : l = [] := List.length_eq_zero_iff.1 hn
    subst this; exact strs_nil w
  · refine ⟨_, cap, rfl, (fun h => by cases h), .inr ⟨g, 0, rfl, fun i hi => ?_⟩⟩
    rw [Nat.zero_add]
    refine cell_of hg i ?_
    have h1 : (l.map strV)[i]? = some (strV (l.getD i [])) := by simp [List.getElem?_map, List.getElem?_eq_getElem hi]
    rw [← htk, List.getElem?_take] at h1
    split at h1
    · simpa using h1
    · cases h1
theorem Strs.below {w w' : World} {v : Value} {l : List (List UInt8)} (h : Strs w v l) (hb : Below w.heap.size w w') : Strs w' v l := by
  obtain ⟨a, cap, e, hn, h⟩ := h
  refine ⟨a, cap, e, hn, ?_⟩
  rcases h with h | ⟨b, off, e2, h⟩
  · exact .inl h
  · refine .inr ⟨b, off, e2, fun i hi => ?_⟩
    have hc := h i hi
    have := World.block_lt_of_cell? w _ hc
    exact (hb.cell (p := ⟨b, off + i, none⟩) this).trans hc

def numb (k : Nat) : Bool := k == 2 || k == 3 || k == 8 || k == 10
theorem numb_shape {k : Nat} {sh : Shape} (h : shapeOf k = some sh) : sh.numbered = numb k := by
  rcases shape_cases h with rfl | rfl | rfl | rfl | rfl | rfl | rfl | rfl | rfl | rfl | rfl
  all_goals (simp only [shapeOf, Option.some.injEq] at h; subst h; rfl)
def lookR (t : List UInt8) : Nat × Nat × List (List UInt8) := (qLook t).getD (0, 0, [])
def LookRet (w : World) (x : Nat × Nat × List (List UInt8)) (e : Ending) (w' : World) : Prop :=
  ∃ pv, e = .returned (.agg #[.int .i64 x.1, .bool (numb x.1), .int .u64 x.2.1, pv]) ∧ Strs w' pv x.2.2 ∧ Below w.heap.size w w'

theorem below_grown {w a c : World} {b : Nat} (h : Below w.heap.size w a) (hg : a.grownBy c (some b)) (hb : w.heap.size ≤ b) : Below w.heap.size w c :=
  h.grown hg h.size (fun k hk => by cases hk; exact hb)

theorem look_long (t : ByteArray) (ht : t.size ≤ maxLen) (hl : 65536 < t.size) (w : World) : Calls Try.prog 57 #[.string t] w (LookRet w (lookR t.data.toList)) := by
  unfold maxLen at ht
  have HO : Hid (lookR t.data.toList = (0, 0, [])) := Lib.hid (by unfold lookR qLook; rw [if_neg (by simp; omega)]; rfl)
  go_enter_defers Try.func57, Try.ntmps57
  go_wp2
  simp only [bodyPostD, Leaves]
  refine ⟨.agg #[.int .i64 0, .bool false, .int .u64 0, .slice none 0 0], by simp [results, Try.results57, go_sem], ?_⟩
  rw [HO.out]
  exact ⟨_, rfl, strs_nil _, (Below.refl _ _).alloc (Nat.le_refl _) _⟩

theorem look_facts (t : ByteArray) (w : World) : Rd (((w.alloc (.cells #[.int .i64 0, .bool false, .int .u64 0, .slice none 0 0] 89)).alloc (.map (esN 11) 11)).alloc (.cells #[.string t, .int .i64 0, .map (some (w.heap.size + 1)), .int .i64 0, .slice none 0 0] 104)) (w.heap.size + 1 + 1) t 0 (w.heap.size + 1) 0 nilV ∧ ((((w.alloc (.cells #[.int .i64 0, .bool false, .int .u64 0, .slice none 0 0] 89)).alloc (.map (esN 11) 11)).alloc (.cells #[.string t, .int .i64 0, .map (some (w.heap.size + 1)), .int .i64 0, .slice none 0 0] 104))).heap[w.heap.size + 1]? = some (.map (esN 11) 11) ∧ ((((w.alloc (.cells #[.int .i64 0, .bool false, .int .u64 0, .slice none 0 0] 89)).alloc (.map (esN 11) 11)).alloc (.cells #[.string t, .int .i64 0, .map (some (w.heap.size + 1)), .int .i64 0, .slice none 0 0] 104))).heap[w.heap.size]? = some (.cells #[.int .i64 0, .bool false, .int .u64 0, .slice none 0 0] 89) := by
  have e1 : (w.alloc (.cells #[.int .i64 0, .bool false, .int .u64 0, .slice none 0 0] 89)).heap.size = w.heap.size + 1 := by simp
  have e2 : (((w.alloc (.cells #[.int .i64 0, .bool false, .int .u64 0, .slice none 0 0] 89)).alloc (.map (esN 11) 11))).heap.size = w.heap.size + 1 + 1 := by simp
  have h0 := heap_alloc_new w (.cells #[.int .i64 0, .bool false, .int .u64 0, .slice none 0 0] 89)
  have h1 := heap_alloc_new (w.alloc (.cells #[.int .i64 0, .bool false, .int .u64 0, .slice none 0 0] 89)) (.map (esN 11) 11)
  have h2 := heap_alloc_new ((w.alloc (.cells #[.int .i64 0, .bool false, .int .u64 0, .slice none 0 0] 89)).alloc (.map (esN 11) 11)) (.cells #[.string t, .int .i64 0, .map (some (w.heap.size + 1)), .int .i64 0, .slice none 0 0] 104)
  rw [e1] at h1
  rw [e2] at h2
  exact ⟨h2, keep_alloc h1 _, keep_alloc (keep_alloc h0 _) _⟩
theorem look_term (t : ByteArray) (hl : t.size ≤ 65536) (w : World) : Calls Try.prog 71 #[.pointer (some ⟨w.heap.size + 1 + 1, 0, none⟩)] (((w.alloc (.cells #[.int .i64 0, .bool false, .int .u64 0, .slice none 0 0] 89)).alloc (.map (esN 11) 11)).alloc (.cells #[.string t, .int .i64 0, .map (some (w.heap.size + 1)), .int .i64 0, .slice none 0 0] 104))
    (TPost (((w.alloc (.cells #[.int .i64 0, .bool false, .int .u64 0, .slice none 0 0] 89)).alloc (.map (esN 11) 11)).alloc (.cells #[.string t, .int .i64 0, .map (some (w.heap.size + 1)), .int .i64 0, .slice none 0 0] 104)) (w.heap.size + 1 + 1) t (w.heap.size + 1) 0 nilV (qTermS (qLoop t.size) t.data.toList)) := by
  obtain ⟨h1, h2, h3⟩ := look_facts t w
  have := term_all t.size (w.heap.size + 1 + 1) (w.heap.size + 1) 0 0 t nilV (((w.alloc (.cells #[.int .i64 0, .bool false, .int .u64 0, .slice none 0 0] 89)).alloc (.map (esN 11) 11)).alloc (.cells #[.string t, .int .i64 0, .map (some (w.heap.size + 1)), .int .i64 0, .slice none 0 0] 104)) hl (Nat.le_refl _) (Nat.zero_le _) (by omega) h1 h2 (by omega) (fun _ => rfl)
  rw [List.drop_zero] at this
  exact this

/-- behind a thrown fault: the zero value is told -/
theorem look_fault {w w4 : World} {t : ByteArray} {R : Ending → World → Prop} (hG : ((((w.alloc (.cells #[.int .i64 0, .bool false, .int .u64 0, .slice none 0 0] 89)).alloc (.map (esN 11) 11)).alloc (.cells #[.string t, .int .i64 0, .map (some (w.heap.size + 1)), .int .i64 0, .slice none 0 0] 104))).grownBy w4 (some (w.heap.size + 1 + 1))) (n : Nat)
    (hR : ∀ w', Below w.heap.size w w' → R (.returned (.agg #[.int .i64 0, .bool false, .int .u64 0, .slice none 0 0])) w') (a : Act) (ha : a.tmps.getD 2 undef = .pointer (some ⟨w.heap.size, 0, none⟩))
    (hd : a.defers = [{ target := Target.fn (Fn.func 70) #[.pointer (some ⟨w.heap.size, 0, none⟩)], args := #[] }]) :
    bodyPostD Try.prog Try.f57 R (Exit.panic faultC) a (w4.drewN n) := by
  obtain ⟨T, D⟩ := a
  cases hd
  have hF : (w4.drewN n).heap[w.heap.size]? = some (.cells #[.int .i64 0, .bool false, .int .u64 0, .slice none 0 0] 89) := by
    have h1 := keep_far (look_facts t w).2.2 hG (by simp; omega)
    exact h1
  refine leaves_cons (f := 70) (args := #[.pointer (some ⟨w.heap.size, 0, none⟩)]) (by simp) (by simp [go_sem]) ?_
  refine (catch_panicking w.heap.size _ _ _ _ (w4.drewN n) hF).mono ?_
  rintro e u' w'' ⟨rfl, rfl, rfl⟩
  have hS := heap_set (i := 3) (v := .slice none 0 0) (heap_set (i := 2) (v := .int .u64 0) (heap_set (i := 1) (v := .bool false) (heap_set (i := 0) (v := .int .i64 0) hF)))
  have c0 := cell_of hS 0 rfl; have c1 := cell_of hS 1 rfl; have c2 := cell_of hS 2 rfl; have c3 := cell_of hS 3 rfl
  refine ⟨.agg #[.int .i64 0, .bool false, .int .u64 0, .slice none 0 0], ?_, hR _ ?_⟩
  · have h2 : T[2]?.getD undef = .pointer (some ⟨w.heap.size, 0, none⟩) := by simpa using ha
    simp [results, Try.results57, go_sem, h2, c0, c1, c2, c3]
  · have hB : Below w.heap.size w (w4.drewN n) :=
      (below_grown ((((Below.refl _ _).alloc (Nat.le_refl _) _).alloc (by simp) _).alloc (by simp; omega) _) hG (by omega)).grown (grown_drewN w4 n none) (by have := hG.size; simp at this; omega) (fun k hk => by cases hk)
    exact (((hB.setCell (Nat.le_refl _) _).setCell (Nat.le_refl _) _).setCell (Nat.le_refl _) _).setCell (Nat.le_refl _) _

theorem look_none_q (t : ByteArray) (hl : t.size ≤ 65536) (hq : qTermS (qLoop t.size) t.data.toList = none) (w : World) : Calls Try.prog 57 #[.string t] w (LookRet w (lookR t.data.toList)) := by
  have HO : Hid (lookR t.data.toList = (0, 0, [])) := Lib.hid (by unfold lookR qLook; rw [if_pos (by simpa using hl)]; rw [show t.data.toList.length = t.size by simp, hq]; rfl)
  have hT := look_term t hl w
  rw [hq] at hT
  have HT := Lib.hid hT
  clear hq hT
  have hmf : ∀ (fn : Fn) (first cap : Array Value) (w : World), (Instr.makeFunc fn first cap).run Try.prog w = .ok (.func fn first cap) w := fun _ _ _ _ => rfl
  go_enter_defers Try.func57, Try.ntmps57
  go_wp2_with (first | (go_at_call 54; ((with_reducible refine (shapes_any _).mono ?_); rintro e w' ⟨rfl, rfl⟩)) | (go_at_call 71; ((with_reducible refine HT.out.mono ?_); rintro e w4 ⟨rfl, hG⟩)) | fail)
  rw [HO.out]
  exact look_fault hG 0 (fun w' hB => ⟨_, rfl, strs_nil _, hB⟩) _ rfl rfl

theorem look_plain (w : World) (m k : Nat) (sh : Shape) (hm : w.heap[m]? = some (.map (esN 11) 11)) (hk : k ≤ 11) (h : shapeOf k = some sh) :
    (Instr.lookup 84 (.map (some m)) (.int .i64 k) false).run Try.prog w = .ok (.agg #[.bool sh.numbered, .int .u64 sh.low, .int .u64 sh.high, .bool sh.hex, .int .i64 sh.least, .int .i64 sh.most, .bool sh.ordered]) w := by
  have h1 : 1 ≤ k := by have := shape_cases h; omega
  have hf : Instr.findNow (.int .i64) (.int .i64 k) (esN 11).toList 0 = some (some (k - 1, shapeV (shapeAt k))) := by
    rcases (show k = 1 ∨ k = 2 ∨ k = 3 ∨ k = 4 ∨ k = 5 ∨ k = 6 ∨ k = 7 ∨ k = 8 ∨ k = 9 ∨ k = 10 ∨ k = 11 by omega) with rfl | rfl | rfl | rfl | rfl | rfl | rfl | rfl | rfl | rfl | rfl <;> rfl
  have hc := int_check w ((esN 11).isEmpty) k
  have hg := find_now w k _ _ hf
  have e : shapeAt k = sh := by unfold shapeAt; rw [h]; rfl
  simp only [Instr.lookup, Sem.run_bind, Sem.run_pure, run_underlying Try.underlying84, MapKept.run_getObj_map hm, hc, hg, Result.andThen, if_true]
  rw [e]; rfl

theorem field_numb (w : World) (sh : Shape) : (Instr.field 82 (.agg #[.bool sh.numbered, .int .u64 sh.low, .int .u64 sh.high, .bool sh.hex, .int .i64 sh.least, .int .i64 sh.most, .bool sh.ordered]) 0).run Try.prog w = .ok (.bool sh.numbered) w := by kernel_rfl

theorem own_any {w : World} {R : Nat} {e : TypeId} {size : Nat} {v : Value} {n : Nat} {xs : List Value} (h : w.ownsRow R e size v n xs) : ∃ a cap, v = .slice a n cap := by
  rcases h.2 with ⟨h1, h2⟩ | ⟨g, cap, cur, h1, _⟩
  · exact ⟨none, 0, by rw [h1, h2]⟩
  · exact ⟨_, cap, h1⟩

theorem look_rest_q (t : ByteArray) (hl : t.size ≤ 65536) (k n : Nat) (ps : List (List UInt8)) (rest : List UInt8) (hq : qTermS (qLoop t.size) t.data.toList = some (k, n, ps, rest)) (hr : rest ≠ []) (w : World) :
    Calls Try.prog 57 #[.string t] w (LookRet w (lookR t.data.toList)) := by
  have HO : Hid (lookR t.data.toList = (0, 0, [])) := Lib.hid (by unfold lookR qLook; rw [if_pos (by simpa using hl)]; rw [show t.data.toList.length = t.size by simp, hq]; simp [hr])
  have hT := look_term t hl w
  rw [hq] at hT
  have HT := Lib.hid hT
  have hlen := (qTerm_suf hq).1.length_le
  have hrl : 0 < rest.length := List.length_pos_iff.2 hr
  have hpos : ((posOf t rest : Int) == t.size) = false := beqf (by simp at hlen; unfold posOf; omega)
  clear hq hT hr hlen hrl
  have hmf : ∀ (fn : Fn) (first cap : Array Value) (w : World), (Instr.makeFunc fn first cap).run Try.prog w = .ok (.func fn first cap) w := fun _ _ _ _ => rfl
  go_enter_defers Try.func57, Try.ntmps57
  go_wp2_with (first | (go_at_call 54; ((with_reducible refine (shapes_any _).mono ?_); rintro e w' ⟨rfl, rfl⟩)) | (go_at_call 71; ((with_reducible refine HT.out.mono ?_); rintro e w4 ⟨rfl, pv, hR, hG, hP⟩; obtain ⟨ad, cp, hpv⟩ : ∃ ad cp, pv = .slice ad ps.length cp := own_any hP; subst hpv; have k1 := hR.c1; have k2 := hR.c2; have k4 := hR.c4; have hF := keep_far (look_facts t w).2.2 hG (by simp; omega); have hM := keep_far (look_facts t w).2.1 hG (by simp); have u0 := cell_of hF 0 rfl; have u1 := cell_of hF 1 rfl; have u2 := cell_of hF 2 rfl; have u3 := cell_of hF 3 rfl; have v0 := free_of hF 0; have v1 := free_of hF 1; have v2 := free_of hF 2; have v3 := free_of hF 3; have HG := Lib.hid hG; have HP := Lib.hid hP; have HF := Lib.hid hF; have HM := Lib.hid hM; clear hR hG hP hF hM)) | (go_at_call 72; ((with_reducible refine (need_bad _).mono ?_); rintro e w' ⟨rfl, rfl⟩)) | fail)
  rw [HO.out]
  exact look_fault HG.out 0 (fun w' hB => ⟨_, rfl, strs_nil _, hB⟩) _ rfl rfl

theorem look_results (W : World) (b k n : Nat) (x : Bool) (ad : Option Addr) (l cp : Nat) (h : W.heap[b]? = some (.cells #[.int .i64 k, .bool x, .int .u64 n, .slice ad l cp] 89 (0, 0))) (T : Array Value) (hT : T.getD 2 undef = .pointer (some ⟨b, 0, none⟩)) :
    (results Try.f57 T).run Try.prog W = .ok (.agg #[.int .i64 k, .bool x, .int .u64 n, .slice ad l cp]) W := by
  have c0 := cell_of h 0 rfl; have c1 := cell_of h 1 rfl; have c2 := cell_of h 2 rfl; have c3 := cell_of h 3 rfl
  have h2 : T[2]?.getD undef = .pointer (some ⟨b, 0, none⟩) := by simpa using hT
  simp [results, Try.results57, go_sem, h2, c0, c1, c2, c3]

theorem look_door {w w4 W : World} {t : ByteArray} {k n : Nat} {ps : List (List UInt8)} {x : Bool} {ad : Option Addr} {cp : Nat} (hG : ((((w.alloc (.cells #[.int .i64 0, .bool false, .int .u64 0, .slice none 0 0] 89)).alloc (.map (esN 11) 11)).alloc (.cells #[.string t, .int .i64 0, .map (some (w.heap.size + 1)), .int .i64 0, .slice none 0 0] 104))).grownBy w4 (some (w.heap.size + 1 + 1)))
    (hP : w4.ownsRow ((((w.alloc (.cells #[.int .i64 0, .bool false, .int .u64 0, .slice none 0 0] 89)).alloc (.map (esN 11) 11)).alloc (.cells #[.string t, .int .i64 0, .map (some (w.heap.size + 1)), .int .i64 0, .slice none 0 0] 104))).heap.size 9 1 (.slice ad ps.length cp) ps.length (ps.map strV)) (hx : x = numb k) (hW : w4.grownBy W (some w.heap.size))
    (hS : W.heap[w.heap.size]? = some (.cells #[.int .i64 k, .bool x, .int .u64 n, .slice ad ps.length cp] 89 (0, 0))) (a : Act) (ha : a.tmps.getD 2 undef = .pointer (some ⟨w.heap.size, 0, none⟩))
    (hd : a.defers = [{ target := Target.fn (Fn.func 70) #[.pointer (some ⟨w.heap.size, 0, none⟩)], args := #[] }]) :
    bodyPostD Try.prog Try.f57 (LookRet w (k, n, ps)) Exit.ret a W := by
  obtain ⟨T, D⟩ := a
  cases hd
  refine leaves_cons (f := 70) (args := #[.pointer (some ⟨w.heap.size, 0, none⟩)]) (by simp) (by simp [go_sem]) ?_
  refine (catch_idle ⟨w.heap.size, 0, none⟩ W).mono ?_
  rintro e u' w'' ⟨rfl, rfl, hw⟩
  subst hw
  refine ⟨_, look_results _ _ k n x ad ps.length cp hS T ha, .slice ad ps.length cp, by rw [hx], ?_, ?_⟩
  · have hsz : ((((w.alloc (.cells #[.int .i64 0, .bool false, .int .u64 0, .slice none 0 0] 89)).alloc (.map (esN 11) 11)).alloc (.cells #[.string t, .int .i64 0, .map (some (w.heap.size + 1)), .int .i64 0, .slice none 0 0] 104))).heap.size = w.heap.size + 1 + 1 + 1 := by simp
    exact strs_own (World.ownsRow.kept hP hW (.inr (own_ne hP (by omega))))
  · have hB : Below w.heap.size w w4 := below_grown ((((Below.refl _ _).alloc (Nat.le_refl _) _).alloc (by simp) _).alloc (by simp; omega) _) hG (by omega)
    exact hB.grown hW (by have := hG.size; simp at this; omega) (fun k hk => by cases hk; exact Nat.le_refl _)

theorem look_ok_q (t : ByteArray) (hl : t.size ≤ 65536) (k n : Nat) (ps : List (List UInt8)) (hq : qTermS (qLoop t.size) t.data.toList = some (k, n, ps, [])) (sh : Shape) (hs : shapeOf k = some sh) (w : World) :
    Calls Try.prog 57 #[.string t] w (LookRet w (lookR t.data.toList)) := by
  have HO : Hid (lookR t.data.toList = (k, n, ps)) := Lib.hid (by unfold lookR qLook; rw [if_pos (by simpa using hl)]; rw [show t.data.toList.length = t.size by simp, hq]; rfl)
  have hT := look_term t hl w
  rw [hq] at hT
  have HT := Lib.hid hT
  have hpos : posOf t [] = t.size := by simp [posOf]
  have hpos1 : ((posOf t [] : Int) == t.size) = true := by rw [hpos]; simp
  have HS := Lib.hid hs
  have hk11 : k ≤ 11 := by have := shape_cases hs; omega
  clear hq hT hs hpos
  have hmf : ∀ (fn : Fn) (first cap : Array Value) (w : World), (Instr.makeFunc fn first cap).run Try.prog w = .ok (.func fn first cap) w := fun _ _ _ _ => rfl
  go_enter_defers Try.func57, Try.ntmps57
  go_wp2_with (first | (go_at_call 54; ((with_reducible refine (shapes_any _).mono ?_); rintro e w' ⟨rfl, rfl⟩)) | (go_at_call 71; ((with_reducible refine HT.out.mono ?_); rintro e w4 ⟨rfl, pv, hR, hG, hP⟩; obtain ⟨ad, cp, hpv⟩ : ∃ ad cp, pv = .slice ad ps.length cp := own_any hP; subst hpv; have k1 := hR.c1; have k2 := hR.c2; have k4 := hR.c4; have hF := keep_far (look_facts t w).2.2 hG (by simp; omega); have hM := keep_far (look_facts t w).2.1 hG (by simp); have u0 := cell_of hF 0 rfl; have u1 := cell_of hF 1 rfl; have u2 := cell_of hF 2 rfl; have u3 := cell_of hF 3 rfl; have v0 := free_of hF 0; have v1 := free_of hF 1; have v2 := free_of hF 2; have v3 := free_of hF 3; have HG := Lib.hid hG; have HP := Lib.hid hP; have HF := Lib.hid hF; have HM := Lib.hid hM; clear hR hG hP hF hM)) | (go_at_call 72; ((with_reducible refine (need_ok _).mono ?_); rintro e w' ⟨rfl, rfl⟩)) | fail)
  have hlk := look_plain w4.drew _ k sh HM.out hk11 HS.out
  have hfl := field_numb w4.drew sh
  have hHF : (w4.drew).heap[w.heap.size]? = some (.cells #[.int .i64 0, .bool false, .int .u64 0, .slice none 0 0] 89) := HF.out
  have HF1 := Lib.hid hHF
  clear hHF
  go_still_tail 14, (by kernel_rfl)
  go_wp2_with fail
  rw [HO.out]
  exact look_door HG.out HP.out (numb_shape HS.out) (grown_trans (grown_drewN w4 1 _) (grown_trans (grown_set _ _ _ _) (grown_trans (grown_set _ _ _ _) (grown_trans (grown_set _ _ _ _) (grown_set _ _ _ _)))))
    (heap_set (i := 3) (v := .slice ad ps.length cp) (heap_set (i := 2) (v := .int .u64 n) (heap_set (i := 1) (v := .bool sh.numbered) (heap_set (i := 0) (v := .int .i64 k) HF1.out)))) _ rfl rfl

theorem qTerm_shape {f : Nat} {l : List UInt8} {x : Nat × Nat × List (List UInt8) × List UInt8} (h : qTermS (qLoop f) l = some x) : ∃ sh, shapeOf x.1 = some sh := by
  cases l with
  | nil => cases h
  | cons c r =>
    simp only [qTermS] at h
    obtain ⟨sh, hs, h⟩ := Option.bind_eq_some_iff.1 h
    split at h
    · obtain ⟨y, hy, e⟩ := Option.bind_eq_some_iff.1 h
      cases e; exact ⟨sh, hs⟩
    · obtain ⟨y, hy, e⟩ := Option.bind_eq_some_iff.1 h
      cases e; exact ⟨sh, hs⟩

theorem look_any (t : ByteArray) (ht : t.size ≤ maxLen) (w : World) : Calls Try.prog 57 #[.string t] w (LookRet w (lookR t.data.toList)) := by
  by_cases hl : 65536 < t.size
  · exact look_long t ht hl w
  · have hl' : t.size ≤ 65536 := by omega
    cases hq : qTermS (qLoop t.size) t.data.toList with
    | none => exact look_none_q t hl' hq w
    | some x =>
      obtain ⟨k, n, ps, rest⟩ := x
      by_cases hr : rest = []
      · subst hr
        obtain ⟨sh, hs⟩ := qTerm_shape hq
        exact look_ok_q t hl' k n ps hq sh hs w
      · exact look_rest_q t hl' k n ps rest hq hr w
end Go.Proofs.Ytjbmcjppaadkgaa

namespace Go.Proofs.Ytjbmcjppaadkgaa
set_option linter.unusedVariables false
set_option linter.unusedSimpArgs false
set_option maxRecDepth 100000
open Go.RowKit

theorem field_kind (w : World) (k n l cp : Nat) (x : Bool) (ad : Option Addr) : (Instr.field 89 (.agg #[.int .i64 k, .bool x, .int .u64 n, .slice ad l cp]) 0).run Try.prog w = .ok (.int .i64 k) w := by kernel_rfl
theorem field_parts (w : World) (k n l cp : Nat) (x : Bool) (ad : Option Addr) : (Instr.field 89 (.agg #[.int .i64 k, .bool x, .int .u64 n, .slice ad l cp]) 3).run Try.prog w = .ok (.slice ad l cp) w := by kernel_rfl

def LookV (w : World) (k n : Nat) (nb : Bool) (ps : List (List UInt8)) (e : Ending) (w' : World) : Prop :=
  ∃ ad cp, e = .returned (.agg #[.int .i64 k, .bool nb, .int .u64 n, .slice ad ps.length cp]) ∧ Strs w' (.slice ad ps.length cp) ps ∧ Below w.heap.size w w'
theorem look_v (t : ByteArray) (ht : t.size ≤ maxLen) (w : World) (k n : Nat) (nb : Bool) (ps : List (List UInt8)) (hx : lookR t.data.toList = (k, n, ps)) (hnb : numb k = nb) : Calls Try.prog 57 #[.string t] w (LookV w k n nb ps) := by
  refine (look_any t ht w).mono fun e w' h => ?_
  rw [hx] at h
  obtain ⟨pv, rfl, hS, hB⟩ := h
  have hS' := hS
  obtain ⟨ad, cp, rfl, _⟩ := hS'
  exact ⟨ad, cp, by rw [← hnb], hS, hB⟩

theorem kind_any (t : ByteArray) (ht : t.size ≤ maxLen) (w : World) : Calls Try.prog 50 #[.string t] w fun e w' => e = .returned (.int .i64 (lookR t.data.toList).1) ∧ Below w.heap.size w w' := by
  obtain ⟨k, n, ps, hx⟩ : ∃ k n ps, lookR t.data.toList = (k, n, ps) := ⟨_, _, _, rfl⟩
  obtain ⟨nb, hnb⟩ : ∃ nb, numb k = nb := ⟨_, rfl⟩
  rw [hx]
  have HX := Lib.hid hx; have HNB := Lib.hid hnb
  clear hx hnb
  have hf := fun w l cp ad => field_kind w k n l cp nb ad
  go_enter Try.func50, Try.ntmps50
  go_wp2_with (first | (go_at_call 57; ((with_reducible refine (look_v t ht _ k n nb ps HX.out HNB.out).mono ?_); rintro e w1 ⟨ad, cp, rfl, hS, hB⟩)) | fail)
  go_ret
  exact ⟨rfl, hB⟩

def StrsRet (w : World) (l : List (List UInt8)) (e : Ending) (w' : World) : Prop := ∃ v, e = .returned v ∧ Strs w' v l ∧ Below w.heap.size w w'
theorem chain4_below {B : Nat} {w W : World} {k : Nat} {v0 v1 v2 v3 : Value} (h : Below B w W) (hk : B ≤ k) : Below B w ((((W.setCell ⟨k, 0, none⟩ v0).setCell ⟨k, 1, none⟩ v1).setCell ⟨k, 2, none⟩ v2).setCell ⟨k, 3, none⟩ v3) :=
  Below.setCell (p := ⟨k, 3, none⟩) (Below.setCell (p := ⟨k, 2, none⟩) (Below.setCell (p := ⟨k, 1, none⟩) (Below.setCell (p := ⟨k, 0, none⟩) h hk v0) hk v1) hk v2) hk v3
theorem below_drewN {B : Nat} {w a : World} (h : Below B w a) (n : Nat) : Below B w (a.drewN n) := ⟨h.os, h.tape, h.output, h.size, h.block⟩
theorem zero_found (w : World) : (zeroValue 89).run Try.prog w = .ok (.agg #[.int .i64 0, .bool false, .int .u64 0, .slice none 0 0]) w := by kernel_rfl
end Go.Proofs.Ytjbmcjppaadkgaa

namespace Go.Proofs.Ytjbmcjppaadkgaa
set_option linter.unusedVariables false
set_option linter.unusedSimpArgs false
set_option maxRecDepth 100000
open Go.RowKit
theorem or8 (x u : Nat) (hx : x < 72057594037927936) (hu : u < 256) : bits .or .u64 ((x : Int) * 256) (u : Int) = ((256 * x + u : Nat) : Int) := by
  have e : (x : Int) * 256 = ((x * 256 : Nat) : Int) := by push_cast; rfl
  rw [e]
  show IntKind.u64.wrap ((BitVec.ofInt 64 ((x * 256 : Nat) : Int) ||| BitVec.ofInt 64 (u : Int)).toNat : Int) = _
  rw [BitVec.ofInt_natCast, BitVec.ofInt_natCast, BitVec.toNat_or, BitVec.toNat_ofNat, BitVec.toNat_ofNat, Nat.mod_eq_of_lt (by omega), Nat.mod_eq_of_lt (by omega)]
  have h := Nat.shiftLeft_add_eq_or_of_lt (a := x) (b := u) (i := 8) hu
  rw [Nat.shiftLeft_eq] at h
  rw [show (2 : Nat) ^ 8 = 256 from rfl] at h
  rw [← h, show x * 256 + u = 256 * x + u by omega]
  exact wrap_u64 _ (by omega) (by omega)
set_option maxHeartbeats 1000000 in
theorem low_any (v : Value) (l : List UInt8) (w : World) (hv : Bytes w v l) (hl : l.length ≤ 8) : Calls Try.prog 46 #[v] w fun e w' => e = .returned (.int .u64 (valB l : Nat)) ∧ w = w' := by
  obtain ⟨a, cap, rfl, hc⟩ := hv
  go_enter Try.func46, Try.ntmps46
  go_wp2_with fail
  refine wp_scope_goto 0 (fun n a' w' => ∃ (j : Nat), ∃ (u1 u2 u5 u6 u7 u8 u9 u10 u11 u12 u13 u14 u15 u16 u17 u18 u19 : Value), a' = { tmps := #[.slice a l.length cap, u1, u2, .int .u64 (valB (l.drop j) : Nat), .int .i64 (j : Nat), u5, u6, u7, u8, u9, u10, u11, u12, u13, u14, u15, u16, u17, u18, u19], defers := [] } ∧ j ≤ l.length ∧ n = j ∧ w = w') rfl ?_ ?_
  · intro R hpass hout
    go_wp2
    go_step3
    go_step
    go_step
    have hd : valB (l.drop l.length) = 0 := by simp [valB]
    exact hpass _ _ _ ⟨l.length, _, _, _, _, _, _, _, _, _, _, _, _, _, _, _, _, _, by rw [hd]; rfl, Nat.le_refl _, rfl, rfl⟩
  · intro n a' wr hrel J hJ
    obtain ⟨j, u1, u2, u5, u6, u7, u8, u9, u10, u11, u12, u13, u14, u15, u16, u17, u18, u19, rfl, hj, hn, rfl⟩ := hrel
    obtain rfl : j = n := hn.symm
    by_cases h0 : j = 0
    · subst h0
      simp only [List.drop_zero]
      clear hJ hc
      go_wp2_with fail
      refine jump_ret ?_
      go_ret
      exact ⟨rfl, rfl⟩
    · obtain ⟨m, rfl⟩ : ∃ m, j = m + 1 := ⟨j - 1, by omega⟩
      obtain ⟨b, off, rfl, hcell⟩ : ∃ b off, a = some ⟨b, off, none⟩ ∧ ∀ i, i < l.length → w.cell? ⟨b, off + i, none⟩ = some (.int .u8 (l.getD i 0).toNat) := by
        rcases hc with rfl | h
        · simp at hj
        · exact h
      have hcm := hcell m (by omega)
      have hd : l.drop m = l.getD m 0 :: l.drop (m + 1) := by
        rw [List.drop_eq_getElem_cons (by omega)]; simp [List.getD, List.getElem?_eq_getElem (show m < l.length by omega)]
      have hlt := valB_lt (l.drop (m + 1))
      have hpow : 256 ^ (l.drop (m + 1)).length ≤ 256 ^ 7 := Nat.pow_le_pow_right (by decide) (by simp; omega)
      have HV : Hid (valB (l.drop m) = (l.getD m 0).toNat + 256 * valB (l.drop (m + 1))) := Lib.hid (by rw [hd]; rfl)
      have hx : valB (l.drop (m + 1)) < 72057594037927936 := Nat.lt_of_lt_of_le hlt hpow
      clear hlt hpow hd hc hcell
      have HJ := Lib.hid hJ
      clear hJ
      generalize valB (l.drop (m + 1)) = x at *
      have hub := UInt8.toNat_lt (l.getD m 0)
      generalize l.getD m 0 = u at *
      have hor := or8 x u.toNat hx hub
      have hw1 := wrap_u64 ((x : Int) * 256) (by omega) (by omega)
      have hmi : ((m + 1 : Nat) : Int) - 1 = m := by omega
      have hmi2 : (m : Int) + 1 - 1 = m := by omega
      have hm0 : (0 : Int) ≤ m := by omega
      have hml : (m : Int) < l.length := by omega
      have hnz : ((m + 1 : Nat) : Int) ≠ 0 := by omega
      go_wp2_with fail
      go_step3
      exact jump_back (HJ.out m _ _ (by omega) ⟨m, _, _, _, _, _, _, _, _, _, _, _, _, _, _, _, _, _, by first | rfl | (rw [HV.out, Nat.add_comm u.toNat]; push_cast; rfl), by omega, rfl, rfl⟩)
end Go.Proofs.Ytjbmcjppaadkgaa

namespace Go.Proofs.Ytjbmcjppaadkgaa
set_option linter.unusedVariables false
set_option linter.unusedSimpArgs false
set_option maxRecDepth 100000
open Go.RowKit
/-- a row of bytes of the call's own -/
def RowB (w : World) (base : Nat) (v : Value) (L : List UInt8) : Prop := w.ownsRow base 5 1 v L.length (cellsOf L)
theorem cellsOf_app (a b : List UInt8) : cellsOf (a ++ b) = cellsOf a ++ cellsOf b := by simp [cellsOf]
theorem rowB_app {w : World} {base : Nat} {v : Value} {n : Nat} {L M : List UInt8} (h : w.ownsRow base 5 1 v n (cellsOf L ++ cellsOf M)) (hn : n = L.length + M.length) : RowB w base v (L ++ M) := by
  unfold RowB
  rw [cellsOf_app, List.length_append, ← hn]
  exact h
def LayRet (w : World) (base : Nat) (L : List UInt8) (e : Ending) (w' : World) : Prop := ∃ v', e = .returned v' ∧ RowB w' base v' L ∧ Below base w w'
set_option maxHeartbeats 1000000 in
theorem lay_any (v : Value) (L : List UInt8) (base u size : Nat) (w : World) (hv : RowB w base v L) (hbase : base ≤ w.heap.size) (hL : L.length ≤ 1000000) (hu : u < 18446744073709551616) (hs : size ≤ 8) :
    Calls Try.prog 42 #[v, .int .u64 (u : Nat), .int .i64 (size : Nat)] w (LayRet w base (L ++ numB u size)) := by
  go_enter Try.func42, Try.ntmps42
  go_wp2_with fail
  refine wp_scope_goto 0 (fun n a' w' => ∃ (v' : Value) (j m : Nat), ∃ (u3 u4 u5 u6 u7 u8 u9 u10 u11 u12 u13 u14 u15 u16 u17 u18 : Value), a' = { tmps := #[v', .int .u64 (u / 256 ^ j : Nat), .int .i64 (m : Nat), u3, u4, u5, u6, u7, u8, u9, u10, u11, u12, u13, u14, u15, u16, u17, u18], defers := [] } ∧ j + m = size ∧ n = m ∧ RowB w' base v' (L ++ numB u j) ∧ Below base w w') rfl ?_ ?_
  · intro R hpass hout
    go_wp2
    go_step3
    go_step
    go_step
    exact hpass _ _ _ ⟨v, 0, size, _, _, _, _, _, _, _, _, _, _, _, _, _, _, _, _, by rw [Nat.pow_zero, Nat.div_one], by omega, rfl, by simpa [numB] using hv, Below.refl _ _⟩
  · intro n a' wr hrel J hJ
    obtain ⟨v', j, m, u3, u4, u5, u6, u7, u8, u9, u10, u11, u12, u13, u14, u15, u16, u17, u18, rfl, hjm, hn, hown, hb⟩ := hrel
    obtain rfl : m = n := hn.symm
    have HO := Lib.hid hown
    have HB := Lib.hid hb
    have HJ := Lib.hid hJ
    clear hown hb hJ
    by_cases h0 : m = 0
    · subst h0
      obtain rfl : j = size := by omega
      generalize u / 256 ^ j = x at *
      go_wp2_with fail
      refine jump_ret ?_
      go_ret
      exact ⟨_, rfl, HO.out, HB.out⟩
    · obtain ⟨m, rfl⟩ : ∃ k, m = k + 1 := ⟨m - 1, by omega⟩
      have HS := Lib.hid (numB_succ u j)
      have HQ : Hid (u / 256 ^ j / 256 = u / 256 ^ (j + 1)) := Lib.hid (by rw [Nat.div_div_eq_div_mul, ← Nat.pow_succ])
      have hx : u / 256 ^ j < 18446744073709551616 := Nat.lt_of_le_of_lt (Nat.div_le_self _ _) hu
      have hlen : (L ++ numB u j).length ≤ 1000008 := by rw [List.length_append, numB_len]; omega
      generalize u / 256 ^ j = x at *
      have hmi : ((m + 1 : Nat) : Int) - 1 = m := by omega
      have hmi2 : (m : Int) + 1 - 1 = m := by omega
      have hnz : ((m + 1 : Nat) : Int) ≠ 0 := by omega
      have HL : Hid (∀ W, W = wr.alloc (.cells #[.int .u8 ((x : Int) % 256)] 5) → Bytes W (.slice (some ⟨wr.heap.size, 0, none⟩) 1 1) [UInt8.ofNat (x % 256)]) := Lib.hid (fun W hW => by
        subst hW
        have h := heap_alloc_new wr (.cells #[.int .u8 ((x : Int) % 256)] 5)
        refine bytes_blk (L := [UInt8.ofNat (x % 256)]) (T := 5) ?_
        rw [h]
        show _ = some (Obj.cells #[.int .u8 ((UInt8.ofNat (x % 256)).toNat : Int)] _ _)
        rw [u8of (by omega)]
        congr 3)
      go_wp2_with (first | (at_builtin; refine wpList_append_bytes rfl _ _ rfl base v' _ _ rfl (HO.out.alloc _) (.slice (some ⟨wr.heap.size, 0, none⟩) 1 1) [UInt8.ofNat (x % 256)] rfl (HL.out _ rfl) (fun n cap h => by cases h) (by simp at hlen ⊢; omega) (by have := HB.out.size; simp; omega) ?_; intro v2 w4 hown2 hgrow) | fail)
      go_step3
      have hr := rowB_app hown2 rfl
      rw [List.append_assoc, ← HS.out] at hr
      refine jump_back (HJ.out m _ _ (by omega) ⟨v2, j + 1, m, _, _, _, _, _, _, _, _, _, _, _, _, _, _, _, _, by rw [← HQ.out]; rfl, by omega, rfl, hr, ?_⟩)
      exact (HB.out.alloc (by have := HB.out.size; omega) _).grown hgrow (by have := HB.out.size; simp; omega) (fun g hg => (HO.out.lt g hg).1)
end Go.Proofs.Ytjbmcjppaadkgaa

namespace Go.Proofs.Ytjbmcjppaadkgaa
set_option linter.unusedVariables false
set_option linter.unusedSimpArgs false
set_option maxRecDepth 100000
open Go.RowKit
/-- a slice with room that reads as these bytes -/
def PartB (w : World) (b : Nat) (v : Value) (l : List UInt8) : Prop := ∃ off cp, v = .slice (some ⟨b, off, none⟩) l.length cp ∧ l.length ≤ cp ∧ cp ≤ maxLen ∧ ∀ i, i < l.length → w.cell? ⟨b, off + i, none⟩ = some (.int .u8 (l.getD i 0).toNat)
theorem PartB.bytes {w : World} {b : Nat} {v : Value} {l : List UInt8} (h : PartB w b v l) : Bytes w v l := by
  obtain ⟨off, cp, rfl, _, _, h⟩ := h
  exact ⟨_, _, rfl, .inr ⟨b, off, rfl, h⟩⟩
theorem u8_zero {x : UInt8} (h : x.toNat = 0) : x = 0 := UInt8.toNat_inj.1 h
theorem PartB.below {w w' : World} {b : Nat} {v : Value} {l : List UInt8} (h : PartB w b v l) (hb : Below w.heap.size w w') : PartB w' b v l := by
  obtain ⟨off, cp, rfl, h1, h2, h⟩ := h
  exact ⟨off, cp, rfl, h1, h2, fun i hi => (hb.cell (p := ⟨b, off + i, none⟩) (World.block_lt_of_cell? w _ (h i hi))).trans (h i hi)⟩
theorem part_drop {w : World} {b off cp n c : Nat} {l : List UInt8} (h1 : l.length ≤ cp) (h2 : cp ≤ maxLen) (h : ∀ i, i < l.length → w.cell? ⟨b, off + i, none⟩ = some (.int .u8 (l.getD i 0).toNat)) (i : Nat) (hi : i ≤ l.length) (hn : n = l.length - i) (hc : c = cp - i) :
    PartB w b (.slice (some ⟨b, off + i, none⟩) n c) (l.drop i) := by
  subst hn; subst hc
  refine ⟨off + i, cp - i, by rw [List.length_drop], by rw [List.length_drop]; omega, by omega, fun k hk => ?_⟩
  rw [List.length_drop] at hk
  rw [Nat.add_assoc, h (i + k) (by omega)]
  simp [List.getD, List.getElem?_drop]
theorem part_end {w : World} {b off c i : Nat} {l : List UInt8} (hi : l.length = i) (hc : c ≤ maxLen) : PartB w b (.slice (some ⟨b, off, none⟩) 0 c) (l.drop i) := by
  rw [List.drop_eq_nil_of_le (by omega)]
  exact ⟨off, c, rfl, Nat.zero_le _, hc, fun i hi => by simp at hi⟩
def zr : Nat → List UInt8 → Nat × List UInt8
  | 0, l => (0, l)
  | _ + 1, [] => (4, [])
  | n + 1, x :: r => if x = 0 then zr n r else (3, [])
/-- what a reader of bytes tells: what stands behind, if there is no error -/
def CutRet (w : World) (b : Nat) (r : Nat × List UInt8) (e : Ending) (w' : World) : Prop := ∃ v, e = .returned (.tuple #[v, .int .i64 r.1]) ∧ (r.1 = 0 → PartB w' b v r.2) ∧ Below w.heap.size w w'
set_option maxHeartbeats 1000000 in
theorem noughts_any (b : Nat) (v : Value) (l : List UInt8) (w : World) (hv : PartB w b v l) (hl : l.length ≤ 10000000) :
    Calls Try.prog 43 #[v] w (CutRet w b (zr 3 l)) := by
  obtain ⟨off, cp, rfl, hc1, hc2, hcell⟩ := hv
  go_enter Try.func43, Try.ntmps43
  go_wp2_with fail
  refine wp_scope_goto 0 (fun n a' w' => ∃ (j m : Nat), ∃ (u1 u2 u3 u5 u6 u7 u8 u9 u10 u11 u12 u13 u14 u15 u16 u17 u18 u19 u20 : Value), a' = { tmps := #[.slice (some ⟨b, off, none⟩) l.length cp, u1, u2, u3, .int .i64 (j : Nat), u5, u6, u7, u8, u9, u10, u11, u12, u13, u14, u15, u16, u17, u18, u19, u20], defers := [] } ∧ j + m = 3 ∧ n = m ∧ j ≤ l.length ∧ zr 3 l = zr m (l.drop j) ∧ w = w') rfl ?_ ?_
  · intro R hpass hout
    go_wp2
    go_step3
    go_step
    go_step
    exact hpass _ _ _ ⟨0, 3, _, _, _, _, _, _, _, _, _, _, _, _, _, _, _, _, _, _, _, rfl, by omega, rfl, by omega, rfl, rfl⟩
  · intro n a' wr hrel J hJ
    obtain ⟨j, m, u1, u2, u3, u5, u6, u7, u8, u9, u10, u11, u12, u13, u14, u15, u16, u17, u18, u19, u20, rfl, hjm, hn, hjl, hz, rfl⟩ := hrel
    obtain rfl : m = n := hn.symm
    have HJ := Lib.hid hJ
    have HZ := Lib.hid hz
    have hcpi : (cp : Int) ≤ 9223372036854775807 := by unfold maxLen at hc2; omega
    clear hJ hz
    by_cases h0 : m = 0
    · subst h0
      obtain rfl : j = 3 := by omega
      have HZ2 : Hid (zr 3 l = (0, l.drop 3)) := Lib.hid HZ.out
      by_cases hcp : cp = 3
      · subst hcp
        have hl3 : l.length = 3 := by omega
        go_wp2_with fail
        refine jump_ret ?_
        go_ret2
        rw [HZ2.out]
        exact ⟨_, rfl, fun _ => part_end hl3 (by decide), Below.refl _ _⟩
      · go_wp2_with fail
        refine jump_ret ?_
        go_ret2
        rw [HZ2.out]
        exact ⟨_, rfl, fun _ => part_drop hc1 hc2 hcell 3 hjl rfl rfl, Below.refl _ _⟩
    · obtain ⟨m, rfl⟩ : ∃ k, m = k + 1 := ⟨m - 1, by omega⟩
      have hj3 : ¬ (j : Int) = 3 := by omega
      by_cases hlt : j < l.length
      · have hcm := hcell j hlt
        have hd : l.drop j = l.getD j 0 :: l.drop (j + 1) := by
          rw [List.drop_eq_getElem_cons (by omega)]; simp [List.getD, List.getElem?_eq_getElem hlt]
        have hlti : ¬ (j : Int) = l.length := by omega
        have hlt2 : (j : Int) < l.length := by omega
        by_cases hx : l.getD j 0 = 0
        · have HZ2 : Hid (zr 3 l = zr m (l.drop (j + 1))) := Lib.hid (by rw [HZ.out, hd]; show (if _ then _ else _) = _; rw [if_pos hx])
          rw [hx] at hcm
          clear hcell hd
          go_wp2_with fail
          go_step3
          exact jump_back (HJ.out m _ _ (by omega) ⟨j + 1, m, _, _, _, _, _, _, _, _, _, _, _, _, _, _, _, _, _, _, _, rfl, by omega, rfl, by omega, HZ2.out, rfl⟩)
        · have HZ2 : Hid (zr 3 l = (3, [])) := Lib.hid (by rw [HZ.out, hd]; show (if _ then _ else _) = _; rw [if_neg hx])
          have hxn : ¬ (((l.getD j 0).toNat : Int) = 0) := fun h => hx (u8_zero (by omega))
          generalize l.getD j 0 = x at *
          clear hcell hd hx
          go_wp2_with fail
          refine jump_ret ?_
          go_ret2
          rw [HZ2.out]
          exact ⟨_, rfl, fun h => absurd h (by decide), Below.refl _ _⟩
      · obtain rfl : l.length = j := by omega
        have HZ2 : Hid (zr 3 l = (4, [])) := Lib.hid (by rw [HZ.out, List.drop_length]; rfl)
        clear hcell
        go_wp2_with fail
        refine jump_ret ?_
        go_ret2
        rw [HZ2.out]
        exact ⟨_, rfl, fun h => absurd h (by decide), Below.refl _ _⟩
end Go.Proofs.Ytjbmcjppaadkgaa

namespace Go.Proofs.Ytjbmcjppaadkgaa
set_option linter.unusedVariables false
set_option linter.unusedSimpArgs false
set_option maxRecDepth 100000
open Go.RowKit
def cutTxt (l : List UInt8) : Nat × List UInt8 × List UInt8 :=
  if l.length < 2 then (4, [], []) else if l.length < 2 + valB (l.take 2) then (4, [], []) else (0, bsub l 2 (2 + valB (l.take 2)), l.drop (2 + valB (l.take 2)))
def CutTRet (w : World) (b : Nat) (r : Nat × List UInt8 × List UInt8) (e : Ending) (w' : World) : Prop := ∃ v, e = .returned (.tuple #[.string (strB r.2.1), v, .int .i64 r.1]) ∧ (r.1 = 0 → PartB w' b v r.2.2) ∧ Below w.heap.size w w'
theorem part_end2 {w : World} {b off m i : Nat} {l : List UInt8} (hi : l.length = i) (hm : m = 0) : PartB w b (.slice (some ⟨b, off, none⟩) m m) (l.drop i) := by
  subst hm
  exact part_end hi (by decide)
theorem part_take {w : World} {b off c : Nat} {l : List UInt8} (h : ∀ i, i < l.length → w.cell? ⟨b, off + i, none⟩ = some (.int .u8 (l.getD i 0).toNat)) (i : Nat) (hi : i ≤ l.length) : Bytes w (.slice (some ⟨b, off, none⟩) i c) (l.take i) := by
  refine ⟨_, _, by rw [List.length_take, Nat.min_eq_left hi], .inr ⟨b, off, rfl, fun k hk => ?_⟩⟩
  rw [List.length_take] at hk
  rw [h k (by omega)]
  simp only [List.getD, List.getElem?_take]
  rw [if_pos (by omega)]
theorem str_of {w : World} {b off n c : Nat} {l : List UInt8} (h : Bytes w (.slice (some ⟨b, off, none⟩) n c) l) : (convert 28 9 (.slice (some ⟨b, off, none⟩) n c)).run Try.prog w = .ok (.string (strB l)) w := by
  obtain ⟨a, cp, hv, hc⟩ := bytes_conv h
  cases hv
  exact hc
set_option maxHeartbeats 1000000 in
theorem cut_any (b : Nat) (v : Value) (l : List UInt8) (w : World) (hv : PartB w b v l) (hl : l.length ≤ 10000000) :
    Calls Try.prog 49 #[v] w (CutTRet w b (cutTxt l)) := by
  obtain ⟨off, cp, rfl, hc1, hc2, hcell⟩ := hv
  have hcpi : (cp : Int) ≤ 9223372036854775807 := by unfold maxLen at hc2; omega
  by_cases h2 : l.length < 2
  · have HZ2 : Hid (cutTxt l = (4, [], [])) := Lib.hid (by unfold cutTxt; rw [if_pos h2])
    have h2i : (l.length : Int) < 2 := by omega
    clear hcell
    go_enter Try.func49, Try.ntmps49
    go_wp2_with fail
    go_ret3
    rw [HZ2.out]
    exact ⟨_, rfl, fun h => absurd h (by decide), Below.refl _ _⟩
  have h2i : ¬ (l.length : Int) < 2 := by omega
  have hcp2 : (2 : Int) ≤ cp := by omega
  have HLOW := Lib.hid (low_any _ _ w (part_take (c := cp) hcell 2 (by omega)) (by rw [List.length_take]; omega))
  have hvlt := valB_lt (l.take 2)
  rw [List.length_take, Nat.min_eq_left (by omega)] at hvlt
  have HD : Hid (cutTxt l = if l.length < 2 + valB (l.take 2) then (4, [], []) else (0, bsub l 2 (2 + valB (l.take 2)), l.drop (2 + valB (l.take 2)))) := Lib.hid (by unfold cutTxt; rw [if_neg h2])
  generalize valB (l.take 2) = n at *
  by_cases hn : l.length < 2 + n
  · have HZ2 : Hid (cutTxt l = (4, [], [])) := Lib.hid (by rw [HD.out, if_pos hn])
    have hni : (l.length : Int) < 2 + n := by omega
    clear hcell
    go_enter Try.func49, Try.ntmps49
    go_wp2_with (first | (go_at_call 46; ((with_reducible refine (HLOW.out).mono ?_); rintro e w2 ⟨rfl, rfl⟩)) | fail)
    go_ret3
    rw [HZ2.out]
    exact ⟨_, rfl, fun h => absurd h (by decide), Below.refl _ _⟩
  have HZ2 : Hid (cutTxt l = (0, bsub l 2 (2 + n), l.drop (2 + n))) := Lib.hid (by rw [HD.out, if_neg hn])
  have hni : ¬ (l.length : Int) < 2 + n := by omega
  have hni2 : (2 : Int) + n ≤ cp := by omega
  have hni3 : (2 : Int) + n ≤ l.length := by omega
  have hdn : ∀ k, Below w.heap.size w (w.drewN k) := fun k => below_dr (Below.refl _ _) k
  have hcl : ∀ k i, i < l.length → (w.drewN k).cell? ⟨b, off + i, none⟩ = some (.int .u8 (l.getD i 0).toNat) := fun k i hi => ((hdn k).cell (p := ⟨b, off + i, none⟩) (World.block_lt_of_cell? w _ (hcell i hi))).trans (hcell i hi)
  have HB := Lib.hid hcl
  have HDN := Lib.hid hdn
  by_cases hcp : cp = 2
  · subst hcp
    obtain rfl : n = 0 := by omega
    have hl2 : l.length = 2 := by omega
    have hcv : ∀ k, (convert 28 9 (.slice (some ⟨b, off, none⟩) 0 0)).run Try.prog (w.drewN k) = .ok (.string (strB [])) (w.drewN k) := fun k => str_of ⟨_, _, rfl, .inl rfl⟩
    have HE : Hid (bsub l 2 (2 + 0) = []) := Lib.hid (by unfold bsub; simp)
    clear hcell hdn hcl
    go_enter Try.func49, Try.ntmps49
    go_wp2_with (first | (go_at_call 46; ((with_reducible refine (HLOW.out).mono ?_); rintro e w2 ⟨rfl, rfl⟩)) | fail)
    go_quiet (fail)
    go_wp2
    go_ret3
    rw [HZ2.out, HE.out]
    exact ⟨_, rfl, fun _ => part_end hl2 (by decide), HDN.out _⟩
  · have hsb := bytes_sub (c2 := cp - 2) (i := 2) (j := 2 + n) (w := w) (b := b) (off := off) (cp := cp) (l := l) ⟨_, _, rfl, .inr ⟨b, off, rfl, hcell⟩⟩ (by omega) (by omega) rfl
    have hcv : ∀ k, (convert 28 9 (.slice (some ⟨b, off + 2, none⟩) (2 + n - 2) (cp - 2))).run Try.prog (w.drewN k) = .ok (.string (strB (bsub l 2 (2 + n)))) (w.drewN k) := fun k => str_of (hsb.below (hdn k))
    rw [Nat.add_sub_cancel_left] at hcv
    by_cases hcpn : cp = 2 + n
    · subst hcpn
      rw [Nat.add_sub_cancel_left] at hcv
      have hl2 : l.length = 2 + n := by omega
      have hn0 : ¬ n = 0 := fun h => hcp (by omega)
      clear hcell hdn hcl hsb hcp
      go_enter Try.func49, Try.ntmps49
      go_wp2_with (first | (go_at_call 46; ((with_reducible refine (HLOW.out).mono ?_); rintro e w2 ⟨rfl, rfl⟩)) | fail)
      go_quiet (fail)
      go_wp2
      go_ret3
      rw [HZ2.out]
      exact ⟨_, rfl, fun _ => part_end2 hl2 (Nat.sub_self (2 + n)), HDN.out _⟩
    · clear hcell hdn hcl hsb
      go_enter Try.func49, Try.ntmps49
      go_wp2_with (first | (go_at_call 46; ((with_reducible refine (HLOW.out).mono ?_); rintro e w2 ⟨rfl, rfl⟩)) | fail)
      go_quiet (fail)
      go_wp2
      go_ret3
      rw [HZ2.out]
      exact ⟨_, rfl, fun _ => part_drop hc1 hc2 (HB.out _) (2 + n) (by omega) (by first | rfl | omega) (by first | rfl | omega), HDN.out _⟩
end Go.Proofs.Ytjbmcjppaadkgaa
