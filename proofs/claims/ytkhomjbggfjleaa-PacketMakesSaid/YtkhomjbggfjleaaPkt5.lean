/- Packets: Read by contract. -/
import Derived.Test.YtkhomjbggfjleaaPkt4
namespace Go.Proofs.Ytkhomjbggfjleaa
set_option linter.unusedVariables false
set_option linter.unusedSimpArgs false
set_option maxRecDepth 100000
open Go.RowKit
theorem lookP_cases (l : List UInt8) : (∃ bg en, lookP l = (4, bg, en, 0) ∧ 20 ≤ bg ∧ bg ≤ en ∧ en ≤ l.length ∧ bg ≤ 60 ∧ pkVer l = 4) ∨ (∃ en, lookP l = (6, 40, en, 0) ∧ 40 ≤ en ∧ en ≤ l.length ∧ pkVer l = 6) ∨ lookP l = (0, 0, 0, 3) ∨ lookP l = (0, 0, 0, 4) := by
  unfold lookP
  by_cases h0 : l.length = 0
  · rw [if_pos h0]; exact .inr (.inr (.inr rfl))
  rw [if_neg h0]
  by_cases h4 : pkVer l = 4
  · rw [if_pos h4]
    by_cases h1 : l.length < 20
    · rw [if_pos h1]; exact .inr (.inr (.inr rfl))
    rw [if_neg h1]
    by_cases h2 : pkHead l < 20 ∨ pkLen4 l < pkHead l
    · rw [if_pos h2]; exact .inr (.inr (.inl rfl))
    rw [if_neg h2]
    by_cases h3 : l.length < pkLen4 l
    · rw [if_pos h3]; exact .inr (.inr (.inr rfl))
    rw [if_neg h3]
    exact .inl ⟨_, _, rfl, by omega, by omega, by omega, by unfold pkHead; omega, h4⟩
  rw [if_neg h4]
  by_cases h6 : pkVer l = 6
  · rw [if_pos h6]
    by_cases h1 : l.length < 40
    · rw [if_pos h1]; exact .inr (.inr (.inr rfl))
    rw [if_neg h1]
    by_cases h3 : l.length < pkLen6 l
    · rw [if_pos h3]; exact .inr (.inr (.inr rfl))
    rw [if_neg h3]
    exact .inr (.inl ⟨_, rfl, by unfold pkLen6; omega, by omega, h6⟩)
  · rw [if_neg h6]; exact .inr (.inr (.inl rfl))
def HeadRet (w : World) (ver en code : Nat) (s d : List UInt8) (e : Ending) (w' : World) : Prop :=
  ∃ sa sc da dc, e = .returned (.tuple #[.agg #[.int .i64 ver, .slice sa s.length sc, .slice da d.length dc, .int .i64 en], .int .i64 code]) ∧ Bytes w' (.slice sa s.length sc) s ∧ Bytes w' (.slice da d.length dc) d ∧ Below w.heap.size w w'
theorem cells4 {W : World} {b : Nat} {T : TypeId} {v0 v1 v2 v3 : Value} (h : W.heap[b]? = some (.cells #[v0, v1, v2, v3] T (0, 0))) :
    W.cell? ⟨b, 0, none⟩ = some v0 ∧ W.cell? ⟨b, 1, none⟩ = some v1 ∧ W.cell? ⟨b, 2, none⟩ = some v2 ∧ W.cell? ⟨b, 3, none⟩ = some v3 :=
  ⟨cell_of h 0 rfl, cell_of h 1 rfl, cell_of h 2 rfl, cell_of h 3 rfl⟩
def set4 (W : World) (b : Nat) (v0 v1 v2 v3 : Value) : World := (((W.setCell ⟨b, 0, none⟩ v0).setCell ⟨b, 1, none⟩ v1).setCell ⟨b, 2, none⟩ v2).setCell ⟨b, 3, none⟩ v3
theorem set4_block {W : World} {b : Nat} {T : TypeId} {x0 x1 x2 x3 : Value} (h : W.heap[b]? = some (.cells #[x0, x1, x2, x3] T (0, 0))) (v0 v1 v2 v3 : Value) :
    (set4 W b v0 v1 v2 v3).heap[b]? = some (.cells #[v0, v1, v2, v3] T (0, 0)) := by
  have h0 : (W.setCell ⟨b, 0, none⟩ v0).heap[b]? = some (.cells #[v0, x1, x2, x3] T (0, 0)) := set_block (i := 0) (v := v0) h
  have h1 : ((W.setCell ⟨b, 0, none⟩ v0).setCell ⟨b, 1, none⟩ v1).heap[b]? = some (.cells #[v0, v1, x2, x3] T (0, 0)) := set_block (i := 1) (v := v1) h0
  have h2 : (((W.setCell ⟨b, 0, none⟩ v0).setCell ⟨b, 1, none⟩ v1).setCell ⟨b, 2, none⟩ v2).heap[b]? = some (.cells #[v0, v1, v2, x3] T (0, 0)) := set_block (i := 2) (v := v2) h1
  exact set_block (i := 3) (v := v3) h2
theorem set4_below {n : Nat} {w W : World} {b : Nat} (h : Below n w W) (hb : n ≤ b) (v0 v1 v2 v3 : Value) : Below n w (set4 W b v0 v1 v2 v3) :=
  (((h.setCell (p := ⟨b, 0, none⟩) hb _).setCell (p := ⟨b, 1, none⟩) hb _).setCell (p := ⟨b, 2, none⟩) hb _).setCell (p := ⟨b, 3, none⟩) hb _
theorem cell_set_ne {W : World} {b i c : Nat} {k : Nat} {v : Value} (h : b ≠ c) : (W.setCell ⟨c, k, none⟩ v).cell? ⟨b, i, none⟩ = W.cell? ⟨b, i, none⟩ := by
  simp [World.cell?, World.setCell, Array.getElem?_modify, h.symm]
theorem bytes_set {W : World} {ad : Option Addr} {n cp : Nat} {l : List UInt8} {b : Nat} {T : TypeId} {x0 x1 x2 x3 : Value} (h : Bytes W (.slice ad n cp) l) (hx : W.heap[b]? = some (.cells #[x0, x1, x2, x3] T (0, 0))) (h0 : ∀ u, x0 ≠ .int .u8 u) (h1 : ∀ u, x1 ≠ .int .u8 u) (h2 : ∀ u, x2 ≠ .int .u8 u) (h3 : ∀ u, x3 ≠ .int .u8 u) (v0 v1 v2 v3 : Value) : Bytes (set4 W b v0 v1 v2 v3) (.slice ad n cp) l := by
  obtain ⟨a, c, hv, h⟩ := h
  cases hv
  refine ⟨_, _, rfl, ?_⟩
  rcases h with h | ⟨b', off, rfl, hc⟩
  · exact .inl h
  · refine .inr ⟨b', off, rfl, fun i hi => ?_⟩
    have hne : b' ≠ b := by
      rintro rfl
      have hh := hc i hi
      simp only [World.cell?, hx] at hh
      obtain ⟨e0, e1, e2, e3⟩ := cells4 hx
      have hlt : off + i < 4 := by
        rcases Nat.lt_or_ge (off + i) 4 with h | h
        · exact h
        · simp [World.cell?, hx, Array.getElem?_eq_none (xs := #[x0, x1, x2, x3]) (by simpa using h)] at hh
      have hcase : off + i = 0 ∨ off + i = 1 ∨ off + i = 2 ∨ off + i = 3 := by omega
      have hh := hc i hi
      rcases hcase with e | e | e | e <;> rw [e] at hh
      · rw [e0] at hh; exact h0 _ (Option.some.inj hh)
      · rw [e1] at hh; exact h1 _ (Option.some.inj hh)
      · rw [e2] at hh; exact h2 _ (Option.some.inj hh)
      · rw [e3] at hh; exact h3 _ (Option.some.inj hh)
    unfold set4
    rw [cell_set_ne hne, cell_set_ne hne, cell_set_ne hne, cell_set_ne hne]
    exact hc i hi
theorem res_head {fn : Func} {t u : Tmp} {T : TypeId} (hr : fn.results = #[.cell t 25, .tmp u]) (W : World) (b : Nat) (v0 v1 v2 v3 x : Value) (h : W.heap[b]? = some (.cells #[v0, v1, v2, v3] T (0, 0))) (tm : Array Value) (h2 : tm.getD t undef = .pointer (some ⟨b, 0, none⟩)) (h3 : tm.getD u undef = x) :
    (results fn tm).run Try.prog W = .ok (.tuple #[.agg #[v0, v1, v2, v3], x]) W := by
  obtain ⟨c0, c1, c2, c3⟩ := cells4 h
  have e2 : tm[t]?.getD undef = .pointer (some ⟨b, 0, none⟩) := by simpa using h2
  have e3 : tm[u]?.getD undef = x := by simpa using h3
  simp [results, hr, go_sem, e2, e3, c0, c1, c2, c3]
theorem head_no (l : List UInt8) (v : Value) (w : World) (hv : Bytes w v l) (hl : l.length ≤ 100000) (code : Nat) (hlp : lookP l = (0, 0, 0, code)) (hc : code = 3 ∨ code = 4) :
    Calls Try.prog 6 #[v] w (HeadRet w 0 0 code [] []) := by
  have hlk := look_any l v (w.alloc (.cells #[.int .i64 0, .slice none 0 0, .slice none 0 0, .int .i64 0] 25)) (hv.below (below_one _)) hl
  unfold LookRet at hlk
  rw [hlp, show layV ((0, 0, 0, code) : Nat × Nat × Nat × Nat).1 = #[.int .i64 0, .int .u8 0, .int .i64 0, .int .i64 0, .int .i64 0, .int .i64 0, .int .i64 0, .int .i64 0] from rfl] at hlk
  dsimp only at hlk
  have HLK := Lib.hid hlk
  have hne : ((code : Int) != 0) = true := by rcases hc with rfl | rfl <;> rfl
  obtain ⟨a0, cp0, rfl, _⟩ := hv
  clear hlk hlp hc
  go_enter Try.func6, Try.ntmps6
  go_wp2_with (first | (go_at_call 15; ((with_reducible refine (HLK.out).mono ?_); rintro e w2 ⟨rfl, hb2⟩; (try dsimp only); have hx := (hb2.block w.heap.size (by simp)).trans (heap_alloc_new w (.cells #[.int .i64 0, .slice none 0 0, .slice none 0 0, .int .i64 0] 25)); have hx := ((below_one (w := w2) (.cells #[.int .i64 0, .int .u8 0, .int .i64 0, .int .i64 0, .int .i64 0, .int .i64 0, .int .i64 0, .int .i64 0] 40)).block w.heap.size (Array.getElem?_eq_some_iff.1 hx).1).trans hx; have HB := Lib.hid (Below.next (Below.next (below_one (w := w) (.cells #[.int .i64 0, .slice none 0 0, .slice none 0 0, .int .i64 0] 25)) hb2) (below_one (w := w2) (.cells #[.int .i64 0, .int .u8 0, .int .i64 0, .int .i64 0, .int .i64 0, .int .i64 0, .int .i64 0, .int .i64 0] 40))); have HX := Lib.hid hx; have rz := fun i => free_of hx i; obtain ⟨r0, r1, r2, r3⟩ := cells4 hx; clear hx hb2)) | fail)
  refine bodyPost_ret (v := .tuple #[.agg #[.int .i64 0, .slice none 0 0, .slice none 0 0, .int .i64 0], .int .i64 code]) ?_ rfl ⟨none, 0, none, 0, rfl, bytes_nil _, bytes_nil _, ?_⟩
  · exact res_head (t := 2) (u := 3) rfl _ _ _ _ _ _ _ (set4_block HX.out _ _ _ _) _ rfl rfl
  · exact set4_below HB.out (Nat.le_refl _) _ _ _ _

set_option maxHeartbeats 4000000 in
theorem head_4 (l : List UInt8) (b off cp : Nat) (w : World) (hv : Bytes w (.slice (some ⟨b, off, none⟩) l.length cp) l) (hl : l.length ≤ 100000) (hcp : l.length ≤ cp) (hcm : cp ≤ maxLen) (bg en : Nat) (hlp : lookP l = (4, bg, en, 0)) (hlen : 20 ≤ l.length) :
    Calls Try.prog 6 #[.slice (some ⟨b, off, none⟩) l.length cp] w (HeadRet w 4 en 0 (sub l 12 16) (sub l 16 20)) := by
  have hlk := look_any l _ (w.alloc (.cells #[.int .i64 0, .slice none 0 0, .slice none 0 0, .int .i64 0] 25)) (hv.below (below_one _)) hl
  unfold LookRet at hlk
  rw [hlp, show layV ((4, bg, en, 0) : Nat × Nat × Nat × Nat).1 = #[.int .i64 4, .int .u8 69, .int .i64 20, .int .i64 2, .int .i64 0, .int .i64 12, .int .i64 16, .int .i64 4] from rfl] at hlk
  dsimp only at hlk
  have HLK := Lib.hid hlk
  have HCS := Lib.hid (fun w c h => copy_sub l b off (16 - 12) cp c 12 16 (by omega) (by omega) hl rfl w h)
  have HCD := Lib.hid (fun w c h => copy_sub l b off (20 - 16) cp c 16 20 (by omega) (by omega) hl rfl w h)
  have HV := Lib.hid hv
  have hci : (20 : Int) ≤ cp := by omega
  have hbi : (16 : Int) ≤ cp := by omega
  have hw1 : IntKind.i64.wrap 16 = 16 := wrap_i64 16 (by omega) (by omega)
  have hw2 : IntKind.i64.wrap 20 = 20 := wrap_i64 20 (by omega) (by omega)
  have hz1 : ¬ cp = 12 := by omega
  have hz2 : ¬ cp = 16 := by omega
  have hbn : 16 < cp := by omega
  have han : 12 < cp := by omega
  have hcmi : (cp : Int) ≤ 9223372036854775807 := by unfold maxLen at hcm; omega
  clear hlk hlp hv hcp hcm hl hlen
  generalize sub l 12 16 = s at *
  generalize sub l 16 20 = d at *
  go_enter Try.func6, Try.ntmps6
  go_wp2_with (first | (go_at_call 15; ((with_reducible refine (HLK.out).mono ?_); rintro e w2 ⟨rfl, hb2⟩; (try dsimp only); have hx := (hb2.block w.heap.size (by simp)).trans (heap_alloc_new w (.cells #[.int .i64 0, .slice none 0 0, .slice none 0 0, .int .i64 0] 25)); have hx := ((below_one (w := w2) (.cells #[.int .i64 4, .int .u8 69, .int .i64 20, .int .i64 2, .int .i64 0, .int .i64 12, .int .i64 16, .int .i64 4] 40)).block w.heap.size (Array.getElem?_eq_some_iff.1 hx).1).trans hx; have hy := heap_alloc_new w2 (.cells #[.int .i64 4, .int .u8 69, .int .i64 20, .int .i64 2, .int .i64 0, .int .i64 12, .int .i64 16, .int .i64 4] 40); have hb := (Below.next (Below.next (below_one (w := w) (.cells #[.int .i64 0, .slice none 0 0, .slice none 0 0, .int .i64 0] 25)) hb2) (below_one (w := w2) (.cells #[.int .i64 4, .int .u8 69, .int .i64 20, .int .i64 2, .int .i64 0, .int .i64 12, .int .i64 16, .int .i64 4] 40))); have hsz := hb2.size; have HNE : Hid (w.heap.size < w2.heap.size) := Lib.hid (by simp only [World.size_alloc] at hsz; omega); clear hb2 hsz)) | fail)
  generalize hW : w2.alloc (.cells #[.int .i64 4, .int .u8 69, .int .i64 20, .int .i64 2, .int .i64 0, .int .i64 12, .int .i64 16, .int .i64 4] 40) = W3 at *
  have hx : W3.drew.heap[w.heap.size]? = some (.cells #[.int .i64 0, .slice none 0 0, .slice none 0 0, .int .i64 0] 25) := hx
  have hy : W3.drew.heap[w2.heap.size]? = some (.cells #[.int .i64 4, .int .u8 69, .int .i64 20, .int .i64 2, .int .i64 0, .int .i64 12, .int .i64 16, .int .i64 4] 40) := hy
  have HX := Lib.hid hx
  have HY := Lib.hid hy
  have HB := Lib.hid hb.drew
  have rz := fun i => free_of hx i
  obtain ⟨r0, r1, r2, r3⟩ := cells4 hx
  obtain ⟨c0, c1, c2, c3, c4, c5, c6, c7⟩ := cells8 hy
  clear hx hy hb hW
  go_region_held3 (fun W => W.cell? ⟨w2.heap.size, 0, none⟩ = some (.int .i64 4) ∧ W.cell? ⟨w2.heap.size, 1, none⟩ = some (.int .u8 69) ∧ W.cell? ⟨w2.heap.size, 2, none⟩ = some (.int .i64 20) ∧ W.cell? ⟨w2.heap.size, 3, none⟩ = some (.int .i64 2) ∧ W.cell? ⟨w2.heap.size, 4, none⟩ = some (.int .i64 0) ∧ W.cell? ⟨w2.heap.size, 5, none⟩ = some (.int .i64 12) ∧ W.cell? ⟨w2.heap.size, 6, none⟩ = some (.int .i64 16) ∧ W.cell? ⟨w2.heap.size, 7, none⟩ = some (.int .i64 4)) (first | exact ⟨c0, c1, c2, c3, c4, c5, c6, c7⟩ | (refine ⟨?_, ?_, ?_, ?_, ?_, ?_, ?_, ?_⟩ <;> (rw [cell_set_ne (Nat.ne_of_gt HNE.out), cell_set_ne (Nat.ne_of_gt HNE.out), cell_set_ne (Nat.ne_of_gt HNE.out), cell_set_ne (Nat.ne_of_gt HNE.out)]; assumption))) (first | ((go_at_call 16; ((with_reducible refine (HCS.out _ _ (HV.out.below HB.out)).mono ?_); rintro e w4 ⟨sa, sc, rfl, hs4, hb4⟩; have HS := Lib.hid hs4; clear hs4; have hx := (hb4.block w.heap.size (Array.getElem?_eq_some_iff.1 HX.out).1).trans HX.out; have hy := (hb4.block w2.heap.size (Array.getElem?_eq_some_iff.1 HY.out).1).trans HY.out; have HX := Lib.hid hx; have HY := Lib.hid hy; have HB := Lib.hid (Below.next HB.out hb4); have rz := fun i => free_of hx i; obtain ⟨r0, r1, r2, r3⟩ := cells4 hx; obtain ⟨c0, c1, c2, c3, c4, c5, c6, c7⟩ := cells8 hy; clear hx hy hb4))) | ((go_at_call 16; ((with_reducible refine (HCD.out _ _ (HV.out.below HB.out)).mono ?_); rintro e w4 ⟨da, dc, rfl, hs4, hb4⟩; have HD := Lib.hid hs4; have HS := Lib.hid (Bytes.below HS.out hb4); clear hs4; have hx := (hb4.block w.heap.size (Array.getElem?_eq_some_iff.1 HX.out).1).trans HX.out; have hy := (hb4.block w2.heap.size (Array.getElem?_eq_some_iff.1 HY.out).1).trans HY.out; have HX := Lib.hid hx; have HY := Lib.hid hy; have HB := Lib.hid (Below.next HB.out hb4); have rz := fun i => free_of hx i; obtain ⟨r0, r1, r2, r3⟩ := cells4 hx; obtain ⟨c0, c1, c2, c3, c4, c5, c6, c7⟩ := cells8 hy; clear hx hy hb4))))
  all_goals
    go_wp2_with fail
    refine bodyPost_ret (v := .tuple #[.agg #[.int .i64 4, .slice sa s.length sc, .slice da d.length dc, .int .i64 en], .int .i64 0]) ?_ rfl ⟨sa, sc, da, dc, rfl, ?_, ?_, ?_⟩
    · exact res_head (t := 2) (u := 3) rfl _ _ _ _ _ _ _ (set4_block HX.out _ _ _ _) _ rfl rfl
    · exact bytes_set HS.out HX.out (fun _ h => by cases h) (fun _ h => by cases h) (fun _ h => by cases h) (fun _ h => by cases h) _ _ _ _
    · exact bytes_set HD.out HX.out (fun _ h => by cases h) (fun _ h => by cases h) (fun _ h => by cases h) (fun _ h => by cases h) _ _ _ _
    · exact set4_below HB.out (Nat.le_refl _) _ _ _ _

set_option maxHeartbeats 4000000 in
theorem head_6 (l : List UInt8) (b off cp : Nat) (w : World) (hv : Bytes w (.slice (some ⟨b, off, none⟩) l.length cp) l) (hl : l.length ≤ 100000) (hcp : l.length ≤ cp) (hcm : cp ≤ maxLen) (bg en : Nat) (hlp : lookP l = (6, bg, en, 0)) (hlen : 40 ≤ l.length) :
    Calls Try.prog 6 #[.slice (some ⟨b, off, none⟩) l.length cp] w (HeadRet w 6 en 0 (sub l 8 24) (sub l 24 40)) := by
  have hlk := look_any l _ (w.alloc (.cells #[.int .i64 0, .slice none 0 0, .slice none 0 0, .int .i64 0] 25)) (hv.below (below_one _)) hl
  unfold LookRet at hlk
  rw [hlp, show layV ((6, bg, en, 0) : Nat × Nat × Nat × Nat).1 = #[.int .i64 6, .int .u8 96, .int .i64 40, .int .i64 4, .int .i64 40, .int .i64 8, .int .i64 24, .int .i64 16] from rfl] at hlk
  dsimp only at hlk
  have HLK := Lib.hid hlk
  have HCS := Lib.hid (fun w c h => copy_sub l b off (24 - 8) cp c 8 24 (by omega) (by omega) hl rfl w h)
  have HCD := Lib.hid (fun w c h => copy_sub l b off (40 - 24) cp c 24 40 (by omega) (by omega) hl rfl w h)
  have HV := Lib.hid hv
  have hci : (40 : Int) ≤ cp := by omega
  have hbi : (24 : Int) ≤ cp := by omega
  have hw1 : IntKind.i64.wrap 24 = 24 := wrap_i64 24 (by omega) (by omega)
  have hw2 : IntKind.i64.wrap 40 = 40 := wrap_i64 40 (by omega) (by omega)
  have hz1 : ¬ cp = 8 := by omega
  have hz2 : ¬ cp = 24 := by omega
  have hbn : 24 < cp := by omega
  have han : 8 < cp := by omega
  have hcmi : (cp : Int) ≤ 9223372036854775807 := by unfold maxLen at hcm; omega
  clear hlk hlp hv hcp hcm hl hlen
  generalize sub l 8 24 = s at *
  generalize sub l 24 40 = d at *
  go_enter Try.func6, Try.ntmps6
  go_wp2_with (first | (go_at_call 15; ((with_reducible refine (HLK.out).mono ?_); rintro e w2 ⟨rfl, hb2⟩; (try dsimp only); have hx := (hb2.block w.heap.size (by simp)).trans (heap_alloc_new w (.cells #[.int .i64 0, .slice none 0 0, .slice none 0 0, .int .i64 0] 25)); have hx := ((below_one (w := w2) (.cells #[.int .i64 6, .int .u8 96, .int .i64 40, .int .i64 4, .int .i64 40, .int .i64 8, .int .i64 24, .int .i64 16] 40)).block w.heap.size (Array.getElem?_eq_some_iff.1 hx).1).trans hx; have hy := heap_alloc_new w2 (.cells #[.int .i64 6, .int .u8 96, .int .i64 40, .int .i64 4, .int .i64 40, .int .i64 8, .int .i64 24, .int .i64 16] 40); have hb := (Below.next (Below.next (below_one (w := w) (.cells #[.int .i64 0, .slice none 0 0, .slice none 0 0, .int .i64 0] 25)) hb2) (below_one (w := w2) (.cells #[.int .i64 6, .int .u8 96, .int .i64 40, .int .i64 4, .int .i64 40, .int .i64 8, .int .i64 24, .int .i64 16] 40))); have hsz := hb2.size; have HNE : Hid (w.heap.size < w2.heap.size) := Lib.hid (by simp only [World.size_alloc] at hsz; omega); clear hb2 hsz)) | fail)
  generalize hW : w2.alloc (.cells #[.int .i64 6, .int .u8 96, .int .i64 40, .int .i64 4, .int .i64 40, .int .i64 8, .int .i64 24, .int .i64 16] 40) = W3 at *
  have hx : W3.drew.heap[w.heap.size]? = some (.cells #[.int .i64 0, .slice none 0 0, .slice none 0 0, .int .i64 0] 25) := hx
  have hy : W3.drew.heap[w2.heap.size]? = some (.cells #[.int .i64 6, .int .u8 96, .int .i64 40, .int .i64 4, .int .i64 40, .int .i64 8, .int .i64 24, .int .i64 16] 40) := hy
  have HX := Lib.hid hx
  have HY := Lib.hid hy
  have HB := Lib.hid hb.drew
  have rz := fun i => free_of hx i
  obtain ⟨r0, r1, r2, r3⟩ := cells4 hx
  obtain ⟨c0, c1, c2, c3, c4, c5, c6, c7⟩ := cells8 hy
  clear hx hy hb hW
  go_region_held3 (fun W => W.cell? ⟨w2.heap.size, 0, none⟩ = some (.int .i64 6) ∧ W.cell? ⟨w2.heap.size, 1, none⟩ = some (.int .u8 96) ∧ W.cell? ⟨w2.heap.size, 2, none⟩ = some (.int .i64 40) ∧ W.cell? ⟨w2.heap.size, 3, none⟩ = some (.int .i64 4) ∧ W.cell? ⟨w2.heap.size, 4, none⟩ = some (.int .i64 40) ∧ W.cell? ⟨w2.heap.size, 5, none⟩ = some (.int .i64 8) ∧ W.cell? ⟨w2.heap.size, 6, none⟩ = some (.int .i64 24) ∧ W.cell? ⟨w2.heap.size, 7, none⟩ = some (.int .i64 16)) (first | exact ⟨c0, c1, c2, c3, c4, c5, c6, c7⟩ | (refine ⟨?_, ?_, ?_, ?_, ?_, ?_, ?_, ?_⟩ <;> (rw [cell_set_ne (Nat.ne_of_gt HNE.out), cell_set_ne (Nat.ne_of_gt HNE.out), cell_set_ne (Nat.ne_of_gt HNE.out), cell_set_ne (Nat.ne_of_gt HNE.out)]; assumption))) (first | ((go_at_call 16; ((with_reducible refine (HCS.out _ _ (HV.out.below HB.out)).mono ?_); rintro e w4 ⟨sa, sc, rfl, hs4, hb4⟩; have HS := Lib.hid hs4; clear hs4; have hx := (hb4.block w.heap.size (Array.getElem?_eq_some_iff.1 HX.out).1).trans HX.out; have hy := (hb4.block w2.heap.size (Array.getElem?_eq_some_iff.1 HY.out).1).trans HY.out; have HX := Lib.hid hx; have HY := Lib.hid hy; have HB := Lib.hid (Below.next HB.out hb4); have rz := fun i => free_of hx i; obtain ⟨r0, r1, r2, r3⟩ := cells4 hx; obtain ⟨c0, c1, c2, c3, c4, c5, c6, c7⟩ := cells8 hy; clear hx hy hb4))) | ((go_at_call 16; ((with_reducible refine (HCD.out _ _ (HV.out.below HB.out)).mono ?_); rintro e w4 ⟨da, dc, rfl, hs4, hb4⟩; have HD := Lib.hid hs4; have HS := Lib.hid (Bytes.below HS.out hb4); clear hs4; have hx := (hb4.block w.heap.size (Array.getElem?_eq_some_iff.1 HX.out).1).trans HX.out; have hy := (hb4.block w2.heap.size (Array.getElem?_eq_some_iff.1 HY.out).1).trans HY.out; have HX := Lib.hid hx; have HY := Lib.hid hy; have HB := Lib.hid (Below.next HB.out hb4); have rz := fun i => free_of hx i; obtain ⟨r0, r1, r2, r3⟩ := cells4 hx; obtain ⟨c0, c1, c2, c3, c4, c5, c6, c7⟩ := cells8 hy; clear hx hy hb4))))
  all_goals
    go_wp2_with fail
    refine bodyPost_ret (v := .tuple #[.agg #[.int .i64 6, .slice sa s.length sc, .slice da d.length dc, .int .i64 en], .int .i64 0]) ?_ rfl ⟨sa, sc, da, dc, rfl, ?_, ?_, ?_⟩
    · exact res_head (t := 2) (u := 3) rfl _ _ _ _ _ _ _ (set4_block HX.out _ _ _ _) _ rfl rfl
    · exact bytes_set HS.out HX.out (fun _ h => by cases h) (fun _ h => by cases h) (fun _ h => by cases h) (fun _ h => by cases h) _ _ _ _
    · exact bytes_set HD.out HX.out (fun _ h => by cases h) (fun _ h => by cases h) (fun _ h => by cases h) (fun _ h => by cases h) _ _ _ _
    · exact set4_below HB.out (Nat.le_refl _) _ _ _ _
end Go.Proofs.Ytkhomjbggfjleaa
