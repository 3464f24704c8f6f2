/- Packets: the reference's Read by contract. -/
import Derived.Test.YtkhomjbggfjleaaPkt5
namespace Go.Proofs.Ytkhomjbggfjleaa
set_option linter.unusedVariables false
set_option linter.unusedSimpArgs false
set_option maxRecDepth 100000
open Go.RowKit
def RefRet (w : World) (ver en head code : Nat) (s d : List UInt8) (e : Ending) (w' : World) : Prop :=
  ∃ sa sc da dc, e = .returned (.tuple #[.agg #[.int .i64 ver, .slice sa s.length sc, .slice da d.length dc, .int .i64 en], .int .i64 head, .int .i64 code]) ∧ Bytes w' (.slice sa s.length sc) s ∧ Bytes w' (.slice da d.length dc) d ∧ Below w.heap.size w w'
theorem res_ref {fn : Func} {t u x : Tmp} {T : TypeId} (hr : fn.results = #[.cell t 25, .tmp u, .tmp x]) (W : World) (b : Nat) (v0 v1 v2 v3 y z : Value) (h : W.heap[b]? = some (.cells #[v0, v1, v2, v3] T (0, 0))) (tm : Array Value) (h2 : tm.getD t undef = .pointer (some ⟨b, 0, none⟩)) (h3 : tm.getD u undef = y) (h4 : tm.getD x undef = z) :
    (results fn tm).run Try.prog W = .ok (.tuple #[.agg #[v0, v1, v2, v3], y, z]) W := by
  obtain ⟨c0, c1, c2, c3⟩ := cells4 h
  have e2 : tm[t]?.getD undef = .pointer (some ⟨b, 0, none⟩) := by simpa using h2
  have e3 : tm[u]?.getD undef = y := by simpa using h3
  have e4 : tm[x]?.getD undef = z := by simpa using h4
  simp [results, hr, go_sem, e2, e3, e4, c0, c1, c2, c3]
theorem bnet {b c : Int} (h : b ≠ c) : (b != c) = true := by simpa using h
theorem two_below (w : World) : Below w.heap.size w (((w.alloc (.cells #[.int .i64 0, .slice none 0 0, .slice none 0 0, .int .i64 0] 25)).alloc (.cells #[.int .i64 0, .slice none 0 0, .slice none 0 0, .int .i64 0] 25))) := Below.next (below_one _) (below_one _)
theorem two_first (w : World) : (((w.alloc (.cells #[.int .i64 0, .slice none 0 0, .slice none 0 0, .int .i64 0] 25)).alloc (.cells #[.int .i64 0, .slice none 0 0, .slice none 0 0, .int .i64 0] 25))).heap[w.heap.size]? = some (.cells #[.int .i64 0, .slice none 0 0, .slice none 0 0, .int .i64 0] 25) := ((below_one (w := w.alloc (.cells #[.int .i64 0, .slice none 0 0, .slice none 0 0, .int .i64 0] 25)) (.cells #[.int .i64 0, .slice none 0 0, .slice none 0 0, .int .i64 0] 25)).block w.heap.size (by simp)).trans (heap_alloc_new w _)
theorem set4_first (w : World) (n : Nat) (v0 v1 v2 v3 : Value) : (set4 ((((w.alloc (.cells #[.int .i64 0, .slice none 0 0, .slice none 0 0, .int .i64 0] 25)).alloc (.cells #[.int .i64 0, .slice none 0 0, .slice none 0 0, .int .i64 0] 25))).drewN n) w.heap.size v0 v1 v2 v3).heap[w.heap.size]? = some (.cells #[v0, v1, v2, v3] 25 (0, 0)) := set4_block (two_first w) v0 v1 v2 v3
theorem set4_first2 (w : World) (n m : Nat) (v0 v1 v2 v3 : Value) : (set4 (((((w.alloc (.cells #[.int .i64 0, .slice none 0 0, .slice none 0 0, .int .i64 0] 25)).alloc (.cells #[.int .i64 0, .slice none 0 0, .slice none 0 0, .int .i64 0] 25))).drewN n).drewN m) w.heap.size v0 v1 v2 v3).heap[w.heap.size]? = some (.cells #[v0, v1, v2, v3] 25 (0, 0)) := set4_block (two_first w) v0 v1 v2 v3
theorem set4_low (w : World) (n : Nat) (v0 v1 v2 v3 : Value) : Below w.heap.size w (set4 ((((w.alloc (.cells #[.int .i64 0, .slice none 0 0, .slice none 0 0, .int .i64 0] 25)).alloc (.cells #[.int .i64 0, .slice none 0 0, .slice none 0 0, .int .i64 0] 25))).drewN n) w.heap.size v0 v1 v2 v3) := set4_below (below_dr (two_below w) _) (Nat.le_refl _) _ _ _ _
theorem set4_low2 (w : World) (n m : Nat) (v0 v1 v2 v3 : Value) : Below w.heap.size w (set4 (((((w.alloc (.cells #[.int .i64 0, .slice none 0 0, .slice none 0 0, .int .i64 0] 25)).alloc (.cells #[.int .i64 0, .slice none 0 0, .slice none 0 0, .int .i64 0] 25))).drewN n).drewN m) w.heap.size v0 v1 v2 v3) := set4_below (below_dr (below_dr (two_below w) _) _) (Nat.le_refl _) _ _ _ _
theorem ref_0 (a : Option Addr) (cp : Nat) (w : World) : Calls Try.prog 9 #[.slice a 0 cp] w (RefRet w 0 0 0 4 [] []) := by
  go_enter Try.func9, Try.ntmps9
  go_wp2_with fail
  have hx := two_first w
  have hb := two_below w
  refine bodyPost_ret (v := .tuple #[.agg #[.int .i64 0, .slice none 0 0, .slice none 0 0, .int .i64 0], .int .i64 0, .int .i64 4]) ?_ rfl ⟨none, 0, none, 0, rfl, bytes_nil _, bytes_nil _, ?_⟩
  · exact res_ref (t := 2) (u := 3) (x := 4) rfl _ _ _ _ _ _ _ _ hx _ rfl rfl rfl
  · exact hb
theorem ref_other (l : List UInt8) (b off cp : Nat) (h0 : 0 < l.length) (hl : l.length ≤ 100000) (hcp : l.length ≤ cp) (hcm : cp ≤ maxLen) (w : World) (hc : ∀ i, i < l.length → w.cell? ⟨b, off + i, none⟩ = some (.int .u8 (l.getD i 0).toNat)) (h4 : pkVer l ≠ 4) (h6 : pkVer l ≠ 6) : Calls Try.prog 9 #[.slice (some ⟨b, off, none⟩) l.length cp] w (RefRet w 0 0 0 3 [] []) := by
  have cb : (((w.alloc (.cells #[.int .i64 0, .slice none 0 0, .slice none 0 0, .int .i64 0] 25)).alloc (.cells #[.int .i64 0, .slice none 0 0, .slice none 0 0, .int .i64 0] 25))).cell? ⟨b, off, none⟩ = some (.int .u8 (l.getD 0 0).toNat) := cell_keep4 (by have := hc 0 h0; simpa using this) (two_below w); have h0i : (0 : Int) < l.length := (by omega); have hne : ((l.length : Int) == 0) = false := beqf (by omega); have hub := UInt8.toNat_lt (l.getD 0 0)
  unfold pkVer at h4 h6
  have e4 : (((l.getD 0 0).toNat : Int) / 16 != 4) = true := bnet (by omega)
  have e6 : (((l.getD 0 0).toNat : Int) / 16 != 6) = true := bnet (by omega)
  generalize l.getD 0 0 = u at *
  have hx := two_first w
  have hb := two_below w
  clear hc h4 h6
  go_enter Try.func9, Try.ntmps9
  go_wp2_with fail
  refine bodyPost_ret (v := .tuple #[.agg #[.int .i64 0, .slice none 0 0, .slice none 0 0, .int .i64 0], .int .i64 0, .int .i64 3]) ?_ rfl ⟨none, 0, none, 0, rfl, bytes_nil _, bytes_nil _, ?_⟩
  · exact res_ref (t := 2) (u := 3) (x := 4) rfl _ _ _ _ _ _ _ _ hx _ rfl rfl rfl
  · exact hb
theorem ref_6_short (l : List UInt8) (b off cp : Nat) (h0 : 0 < l.length) (hl : l.length ≤ 100000) (hcp : l.length ≤ cp) (hcm : cp ≤ maxLen) (w : World) (hc : ∀ i, i < l.length → w.cell? ⟨b, off + i, none⟩ = some (.int .u8 (l.getD i 0).toNat)) (hv : pkVer l = 6) (hs : l.length < 40) : Calls Try.prog 9 #[.slice (some ⟨b, off, none⟩) l.length cp] w (RefRet w 0 0 0 4 [] []) := by
  have cb : (((w.alloc (.cells #[.int .i64 0, .slice none 0 0, .slice none 0 0, .int .i64 0] 25)).alloc (.cells #[.int .i64 0, .slice none 0 0, .slice none 0 0, .int .i64 0] 25))).cell? ⟨b, off, none⟩ = some (.int .u8 (l.getD 0 0).toNat) := cell_keep4 (by have := hc 0 h0; simpa using this) (two_below w); have h0i : (0 : Int) < l.length := (by omega); have hne : ((l.length : Int) == 0) = false := beqf (by omega); have hub := UInt8.toNat_lt (l.getD 0 0)
  have hver : ((l.getD 0 0).toNat : Int) / 16 = 6 := by unfold pkVer at hv; omega
  generalize l.getD 0 0 = u at *
  have hsi : (l.length : Int) < 40 := by omega
  have hx := two_first w
  have hb := two_below w
  clear hc hv
  go_enter Try.func9, Try.ntmps9
  go_wp2_with fail
  refine bodyPost_ret (v := .tuple #[.agg #[.int .i64 0, .slice none 0 0, .slice none 0 0, .int .i64 0], .int .i64 0, .int .i64 4]) ?_ rfl ⟨none, 0, none, 0, rfl, bytes_nil _, bytes_nil _, ?_⟩
  · exact res_ref (t := 2) (u := 3) (x := 4) rfl _ _ _ _ _ _ _ _ hx _ rfl rfl rfl
  · exact hb
theorem ref_4_short (l : List UInt8) (b off cp : Nat) (h0 : 0 < l.length) (hl : l.length ≤ 100000) (hcp : l.length ≤ cp) (hcm : cp ≤ maxLen) (w : World) (hc : ∀ i, i < l.length → w.cell? ⟨b, off + i, none⟩ = some (.int .u8 (l.getD i 0).toNat)) (hv : pkVer l = 4) (hs : l.length < 20) : Calls Try.prog 9 #[.slice (some ⟨b, off, none⟩) l.length cp] w (RefRet w 0 0 0 4 [] []) := by
  have cb : (((w.alloc (.cells #[.int .i64 0, .slice none 0 0, .slice none 0 0, .int .i64 0] 25)).alloc (.cells #[.int .i64 0, .slice none 0 0, .slice none 0 0, .int .i64 0] 25))).cell? ⟨b, off, none⟩ = some (.int .u8 (l.getD 0 0).toNat) := cell_keep4 (by have := hc 0 h0; simpa using this) (two_below w); have h0i : (0 : Int) < l.length := (by omega); have hne : ((l.length : Int) == 0) = false := beqf (by omega); have hub := UInt8.toNat_lt (l.getD 0 0)
  have hver : ((l.getD 0 0).toNat : Int) / 16 = 4 := by unfold pkVer at hv; omega
  generalize l.getD 0 0 = u at *
  have hsi : (l.length : Int) < 20 := by omega
  have hx := two_first w
  have hb := two_below w
  clear hc hv
  go_enter Try.func9, Try.ntmps9
  go_wp2_with fail
  refine bodyPost_ret (v := .tuple #[.agg #[.int .i64 0, .slice none 0 0, .slice none 0 0, .int .i64 0], .int .i64 0, .int .i64 4]) ?_ rfl ⟨none, 0, none, 0, rfl, bytes_nil _, bytes_nil _, ?_⟩
  · exact res_ref (t := 2) (u := 3) (x := 4) rfl _ _ _ _ _ _ _ _ hx _ rfl rfl rfl
  · exact hb
theorem ref_6_long (l : List UInt8) (b off cp : Nat) (h0 : 0 < l.length) (hl : l.length ≤ 100000) (hcp : l.length ≤ cp) (hcm : cp ≤ maxLen) (w : World) (hc : ∀ i, i < l.length → w.cell? ⟨b, off + i, none⟩ = some (.int .u8 (l.getD i 0).toNat)) (hv : pkVer l = 6) (hs : 40 ≤ l.length) (hg : l.length < pkLen6 l) : Calls Try.prog 9 #[.slice (some ⟨b, off, none⟩) l.length cp] w (RefRet w 0 0 0 4 [] []) := by
  have cb : (((w.alloc (.cells #[.int .i64 0, .slice none 0 0, .slice none 0 0, .int .i64 0] 25)).alloc (.cells #[.int .i64 0, .slice none 0 0, .slice none 0 0, .int .i64 0] 25))).cell? ⟨b, off, none⟩ = some (.int .u8 (l.getD 0 0).toNat) := cell_keep4 (by have := hc 0 h0; simpa using this) (two_below w); have h0i : (0 : Int) < l.length := (by omega); have hne : ((l.length : Int) == 0) = false := beqf (by omega); have hub := UInt8.toNat_lt (l.getD 0 0)
  have cb4 : (((w.alloc (.cells #[.int .i64 0, .slice none 0 0, .slice none 0 0, .int .i64 0] 25)).alloc (.cells #[.int .i64 0, .slice none 0 0, .slice none 0 0, .int .i64 0] 25))).cell? ⟨b, off + 4, none⟩ = some (.int .u8 (l.getD 4 0).toNat) := cell_keep4 (hc 4 (by omega)) (two_below w); have cb5 : (((w.alloc (.cells #[.int .i64 0, .slice none 0 0, .slice none 0 0, .int .i64 0] 25)).alloc (.cells #[.int .i64 0, .slice none 0 0, .slice none 0 0, .int .i64 0] 25))).cell? ⟨b, off + 5, none⟩ = some (.int .u8 (l.getD 5 0).toNat) := cell_keep4 (hc 5 (by omega)) (two_below w); have h4i : (4 : Int) < l.length := (by omega); have h5i : (5 : Int) < l.length := (by omega); have hub4 := UInt8.toNat_lt (l.getD 4 0); have hub5 := UInt8.toNat_lt (l.getD 5 0)
  have hver : ((l.getD 0 0).toNat : Int) / 16 = 6 := (by unfold pkVer at hv; omega); have hlen : pkLen6 l = 40 + 256 * (l.getD 4 0).toNat + (l.getD 5 0).toNat := rfl; generalize pkLen6 l = N at *; generalize l.getD 0 0 = u at *; generalize l.getD 4 0 = u4 at *; generalize l.getD 5 0 = u5 at *; have hsi : (40 : Int) ≤ l.length := (by omega); have hN : 40 + 256 * (u4.toNat : Int) + u5.toNat = N := (by omega); have hw1 := wrap_i64 (256 * (u4.toNat : Int)) (by omega) (by omega); have hw2 := wrap_i64 (40 + 256 * (u4.toNat : Int)) (by omega) (by omega); have hw3 : IntKind.i64.wrap (40 + 256 * (u4.toNat : Int) + u5.toNat) = N := (by rw [wrap_i64 (40 + 256 * (u4.toNat : Int) + u5.toNat) (by omega) (by omega)]; exact hN); have hx := two_first w; have hb := two_below w; clear hc hv
  have hgi : (l.length : Int) < N := by omega
  clear hN hlen
  go_enter Try.func9, Try.ntmps9
  go_wp2_with fail
  go_quiet (fail)
  all_goals
    clear hw1 hw2 hw3
    go_wp2_with fail
    refine bodyPost_ret (v := .tuple #[.agg #[.int .i64 0, .slice none 0 0, .slice none 0 0, .int .i64 0], .int .i64 0, .int .i64 4]) ?_ rfl ⟨none, 0, none, 0, rfl, bytes_nil _, bytes_nil _, ?_⟩
    · exact res_ref (t := 2) (u := 3) (x := 4) rfl _ _ _ _ _ _ _ _ (set4_first w _ _ _ _ _) _ rfl rfl rfl
    · exact set4_low w _ _ _ _ _
theorem ref_6_fine (l : List UInt8) (b off cp : Nat) (h0 : 0 < l.length) (hl : l.length ≤ 100000) (hcp : l.length ≤ cp) (hcm : cp ≤ maxLen) (w : World) (hc : ∀ i, i < l.length → w.cell? ⟨b, off + i, none⟩ = some (.int .u8 (l.getD i 0).toNat)) (hv : pkVer l = 6) (hs : 40 ≤ l.length) (hg : pkLen6 l ≤ l.length) : Calls Try.prog 9 #[.slice (some ⟨b, off, none⟩) l.length cp] w (RefRet w 6 (pkLen6 l) 40 0 (sub l 8 24) (sub l 24 40)) := by
  have hvw : Bytes w (.slice (some ⟨b, off, none⟩) l.length cp) l := ⟨_, _, rfl, .inr ⟨b, off, rfl, hc⟩⟩
  have hS : ∀ W, Below w.heap.size w W → ∀ c2, Bytes W (.slice (some ⟨b, off + 8, none⟩) 16 c2) (sub l 8 24) := fun W h c2 => bytes_sub (hvw.below h) (by omega) (by omega) rfl
  have hD : ∀ W, Below w.heap.size w W → ∀ c2, Bytes W (.slice (some ⟨b, off + 24, none⟩) 16 c2) (sub l 24 40) := fun W h c2 => bytes_sub (hvw.below h) (by omega) (by omega) rfl
  have hsl : (sub l 8 24).length = 16 := sub_len (by omega)
  have hdl : (sub l 24 40).length = 16 := sub_len (by omega)
  have cb : (((w.alloc (.cells #[.int .i64 0, .slice none 0 0, .slice none 0 0, .int .i64 0] 25)).alloc (.cells #[.int .i64 0, .slice none 0 0, .slice none 0 0, .int .i64 0] 25))).cell? ⟨b, off, none⟩ = some (.int .u8 (l.getD 0 0).toNat) := cell_keep4 (by have := hc 0 h0; simpa using this) (two_below w); have h0i : (0 : Int) < l.length := (by omega); have hne : ((l.length : Int) == 0) = false := beqf (by omega); have hub := UInt8.toNat_lt (l.getD 0 0)
  have cb4 : (((w.alloc (.cells #[.int .i64 0, .slice none 0 0, .slice none 0 0, .int .i64 0] 25)).alloc (.cells #[.int .i64 0, .slice none 0 0, .slice none 0 0, .int .i64 0] 25))).cell? ⟨b, off + 4, none⟩ = some (.int .u8 (l.getD 4 0).toNat) := cell_keep4 (hc 4 (by omega)) (two_below w); have cb5 : (((w.alloc (.cells #[.int .i64 0, .slice none 0 0, .slice none 0 0, .int .i64 0] 25)).alloc (.cells #[.int .i64 0, .slice none 0 0, .slice none 0 0, .int .i64 0] 25))).cell? ⟨b, off + 5, none⟩ = some (.int .u8 (l.getD 5 0).toNat) := cell_keep4 (hc 5 (by omega)) (two_below w); have h4i : (4 : Int) < l.length := (by omega); have h5i : (5 : Int) < l.length := (by omega); have hub4 := UInt8.toNat_lt (l.getD 4 0); have hub5 := UInt8.toNat_lt (l.getD 5 0)
  have hver : ((l.getD 0 0).toNat : Int) / 16 = 6 := (by unfold pkVer at hv; omega); have hlen : pkLen6 l = 40 + 256 * (l.getD 4 0).toNat + (l.getD 5 0).toNat := rfl; generalize pkLen6 l = N at *; generalize l.getD 0 0 = u at *; generalize l.getD 4 0 = u4 at *; generalize l.getD 5 0 = u5 at *; have hsi : (40 : Int) ≤ l.length := (by omega); have hN : 40 + 256 * (u4.toNat : Int) + u5.toNat = N := (by omega); have hw1 := wrap_i64 (256 * (u4.toNat : Int)) (by omega) (by omega); have hw2 := wrap_i64 (40 + 256 * (u4.toNat : Int)) (by omega) (by omega); have hw3 : IntKind.i64.wrap (40 + 256 * (u4.toNat : Int) + u5.toNat) = N := (by rw [wrap_i64 (40 + 256 * (u4.toNat : Int) + u5.toNat) (by omega) (by omega)]; exact hN); have hx := two_first w; have hb := two_below w; clear hc hv
  have hgi : (N : Int) ≤ l.length := by omega
  have hci : (40 : Int) ≤ cp := by omega
  have hci2 : (24 : Int) ≤ cp := by omega
  have hz1 : ¬ cp = 8 := by omega
  have hz2 : ¬ cp = 24 := by omega
  clear hN hlen
  have HS := Lib.hid hS
  have HD := Lib.hid hD
  have HSL := Lib.hid hsl
  have HDL := Lib.hid hdl
  clear hS hD hsl hdl hvw
  generalize sub l 8 24 = s at *
  generalize sub l 24 40 = d at *
  go_enter Try.func9, Try.ntmps9
  go_wp2_with fail
  go_quiet (fail)
  all_goals
    clear hw1 hw2 hw3
    go_wp2_with fail
    go_region_held3 (fun _ => True) (trivial) (fail)
    all_goals
      go_wp2_with fail
      refine bodyPost_ret (v := .tuple #[.agg #[.int .i64 6, .slice (some ⟨b, off + 8, none⟩) 16 (cp - 8), .slice (some ⟨b, off + 24, none⟩) 16 (cp - 24), .int .i64 N], .int .i64 40, .int .i64 0]) ?_ rfl ⟨some ⟨b, off + 8, none⟩, cp - 8, some ⟨b, off + 24, none⟩, cp - 24, ?_, ?_, ?_, ?_⟩
      · exact res_ref (t := 2) (u := 3) (x := 4) rfl _ _ _ _ _ _ _ _ (set4_first w _ _ _ _ _) _ rfl rfl rfl
      · rw [HSL.out, HDL.out]; rfl
      · rw [HSL.out]; exact HS.out _ (set4_low w _ _ _ _ _) _
      · rw [HDL.out]; exact HD.out _ (set4_low w _ _ _ _ _) _
      · exact set4_low w _ _ _ _ _
theorem ref_4_form (l : List UInt8) (b off cp : Nat) (h0 : 0 < l.length) (hl : l.length ≤ 100000) (hcp : l.length ≤ cp) (hcm : cp ≤ maxLen) (w : World) (hc : ∀ i, i < l.length → w.cell? ⟨b, off + i, none⟩ = some (.int .u8 (l.getD i 0).toNat)) (hv : pkVer l = 4) (hs : 20 ≤ l.length) (hf : pkHead l < 20 ∨ pkLen4 l < pkHead l) : Calls Try.prog 9 #[.slice (some ⟨b, off, none⟩) l.length cp] w (RefRet w 0 0 0 3 [] []) := by
  have cb : (((w.alloc (.cells #[.int .i64 0, .slice none 0 0, .slice none 0 0, .int .i64 0] 25)).alloc (.cells #[.int .i64 0, .slice none 0 0, .slice none 0 0, .int .i64 0] 25))).cell? ⟨b, off, none⟩ = some (.int .u8 (l.getD 0 0).toNat) := cell_keep4 (by have := hc 0 h0; simpa using this) (two_below w); have h0i : (0 : Int) < l.length := (by omega); have hne : ((l.length : Int) == 0) = false := beqf (by omega); have hub := UInt8.toNat_lt (l.getD 0 0)
  have cb2 : (((w.alloc (.cells #[.int .i64 0, .slice none 0 0, .slice none 0 0, .int .i64 0] 25)).alloc (.cells #[.int .i64 0, .slice none 0 0, .slice none 0 0, .int .i64 0] 25))).cell? ⟨b, off + 2, none⟩ = some (.int .u8 (l.getD 2 0).toNat) := cell_keep4 (hc 2 (by omega)) (two_below w); have cb3 : (((w.alloc (.cells #[.int .i64 0, .slice none 0 0, .slice none 0 0, .int .i64 0] 25)).alloc (.cells #[.int .i64 0, .slice none 0 0, .slice none 0 0, .int .i64 0] 25))).cell? ⟨b, off + 3, none⟩ = some (.int .u8 (l.getD 3 0).toNat) := cell_keep4 (hc 3 (by omega)) (two_below w); have h2i : (2 : Int) < l.length := (by omega); have h3i : (3 : Int) < l.length := (by omega); have hub2 := UInt8.toNat_lt (l.getD 2 0); have hub3 := UInt8.toNat_lt (l.getD 3 0)
  have hver : ((l.getD 0 0).toNat : Int) / 16 = 4 := (by unfold pkVer at hv; omega); have hlen : pkLen4 l = 256 * (l.getD 2 0).toNat + (l.getD 3 0).toNat := rfl; have hhd : pkHead l = 4 * ((l.getD 0 0).toNat % 16) := rfl; generalize pkLen4 l = N at *; generalize pkHead l = H at *; generalize l.getD 0 0 = u at *; generalize l.getD 2 0 = u2 at *; generalize l.getD 3 0 = u3 at *; have hsi : (20 : Int) ≤ l.length := (by omega); have hN : 256 * (u2.toNat : Int) + u3.toNat = N := (by omega); have hH : 4 * ((u.toNat : Int) % 16) = H := (by omega); have hH2 : H ≤ 60 := (by omega); have hw0 : IntKind.i64.wrap (4 * ((u.toNat : Int) % 16)) = H := (by rw [wrap_i64 (4 * ((u.toNat : Int) % 16)) (by omega) (by omega)]; exact hH); have hw1 := wrap_i64 (256 * (u2.toNat : Int)) (by omega) (by omega); have hw3 : IntKind.i64.wrap (256 * (u2.toNat : Int) + u3.toNat) = N := (by rw [wrap_i64 (256 * (u2.toNat : Int) + u3.toNat) (by omega) (by omega)]; exact hN); clear hc hv
  by_cases h1 : H < 20
  · have h1i : (H : Int) < 20 := by omega
    clear hf hH hN hlen hhd
    go_enter Try.func9, Try.ntmps9
    go_wp2_with fail
    go_quiet (fail)
    all_goals
      clear hw0 hw1 hw3
      go_wp2_with fail
      refine bodyPost_ret (v := .tuple #[.agg #[.int .i64 0, .slice none 0 0, .slice none 0 0, .int .i64 0], .int .i64 0, .int .i64 3]) ?_ rfl ⟨none, 0, none, 0, rfl, bytes_nil _, bytes_nil _, ?_⟩
      · exact res_ref (t := 2) (u := 3) (x := 4) rfl _ _ _ _ _ _ _ _ (set4_first w _ _ _ _ _) _ rfl rfl rfl
      · exact set4_low w _ _ _ _ _
  · have h1i : (20 : Int) ≤ H := by omega
    have h2i : (N : Int) < H := by omega
    clear hf hH hN hlen hhd
    go_enter Try.func9, Try.ntmps9
    go_wp2_with fail
    go_quiet (fail)
    all_goals
      clear hw0 hw1 hw3
      go_wp2_with fail
      refine bodyPost_ret (v := .tuple #[.agg #[.int .i64 0, .slice none 0 0, .slice none 0 0, .int .i64 0], .int .i64 0, .int .i64 3]) ?_ rfl ⟨none, 0, none, 0, rfl, bytes_nil _, bytes_nil _, ?_⟩
      · exact res_ref (t := 2) (u := 3) (x := 4) rfl _ _ _ _ _ _ _ _ (set4_first w _ _ _ _ _) _ rfl rfl rfl
      · exact set4_low w _ _ _ _ _
theorem ref_4_long (l : List UInt8) (b off cp : Nat) (h0 : 0 < l.length) (hl : l.length ≤ 100000) (hcp : l.length ≤ cp) (hcm : cp ≤ maxLen) (w : World) (hc : ∀ i, i < l.length → w.cell? ⟨b, off + i, none⟩ = some (.int .u8 (l.getD i 0).toNat)) (hv : pkVer l = 4) (hs : 20 ≤ l.length) (hf : 20 ≤ pkHead l ∧ pkHead l ≤ pkLen4 l) (hg : l.length < pkLen4 l) : Calls Try.prog 9 #[.slice (some ⟨b, off, none⟩) l.length cp] w (RefRet w 0 0 0 4 [] []) := by
  have cb : (((w.alloc (.cells #[.int .i64 0, .slice none 0 0, .slice none 0 0, .int .i64 0] 25)).alloc (.cells #[.int .i64 0, .slice none 0 0, .slice none 0 0, .int .i64 0] 25))).cell? ⟨b, off, none⟩ = some (.int .u8 (l.getD 0 0).toNat) := cell_keep4 (by have := hc 0 h0; simpa using this) (two_below w); have h0i : (0 : Int) < l.length := (by omega); have hne : ((l.length : Int) == 0) = false := beqf (by omega); have hub := UInt8.toNat_lt (l.getD 0 0)
  have cb2 : (((w.alloc (.cells #[.int .i64 0, .slice none 0 0, .slice none 0 0, .int .i64 0] 25)).alloc (.cells #[.int .i64 0, .slice none 0 0, .slice none 0 0, .int .i64 0] 25))).cell? ⟨b, off + 2, none⟩ = some (.int .u8 (l.getD 2 0).toNat) := cell_keep4 (hc 2 (by omega)) (two_below w); have cb3 : (((w.alloc (.cells #[.int .i64 0, .slice none 0 0, .slice none 0 0, .int .i64 0] 25)).alloc (.cells #[.int .i64 0, .slice none 0 0, .slice none 0 0, .int .i64 0] 25))).cell? ⟨b, off + 3, none⟩ = some (.int .u8 (l.getD 3 0).toNat) := cell_keep4 (hc 3 (by omega)) (two_below w); have h2i : (2 : Int) < l.length := (by omega); have h3i : (3 : Int) < l.length := (by omega); have hub2 := UInt8.toNat_lt (l.getD 2 0); have hub3 := UInt8.toNat_lt (l.getD 3 0)
  have hver : ((l.getD 0 0).toNat : Int) / 16 = 4 := (by unfold pkVer at hv; omega); have hlen : pkLen4 l = 256 * (l.getD 2 0).toNat + (l.getD 3 0).toNat := rfl; have hhd : pkHead l = 4 * ((l.getD 0 0).toNat % 16) := rfl; generalize pkLen4 l = N at *; generalize pkHead l = H at *; generalize l.getD 0 0 = u at *; generalize l.getD 2 0 = u2 at *; generalize l.getD 3 0 = u3 at *; have hsi : (20 : Int) ≤ l.length := (by omega); have hN : 256 * (u2.toNat : Int) + u3.toNat = N := (by omega); have hH : 4 * ((u.toNat : Int) % 16) = H := (by omega); have hH2 : H ≤ 60 := (by omega); have hw0 : IntKind.i64.wrap (4 * ((u.toNat : Int) % 16)) = H := (by rw [wrap_i64 (4 * ((u.toNat : Int) % 16)) (by omega) (by omega)]; exact hH); have hw1 := wrap_i64 (256 * (u2.toNat : Int)) (by omega) (by omega); have hw3 : IntKind.i64.wrap (256 * (u2.toNat : Int) + u3.toNat) = N := (by rw [wrap_i64 (256 * (u2.toNat : Int) + u3.toNat) (by omega) (by omega)]; exact hN); clear hc hv
  have h1i : (20 : Int) ≤ H := by omega
  have h2i : (H : Int) ≤ N := by omega
  have h3i : (l.length : Int) < N := by omega
  by_cases h4 : l.length < H
  · have h4i : (l.length : Int) < H := by omega
    clear hf hH hN hlen hhd hg
    go_enter Try.func9, Try.ntmps9
    go_wp2_with fail
    go_quiet (fail)
    all_goals
      clear hw0 hw1 hw3
      go_wp2_with fail
      refine bodyPost_ret (v := .tuple #[.agg #[.int .i64 0, .slice none 0 0, .slice none 0 0, .int .i64 0], .int .i64 0, .int .i64 4]) ?_ rfl ⟨none, 0, none, 0, rfl, bytes_nil _, bytes_nil _, ?_⟩
      · exact res_ref (t := 2) (u := 3) (x := 4) rfl _ _ _ _ _ _ _ _ (set4_first w _ _ _ _ _) _ rfl rfl rfl
      · exact set4_low w _ _ _ _ _
  · have h4i : (H : Int) ≤ l.length := by omega
    clear hf hH hN hlen hhd hg
    go_enter Try.func9, Try.ntmps9
    go_wp2_with fail
    go_quiet (fail)
    all_goals
      clear hw0 hw1 hw3
      go_wp2_with fail
      refine bodyPost_ret (v := .tuple #[.agg #[.int .i64 0, .slice none 0 0, .slice none 0 0, .int .i64 0], .int .i64 0, .int .i64 4]) ?_ rfl ⟨none, 0, none, 0, rfl, bytes_nil _, bytes_nil _, ?_⟩
      · exact res_ref (t := 2) (u := 3) (x := 4) rfl _ _ _ _ _ _ _ _ (set4_first w _ _ _ _ _) _ rfl rfl rfl
      · exact set4_low w _ _ _ _ _
theorem ref_4_fine (l : List UInt8) (b off cp : Nat) (h0 : 0 < l.length) (hl : l.length ≤ 100000) (hcp : l.length ≤ cp) (hcm : cp ≤ maxLen) (w : World) (hc : ∀ i, i < l.length → w.cell? ⟨b, off + i, none⟩ = some (.int .u8 (l.getD i 0).toNat)) (hv : pkVer l = 4) (hs : 20 ≤ l.length) (hf : 20 ≤ pkHead l ∧ pkHead l ≤ pkLen4 l) (hg : pkLen4 l ≤ l.length) : Calls Try.prog 9 #[.slice (some ⟨b, off, none⟩) l.length cp] w (RefRet w 4 (pkLen4 l) (pkHead l) 0 (sub l 12 16) (sub l 16 20)) := by
  have hvw : Bytes w (.slice (some ⟨b, off, none⟩) l.length cp) l := ⟨_, _, rfl, .inr ⟨b, off, rfl, hc⟩⟩
  have hS : ∀ W, Below w.heap.size w W → ∀ c2, Bytes W (.slice (some ⟨b, off + 12, none⟩) 4 c2) (sub l 12 16) := fun W h c2 => bytes_sub (hvw.below h) (by omega) (by omega) rfl
  have hD : ∀ W, Below w.heap.size w W → ∀ c2, Bytes W (.slice (some ⟨b, off + 16, none⟩) 4 c2) (sub l 16 20) := fun W h c2 => bytes_sub (hvw.below h) (by omega) (by omega) rfl
  have hsl : (sub l 12 16).length = 4 := sub_len (by omega)
  have hdl : (sub l 16 20).length = 4 := sub_len (by omega)
  have cb : (((w.alloc (.cells #[.int .i64 0, .slice none 0 0, .slice none 0 0, .int .i64 0] 25)).alloc (.cells #[.int .i64 0, .slice none 0 0, .slice none 0 0, .int .i64 0] 25))).cell? ⟨b, off, none⟩ = some (.int .u8 (l.getD 0 0).toNat) := cell_keep4 (by have := hc 0 h0; simpa using this) (two_below w); have h0i : (0 : Int) < l.length := (by omega); have hne : ((l.length : Int) == 0) = false := beqf (by omega); have hub := UInt8.toNat_lt (l.getD 0 0)
  have cb2 : (((w.alloc (.cells #[.int .i64 0, .slice none 0 0, .slice none 0 0, .int .i64 0] 25)).alloc (.cells #[.int .i64 0, .slice none 0 0, .slice none 0 0, .int .i64 0] 25))).cell? ⟨b, off + 2, none⟩ = some (.int .u8 (l.getD 2 0).toNat) := cell_keep4 (hc 2 (by omega)) (two_below w); have cb3 : (((w.alloc (.cells #[.int .i64 0, .slice none 0 0, .slice none 0 0, .int .i64 0] 25)).alloc (.cells #[.int .i64 0, .slice none 0 0, .slice none 0 0, .int .i64 0] 25))).cell? ⟨b, off + 3, none⟩ = some (.int .u8 (l.getD 3 0).toNat) := cell_keep4 (hc 3 (by omega)) (two_below w); have h2i : (2 : Int) < l.length := (by omega); have h3i : (3 : Int) < l.length := (by omega); have hub2 := UInt8.toNat_lt (l.getD 2 0); have hub3 := UInt8.toNat_lt (l.getD 3 0)
  have hver : ((l.getD 0 0).toNat : Int) / 16 = 4 := (by unfold pkVer at hv; omega); have hlen : pkLen4 l = 256 * (l.getD 2 0).toNat + (l.getD 3 0).toNat := rfl; have hhd : pkHead l = 4 * ((l.getD 0 0).toNat % 16) := rfl; generalize pkLen4 l = N at *; generalize pkHead l = H at *; generalize l.getD 0 0 = u at *; generalize l.getD 2 0 = u2 at *; generalize l.getD 3 0 = u3 at *; have hsi : (20 : Int) ≤ l.length := (by omega); have hN : 256 * (u2.toNat : Int) + u3.toNat = N := (by omega); have hH : 4 * ((u.toNat : Int) % 16) = H := (by omega); have hH2 : H ≤ 60 := (by omega); have hw0 : IntKind.i64.wrap (4 * ((u.toNat : Int) % 16)) = H := (by rw [wrap_i64 (4 * ((u.toNat : Int) % 16)) (by omega) (by omega)]; exact hH); have hw1 := wrap_i64 (256 * (u2.toNat : Int)) (by omega) (by omega); have hw3 : IntKind.i64.wrap (256 * (u2.toNat : Int) + u3.toNat) = N := (by rw [wrap_i64 (256 * (u2.toNat : Int) + u3.toNat) (by omega) (by omega)]; exact hN); clear hc hv
  have h1i : (20 : Int) ≤ H := by omega
  have h2i : (H : Int) ≤ N := by omega
  have h3i : (N : Int) ≤ l.length := by omega
  have h4i : (H : Int) ≤ l.length := by omega
  have hci : (20 : Int) ≤ cp := by omega
  have hci2 : (16 : Int) ≤ cp := by omega
  have hz1 : ¬ cp = 12 := by omega
  have hz2 : ¬ cp = 16 := by omega
  clear hN hlen hH hhd
  have HS := Lib.hid hS
  have HD := Lib.hid hD
  have HSL := Lib.hid hsl
  have HDL := Lib.hid hdl
  clear hS hD hsl hdl hvw hf hg
  generalize sub l 12 16 = s at *
  generalize sub l 16 20 = d at *
  go_enter Try.func9, Try.ntmps9
  go_wp2_with fail
  go_quiet (fail)
  all_goals
    clear hw0 hw1 hw3
    go_wp2_with fail
    go_region_held3 (fun _ => True) (trivial) (fail)
    all_goals
      go_wp2_with fail
      refine bodyPost_ret (v := .tuple #[.agg #[.int .i64 4, .slice (some ⟨b, off + 12, none⟩) 4 (cp - 12), .slice (some ⟨b, off + 16, none⟩) 4 (cp - 16), .int .i64 N], .int .i64 H, .int .i64 0]) ?_ rfl ⟨some ⟨b, off + 12, none⟩, cp - 12, some ⟨b, off + 16, none⟩, cp - 16, ?_, ?_, ?_, ?_⟩
      · exact res_ref (t := 2) (u := 3) (x := 4) rfl _ _ _ _ _ _ _ _ (set4_first w _ _ _ _ _) _ rfl rfl rfl
      · rw [HSL.out, HDL.out]; rfl
      · rw [HSL.out]; exact HS.out _ (set4_low w _ _ _ _ _) _
      · rw [HDL.out]; exact HD.out _ (set4_low w _ _ _ _ _) _
      · exact set4_low w _ _ _ _ _
end Go.Proofs.Ytkhomjbggfjleaa
