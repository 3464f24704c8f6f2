/- Texts of this seat, merged: Tp19, Tp20, Tp21, Tp22. -/
import Derived.Test.YtlmmnjoincmgcaaGT12
namespace Go.Proofs.Ytlmmnjoincmgcaa
set_option linter.unusedVariables false
set_option linter.unusedSimpArgs false
set_option maxRecDepth 100000
open Go.RowKit Go.Shelf
theorem same_row {vs rs : List Rw} (h : vs.map Rw.key = rs.map Rw.key) {i : Nat} {r : Rw} (hr : vs[i]? = some r) : ∃ x, rs[i]? = some x ∧ x.adr = r.adr ∧ x.bits = r.bits ∧ x.own = r.own := by
  have h1 : (vs.map Rw.key)[i]? = some r.key := by simp [hr]
  rw [h] at h1
  simp only [List.getElem?_map, Option.map_eq_some_iff] at h1
  obtain ⟨x, hx, hk⟩ := h1
  exact ⟨x, hx, congrArg (fun k : Ky => k.1) hk, congrArg (fun k : Ky => k.2.1) hk, congrArg (fun k : Ky => k.2.2) hk⟩
theorem cellsF_at {rs : List Rw} : ∀ {i : Nat} {r : Rw}, rs[i]? = some r → (cellsF rs)[i * 2]? = some r.sl ∧ (cellsF rs)[i * 2 + 1]? = some (.int .i64 r.bits) := by
  induction rs with
  | nil => intro i r h; simp at h
  | cons x rs ih =>
    intro i r h
    have e : cellsF (x :: rs) = x.sl :: .int .i64 x.bits :: cellsF rs := by simp [cellsF]
    rw [e]
    cases i with
    | zero =>
      simp only [List.getElem?_cons_zero, Option.some.injEq] at h
      subst h
      exact ⟨rfl, rfl⟩
    | succ i =>
      obtain ⟨h1, h2⟩ := ih (i := i) (by simpa using h)
      have e1 : (i + 1) * 2 = i * 2 + 1 + 1 := by omega
      rw [e1]
      exact ⟨by simpa using h1, by simpa using h2⟩
theorem told_of {W : World} {B' : Nat} {v : Value} {rs vs : List Rw} (h : W.ownsRow B' 72 3 v rs.length (cellsR rs)) (ha : AdrOk W rs) (hk : vs.map Rw.key = rs.map Rw.key) : ∃ a cap, v = .slice a vs.length cap ∧ ToldAt W a vs := by
  have hl : vs.length = rs.length := by simpa using congrArg List.length hk
  rcases h.2 with ⟨hv, hn⟩ | ⟨g, cap, cur, hv, _⟩
  · refine ⟨none, 0, by rw [hv]; congr 1; omega, fun i r hr => ?_⟩
    have := (List.getElem?_eq_some_iff.1 hr).1
    omega
  · refine ⟨some ⟨g, 0, none⟩, cap, by rw [hv, hl], fun i r hr => ?_⟩
    obtain ⟨x, hx, e1, e2, e3⟩ := same_row hk hr
    obtain ⟨c0, c1, c2⟩ := cellsR_at hx
    have k0 := h.cells (g := g) (by rw [hv]; rfl) _ _ c0
    have k1 := h.cells (g := g) (by rw [hv]; rfl) _ _ c1
    have k2 := h.cells (g := g) (by rw [hv]; rfl) _ _ c2
    rw [add_at] at k0 k1 k2
    have hx2 := (ha x (List.mem_of_getElem? hx)).1
    unfold Rw.sl at k0 hx2
    rw [e1] at k0 hx2
    rw [e2] at k1
    rw [e3] at k2
    refine ⟨g, 0, x.ad, x.cp, rfl, ?_, hx2, ?_, ?_⟩
    · rw [Nat.mul_comm i 3]; exact k0
    · rw [Nat.mul_comm i 3, Nat.add_assoc]; exact k1
    · rw [Nat.mul_comm i 3, Nat.add_assoc]; exact k2
theorem of_of {W : World} {B' : Nat} {v : Value} {rs vs : List Rw} (h : W.ownsRow B' 29 2 v rs.length (cellsF rs)) (ha : AdrOk W rs) (hk : vs.map Rw.key = rs.map Rw.key) : ∃ a cap, v = .slice a vs.length cap ∧ OfAt W a vs := by
  have hl : vs.length = rs.length := by simpa using congrArg List.length hk
  rcases h.2 with ⟨hv, hn⟩ | ⟨g, cap, cur, hv, _⟩
  · refine ⟨none, 0, by rw [hv]; congr 1; omega, fun i r hr => ?_⟩
    have := (List.getElem?_eq_some_iff.1 hr).1
    omega
  · refine ⟨some ⟨g, 0, none⟩, cap, by rw [hv, hl], fun i r hr => ?_⟩
    obtain ⟨x, hx, e1, e2, e3⟩ := same_row hk hr
    obtain ⟨c0, c1⟩ := cellsF_at hx
    have k0 := h.cells (g := g) (by rw [hv]; rfl) _ _ c0
    have k1 := h.cells (g := g) (by rw [hv]; rfl) _ _ c1
    rw [add_at] at k0 k1
    have hx2 := (ha x (List.mem_of_getElem? hx)).1
    unfold Rw.sl at k0 hx2
    rw [e1] at k0 hx2
    rw [e2] at k1
    exact ⟨g, 0, x.ad, x.cp, rfl, k0, hx2, by rw [Nat.add_assoc]; exact k1⟩
theorem twalkR (w : World) (base B cB : Nat) (t o : Tr) (W : World) (h : Tab w base B 0 t o) (ht : t.Wf 4) (ho : o.Wf 16) (hl : t.rows.length + o.rows.length ≤ 1000) (hj : RowsJ w w.heap.size cB [] W) :
    Calls Try.prog 32 #[.pointer (some ⟨B, 0, none⟩), .func (.func 33) #[] #[.pointer (some ⟨cB, 0, none⟩)]] W fun e W' => (∃ v, e = .returned v) ∧ RowsJ w w.heap.size cB (t.rows ++ o.rows) W' := by
  have hbk := (hj.bel.1.block B (heap_lt h.blk)).trans h.blk
  have d0 := cell_of hbk 0 rfl
  have HBK : Hid (w.heap[B]? = some (.cells #[t.ptr, o.ptr] 53 (0, 0))) := Lib.hid h.blk
  have HJ := Lib.hid hj
  have HS := Lib.hid (fun W hj => nwalkR w base 4 cB (.inl rfl) t [] W h.here ht (by simp; omega) hj)
  have HO := Lib.hid (fun W hj => nwalkR w base 16 cB (.inr rfl) o ([] ++ t.rows) W h.oth ho (by simp; omega) hj)
  clear h ht ho hl hj hbk
  rw [List.nil_append] at HS HO
  generalize t.ptr = vt at *
  generalize o.ptr = vo at *
  generalize t.rows = Lt at *
  generalize o.rows = Lo at *
  go_enter Try.func32, Try.ntmps32
  go_wp2_with (first | (go_at_call 45; ((with_reducible refine (HS.out _ HJ.out).mono ?_); rintro e1 W1 ⟨⟨v1, rfl⟩, hj1⟩; have HJ1 := Lib.hid hj1; have hb1 := (hj1.bel.1.block B (heap_lt HBK.out)).trans HBK.out; have d1 := cell_of hb1 1 rfl; clear hj1 hb1)) | (go_at_call 45; ((with_reducible refine (HO.out _ HJ1.out).mono ?_); rintro e2 W2 ⟨⟨v2, rfl⟩, hj2⟩; have HJ2 := Lib.hid hj2; clear hj2)) | fail)
  go_end0
  exact ⟨⟨_, rfl⟩, HJ2.out⟩
theorem twalkO (w : World) (base B oB cB : Nat) (own : Int) (t o : Tr) (W : World) (h : Tab w base B 0 t o) (ht : t.Wf 4) (ho : o.Wf 16) (hl : t.rows.length + o.rows.length ≤ 1000) (hj : OfJ w w.heap.size oB cB own [] W) :
    Calls Try.prog 32 #[.pointer (some ⟨B, 0, none⟩), .func (.func 35) #[] #[.pointer (some ⟨oB, 0, none⟩), .pointer (some ⟨cB, 0, none⟩)]] W fun e W' => (∃ v, e = .returned v) ∧ OfJ w w.heap.size oB cB own (t.rows ++ o.rows) W' := by
  have hbk := (hj.bel.1.block B (heap_lt h.blk)).trans h.blk
  have d0 := cell_of hbk 0 rfl
  have HBK : Hid (w.heap[B]? = some (.cells #[t.ptr, o.ptr] 53 (0, 0))) := Lib.hid h.blk
  have HJ := Lib.hid hj
  have HS := Lib.hid (fun W hj => nwalkO w base 4 oB cB own (.inl rfl) t [] W h.here ht (by simp; omega) hj)
  have HO := Lib.hid (fun W hj => nwalkO w base 16 oB cB own (.inr rfl) o ([] ++ t.rows) W h.oth ho (by simp; omega) hj)
  clear h ht ho hl hj hbk
  rw [List.nil_append] at HS HO
  generalize t.ptr = vt at *
  generalize o.ptr = vo at *
  generalize t.rows = Lt at *
  generalize o.rows = Lo at *
  go_enter Try.func32, Try.ntmps32
  go_wp2_with (first | (go_at_call 45; ((with_reducible refine (HS.out _ HJ.out).mono ?_); rintro e1 W1 ⟨⟨v1, rfl⟩, hj1⟩; have HJ1 := Lib.hid hj1; have hb1 := (hj1.bel.1.block B (heap_lt HBK.out)).trans HBK.out; have d1 := cell_of hb1 1 rfl; clear hj1 hb1)) | (go_at_call 45; ((with_reducible refine (HO.out _ HJ1.out).mono ?_); rintro e2 W2 ⟨⟨v2, rfl⟩, hj2⟩; have HJ2 := Lib.hid hj2; clear hj2)) | fail)
  go_end0
  exact ⟨⟨_, rfl⟩, HJ2.out⟩
theorem twalk_nil (fv : Value) (w : World) : Calls Try.prog 32 #[.pointer none, fv] w fun e w' => (∃ v, e = .returned v) ∧ w' = w := by
  go_enter Try.func32, Try.ntmps32
  go_wp2_with fail
  refine bodyPost_ret (results_none rfl _ _ _) rfl ⟨⟨_, rfl⟩, rfl⟩
end Go.Proofs.Ytlmmnjoincmgcaa

namespace Go.Proofs.Ytlmmnjoincmgcaa
set_option linter.unusedVariables false
set_option linter.unusedSimpArgs false
set_option maxRecDepth 100000
open Go.RowKit Go.Shelf
theorem prows_any (base B : Nat) (vs : List Rw) (w : World) (h : TT w base B vs) (hv : vs.length ≤ 60) :
    Calls Try.prog 18 #[.pointer (some ⟨B, 0, none⟩)] w (RowsTold vs w) := by
  obtain ⟨t, o, h0, h1, h2, h3⟩ := h
  have hl : t.rows.length + o.rows.length ≤ 1000 := by
    have := congrArg List.length h3
    rw [List.length_map, List.length_append] at this
    omega
  obtain ⟨w1, hw1⟩ : ∃ w1, w1 = w.alloc (.cells #[.slice none 0 0] 46) := ⟨_, rfl⟩
  have hj : RowsJ w w.heap.size w.heap.size [] w1 := by
    rw [hw1]
    exact ⟨[], .slice none 0 0, rfl, ⟨heap_alloc_new w _, World.ownsRow_nil _ _ _ _, (fun r hr => by cases hr), below_one _, Nat.le_refl _⟩, by simp⟩
  have HW := Lib.hid (fun W hj => twalkR w base B w.heap.size t o W h0 h1 h2 hl hj)
  rw [← h3] at HW
  have HJ := Lib.hid hj
  clear h0 h1 h2 h3 hl hj
  go_enter Try.func18, Try.ntmps18
  go_wp2_with fail
  rw [← hw1]
  clear hw1
  go_wp2_with (first | (go_at_call 32; ((with_reducible refine (HW.out _ HJ.out).mono ?_); rintro e2 w2 ⟨⟨v2, rfl⟩, ⟨rs, v, hrs, hl2, hn2⟩⟩; have c0 := cell_of hl2.1 0 rfl; have HL := Lib.hid hl2; have HR := Lib.hid hrs; clear hl2 hrs hn2)) | fail)
  obtain ⟨a, cap, hv1, ht⟩ := told_of HL.out.2.1 HL.out.2.2.1 HR.out.symm
  have HV := Lib.hid hv1
  have HT := Lib.hid ht
  clear hv1 ht
  go_ret
  obtain rfl := HV.out
  exact ⟨a, cap, rfl, HT.out, HL.out.2.2.2.1⟩
theorem prows_nil (w : World) : Calls Try.prog 18 #[.pointer none] w fun e w' => (∃ a cap, e = .returned (.slice a 0 cap)) ∧ Below w.heap.size w w' := by
  obtain ⟨w1, hw1⟩ : ∃ w1, w1 = w.alloc (.cells #[.slice none 0 0] 46) := ⟨_, rfl⟩
  have hx : w1.heap[w.heap.size]? = some (.cells #[.slice none 0 0] 46 (0, 0)) := by rw [hw1]; exact heap_alloc_new w _
  have c0 := cell_of hx 0 rfl
  have HB : Hid (Below w.heap.size w w1) := Lib.hid (by rw [hw1]; exact below_one _)
  clear hx
  go_enter Try.func18, Try.ntmps18
  go_wp2_with fail
  rw [← hw1]
  clear hw1
  go_wp2_with (first | (go_at_call 32; ((with_reducible refine (twalk_nil _ _).mono ?_); rintro e2 w2 ⟨⟨v2, rfl⟩, rfl⟩)) | fail)
  go_ret
  exact ⟨⟨_, _, rfl⟩, HB.out⟩
theorem pof_any (base B : Nat) (vs : List Rw) (own : Int) (w : World) (h : TT w base B vs) (hv : vs.length ≤ 60) :
    Calls Try.prog 19 #[.pointer (some ⟨B, 0, none⟩), .int .i64 own] w (OfTold (ofV vs own) w) := by
  obtain ⟨t, o, h0, h1, h2, h3⟩ := h
  have hl : t.rows.length + o.rows.length ≤ 1000 := by
    have := congrArg List.length h3
    rw [List.length_map, List.length_append] at this
    omega
  obtain ⟨w0, hw0⟩ : ∃ w0, w0 = w.alloc (.cells #[.int .i64 own] 3) := ⟨_, rfl⟩
  obtain ⟨w1, hw1⟩ : ∃ w1, w1 = w0.alloc (.cells #[.slice none 0 0] 48) := ⟨_, rfl⟩
  have hs0 : w0.heap.size = w.heap.size + 1 := by rw [hw0]; simp
  have hx0 : w0.heap[w.heap.size]? = some (.cells #[.int .i64 own] 3 (0, 0)) := by rw [hw0]; exact heap_alloc_new w _
  have hj : OfJ w w.heap.size w.heap.size (w.heap.size + 1) own [] w1 := by
    rw [← hs0, hw1]
    refine ⟨[], .slice none 0 0, rfl, ⟨heap_alloc_new w0 _, World.ownsRow_nil _ _ _ _, (fun r hr => by cases hr), ?_, by omega⟩, by simp; omega, ((below_one _).block _ (heap_lt hx0)).trans hx0, by omega⟩
    rw [hw0]
    exact Below.next (below_one _) (below_one _)
  have HW := Lib.hid (fun W hj => twalkO w base B w.heap.size (w.heap.size + 1) own t o W h0 h1 h2 hl hj)
  rw [← h3] at HW
  have HJ := Lib.hid hj
  clear h0 h1 h2 h3 hl hj hx0 hs0
  go_enter Try.func19, Try.ntmps19
  go_wp2_with fail
  rw [← hw0, ← hw1]
  clear hw1 hw0
  go_wp2_with (first | (go_at_call 32; ((with_reducible refine (HW.out _ HJ.out).mono ?_); rintro e2 w2 ⟨⟨v2, rfl⟩, ⟨rs, v, hrs, hl2, hn2⟩⟩; have c0 := cell_of hl2.1 0 rfl; have HL := Lib.hid hl2; have HR := Lib.hid hrs; clear hl2 hrs hn2)) | fail)
  obtain ⟨a, cap, hv1, ht⟩ := of_of HL.out.2.1 HL.out.2.2.1 (vs := ofV vs own) (by rw [of_map]; exact HR.out.symm)
  have HV := Lib.hid hv1
  have HT := Lib.hid ht
  clear hv1 ht
  go_ret
  obtain rfl := HV.out
  exact ⟨a, cap, rfl, HT.out, HL.out.2.2.2.1⟩
theorem pof_nil (own : Int) (w : World) : Calls Try.prog 19 #[.pointer none, .int .i64 own] w fun e w' => e = .returned (.slice none 0 0) ∧ Below w.heap.size w w' := by
  obtain ⟨w0, hw0⟩ : ∃ w0, w0 = w.alloc (.cells #[.int .i64 own] 3) := ⟨_, rfl⟩
  obtain ⟨w1, hw1⟩ : ∃ w1, w1 = w0.alloc (.cells #[.slice none 0 0] 48) := ⟨_, rfl⟩
  have hs0 : w0.heap.size = w.heap.size + 1 := by rw [hw0]; simp
  have hx : w1.heap[w.heap.size + 1]? = some (.cells #[.slice none 0 0] 48 (0, 0)) := by rw [← hs0, hw1]; exact heap_alloc_new w0 _
  have c0 := cell_of hx 0 rfl
  have HB : Hid (Below w.heap.size w w1) := Lib.hid (by rw [hw1, hw0]; exact Below.next (below_one _) (below_one _))
  clear hx hs0
  go_enter Try.func19, Try.ntmps19
  go_wp2_with fail
  rw [← hw0, ← hw1]
  clear hw1 hw0
  go_wp2_with (first | (go_at_call 32; ((with_reducible refine (twalk_nil _ _).mono ?_); rintro e2 w2 ⟨⟨v2, rfl⟩, rfl⟩)) | fail)
  go_ret
  exact ⟨rfl, HB.out⟩
end Go.Proofs.Ytlmmnjoincmgcaa

namespace Go.Proofs.Ytlmmnjoincmgcaa
set_option linter.unusedVariables false
set_option linter.unusedSimpArgs false
set_option maxRecDepth 100000
open Go.RowKit Go.Shelf
theorem Keeps.trans {base : Nat} {a b c : World} (h : Keeps base a b) (h2 : Keeps base b c) : Keeps base a c := ⟨h.bel.trans h2.bel, fun k cur t fz h0 ht => h2.blk k cur t fz (h.blk k cur t fz h0 ht) ht⟩
/-- a list of prefixes in memory, with the rows it stands for -/
structure OfK (W : World) (a : Option Addr) (rs : List Rw) : Prop where
  typ : TypAt W a 29
  adr : AdrOk W rs
  at' : ∀ i r, rs[i]? = some r → ∃ g, a = some ⟨g, 0, none⟩ ∧ W.cell? ⟨g, i * 2, none⟩ = some r.sl ∧ W.cell? ⟨g, i * 2 + 1, none⟩ = some (.int .i64 r.bits)
theorem OfK.keeps {base : Nat} {w w' : World} {a : Option Addr} {rs : List Rw} (h : OfK w a rs) (hk : Keeps base w w') : OfK w' a rs := by
  refine ⟨h.typ.keeps hk (.inr (.inr rfl)), h.adr.keeps hk, fun i r hr => ?_⟩
  obtain ⟨g, rfl, h1, h2⟩ := h.at' i r hr
  exact ⟨g, rfl, (keeps_cell (x := none) h.typ hk (.inr (.inr rfl)) _).trans h1, (keeps_cell (x := none) h.typ hk (.inr (.inr rfl)) _).trans h2⟩
theorem ofk_of {W : World} {B' : Nat} {v : Value} {rs : List Rw} (h : W.ownsRow B' 29 2 v rs.length (cellsF rs)) (ha : AdrOk W rs) : ∃ a cap, v = .slice a rs.length cap ∧ OfK W a rs := by
  rcases h.2 with ⟨hv, hn⟩ | ⟨g, cap, cur, hv, _⟩
  · refine ⟨none, 0, by rw [hv]; congr 1; omega, ⟨(fun b off x e => by cases e), ha, fun i r hr => ?_⟩⟩
    have := (List.getElem?_eq_some_iff.1 hr).1
    omega
  · refine ⟨some ⟨g, 0, none⟩, cap, hv, ⟨fun b off x e => ?_, ha, fun i r hr => ?_⟩⟩
    · cases e
      obtain ⟨cur2, hc⟩ := own_typP h (j := g) (by rw [hv]; rfl)
      exact ⟨cur2, _, hc⟩
    · obtain ⟨c0, c1⟩ := cellsF_at hr
      have k0 := h.cells (g := g) (by rw [hv]; rfl) _ _ c0
      have k1 := h.cells (g := g) (by rw [hv]; rfl) _ _ c1
      rw [add_at, Nat.zero_add] at k0 k1
      exact ⟨g, rfl, k0, k1⟩
theorem pof_full (base B : Nat) (vs : List Rw) (own : Int) (w : World) (h : TT w base B vs) (hv : vs.length ≤ 60) :
    Calls Try.prog 19 #[.pointer (some ⟨B, 0, none⟩), .int .i64 own] w fun e w' => ∃ rs a cap, e = .returned (.slice a rs.length cap) ∧ rs.map Rw.key = (ofV vs own).map Rw.key ∧ OfK w' a rs ∧ Below w.heap.size w w' := by
  obtain ⟨t, o, h0, h1, h2, h3⟩ := h
  have hl : t.rows.length + o.rows.length ≤ 1000 := by
    have := congrArg List.length h3
    rw [List.length_map, List.length_append] at this
    omega
  obtain ⟨w0, hw0⟩ : ∃ w0, w0 = w.alloc (.cells #[.int .i64 own] 3) := ⟨_, rfl⟩
  obtain ⟨w1, hw1⟩ : ∃ w1, w1 = w0.alloc (.cells #[.slice none 0 0] 48) := ⟨_, rfl⟩
  have hs0 : w0.heap.size = w.heap.size + 1 := by rw [hw0]; simp
  have hx0 : w0.heap[w.heap.size]? = some (.cells #[.int .i64 own] 3 (0, 0)) := by rw [hw0]; exact heap_alloc_new w _
  have hj : OfJ w w.heap.size w.heap.size (w.heap.size + 1) own [] w1 := by
    rw [← hs0, hw1]
    refine ⟨[], .slice none 0 0, rfl, ⟨heap_alloc_new w0 _, World.ownsRow_nil _ _ _ _, (fun r hr => by cases hr), ?_, by omega⟩, by simp; omega, ((below_one _).block _ (heap_lt hx0)).trans hx0, by omega⟩
    rw [hw0]
    exact Below.next (below_one _) (below_one _)
  have HW := Lib.hid (fun W hj => twalkO w base B w.heap.size (w.heap.size + 1) own t o W h0 h1 h2 hl hj)
  rw [← h3] at HW
  have HJ := Lib.hid hj
  clear h0 h1 h2 h3 hl hj hx0 hs0
  go_enter Try.func19, Try.ntmps19
  go_wp2_with fail
  rw [← hw0, ← hw1]
  clear hw1 hw0
  go_wp2_with (first | (go_at_call 32; ((with_reducible refine (HW.out _ HJ.out).mono ?_); rintro e2 w2 ⟨⟨v2, rfl⟩, ⟨rs, v, hrs, hl2, hn2⟩⟩; have c0 := cell_of hl2.1 0 rfl; have HL := Lib.hid hl2; have HR := Lib.hid hrs; clear hl2 hrs hn2)) | fail)
  obtain ⟨a, cap, hv1, ht⟩ := ofk_of HL.out.2.1 HL.out.2.2.1
  have HV := Lib.hid hv1
  have HT := Lib.hid ht
  clear hv1 ht
  go_ret
  obtain rfl := HV.out
  exact ⟨rs, a, cap, rfl, by rw [of_map]; exact HR.out, HT.out, HL.out.2.2.2.1⟩
theorem srt_same {vs : List Rw} (h : Srt vs) {y z : Ky} (hy : y ∈ vs.map Rw.key) (hz : z ∈ vs.map Rw.key) (hs : SameK z y.1 y.2.1) : z = y := by
  induction vs with
  | nil => cases hy
  | cons r vs ih =>
    obtain ⟨h1, h2⟩ := srt_cons.1 h
    rcases List.mem_cons.1 hy with rfl | hy
    · rcases List.mem_cons.1 hz with rfl | hz
      · rfl
      · exact absurd ⟨hs.1.symm, hs.2.symm⟩ (ltK_ne (h1 _ hz))
    · rcases List.mem_cons.1 hz with rfl | hz
      · exact absurd hs (ltK_ne (h1 _ hy))
      · exact ih h2 hy hz
/-- what a table's rows are like -/
theorem TT.right {w : World} {base B : Nat} {vs : List Rw} (h : TT w base B vs) {z : Ky} (hz : z ∈ vs.map Rw.key) : rightP z.1.length z.2.1 = true ∧ plainS z.1 z.2.1.toNat = z.1 ∧ 0 ≤ z.2.2 := by
  obtain ⟨t, o, _, h1, h2, h3⟩ := h
  rw [h3] at hz
  have key : ∀ s, (s = 4 ∨ s = 16) → (z.1.length = s ∧ 0 ≤ z.2.2 ∧ ∃ m : Nat, z.2.1 = m ∧ m ≤ 8 * s ∧ plainS z.1 m = z.1) → rightP z.1.length z.2.1 = true ∧ plainS z.1 z.2.1.toNat = z.1 ∧ 0 ≤ z.2.2 := by
    rintro s hs ⟨e1, e2, m, e3, e4, e5⟩
    rw [e3]
    exact ⟨rightP_nat.2 ⟨by omega, by omega⟩, by rw [Int.toNat_natCast]; exact e5, e2⟩
  rcases List.mem_append.1 hz with hz | hz
  · exact key 4 (.inl rfl) (rows_wf h1 z hz)
  · exact key 16 (.inr rfl) (rows_wf h2 z hz)
theorem TT.same {w : World} {base B : Nat} {vs us : List Rw} (h : TT w base B vs) (he : us.map Rw.key = vs.map Rw.key) : TT w base B us := by
  obtain ⟨t, o, h0, h1, h2, h3⟩ := h
  exact ⟨t, o, h0, h1, h2, he.trans h3⟩
/-- k of the owner's prefixes are gone -/
structure DropI (w : World) (base B : Nat) (vs rs : List Rw) (a : Option Addr) (k : Nat) (W : World) : Prop where
  tab : ∃ us, TT W base B us ∧ ∀ z, z ∈ us.map Rw.key ↔ z ∈ vs.map Rw.key ∧ ∀ r ∈ rs.take k, ¬ SameK z r.adr r.bits
  of' : OfK W a rs
  kp : Keeps base w W
theorem DropI.done {w W : World} {base B : Nat} {vs rs : List Rw} {a : Option Addr} {own : Int} (h : DropI w base B vs rs a rs.length W) (hs : Srt vs) (hr : rs.map Rw.key = (ofV vs own).map Rw.key) : TT W base B (dropV vs own) := by
  obtain ⟨us, ht, hm⟩ := h.tab
  refine ht.same (srt_ext (drop_srt hs own) ht.srt fun z => ?_)
  rw [hm z, List.take_length, drop_map, List.mem_filter]
  have key : ∀ r ∈ rs, r.key ∈ vs.map Rw.key ∧ r.own = own := by
    intro r hr2
    have h2 : r.key ∈ (ofV vs own).map Rw.key := by rw [← hr]; exact List.mem_map_of_mem hr2
    rw [of_map, List.mem_filter] at h2
    exact ⟨h2.1, by simpa [Rw.key] using h2.2⟩
  constructor
  · rintro ⟨hz, ho⟩
    refine ⟨hz, fun r hr2 hs2 => ?_⟩
    obtain ⟨k1, k2⟩ := key r hr2
    have := srt_same hs k1 hz hs2
    rw [this] at ho
    simp [Rw.key, k2] at ho
  · rintro ⟨hz, hn⟩
    refine ⟨hz, ?_⟩
    by_cases ho : z.2.2 = own
    · have h2 : z ∈ rs.map Rw.key := by rw [hr, of_map, List.mem_filter]; exact ⟨hz, by simp [ho]⟩
      obtain ⟨r, hr2, rfl⟩ := List.mem_map.1 h2
      exact absurd ⟨rfl, rfl⟩ (hn r hr2)
    · simp [ho]
theorem DropI.next {w W W' : World} {base B : Nat} {vs rs us : List Rw} {a : Option Addr} {k : Nat} {r : Rw} (h : DropI w base B vs rs a k W) (hu : TT W base B us) (hm : ∀ z, z ∈ us.map Rw.key ↔ z ∈ vs.map Rw.key ∧ ∀ r ∈ rs.take k, ¬ SameK z r.adr r.bits) (hr : rs[k]? = some r) (ht : TT W' base B (delV us r.adr r.bits).1) (hk : Keeps base W W') : DropI w base B vs rs a (k + 1) W' := by
  refine ⟨⟨_, ht, fun z => ?_⟩, h.of'.keeps hk, h.kp.trans hk⟩
  have hlt := (List.getElem?_eq_some_iff.1 hr).1
  have e : rs[k] = r := (List.getElem?_eq_some_iff.1 hr).2
  rw [del_mem hu.srt, hm z, List.take_succ_eq_append_getElem hlt, e]
  simp only [List.mem_append, List.mem_singleton]
  constructor
  · rintro ⟨⟨h1, h2⟩, h3⟩
    refine ⟨h1, fun x hx => ?_⟩
    rcases hx with hx | rfl
    · exact h2 x hx
    · exact h3
  · rintro ⟨h1, h2⟩
    exact ⟨⟨h1, fun x hx => h2 x (.inl hx)⟩, h2 r (.inr rfl)⟩
theorem of_len60 {rs vs : List Rw} {own : Int} (h : rs.map Rw.key = (ofV vs own).map Rw.key) (hv : vs.length ≤ 60) : (rs.length : Int) ≤ 60 := by
  have h2 := drop_of vs own
  have h3 := congrArg List.length h
  rw [List.length_map, List.length_map] at h3
  omega
set_option maxHeartbeats 2000000 in
theorem pdrop_any (base B : Nat) (vs : List Rw) (own : Int) (w : World) (h : TT w base B vs) (hv : vs.length ≤ 60) :
    Calls Try.prog 14 #[.pointer (some ⟨B, 0, none⟩), .int .i64 own] w fun e w' => e = .returned (.int .i64 ((vs.length : Int) - (dropV vs own).length)) ∧ TT w' base B (dropV vs own) ∧ Keeps base w w' := by
  have HOF := Lib.hid (pof_full base B vs own w h hv)
  have HT := Lib.hid h
  have HV := Lib.hid hv
  clear h hv
  go_enter Try.func14, Try.ntmps14
  go_wp2_with (first | (go_at_call 19; ((with_reducible refine HOF.out.mono ?_); rintro e2 w2 ⟨rs, a, cap, rfl, hrs, hof, hb⟩; have HRS := Lib.hid hrs; have hl0 : (rs.length : Int) ≤ 60 := (of_len60 hrs HV.out); have HI : Hid (DropI w base B vs rs a 0 w2) := Lib.hid ⟨⟨vs, HT.out.below hb, fun z => by simp⟩, hof, (Kp.below hb HT.out.size).keeps⟩; clear hrs hof hb)) | fail)
  go_loopw [13] (fun i wr => ∃ k : Nat, i = .int .i64 k ∧ k ≤ rs.length ∧ DropI w base B vs rs a k wr) (fun i _ => rs.length - (intOf i).toNat)
  case atStart => exact ⟨0, rfl, Nat.zero_le _, HI.out⟩
  case round =>
    obtain ⟨k, rfl, hk, hi⟩ := hrel
    have HII := Lib.hid hi
    clear hi
    by_cases hlt : k < rs.length
    · obtain ⟨r, hr⟩ : ∃ r, rs[k]? = some r := ⟨rs[k], List.getElem?_eq_getElem hlt⟩
      obtain ⟨g, rfl, q0, q1⟩ := HII.out.of'.at' k r hr
      unfold Rw.sl at q0
      have hk0 : (0 : Int) ≤ k := by omega
      have hk1 : (k : Int) < rs.length := by omega
      have hrr : r.key ∈ vs.map Rw.key := by
        have h2 : r.key ∈ (ofV vs own).map Rw.key := by rw [← HRS.out]; exact List.mem_map_of_mem (List.mem_of_getElem? hr)
        rw [of_map, List.mem_filter] at h2
        exact h2.1
      obtain ⟨hr1, hr2, _⟩ := HT.out.right hrr
      have hr3 : rightP r.adr.length r.bits = true := hr1
      have hr4 : plainS r.adr r.bits.toNat = r.adr := hr2
      have hrl := right_len hr3
      obtain ⟨us, hus, hm⟩ := HII.out.tab
      have hby := (HII.out.of'.adr r (List.mem_of_getElem? hr)).1
      unfold Rw.sl at hby
      have HDL : Hid (∀ W', Below wr.heap.size wr W' → Calls Try.prog 12 #[.pointer (some ⟨B, 0, none⟩), .agg #[.slice r.ad r.adr.length r.cp, .int .i64 r.bits]] W' fun e w' => (∃ v, e = .returned v) ∧ DropI w base B vs rs (some ⟨g, 0, none⟩) (k + 1) w') := Lib.hid (fun W' hb => by
        refine (pdel_any base B us r.ad r.cp r.adr r.bits W' (hus.below hb) (hby.below hb) (by omega) hr3).mono ?_
        rintro e w' ⟨rfl, h1, h2⟩
        rw [hr4] at h1
        exact ⟨⟨_, rfl⟩, HII.out.next hus hm hr h1 ((Kp.below hb hus.size).keeps.trans h2)⟩)
      have HLT := Lib.hid hlt
      have HCB : Hid (Below wr.heap.size wr (wr.alloc (.cells #[.slice r.ad r.adr.length r.cp, .int .i64 r.bits] 29))) := Lib.hid (below_one _)
      have hx := heap_alloc_new wr (.cells #[.slice r.ad r.adr.length r.cp, .int .i64 r.bits] 29)
      have x0 := cell_of hx 0 rfl
      have x1 := cell_of hx 1 rfl
      clear hr hlt hrr hr1 hr2 hr3 hr4 hrl hus hm hby hx
      go_wp2_with (first | (go_at_call 12; ((with_reducible refine (HDL.out _ HCB.out).mono ?_); rintro e3 w3 ⟨⟨v3, rfl⟩, hi3⟩; have HI3 := Lib.hid hi3; clear hi3)) | fail)
      go_roundw
      case rel => exact ⟨k + 1, by go_num, HLT.out, HI3.out⟩
      case measure => simp [intOf]; omega
    · obtain rfl : k = rs.length := by omega
      go_wp2_with fail
      go_ret
      have h1 := HII.out.done HT.out.srt HRS.out
      have h2 := drop_of vs own
      have h3 := congrArg List.length HRS.out
      rw [List.length_map, List.length_map] at h3
      have h4 : (vs.length : Int) - (dropV vs own).length = rs.length := by omega
      rw [h4]
      exact ⟨rfl, h1, HII.out.kp⟩
theorem pdrop_nil (own : Int) (w : World) :
    Calls Try.prog 14 #[.pointer none, .int .i64 own] w fun e w' => e = .returned (.int .i64 0) ∧ Below w.heap.size w w' := by
  go_enter Try.func14, Try.ntmps14
  go_wp2_with (first | (go_at_call 19; ((with_reducible refine (pof_nil _ _).mono ?_); rintro e2 w2 ⟨rfl, hb⟩; have HB := Lib.hid hb; clear hb)) | fail)
  go_loopw [13] (fun i wr => i = .int .i64 0 ∧ wr = w2) (fun i _ => 0)
  case atStart => exact ⟨rfl, rfl⟩
  case round =>
    obtain ⟨rfl, rfl⟩ := hrel
    go_wp2_with fail
    go_ret
    exact ⟨rfl, HB.out⟩
end Go.Proofs.Ytlmmnjoincmgcaa

namespace Go.Proofs.Ytlmmnjoincmgcaa
set_option linter.unusedVariables false
set_option linter.unusedSimpArgs false
set_option maxRecDepth 100000
open Go.RowKit Go.Shelf
theorem powner_pick (base B : Nat) (vs : List Rw) (v : Value) (A : List UInt8) (w : World) (h : TT w base B vs) (ha : Bytes w v A) (hal : A.length ≤ 40) :
    Calls Try.prog 15 #[.pointer (some ⟨B, 0, none⟩), v] w (OwnerRet (ownerV vs A) w) := by
  obtain ⟨ad, cp, rfl, h2⟩ := ha
  have hb : Bytes w (.slice ad A.length cp) A := ⟨ad, cp, rfl, h2⟩
  by_cases h4 : A.length = 4 ∨ A.length = 16
  · obtain ⟨d, t, o, hp⟩ := h.pick h4
    refine powner_any base B d t o A ad cp w hp.tab hp.wf hp.ds hb _ fun fs e hwy y hy => ?_
    have hon := way_on A (8 * A.length) t [] (fun f hf => by simp at hf)
    have hfl := way_fill A (8 * A.length) t []
    have hend := way_end A (8 * A.length) t []
    rw [hwy] at hon hfl hend
    have hfl2 : fill fs e = t := hfl
    refine owner_way rfl h4 hon hend (by rw [hfl2]; exact hp.wf) (fun z hz => ?_) hy
    rw [hp.mem z, hfl2]
    constructor
    · rintro (hz2 | hz2)
      · exact hz2
      · exact absurd hz (hp.other hz2)
    · exact .inl
  · rw [owner_none (A := A) fun z hz => ?_]
    · exact powner_no B ad A.length cp w (by omega) (fun e => h4 (.inl e)) (fun e => h4 (.inr e))
    · cases hh : hasP z.1 z.2.1 A with
      | false => rfl
      | true =>
        obtain ⟨h5, _⟩ := h.right hz
        have h6 := right_len h5
        unfold hasP at hh
        simp only [Bool.and_eq_true, beq_iff_eq] at hh
        have h7 := hh.2.1
        omega
theorem pdelNo_any (base B : Nat) (vs : List Rw) (ad : Option Addr) (cp : Nat) (adr : List UInt8) (bits : Int) (w : World) (h : TT w base B vs) (ha : Bytes w (.slice ad adr.length cp) adr) (hal : adr.length ≤ 40) (hr : rightP adr.length bits = false) :
    Calls Try.prog 12 #[.pointer (some ⟨B, 0, none⟩), .agg #[.slice ad adr.length cp, .int .i64 bits]] w fun e w' => e = .returned (.bool false) ∧ TT w' base B vs ∧ Keeps base w w' :=
  (pdel_no _ (.inr ⟨B, rfl⟩) ad cp adr bits w ha hal hr).mono fun e w' ⟨h1, h2⟩ => ⟨h1, h.below h2, (Kp.below h2 h.size).keeps⟩
theorem trieC : TrieC TT where
  below := fun w w' base B vs h hb => h.below hb
  new := pnew_any
  putNo := fun w base B vs ad cp adr bits own h _ ha hal hr => pput_no base B vs ad cp adr bits own w h ha hal hr
  putArg := fun w base B vs ad cp adr bits own h _ ha hal hr ho => pput_arg base B vs ad cp adr bits own w h ha hal hr ho
  put := fun w base B vs ad cp adr bits own h _ ha hal hr ho => pput_any base B vs ad cp adr bits own w h ha hal hr ho
  delNo := fun w base B vs ad cp adr bits h _ ha hal hr => pdelNo_any base B vs ad cp adr bits w h ha hal hr
  del := fun w base B vs ad cp adr bits h _ ha hal hr => pdel_any base B vs ad cp adr bits w h ha hal hr
  drop := fun w base B vs own h hv => pdrop_any base B vs own w h hv
  owner := fun w base B vs v A h _ ha hal => powner_pick base B vs v A w h ha hal
  rows := fun w base B vs h hv => prows_any base B vs w h hv
  of := fun w base B vs own h hv => pof_any base B vs own w h hv
theorem trieN : TrieN where
  put := fun w ad n cp bits own _ => pput_nil ad n cp bits own w
  del := fun w ad cp adr bits ha hal => pdel_nil ad cp adr bits w ha hal
  drop := fun w own => pdrop_nil own w
  owner := fun w ad n cp _ => powner_nil ad n cp w
  rows := prows_nil
  of := fun w own => (pof_nil own w).mono fun e w' ⟨h1, h2⟩ => ⟨⟨_, _, h1⟩, h2⟩
end Go.Proofs.Ytlmmnjoincmgcaa
