import Derived.Test.YtbaceiohcbhpaaaDoorNum6
import Derived.Deep.RegionHeld3
import Derived.Deep.AppendLies
import Derived.Deep.DrawnRows
namespace Go.Proofs.YtbaceiohcbhpaaaDoor
set_option linter.unusedVariables false
set_option linter.unusedSimpArgs false
set_option maxRecDepth 100000
open Go.RowKit
attribute [local go_sem ↓] Go.wp_at_zero Go.wp_at_succ

/-- A slice that reads as the bytes l. -/
def Bytes (w : World) (v : Value) (l : List UInt8) : Prop :=
  ∃ a cap, v = .slice a l.length cap ∧ (l = [] ∨ ∃ b off, a = some ⟨b, off, none⟩ ∧ ∀ i, i < l.length → w.cell? ⟨b, off + i, none⟩ = some (.int .u8 (l.getD i 0).toNat))

theorem Bytes.below {w w' : World} {v : Value} {l : List UInt8} (h : Bytes w v l) (hb : Below w.heap.size w w') : Bytes w' v l := by
  obtain ⟨a, cap, hv, h⟩ := h
  refine ⟨a, cap, hv, ?_⟩
  rcases h with h | ⟨b, off, ha, hc⟩
  · exact .inl h
  · exact .inr ⟨b, off, ha, fun i hi => (hb.cell (p := ⟨b, off + i, none⟩) (World.block_lt_of_cell? w _ (hc i hi))).trans (hc i hi)⟩

theorem Tryd.info5 : (Tryd.prog.info? 5).map (fun i => (i.zero, i.size, i.bytes)) = some (some (.int .u8 0), 1, 1) := by kernel_rfl

def cellsOf (l : List UInt8) : List Value := l.map fun b => Value.int .u8 b.toNat

theorem hex_round (u : UInt8) : u.toNat / 16 < 16 ∧ u.toNat % 16 < 16 := by have := UInt8.toNat_lt u; omega

theorem and15 (u : UInt8) : bits BinOp.and IntKind.u8 (u.toNat : Int) 15 = (u.toNat : Int) % 16 := by
  have key : ∀ i : Fin 256, bits BinOp.and IntKind.u8 (i.val : Int) 15 = (i.val : Int) % 16 := by decide +kernel
  exact key ⟨u.toNat, UInt8.toNat_lt u⟩

theorem hexdigit_int (i : Int) (j : Nat) (hj : j < 16) (e : i = j) (h : i.toNat < (⟨#[48, 49, 50, 51, 52, 53, 54, 55, 56, 57, 97, 98, 99, 100, 101, 102]⟩ : ByteArray).size) : ((⟨#[48, 49, 50, 51, 52, 53, 54, 55, 56, 57, 97, 98, 99, 100, 101, 102]⟩ : ByteArray)[i.toNat]'h).toNat = (hexD j).toNat := by
  subst e
  exact hexdigit_at j hj h

theorem hex_rel {l : List UInt8} {k : Nat} {u : UInt8} {w wr w1 : World} {o : Obj} {v v' : Value} {n : Nat} (hlt : k < l.length) (hu : u = l.getD k 0) (hB : Below w.heap.size w wr)
    (ho : ∀ g, v.ownBlock = some g → w.heap.size ≤ g)
    (h : w1.ownsRow w.heap.size 5 1 v' n (cellsOf (hexOf (l.take k)) ++ cellsOf (hexB u))) (hg : (wr.alloc o).drew.grownBy w1 v.ownBlock) :
    w1.ownsRow w.heap.size 5 1 v' n (cellsOf (hexOf (l.take (k + 1)))) ∧ Below w.heap.size w w1 := by
  refine ⟨?_, ((hB.alloc hB.size o).drew).grown hg (by have := hB.size; show w.heap.size ≤ (wr.alloc o).heap.size; simp; omega) (fun g hg => ho g hg)⟩
  have e : cellsOf (hexOf (l.take (k + 1))) = cellsOf (hexOf (l.take k)) ++ cellsOf (hexB u) := by
    rw [List.take_succ_eq_append_getElem hlt, hexOf_snoc, hu]
    simp [cellsOf, List.getD, List.getElem?_eq_getElem hlt]
  rw [e]; exact h

/-- What an owned row of bytes is as a text. -/
theorem hex_end {w : World} {base : Nat} {v : Value} {L : List UInt8} (h : w.ownsRow base 5 1 v L.length (cellsOf L)) :
    (v = .slice none 0 0 ∧ L = []) ∨ ∃ g cap, v = .slice (some ⟨g, 0, none⟩) L.length cap ∧ (convert 23 9 (.slice (some ⟨g, 0, none⟩) L.length cap)).run Tryd.prog w = .ok (.string ⟨L.toArray⟩) w := by
  rcases h.2 with ⟨hv, hn⟩ | ⟨g, cap, cur, hv, _⟩
  · exact .inl ⟨hv, List.length_eq_zero_iff.mp hn⟩
  · refine .inr ⟨g, cap, hv, ?_⟩
    refine run_convert_bytes_back _ _ _ _ _ _ L Tryd.underlying23 Tryd.underlying5 Tryd.underlying9 fun j hj => ?_
    refine h.cells (g := g) (by rw [hv]; rfl) j _ ?_
    simp [cellsOf, List.getElem?_eq_getElem hj]

theorem hex_any (v : Value) (l : List UInt8) (w : World) (hv : Bytes w v l) (hlen : l.length ≤ 1000000) :
    Calls Tryd.prog 29 #[v] w fun e w' => e = .returned (.string ⟨(hexOf l).toArray⟩) ∧ Below w.heap.size w w' := by
  obtain ⟨a, cap, rfl, hv⟩ := hv
  obtain ⟨i0, hi0, hz0, hz1, hz2⟩ := info_parts Tryd.info5
  go_enter Tryd.func29, Tryd.ntmps29
  go_wp2_with fail
  refine wp_scope_goto 0 (fun n a' w' => ∃ (v : Value) (k : Nat), ∃ (u1 u5 u6 u7 u8 u9 u10 u11 u12 u13 u14 u15 u16 u17 u18 u19 u20 u21 u22 u23 u24 u25 u26 u27 : Value), a' = { tmps := #[.slice a l.length cap, u1, .string ⟨#[]⟩, v, .int .i64 k, u5, u6, u7, u8, u9, u10, u11, u12, u13, u14, u15, u16, u17, u18, u19, u20, u21, u22, u23, u24, u25, u26, u27], defers := [] } ∧ k ≤ l.length ∧ n = l.length - k ∧ w'.ownsRow w.heap.size 5 1 v (2 * k) (cellsOf (hexOf (l.take k))) ∧ Below w.heap.size w w') rfl ?_ ?_
  · intro R hpass hout
    go_wp2
    go_step3
    go_step
    go_step
    exact hpass _ _ _ ⟨_, 0, _, _, _, _, _, _, _, _, _, _, _, _, _, _, _, _, _, _, _, _, _, _, _, _, rfl, by omega, rfl, World.ownsRow_nil _ _ _ _, Below.refl _ _⟩
  · intro n a' wr hrel J hJ
    obtain ⟨v, k, u1, u5, u6, u7, u8, u9, u10, u11, u12, u13, u14, u15, u16, u17, u18, u19, u20, u21, u22, u23, u24, u25, u26, u27, rfl, hk, rfl, hown, hbel⟩ := hrel
    by_cases hlt : k < l.length
    · obtain ⟨b, off, rfl, hc⟩ : ∃ b off, a = some ⟨b, off, none⟩ ∧ ∀ i, i < l.length → w.cell? ⟨b, off + i, none⟩ = some (.int .u8 (l.getD i 0).toNat) := by
        rcases hv with rfl | h
        · exact absurd hlt (by simp)
        · exact h
      obtain ⟨u, hu⟩ : ∃ u, u = l.getD k 0 := ⟨_, rfl⟩
      have hbw : wr.heap.size ≥ w.heap.size := hbel.size
      have HF : Hid (some b ≠ v.ownBlock) := Lib.hid (fun h => by have := (hown.lt b h.symm).1; have := World.block_lt_of_cell? w _ (hc k hlt); simp at this; omega)
      have hbl := World.block_lt_of_cell? w _ (hc k hlt)
      have hcell : wr.cell? ⟨b, off + k, none⟩ = some (.int .u8 u.toNat) := by rw [hu]; exact (hbel.cell (p := ⟨b, off + k, none⟩) hbl).trans (hc k hlt)
      have HU := Lib.hid hu
      have HO := Lib.hid hown
      have HB := Lib.hid hbel
      clear hu hown hbel hc hv
      have hk0 : (0 : Int) ≤ (k : Int) := Int.natCast_nonneg _
      have hk1 : (k : Int) < (l.length : Int) := by omega
      have hub := UInt8.toNat_lt u
      have hx1 : (0 : Int) ≤ (u.toNat : Int) / 16 := by omega
      have hx2 : (u.toNat : Int) / 16 < 16 := by omega
      have hx3 : (0 : Int) ≤ (u.toNat : Int) % 16 := by omega
      have hx4 : (u.toNat : Int) % 16 < 16 := by omega
      have hand := and15 u
      have hiA : ∀ h, ((⟨#[48, 49, 50, 51, 52, 53, 54, 55, 56, 57, 97, 98, 99, 100, 101, 102]⟩ : ByteArray)[((u.toNat : Int) / 16).toNat]'h).toNat = (hexD (u.toNat / 16)).toNat := fun h => hexdigit_int _ _ (by omega) (by omega) h
      have hiB : ∀ h, ((⟨#[48, 49, 50, 51, 52, 53, 54, 55, 56, 57, 97, 98, 99, 100, 101, 102]⟩ : ByteArray)[((u.toNat : Int) % 16).toNat]'h).toNat = (hexD (u.toNat % 16)).toNat := fun h => hexdigit_int _ _ (by omega) (by omega) h
      go_wp2_with fail
      go_region_held3 (fun w' => w'.cell? ⟨b, off + k, none⟩ = some (.int .u8 u.toNat)) (first | go_keep | (rw [hgrow.cell_far ⟨b, off + k, none⟩ (by simp; omega) HF.out]; go_keep))
        ((refine step_append_lies _ (by rfl) _ _ _ (by rfl) w.heap.size 5 i0 _ 1 1 Tryd.underlying23 hi0 hz0 hz1 hz2 rfl (by omega) v (2 * k) _ (by rfl) ((HO.out.alloc _).drew) ⟨wr.heap.size, 0, none⟩ 2 2 (cellsOf (hexB u)) (by rfl) (by rfl) (World.news_of_block (cs := #[.int .u8 (hexD (u.toNat / 16)).toNat, .int .u8 (hexD (u.toNat % 16)).toNat]) (t := 5) (fr := (0, 0)) (heap_alloc_new wr _)) (by simp [cellsOf, hexB, Value.oneCell']) (by omega) (by unfold maxLen; omega) (by omega) (by have := HB.out.size; simp; omega) (wr.heap.size + 1) (by simp) ?_; intro gg cp w1 hown1 hgrow hat hlt1))
      all_goals
        have R := hex_rel hlt HU.out HB.out (fun g hg => (HO.out.lt g hg).1) hown1 hgrow
        clear hown1 hgrow
        go_wp2_with fail
        first | go_step3 | skip
        exact jump_back (hJ (l.length - (k + 1)) _ _ (by omega) ⟨_, k + 1, _, _, _, _, _, _, _, _, _, _, _, _, _, _, _, _, _, _, _, _, _, _, _, _, rfl, by omega, rfl, R.1, R.2⟩)
    · have HB := Lib.hid hbel
      have hkl : k = l.length := by omega
      have hend := hex_end (w := wr) (base := w.heap.size) (v := v) (L := hexOf l) (by rw [hkl, List.take_length] at hown; rw [hexOf_length]; exact hown)
      clear hown hbel
      rcases hend with ⟨rfl, hn⟩ | ⟨g, cp, rfl, hcv⟩
      · have hcv := run_convert_bytes_nil (P := Tryd.prog) wr 23 5 Tryd.underlying23 Tryd.underlying5 0 0 9 Tryd.underlying9
        have HN := Lib.hid hn
        clear hn hkl
        go_wp2_with fail
        refine jump_ret ?_
        go_ret
        exact ⟨ret_str (by rw [HN.out]; rfl), HB.out⟩
      · clear hkl
        go_wp2_with fail
        refine jump_ret ?_
        go_ret
        exact ⟨rfl, HB.out⟩
end Go.Proofs.YtbaceiohcbhpaaaDoor
