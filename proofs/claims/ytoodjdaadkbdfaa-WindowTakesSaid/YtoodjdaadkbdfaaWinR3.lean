/- Windows: the reference's Take by contract. -/
import Derived.Test.YtoodjdaadkbdfaaWinR2
namespace Go.Proofs.Ytoodjdaadkbdfaa
set_option linter.unusedVariables false
set_option linter.unusedSimpArgs false
set_option maxRecDepth 100000
open Go.RowKit
theorem u64s_one (w : World) (c : Nat) : U64s (w.alloc (.cells #[.int .u64 (c : Nat)] 30)) (.slice (some ⟨w.heap.size, 0, none⟩) 1 1) [c] := by
  have h := heap_alloc_new w (.cells #[.int .u64 (c : Nat)] 30)
  refine ⟨_, _, rfl, Nat.le_refl _, by decide, (fun h => by cases h), .inr ⟨_, 0, rfl, fun i hi => ?_⟩⟩
  rw [Nat.zero_add]
  match i, hi with
  | 0, _ => exact cell_of h 0 rfl
theorem grown_block {w w' : World} {row : Option Nat} {k : Nat} {o : Obj} (h : w.grownBy w' row) (hk : w.heap[k]? = some o) (hne : some k ≠ row) : w'.heap[k]? = some o :=
  (h.block k (Array.getElem?_eq_some_iff.1 hk).1 hne).trans hk
theorem own_snoc {w : World} {base n m : Nat} {v : Value} {l : List Nat} {c : Nat} (h : w.ownsRow base 30 1 v (n + m) (cellsU l ++ cellsU [c])) : ∃ a cap, v = .slice a (l.length + 1) cap ∧ w.ownsRow base 30 1 (.slice a (l.length + 1) cap) (n + m) (cellsU (l ++ [c])) := by
  have e : cellsU l ++ cellsU [c] = cellsU (l ++ [c]) := by simp [cellsU]
  rw [e] at h
  have hu := u64s_own h
  obtain ⟨a, cap, hr, _⟩ := id hu
  rw [show (l ++ [c]).length = l.length + 1 by simp] at hr
  subst hr
  exact ⟨a, cap, rfl, h⟩
/-- where a list's row lies, there are numbers -/
def RowT (w : World) (a : Option Addr) : Prop := ∀ b off x, a = some ⟨b, off, x⟩ → ∃ cur fz, w.heap[b]? = some (.cells cur 30 fz)
theorem rowT_own {w : World} {base n k cap : Nat} {a : Option Addr} {xs : List Value} (h : w.ownsRow base 30 1 (.slice a k cap) n xs) : RowT w a := by
  intro b off x ha
  subst ha
  rcases h.2 with ⟨hv, _⟩ | ⟨g, c, cur, hv, _, hg, _⟩
  · cases hv
  · cases hv; exact ⟨cur, _, hg⟩
def RTakeRet (l : List Nat) (c : Nat) (w : World) (e : Ending) (w' : World) : Prop := ∃ a cap, e = .returned (.agg #[.slice a (l.length + 1) cap]) ∧ U64s w' (.slice a (l.length + 1) cap) (l ++ [c]) ∧ RowT w' a ∧ Below w.heap.size w w'
set_option maxHeartbeats 1000000 in
theorem rtake_any (a : Option Addr) (cap : Nat) (l : List Nat) (c : Nat) (w : World) (hv : U64s w (.slice a l.length cap) l) (hl : l.length ≤ 100000) :
    Calls Try.prog 12 #[.agg #[.slice a l.length cap], .int .u64 c] w (RTakeRet l c w) := by
  have cv : ((w.alloc (.cells #[.slice a l.length cap] 27)).alloc (.cells #[.slice none 0 0] 27)).cell? ⟨w.heap.size, 0, none⟩ = some (.slice a l.length cap) := by
    have h : (w.alloc (.cells #[.slice a l.length cap] 27)).cell? ⟨w.heap.size, 0, none⟩ = some (.slice a l.length cap) := cell_of (heap_alloc_new w _) 0 rfl
    exact cell_keep4 h (below_one _)
  have HB0 : Hid (Below w.heap.size w ((w.alloc (.cells #[.slice a l.length cap] 27)).alloc (.cells #[.slice none 0 0] 27))) := Lib.hid (Below.next (below_one _) (below_one _))
  have HS0 : Hid (((w.alloc (.cells #[.slice a l.length cap] 27)).alloc (.cells #[.slice none 0 0] 27)).heap.size = w.heap.size + 1 + 1) := Lib.hid (by simp)
  have HX0 : Hid (((w.alloc (.cells #[.slice a l.length cap] 27)).alloc (.cells #[.slice none 0 0] 27)).heap[w.heap.size + 1]? = some (.cells #[.slice none 0 0] 27 (0, 0))) := Lib.hid (by
    have h := heap_alloc_new (w.alloc (.cells #[.slice a l.length cap] 27)) (.cells #[.slice none 0 0] 27)
    simpa using h)
  have hl0 : (l.length : Int) ≤ 100000 := by omega
  have HV0 : Hid (U64s ((w.alloc (.cells #[.slice a l.length cap] 27)).alloc (.cells #[.slice none 0 0] 27)) (.slice a l.length cap) l) := Lib.hid (hv.below HB0.out)
  have HB1 : Hid (Below w.heap.size w (((w.alloc (.cells #[.slice a l.length cap] 27)).alloc (.cells #[.slice none 0 0] 27)).alloc (.cells #[] 30))) := Lib.hid (Below.next HB0.out (below_one _))
  have HS1 : Hid (w.heap.size ≤ (((w.alloc (.cells #[.slice a l.length cap] 27)).alloc (.cells #[.slice none 0 0] 27)).alloc (.cells #[] 30)).heap.size) := Lib.hid HB1.out.size
  have HS2 : Hid (w.heap.size + 1 + 1 ≤ (((w.alloc (.cells #[.slice a l.length cap] 27)).alloc (.cells #[.slice none 0 0] 27)).alloc (.cells #[] 30)).heap.size) := Lib.hid (by have := HS0.out; have h := (below_one (w := ((w.alloc (.cells #[.slice a l.length cap] 27)).alloc (.cells #[.slice none 0 0] 27))) (.cells #[] 30)).size; rw [this] at h; exact h)
  have HX1 : Hid ((((w.alloc (.cells #[.slice a l.length cap] 27)).alloc (.cells #[.slice none 0 0] 27)).alloc (.cells #[] 30)).heap[w.heap.size + 1]? = some (.cells #[.slice none 0 0] 27 (0, 0))) := Lib.hid ((Below.heap_alloc _ _ _ (Array.getElem?_eq_some_iff.1 HX0.out).1).trans HX0.out)
  have HV1 : Hid (U64s (((w.alloc (.cells #[.slice a l.length cap] 27)).alloc (.cells #[.slice none 0 0] 27)).alloc (.cells #[] 30)) (.slice a l.length cap) l) := Lib.hid (HV0.out.below (below_one _))
  have HO1 : Hid ((((w.alloc (.cells #[.slice a l.length cap] 27)).alloc (.cells #[.slice none 0 0] 27)).alloc (.cells #[] 30)).ownsRow (w.heap.size + 1 + 1) 30 1 (.slice (some ⟨w.heap.size + 1 + 1, 0, none⟩) 0 0) 0 []) := Lib.hid (by
    have h := World.ownsRow_made (base := w.heap.size + 1 + 1) (size := 1) (e := 30) ((w.alloc (.cells #[.slice a l.length cap] 27)).alloc (.cells #[.slice none 0 0] 27)) #[] 0 (by rw [HS0.out]; exact Nat.le_refl _) (by decide) rfl
    rw [HS0.out] at h; exact h)
  clear hv
  go_enter Try.func12, Try.ntmps12
  go_wp2_with (first | (at_builtin; refine wpList_append_u64 rfl _ _ rfl (w.heap.size + 1 + 1) (.slice (some ⟨w.heap.size + 1 + 1, 0, none⟩) 0 0) 0 [] rfl HO1.out (.slice a l.length cap) l rfl HV1.out (by omega) HS2.out ?_; intro v1 w1 hown1 hgrow1; rw [Nat.zero_add, List.nil_append] at hown1; have HO2 := Lib.hid hown1; have hgrowS : w.heap.size + 1 + 1 ≤ w1.heap.size := Nat.le_trans HS2.out hgrow1.size; have HX2 := Lib.hid (grown_block hgrow1 HX1.out (by simp [Value.ownBlock])); have HB2 := Lib.hid (HB1.out.grown hgrow1 HS1.out (fun k hk => by simp [Value.ownBlock] at hk; omega)); clear hown1 hgrow1) | (at_builtin; refine wpList_append_u64 rfl _ _ rfl (w.heap.size + 1 + 1) v1 l.length (cellsU l) rfl (HO2.out.alloc _) (.slice (some ⟨w1.heap.size, 0, none⟩) 1 1) [c] rfl (u64s_one w1 c) (by simp; omega) (by have := HS2.out; have := hgrowS; simp; omega) ?_; intro v2 w2 hown2 hgrow2; obtain ⟨a2, cap2, rfl, hU⟩ := own_snoc hown2; have HU := Lib.hid hU; clear hU; have HX3 := Lib.hid (grown_block hgrow2 ((Below.heap_alloc w1 _ _ (Array.getElem?_eq_some_iff.1 HX2.out).1).trans HX2.out) (fun e => by have := (HO2.out.lt _ e.symm).1; omega)); have HB3 := Lib.hid ((HB2.out.alloc HB2.out.size _).grown hgrow2 (by have := HB2.out.size; simp; omega) (fun k hk => by have := (HO2.out.lt k hk).1; omega)); have x3 : w2.cell? ⟨w.heap.size + 1, 0, none⟩ = some (.slice none 0 0) := cell_of HX3.out 0 rfl; have f3 := free_of HX3.out 0; clear hown2 hgrow2) | fail)
  have hfin := heap_set (i := 0) (v := .slice a2 (l.length + 1) cap2) HX3.out
  have hown : (w2.setCell ⟨w.heap.size + 1, 0, none⟩ (.slice a2 (l.length + 1) cap2)).ownsRow (w.heap.size + 1 + 1) 30 1 (.slice a2 (l.length + 1) cap2) (l.length + [c].length) (cellsU (l ++ [c])) := World.ownsRow.kept HU.out (grown_set _ _ _ _) (.inr (fun e => by have := (HU.out.lt _ e).1; omega))
  exact bodyPost_ret (results_cell_row rfl _ _ (w.heap.size + 1) 27 #[.slice a2 (l.length + 1) cap2] (0, 0) _ rfl hfin Try.underlying27 rfl (by kernel_rfl)) rfl ⟨a2, cap2, rfl, u64s_own hown, rowT_own hown, HB3.out.setCell (p := ⟨w.heap.size + 1, 0, none⟩) (by simp) _⟩
end Go.Proofs.Ytoodjdaadkbdfaa
