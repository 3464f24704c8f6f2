/- Windows: what a law's list of numbers is. -/
import Derived.Test.YtoodjdaadkbdfaaWinR1
import Derived.OpenShut
namespace Go.Proofs.Ytoodjdaadkbdfaa
set_option linter.unusedVariables false
set_option linter.unusedSimpArgs false
open Go.RowKit
theorem u64_row {w : World} {a : Option Addr} {len cap : Nat} {z : List Int} (h : (a = none ∧ len = 0 ∧ cap = 0 ∧ z = []) ∨ ∃ x, a = some x ∧ len ≤ cap ∧ cap ≤ maxLen ∧ z.length = cap ∧ (∀ i, i < z.length → w.cell? (x.add i) = some (.int .u64 (z.getD i 0))) ∧ ∀ n ∈ z, (Lit.int .u64 n).wf = true) :
    ∃ l : List Nat, l.length = len ∧ U64s w (.slice a len cap) l ∧ ∀ x ∈ l, x < 2 ^ 64 := by
  rcases h with ⟨rfl, rfl, rfl, rfl⟩ | ⟨x, rfl, hlc, hm, hz, hcell, hwz⟩
  · exact ⟨[], rfl, u64s_nil w, by simp⟩
  · refine ⟨(z.take len).map fun n => n.toNat, by simp; omega, ⟨some x, cap, by simp; omega, by simp; omega, hm, (fun h => by cases h), ?_⟩, ?_⟩
    · by_cases h0 : len = 0
      · left; subst h0; rfl
      · right
        have hc := hcell 0 (by omega)
        obtain ⟨b, off, spot⟩ := x
        have hspot : spot = none := by simpa [Addr.add] using World.cell?_spot hc
        subst hspot
        refine ⟨b, off, rfl, fun i hi => ?_⟩
        have hi2 : i < len := by simp at hi; omega
        have h1 := hcell i (by omega)
        rw [add_at] at h1
        rw [h1]
        have hb := hwz (z.getD i 0) (by simp [List.getD, List.getElem?_eq_getElem (show i < z.length by omega)])
        have hb2 := bounds_u64 hb
        have e : (((z.take len).map fun n => n.toNat).getD i 0) = (z.getD i 0).toNat := by
          simp [List.getD, hi2, List.getElem?_eq_getElem (show i < z.length by omega)]
        rw [e]
        congr 2; omega
    · intro y hy
      obtain ⟨n, hn, rfl⟩ := List.mem_map.1 hy
      have hb := bounds_u64 (hwz n (List.mem_of_mem_take hn))
      omega
end Go.Proofs.Ytoodjdaadkbdfaa
