import Derived.Test.YtelfcdfbhnkakaaTerm12
import Derived.Lib.Join
namespace Go.Proofs.Ytelfcdfbhnkakaa
set_option linter.unusedVariables false
set_option linter.unusedSimpArgs false
set_option maxRecDepth 100000
open Go.RowKit

def smallF : Nat → List (List UInt8) → Bool
  | _, [] => true
  | left, t :: r => if left ≤ t.length then false else smallF (left - (t.length + 1)) r
def total (l : List (List UInt8)) : Nat := (l.map List.length).sum + l.length
theorem small_total : ∀ (l : List (List UInt8)) (left : Nat), smallF left l = true ↔ total l ≤ left := by
  intro l
  induction l with
  | nil => intro left; simp [smallF, total]
  | cons t r ih =>
    intro left
    unfold smallF
    split
    · rename_i h
      simp [total]; omega
    · rename_i h
      rw [ih]
      simp [total]; omega

theorem strB_size (l : List UInt8) : (strB l).size = l.length := by simp [strB, ByteArray.size]
theorem smallF_at {l : List (List UInt8)} {k left : Nat} (hk : k < l.length) : smallF left (l.drop k) = if left ≤ (l.getD k []).length then false else smallF (left - ((l.getD k []).length + 1)) (l.drop (k + 1)) := by
  rw [List.drop_eq_getElem_cons hk, smallF]
  simp [List.getD, List.getElem?_eq_getElem hk]

theorem small_any (v : Value) (l : List (List UInt8)) (w : World) (hv : Strs w v l) (hl : l.length ≤ maxLen) :
    Calls Try.prog 30 #[v] w fun e w' => e = .returned (.bool (smallF 65536 l)) ∧ w = w' := by
  unfold maxLen at hl
  obtain ⟨ad, cap, rfl, _, hv⟩ := hv
  have HV := Lib.hid hv
  clear hv
  go_enter Try.func30, Try.ntmps30
  go_wp2_with fail
  go_loop [3, 8] (fun a i => ∃ k left : Nat, k ≤ l.length ∧ a = .int .i64 left ∧ i = .int .i64 k ∧ left ≤ 65536 ∧ smallF left (l.drop k) = smallF 65536 l) (fun _ i => l.length - (intOf i).toNat)
  case atStart => exact ⟨0, 65536, by omega, rfl, rfl, by omega, rfl⟩
  case round =>
    obtain ⟨k, left, hk, rfl, rfl, hle, hs⟩ := hrel
    have HS := Lib.hid hs
    clear hs
    by_cases hlt : k < l.length
    · obtain ⟨b, off, rfl, hc⟩ : ∃ b off, ad = some ⟨b, off, none⟩ ∧ ∀ i, i < l.length → w.cell? ⟨b, off + i, none⟩ = some (strV (l.getD i [])) := by
        rcases HV.out with h | h
        · rw [h] at hlt; simp at hlt
        · exact h
      have hcell : w.cell? ⟨b, off + k, none⟩ = some (.string (strB (l.getD k []))) := hc k hlt
      have HST := Lib.hid (smallF_at (left := left) hlt)
      clear hc
      generalize l.getD k [] = t at *
      have hsz := strB_size t
      by_cases hbig : left ≤ t.length
      · have HO : Hid (smallF 65536 l = false) := Lib.hid (by rw [← HS.out, HST.out, if_pos hbig])
        go_wp2_with fail
        go_ret
        exact ⟨ret_bool HO.out.symm, rfl⟩
      · have HO : Hid (smallF (left - (t.length + 1)) (l.drop (k + 1)) = smallF 65536 l) := Lib.hid (by rw [← HS.out, HST.out, if_neg hbig])
        go_wp2_with fail
        go_round
        case rel => exact ⟨k + 1, left - (t.length + 1), by omega, congrArg (Value.int .i64) (by omega), by go_num, by omega, HO.out⟩
        case measure => simp [intOf]; omega
    · have HO : Hid (smallF 65536 l = true) := Lib.hid (by rw [← HS.out, List.drop_eq_nil_of_le (by omega)]; rfl)
      go_wp2_with fail
      go_ret
      exact ⟨ret_bool HO.out.symm, rfl⟩

/-! strings.Join -/
theorem join_own {w : World} {B : Nat} {v : Value} {l : List (List UInt8)} (h : w.ownsRow B 9 1 v l.length (l.map strV)) (hl : l.length ≤ 140737488355328) (hj : (Lib.join l [44]).length ≤ 140737488355328) :
    Calls Try.prog 48 #[v, .string ⟨#[44]⟩] w fun e w' => e = .returned (.string (strB (Lib.join l [44]))) ∧ Below w.heap.size w w' := by
  rcases h.2 with ⟨rfl, hn⟩ | ⟨g, cap, cur, rfl, hB, hg, hcap, _, hsz, htk⟩
  · have : l = [] := List.length_eq_zero_iff.1 hn
    subst this
    refine (Try.strings_Join_none none 0 ⟨#[44]⟩ w).mono ?_
    rintro e w' ⟨rfl, rfl⟩
    exact ⟨rfl, Below.refl _ _⟩
  · have hm : (l.map strB).map (·.data.toList) = l := by
      rw [List.map_map]
      have : (fun x : ByteArray => x.data.toList) ∘ strB = id := by funext x; rfl
      rw [this, List.map_id]
    have := Try.strings_Join g 0 cap (l.map strB) ⟨#[44]⟩ w (fun j x hx => by
      rw [Nat.zero_add]
      refine cell_of hg j ?_
      have h1 : (l.map strV)[j]? = some (.string x) := by
        rw [List.getElem?_map] at hx ⊢
        cases hj : l[j]? with
        | none => rw [hj] at hx; cases hx
        | some y => rw [hj] at hx; cases hx; rfl
      rw [← htk, List.getElem?_take] at h1
      split at h1
      · simpa using h1
      · cases h1) (Array.getElem?_eq_some_iff.1 hg).1 (by simpa using hl) (by simpa using hcap) (by rw [hm]; exact hj)
    rw [hm, List.length_map] at this
    exact this
end Go.Proofs.Ytelfcdfbhnkakaa
