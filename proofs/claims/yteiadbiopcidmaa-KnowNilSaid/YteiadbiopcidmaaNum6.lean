import Derived.Test.YteiadbiopcidmaaNum5
namespace Go.Proofs.Yteiadbiopcidmaa
set_option linter.unusedVariables false
set_option linter.unusedSimpArgs false
set_option maxRecDepth 100000
open Go.RowKit

theorem hexdigit_at (j : Nat) (hj : j < 16) (h : j < (⟨#[48, 49, 50, 51, 52, 53, 54, 55, 56, 57, 97, 98, 99, 100, 101, 102]⟩ : ByteArray).size) : ((⟨#[48, 49, 50, 51, 52, 53, 54, 55, 56, 57, 97, 98, 99, 100, 101, 102]⟩ : ByteArray)[j]'h).toNat = (hexD j).toNat := by
  have key : ∀ i : Fin 16, ∀ h', ((⟨#[48, 49, 50, 51, 52, 53, 54, 55, 56, 57, 97, 98, 99, 100, 101, 102]⟩ : ByteArray)[i.val]'h').toNat = (hexD i.val).toNat := by decide +kernel
  exact key ⟨j, hj⟩ h

theorem decs_step (m u : Nat) (L : List UInt8) (h : ¬ m < 10) (hd : decs m ++ L = decs u) : decs (m / 10) ++ (hexD (m % 10) :: L) = decs u := by
  rw [← hd, decs_big h]
  have e : hexD (m % 10) = UInt8.ofNat (48 + m % 10) := by unfold hexD; rw [if_pos (by omega)]
  rw [e]; simp
theorem decs_last (m u : Nat) (L : List UInt8) (h : m < 10) (hd : decs m ++ L = decs u) : hexD (m % 10) :: L = decs u := by
  rw [← hd, decs_small h]
  have e : hexD (m % 10) = UInt8.ofNat (48 + m) := by unfold hexD; rw [if_pos (by omega), Nat.mod_eq_of_lt h]
  rw [e]; rfl

theorem add_at (b o j : Nat) : (⟨b, o, none⟩ : Addr).add j = ⟨b, o + j, none⟩ := by unfold Addr.add; split <;> simp_all
theorem drop_set (C : Array Value) (k : Nat) (v : Value) (L : List Value) (hk : k < C.size) (h : C.toList.drop (k + 1) = L) : (C.setIfInBounds k v).toList.drop k = v :: L := by
  rw [Array.toList_setIfInBounds, ← h, List.drop_set]
  rw [if_neg (by omega), Nat.sub_self]
  rw [List.drop_eq_getElem_cons (by simpa using hk)]
  rfl

end Go.Proofs.Yteiadbiopcidmaa
