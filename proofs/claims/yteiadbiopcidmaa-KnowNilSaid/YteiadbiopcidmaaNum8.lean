import Derived.Test.YteiadbiopcidmaaNum7
namespace Go.Proofs.Yteiadbiopcidmaa
set_option linter.unusedVariables false
set_option linter.unusedSimpArgs false
set_option maxRecDepth 100000
open Go.RowKit
attribute [local go_sem ↓] Go.wp_at_zero Go.wp_at_succ

theorem rhex_rel {l : List UInt8} {k : Nat} {u : UInt8} {s : ByteArray} (hlt : k < l.length) (hu : u = l.getD k 0) (hs : s.data.toList = hexOf (l.take k)) :
    (s ++ strOfNums [hexI ((u.toNat : Int) / 16), hexI ((u.toNat : Int) % 16)]).data.toList = hexOf (l.take (k + 1)) := by
  rw [List.take_succ_eq_append_getElem hlt, hexOf_snoc, ByteArray.data_append, Array.toList_append, hs, strOfNums_data]
  have hb := UInt8.toNat_lt u
  have e : l[k] = u := by rw [hu]; simp [List.getD, List.getElem?_eq_getElem hlt]
  rw [e]
  have h1 := hexI_hexD (u.toNat / 16) (by omega)
  have h2 := hexI_hexD (u.toNat % 16) (by omega)
  simp only [List.map_cons, List.map_nil, hexB]
  rw [show (u.toNat : Int) / 16 = ((u.toNat / 16 : Nat) : Int) by omega, show (u.toNat : Int) % 16 = ((u.toNat % 16 : Nat) : Int) by omega, h1, h2]
  simp

theorem wrap_q (u : UInt8) : IntKind.u8.wrap ((u.toNat : Int) / 16) = (u.toNat : Int) / 16 := by
  have := UInt8.toNat_lt u
  simp [IntKind.wrap, IntKind.bits, IntKind.signed]; omega
theorem wrap_r (u : UInt8) : IntKind.u8.wrap ((u.toNat : Int) % 16) = (u.toNat : Int) % 16 := by
  simp [IntKind.wrap, IntKind.bits, IntKind.signed]; omega
theorem tmod_q (u : UInt8) : (u.toNat : Int).tmod 16 = (u.toNat : Int) % 16 := Int.tmod_eq_emod_of_nonneg (by omega)

end Go.Proofs.Yteiadbiopcidmaa
