import Derived.Test.YteiadbiopcidmaaNum3
namespace Go.Proofs.Yteiadbiopcidmaa
set_option linter.unusedVariables false
set_option linter.unusedSimpArgs false
set_option maxRecDepth 100000
open Go.RowKit

theorem digs_take_one (s : ByteArray) (k : Nat) (h : k < s.size) (hd : digs (s.data.toList.take k) 10 = true) (h1 : 48 ≤ (s[k]).toNat) (h2 : (s[k]).toNat ≤ 57) : digs (s.data.toList.take (k + 1)) 10 = true := by
  rw [take_snoc s k h, digs_snoc, hd, Bool.true_and, decide_eq_true_eq, val_dec]; omega
theorem digs_bad (s : ByteArray) (k : Nat) (h : k < s.size) (hb : (s[k]).toNat < 48 ∨ 57 < (s[k]).toNat) : digs s.data.toList 10 = false := by
  refine digs_no (mem_of s k h) ?_
  have := val_dec (s[k]).toNat
  omega

end Go.Proofs.Yteiadbiopcidmaa
