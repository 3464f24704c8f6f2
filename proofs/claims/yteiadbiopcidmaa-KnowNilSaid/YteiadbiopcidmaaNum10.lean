import Derived.Test.YteiadbiopcidmaaNum9
namespace Go.Proofs.Yteiadbiopcidmaa
set_option linter.unusedVariables false
set_option linter.unusedSimpArgs false
set_option maxRecDepth 100000
open Go.RowKit
attribute [local go_sem ↓] Go.wp_at_zero Go.wp_at_succ

theorem digs16_next (s : ByteArray) (k : Nat) (h : k < s.size) (hd : digs (s.data.toList.take k) 16 = true) (h1 : val (s[k]).toNat < 16) : digs (s.data.toList.take (k + 1)) 16 = true := by
  rw [take_snoc s k h, digs_snoc, hd, Bool.true_and, decide_eq_true_eq]; exact h1

end Go.Proofs.Yteiadbiopcidmaa
