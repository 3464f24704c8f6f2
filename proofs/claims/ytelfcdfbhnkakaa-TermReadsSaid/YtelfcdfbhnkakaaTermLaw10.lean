import Derived.Test.YtelfcdfbhnkakaaTermLaw3
import Derived.Test.YtelfcdfbhnkakaaTermLaw4
import Derived.Test.YtelfcdfbhnkakaaTermLaw5
import Derived.Test.YtelfcdfbhnkakaaTermLaw6
import Derived.Test.YtelfcdfbhnkakaaTermLaw7
import Derived.Test.YtelfcdfbhnkakaaTermLaw8
import Derived.Test.YtelfcdfbhnkakaaTermLaw9
import Derived.Deep.RegionHeld3
namespace Go.Proofs.Ytelfcdfbhnkakaa
set_option linter.unusedVariables false
set_option linter.unusedSimpArgs false
set_option maxRecDepth 100000
open Go.RowKit

theorem termreads_walk (s : ByteArray) (hsm : s.size ≤ maxLen) (w : World) :
    Calls Try.prog 3 #[.string s] w fun e w' => e = .returned (.bool true) ∧ Below w.heap.size w w' := by
  by_cases h5 : 2000 < s.size
  · go_enter Try.func3, Try.ntmps3
    go_wp2_with (first | (go_at_call 7; ((with_reducible refine (aw2 _).mono ?_); rintro e w1 ⟨rfl, hb1⟩)) | fail)
    go_ret
    exact ⟨rfl, hb1⟩
  · obtain ⟨x, hx⟩ : ∃ x, lookR s.data.toList = x := ⟨_, rfl⟩
    obtain ⟨k, n, ps⟩ := x
    obtain ⟨b, hb⟩ : ∃ b, bytesR s.data.toList = b := ⟨_, rfl⟩
    have hk : (k = 0) ∨ (k = 2) ∨ (k = 3) ∨ (k = 4) ∨ (k = 8) ∨ (k = 10) ∨ (k ≠ 0 ∧ k ≠ 2 ∧ k ≠ 3 ∧ k ≠ 4 ∧ k ≠ 8 ∧ k ≠ 10) := by omega
    rcases hk with hk | hk | hk | hk | hk | hk | hk
    · exact termreads_c0 s hsm h5 k n b ps hx hb hk w
    · exact termreads_c1 s hsm h5 k n b ps hx hb hk w
    · exact termreads_c2 s hsm h5 k n b ps hx hb hk w
    · exact termreads_c3 s hsm h5 k n b ps hx hb hk w
    · exact termreads_c4 s hsm h5 k n b ps hx hb hk w
    · exact termreads_c5 s hsm h5 k n b ps hx hb hk w
    · exact termreads_c6 s hsm h5 k n b ps hx hb hk w
end Go.Proofs.Ytelfcdfbhnkakaa
