import Derived.Test.YteiadbiopcidmaaTerm1
import Derived.Test.YteiadbiopcidmaaShelf
namespace Go.Proofs.Yteiadbiopcidmaa
set_option linter.unusedVariables false
set_option linter.unusedSimpArgs false
set_option maxRecDepth 100000
open Go.RowKit

theorem pass_ok (s : ByteArray) (p m d b : Nat) (pv : Value) (c : Int) (w : World) (hs : s.size ≤ maxLen) (hp : p < s.size) (hc : byteAt s p = c) (h : Rd w b s p m d pv) :
    Calls Try.prog 58 #[.pointer (some ⟨b, 0, none⟩), .int .u8 c] w fun e w' => e = .returned (.tuple #[]) ∧ Rd w' b s (p + 1) m d pv ∧ w.grownBy w' (some b) := by
  have hsm := hs
  unfold maxLen at hs
  have H := Lib.hid h
  have h0 := h.c0; have h1 := h.c1; have f1 := h.f 1
  clear h
  have ht : (byteAt s p == c) = true := by simpa using hc
  clear hc
  go_enter Try.func58, Try.ntmps58
  go_wp2_with (first | (go_at_call 47; ((with_reducible refine (next_any s p b _ hsm (by omega) (by assumption) (by assumption)).mono ?_); rintro e w' ⟨rfl, n1, rfl⟩)) | (go_at_call 30; ((with_reducible refine (need_ok _).mono ?_); rintro e w' ⟨rfl, rfl⟩)) | fail)
  go_end0
  refine ⟨rfl, ?_, ?_⟩
  · exact (H.out.drewN n1).set1 (p + 1)
  · exact grown_trans (grown_drewN _ n1 _) (grown_set _ _ _ _)

theorem pass_bad (s : ByteArray) (p m d b : Nat) (pv : Value) (c : Int) (w : World) (hs : s.size ≤ maxLen) (hp : p ≤ s.size) (hc : byteAt s p ≠ c) (h : Rd w b s p m d pv) :
    Calls Try.prog 58 #[.pointer (some ⟨b, 0, none⟩), .int .u8 c] w fun e w' => e = .panicked faultC ∧ w.grownBy w' (some b) := by
  have hsm := hs
  unfold maxLen at hs
  have h0 := h.c0; have h1 := h.c1
  clear h
  have ht : (byteAt s p == c) = false := beqf hc
  clear hc
  go_enter Try.func58, Try.ntmps58
  go_wp2_with (first | (go_at_call 47; ((with_reducible refine (next_any s p b _ hsm (by omega) (by assumption) (by assumption)).mono ?_); rintro e w' ⟨rfl, n1, rfl⟩)) | (go_at_call 30; ((with_reducible refine (need_bad _).mono ?_); rintro e w' ⟨rfl, rfl⟩)) | fail)
  exact ⟨rfl, rfl, grown_drewN _ n1 _⟩
end Go.Proofs.Yteiadbiopcidmaa
