import Derived.Test.YtkhomjbggfjleaaNum10
import Derived.Test.YtkhomjbggfjleaaNum4
namespace Go.Proofs.Ytkhomjbggfjleaa
set_option linter.unusedVariables false
set_option linter.unusedSimpArgs false
set_option maxRecDepth 100000
open Go.RowKit

theorem bytes_conv {w : World} {v : Value} {l : List UInt8} (h : Bytes w v l) : ∃ a cap, v = .slice a l.length cap ∧ (convert 22 9 (.slice a l.length cap)).run Try.prog w = .ok (.string ⟨l.toArray⟩) w := by
  obtain ⟨a, cap, hv, h⟩ := h
  refine ⟨a, cap, hv, ?_⟩
  rcases h with rfl | ⟨b, off, rfl, hc⟩
  · rw [run_convert_bytes_string w _ _ _ a _ cap Try.underlying22 Try.underlying5 Try.underlying9]
    cases a with
    | none => rfl
    | some a => exact run_bytesToString w a 0 cap [] (by rfl)
  · refine run_convert_bytes_back _ _ _ _ _ _ l Try.underlying22 Try.underlying5 Try.underlying9 fun j hj => ?_
    rw [add_at, hc j hj]
    simp [List.getD, List.getElem?_eq_getElem hj]

theorem same_any (va vb : Value) (la lb : List UInt8) (w : World) (ha : Bytes w va la) (hb : Bytes w vb lb) :
    Calls Try.prog 11 #[va, vb] w fun e w' => e = .returned (.bool (la == lb)) ∧ w = w' := by
  obtain ⟨a, c1, rfl, h1⟩ := bytes_conv ha
  obtain ⟨b, c2, rfl, h2⟩ := bytes_conv hb
  clear ha hb
  go_enter Try.func11, Try.ntmps11
  go_wp2_with fail
  go_ret
  exact ⟨rfl, rfl⟩

theorem Below.next {w a b : World} (h : Below w.heap.size w a) (k : Below a.heap.size a b) : Below w.heap.size w b := h.trans (k.mono h.size)
theorem below3 {w a b c : World} (h1 : Below w.heap.size w a) (h2 : Below a.heap.size a b) (h3 : Below b.heap.size b c) : Below w.heap.size w c := Below.next (Below.next h1 h2) h3
theorem below4 {w a b c d : World} (h1 : Below w.heap.size w a) (h2 : Below a.heap.size a b) (h3 : Below b.heap.size b c) (h4 : Below c.heap.size c d) : Below w.heap.size w d := Below.next (below3 h1 h2 h3) h4
theorem below5 {w a b c d e : World} (h1 : Below w.heap.size w a) (h2 : Below a.heap.size a b) (h3 : Below b.heap.size b c) (h4 : Below c.heap.size c d) (h5 : Below d.heap.size d e) : Below w.heap.size w e := Below.next (below4 h1 h2 h3 h4) h5

end Go.Proofs.Ytkhomjbggfjleaa
