import Derived.Test.YtbhgaboekjdpjaaNum10
import Derived.Test.YtbhgaboekjdpjaaNum4
namespace Go.Proofs.Ytbhgaboekjdpjaa
set_option linter.unusedVariables false
set_option linter.unusedSimpArgs false
open Go.RowKit

theorem bytes_conv {w : World} {v : Value} {l : List UInt8} (h : Bytes w v l) : ∃ a cap, v = .slice a l.length cap ∧ (convert 27 9 (.slice a l.length cap)).run Try.prog w = .ok (.string ⟨l.toArray⟩) w := by
  obtain ⟨a, cap, hv, h⟩ := h
  refine ⟨a, cap, hv, ?_⟩
  rcases h with rfl | ⟨b, off, rfl, hc⟩
  · rw [run_convert_bytes_string w _ _ _ a _ cap Try.underlying27 Try.underlying5 Try.underlying9]
    cases a with
    | none => rfl
    | some a => exact run_bytesToString w a 0 cap [] (by rfl)
  · refine run_convert_bytes_back _ _ _ _ _ _ l Try.underlying27 Try.underlying5 Try.underlying9 fun j hj => ?_
    rw [add_at, hc j hj]
    simp [List.getD, List.getElem?_eq_getElem hj]

theorem same_any (va vb : Value) (la lb : List UInt8) (w : World) (ha : Bytes w va la) (hb : Bytes w vb lb) :
    Calls Try.prog 10 #[va, vb] w fun e w' => e = .returned (.bool (la == lb)) ∧ w = w' := by
  obtain ⟨a, c1, rfl, h1⟩ := bytes_conv ha
  obtain ⟨b, c2, rfl, h2⟩ := bytes_conv hb
  clear ha hb
  go_enter Try.func10, Try.ntmps10
  go_wp2_with fail
  go_ret
  exact ⟨rfl, rfl⟩

def AwakeRet (w : World) (e : Ending) (w' : World) : Prop := e = .returned (.bool true) ∧ Below w.heap.size w w'
theorem awake_any (w : World) : Calls Try.prog 5 #[] w (AwakeRet w) := by
  have hb : Bytes (w.alloc (.cells #[.int .u8 10, .int .u8 255] 5)) (.slice (some ⟨w.heap.size, 0, none⟩) 2 2) [10, 255] :=
    ⟨_, _, rfl, .inr ⟨_, 0, rfl, fun i hi => by
      rw [Nat.zero_add, World.cell?_alloc_mark]
      match i, hi with
      | 0, _ => rfl
      | 1, _ => rfl⟩⟩
  have HB := Lib.hid hb
  clear hb
  have hrd : rdCode [48, 49] = 3 := by decide
  have hhx : hexOf [10, 255] = [48, 97, 102, 102] := by decide
  go_enter Try.func5, Try.ntmps5
  go_wp2_with (first | (go_at_call 6; refine (read_any _ (by decide) _).mono ?_; rintro e w' ⟨rfl, rfl⟩) | (go_at_call 12; (with_reducible refine (hex_any _ _ _ HB.out (by decide)).mono ?_); rintro e w1 ⟨rfl, hb1⟩))
  go_ret
  exact ⟨rfl, ((Below.refl _ _).alloc (Nat.le_refl _) _).trans (hb1.mono (by simp))⟩

theorem Below.next {w a b : World} (h : Below w.heap.size w a) (k : Below a.heap.size a b) : Below w.heap.size w b := h.trans (k.mono h.size)
theorem below3 {w a b c : World} (h1 : Below w.heap.size w a) (h2 : Below a.heap.size a b) (h3 : Below b.heap.size b c) : Below w.heap.size w c := Below.next (Below.next h1 h2) h3
theorem below4 {w a b c d : World} (h1 : Below w.heap.size w a) (h2 : Below a.heap.size a b) (h3 : Below b.heap.size b c) (h4 : Below c.heap.size c d) : Below w.heap.size w d := Below.next (below3 h1 h2 h3) h4
theorem below5 {w a b c d e : World} (h1 : Below w.heap.size w a) (h2 : Below a.heap.size a b) (h3 : Below b.heap.size b c) (h4 : Below c.heap.size c d) (h5 : Below d.heap.size d e) : Below w.heap.size w e := Below.next (below4 h1 h2 h3 h4) h5

theorem numreads_walk (s : ByteArray) (w : World) :
    Calls Try.prog 3 #[.string s] w fun e w' => e = .returned (.bool true) ∧ Below w.heap.size w w' := by
  by_cases h5 : 500 < s.size
  · go_enter Try.func3, Try.ntmps3
    go_wp2_with (go_at_call 5; (with_reducible refine (awake_any _).mono ?_); rintro e w1 ⟨rfl, hb1⟩)
    go_ret
    exact ⟨rfl, hb1⟩
  · have hsz : s.size ≤ 1000000 := by omega
    have hsm : s.size ≤ maxLen := by unfold maxLen; omega
    have hlen : s.data.toList.length = s.size := by simp
    have hxl : (hxBytes s.data.toList).length ≤ 1000000 := by
      have h1 := hexOf_hx s.data.toList
      unfold hxBytes
      split
      · rename_i h
        have := unhex_len (s.data.toList.length / 2) s.data.toList (by simp at h; omega)
        omega
      · simp
    have HL := Lib.hid hxl
    clear hlen hxl
    obtain ⟨u, hu⟩ : ∃ u : Nat, u ≤ top ∧ (rdCode s.data.toList = 0 → rdVal s.data.toList = u ∧ decs u = s.toList) := by
      by_cases h0 : rdCode s.data.toList = 0
      · obtain ⟨u, h1, h2, h3⟩ := decs_rd _ h0
        exact ⟨u, h2, fun _ => ⟨h1, by rw [h3, toList_eq]⟩⟩
      · exact ⟨0, by decide, fun h => absurd h h0⟩
    have hh : hxCode s.data.toList = 0 → hexOf (hxBytes s.data.toList) = s.toList := fun h => by rw [hexOf_hx _ h, toList_eq]
    have HU := Lib.hid hu
    have HH := Lib.hid hh
    clear hu hh
    by_cases hr0 : rdCode s.data.toList = 0
    · have hru := (HU.out.2 hr0).1
      have hrd := (HU.out.2 hr0).2
      by_cases hx0 : hxCode s.data.toList = 0
      · have hxd := HH.out hx0
        go_enter Try.func3, Try.ntmps3
        go_wp2_with (first | (go_at_call 5; (with_reducible refine (awake_any _).mono ?_); rintro e w1 ⟨rfl, hb1⟩) | (go_at_call 6; (with_reducible refine (read_any s hsm _).mono ?_); rintro e w' ⟨rfl, rfl⟩) | (go_at_call 7; (with_reducible refine (rread_any s hsm _).mono ?_); rintro e w' ⟨rfl, rfl⟩) | (go_at_call 8; (with_reducible refine (readhex_any s hsz _).mono ?_); rintro e w2 ⟨v2, rfl, hv2, hb2⟩) | (go_at_call 9; (with_reducible refine (rreadhex_any s hsz _).mono ?_); rintro e w3 ⟨v3, rfl, hv3, hb3⟩) | (go_at_call 10; (with_reducible refine (same_any _ _ _ _ _ (hv2.below hb3) hv3).mono ?_); rintro e w' ⟨rfl, rfl⟩) | (go_at_call 11; (with_reducible refine (print_any u HU.out.1 _).mono ?_); rintro e w4 ⟨rfl, hb4⟩) | (go_at_call 12; (with_reducible refine (hex_any _ _ _ ((hv2.below hb3).below hb4) HL.out).mono ?_); rintro e w5 ⟨rfl, hb5⟩))
        go_ret
        exact ⟨rfl, below5 hb1 hb2 hb3 hb4 hb5⟩
      · have hxb : (hxCode s.data.toList != 0) = true := by simpa using hx0
        go_enter Try.func3, Try.ntmps3
        go_wp2_with (first | (go_at_call 5; (with_reducible refine (awake_any _).mono ?_); rintro e w1 ⟨rfl, hb1⟩) | (go_at_call 6; (with_reducible refine (read_any s hsm _).mono ?_); rintro e w' ⟨rfl, rfl⟩) | (go_at_call 7; (with_reducible refine (rread_any s hsm _).mono ?_); rintro e w' ⟨rfl, rfl⟩) | (go_at_call 8; (with_reducible refine (readhex_any s hsz _).mono ?_); rintro e w2 ⟨v2, rfl, hv2, hb2⟩) | (go_at_call 9; (with_reducible refine (rreadhex_any s hsz _).mono ?_); rintro e w3 ⟨v3, rfl, hv3, hb3⟩) | (go_at_call 10; (with_reducible refine (same_any _ _ _ _ _ (hv2.below hb3) hv3).mono ?_); rintro e w' ⟨rfl, rfl⟩) | (go_at_call 11; (with_reducible refine (print_any u HU.out.1 _).mono ?_); rintro e w4 ⟨rfl, hb4⟩))
        go_ret
        exact ⟨rfl, below4 hb1 hb2 hb3 hb4⟩
    · have hrb : (rdCode s.data.toList != 0) = true := by simpa using hr0
      by_cases hx0 : hxCode s.data.toList = 0
      · have hxd := HH.out hx0
        go_enter Try.func3, Try.ntmps3
        go_wp2_with (first | (go_at_call 5; (with_reducible refine (awake_any _).mono ?_); rintro e w1 ⟨rfl, hb1⟩) | (go_at_call 6; (with_reducible refine (read_any s hsm _).mono ?_); rintro e w' ⟨rfl, rfl⟩) | (go_at_call 7; (with_reducible refine (rread_any s hsm _).mono ?_); rintro e w' ⟨rfl, rfl⟩) | (go_at_call 8; (with_reducible refine (readhex_any s hsz _).mono ?_); rintro e w2 ⟨v2, rfl, hv2, hb2⟩) | (go_at_call 9; (with_reducible refine (rreadhex_any s hsz _).mono ?_); rintro e w3 ⟨v3, rfl, hv3, hb3⟩) | (go_at_call 10; (with_reducible refine (same_any _ _ _ _ _ (hv2.below hb3) hv3).mono ?_); rintro e w' ⟨rfl, rfl⟩) | (go_at_call 12; (with_reducible refine (hex_any _ _ _ (hv2.below hb3) HL.out).mono ?_); rintro e w5 ⟨rfl, hb5⟩))
        go_ret
        exact ⟨rfl, below4 hb1 hb2 hb3 hb5⟩
      · have hxb : (hxCode s.data.toList != 0) = true := by simpa using hx0
        go_enter Try.func3, Try.ntmps3
        go_wp2_with (first | (go_at_call 5; (with_reducible refine (awake_any _).mono ?_); rintro e w1 ⟨rfl, hb1⟩) | (go_at_call 6; (with_reducible refine (read_any s hsm _).mono ?_); rintro e w' ⟨rfl, rfl⟩) | (go_at_call 7; (with_reducible refine (rread_any s hsm _).mono ?_); rintro e w' ⟨rfl, rfl⟩) | (go_at_call 8; (with_reducible refine (readhex_any s hsz _).mono ?_); rintro e w2 ⟨v2, rfl, hv2, hb2⟩) | (go_at_call 9; (with_reducible refine (rreadhex_any s hsz _).mono ?_); rintro e w3 ⟨v3, rfl, hv3, hb3⟩) | (go_at_call 10; (with_reducible refine (same_any _ _ _ _ _ (hv2.below hb3) hv3).mono ?_); rintro e w' ⟨rfl, rfl⟩))
        go_ret
        exact ⟨rfl, below3 hb1 hb2 hb3⟩
end Go.Proofs.Ytbhgaboekjdpjaa
