import Derived.Test.YtbhgaboekjdpjaaNum11
import Derived.Test.YtbhgaboekjdpjaaNum5
import Derived.Test.YtbhgaboekjdpjaaNum8
namespace Go.Proofs.Ytbhgaboekjdpjaa
set_option linter.unusedVariables false
set_option linter.unusedSimpArgs false
open Go.RowKit

theorem bytes_hx {w : World} {v : Value} {l : List UInt8} (h : Bytes w v (hxBytes (⟨(hexOf l).toArray⟩ : ByteArray).data.toList)) : Bytes w v l := by
  have e : (⟨(hexOf l).toArray⟩ : ByteArray).data.toList = hexOf l := by simp
  rw [e, (hx_hexOf l).1] at h; exact h

set_option maxHeartbeats 400000 in
theorem numprints_walk (u : Nat) (hu : u ≤ top) (v : Value) (l : List UInt8) (w : World) (hB : Bytes w v l) :
    Calls Try.prog 4 #[.int .u64 u, v] w fun e w' => e = .returned (.bool true) ∧ Below w.heap.size w w' := by
  have hv : ∃ a cap, v = .slice a l.length cap := by obtain ⟨a, cap, h, _⟩ := hB; exact ⟨a, cap, h⟩
  obtain ⟨a, cap, rfl⟩ := hv
  have htop : (u : Int) ≤ 18446744073709551615 := by unfold top at hu; omega
  by_cases h5 : (500 : Int) < (l.length : Int)
  · go_enter Try.func4, Try.ntmps4
    go_wp2_with (go_at_call 5; (with_reducible refine (awake_any _).mono ?_); rintro e w1 ⟨rfl, hb1⟩)
    go_ret
    exact ⟨rfl, hb1⟩
  · have hlen : l.length ≤ 1000000 := by omega
    have hxl : (⟨(hexOf l).toArray⟩ : ByteArray).size ≤ 1000000 := by
      show (hexOf l).toArray.size ≤ _
      rw [List.size_toArray, hexOf_length]; omega
    have hdl : (⟨(decs u).toArray⟩ : ByteArray).size ≤ maxLen := by
      show (decs u).toArray.size ≤ _
      rw [List.size_toArray]; have := decs_top u hu; unfold maxLen; omega
    have hr1 := (rd_decs u hu).1
    have hr2 := (rd_decs u hu).2
    have hr3 := (hx_hexOf l).2
    go_enter Try.func4, Try.ntmps4
    go_wp2_with fail
    refine (awake_any _).mono ?_; rintro e w1 ⟨rfl, hb1⟩
    have B1 := hB.below hb1
    go_wp2_with fail
    refine (print_any u hu _).mono ?_; rintro e w2 ⟨rfl, hb2⟩
    have B2 := B1.below hb2
    go_wp2_with fail
    refine (read_any _ hdl _).mono ?_; rintro e w' ⟨rfl, rfl⟩
    go_wp2_with fail
    refine (hex_any _ l _ B2 hlen).mono ?_; rintro e w3 ⟨rfl, hb3⟩
    have B3 := B2.below hb3
    go_wp2_with fail
    refine (readhex_any _ hxl _).mono ?_; rintro e w4 ⟨v4, rfl, hv4, hb4⟩
    have B4 := B3.below hb4
    have C4 := bytes_hx hv4
    go_wp2_with fail
    refine (print_any u hu _).mono ?_; rintro e w5 ⟨rfl, hb5⟩
    have B5 := B4.below hb5
    have C5 := C4.below hb5
    go_wp2_with fail
    refine (rprint_any u hu _).mono ?_; rintro e w6 ⟨rfl, hb6⟩
    have B6 := B5.below hb6
    have C6 := C5.below hb6
    go_wp2_with fail
    refine (hex_any _ l _ B6 hlen).mono ?_; rintro e w7 ⟨rfl, hb7⟩
    have B7 := B6.below hb7
    have C7 := C6.below hb7
    go_wp2_with fail
    refine (rhex_any _ l _ B7 hlen).mono ?_; rintro e w8 ⟨rfl, hb8⟩
    have B8 := B7.below hb8
    have C8 := C7.below hb8
    go_wp2_with fail
    refine (same_any _ _ l l _ B8 C8).mono ?_; rintro e w' ⟨rfl, rfl⟩
    go_wp2_with fail
    go_ret
    exact ⟨rfl, Below.next (Below.next (Below.next (below5 hb1 hb2 hb3 hb4 hb5) hb6) hb7) hb8⟩
end Go.Proofs.Ytbhgaboekjdpjaa
