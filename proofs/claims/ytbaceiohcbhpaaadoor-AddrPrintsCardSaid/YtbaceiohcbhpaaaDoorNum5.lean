import Derived.Test.YtbaceiohcbhpaaaDoorNum3
namespace Go.Proofs.YtbaceiohcbhpaaaDoor
set_option linter.unusedVariables false
set_option linter.unusedSimpArgs false
set_option maxRecDepth 100000
open Go.RowKit

theorem conv1 (wx : World) (x : Int) : (convert 23 9 (.slice (some ⟨wx.heap.size, 0, none⟩) 1 1)).run Tryd.prog (wx.alloc (.cells #[.int .u8 x] 5)) = .ok (.string (strOfNums [x])) (wx.alloc (.cells #[.int .u8 x] 5)) :=
  run_convert_bytes_arg _ _ _ Tryd.underlying23 Tryd.underlying5 _ _ _ _ [x] rfl (fun i hi => by
    have hi1 : i < 1 := hi
    obtain rfl : i = 0 := by omega
    exact World.cell?_alloc_mark wx _ _ _ 0) _ Tryd.underlying9

theorem decs_len : ∀ (n u : Nat), u < 10 ^ (n + 1) → (decs u).length ≤ n + 1 := by
  intro n
  induction n with
  | zero => intro u h; rw [decs_small (by omega)]; simp
  | succ n ih =>
    intro u h
    by_cases h1 : u < 10
    · rw [decs_small h1]; simp
    · rw [decs_big h1]
      have := ih (u / 10) (by rw [Nat.pow_succ] at h; omega)
      simp only [List.length_append, List.length_cons, List.length_nil]; omega
theorem decs_top (u : Nat) (h : u ≤ top) : (decs u).length ≤ 20 := decs_len 19 u (by unfold top at h; omega)

theorem ret_dec (m u : Nat) (s : ByteArray) (hm : m ≤ 9) (h : decs m ++ s.data.toList = decs u) : strOfNums [48 + (m : Int)] ++ s = ⟨(decs u).toArray⟩ := by
  rw [← h, decs_small (by omega)]
  obtain ⟨⟨l⟩⟩ := s
  apply ByteArray.ext
  rw [ByteArray.data_append]
  simp only [strOfNums, List.map_cons, List.map_nil, show (48 + (m : Int)).toNat = 48 + m by omega]
  simp
theorem dec_next (m u : Nat) (s : ByteArray) (hm : 9 < m) (h : decs m ++ s.data.toList = decs u) : decs (m / 10) ++ (strOfNums [48 + (m : Int) % 10] ++ s).data.toList = decs u := by
  rw [← h, decs_big (u := m) (by omega), ByteArray.data_append]
  simp only [strOfNums, List.map_cons, List.map_nil, show (48 + (m : Int) % 10).toNat = 48 + m % 10 by omega]
  simp

theorem rprint_any (u : Nat) (hu : u ≤ top) (w : World) :
    Calls Tryd.prog 30 #[.int .u64 u] w fun e w' => e = .returned (.string ⟨(decs u).toArray⟩) ∧ Below w.heap.size w w' := by
  have htop : (u : Int) ≤ 18446744073709551615 := by unfold top at hu; omega
  have hc := conv1
  go_enter Tryd.func30, Tryd.ntmps30
  go_wp2_with fail
  go_loopw [0, 3] (fun v t wr => ∃ (m : Nat) (s : ByteArray), v = .int .u64 m ∧ t = .string s ∧ Below w.heap.size w wr ∧ m ≤ u ∧ decs m ++ s.data.toList = decs u) (fun v _ _ => (intOf v).toNat)
  case atStart => exact ⟨u, _, rfl, rfl, Below.refl _ _, Nat.le_refl _, by simp⟩
  case round =>
    obtain ⟨m, s, rfl, rfl, hbel, hmu, hd⟩ := hrel
    have hsz : s.size ≤ 20 := by
      have := congrArg List.length hd
      rw [List.length_append] at this
      have h2 := decs_top u hu
      simp only [Array.length_toList, ByteArray.size_data] at this; omega
    have HD := Lib.hid hd
    have HB := Lib.hid hbel
    clear hd hbel
    by_cases h9 : 9 < m
    · have hn : ¬ 9223372036854775807 < (strOfNums [48 + (m : Int) % 10]).size + s.size := by rw [strOfNums_size]; simp; omega
      go_wp2_with fail
      go_roundw
      case rel => exact ⟨m / 10, _, by go_num, rfl, HB.out.alloc HB.out.size _, by omega, dec_next m u s h9 HD.out⟩
      case measure => simp [intOf]; omega
    · have hn : ¬ 9223372036854775807 < (strOfNums [48 + (m : Int)]).size + s.size := by rw [strOfNums_size]; simp; omega
      go_wp2_with fail
      go_ret
      exact ⟨ret_str (ret_dec m u s (by omega) HD.out), HB.out.alloc HB.out.size _⟩
end Go.Proofs.YtbaceiohcbhpaaaDoor
