import Derived.Test.YtbaceiohcbhpaaaDoorNum7
namespace Go.Proofs.YtbaceiohcbhpaaaDoor
set_option linter.unusedVariables false
set_option linter.unusedSimpArgs false
set_option maxRecDepth 100000
open Go.RowKit
attribute [local go_sem ↓] Go.wp_at_zero Go.wp_at_succ

theorem conv2 (wx : World) (x y : Int) : (convert 23 9 (.slice (some ⟨wx.heap.size, 0, none⟩) 2 2)).run Tryd.prog (wx.alloc (.cells #[.int .u8 x, .int .u8 y] 5)).drew = .ok (.string (strOfNums [x, y])) (wx.alloc (.cells #[.int .u8 x, .int .u8 y] 5)).drew :=
  run_convert_bytes_arg _ _ _ Tryd.underlying23 Tryd.underlying5 _ _ _ _ [x, y] rfl (fun i hi => by
    have hi1 : i < 2 := hi
    show (wx.alloc (.cells #[.int .u8 x, .int .u8 y] 5)).cell? _ = _
    rw [Nat.zero_add, World.cell?_alloc_mark]
    match i, hi1 with
    | 0, _ => rfl
    | 1, _ => rfl) _ Tryd.underlying9

theorem rhex_rel {l : List UInt8} {k : Nat} {u : UInt8} {s : ByteArray} (hlt : k < l.length) (hu : u = l.getD k 0) (hs : s.data.toList = hexOf (l.take k)) :
    (s ++ strOfNums [hexI ((u.toNat : Int) / 16), hexI ((u.toNat : Int) % 16)]).data.toList = hexOf (l.take (k + 1)) := by
  rw [List.take_succ_eq_append_getElem hlt, hexOf_snoc, ByteArray.data_append, Array.toList_append, hs, strOfNums_data]
  have hb := UInt8.toNat_lt u
  have e : l[k] = u := by rw [hu]; simp [List.getD, List.getElem?_eq_getElem hlt]
  rw [e]
  have h1 := hexI_hexD (u.toNat / 16) (by omega)
  have h2 := hexI_hexD (u.toNat % 16) (by omega)
  simp only [List.map_cons, List.map_nil, hexB]
  rw [show (u.toNat : Int) / 16 = ((u.toNat / 16 : Nat) : Int) by omega, show (u.toNat : Int) % 16 = ((u.toNat % 16 : Nat) : Int) by omega, h1, h2]
  simp

theorem wrap_q (u : UInt8) : IntKind.u8.wrap ((u.toNat : Int) / 16) = (u.toNat : Int) / 16 := by
  have := UInt8.toNat_lt u
  simp [IntKind.wrap, IntKind.bits, IntKind.signed]; omega
theorem wrap_r (u : UInt8) : IntKind.u8.wrap ((u.toNat : Int) % 16) = (u.toNat : Int) % 16 := by
  simp [IntKind.wrap, IntKind.bits, IntKind.signed]; omega
theorem tmod_q (u : UInt8) : (u.toNat : Int).tmod 16 = (u.toNat : Int) % 16 := Int.tmod_eq_emod_of_nonneg (by omega)

theorem rhex_any (v : Value) (l : List UInt8) (w : World) (hv : Bytes w v l) (hlen : l.length ≤ 1000000) :
    Calls Tryd.prog 31 #[v] w fun e w' => e = .returned (.string ⟨(hexOf l).toArray⟩) ∧ Below w.heap.size w w' := by
  obtain ⟨a, cap, rfl, hv⟩ := hv
  go_enter Tryd.func31, Tryd.ntmps31
  go_wp2_with fail
  go_loopw [3, 4] (fun t i wr => ∃ (s : ByteArray) (k : Nat), t = .string s ∧ i = .int .i64 k ∧ k ≤ l.length ∧ Below w.heap.size w wr ∧ s.data.toList = hexOf (l.take k)) (fun _ i _ => l.length - (intOf i).toNat)
  case atStart => exact ⟨_, 0, rfl, rfl, Nat.zero_le _, Below.refl _ _, rfl⟩
  case round =>
    obtain ⟨s, k, rfl, rfl, hk, hbel, hs⟩ := hrel
    by_cases hlt : k < l.length
    · obtain ⟨b, off, rfl, hc⟩ : ∃ b off, a = some ⟨b, off, none⟩ ∧ ∀ i, i < l.length → w.cell? ⟨b, off + i, none⟩ = some (.int .u8 (l.getD i 0).toNat) := by
        rcases hv with rfl | h
        · exact absurd hlt (by simp)
        · exact h
      obtain ⟨u, hu⟩ : ∃ u, u = l.getD k 0 := ⟨_, rfl⟩
      have hbl := World.block_lt_of_cell? w _ (hc k hlt)
      have hcell : wr.cell? ⟨b, off + k, none⟩ = some (.int .u8 u.toNat) := by rw [hu]; exact (hbel.cell (p := ⟨b, off + k, none⟩) hbl).trans (hc k hlt)
      have hsz : s.size ≤ 2 * k := by
        have := congrArg List.length hs
        rw [hexOf_length, List.length_take] at this
        simp only [Array.length_toList, ByteArray.size_data] at this; omega
      have HU := Lib.hid hu
      have HS := Lib.hid hs
      have HB := Lib.hid hbel
      clear hu hbel hc hv hs
      have hk0 : (0 : Int) ≤ (k : Int) := Int.natCast_nonneg _
      have hk1 : (k : Int) < (l.length : Int) := by omega
      have hub := UInt8.toNat_lt u
      have hx1 : (0 : Int) ≤ (u.toNat : Int) / 16 := by omega
      have hx2 : (u.toNat : Int) / 16 < 16 := by omega
      have hx3 : (0 : Int) ≤ (u.toNat : Int) % 16 := by omega
      have hx4 : (u.toNat : Int) % 16 < 16 := by omega
      have hc2 := conv2 wr
      have HDg : Hid (_ ∧ _) := Lib.hid ⟨digit_any ((u.toNat : Int) / 16) (by omega) (by omega), digit_any ((u.toNat : Int) % 16) (by omega) (by omega)⟩
      have hn : ¬ 9223372036854775807 < s.size + (strOfNums [hexI ((u.toNat : Int) / 16), hexI ((u.toNat : Int) % 16)]).size := by rw [strOfNums_size]; simp; omega
      have hw1 := wrap_q u
      have hw2 := tmod_q u
      have hw3 := wrap_r u
      go_wp2_with fail
      refine wp_region_noPanic ?_
      go_region_held (fun w' => w'.cell? ⟨b, off + k, none⟩ = some (.int .u8 u.toNat)) (go_keep)
        (first | (go_at_call 47; first | ((with_reducible refine (HDg.out.1 _).mono ?_); rintro e w' ⟨rfl, rfl⟩) | ((with_reducible refine (HDg.out.2 _).mono ?_); rintro e w' ⟨rfl, rfl⟩)))
      all_goals
        refine NoPanic.normal ?_
        go_wp2_with fail
        go_roundw
        case rel => exact ⟨_, k + 1, rfl, by go_num, by omega, (HB.out.alloc HB.out.size _).drew, rhex_rel hlt HU.out HS.out⟩
        case measure => simp [intOf]; omega
    · have HB := Lib.hid hbel
      have HS : Hid (s = ⟨(hexOf l).toArray⟩) := Lib.hid (by
        rw [show k = l.length by omega, List.take_length] at hs
        obtain ⟨⟨d⟩⟩ := s
        have : d = hexOf l := hs
        rw [this])
      clear hs hbel
      go_wp2_with fail
      go_ret
      exact ⟨ret_str HS.out, HB.out⟩
end Go.Proofs.YtbaceiohcbhpaaaDoor
