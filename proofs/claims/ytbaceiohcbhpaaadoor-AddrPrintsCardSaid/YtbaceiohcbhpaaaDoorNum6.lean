import Derived.Test.YtbaceiohcbhpaaaDoorNum5
namespace Go.Proofs.YtbaceiohcbhpaaaDoor
set_option linter.unusedVariables false
set_option linter.unusedSimpArgs false
set_option maxRecDepth 100000
open Go.RowKit

theorem hexdigit_at (j : Nat) (hj : j < 16) (h : j < (⟨#[48, 49, 50, 51, 52, 53, 54, 55, 56, 57, 97, 98, 99, 100, 101, 102]⟩ : ByteArray).size) : ((⟨#[48, 49, 50, 51, 52, 53, 54, 55, 56, 57, 97, 98, 99, 100, 101, 102]⟩ : ByteArray)[j]'h).toNat = (hexD j).toNat := by
  have key : ∀ i : Fin 16, ∀ h', ((⟨#[48, 49, 50, 51, 52, 53, 54, 55, 56, 57, 97, 98, 99, 100, 101, 102]⟩ : ByteArray)[i.val]'h').toNat = (hexD i.val).toNat := by decide +kernel
  exact key ⟨j, hj⟩ h

theorem decs_step (m u : Nat) (L : List UInt8) (h : ¬ m < 10) (hd : decs m ++ L = decs u) : decs (m / 10) ++ (hexD (m % 10) :: L) = decs u := by
  rw [← hd, decs_big h]
  have e : hexD (m % 10) = UInt8.ofNat (48 + m % 10) := by unfold hexD; rw [if_pos (by omega)]
  rw [e]; simp
theorem decs_last (m u : Nat) (L : List UInt8) (h : m < 10) (hd : decs m ++ L = decs u) : hexD (m % 10) :: L = decs u := by
  rw [← hd, decs_small h]
  have e : hexD (m % 10) = UInt8.ofNat (48 + m) := by unfold hexD; rw [if_pos (by omega), Nat.mod_eq_of_lt h]
  rw [e]; rfl

theorem arr20 : Tryd.prog.arrayLen 65 = 20 := by kernel_rfl
theorem add_at (b o j : Nat) : (⟨b, o, none⟩ : Addr).add j = ⟨b, o + j, none⟩ := by unfold Addr.add; split <;> simp_all
theorem slice20 (b k : Nat) (hk : k < 20) (wx : World) : (Instr.sliceAt 65 (.pointer (some ⟨b, 0, none⟩)) (some (.int .i64 k)) none none).run Tryd.prog wx = .ok (.slice (some ⟨b, k, none⟩) (20 - k) (20 - k)) wx := by
  rw [run_sliceAt_array_l wx 65 ⟨b, 0, none⟩ (by rw [arr20]; kernel_rfl) .i64 k (by omega) (by rw [arr20]; omega)]
  have hs : (sizeOf (Tryd.prog.elem 65)).run Tryd.prog wx = .ok 1 wx := by kernel_rfl
  rw [hs, arr20]
  simp only [Result.andThen, slicedAt, Int.toNat_natCast]
  rw [if_neg (by omega), add_at]
  simp
theorem conv20 (wx : World) (C : Array Value) (k : Nat) (l : List UInt8) (hk : l.length = 20 - k) (h : C.toList.drop k = l.map (fun b => Value.int .u8 b.toNat)) :
    (convert 23 9 (.slice (some ⟨wx.heap.size, k, none⟩) (20 - k) (20 - k))).run Tryd.prog (wx.alloc (.cells C 65)) = .ok (.string ⟨l.toArray⟩) (wx.alloc (.cells C 65)) := by
  rw [← hk]
  refine run_convert_bytes_back _ _ _ _ _ _ l Tryd.underlying23 Tryd.underlying5 Tryd.underlying9 fun j hj => ?_
  rw [add_at, World.cell?_alloc_mark]
  have h1 := congrArg (fun x => x[j]?) h
  simp only [List.getElem?_drop, List.getElem?_map, List.getElem?_eq_getElem hj, Option.map_some] at h1
  simpa using h1

theorem drop_set (C : Array Value) (k : Nat) (v : Value) (L : List Value) (hk : k < C.size) (h : C.toList.drop (k + 1) = L) : (C.setIfInBounds k v).toList.drop k = v :: L := by
  rw [Array.toList_setIfInBounds, ← h, List.drop_set]
  rw [if_neg (by omega), Nat.sub_self]
  rw [List.drop_eq_getElem_cons (by simpa using hk)]
  rfl

set_option maxRecDepth 100000 in
theorem print_any (u : Nat) (hu : u ≤ top) (w : World) :
    Calls Tryd.prog 26 #[.int .u64 u] w fun e w' => e = .returned (.string ⟨(decs u).toArray⟩) ∧ Below w.heap.size w w' := by
  have htop : (u : Int) ≤ 18446744073709551615 := by unfold top at hu; omega
  go_enter Tryd.func26, Tryd.ntmps26
  go_wp2_with fail
  refine wp_scope_goto 0 (fun n a' w' => ∃ (C : Array Value) (m i : Nat) (L : List UInt8), ∃ (u1 u5 u6 u7 u8 u9 u10 u11 u12 u13 u14 u15 u16 u17 u18 : Value), a' = { tmps := #[.int .u64 m, u1, .string ⟨#[]⟩, .pointer (some ⟨w.heap.size, 0, none⟩), .int .i64 i, u5, u6, u7, u8, u9, u10, u11, u12, u13, u14, u15, u16, u17, u18], defers := [] } ∧ w' = w.alloc (.cells C 65) ∧ m = n ∧ m ≤ u ∧ C.size = 20 ∧ i + L.length = 20 ∧ decs m ++ L = decs u ∧ C.toList.drop i = L.map (fun b => Value.int .u8 b.toNat)) rfl ?_ ?_
  · intro R hpass hout
    go_wp2
    go_step3
    go_step
    go_step
    exact hpass u _ _ ⟨_, u, 20, [], _, _, _, _, _, _, _, _, _, _, _, _, _, _, _, rfl, rfl, rfl, Nat.le_refl _, rfl, rfl, by simp, rfl⟩
  · intro n a' w' hrel J hJ
    obtain ⟨C, m, i, L, u1, u5, u6, u7, u8, u9, u10, u11, u12, u13, u14, u15, u16, u17, u18, rfl, rfl, hn, hmu, hC, hi, hd, hL⟩ := hrel
    subst hn
    have hix := fun h => hexdigit_at (m % 10) (by omega) h
    have hlen : 0 < (decs m).length ∧ (decs m).length + L.length ≤ 20 := by
      have := congrArg List.length hd
      rw [List.length_append] at this
      have h2 := decs_top u hu
      have h3 : 0 < (decs m).length := List.length_pos_iff.mpr (decs_ne m)
      omega
    obtain ⟨k, rfl⟩ : ∃ k, i = k + 1 := ⟨i - 1, by omega⟩
    have hk : k < 20 := by omega
    have HL : Hid (L.length + (k + 1) = 20) := Lib.hid (by omega)
    have H : Hid ((C.setIfInBounds k (.int .u8 (hexD (m % 10)).toNat)).toList.drop k = (hexD (m % 10) :: L).map (fun b => Value.int .u8 b.toNat)) := Lib.hid (drop_set C k _ _ (by omega) hL)
    have HD := Lib.hid hd
    have HC := Lib.hid hC
    have hcell : (w.alloc (.cells C 65)).cell? ⟨w.heap.size, k, none⟩ = some (C.getD k undef) := by
      rw [World.cell?_alloc_mark]; rw [Array.getElem?_eq_getElem (by omega)]; simp [Array.getD, show k < C.size by omega]
    clear hL hd hi hC hlen
    have hsl := slice20 w.heap.size k hk
    have hcv := conv20 w _ k _ (by have := HL.out; simp; omega) H.out
    by_cases h10 : 0 < (m : Int) / 10
    · go_wp2_with fail
      go_step3
      go_step
      refine jump_back (hJ (m / 10) _ _ (by omega) ⟨C.setIfInBounds k (.int .u8 (hexD (m % 10)).toNat), m / 10, k, hexD (m % 10) :: L, _, _, _, _, _, _, _, _, _, _, _, _, _, _, _, rfl, rfl, rfl, by omega, ?_, ?_, decs_step m u L (by omega) HD.out, H.out⟩)
      · rw [Array.size_setIfInBounds]; exact HC.out
      · have := HL.out; simp; omega
    · go_wp2_with fail
      refine jump_ret ?_
      go_ret
      exact ⟨ret_str (by rw [decs_last m u L (by omega) HD.out]), (Below.refl _ _).alloc (Nat.le_refl _) _⟩
end Go.Proofs.YtbaceiohcbhpaaaDoor
