/- Packets: Pad by contract. -/
import Derived.Test.YtkhomjbggfjleaaPkt11
namespace Go.Proofs.Ytkhomjbggfjleaa
set_option linter.unusedVariables false
set_option linter.unusedSimpArgs false
set_option maxRecDepth 100000
open Go.RowKit
def padN (size : Nat) (n : Int) : Nat := if n < 1 then 0 else if size % n.toNat = 0 then 0 else n.toNat - size % n.toNat
theorem padN_le (size : Nat) (n : Int) (hn : n ≤ 5000) : padN size n ≤ 5000 := by
  unfold padN
  split
  · omega
  split
  · omega
  · omega
theorem miss_any (size : Nat) (n : Int) (hs : size ≤ 100000) (hn : n ≤ 5000) (w : World) : Calls Try.prog 18 #[.int .i64 size, .int .i64 n] w fun e w' => e = .returned (.int .i64 (padN size n)) ∧ w' = w := by
  by_cases h1 : n < 1
  · have e : padN size n = 0 := by unfold padN; rw [if_pos h1]
    rw [e]
    go_enter Try.func18, Try.ntmps18
    go_wp2_with fail
    go_ret
    exact ⟨rfl, rfl⟩
  · obtain ⟨m, rfl⟩ : ∃ m : Nat, n = m := ⟨n.toNat, by omega⟩
    have hm0 : ¬ m = 0 := by omega
    have hm1 : (m : Int) ≠ 0 := by omega
    have hm2 : (1 : Int) ≤ m := by omega
    have hmod : (size : Int) % m = ((size % m : Nat) : Int) := by simp
    have htm : (size : Int).tmod m = ((size % m : Nat) : Int) := by rw [Int.tmod_eq_emod_of_nonneg (by omega)]; exact hmod
    have hlt := Nat.mod_lt size (show 0 < m by omega)
    by_cases h2 : size % m = 0
    · have e : padN size m = 0 := by unfold padN; rw [if_neg h1]; simp [h2]
      rw [e]
      rw [h2] at hmod htm
      go_enter Try.func18, Try.ntmps18
      go_wp2_with fail
      go_ret
      exact ⟨rfl, rfl⟩
    · have e : padN size m = m - size % m := by unfold padN; rw [if_neg h1]; simp [h2]
      rw [e]
      have hne : (((size % m : Nat) : Int) == 0) = false := beqf (by omega)
      generalize size % m = r at *
      have hri : (r : Int) < m := by omega
      have hr0 : (0 : Int) ≤ r := by omega
      go_enter Try.func18, Try.ntmps18
      go_wp2_with fail
      go_ret
      exact ⟨ret_int (by omega), rfl⟩
def PadRet (w : World) (a : List UInt8) (k : Nat) (e : Ending) (w' : World) : Prop :=
  ∃ g, e = .returned (.slice (some ⟨g, 0, none⟩) (a.length + k) (a.length + k)) ∧ Bytes w' (.slice (some ⟨g, 0, none⟩) (a.length + k) (a.length + k)) (a ++ List.replicate k 0) ∧ Below w.heap.size w w'
set_option maxHeartbeats 1000000 in
theorem pad_any (a : List UInt8) (ad : Option Addr) (cp : Nat) (n : Int) (w : World) (hv : Bytes w (.slice ad a.length cp) a) (hl : a.length ≤ 10000) (hn : n ≤ 5000) :
    Calls Try.prog 14 #[.slice ad a.length cp, .int .i64 n] w (PadRet w a (padN a.length n)) := by
  have HMS : Hid (∀ w, Calls Try.prog 18 #[.int .i64 a.length, .int .i64 n] w fun e w' => e = .returned (.int .i64 (padN a.length n)) ∧ w = w') := Lib.hid (fun w => (miss_any a.length n (by omega) hn w).mono fun e w' h => ⟨h.1, h.2.symm⟩)
  have hk := padN_le a.length n hn
  generalize padN a.length n = k at *
  have HAA : Hid (0 < a.length → ∃ ab ao, ad = some ⟨ab, ao, none⟩) := Lib.hid (fun h0 => by obtain ⟨ab, ao, c', he, _⟩ := look_cells hv h0; cases he; exact ⟨_, _, rfl⟩)
  obtain ⟨CA, hca'⟩ : ∃ X, X = cellsOf a := ⟨_, rfl⟩
  have hca : CA.length = a.length := by rw [hca']; simp [cellsOf]
  have HCA := Lib.hid hca'
  obtain ⟨X, hX⟩ : ∃ X, X = cellsOf (List.replicate (a.length + k) 0) := ⟨_, rfl⟩
  have hxl : X.length = a.length + k := by rw [hX]; simp [cellsOf]
  have HX := Lib.hid hX
  have HV := Lib.hid hv
  have hali : (a.length : Int) ≤ 10000 := by omega
  have hki : (k : Int) ≤ 5000 := by omega
  have hk0 : (0 : Int) ≤ k := by omega
  have ha0 : (0 : Int) ≤ a.length := by omega
  clear hca' hX hv
  go_enter Try.func14, Try.ntmps14
  go_wp2_with (first | (go_at_call 18; ((with_reducible refine (HMS.out _).mono ?_); rintro e w2 ⟨rfl, rfl⟩)) | (at_make; refine wpList_make_bytes rfl _ _ rfl _ _ (a.length + k) rfl rfl (by omega) (by omega) (by omega) ?_; intro w3 hg3 hb3; have HG := Lib.hid hg3; have HB := Lib.hid hb3; clear hg3 hb3) | (refine wpList_copy_splice rfl (.tmp 14) (.tmp 15) 22 22 rfl 5 Try.underlying22 (by kernel_rfl) _ _ _ _ _ _ rfl rfl w.heap.size 0 X 5 (by rw [HX.out]; exact HG.out) CA (by rw [hca]; show _ = min _ _; omega) (fun h0 => by obtain ⟨ab, ao, ha'⟩ := HAA.out (by omega); have hv := HV.out.below HB.out; rw [ha'] at hv; exact ⟨rfl, _, ha', by rw [HCA.out]; exact bytes_at hv⟩) (by rw [hxl]; omega) (by rw [HCA.out]; exact cells_one _) w.heap.size w HB.out (Nat.le_refl _) ?_; intro W7 HG7 hb7; have HB := Lib.hid hb7; clear hb7) | fail)
  go_ret
  have hfin := HG7.out
  rw [HX.out, HCA.out] at hfin
  have hsp : splice (cellsOf (List.replicate (a.length + k) 0)) 0 (cellsOf a) = cellsOf (a ++ List.replicate k 0) := by
    have hc : ∀ x y : List UInt8, cellsOf (x ++ y) = cellsOf x ++ cellsOf y := fun x y => by simp [cellsOf]
    rw [hc, ← List.replicate_append_replicate, hc]
    have h := splice_at ([] : List Value) (cellsOf (List.replicate a.length 0) ++ cellsOf (List.replicate k 0)) (cellsOf a) 0 rfl
    rw [List.nil_append, List.nil_append] at h
    rw [h, List.drop_left' (by simp [cellsOf])]
  rw [hsp] at hfin
  have hby := bytes_blk (cp := a.length + k) hfin
  have hlen : (a ++ List.replicate k (0 : UInt8)).length = a.length + k := by simp
  rw [hlen] at hby
  exact ⟨w.heap.size, rfl, hby, HB.out⟩
end Go.Proofs.Ytkhomjbggfjleaa
