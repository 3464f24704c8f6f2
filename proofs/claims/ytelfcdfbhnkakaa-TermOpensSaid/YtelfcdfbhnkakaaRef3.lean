import Derived.Test.YtelfcdfbhnkakaaRef2
import Derived.Deep.LoopGhost
namespace Go.Proofs.Ytelfcdfbhnkakaa
set_option linter.unusedVariables false
set_option linter.unusedSimpArgs false
set_option maxRecDepth 100000
open Go.RowKit

def RTermIH (g : Nat) : Prop := ∀ (s : ByteArray) (p : Nat) (w : World), s.size ≤ 65536 → p ≤ s.size → s.size - p ≤ g + 1 →
  Calls Try.prog 26 #[.string s, .int .i64 p] w (NPost w s (pTermS (pLoop g) (s.data.toList.drop p)))

theorem term_results (W : World) (b k n : Nat) (ab : Option Addr) (bl cb : Nat) (ap : Option Addr) (pl cp : Nat) (j : Int) (h : W.heap[b]? = some (.cells (nodeC k n ab bl cb ap pl cp) 27 (0, 0))) (T : Array Value) (h6 : T.getD 4 undef = .pointer (some ⟨b, 0, none⟩)) (h7 : T.getD 5 undef = .int .i64 j) :
    (results Try.f26 T).run Try.prog W = .ok (.tuple #[.agg (nodeC k n ab bl cb ap pl cp), .int .i64 j]) W := by
  have c0 := cell_of h 0 rfl; have c1 := cell_of h 1 rfl; have c2 := cell_of h 2 rfl; have c3 := cell_of h 3 rfl
  have e6 : T[4]?.getD undef = .pointer (some ⟨b, 0, none⟩) := by simpa using h6
  have e7 : T[5]?.getD undef = .int .i64 j := by simpa using h7
  simp [results, Try.results26, go_sem, e6, e7, c0, c1, c2, c3]

theorem at_next (s : ByteArray) (q : Nat) (hs : s.size ≤ maxLen) (hq : q ≤ 1000000) (w : World) : Calls Try.prog 36 #[.string s, .int .i64 ((q : Int) + 1)] w fun e w' => e = .returned (.int .u8 (byteAt s (q + 1))) ∧ w = w' := at_any s (q + 1) hs (by omega) w
theorem at_lit (s : ByteArray) (q : Nat) (hs : s.size ≤ maxLen) (hq : q ≤ 1000000) (w : World) : Calls Try.prog 36 #[.string s, .int .i64 q] w fun e w' => e = .returned (.int .u8 (byteAt s q)) ∧ w = w' := at_any s q hs (by omega) w
theorem byte_u8 (s : ByteArray) (p : Nat) : ((byteAt s p).toNat.toUInt8.toNat : Int) = byteAt s p := by
  by_cases h : p < s.size
  · rw [byte_lt s p h, byteAt_lt h]
  · rw [byteAt_ge h]; rfl
theorem rkind_v (c : Int) (k : Nat) (hk : ((c.toNat.toUInt8.toNat : Nat) : Int) = c ∧ kindOf c.toNat.toUInt8 = k) (w : World) : Calls Try.prog 35 #[.int .u8 c] w fun e w' => e = .returned (.int .i64 k) ∧ w = w' := by
  have := rkind_any c.toNat.toUInt8 w
  rw [hk.1, hk.2] at this
  exact this

theorem rterm_none (g : Nat) (s : ByteArray) (p : Nat) (w : World) (hs : s.size ≤ 65536) (hp : p ≤ s.size) (hk : kindOf (byteAt s p).toNat.toUInt8 = 0) :
    Calls Try.prog 26 #[.string s, .int .i64 p] w (NPost w s (pTermS (pLoop g) (s.data.toList.drop p))) := by
  have hsm : s.size ≤ maxLen := by unfold maxLen; omega
  have hp63 : p ≤ 9223372036854775807 := by omega
  have HO : Hid (pTermS (pLoop g) (s.data.toList.drop p) = none) := Lib.hid (by
    by_cases hlt : p < s.size
    · rw [drop_at s p hlt]
      rw [byte_lt s p hlt] at hk
      simp [pTermS, hk, shapeOf]
    · rw [drop_end s p hlt]; rfl)
  have HKI := Lib.hid (And.intro (byte_u8 s p) hk)
  have hz := zero_node
  obtain ⟨k, hk0⟩ : ∃ k, k = 0 := ⟨0, rfl⟩
  rw [← hk0] at HKI
  subst hk0
  clear hk
  go_enter Try.func26, Try.ntmps26
  go_wp2_with (first | (go_at_call 36; ((with_reducible refine (at_any s p hsm hp63 _).mono ?_); rintro e w' ⟨rfl, rfl⟩)) | (go_at_call 35; ((with_reducible refine (rkind_v _ 0 HKI.out _).mono ?_); rintro e w' ⟨rfl, rfl⟩)) | fail)
  refine bodyPost_ret (term_results _ w.heap.size 0 0 none 0 0 none 0 0 (-1) (heap_alloc_new w _) _ rfl rfl) rfl ?_
  rw [HO.out]
  exact ⟨rfl, (Below.refl _ _).alloc (Nat.le_refl _) _⟩

theorem rterm_leaf (g : Nat) (s : ByteArray) (p : Nat) (w : World) (hs : s.size ≤ 65536) (hp : p ≤ s.size) (k : Nat) (hk : kindOf (byteAt s p).toNat.toUInt8 = k) (h1 : 1 ≤ k) (h4 : k ≤ 4) :
    Calls Try.prog 26 #[.string s, .int .i64 p] w (NPost w s (pTermS (pLoop g) (s.data.toList.drop p))) := by
  have hsm : s.size ≤ maxLen := by unfold maxLen; omega
  have hp63 : p ≤ 9223372036854775807 := by omega
  have hlt : p < s.size := by
    by_cases hlt : p < s.size
    · exact hlt
    · rw [byte_ge s p hlt] at hk; have : kindOf 0 = 0 := rfl; omega
  obtain ⟨sh, hsh⟩ := shape_ex h1 (by omega)
  have HO : Hid (pTermS (pLoop g) (s.data.toList.drop p) = (pLeaf k sh (s.data.toList.drop (p + 1))).bind fun x => some (k, x.1, x.2.1, [], x.2.2)) := Lib.hid (by
    rw [drop_at s p hlt]
    rw [byte_lt s p hlt] at hk
    simp only [pTermS, hk, hsh]
    show (if k ≤ 4 then _ else _) = _
    rw [if_pos h4])
  have HLF : Hid (∀ w, Calls Try.prog 37 #[.string s, .int .i64 ((p : Int) + 1), .int .i64 k] w (NPost w s ((pLeaf k sh (s.data.toList.drop (p + 1))).bind fun x => some (k, x.1, x.2.1, [], x.2.2)))) := Lib.hid fun w => leaf_any k h1 h4 sh hsh s (p + 1) hs hlt w
  rw [HO.out]
  have HKI := Lib.hid (And.intro (byte_u8 s p) hk)
  have hz := zero_node
  have hk0 : ((k : Int) == 0) = false := beqf (by omega)
  generalize (pLeaf k sh (s.data.toList.drop (p + 1))).bind (fun x => some (k, x.1, x.2.1, [], x.2.2)) = o at *
  clear hk hsh
  cases o with
  | none =>
    go_enter Try.func26, Try.ntmps26
    go_wp2_with (first | (go_at_call 36; ((with_reducible refine (at_any s p hsm hp63 _).mono ?_); rintro e w' ⟨rfl, rfl⟩)) | (go_at_call 35; ((with_reducible refine (rkind_v _ k HKI.out _).mono ?_); rintro e w' ⟨rfl, rfl⟩)) | (go_at_call 37; ((with_reducible refine (HLF.out _).mono ?_); rintro e w1 ⟨rfl, hB⟩; have hbx := (hB.block w.heap.size (by simp)).trans (heap_alloc_new w _); have q0 := cell_of hbx 0 rfl; have q1 := cell_of hbx 1 rfl; have q2 := cell_of hbx 2 rfl; have q3 := cell_of hbx 3 rfl; have qf := fun i => free_of hbx i; have HBX := Lib.hid hbx; have HB := Lib.hid hB; clear hbx hB)) | fail)
    refine bodyPost_ret (term_results _ w.heap.size 0 0 none 0 0 none 0 0 (-1) (chain4_box HBX.out rfl) _ rfl rfl) rfl ?_
    exact ⟨rfl, chain4_below (((Below.refl _ _).alloc (Nat.le_refl _) _).trans (HB.out.mono (by simp))) (Nat.le_refl _)⟩
  | some x =>
    obtain ⟨k1, n1, b1, ps1, r1⟩ := x
    go_enter Try.func26, Try.ntmps26
    go_wp2_with (first | (go_at_call 36; ((with_reducible refine (at_any s p hsm hp63 _).mono ?_); rintro e w' ⟨rfl, rfl⟩)) | (go_at_call 35; ((with_reducible refine (rkind_v _ k HKI.out _).mono ?_); rintro e w' ⟨rfl, rfl⟩)) | (go_at_call 37; ((with_reducible refine (HLF.out _).mono ?_); rintro e w1 ⟨ab, cb, ap, cp, rfl, hvb, hvp, hB⟩; have hbx := (hB.block w.heap.size (by simp)).trans (heap_alloc_new w _); have q0 := cell_of hbx 0 rfl; have q1 := cell_of hbx 1 rfl; have q2 := cell_of hbx 2 rfl; have q3 := cell_of hbx 3 rfl; have qf := fun i => free_of hbx i; have HBX := Lib.hid hbx; have HVB := Lib.hid hvb; have HVP := Lib.hid hvp; have HB := Lib.hid hB; clear hbx hB hvb hvp; unfold NodeRes)) | fail)
    refine bodyPost_ret (term_results _ w.heap.size k1 n1 ab b1.length cb ap ps1.length cp (posOf s r1) (chain4_box HBX.out rfl) _ rfl rfl) rfl ?_
    exact ⟨ab, cb, ap, cp, rfl, bytes_other (kk := 0) (n := 0) HVB.out HBX.out (fun q hq => chain4_other hq), strs_other (kk := 0) (n := 0) HVP.out HBX.out (fun q hq => chain4_other hq), chain4_below (((Below.refl _ _).alloc (Nat.le_refl _) _).trans (HB.out.mono (by simp))) (Nat.le_refl _)⟩
end Go.Proofs.Ytelfcdfbhnkakaa
