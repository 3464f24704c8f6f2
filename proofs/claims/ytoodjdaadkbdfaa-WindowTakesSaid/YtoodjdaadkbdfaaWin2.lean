/- Windows: OnesCount64 by contract. -/
import Derived.Test.YtoodjdaadkbdfaaWin1
namespace Go.Proofs.Ytoodjdaadkbdfaa
set_option linter.unusedVariables false
set_option linter.unusedSimpArgs false
set_option maxRecDepth 100000
open Go.RowKit
theorem c256 (f g : Nat) (h : g = f + f / 256) : (f : Int) + f / 256 = (g : Int) := by subst h; omega
theorem c65536 (f g : Nat) (h : g = f + f / 65536) : (f : Int) + f / 65536 = (g : Int) := by subst h; omega
theorem c32 (f g : Nat) (h : g = f + f / 4294967296) : (f : Int) + f / 4294967296 = (g : Int) := by subst h; omega
theorem le64 (x : Nat) (h : x < 2 ^ 64) : (x : Int) ≤ 18446744073709551615 := by omega
theorem le64s (x y : Nat) (h : x + y < 2 ^ 64) : (x : Int) + y ≤ 18446744073709551615 := by omega
theorem le64d (x : Nat) (h : x / 16 + x < 2 ^ 64) : (x : Int) / 16 + x ≤ 18446744073709551615 := by omega
theorem f1 (x a : Nat) (hx : x < 2 ^ 64) (ha : a = x / 2 &&& 6148914691236517205) : bits BinOp.and IntKind.u64 ((x : Int) / 2) 6148914691236517205 = (a : Int) := by
  rw [ha]; clear ha; exact and_u64c (x / 2) 6148914691236517205 _ _ (by omega) (by omega) (by omega) (by omega)
theorem f2 (x a : Nat) (hx : x < 2 ^ 64) (ha : a = x &&& 6148914691236517205) : bits BinOp.and IntKind.u64 (x : Int) 6148914691236517205 = (a : Int) := by
  rw [ha]; clear ha; exact and_u64c x 6148914691236517205 _ _ rfl (by omega) hx (by omega)
theorem f3 (x a : Nat) (hx : x < 2 ^ 64) (ha : a = x / 4 &&& 3689348814741910323) : bits BinOp.and IntKind.u64 ((x : Int) / 4) 3689348814741910323 = (a : Int) := by
  rw [ha]; clear ha; exact and_u64c (x / 4) 3689348814741910323 _ _ (by omega) (by omega) (by omega) (by omega)
theorem f4 (x a : Nat) (hx : x < 2 ^ 64) (ha : a = x &&& 3689348814741910323) : bits BinOp.and IntKind.u64 (x : Int) 3689348814741910323 = (a : Int) := by
  rw [ha]; clear ha; exact and_u64c x 3689348814741910323 _ _ rfl (by omega) hx (by omega)
theorem f5 (x a : Nat) (hx : x / 16 + x < 2 ^ 64) (ha : a = (x / 16 + x) &&& 1085102592571150095) : bits BinOp.and IntKind.u64 ((x : Int) / 16 + x) 1085102592571150095 = (a : Int) := by
  rw [ha]; clear ha; exact and_u64c (x / 16 + x) 1085102592571150095 _ _ (by omega) (by omega) hx (by omega)
theorem f6 (k p : Nat) (hk : k < 2 ^ 64) (h : k % 128 = p) : bits BinOp.and IntKind.i64 (IntKind.i64.wrap (k : Int)) 127 = (p : Int) := by
  show IntKind.i64.wrap (((BitVec.ofInt 64 (IntKind.i64.wrap (k : Int)) &&& BitVec.ofInt 64 (127 : Int)).toNat : Nat) : Int) = _
  have e : (BitVec.ofInt 64 (IntKind.i64.wrap (k : Int))).toNat = k := by
    rw [BitVec.toNat_ofInt, IntKind.wrap_i64]; omega
  have e2 : (BitVec.ofInt 64 (127 : Int)).toNat = 127 := by decide
  rw [BitVec.toNat_and, e, e2, show k &&& 127 = k % 128 from Nat.and_two_pow_sub_one_eq_mod k 7, h, IntKind.wrap_i64]
  omega
theorem f6w (k p : Nat) (hk : k < 2 ^ 64) (h : k % 128 = p) : bits BinOp.and IntKind.i64 (wrap64 (k : Int)) 127 = (p : Int) := by
  rw [show wrap64 (k : Int) = IntKind.i64.wrap (k : Int) by unfold wrap64; rw [IntKind.wrap_i64]]
  exact f6 k p hk h
theorem nsum (a b s : Nat) (h : s = a + b) : (a : Int) + b = (s : Int) := by subst h; omega
theorem ones_any (x : Nat) (hx : x < 2 ^ 64) (w : World) : Calls Try.prog 22 #[.int .u64 x] w fun e w' => e = .returned (.int .i64 (pc x 64 : Nat)) ∧ w = w' := by
  obtain ⟨a, ha⟩ : ∃ a, a = x / 2 &&& 6148914691236517205 := ⟨_, rfl⟩
  obtain ⟨b, hb⟩ : ∃ b, b = x &&& 6148914691236517205 := ⟨_, rfl⟩
  obtain ⟨s, hs⟩ : ∃ s, s = a + b := ⟨_, rfl⟩
  obtain ⟨c, hc⟩ : ∃ c, c = s / 4 &&& 3689348814741910323 := ⟨_, rfl⟩
  obtain ⟨d, hd⟩ : ∃ d, d = s &&& 3689348814741910323 := ⟨_, rfl⟩
  obtain ⟨t, ht⟩ : ∃ t, t = c + d := ⟨_, rfl⟩
  obtain ⟨f, hf⟩ : ∃ f, f = (t / 16 + t) &&& 1085102592571150095 := ⟨_, rfl⟩
  obtain ⟨b1, b2, b3, b4, b5, b6, h, h64⟩ := ones_eq x s t f hx (by rw [hs, ha, hb]) (by rw [ht, hc, hd]) hf
  obtain ⟨g, hg⟩ : ∃ g, g = f + f / 256 := ⟨_, rfl⟩
  rw [← hg] at b4 b5 b6 h
  obtain ⟨i, hi⟩ : ∃ i, i = g + g / 65536 := ⟨_, rfl⟩
  rw [← hi] at b5 b6 h
  obtain ⟨k, hk⟩ : ∃ k, k = i + i / 4294967296 := ⟨_, rfl⟩
  rw [← hk] at b6 h
  have e1 := f1 x a hx ha
  have e2 := f2 x b hx hb
  have es := nsum a b s hs
  have e3 := f3 s c b1 hc
  have e4 := f4 s d b1 hd
  have et := nsum c d t ht
  have e5 := f5 t f b3 hf
  have e6 := c256 f g hg
  have e7 := c65536 g i hi
  have e8 := c32 i k hk
  have e9 := f6w k _ b6 h
  have q1 := le64 s b1
  have q2 := le64 t b2
  have q3 := le64d t b3
  have q4 := le64 g b4
  have q5 := le64 i b5
  have q6 := le64 k b6
  have q7 := le64 x hx
  clear ha hb hs hc hd ht hf hg hi hk b1 b2 b3 b4 b5 b6 h h64 hx
  go_enter Try.func22, Try.ntmps22
  go_wp2_with fail
  go_ret
  exact ⟨rfl, rfl⟩
end Go.Proofs.Ytoodjdaadkbdfaa
