import Derived.Test.YtelfcdfbhnkakaaTermLaw1
import Derived.Deep.RegionHeld3
namespace Go.Proofs.Ytelfcdfbhnkakaa
set_option linter.unusedVariables false
set_option linter.unusedSimpArgs false
set_option maxRecDepth 100000
open Go.RowKit

theorem bytes_drew {w : World} {v : Value} {l : List UInt8} (h : Bytes w v l) (m : Nat) : Bytes (w.drewN m) v l := h
theorem strs_drew {w : World} {v : Value} {l : List (List UInt8)} (h : Strs w v l) (m : Nat) : Strs (w.drewN m) v l := h
theorem term_kind {f : Nat} {t : List UInt8} {k n : Nat} {b : List UInt8} {ps : List (List UInt8)} {rest : List UInt8} (h : pTermS (pLoop f) t = some (k, n, b, ps, rest)) : k ≤ 11 := by
  cases t with
  | nil => cases h
  | cons c r =>
    have hk := kindOf_le c
    simp only [pTermS] at h
    obtain ⟨sh, hsh, h⟩ := Option.bind_eq_some_iff.1 h
    split at h
    · obtain ⟨y, hy, h⟩ := Option.bind_eq_some_iff.1 h
      cases h; exact hk
    · obtain ⟨r1, hr1, h⟩ := Option.bind_eq_some_iff.1 h
      obtain ⟨x, hx, h⟩ := Option.bind_eq_some_iff.1 h
      split at h
      · cases h; exact hk
      · obtain ⟨y, hy, h⟩ := Option.bind_eq_some_iff.1 h
        cases h; exact hk
theorem look_kind {t : List UInt8} {k n : Nat} {ps : List (List UInt8)} (h : lookR t = (k, n, ps)) (h0 : k ≠ 0) : 1 ≤ k ∧ k ≤ 11 := by
  refine ⟨by omega, ?_⟩
  have hq := lookR_some h h0
  have hp := look_eq t
  rw [hq] at hp
  simp only [Option.map_some] at hp
  unfold pLook at hp
  split at hp
  · obtain ⟨x, hx, hp⟩ := Option.bind_eq_some_iff.1 hp
    obtain ⟨k', n', b', ps', rest⟩ := x
    split at hp
    · simp only [Option.some.injEq, Prod.mk.injEq] at hp
      rw [← hp.1]
      exact term_kind hx
    · cases hp
  · cases hp
theorem make_back (s : ByteArray) (k n : Nat) (b : List UInt8) (ps : List (List UInt8)) (hx : lookR s.data.toList = (k, n, ps)) (hb : bytesR s.data.toList = b) (hsm : s.size ≤ maxLen) (hps : ps.length ≤ maxLen) (hk : k ≠ 0) (w : World) (vb vl : Value) (h1 : Bytes w vb b) (h2 : Strs w vl ps) :
    Calls Try.prog 15 #[.int .i64 k, .int .u64 n, vb, vl] w fun e w' => e = .returned (.string s) ∧ Below w.heap.size w w' := by
  obtain ⟨hl, ht, hn⟩ := read_text hx hk
  have hk11 := look_kind hx hk
  have hbb : bytesIn k s.data.toList = b := by
    have h := node_eq s.data.toList
    unfold nodeR at h
    rw [look_eq, lookR_some hx hk, hx, hb] at h
    simpa using h
  have hm := make_read hx hk
  rw [hbb] at hm
  have hbl : b.length ≤ maxLen := by
    by_cases h4 : k = 4
    · subst h4
      have := text_bytes n b ps
      rw [← hbb, ← ht] at this
      rw [← hbb]
      unfold maxLen; omega
    · have : b = [] := by rw [← hb]; unfold bytesR; rw [hx]; exact if_neg h4
      rw [this]; exact Nat.zero_le _
  have hmk := make_any k n hn vb vl b ps w h1 h2 hbl hps
  have e : makeR k n b ps = s.data.toList := by
    unfold makeR
    rw [if_pos (by omega), Int.toNat_natCast, hm]
  rw [e, strB_self] at hmk
  exact hmk
theorem eq_self_ret {w : World} {l : List (List UInt8)} {e : Ending} {w' : World} (h : EqRet w (l == l) e w') : e = .returned (.bool true) ∧ ∃ q, w' = w.drewN q := by
  have : (l == l) = true := by simp
  rw [this] at h; exact h
theorem rsame2_self (va vb : Value) (l : List (List UInt8)) (w : World) (ha : Strs w va l) (hb : Strs w vb l) (h1 : l.length ≤ maxLen) : Calls Try.prog 13 #[va, vb] w fun e w' => e = .returned (.bool true) ∧ ∃ q, w' = w.drewN q :=
  (rsame2_any va vb l l w ha hb h1 h1).mono fun e w' h => eq_self_ret h
theorem same_self (va vb : Value) (l : List UInt8) (w : World) (ha : Bytes w va l) (hb : Bytes w vb l) : Calls Try.prog 14 #[va, vb] w fun e w' => e = .returned (.bool true) ∧ w = w' :=
  (same_any va vb l l w ha hb).mono fun e w' ⟨h1, h2⟩ => ⟨by rw [h1]; simp, h2⟩
theorem aw2 (w : World) : Calls Try.prog 7 #[] w fun e w' => e = .returned (.bool true) ∧ Below w.heap.size w w' := awake2_any w

theorem below_drew1 {w a : World} (h : Below w.drew.heap.size w.drew a) : Below w.heap.size w a := ⟨h.os, h.tape, h.output, h.size, h.block⟩
theorem numb_other {k : Nat} (h2 : k ≠ 2) (h3 : k ≠ 3) (h8 : k ≠ 8) (h10 : k ≠ 10) : numb k = false := by
  have a : (k == 2) = false := by simpa using h2
  have b : (k == 3) = false := by simpa using h3
  have c : (k == 8) = false := by simpa using h8
  have d : (k == 10) = false := by simpa using h10
  unfold numb; rw [a, b, c, d]; rfl
end Go.Proofs.Ytelfcdfbhnkakaa
