import Derived.Test.YteiadbiopcidmaaTerm10
import Derived.Test.YteiadbiopcidmaaNumSame
namespace Go.Proofs.Yteiadbiopcidmaa
set_option linter.unusedVariables false
set_option linter.unusedSimpArgs false
set_option maxRecDepth 100000
open Go.RowKit

theorem field_kind (w : World) (k n l cp : Nat) (x : Bool) (ad : Option Addr) : (Instr.field 51 (.agg #[.int .i64 k, .bool x, .int .u64 n, .slice ad l cp]) 0).run Try.prog w = .ok (.int .i64 k) w := by kernel_rfl
theorem field_parts (w : World) (k n l cp : Nat) (x : Bool) (ad : Option Addr) : (Instr.field 51 (.agg #[.int .i64 k, .bool x, .int .u64 n, .slice ad l cp]) 3).run Try.prog w = .ok (.slice ad l cp) w := by kernel_rfl

def LookV (w : World) (k n : Nat) (nb : Bool) (ps : List (List UInt8)) (e : Ending) (w' : World) : Prop :=
  ∃ ad cp, e = .returned (.agg #[.int .i64 k, .bool nb, .int .u64 n, .slice ad ps.length cp]) ∧ Strs w' (.slice ad ps.length cp) ps ∧ Below w.heap.size w w'
theorem look_v (t : ByteArray) (ht : t.size ≤ maxLen) (w : World) (k n : Nat) (nb : Bool) (ps : List (List UInt8)) (hx : lookR t.data.toList = (k, n, ps)) (hnb : numb k = nb) : Calls Try.prog 18 #[.string t] w (LookV w k n nb ps) := by
  refine (look_any t ht w).mono fun e w' h => ?_
  rw [hx] at h
  obtain ⟨pv, rfl, hS, hB⟩ := h
  have hS' := hS
  obtain ⟨ad, cp, rfl, _⟩ := hS'
  exact ⟨ad, cp, by rw [← hnb], hS, hB⟩

theorem kind_any (t : ByteArray) (ht : t.size ≤ maxLen) (w : World) : Calls Try.prog 11 #[.string t] w fun e w' => e = .returned (.int .i64 (lookR t.data.toList).1) ∧ Below w.heap.size w w' := by
  obtain ⟨k, n, ps, hx⟩ : ∃ k n ps, lookR t.data.toList = (k, n, ps) := ⟨_, _, _, rfl⟩
  obtain ⟨nb, hnb⟩ : ∃ nb, numb k = nb := ⟨_, rfl⟩
  rw [hx]
  have HX := Lib.hid hx; have HNB := Lib.hid hnb
  clear hx hnb
  have hf := fun w l cp ad => field_kind w k n l cp nb ad
  go_enter Try.func11, Try.ntmps11
  go_wp2_with (first | (go_at_call 18; ((with_reducible refine (look_v t ht _ k n nb ps HX.out HNB.out).mono ?_); rintro e w1 ⟨ad, cp, rfl, hS, hB⟩)) | fail)
  go_ret
  exact ⟨rfl, hB⟩

def StrsRet (w : World) (l : List (List UInt8)) (e : Ending) (w' : World) : Prop := ∃ v, e = .returned v ∧ Strs w' v l ∧ Below w.heap.size w w'
theorem chain4_below {B : Nat} {w W : World} {k : Nat} {v0 v1 v2 v3 : Value} (h : Below B w W) (hk : B ≤ k) : Below B w ((((W.setCell ⟨k, 0, none⟩ v0).setCell ⟨k, 1, none⟩ v1).setCell ⟨k, 2, none⟩ v2).setCell ⟨k, 3, none⟩ v3) :=
  Below.setCell (p := ⟨k, 3, none⟩) (Below.setCell (p := ⟨k, 2, none⟩) (Below.setCell (p := ⟨k, 1, none⟩) (Below.setCell (p := ⟨k, 0, none⟩) h hk v0) hk v1) hk v2) hk v3
theorem below_drewN {B : Nat} {w a : World} (h : Below B w a) (n : Nat) : Below B w (a.drewN n) := ⟨h.os, h.tape, h.output, h.size, h.block⟩
theorem zero_found (w : World) : (zeroValue 51).run Try.prog w = .ok (.agg #[.int .i64 0, .bool false, .int .u64 0, .slice none 0 0]) w := by kernel_rfl
end Go.Proofs.Yteiadbiopcidmaa
