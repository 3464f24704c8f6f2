import Derived.Test.YtbaceiohcbhpaaaDoorNumSame
import Derived.Deep.QuietTactic
import Derived.BigQuiet
import Derived.WalkLawsBesides
import Derived.Lib.Hide
namespace Go.Proofs.YtbaceiohcbhpaaaDoor
set_option linter.unusedVariables false
set_option linter.unusedSimpArgs false
set_option maxRecDepth 100000
open Go.RowKit

def bitAt (a : List UInt8) (i : Nat) : Nat := (a.getD (i / 8) 0).toNat / 2 ^ (7 - i % 8) % 2
def rightP (n : Nat) (bits : Int) : Bool := (n == 4 || n == 16) && (decide (0 ≤ bits) && decide (bits ≤ 8 * n))
def hasP (a : List UInt8) (bits : Int) (b : List UInt8) : Bool := rightP a.length bits && (b.length == a.length && (List.range bits.toNat).all fun i => bitAt b i == bitAt a i)
theorem beq_i {b c : Int} (h : b = c) : (b == c) = true := by simp [h]
theorem bne_i {b c : Int} (h : b ≠ c) : (b == c) = false := beqf h
theorem bneq_i {b c : Int} (h : b = c) : (b != c) = false := by simp [h]
theorem bnne_i {b c : Int} (h : b ≠ c) : (b != c) = true := by simpa using h
theorem tmod_cast (x s : Nat) : ((x : Int) / 2 ^ s).tmod 2 = ((x / 2 ^ s % 2 : Nat) : Int) := by
  have e : ((x : Int) / 2 ^ s) = ((x / 2 ^ s : Nat) : Int) := by simp
  rw [e, Int.tmod_eq_emod_of_nonneg (Int.natCast_nonneg _)]
  simp
theorem bytes_cell {w : World} {a : Option Addr} {l : List UInt8} {cap : Nat} (h : Bytes w (.slice a l.length cap) l) (h0 : 0 < l.length) : ∃ b off, a = some ⟨b, off, none⟩ ∧ ∀ i, i < l.length → w.cell? ⟨b, off + i, none⟩ = some (.int .u8 (l.getD i 0).toNat) := by
  obtain ⟨a', cap', e, h⟩ := h
  injection e with e1 e2 e3
  subst e1
  rcases h with h | ⟨b, off, rfl, h⟩
  · rw [h] at h0; simp at h0
  · exact ⟨b, off, rfl, h⟩
theorem rbit_any (v : Value) (l : List UInt8) (i : Nat) (w : World) (hv : Bytes w v l) (hi : i / 8 < l.length) (hl : l.length ≤ 100000) :
    Calls Tryd.prog 32 #[v, .int .i64 i] w fun e w' => e = .returned (.int .u8 (bitAt l i)) ∧ w' = w := by
  obtain ⟨a, cap, rfl, _⟩ := id hv
  obtain ⟨b, off, rfl, hc⟩ := bytes_cell hv (by omega)
  have c1 := hc (i / 8) hi
  have hx : (l.getD (i / 8) 0).toNat < 256 := UInt8.toNat_lt _
  unfold bitAt
  generalize (l.getD (i / 8) 0).toNat = x at *
  have hi0 : (0 : Int) ≤ i := by omega
  have hi1 : (0 : Int) ≤ (i : Int) / 8 := by omega
  have hi2 : (i : Int) / 8 < l.length := by omega
  have hi3 : (i : Int) ≤ 1000000 := by omega
  have hr0 : (0 : Int) ≤ (i : Int) % 8 := by omega
  have hr1 : (i : Int) % 8 ≤ 7 := by omega
  clear hv hc
  go_enter Tryd.func32, Tryd.ntmps32
  go_wp2_with fail
  go_ret
  exact ⟨ret_int (tmod_cast x _), rfl⟩
def RightRet (w : World) (r : Bool) (e : Ending) (w' : World) : Prop := e = .returned (.bool r) ∧ Below w.heap.size w w'
theorem right_ret {w : World} {r r' : Bool} (h : r' = r) (o : Obj) : RightRet w r (.returned (.bool r')) (w.alloc o) := ⟨by rw [h], (Below.refl _ _).alloc (Nat.le_refl _) _⟩
theorem rright_any (ad : Option Addr) (n cp : Nat) (bits : Int) (hn : n ≤ 100000) (w : World) :
    Calls Tryd.prog 15 #[.agg #[.slice ad n cp, .int .i64 bits]] w (RightRet w (rightP n bits)) := by
  have hni : (n : Int) ≤ 100000 := by omega
  have hni0 : (0 : Int) ≤ n := by omega
  have hcase : (n ≠ 4 ∧ n ≠ 16) ∨ (n = 4 ∨ n = 16) := by omega
  rcases hcase with ⟨h4, h16⟩ | hr
  · have HR : Hid (rightP n bits = false) := Lib.hid (by unfold rightP; simp [h4, h16])
    have e4 : ((n : Int) == 4) = false := bne_i (by omega)
    have e16 : ((n : Int) == 16) = false := bne_i (by omega)
    clear h4 h16
    go_enter Tryd.func15, Tryd.ntmps15
    go_wp2_with fail
    go_ret
    exact right_ret (by first | (rw [HR.out]; done) | (rw [HR.out]; exact decide_eq_false (by omega)) | (rw [HR.out]; exact decide_eq_true (by omega))) _
  · have hb : (((n : Int) == 4) = true) ∨ (((n : Int) == 4) = false ∧ ((n : Int) == 16) = true) := by
      rcases hr with h | h
      · left; exact beq_i (by omega)
      · right; exact ⟨bne_i (by omega), beq_i (by omega)⟩
    by_cases h0 : 0 ≤ bits
    · by_cases h1 : bits ≤ 8 * n
      · have HR : Hid (rightP n bits = true) := Lib.hid (by unfold rightP; rcases hr with h | h <;> simp [h, h0] <;> (rw [h] at h1; simpa using h1))
        clear hr
        rcases hb with e4 | ⟨e4, e16⟩
        all_goals
          go_enter Tryd.func15, Tryd.ntmps15
          go_wp2_with fail
          go_ret
          exact right_ret (by first | (rw [HR.out]; done) | (rw [HR.out]; exact decide_eq_false (by omega)) | (rw [HR.out]; exact decide_eq_true (by omega))) _
      · have HR : Hid (rightP n bits = false) := Lib.hid (by unfold rightP; rw [show decide (bits ≤ 8 * (n : Int)) = false from decide_eq_false h1]; simp)
        have h2 : 8 * (n : Int) < bits := by omega
        clear hr h1
        rcases hb with e4 | ⟨e4, e16⟩
        all_goals
          go_enter Tryd.func15, Tryd.ntmps15
          go_wp2_with fail
          go_ret
          exact right_ret (by first | (rw [HR.out]; done) | (rw [HR.out]; exact decide_eq_false (by omega)) | (rw [HR.out]; exact decide_eq_true (by omega))) _
    · have HR : Hid (rightP n bits = false) := Lib.hid (by unfold rightP; rw [show decide (0 ≤ bits) = false from decide_eq_false h0]; simp)
      have h2 : bits < 0 := by omega
      clear hr h0
      rcases hb with e4 | ⟨e4, e16⟩
      all_goals
        go_enter Tryd.func15, Tryd.ntmps15
        go_wp2_with fail
        go_ret
        exact right_ret (by first | (rw [HR.out]; done) | (rw [HR.out]; exact decide_eq_false (by omega)) | (rw [HR.out]; exact decide_eq_true (by omega))) _
end Go.Proofs.YtbaceiohcbhpaaaDoor
