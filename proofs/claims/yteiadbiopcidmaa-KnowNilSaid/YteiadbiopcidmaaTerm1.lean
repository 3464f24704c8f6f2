import Derived.Test.YteiadbiopcidmaaNum10
import Derived.Test.YteiadbiopcidmaaTermMath
import Derived.Deep.QuietTactic
import Derived.BigQuiet
import Derived.WalkLawsBesides
namespace Go.Proofs.Yteiadbiopcidmaa
set_option linter.unusedVariables false
set_option linter.unusedSimpArgs false
set_option maxRecDepth 100000
open Go.RowKit

theorem drew2 (w : World) (a b : Nat) : (w.drewN a).drewN b = w.drewN (a + b) := by simp [World.drewN, Nat.add_assoc]

def byteAt (s : ByteArray) (p : Nat) : Int := if h : p < s.size then (s[p]).toNat else 0
theorem byteAt_lt {s : ByteArray} {p : Nat} (h : p < s.size) : byteAt s p = (s[p]).toNat := by unfold byteAt; rw [dif_pos h]
theorem byteAt_ge {s : ByteArray} {p : Nat} (h : ¬ p < s.size) : byteAt s p = 0 := by unfold byteAt; rw [dif_neg h]

theorem next_any (s : ByteArray) (p b : Nat) (w : World) (hs : s.size ≤ maxLen) (hp : p ≤ s.size) (h0 : w.cell? ⟨b, 0, none⟩ = some (.string s)) (h1 : w.cell? ⟨b, 1, none⟩ = some (.int .i64 p)) :
    Calls Try.prog 47 #[.pointer (some ⟨b, 0, none⟩)] w fun e w' => e = .returned (.int .u8 (byteAt s p)) ∧ ∃ n, w' = w.drewN n := by
  unfold maxLen at hs
  by_cases hlt : p < s.size
  · have hne : ((p : Int) == s.size) = false := beqf (by omega)
    go_enter Try.func47, Try.ntmps47
    go_wp2
    go_quiet (fail)
    go_wp2
    go_quiet (fail)
    go_wp2
    go_ret
    exact ⟨ret_int (byteAt_lt hlt).symm, _, drew2 _ _ _⟩
  · have e : p = s.size := by omega
    subst e
    go_enter Try.func47, Try.ntmps47
    go_wp2
    go_quiet (fail)
    go_wp2
    go_ret
    exact ⟨ret_int (byteAt_ge hlt).symm, _, rfl⟩

theorem byteAt_bd (s : ByteArray) (p : Nat) : 0 ≤ byteAt s p ∧ byteAt s p ≤ 255 := by
  unfold byteAt
  split
  · have := UInt8.toNat_lt (s[p]); omega
  · omega

/-! the reader's block, and what else may turn -/


theorem heap_set {w : World} {b i : Nat} {C : Array Value} {T : TypeId} {fz : Nat × Nat} {v : Value} (h : w.heap[b]? = some (.cells C T fz)) : (w.setCell ⟨b, i, none⟩ v).heap[b]? = some (.cells (C.setIfInBounds i v) T fz) := by
  simp [World.setCell, Array.getElem?_modify, h]
theorem heap_set_other {w : World} {b k i : Nat} {v : Value} (h : k ≠ b) : (w.setCell ⟨b, i, none⟩ v).heap[k]? = w.heap[k]? := by
  simp only [World.setCell, Array.getElem?_modify]
  rw [if_neg (by simpa using fun e => h e.symm)]
theorem grown_refl (w : World) (row : Option Nat) : w.grownBy w row := ⟨rfl, rfl, rfl, Nat.le_refl _, fun _ _ _ => rfl⟩
theorem grown_drewN (w : World) (n : Nat) (row : Option Nat) : w.grownBy (w.drewN n) row := ⟨rfl, rfl, rfl, Nat.le_refl _, fun _ _ _ => rfl⟩
theorem grown_set (w : World) (b i : Nat) (v : Value) : w.grownBy (w.setCell ⟨b, i, none⟩ v) (some b) :=
  ⟨rfl, rfl, rfl, by simp [World.setCell], fun k _ h => heap_set_other (fun e => h (by rw [e]))⟩
theorem grown_trans {w a c : World} {row : Option Nat} (h : w.grownBy a row) (k : a.grownBy c row) : w.grownBy c row :=
  ⟨k.os.trans h.os, k.tape.trans h.tape, k.output.trans h.output, Nat.le_trans h.size k.size, fun i hi hne => (k.block i (Nat.lt_of_lt_of_le hi h.size) hne).trans (h.block i hi hne)⟩

abbrev rdCells (s : ByteArray) (p m d : Nat) (pv : Value) : Array Value := #[.string s, .int .i64 p, .map (some m), .int .i64 d, pv]
/-- the reader's block b: the text s, the place p, the shapes' map m, the depth d, the parts pv -/
def Rd (w : World) (b : Nat) (s : ByteArray) (p m d : Nat) (pv : Value) : Prop := w.heap[b]? = some (.cells (rdCells s p m d pv) 72 (0, 0))
theorem Rd.lt {w : World} {b : Nat} {s : ByteArray} {p m d : Nat} {pv : Value} (h : Rd w b s p m d pv) : b < w.heap.size := (Array.getElem?_eq_some_iff.1 h).1
theorem Rd.c0 {w : World} {b : Nat} {s : ByteArray} {p m d : Nat} {pv : Value} (h : Rd w b s p m d pv) : w.cell? ⟨b, 0, none⟩ = some (.string s) := cell_of h 0 rfl
theorem Rd.c1 {w : World} {b : Nat} {s : ByteArray} {p m d : Nat} {pv : Value} (h : Rd w b s p m d pv) : w.cell? ⟨b, 1, none⟩ = some (.int .i64 p) := cell_of h 1 rfl
theorem Rd.c2 {w : World} {b : Nat} {s : ByteArray} {p m d : Nat} {pv : Value} (h : Rd w b s p m d pv) : w.cell? ⟨b, 2, none⟩ = some (.map (some m)) := cell_of h 2 rfl
theorem Rd.c3 {w : World} {b : Nat} {s : ByteArray} {p m d : Nat} {pv : Value} (h : Rd w b s p m d pv) : w.cell? ⟨b, 3, none⟩ = some (.int .i64 d) := cell_of h 3 rfl
theorem Rd.c4 {w : World} {b : Nat} {s : ByteArray} {p m d : Nat} {pv : Value} (h : Rd w b s p m d pv) : w.cell? ⟨b, 4, none⟩ = some pv := cell_of h 4 rfl
theorem Rd.f {w : World} {b : Nat} {s : ByteArray} {p m d : Nat} {pv : Value} (h : Rd w b s p m d pv) (i : Nat) : w.frozen? ⟨b, i, none⟩ = false := free_of h i
theorem Rd.drewN {w : World} {b : Nat} {s : ByteArray} {p m d : Nat} {pv : Value} (h : Rd w b s p m d pv) (n : Nat) : Rd (w.drewN n) b s p m d pv := h
theorem Rd.set1 {w : World} {b : Nat} {s : ByteArray} {p m d : Nat} {pv : Value} (h : Rd w b s p m d pv) (q : Nat) : Rd (w.setCell ⟨b, 1, none⟩ (.int .i64 q)) b s q m d pv := heap_set h
theorem Rd.set3 {w : World} {b : Nat} {s : ByteArray} {p m d : Nat} {pv : Value} (h : Rd w b s p m d pv) (q : Nat) : Rd (w.setCell ⟨b, 3, none⟩ (.int .i64 q)) b s p m q pv := heap_set h
theorem Rd.set4 {w : World} {b : Nat} {s : ByteArray} {p m d : Nat} {pv : Value} (h : Rd w b s p m d pv) (v : Value) : Rd (w.setCell ⟨b, 4, none⟩ v) b s p m d v := heap_set h
theorem Rd.alloc {w : World} {b : Nat} {s : ByteArray} {p m d : Nat} {pv : Value} (h : Rd w b s p m d pv) (o : Obj) : Rd (w.alloc o) b s p m d pv := (Below.heap_alloc w o b h.lt).trans h
theorem Rd.setOther {w : World} {b : Nat} {s : ByteArray} {p m d : Nat} {pv : Value} (h : Rd w b s p m d pv) {k i : Nat} {v : Value} (hk : b ≠ k) : Rd (w.setCell ⟨k, i, none⟩ v) b s p m d pv := (heap_set_other hk).trans h

def faultV : Value := .iface 102 (.agg #[])
def faultC : List PanicEntry := [{ v := faultV, recovered := false }]

theorem need_ok (w : World) : Calls Try.prog 30 #[.bool true] w fun e w' => e = .returned (.tuple #[]) ∧ w = w' := by
  go_enter Try.func30, Try.ntmps30
  go_wp2
  go_end0
  exact ⟨rfl, rfl⟩
theorem need_bad (w : World) : Calls Try.prog 30 #[.bool false] w fun e w' => e = .panicked faultC ∧ w = w' := by
  go_enter Try.func30, Try.ntmps30
  go_wp2
  exact ⟨rfl, rfl, rfl⟩
end Go.Proofs.Yteiadbiopcidmaa
