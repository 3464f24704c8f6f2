import Derived.Test.YteiadbiopcidmaaNum8
namespace Go.Proofs.Yteiadbiopcidmaa
set_option linter.unusedVariables false
set_option linter.unusedSimpArgs false
set_option maxRecDepth 100000
open Go.RowKit
attribute [local go_sem ↓] Go.wp_at_zero Go.wp_at_succ

def HexRet (w : World) (l : List UInt8) (e : Ending) (w' : World) : Prop :=
  ∃ v, e = .returned (.tuple #[v, .int .i64 (hxCode l)]) ∧ Bytes w' v (hxBytes l) ∧ Below w.heap.size w w'

theorem bytes_nil (w : World) : Bytes w (.slice none 0 0) [] := ⟨none, 0, rfl, .inl rfl⟩

theorem bytes_own {w : World} {base : Nat} {v : Value} {n : Nat} {L : List UInt8} (h : w.ownsRow base 5 1 v n (cellsOf L)) : Bytes w v L := by
  have hl : n = L.length := by have := h.1; simp [cellsOf] at this; omega
  rcases h.2 with ⟨hv, hn⟩ | ⟨g, cap, cur, hv, _⟩
  · obtain rfl : L = [] := List.length_eq_zero_iff.mp (by omega)
    exact ⟨none, 0, hv, .inl rfl⟩
  · refine ⟨some ⟨g, 0, none⟩, cap, by rw [hv, hl], .inr ⟨g, 0, rfl, fun i hi => ?_⟩⟩
    have := h.cells (g := g) (by rw [hv]; rfl) i (Value.int .u8 (L.getD i 0).toNat) (by simp [cellsOf, List.getElem?_eq_getElem hi, List.getD])
    rw [add_at] at this
    exact this

theorem unhex_len : ∀ n (l : List UInt8), l.length = 2 * n → (unhex l).length = n := by
  intro n
  induction n with
  | zero => intro l h; have : l = [] := by simpa using h
            subst this; rfl
  | succ n ih =>
    intro l h
    match l, h with
    | a :: b :: l, h => simp only [unhex, List.length_cons]; rw [ih l (by simp at h; omega)]

theorem take_two (s : ByteArray) (k : Nat) (h : k + 1 < s.size) : s.data.toList.take (k + 2) = s.data.toList.take k ++ [s[k], s[k + 1]] := by
  rw [show k + 2 = k + 1 + 1 by omega, take_snoc s (k + 1) h, take_snoc s k (by omega)]; simp
theorem unhex_next (s : ByteArray) (k : Nat) (c d : UInt8) (h : k + 1 < s.size) (he : k % 2 = 0) (hc : s[k] = c) (hd : s[k + 1] = d) : unhex (s.data.toList.take (k + 2)) = unhex (s.data.toList.take k) ++ [two c d] := by
  rw [take_two s k h, hc, hd]
  exact unhex_snoc2 (k / 2) _ _ _ (by rw [List.length_take]; have : s.data.toList.length = s.size := by simp
                                      omega)

theorem or16 (a b : Int) (ha : 0 ≤ a) (ha2 : a < 16) (hb : 0 ≤ b) (hb2 : b < 16) : bits BinOp.or IntKind.u64 (a * 16) b = a * 16 + b := by
  have key : ∀ i j : Fin 16, bits BinOp.or IntKind.u64 ((i.val : Int) * 16) (j.val : Int) = (i.val : Int) * 16 + j.val := by decide +kernel
  have := key ⟨a.toNat, by omega⟩ ⟨b.toNat, by omega⟩
  rw [show ((⟨a.toNat, by omega⟩ : Fin 16).val : Int) = a by simp; omega, show ((⟨b.toNat, by omega⟩ : Fin 16).val : Int) = b by simp; omega] at this
  exact this
theorem wrap_u64 (a : Int) (h0 : 0 ≤ a) (h : a < 18446744073709551616) : IntKind.u64.wrap a = a := by
  simp only [IntKind.wrap, IntKind.bits, IntKind.signed]; simp; omega
theorem wrap_u8 (a : Int) (h0 : 0 ≤ a) (h : a < 256) : IntKind.u8.wrap a = a := by
  simp only [IntKind.wrap, IntKind.bits, IntKind.signed]; simp; omega
theorem wrap_i64 (a : Int) (h0 : 0 ≤ a) (h : a < 9223372036854775808) : IntKind.i64.wrap a = a := by
  simp only [IntKind.wrap, IntKind.bits, IntKind.signed]; simp; omega
theorem wrap_i32 (a : Int) (h0 : 0 ≤ a) (h : a < 2147483648) : IntKind.i32.wrap a = a := by
  simp only [IntKind.wrap, IntKind.bits, IntKind.signed]; simp; omega

theorem two_val (c d : UInt8) (hc : val c.toNat < 16) (hd : val d.toNat < 16) : ((two c d).toNat : Int) = val c.toNat * 16 + val d.toNat := by
  have b1 := val_bd c.toNat
  have b2 := val_bd d.toNat
  unfold two
  rw [toNat_ofNat (by omega)]; omega

theorem readhex_rel {L L2 : List UInt8} {b : UInt8} {x : Int} {w wr w1 : World} {o : Obj} {v v' : Value} {n : Nat} (hn : L2 = L ++ [b]) (hb : (b.toNat : Int) = x) (hB : Below w.heap.size w wr)
    (ho : ∀ g, v.ownBlock = some g → w.heap.size ≤ g)
    (h : w1.ownsRow w.heap.size 5 1 v' n (cellsOf L ++ [.int .u8 x])) (hg : (wr.alloc o).drew.grownBy w1 v.ownBlock) :
    w1.ownsRow w.heap.size 5 1 v' n (cellsOf L2) ∧ Below w.heap.size w w1 := by
  refine ⟨?_, ((hB.alloc hB.size o).drew).grown hg (by have := hB.size; show w.heap.size ≤ (wr.alloc o).heap.size; simp; omega) (fun g hg => ho g hg)⟩
  have e : cellsOf L2 = cellsOf L ++ [.int .u8 x] := by rw [hn, ← hb]; simp [cellsOf]
  rw [e]; exact h

end Go.Proofs.Yteiadbiopcidmaa
