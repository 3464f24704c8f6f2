/- Texts of this seat, merged: Ref3, Ref4, Ref5, Ref6. -/
import Derived.Test.YtjbmcjppaadkgaaGP8
import Derived.Deep.LoopGhost
import Derived.Deep.RegionLaw
import Derived.Deep.Cut
import Derived.BigQuiet
import Derived.Deep.QuietTactic
import Derived.Deep.AppendLies
namespace Go.Proofs.Ytjbmcjppaadkgaa
set_option linter.unusedVariables false
set_option linter.unusedSimpArgs false
set_option maxRecDepth 100000
open Go.RowKit

def RTermIH (g : Nat) : Prop := ∀ (s : ByteArray) (p : Nat) (w : World), s.size ≤ 65536 → p ≤ s.size → s.size - p ≤ g + 1 →
  Calls Try.prog 53 #[.string s, .int .i64 p] w (NPost w s (pTermS (pLoop g) (s.data.toList.drop p)))

theorem term_results (W : World) (b k n : Nat) (ab : Option Addr) (bl cb : Nat) (ap : Option Addr) (pl cp : Nat) (j : Int) (h : W.heap[b]? = some (.cells (nodeC k n ab bl cb ap pl cp) 69 (0, 0))) (T : Array Value) (h6 : T.getD 4 undef = .pointer (some ⟨b, 0, none⟩)) (h7 : T.getD 5 undef = .int .i64 j) :
    (results Try.f53 T).run Try.prog W = .ok (.tuple #[.agg (nodeC k n ab bl cb ap pl cp), .int .i64 j]) W := by
  have c0 := cell_of h 0 rfl; have c1 := cell_of h 1 rfl; have c2 := cell_of h 2 rfl; have c3 := cell_of h 3 rfl
  have e6 : T[4]?.getD undef = .pointer (some ⟨b, 0, none⟩) := by simpa using h6
  have e7 : T[5]?.getD undef = .int .i64 j := by simpa using h7
  simp [results, Try.results53, go_sem, e6, e7, c0, c1, c2, c3]

theorem at_next (s : ByteArray) (q : Nat) (hs : s.size ≤ maxLen) (hq : q ≤ 1000000) (w : World) : Calls Try.prog 62 #[.string s, .int .i64 ((q : Int) + 1)] w fun e w' => e = .returned (.int .u8 (byteAt s (q + 1))) ∧ w = w' := at_any s (q + 1) hs (by omega) w
theorem at_lit (s : ByteArray) (q : Nat) (hs : s.size ≤ maxLen) (hq : q ≤ 1000000) (w : World) : Calls Try.prog 62 #[.string s, .int .i64 q] w fun e w' => e = .returned (.int .u8 (byteAt s q)) ∧ w = w' := at_any s q hs (by omega) w
theorem byte_u8 (s : ByteArray) (p : Nat) : ((byteAt s p).toNat.toUInt8.toNat : Int) = byteAt s p := by
  by_cases h : p < s.size
  · rw [byte_lt s p h, byteAt_lt h]
  · rw [byteAt_ge h]; rfl
theorem rkind_v (c : Int) (k : Nat) (hk : ((c.toNat.toUInt8.toNat : Nat) : Int) = c ∧ kindOf c.toNat.toUInt8 = k) (w : World) : Calls Try.prog 61 #[.int .u8 c] w fun e w' => e = .returned (.int .i64 k) ∧ w = w' := by
  have := rkind_any c.toNat.toUInt8 w
  rw [hk.1, hk.2] at this
  exact this

theorem rterm_none (g : Nat) (s : ByteArray) (p : Nat) (w : World) (hs : s.size ≤ 65536) (hp : p ≤ s.size) (hk : kindOf (byteAt s p).toNat.toUInt8 = 0) :
    Calls Try.prog 53 #[.string s, .int .i64 p] w (NPost w s (pTermS (pLoop g) (s.data.toList.drop p))) := by
  have hsm : s.size ≤ maxLen := by unfold maxLen; omega
  have hp63 : p ≤ 9223372036854775807 := by omega
  have HO : Hid (pTermS (pLoop g) (s.data.toList.drop p) = none) := Lib.hid (by
    by_cases hlt : p < s.size
    · rw [drop_at s p hlt]
      rw [byte_lt s p hlt] at hk
      simp [pTermS, hk, shapeOf]
    · rw [drop_end s p hlt]; rfl)
  have HKI := Lib.hid (And.intro (byte_u8 s p) hk)
  have hz := zero_node
  obtain ⟨k, hk0⟩ : ∃ k, k = 0 := ⟨0, rfl⟩
  rw [← hk0] at HKI
  subst hk0
  clear hk
  go_enter Try.func53, Try.ntmps53
  go_wp2_with (first | (go_at_call 62; ((with_reducible refine (at_any s p hsm hp63 _).mono ?_); rintro e w' ⟨rfl, rfl⟩)) | (go_at_call 61; ((with_reducible refine (rkind_v _ 0 HKI.out _).mono ?_); rintro e w' ⟨rfl, rfl⟩)) | fail)
  refine bodyPost_ret (term_results _ w.heap.size 0 0 none 0 0 none 0 0 (-1) (heap_alloc_new w _) _ rfl rfl) rfl ?_
  rw [HO.out]
  exact ⟨rfl, (Below.refl _ _).alloc (Nat.le_refl _) _⟩

theorem rterm_leaf (g : Nat) (s : ByteArray) (p : Nat) (w : World) (hs : s.size ≤ 65536) (hp : p ≤ s.size) (k : Nat) (hk : kindOf (byteAt s p).toNat.toUInt8 = k) (h1 : 1 ≤ k) (h4 : k ≤ 4) :
    Calls Try.prog 53 #[.string s, .int .i64 p] w (NPost w s (pTermS (pLoop g) (s.data.toList.drop p))) := by
  have hsm : s.size ≤ maxLen := by unfold maxLen; omega
  have hp63 : p ≤ 9223372036854775807 := by omega
  have hlt : p < s.size := by
    by_cases hlt : p < s.size
    · exact hlt
    · rw [byte_ge s p hlt] at hk; have : kindOf 0 = 0 := rfl; omega
  obtain ⟨sh, hsh⟩ := shape_ex h1 (by omega)
  have HO : Hid (pTermS (pLoop g) (s.data.toList.drop p) = (pLeaf k sh (s.data.toList.drop (p + 1))).bind fun x => some (k, x.1, x.2.1, [], x.2.2)) := Lib.hid (by
    rw [drop_at s p hlt]
    rw [byte_lt s p hlt] at hk
    simp only [pTermS, hk, hsh]
    show (if k ≤ 4 then _ else _) = _
    rw [if_pos h4])
  have HLF : Hid (∀ w, Calls Try.prog 63 #[.string s, .int .i64 ((p : Int) + 1), .int .i64 k] w (NPost w s ((pLeaf k sh (s.data.toList.drop (p + 1))).bind fun x => some (k, x.1, x.2.1, [], x.2.2)))) := Lib.hid fun w => leaf_any k h1 h4 sh hsh s (p + 1) hs hlt w
  rw [HO.out]
  have HKI := Lib.hid (And.intro (byte_u8 s p) hk)
  have hz := zero_node
  have hk0 : ((k : Int) == 0) = false := beqf (by omega)
  generalize (pLeaf k sh (s.data.toList.drop (p + 1))).bind (fun x => some (k, x.1, x.2.1, [], x.2.2)) = o at *
  clear hk hsh
  cases o with
  | none =>
    go_enter Try.func53, Try.ntmps53
    go_wp2_with (first | (go_at_call 62; ((with_reducible refine (at_any s p hsm hp63 _).mono ?_); rintro e w' ⟨rfl, rfl⟩)) | (go_at_call 61; ((with_reducible refine (rkind_v _ k HKI.out _).mono ?_); rintro e w' ⟨rfl, rfl⟩)) | (go_at_call 63; ((with_reducible refine (HLF.out _).mono ?_); rintro e w1 ⟨rfl, hB⟩; have hbx := (hB.block w.heap.size (by simp)).trans (heap_alloc_new w _); have q0 := cell_of hbx 0 rfl; have q1 := cell_of hbx 1 rfl; have q2 := cell_of hbx 2 rfl; have q3 := cell_of hbx 3 rfl; have qf := fun i => free_of hbx i; have HBX := Lib.hid hbx; have HB := Lib.hid hB; clear hbx hB)) | fail)
    refine bodyPost_ret (term_results _ w.heap.size 0 0 none 0 0 none 0 0 (-1) (chain4_box HBX.out rfl) _ rfl rfl) rfl ?_
    exact ⟨rfl, chain4_below (((Below.refl _ _).alloc (Nat.le_refl _) _).trans (HB.out.mono (by simp))) (Nat.le_refl _)⟩
  | some x =>
    obtain ⟨k1, n1, b1, ps1, r1⟩ := x
    go_enter Try.func53, Try.ntmps53
    go_wp2_with (first | (go_at_call 62; ((with_reducible refine (at_any s p hsm hp63 _).mono ?_); rintro e w' ⟨rfl, rfl⟩)) | (go_at_call 61; ((with_reducible refine (rkind_v _ k HKI.out _).mono ?_); rintro e w' ⟨rfl, rfl⟩)) | (go_at_call 63; ((with_reducible refine (HLF.out _).mono ?_); rintro e w1 ⟨ab, cb, ap, cp, rfl, hvb, hvp, hB⟩; have hbx := (hB.block w.heap.size (by simp)).trans (heap_alloc_new w _); have q0 := cell_of hbx 0 rfl; have q1 := cell_of hbx 1 rfl; have q2 := cell_of hbx 2 rfl; have q3 := cell_of hbx 3 rfl; have qf := fun i => free_of hbx i; have HBX := Lib.hid hbx; have HVB := Lib.hid hvb; have HVP := Lib.hid hvp; have HB := Lib.hid hB; clear hbx hB hvb hvp; unfold NodeRes)) | fail)
    refine bodyPost_ret (term_results _ w.heap.size k1 n1 ab b1.length cb ap ps1.length cp (posOf s r1) (chain4_box HBX.out rfl) _ rfl rfl) rfl ?_
    exact ⟨ab, cb, ap, cp, rfl, bytes_other (kk := 0) (n := 0) HVB.out HBX.out (fun q hq => chain4_other hq), strs_other (kk := 0) (n := 0) HVP.out HBX.out (fun q hq => chain4_other hq), chain4_below (((Below.refl _ _).alloc (Nat.le_refl _) _).trans (HB.out.mono (by simp))) (Nat.le_refl _)⟩
end Go.Proofs.Ytjbmcjppaadkgaa

namespace Go.Proofs.Ytjbmcjppaadkgaa
set_option linter.unusedVariables false
set_option linter.unusedSimpArgs false
set_option maxRecDepth 100000
open Go.RowKit

def RRel (w : World) (s : ByteArray) (k nn g p3 q f : Nat) (acc : List (List UInt8)) (pa : Option Addr) (pc : Nat) (wr : World) : Prop :=
  f ≤ g ∧ pLoop f k acc (s.data.toList.drop q) = pLoop g k [] (s.data.toList.drop p3) ∧ q ≤ s.size ∧ s.size - q + 1 ≤ f ∧ acc.length ≤ q ∧ wr.heap[w.heap.size]? = some (.cells #[.int .i64 0, .int .u64 0, .slice none 0 0, .slice none 0 0] 69) ∧
    wr.heap[w.heap.size + 1]? = some (.cells #[.int .i64 k, .int .u64 nn, .slice none 0 0, .slice pa acc.length pc] 69) ∧
    wr.ownsRow (w.heap.size + 2) 9 1 (.slice pa acc.length pc) acc.length (acc.map strV) ∧ Below w.heap.size w wr ∧ w.heap.size + 2 ≤ wr.heap.size

theorem round_cases (b : Int) (k : Nat) (r le : Bool) : (b = 41 ∧ r = false) ∨ (b = 41 ∧ r = true ∧ k ≠ 6) ∨ (b = 41 ∧ r = true ∧ k = 6 ∧ le = false) ∨ (b = 41 ∧ r = true ∧ k = 6 ∧ le = true) ∨ b = 44 ∨ (b ≠ 41 ∧ b ≠ 44) := by
  cases r <;> cases le <;> simp <;> omega
theorem ok_bad {k : Nat} {ps : List (List UInt8)} (h : right k ps.length = false) : ¬ okParts k ps = true := by simp [okParts, h]
theorem ok_bad6 {k : Nat} {ps : List (List UInt8)} (h : k = 6) (h2 : leL (ps.getD 0 []) (ps.getD 1 []) = false) : ¬ okParts k ps = true := by
  subst h; unfold okParts; rw [h2]; cases right 6 ps.length <;> decide
theorem ok_good {k : Nat} {ps : List (List UInt8)} (h : right k ps.length = true) (h6 : k ≠ 6) : okParts k ps = true := by
  have : (k == 6) = false := by simpa using h6
  unfold okParts; rw [h, this]; rfl
theorem ok_good6 {k : Nat} {ps : List (List UInt8)} (h : right k ps.length = true) (h6 : k = 6) (h2 : leL (ps.getD 0 []) (ps.getD 1 []) = true) : okParts k ps = true := by
  subst h6; unfold okParts; rw [h, h2]; decide
theorem two_parts {k : Nat} {ps : List (List UInt8)} (h : right k ps.length = true) (h6 : k = 6) : ps.length = 2 := by
  subst h6; simpa [right] using h
theorem cell_part {W : World} {g cp B : Nat} {ps : List (List UInt8)} (h : W.ownsRow B 9 1 (.slice (some ⟨g, 0, none⟩) ps.length cp) ps.length (ps.map strV)) (i : Nat) (hi : i < ps.length) : W.cell? ⟨g, i, none⟩ = some (strV (ps.getD i [])) := by
  have hS := strs_own h
  obtain ⟨aS, capS, eS, _, hS⟩ := hS
  rcases hS with h0 | ⟨b, off, e2, h0⟩
  · rw [h0] at hi; simp at hi
  · subst e2; injection eS with e3 _ _; injection e3 with e3; injection e3 with e4 e5 _; subst e4; subst e5; simpa using h0 i hi
theorem b_eq {b c : Int} (h : b = c) : (b == c) = true := by simp [h]
theorem b_ne {b c : Int} (h : b ≠ c) : (b == c) = false := beqf h
theorem b_neq {b c : Int} (h : b = c) : (b != c) = false := by simp [h]
theorem b_nne {b c : Int} (h : b ≠ c) : (b != c) = true := by simpa using h
theorem right_q (k n : Nat) (r : Bool) (h : right k n = r) (w : World) : Calls Try.prog 66 #[.int .i64 k, .int .i64 n] w fun e w' => e = .returned (.bool r) ∧ w' = w := by
  subst h; exact (right_any k n w).mono fun e w' ⟨h1, h2⟩ => ⟨h1, h2.symm⟩
theorem at_next2 (s : ByteArray) (q : Nat) (hs : s.size ≤ maxLen) (hq : q ≤ 1000000) (w : World) : Calls Try.prog 62 #[.string s, .int .i64 ((q : Int) + 2)] w fun e w' => e = .returned (.int .u8 (byteAt s (q + 2))) ∧ w = w' := at_any s (q + 2) hs (by omega) w
theorem NPost.bind_none {w : World} {s : ByteArray} {k nn : Nat} {o : Option (List (List UInt8) × List UInt8)} {e : Ending} {w' : World} (ho : o = none) (h : NBad w e w') : NPost w s (o.bind fun y => some (k, nn, [], y.1, y.2)) e w' := by
  subst ho; exact h
theorem NPost.bind_some {w : World} {s : ByteArray} {k nn : Nat} {o : Option (List (List UInt8) × List UInt8)} {ps : List (List UInt8)} {r : List UInt8} {e : Ending} {w' : World} (ho : o = some (ps, r)) (h : NOk w s k nn [] ps r e w') : NPost w s (o.bind fun y => some (k, nn, [], y.1, y.2)) e w' := by
  subst ho; exact h

theorem below_none {w w' : World} (h : Below w.heap.size w w') : w.grownBy w' none := ⟨h.os, h.tape, h.output, h.size, fun k hk _ => h.block k hk⟩
theorem own_below {w w' : World} {B : Nat} {e : TypeId} {size : Nat} {v : Value} {n : Nat} {xs : List Value} (h : w.ownsRow B e size v n xs) (hb : Below w.heap.size w w') : w'.ownsRow B e size v n xs := by
  cases hv : v.ownBlock with
  | none => exact World.ownsRow.kept h (below_none hb) (.inl hv)
  | some g => exact World.ownsRow.kept h (below_none hb) (.inr (by rw [hv]; simp))
def RFacts (w W : World) (k nn : Nat) (pa : Option Addr) (pc : Nat) (ps : List (List UInt8)) : Prop :=
  W.heap[w.heap.size]? = some (.cells #[.int .i64 0, .int .u64 0, .slice none 0 0, .slice none 0 0] 69) ∧ W.heap[w.heap.size + 1]? = some (.cells #[.int .i64 k, .int .u64 nn, .slice none 0 0, .slice pa ps.length pc] 69) ∧
    W.ownsRow (w.heap.size + 2) 9 1 (.slice pa ps.length pc) ps.length (ps.map strV) ∧ Below w.heap.size w W ∧ w.heap.size + 2 ≤ W.heap.size
theorem rfacts_app {w w3 w4 : World} {o : Obj} {k nn pc g cp : Nat} {pa : Option Addr} {acc : List (List UInt8)} {part : List UInt8} (h : RFacts w w3 k nn pa pc acc)
    (hown : w4.ownsRow (w.heap.size + 2) 9 1 (.slice (some ⟨g, 0, none⟩) (acc.length + 1) cp) (acc.length + 1) (acc.map strV ++ [.string (strB part)])) (hg0 : (w3.alloc o).drew.grownBy w4 (Value.slice pa acc.length pc).ownBlock) :
    RFacts w (w4.setCell ⟨w.heap.size + 1, 3, none⟩ (.slice (some ⟨g, 0, none⟩) (acc.length + 1) cp)) k nn (some ⟨g, 0, none⟩) cp (acc ++ [part]) := by
  obtain ⟨hr, hn, ho, hb, hz⟩ := h
  have hg : (w3.alloc o).grownBy w4 (Value.slice pa acc.length pc).ownBlock := ⟨hg0.os, hg0.tape, hg0.output, hg0.size, hg0.block⟩
  have e : (acc ++ [part]).length = acc.length + 1 := by simp
  have hn4 := keep_far (keep_alloc hn o) hg (fun e => own_ne ho (by omega) e.symm)
  have hr4 := keep_far (keep_alloc hr o) hg (fun e => own_ne ho (by omega) e.symm)
  have hb4 : Below w.heap.size w w4 := (hb.alloc hb.size o).grown hg (by have := hb.size; simp; omega) (fun j hj => by have := (ho.lt j hj).1; omega)
  refine ⟨(heap_set_other (by omega)).trans hr4, ?_, ?_, ?_, ?_⟩
  · rw [e]; exact heap_set hn4
  · rw [e, List.map_append]
    exact World.ownsRow.kept hown (grown_set _ _ _ _) (.inr (own_ne hown (by omega)))
  · exact hb4.grown (grown_set _ _ _ _) hb4.size (fun j hj => by cases hj; omega)
  · have h1 := hg.size; simp at h1 ⊢; omega
theorem nok_at {f : Nat} {args : Array Value} {wr : World} {s : ByteArray} {k1 n1 q2 : Nat} {b1 : List UInt8} {ps1 : List (List UInt8)} {rest : List UInt8} (h : Calls Try.prog f args wr (NPost wr s (some (k1, n1, b1, ps1, rest)))) (he : posOf s rest = q2) :
    Calls Try.prog f args wr (fun e w2 => ∃ ab cb ap cp, e = NodeRes k1 n1 ab b1.length cb ap ps1.length cp (q2 : Int) ∧ Below wr.heap.size wr w2) := by
  subst he
  exact h.mono fun e w2 ⟨ab, cb, ap, cp, h1, _, _, h4⟩ => ⟨ab, cb, ap, cp, h1, h4⟩
set_option maxHeartbeats 4000000 in
theorem rterm_plain (g : Nat) (ih : ∀ g', g' < g → RTermIH g') (s : ByteArray) (p : Nat) (w : World) (hs : s.size ≤ 65536) (hp : p ≤ s.size) (hf : s.size - p ≤ g + 1) (k : Nat) (hk : kindOf (byteAt s p).toNat.toUInt8 = k) (h5 : 5 ≤ k) (h8 : k ≠ 8) (h10 : k ≠ 10) :
    Calls Try.prog 53 #[.string s, .int .i64 p] w (NPost w s (pTermS (pLoop g) (s.data.toList.drop p))) := by
  have hsm : s.size ≤ maxLen := by unfold maxLen; omega
  have hp63 : p ≤ 1000000 := by omega
  have hlt : p < s.size := by
    by_cases hlt : p < s.size
    · exact hlt
    · rw [byte_ge s p hlt] at hk; have : kindOf 0 = 0 := rfl; omega
  have hk11 : k ≤ 11 := by rw [← hk]; exact kindOf_le _
  obtain ⟨sh, hsh⟩ := shape_ex (k := k) (by omega) hk11
  have HOO : Hid (pTermS (pLoop g) (s.data.toList.drop p) = (pass 40 (s.data.toList.drop (p + 1))).bind fun r1 =>
      if k = 11 ∧ r1.head? = some 41 then some (k, 0, [], [], r1.tail) else (pLoop g k [] r1).bind fun y => some (k, 0, [], y.1, y.2)) := Lib.hid (by
    rw [drop_at s p hlt]
    rw [byte_lt s p hlt] at hk
    simp only [pTermS, hk, hsh]
    show (if k ≤ 4 then _ else _) = _
    rw [if_neg (by omega)]
    simp only [pHead, show ¬ (k = 8 ∨ k = 10) by omega, if_false, Option.bind_some])
  rw [HOO.out]
  have HKI := Lib.hid (And.intro (byte_u8 s p) hk)
  have HIH := Lib.hid ih
  have hz := zero_node
  have hk0 : ((k : Int) == 0) = false := beqf (by omega)
  have hk8 : ((k : Int) == 8) = false := beqf (by omega)
  have hk10 : ((k : Int) == 10) = false := beqf (by omega)
  have hk4 : decide ((k : Int) ≤ 4) = false := decide_eq_false (by omega)
  clear hk hsh h8 h10 ih
  by_cases h40 : byteAt s (p + 1) = 40
  · have hlt1 : p + 1 < s.size := byte_in (by decide) h40
    have e : pass 40 (s.data.toList.drop (p + 1)) = some (s.data.toList.drop (p + 2)) := by
      rw [pass_some]
      have h1 := (head_byte s (p + 1) 40 (by decide)).2 h40
      rw [drop_at s (p + 1) hlt1] at h1 ⊢
      simp at h1; rw [h1]
    rw [e]
    have h40i : (byteAt s (p + 1) != 40) = false := by simp [h40]
    clear h40 e
    show Calls _ _ _ _ (NPost w s (if k = 11 ∧ (s.data.toList.drop (p + 2)).head? = some 41 then some (k, 0, [], [], (s.data.toList.drop (p + 2)).tail) else (pLoop g k [] (s.data.toList.drop (p + 2))).bind fun y => some (k, 0, [], y.1, y.2)))
    have h41 := head_byte s (p + 2) 41 (by decide)
    have hcase : (k = 11 ∧ byteAt s (p + 2) = 41) ∨ (k = 11 ∧ byteAt s (p + 2) ≠ 41) ∨ k ≠ 11 := by omega
    rcases hcase with ⟨h11, hb⟩ | hcase
    · rw [if_pos ⟨h11, h41.2 hb⟩]
      have hk11i : ((k : Int) == 11) = true := by rw [h11]; rfl
      have hbi : (byteAt s (p + 2) == 41) = true := by simpa using hb
      have HTL : Hid ((posOf s (s.data.toList.drop (p + 2)).tail : Int) = (p : Int) + 2 + 1) := Lib.hid (by
        have := byte_in (c := 41) (by decide) hb
        rw [List.tail_drop, posOf_drop s (p + 2 + 1) (by omega)]; rfl)
      clear h11 hb h41
      go_enter Try.func53, Try.ntmps53
      go_wp2_with (first | (go_at_call 62; ((with_reducible refine (at_lit s p hsm hp63 _).mono ?_); rintro e w' ⟨rfl, rfl⟩)) | (go_at_call 62; ((with_reducible refine (at_next s p hsm hp63 _).mono ?_); rintro e w' ⟨rfl, rfl⟩)) | (go_at_call 62; ((with_reducible refine (at_next2 s p hsm hp63 _).mono ?_); rintro e w' ⟨rfl, rfl⟩)) | (go_at_call 61; ((with_reducible refine (rkind_v _ k HKI.out _).mono ?_); rintro e w' ⟨rfl, rfl⟩)) | fail)
      refine bodyPost_ret (term_results _ w.heap.size k 0 none 0 0 none 0 0 ((p : Int) + 2 + 1) (keep_alloc (heap_alloc_new w _) _) _ rfl rfl) rfl ?_
      exact ⟨none, 0, none, 0, by unfold NodeRes; rw [HTL.out]; rfl, bytes_nil _, strs_nil _, ((Below.refl _ _).alloc (Nat.le_refl _) _).alloc (by simp) _⟩
    · rw [if_neg (by rintro ⟨h1, h2⟩; have h3 : byteAt s (p + 2) = 41 := h41.1 h2; rcases hcase with ⟨_, h⟩ | h <;> omega)]
      have hcase2 : (((k : Int) == 11) = true ∧ (byteAt s (p + 2) == 41) = false) ∨ ((k : Int) == 11) = false := by
        rcases hcase with ⟨h1, h2⟩ | h
        · exact .inl ⟨by rw [h1]; rfl, beqf h2⟩
        · exact .inr (beqf (by omega))
      clear hcase h41
      obtain ⟨nn, hnn⟩ : ∃ nn : Nat, nn = 0 := ⟨0, rfl⟩
      obtain ⟨p3, hp3⟩ : ∃ p3 : Nat, p3 = p + 2 := ⟨p + 2, rfl⟩
      have HP3 := Lib.hid hp3
      have HNN := Lib.hid hnn
      clear hp3 hnn
      rcases hcase2 with ⟨h11i, hbi⟩ | h11i
      all_goals
        go_enter Try.func53, Try.ntmps53
        go_wp2_with (first | (go_at_call 62; ((with_reducible refine (at_lit s p hsm hp63 _).mono ?_); rintro e w' ⟨rfl, rfl⟩)) | (go_at_call 62; ((with_reducible refine (at_next s p hsm hp63 _).mono ?_); rintro e w' ⟨rfl, rfl⟩)) | (go_at_call 62; ((with_reducible refine (at_next2 s p hsm hp63 _).mono ?_); rintro e w' ⟨rfl, rfl⟩)) | (go_at_call 61; ((with_reducible refine (rkind_v _ k HKI.out _).mono ?_); rintro e w' ⟨rfl, rfl⟩)) | fail)
        refine wp_loop_ghost_k (fun n a' wr => ∃ (q : Nat) (acc : List (List UInt8)) (pa : Option Addr) (pc : Nat), a'.defers = [] ∧ a'.tmps.size = 146 ∧ a'.tmps.getD 0 undef = .string s ∧ a'.tmps.getD 1 undef = .int .i64 q ∧ a'.tmps.getD 4 undef = .pointer (some ⟨w.heap.size, 0, none⟩) ∧ a'.tmps.getD 6 undef = .int .i64 k ∧ a'.tmps.getD 7 undef = .pointer (some ⟨w.heap.size + 1, 0, none⟩) ∧ RRel w s k nn g p3 q n acc pa pc wr) g ⟨p3, [], none, 0, rfl, rfl, rfl, by rw [HP3.out]; rfl, rfl, rfl, rfl, ?_⟩ ?_
        · have e1 : (w.alloc (.cells #[.int .i64 0, .int .u64 0, .slice none 0 0, .slice none 0 0] 69)).heap.size = w.heap.size + 1 := by simp
          have h2 := heap_alloc_new (w.alloc (.cells #[.int .i64 0, .int .u64 0, .slice none 0 0, .slice none 0 0] 69)) (.cells #[.int .i64 k, .int .u64 0, .slice none 0 0, .slice none 0 0] 69)
          rw [e1] at h2
          have e3 := HP3.out
          have e4 := HNN.out
          clear HP3 HNN
          subst e3; subst e4
          exact ⟨Nat.le_refl _, rfl, hlt1, by omega, Nat.zero_le _, keep_alloc (heap_alloc_new w _) _, h2, World.ownsRow_nil _ _ _ _, ((Below.refl _ _).alloc (Nat.le_refl _) _).alloc (by simp) _, by simp⟩
        · intro nf a' wr hrel J K hJ hK
          obtain ⟨q, acc, pa, pc, hfd, hfs, hf0, hf1, hf4, hf6, hf7, hL⟩ := hrel
          have HJ := Lib.hid hJ
          have HK := Lib.hid hK
          clear hJ hK
          obtain ⟨T, DD⟩ := a'
          obtain rfl : DD = [] := hfd
          obtain ⟨u, hu⟩ : ∃ u : Nat → Value, T = #[u 0, u 1, u 2, u 3, u 4, u 5, u 6, u 7, u 8, u 9, u 10, u 11, u 12, u 13, u 14, u 15, u 16, u 17, u 18, u 19, u 20, u 21, u 22, u 23, u 24, u 25, u 26, u 27, u 28, u 29, u 30, u 31, u 32, u 33, u 34, u 35, u 36, u 37, u 38, u 39, u 40, u 41, u 42, u 43, u 44, u 45, u 46, u 47, u 48, u 49, u 50, u 51, u 52, u 53, u 54, u 55, u 56, u 57, u 58, u 59, u 60, u 61, u 62, u 63, u 64, u 65, u 66, u 67, u 68, u 69, u 70, u 71, u 72, u 73, u 74, u 75, u 76, u 77, u 78, u 79, u 80, u 81, u 82, u 83, u 84, u 85, u 86, u 87, u 88, u 89, u 90, u 91, u 92, u 93, u 94, u 95, u 96, u 97, u 98, u 99, u 100, u 101, u 102, u 103, u 104, u 105, u 106, u 107, u 108, u 109, u 110, u 111, u 112, u 113, u 114, u 115, u 116, u 117, u 118, u 119, u 120, u 121, u 122, u 123, u 124, u 125, u 126, u 127, u 128, u 129, u 130, u 131, u 132, u 133, u 134, u 135, u 136, u 137, u 138, u 139, u 140, u 141, u 142, u 143, u 144, u 145] := ⟨fun i => T.getD i undef, lit_eq T 146 hfs⟩
          subst hu
          have he0 : u 0 = .string s := hf0
          have he1 : u 1 = .int .i64 q := hf1
          have he4 : u 4 = .pointer (some ⟨w.heap.size, 0, none⟩) := hf4
          have he6 : u 6 = .int .i64 k := hf6
          have he7 : u 7 = .pointer (some ⟨w.heap.size + 1, 0, none⟩) := hf7
          clear hfs hf0 hf1 hf4 hf6 hf7
          rw [he0, he1, he4, he6, he7]
          clear he0 he1 he4 he6 he7
          obtain ⟨hfg, hqe, hqs, hqf, hacc, hR, hN, hO, hB, hsz⟩ := hL
          obtain ⟨f2, rfl⟩ : ∃ f2, nf = f2 + 1 := ⟨nf - 1, by omega⟩
          have hT := HIH.out f2 (by omega) s q wr hs hqs (by omega)
          have HQE := Lib.hid hqe
          have HR := Lib.hid hR; have HN := Lib.hid hN; have HO := Lib.hid hO; have HB := Lib.hid hB
          have hn1 := cell_of hN 3 rfl
          clear hR hN hO hB hn1
          cases hx : pTermS (pLoop f2) (s.data.toList.drop q) with
          | none =>
            rw [hx] at hT
            have HT := Lib.hid hT
            have HOUT : Hid (pLoop g k [] (s.data.toList.drop p3) = none) := Lib.hid (by rw [← hqe]; simp [pLoop, hx])
            clear hT hx hqe
            go_wp2_with (first | (go_at_call 53; ((with_reducible refine HT.out.mono ?_); rintro e w2 ⟨rfl, hB2⟩; have hr2 := (hB2.block _ (Array.getElem?_eq_some_iff.1 HR.out).1).trans HR.out; have hrr := fun o => keep_alloc (w := w2) hr2 o; have q0 := fun o => cell_of (hrr o) 0 rfl; have q1 := fun o => cell_of (hrr o) 1 rfl; have q2 := fun o => cell_of (hrr o) 2 rfl; have q3 := fun o => cell_of (hrr o) 3 rfl; have qf := fun o i => free_of (hrr o) i; have HRR := Lib.hid hrr; have HB2 := Lib.hid hB2; clear hr2 hrr hB2)) | fail)
            refine bodyPost_ret (term_results _ w.heap.size 0 0 none 0 0 none 0 0 (-1) (chain4_box (HRR.out _) rfl) _ rfl rfl) rfl ?_
            exact NPost.bind_none (by rw [← HP3.out]; exact HOUT.out) ⟨rfl, chain4_below ((HB.out.trans (HB2.out.mono HB.out.size)).alloc (Nat.le_trans HB.out.size HB2.out.size) _) (Nat.le_refl _)⟩
          | some x =>
            obtain ⟨k1, n1, b1, ps1, rest⟩ := x
            rw [hx] at hT
            obtain ⟨q2, hq2e⟩ : ∃ q2, posOf s rest = q2 := ⟨_, rfl⟩
            have HT := Lib.hid (nok_at hT hq2e)
            have hsuf : rest <:+ s.data.toList.drop q ∧ rest.length < (s.data.toList.drop q).length := pTerm_suf hx
            obtain ⟨hq1, hq2, hq3⟩ := suf_pos (rest := rest) hqs hsuf.1
            have hrl := hsuf.1.length_le
            have hlt : q < posOf s rest := by have := hsuf.2; simp at this hrl; unfold posOf; omega
            have hpart : s.extract q (posOf s rest) = strB (partOf (s.data.toList.drop q) rest) := part_eq s q rest (by omega) hq2 (by simp at hrl; omega)
            have HX := Lib.hid hx
            have HQ3 := Lib.hid hq3

            clear hT hx hqe hsuf hrl hq3
            have HUN : Hid (pLoop g k [] (s.data.toList.drop p3) = if rest.head? = some 41 then (if okParts k (acc ++ [partOf (s.data.toList.drop q) rest]) then some (acc ++ [partOf (s.data.toList.drop q) rest], rest.tail) else none)
                else if rest.head? = some 44 then pLoop f2 k (acc ++ [partOf (s.data.toList.drop q) rest]) rest.tail else none) := Lib.hid (by
              rw [← HQE.out, pLoop, HX.out]; rfl)
            have HHB : Hid (∀ c : UInt8, c ≠ 0 → (rest.head? = some c ↔ byteAt s (posOf s rest) = c.toNat)) := Lib.hid (fun c hc => by rw [HQ3.out, posOf_drop s (posOf s rest) hq2]; exact head_byte s (posOf s rest) c hc)
            have HTL : Hid (rest.tail = s.data.toList.drop (posOf s rest + 1)) := Lib.hid (by rw [← List.tail_drop, ← HQ3.out])
            generalize partOf (s.data.toList.drop q) rest = part at *
            rw [hq2e] at *
            obtain ⟨i0, hi0, hz0, hz1, hz2⟩ := info_parts Try.infoStr
            go_wp2_with (first | (go_at_call 53; ((with_reducible refine HT.out.mono ?_); rintro e w2 ⟨ab, cb, ap, cp, rfl, hB2⟩; unfold NodeRes; have HR2 := Lib.hid ((hB2.block _ (Array.getElem?_eq_some_iff.1 HR.out).1).trans HR.out); have HN2 := Lib.hid ((hB2.block _ (Array.getElem?_eq_some_iff.1 HN.out).1).trans HN.out); have HO2 := Lib.hid (own_below HO.out hB2); have HZ2 : Hid (w.heap.size + 2 ≤ w2.heap.size) := Lib.hid (Nat.le_trans hsz hB2.size); have HB2 := Lib.hid (HB.out.trans (hB2.mono HB.out.size)); clear hB2)) | fail)
            have HN3 : Hid (((w2.alloc (.cells #[.int .i64 k1, .int .u64 n1, .slice ab b1.length cb, .slice ap ps1.length cp] 69))).heap[w.heap.size + 1]? = some (.cells #[.int .i64 k, .int .u64 nn, .slice none 0 0, .slice pa acc.length pc] 69)) := Lib.hid (keep_alloc HN2.out _)
            have HR3 : Hid (((w2.alloc (.cells #[.int .i64 k1, .int .u64 n1, .slice ab b1.length cb, .slice ap ps1.length cp] 69))).heap[w.heap.size]? = some (.cells #[.int .i64 0, .int .u64 0, .slice none 0 0, .slice none 0 0] 69)) := Lib.hid (keep_alloc HR2.out _)
            have HO3 : Hid (((w2.alloc (.cells #[.int .i64 k1, .int .u64 n1, .slice ab b1.length cb, .slice ap ps1.length cp] 69))).ownsRow (w.heap.size + 2) 9 1 (.slice pa acc.length pc) acc.length (acc.map strV)) := Lib.hid (HO2.out.alloc _)
            have HB3 : Hid (Below w.heap.size w ((w2.alloc (.cells #[.int .i64 k1, .int .u64 n1, .slice ab b1.length cb, .slice ap ps1.length cp] 69)))) := Lib.hid (HB2.out.alloc HB2.out.size _)
            have HZ3 : Hid (w.heap.size + 2 ≤ ((w2.alloc (.cells #[.int .i64 k1, .int .u64 n1, .slice ab b1.length cb, .slice ap ps1.length cp] 69))).heap.size) := Lib.hid (by have := HZ2.out; simp; omega)
            generalize ((w2.alloc (.cells #[.int .i64 k1, .int .u64 n1, .slice ab b1.length cb, .slice ap ps1.length cp] 69))) = w3 at *
            have c3 : w3.cell? ⟨w.heap.size + 1, 3, none⟩ = some (.slice pa acc.length pc) := cell_of HN3.out 3 rfl
            have c3a : ∀ o, (w3.alloc o).cell? ⟨w.heap.size + 1, 3, none⟩ = some (.slice pa acc.length pc) := fun o => cell_of (keep_alloc HN3.out o) 3 rfl
            have HF3 : Hid (RFacts w w3 k nn pa pc acc) := Lib.hid ⟨HR3.out, HN3.out, HO3.out, HB3.out, HZ3.out⟩
            have hacc2 : acc.length + 1 ≤ 65536 := by omega
            have hsl0 : (0 : Int) ≤ q := by omega
            have hsl1 : (q : Int) ≤ q2 := by omega
            have hsl2 : (q2 : Int) ≤ s.size := by omega
            have hsl3 : q2 ≤ 1000000 := by omega
            refine wp_cut (fun a' W => ∃ (g5 cp5 : Nat), a'.defers = [] ∧ a'.tmps.size = 146 ∧ a'.tmps.getD 0 undef = .string s ∧ a'.tmps.getD 1 undef = .int .i64 q ∧ a'.tmps.getD 4 undef = .pointer (some ⟨w.heap.size, 0, none⟩) ∧ a'.tmps.getD 6 undef = .int .i64 k ∧ a'.tmps.getD 7 undef = .pointer (some ⟨w.heap.size + 1, 0, none⟩) ∧ a'.tmps.getD 13 undef = .int .i64 q2 ∧ RFacts w W k nn (some ⟨g5, 0, none⟩) cp5 (acc ++ [part])) ?_ ?_
            rotate_left
            · intro J5 K5 hJ5 hK5
              go_region_law
                (first | (refine step_append_lies _ (by rfl) _ _ _ (by rfl) (w.heap.size + 2) 9 i0 _ 1 16 Try.underlying33 hi0 hz0 hz1 hz2 rfl (by omega) (.slice pa acc.length pc) acc.length (acc.map strV) (by rfl) ((HO3.out.alloc _).drew) ⟨w3.heap.size, 0, none⟩ 1 1 [.string (strB part)] (by rfl) (by rfl) (World.news_of_block (cs := #[.string (strB part)]) (t := 9) (fr := (0, 0)) (heap_alloc_new w3 _)) (by simp [Value.oneCell']) (by omega) (by unfold maxLen; omega) (by omega) (by have := HZ3.out; simp; omega) (w3.heap.size + 1) (by simp) ?_; intro g4 cp4 w4 hown4 hgrow4 hat4 hlt4; have hn4 := keep_far (a := (w3.alloc (.cells #[.string (strB part)] 9)).drew) (keep_alloc HN3.out _) hgrow4 (fun e => own_ne HO3.out (by omega) e.symm); have z3 : w4.cell? ⟨w.heap.size + 1, 3, none⟩ = some (.slice pa acc.length pc) := cell_of hn4 3 rfl; have y3 := free_of hn4 3; clear hn4))
              all_goals
                exact hK5 _ _ (Met.intro (hJ5 _ _ ⟨_, _, rfl, rfl, rfl, rfl, rfl, rfl, rfl, rfl, rfacts_app HF3.out hown4 hgrow4⟩))
            · intro a' w5 hrel5
              obtain ⟨g5, cp5, hfd, hfs, hf0, hf1, hf4, hf6, hf7, hf13, hF5⟩ := hrel5
              clear c3 c3a hpart hi0 hz0 hz1 hz2 HN3 HR3 HO3 HB3 HZ3 HF3 HT HX
              obtain ⟨T, DD⟩ := a'
              obtain rfl : DD = [] := hfd
              obtain ⟨u, hu⟩ : ∃ u : Nat → Value, T = #[u 0, u 1, u 2, u 3, u 4, u 5, u 6, u 7, u 8, u 9, u 10, u 11, u 12, u 13, u 14, u 15, u 16, u 17, u 18, u 19, u 20, u 21, u 22, u 23, u 24, u 25, u 26, u 27, u 28, u 29, u 30, u 31, u 32, u 33, u 34, u 35, u 36, u 37, u 38, u 39, u 40, u 41, u 42, u 43, u 44, u 45, u 46, u 47, u 48, u 49, u 50, u 51, u 52, u 53, u 54, u 55, u 56, u 57, u 58, u 59, u 60, u 61, u 62, u 63, u 64, u 65, u 66, u 67, u 68, u 69, u 70, u 71, u 72, u 73, u 74, u 75, u 76, u 77, u 78, u 79, u 80, u 81, u 82, u 83, u 84, u 85, u 86, u 87, u 88, u 89, u 90, u 91, u 92, u 93, u 94, u 95, u 96, u 97, u 98, u 99, u 100, u 101, u 102, u 103, u 104, u 105, u 106, u 107, u 108, u 109, u 110, u 111, u 112, u 113, u 114, u 115, u 116, u 117, u 118, u 119, u 120, u 121, u 122, u 123, u 124, u 125, u 126, u 127, u 128, u 129, u 130, u 131, u 132, u 133, u 134, u 135, u 136, u 137, u 138, u 139, u 140, u 141, u 142, u 143, u 144, u 145] := ⟨fun i => T.getD i undef, lit_eq T 146 hfs⟩
              subst hu
              have he0 : u 0 = .string s := hf0
              have he1 : u 1 = .int .i64 q := hf1
              have he4 : u 4 = .pointer (some ⟨w.heap.size, 0, none⟩) := hf4
              have he6 : u 6 = .int .i64 k := hf6
              have he7 : u 7 = .pointer (some ⟨w.heap.size + 1, 0, none⟩) := hf7
              have he13 : u 13 = .int .i64 q2 := hf13
              clear hfs hf0 hf1 hf4 hf6 hf7 hf13
              rw [he0, he1, he4, he6, he7, he13]
              clear he0 he1 he4 he6 he7 he13
              obtain ⟨ps, hps⟩ : ∃ ps, acc ++ [part] = ps := ⟨_, rfl⟩
              have HPL : Hid (ps.length = acc.length + 1) := Lib.hid (by rw [← hps]; simp)
              rw [hps] at hF5 HUN
              clear hps
              have h41 := HHB.out 41 (by decide)
              have h44 := HHB.out 44 (by decide)
              have b41 : (41 : UInt8).toNat = 41 := rfl
              have b44 : (44 : UInt8).toNat = 44 := rfl
              have r0 := cell_of hF5.1 0 rfl; have r1 := cell_of hF5.1 1 rfl; have r2 := cell_of hF5.1 2 rfl; have r3 := cell_of hF5.1 3 rfl
              have rf := fun i => free_of hF5.1 i
              have c0 := cell_of hF5.2.1 0 rfl; have c1 := cell_of hF5.2.1 1 rfl; have c2 := cell_of hF5.2.1 2 rfl
              have c3 : w5.cell? ⟨w.heap.size + 1, 3, none⟩ = some (.slice (some ⟨g5, 0, none⟩) ps.length cp5) := cell_of hF5.2.1 3 rfl
              have HF := Lib.hid hF5
              have hplb : ps.length ≤ 65536 := by rw [HPL.out]; omega
              clear hF5
              have hcase : (byteAt s q2 = 41 ∧ right k ps.length = false) ∨ (byteAt s q2 = 41 ∧ right k ps.length = true ∧ k ≠ 6) ∨ (byteAt s q2 = 41 ∧ right k ps.length = true ∧ k = 6 ∧ leL (ps.getD 0 []) (ps.getD 1 []) = false) ∨ (byteAt s q2 = 41 ∧ right k ps.length = true ∧ k = 6 ∧ leL (ps.getD 0 []) (ps.getD 1 []) = true) ∨ byteAt s q2 = 44 ∨ (byteAt s q2 ≠ 41 ∧ byteAt s q2 ≠ 44) := by
                exact round_cases _ _ _ _
              have HH41 := Lib.hid h41; have HH44 := Lib.hid h44
              clear h41 h44 b41 b44
              rcases hcase with ⟨hb, hr⟩ | ⟨hb, hr, h6⟩ | ⟨hb, hr, h6, hle⟩ | ⟨hb, hr, h6, hle⟩ | hb | ⟨hb, hb4⟩
              · have HOUT : Hid (pLoop g k [] (s.data.toList.drop p3) = none) := Lib.hid (by rw [HUN.out, if_pos (HH41.out.2 hb), if_neg (ok_bad hr)])
                have HRI := Lib.hid hr
                have c41 : (byteAt s q2 == 41) = true := b_eq hb
                clear hb hr
                go_wp2_with (first | (go_at_call 62; ((with_reducible refine (at_lit s q2 hsm hsl3 _).mono ?_); rintro e w' ⟨rfl, rfl⟩)) | fail)
                go_quiet ((go_at_call 66; with_reducible refine Calls.quiet_of_same (right_q k ps.length _ HRI.out _)))
                go_wp2
                refine bodyPost_ret (term_results _ w.heap.size 0 0 none 0 0 none 0 0 (-1) (chain4_box (W := w5.drewN nq) HF.out.1 rfl) _ rfl rfl) rfl ?_
                exact NPost.bind_none (by rw [← HP3.out]; exact HOUT.out) ⟨rfl, chain4_below (below_drewN HF.out.2.2.2.1 _) (Nat.le_refl _)⟩
              · have HOUT : Hid (pLoop g k [] (s.data.toList.drop p3) = some (ps, rest.tail)) := Lib.hid (by rw [HUN.out, if_pos (HH41.out.2 hb), if_pos (ok_good hr h6)])
                have HPT : Hid ((posOf s rest.tail : Int) = (q2 : Int) + 1) := Lib.hid (by
                  have := byte_in (c := 41) (by decide) hb
                  rw [HTL.out, posOf_drop s (q2 + 1) (by omega)]; rfl)
                have HRI := Lib.hid hr
                have c41 : (byteAt s q2 == 41) = true := b_eq hb
                have h6i : ((k : Int) == 6) = false := beqf (by omega)
                clear hb hr h6
                go_wp2_with (first | (go_at_call 62; ((with_reducible refine (at_lit s q2 hsm hsl3 _).mono ?_); rintro e w' ⟨rfl, rfl⟩)) | fail)
                go_quiet ((go_at_call 66; with_reducible refine Calls.quiet_of_same (right_q k ps.length _ HRI.out _)))
                go_wp2
                refine bodyPost_ret (term_results _ w.heap.size k nn none 0 0 (some ⟨g5, 0, none⟩) ps.length cp5 ((q2 : Int) + 1) (chain4_box (W := w5.drewN nq) HF.out.1 rfl) _ rfl rfl) rfl ?_
                exact NPost.bind_some (by rw [← HP3.out]; exact HOUT.out) ⟨none, 0, _, cp5, by unfold NodeRes nodeC; rw [HPT.out]; first | rfl | (rw [HNN.out]; rfl), bytes_nil _, strs_other (kk := 0) (n := 0) (strs_own HF.out.2.2.1) HF.out.1 (fun q hq => chain4_other (W := w5.drewN nq) hq), chain4_below (below_drewN HF.out.2.2.2.1 _) (Nat.le_refl _)⟩
              · have h2 := two_parts hr h6
                have HOUT : Hid (pLoop g k [] (s.data.toList.drop p3) = none) := Lib.hid (by rw [HUN.out, if_pos (HH41.out.2 hb), if_neg (ok_bad6 h6 hle)])
                have HRI := Lib.hid hr
                have c41 : (byteAt s q2 == 41) = true := b_eq hb
                have h6i : ((k : Int) == 6) = true := b_eq (by omega)
                have hgt := str_gt (a := ps.getD 0 []) (b := ps.getD 1 [])
                rw [hle] at hgt
                have p0 : w5.cell? ⟨g5, 0, none⟩ = some (.string (strB (ps.getD 0 []))) := cell_part HF.out.2.2.1 0 (by rw [h2]; decide)
                have p1 : w5.cell? ⟨g5, 1, none⟩ = some (.string (strB (ps.getD 1 []))) := cell_part HF.out.2.2.1 1 (by rw [h2]; decide)
                generalize ps.getD 0 [] = x0 at *
                generalize ps.getD 1 [] = x1 at *
                have hl0 : (0 : Int) < ps.length := by rw [h2]; decide
                have hl1 : (1 : Int) < ps.length := by rw [h2]; decide
                clear h2
                clear hb hr h6 hle
                go_wp2_with (first | (go_at_call 62; ((with_reducible refine (at_lit s q2 hsm hsl3 _).mono ?_); rintro e w' ⟨rfl, rfl⟩)) | fail)
                go_quiet ((go_at_call 66; with_reducible refine Calls.quiet_of_same (right_q k ps.length _ HRI.out _)))
                go_wp2
                refine bodyPost_ret (term_results _ w.heap.size 0 0 none 0 0 none 0 0 (-1) (chain4_box (W := w5.drewN nq) HF.out.1 rfl) _ rfl rfl) rfl ?_
                exact NPost.bind_none (by rw [← HP3.out]; exact HOUT.out) ⟨rfl, chain4_below (below_drewN HF.out.2.2.2.1 _) (Nat.le_refl _)⟩
              · have h2 := two_parts hr h6
                have HOUT : Hid (pLoop g k [] (s.data.toList.drop p3) = some (ps, rest.tail)) := Lib.hid (by rw [HUN.out, if_pos (HH41.out.2 hb), if_pos (ok_good6 hr h6 hle)])
                have HPT : Hid ((posOf s rest.tail : Int) = (q2 : Int) + 1) := Lib.hid (by
                  have := byte_in (c := 41) (by decide) hb
                  rw [HTL.out, posOf_drop s (q2 + 1) (by omega)]; rfl)
                have HRI := Lib.hid hr
                have c41 : (byteAt s q2 == 41) = true := b_eq hb
                have h6i : ((k : Int) == 6) = true := b_eq (by omega)
                have hgt := str_gt (a := ps.getD 0 []) (b := ps.getD 1 [])
                rw [hle] at hgt
                have p0 : w5.cell? ⟨g5, 0, none⟩ = some (.string (strB (ps.getD 0 []))) := cell_part HF.out.2.2.1 0 (by rw [h2]; decide)
                have p1 : w5.cell? ⟨g5, 1, none⟩ = some (.string (strB (ps.getD 1 []))) := cell_part HF.out.2.2.1 1 (by rw [h2]; decide)
                generalize ps.getD 0 [] = x0 at *
                generalize ps.getD 1 [] = x1 at *
                have hl0 : (0 : Int) < ps.length := by rw [h2]; decide
                have hl1 : (1 : Int) < ps.length := by rw [h2]; decide
                clear h2
                clear hb hr h6 hle
                go_wp2_with (first | (go_at_call 62; ((with_reducible refine (at_lit s q2 hsm hsl3 _).mono ?_); rintro e w' ⟨rfl, rfl⟩)) | fail)
                go_quiet ((go_at_call 66; with_reducible refine Calls.quiet_of_same (right_q k ps.length _ HRI.out _)))
                go_wp2
                refine bodyPost_ret (term_results _ w.heap.size k nn none 0 0 (some ⟨g5, 0, none⟩) ps.length cp5 ((q2 : Int) + 1) (chain4_box (W := w5.drewN nq) HF.out.1 rfl) _ rfl rfl) rfl ?_
                exact NPost.bind_some (by rw [← HP3.out]; exact HOUT.out) ⟨none, 0, _, cp5, by unfold NodeRes nodeC; rw [HPT.out]; first | rfl | (rw [HNN.out]; rfl), bytes_nil _, strs_other (kk := 0) (n := 0) (strs_own HF.out.2.2.1) HF.out.1 (fun q hq => chain4_other (W := w5.drewN nq) hq), chain4_below (below_drewN HF.out.2.2.2.1 _) (Nat.le_refl _)⟩
              · have hne : ¬ rest.head? = some 41 := fun h => by have := HH41.out.1 h; rw [hb] at this; exact absurd this (by decide)
                have HEQ : Hid (pLoop f2 k ps (s.data.toList.drop (q2 + 1)) = pLoop g k [] (s.data.toList.drop p3)) := Lib.hid (by rw [HUN.out, if_neg hne, if_pos (HH44.out.2 hb), HTL.out])
                have hin : q2 < s.size := byte_in (c := 44) (by decide) hb
                have c41 : (byteAt s q2 == 41) = false := b_ne (by omega)
                have c44 : (byteAt s q2 != 44) = false := b_neq hb
                clear hb hne
                go_wp2_with (first | (go_at_call 62; ((with_reducible refine (at_lit s q2 hsm hsl3 _).mono ?_); rintro e w' ⟨rfl, rfl⟩)) | fail)
                exact HK.out _ _ (Handed.intro f2 (Nat.lt_succ_self _) (HJ.out _ _ _ ⟨q2 + 1, ps, _, _, rfl, rfl, rfl, rfl, rfl, rfl, rfl, by omega, HEQ.out, hin, by omega, (by rw [HPL.out]; omega), HF.out⟩))
              · have hne : ¬ rest.head? = some 41 := fun h => hb (HH41.out.1 h)
                have hne4 : ¬ rest.head? = some 44 := fun h => hb4 (HH44.out.1 h)
                have HOUT : Hid (pLoop g k [] (s.data.toList.drop p3) = none) := Lib.hid (by rw [HUN.out, if_neg hne, if_neg hne4])
                have c41 : (byteAt s q2 == 41) = false := b_ne hb
                have c44 : (byteAt s q2 != 44) = true := b_nne hb4
                clear hb hb4 hne hne4
                go_wp2_with (first | (go_at_call 62; ((with_reducible refine (at_lit s q2 hsm hsl3 _).mono ?_); rintro e w' ⟨rfl, rfl⟩)) | fail)
                refine bodyPost_ret (term_results _ w.heap.size 0 0 none 0 0 none 0 0 (-1) (chain4_box HF.out.1 rfl) _ rfl rfl) rfl ?_
                exact NPost.bind_none (by rw [← HP3.out]; exact HOUT.out) ⟨rfl, chain4_below HF.out.2.2.2.1 (Nat.le_refl _)⟩
  · have e : pass 40 (s.data.toList.drop (p + 1)) = none := by
      cases hx : pass 40 (s.data.toList.drop (p + 1)) with
      | none => rfl
      | some r => rw [pass_some] at hx; exact absurd ((head_byte s (p + 1) 40 (by decide)).1 (by rw [hx]; rfl)) h40
    rw [e]
    have h40i : (byteAt s (p + 1) != 40) = true := by simpa using h40
    clear h40 e
    go_enter Try.func53, Try.ntmps53
    go_wp2_with (first | (go_at_call 62; ((with_reducible refine (at_lit s p hsm hp63 _).mono ?_); rintro e w' ⟨rfl, rfl⟩)) | (go_at_call 62; ((with_reducible refine (at_next s p hsm hp63 _).mono ?_); rintro e w' ⟨rfl, rfl⟩)) | (go_at_call 61; ((with_reducible refine (rkind_v _ k HKI.out _).mono ?_); rintro e w' ⟨rfl, rfl⟩)) | fail)
    refine bodyPost_ret (term_results _ w.heap.size 0 0 none 0 0 none 0 0 (-1) (keep_alloc (heap_alloc_new w _) _) _ rfl rfl) rfl ?_
    exact ⟨rfl, ((Below.refl _ _).alloc (Nat.le_refl _) _).alloc (by simp) _⟩
end Go.Proofs.Ytjbmcjppaadkgaa

namespace Go.Proofs.Ytjbmcjppaadkgaa
set_option linter.unusedVariables false
set_option linter.unusedSimpArgs false
set_option maxRecDepth 100000
open Go.RowKit

theorem word_2 (s : ByteArray) (p : Nat) (hs : s.size ≤ maxLen) (hp : p + 2 ≤ s.size) (d r : List UInt8) (q : Nat) (hd : (s.data.toList.drop (p + 2)).takeWhile isWord = d) (hr : (s.data.toList.drop (p + 2)).dropWhile isWord = r) (hq : posOf s r = q) (w : World) :
    Calls Try.prog 64 #[.string s, .int .i64 ((p : Int) + 2)] w fun e w' => e = .returned (.tuple #[.string (strB d), .int .i64 q]) ∧ w = w' := by
  subst hq; exact word_v s (p + 2) hs hp d r hd hr w
theorem rread_n (d : List UInt8) (hds : (strB d).size ≤ maxLen) (nn : Nat) (hn : rdVal d = nn) (hc : rdCode d = 0) (w : World) : Calls Try.prog 65 #[.string (strB d)] w fun e w' => e = .returned (.tuple #[.int .u64 nn, .int .i64 0]) ∧ w = w' := by
  have := rread_l d hds w
  rw [hn, hc] at this; exact this
theorem shape_num {k : Nat} {sh : Shape} (hk : k = 8 ∨ k = 10) (h : shapeOf k = some sh) : (k = 8 ∧ sh.low = 1 ∧ sh.high = 3) ∨ (k = 10 ∧ sh.low = 0 ∧ sh.high = 18446744073709551615) := by
  rcases hk with rfl | rfl <;> (simp only [shapeOf, Option.some.injEq] at h; subst h; simp)
theorem phead_bad {k : Nat} {sh : Shape} (hk : k = 8 ∨ k = 10) (h : shapeOf k = some sh) (s : ByteArray) (p : Nat) (d r : List UInt8) (q : Nat) (hd : (s.data.toList.drop (p + 2)).takeWhile isWord = d) (hr : (s.data.toList.drop (p + 2)).dropWhile isWord = r) (hq : posOf s r = q)
    (hq2 : r = s.data.toList.drop q) (nn : Nat) (hn : rdVal d = nn) (hbad : rdCode d ≠ 0 ∨ (k = 8 ∧ (nn < 1 ∨ 3 < nn)) ∨ byteAt s q ≠ 44) : pHead k sh (s.data.toList.drop (p + 2)) = none := by
  have hs := shape_num hk h
  unfold pHead
  rw [if_pos hk]
  unfold pNum
  rw [hd, hr]
  by_cases hin : numIn sh.low sh.high d = true
  · rw [if_pos hin]
    simp only [Option.bind_some]
    have hp : pass 44 r = none := by
      cases hx : pass 44 r with
      | none => rfl
      | some r3 =>
        rw [pass_some] at hx
        unfold numIn at hin
        rw [decide_eq_true_eq] at hin
        obtain ⟨h1, h2, h3⟩ := hin
        rcases hbad with hb | hb | hb
        · exact absurd h1 hb
        · rcases hs with ⟨a, b, c⟩ | ⟨a, b, c⟩
          · rw [b] at h2; rw [c] at h3; omega
          · omega
        · exact absurd ((head_byte s q 44 (by decide)).1 (by rw [← hq2, hx]; rfl)) hb
    rw [hp]; rfl
  · rw [if_neg hin]; rfl
theorem phead_good {k : Nat} {sh : Shape} (hk : k = 8 ∨ k = 10) (h : shapeOf k = some sh) (s : ByteArray) (p : Nat) (d r : List UInt8) (q : Nat) (hd : (s.data.toList.drop (p + 2)).takeWhile isWord = d) (hr : (s.data.toList.drop (p + 2)).dropWhile isWord = r) (hq : posOf s r = q)
    (hq2 : r = s.data.toList.drop q) (nn : Nat) (hn : rdVal d = nn) (hc : rdCode d = 0) (h8 : k = 8 → 1 ≤ nn ∧ nn ≤ 3) (hb : byteAt s q = 44) : pHead k sh (s.data.toList.drop (p + 2)) = some (nn, s.data.toList.drop (q + 1)) := by
  have hs := shape_num hk h
  have hv := rdVal_bd d
  have hlt : q < s.size := byte_in (c := 44) (by decide) hb
  unfold pHead
  rw [if_pos hk]
  unfold pNum
  rw [hd, hr]
  have hin : numIn sh.low sh.high d = true := by
    unfold numIn
    rw [decide_eq_true_eq]
    refine ⟨hc, ?_⟩
    rcases hs with ⟨a, b, c⟩ | ⟨a, b, c⟩ <;> rw [b, c] <;> omega
  rw [if_pos hin]
  simp only [Option.bind_some]
  have hp : pass 44 r = some (s.data.toList.drop (q + 1)) := by
    rw [pass_some]
    have h1 := (head_byte s q 44 (by decide)).2 hb
    rw [hq2]
    rw [drop_at s q hlt] at h1 ⊢
    simp at h1; rw [h1]
  rw [hp, hn]; rfl
theorem rfacts_num (w : World) (k nn : Nat) : RFacts w ((w.alloc (.cells #[.int .i64 0, .int .u64 0, .slice none 0 0, .slice none 0 0] 69)).alloc (.cells #[.int .i64 k, .int .u64 nn, .slice none 0 0, .slice none 0 0] 69)) k nn none 0 [] := by
  have e1 : (w.alloc (.cells #[.int .i64 0, .int .u64 0, .slice none 0 0, .slice none 0 0] 69)).heap.size = w.heap.size + 1 := by simp
  have h2 := heap_alloc_new (w.alloc (.cells #[.int .i64 0, .int .u64 0, .slice none 0 0, .slice none 0 0] 69)) (.cells #[.int .i64 k, .int .u64 nn, .slice none 0 0, .slice none 0 0] 69)
  rw [e1] at h2
  exact ⟨keep_alloc (heap_alloc_new w _) _, h2, World.ownsRow_nil _ _ _ _, ((Below.refl _ _).alloc (Nat.le_refl _) _).alloc (by simp) _, by simp⟩
set_option maxHeartbeats 4000000 in
theorem rterm_num (g : Nat) (ih : ∀ g', g' < g → RTermIH g') (s : ByteArray) (p : Nat) (w : World) (hs : s.size ≤ 65536) (hp : p ≤ s.size) (hf : s.size - p ≤ g + 1) (k : Nat) (hk : kindOf (byteAt s p).toNat.toUInt8 = k) (hkk : k = 8 ∨ k = 10) :
    Calls Try.prog 53 #[.string s, .int .i64 p] w (NPost w s (pTermS (pLoop g) (s.data.toList.drop p))) := by
  have hsm : s.size ≤ maxLen := by unfold maxLen; omega
  have hp63 : p ≤ 1000000 := by omega
  have hlt : p < s.size := by
    by_cases hlt : p < s.size
    · exact hlt
    · rw [byte_ge s p hlt] at hk; have : kindOf 0 = 0 := rfl; omega
  have h5 : 5 ≤ k := by omega
  have hk11 : k ≤ 11 := by omega
  obtain ⟨sh, hsh⟩ := shape_ex (k := k) (by omega) hk11
  have HOO : Hid (pTermS (pLoop g) (s.data.toList.drop p) = (pass 40 (s.data.toList.drop (p + 1))).bind fun r1 => (pHead k sh r1).bind fun x => (pLoop g k [] x.2).bind fun y => some (k, x.1, [], y.1, y.2)) := Lib.hid (by
    rw [drop_at s p hlt]
    rw [byte_lt s p hlt] at hk
    simp only [pTermS, hk, hsh]
    show (if k ≤ 4 then _ else _) = _
    rw [if_neg (by omega)]
    simp only [show ¬ k = 11 by omega, false_and, if_false])
  rw [HOO.out]
  have HKI := Lib.hid (And.intro (byte_u8 s p) hk)
  have HIH := Lib.hid ih
  have hz := zero_node
  have hk0 : ((k : Int) == 0) = false := beqf (by omega)
  have hk11i : ((k : Int) == 11) = false := beqf (by omega)
  have hk4 : decide ((k : Int) ≤ 4) = false := decide_eq_false (by omega)
  have HSH := Lib.hid hsh
  clear hk hsh ih
  by_cases h40 : byteAt s (p + 1) = 40
  · have hlt1 : p + 1 < s.size := byte_in (by decide) h40
    have e : pass 40 (s.data.toList.drop (p + 1)) = some (s.data.toList.drop (p + 2)) := by
      rw [pass_some]
      have h1 := (head_byte s (p + 1) 40 (by decide)).2 h40
      rw [drop_at s (p + 1) hlt1] at h1 ⊢
      simp at h1; rw [h1]
    rw [e]
    have h40i : (byteAt s (p + 1) != 40) = false := by simp [h40]
    clear h40 e
    show Calls _ _ _ _ (NPost w s ((pHead k sh (s.data.toList.drop (p + 2))).bind fun x => (pLoop g k [] x.2).bind fun y => some (k, x.1, [], y.1, y.2)))
    obtain ⟨d, hd⟩ : ∃ d, (s.data.toList.drop (p + 2)).takeWhile isWord = d := ⟨_, rfl⟩
    obtain ⟨r, hr⟩ : ∃ r, (s.data.toList.drop (p + 2)).dropWhile isWord = r := ⟨_, rfl⟩
    have hwl := word_run_le s (p + 2)
    have hds : (strB d).size ≤ maxLen := by rw [strB_size, ← hd]; unfold maxLen at hsm ⊢; omega
    have hq0 := suf_pos (s := s) (p := p + 2) (rest := r) (by omega) (by rw [← hr]; exact List.dropWhile_suffix _)
    obtain ⟨q0, hq0e⟩ : ∃ q0, posOf s r = q0 := ⟨_, rfl⟩
    rw [hq0e] at hq0
    have hq01 : p + 2 ≤ q0 := hq0.1
    have hq0s : q0 ≤ s.size := hq0.2.1
    have hq0b : q0 ≤ 1000000 := by omega
    obtain ⟨nn, hnn⟩ : ∃ nn : Nat, rdVal d = nn := ⟨(rdVal d).toNat, by have := rdVal_bd d; omega⟩
    have HD := Lib.hid hd; have HR := Lib.hid hr; have HQ := Lib.hid hq0e; have HNV := Lib.hid hnn
    have hPB := fun h => phead_bad hkk HSH.out s p d r q0 hd hr hq0e hq0.2.2 nn hnn h
    have hPG := fun h1 h2 h3 => phead_good hkk HSH.out s p d r q0 hd hr hq0e hq0.2.2 nn hnn h1 h2 h3
    clear hd hr hq0e hnn hwl hq0
    have hcase : (rdCode d ≠ 0) ∨ (rdCode d = 0 ∧ k = 8 ∧ nn < 1) ∨ (rdCode d = 0 ∧ k = 8 ∧ 3 < nn) ∨ (rdCode d = 0 ∧ k = 8 ∧ 1 ≤ nn ∧ nn ≤ 3) ∨ (rdCode d = 0 ∧ k = 10) := by omega
    rcases hcase with hc | ⟨hc, hk, hu⟩ | ⟨hc, hk, hu⟩ | hcase
    · have HPH := Lib.hid (hPB (.inl hc))
      have hci : (rdCode d != 0) = true := by simpa using hc
      have hk2 : (((k : Int) == 8) = true) ∨ (((k : Int) == 8) = false ∧ ((k : Int) == 10) = true) := by
        rcases hkk with h | h
        · exact .inl (b_eq (by omega))
        · exact .inr ⟨beqf (by omega), b_eq (by omega)⟩
      clear hc hPB hPG hkk
      rcases hk2 with hk8 | ⟨hk8, hk10⟩
      all_goals
        go_enter Try.func53, Try.ntmps53
        go_wp2_with (first | (go_at_call 62; ((with_reducible refine (at_lit s p hsm hp63 _).mono ?_); rintro e w' ⟨rfl, rfl⟩)) | (go_at_call 62; ((with_reducible refine (at_next s p hsm hp63 _).mono ?_); rintro e w' ⟨rfl, rfl⟩)) | (go_at_call 61; ((with_reducible refine (rkind_v _ k HKI.out _).mono ?_); rintro e w' ⟨rfl, rfl⟩)) | (go_at_call 64; ((with_reducible refine (word_2 s p hsm (by omega) d r q0 HD.out HR.out HQ.out _).mono ?_); rintro e w' ⟨rfl, rfl⟩)) | (go_at_call 65; ((with_reducible refine (rread_l d hds _).mono ?_); rintro e w' ⟨rfl, rfl⟩)) | (go_at_call 62; ((with_reducible refine (at_lit s q0 hsm hq0b _).mono ?_); rintro e w' ⟨rfl, rfl⟩)) | fail)
        refine bodyPost_ret (term_results _ w.heap.size 0 0 none 0 0 none 0 0 (-1) (keep_alloc (heap_alloc_new w _) _) _ rfl rfl) rfl ?_
        rw [HPH.out]
        exact ⟨rfl, ((Below.refl _ _).alloc (Nat.le_refl _) _).alloc (by simp) _⟩
    · have HPH := Lib.hid (hPB (.inr (.inl ⟨hk, by omega⟩)))
      have HC := Lib.hid hc
      have hk8 : ((k : Int) == 8) = true := b_eq (by omega)
      have hu1 : (nn : Int) < 1 := by omega
      clear hc hPB hPG hkk hk hu
      iterate 1
        go_enter Try.func53, Try.ntmps53
        go_wp2_with (first | (go_at_call 62; ((with_reducible refine (at_lit s p hsm hp63 _).mono ?_); rintro e w' ⟨rfl, rfl⟩)) | (go_at_call 62; ((with_reducible refine (at_next s p hsm hp63 _).mono ?_); rintro e w' ⟨rfl, rfl⟩)) | (go_at_call 61; ((with_reducible refine (rkind_v _ k HKI.out _).mono ?_); rintro e w' ⟨rfl, rfl⟩)) | (go_at_call 64; ((with_reducible refine (word_2 s p hsm (by omega) d r q0 HD.out HR.out HQ.out _).mono ?_); rintro e w' ⟨rfl, rfl⟩)) | (go_at_call 65; ((with_reducible refine (rread_n d hds nn HNV.out HC.out _).mono ?_); rintro e w' ⟨rfl, rfl⟩)) | (go_at_call 62; ((with_reducible refine (at_lit s q0 hsm hq0b _).mono ?_); rintro e w' ⟨rfl, rfl⟩)) | fail)
        refine bodyPost_ret (term_results _ w.heap.size 0 0 none 0 0 none 0 0 (-1) (keep_alloc (heap_alloc_new w _) _) _ rfl rfl) rfl ?_
        rw [HPH.out]
        exact ⟨rfl, ((Below.refl _ _).alloc (Nat.le_refl _) _).alloc (by simp) _⟩
    · have HPH := Lib.hid (hPB (.inr (.inl ⟨hk, by omega⟩)))
      have HC := Lib.hid hc
      have hk8 : ((k : Int) == 8) = true := b_eq (by omega)
      have hu1 : ¬ (nn : Int) < 1 := by omega
      have hu3 : (3 : Int) < nn := by omega
      clear hc hPB hPG hkk hk hu
      iterate 1
        go_enter Try.func53, Try.ntmps53
        go_wp2_with (first | (go_at_call 62; ((with_reducible refine (at_lit s p hsm hp63 _).mono ?_); rintro e w' ⟨rfl, rfl⟩)) | (go_at_call 62; ((with_reducible refine (at_next s p hsm hp63 _).mono ?_); rintro e w' ⟨rfl, rfl⟩)) | (go_at_call 61; ((with_reducible refine (rkind_v _ k HKI.out _).mono ?_); rintro e w' ⟨rfl, rfl⟩)) | (go_at_call 64; ((with_reducible refine (word_2 s p hsm (by omega) d r q0 HD.out HR.out HQ.out _).mono ?_); rintro e w' ⟨rfl, rfl⟩)) | (go_at_call 65; ((with_reducible refine (rread_n d hds nn HNV.out HC.out _).mono ?_); rintro e w' ⟨rfl, rfl⟩)) | (go_at_call 62; ((with_reducible refine (at_lit s q0 hsm hq0b _).mono ?_); rintro e w' ⟨rfl, rfl⟩)) | fail)
        refine bodyPost_ret (term_results _ w.heap.size 0 0 none 0 0 none 0 0 (-1) (keep_alloc (heap_alloc_new w _) _) _ rfl rfl) rfl ?_
        rw [HPH.out]
        exact ⟨rfl, ((Below.refl _ _).alloc (Nat.le_refl _) _).alloc (by simp) _⟩
    · have hc : rdCode d = 0 := by omega
      have hPG2 := hPG hc (by omega)
      have HC := Lib.hid hc
      have hk2 : (((k : Int) == 8) = true ∧ ¬ (nn : Int) < 1 ∧ ¬ (3 : Int) < nn) ∨ (((k : Int) == 8) = false ∧ ((k : Int) == 10) = true) := by
        rcases hcase with h | h
        · exact .inl ⟨b_eq (by omega), by omega, by omega⟩
        · exact .inr ⟨beqf (by omega), b_eq (by omega)⟩
      clear hc hPG hkk hcase
      by_cases h44 : byteAt s q0 = 44
      · have HPH := Lib.hid (hPG2 h44)
        have hq0l : q0 < s.size := byte_in (c := 44) (by decide) h44
        have h44i : (byteAt s q0 != 44) = false := b_neq h44
        clear h44 hPB hPG2
        rw [HPH.out]
        show Calls _ _ _ _ (NPost w s ((pLoop g k [] (s.data.toList.drop (q0 + 1))).bind fun y => some (k, nn, [], y.1, y.2)))
        obtain ⟨p3, hp3⟩ : ∃ p3 : Nat, p3 = q0 + 1 := ⟨q0 + 1, rfl⟩
        have HP3 := Lib.hid hp3
        clear hp3
        rcases hk2 with ⟨hk8, hu1, hu3⟩ | ⟨hk8, hk10⟩
        all_goals
          go_enter Try.func53, Try.ntmps53
          go_wp2_with (first | (go_at_call 62; ((with_reducible refine (at_lit s p hsm hp63 _).mono ?_); rintro e w' ⟨rfl, rfl⟩)) | (go_at_call 62; ((with_reducible refine (at_next s p hsm hp63 _).mono ?_); rintro e w' ⟨rfl, rfl⟩)) | (go_at_call 61; ((with_reducible refine (rkind_v _ k HKI.out _).mono ?_); rintro e w' ⟨rfl, rfl⟩)) | (go_at_call 64; ((with_reducible refine (word_2 s p hsm (by omega) d r q0 HD.out HR.out HQ.out _).mono ?_); rintro e w' ⟨rfl, rfl⟩)) | (go_at_call 65; ((with_reducible refine (rread_n d hds nn HNV.out HC.out _).mono ?_); rintro e w' ⟨rfl, rfl⟩)) | (go_at_call 62; ((with_reducible refine (at_lit s q0 hsm hq0b _).mono ?_); rintro e w' ⟨rfl, rfl⟩)) | fail)
          refine wp_loop_ghost_k (fun n a' wr => ∃ (q : Nat) (acc : List (List UInt8)) (pa : Option Addr) (pc : Nat), a'.defers = [] ∧ a'.tmps.size = 146 ∧ a'.tmps.getD 0 undef = .string s ∧ a'.tmps.getD 1 undef = .int .i64 q ∧ a'.tmps.getD 4 undef = .pointer (some ⟨w.heap.size, 0, none⟩) ∧ a'.tmps.getD 6 undef = .int .i64 k ∧ a'.tmps.getD 7 undef = .pointer (some ⟨w.heap.size + 1, 0, none⟩) ∧ RRel w s k nn g p3 q n acc pa pc wr) g ⟨p3, [], none, 0, rfl, rfl, rfl, by rw [HP3.out]; rfl, rfl, rfl, rfl, ?_⟩ ?_
          · have e3 := HP3.out
            refine ⟨Nat.le_refl _, rfl, by omega, by omega, Nat.zero_le _, ?_⟩
            exact rfacts_num w k nn
          · intro nf a' wr hrel J K hJ hK
            obtain ⟨q, acc, pa, pc, hfd, hfs, hf0, hf1, hf4, hf6, hf7, hL⟩ := hrel
            have HJ := Lib.hid hJ
            have HK := Lib.hid hK
            clear hJ hK
            obtain ⟨T, DD⟩ := a'
            obtain rfl : DD = [] := hfd
            obtain ⟨u, hu⟩ : ∃ u : Nat → Value, T = #[u 0, u 1, u 2, u 3, u 4, u 5, u 6, u 7, u 8, u 9, u 10, u 11, u 12, u 13, u 14, u 15, u 16, u 17, u 18, u 19, u 20, u 21, u 22, u 23, u 24, u 25, u 26, u 27, u 28, u 29, u 30, u 31, u 32, u 33, u 34, u 35, u 36, u 37, u 38, u 39, u 40, u 41, u 42, u 43, u 44, u 45, u 46, u 47, u 48, u 49, u 50, u 51, u 52, u 53, u 54, u 55, u 56, u 57, u 58, u 59, u 60, u 61, u 62, u 63, u 64, u 65, u 66, u 67, u 68, u 69, u 70, u 71, u 72, u 73, u 74, u 75, u 76, u 77, u 78, u 79, u 80, u 81, u 82, u 83, u 84, u 85, u 86, u 87, u 88, u 89, u 90, u 91, u 92, u 93, u 94, u 95, u 96, u 97, u 98, u 99, u 100, u 101, u 102, u 103, u 104, u 105, u 106, u 107, u 108, u 109, u 110, u 111, u 112, u 113, u 114, u 115, u 116, u 117, u 118, u 119, u 120, u 121, u 122, u 123, u 124, u 125, u 126, u 127, u 128, u 129, u 130, u 131, u 132, u 133, u 134, u 135, u 136, u 137, u 138, u 139, u 140, u 141, u 142, u 143, u 144, u 145] := ⟨fun i => T.getD i undef, lit_eq T 146 hfs⟩
            subst hu
            have he0 : u 0 = .string s := hf0
            have he1 : u 1 = .int .i64 q := hf1
            have he4 : u 4 = .pointer (some ⟨w.heap.size, 0, none⟩) := hf4
            have he6 : u 6 = .int .i64 k := hf6
            have he7 : u 7 = .pointer (some ⟨w.heap.size + 1, 0, none⟩) := hf7
            clear hfs hf0 hf1 hf4 hf6 hf7
            rw [he0, he1, he4, he6, he7]
            clear he0 he1 he4 he6 he7
            obtain ⟨hfg, hqe, hqs, hqf, hacc, hR, hN, hO, hB, hsz⟩ := hL
            obtain ⟨f2, rfl⟩ : ∃ f2, nf = f2 + 1 := ⟨nf - 1, by omega⟩
            have hT := HIH.out f2 (by omega) s q wr hs hqs (by omega)
            have HQE := Lib.hid hqe
            have HR := Lib.hid hR; have HN := Lib.hid hN; have HO := Lib.hid hO; have HB := Lib.hid hB
            have hn1 := cell_of hN 3 rfl
            clear hR hN hO hB hn1
            cases hx : pTermS (pLoop f2) (s.data.toList.drop q) with
            | none =>
              rw [hx] at hT
              have HT := Lib.hid hT
              have HOUT : Hid (pLoop g k [] (s.data.toList.drop p3) = none) := Lib.hid (by rw [← hqe]; simp [pLoop, hx])
              clear hT hx hqe
              go_wp2_with (first | (go_at_call 53; ((with_reducible refine HT.out.mono ?_); rintro e w2 ⟨rfl, hB2⟩; have hr2 := (hB2.block _ (Array.getElem?_eq_some_iff.1 HR.out).1).trans HR.out; have hrr := fun o => keep_alloc (w := w2) hr2 o; have q0 := fun o => cell_of (hrr o) 0 rfl; have q1 := fun o => cell_of (hrr o) 1 rfl; have q2 := fun o => cell_of (hrr o) 2 rfl; have q3 := fun o => cell_of (hrr o) 3 rfl; have qf := fun o i => free_of (hrr o) i; have HRR := Lib.hid hrr; have HB2 := Lib.hid hB2; clear hr2 hrr hB2)) | fail)
              refine bodyPost_ret (term_results _ w.heap.size 0 0 none 0 0 none 0 0 (-1) (chain4_box (HRR.out _) rfl) _ rfl rfl) rfl ?_
              exact NPost.bind_none (by rw [← HP3.out]; exact HOUT.out) ⟨rfl, chain4_below ((HB.out.trans (HB2.out.mono HB.out.size)).alloc (Nat.le_trans HB.out.size HB2.out.size) _) (Nat.le_refl _)⟩
            | some x =>
              obtain ⟨k1, n1, b1, ps1, rest⟩ := x
              rw [hx] at hT
              obtain ⟨q2, hq2e⟩ : ∃ q2, posOf s rest = q2 := ⟨_, rfl⟩
              have HT := Lib.hid (nok_at hT hq2e)
              have hsuf : rest <:+ s.data.toList.drop q ∧ rest.length < (s.data.toList.drop q).length := pTerm_suf hx
              obtain ⟨hq1, hq2, hq3⟩ := suf_pos (rest := rest) hqs hsuf.1
              have hrl := hsuf.1.length_le
              have hlt : q < posOf s rest := by have := hsuf.2; simp at this hrl; unfold posOf; omega
              have hpart : s.extract q (posOf s rest) = strB (partOf (s.data.toList.drop q) rest) := part_eq s q rest (by omega) hq2 (by simp at hrl; omega)
              have HX := Lib.hid hx
              have HQ3 := Lib.hid hq3

              clear hT hx hqe hsuf hrl hq3
              have HUN : Hid (pLoop g k [] (s.data.toList.drop p3) = if rest.head? = some 41 then (if okParts k (acc ++ [partOf (s.data.toList.drop q) rest]) then some (acc ++ [partOf (s.data.toList.drop q) rest], rest.tail) else none)
                  else if rest.head? = some 44 then pLoop f2 k (acc ++ [partOf (s.data.toList.drop q) rest]) rest.tail else none) := Lib.hid (by
                rw [← HQE.out, pLoop, HX.out]; rfl)
              have HHB : Hid (∀ c : UInt8, c ≠ 0 → (rest.head? = some c ↔ byteAt s (posOf s rest) = c.toNat)) := Lib.hid (fun c hc => by rw [HQ3.out, posOf_drop s (posOf s rest) hq2]; exact head_byte s (posOf s rest) c hc)
              have HTL : Hid (rest.tail = s.data.toList.drop (posOf s rest + 1)) := Lib.hid (by rw [← List.tail_drop, ← HQ3.out])
              generalize partOf (s.data.toList.drop q) rest = part at *
              rw [hq2e] at *
              obtain ⟨i0, hi0, hz0, hz1, hz2⟩ := info_parts Try.infoStr
              go_wp2_with (first | (go_at_call 53; ((with_reducible refine HT.out.mono ?_); rintro e w2 ⟨ab, cb, ap, cp, rfl, hB2⟩; unfold NodeRes; have HR2 := Lib.hid ((hB2.block _ (Array.getElem?_eq_some_iff.1 HR.out).1).trans HR.out); have HN2 := Lib.hid ((hB2.block _ (Array.getElem?_eq_some_iff.1 HN.out).1).trans HN.out); have HO2 := Lib.hid (own_below HO.out hB2); have HZ2 : Hid (w.heap.size + 2 ≤ w2.heap.size) := Lib.hid (Nat.le_trans hsz hB2.size); have HB2 := Lib.hid (HB.out.trans (hB2.mono HB.out.size)); clear hB2)) | fail)
              have HN3 : Hid (((w2.alloc (.cells #[.int .i64 k1, .int .u64 n1, .slice ab b1.length cb, .slice ap ps1.length cp] 69))).heap[w.heap.size + 1]? = some (.cells #[.int .i64 k, .int .u64 nn, .slice none 0 0, .slice pa acc.length pc] 69)) := Lib.hid (keep_alloc HN2.out _)
              have HR3 : Hid (((w2.alloc (.cells #[.int .i64 k1, .int .u64 n1, .slice ab b1.length cb, .slice ap ps1.length cp] 69))).heap[w.heap.size]? = some (.cells #[.int .i64 0, .int .u64 0, .slice none 0 0, .slice none 0 0] 69)) := Lib.hid (keep_alloc HR2.out _)
              have HO3 : Hid (((w2.alloc (.cells #[.int .i64 k1, .int .u64 n1, .slice ab b1.length cb, .slice ap ps1.length cp] 69))).ownsRow (w.heap.size + 2) 9 1 (.slice pa acc.length pc) acc.length (acc.map strV)) := Lib.hid (HO2.out.alloc _)
              have HB3 : Hid (Below w.heap.size w ((w2.alloc (.cells #[.int .i64 k1, .int .u64 n1, .slice ab b1.length cb, .slice ap ps1.length cp] 69)))) := Lib.hid (HB2.out.alloc HB2.out.size _)
              have HZ3 : Hid (w.heap.size + 2 ≤ ((w2.alloc (.cells #[.int .i64 k1, .int .u64 n1, .slice ab b1.length cb, .slice ap ps1.length cp] 69))).heap.size) := Lib.hid (by have := HZ2.out; simp; omega)
              generalize ((w2.alloc (.cells #[.int .i64 k1, .int .u64 n1, .slice ab b1.length cb, .slice ap ps1.length cp] 69))) = w3 at *
              have c3 : w3.cell? ⟨w.heap.size + 1, 3, none⟩ = some (.slice pa acc.length pc) := cell_of HN3.out 3 rfl
              have c3a : ∀ o, (w3.alloc o).cell? ⟨w.heap.size + 1, 3, none⟩ = some (.slice pa acc.length pc) := fun o => cell_of (keep_alloc HN3.out o) 3 rfl
              have HF3 : Hid (RFacts w w3 k nn pa pc acc) := Lib.hid ⟨HR3.out, HN3.out, HO3.out, HB3.out, HZ3.out⟩
              have hacc2 : acc.length + 1 ≤ 65536 := by omega
              have hsl0 : (0 : Int) ≤ q := by omega
              have hsl1 : (q : Int) ≤ q2 := by omega
              have hsl2 : (q2 : Int) ≤ s.size := by omega
              have hsl3 : q2 ≤ 1000000 := by omega
              refine wp_cut (fun a' W => ∃ (g5 cp5 : Nat), a'.defers = [] ∧ a'.tmps.size = 146 ∧ a'.tmps.getD 0 undef = .string s ∧ a'.tmps.getD 1 undef = .int .i64 q ∧ a'.tmps.getD 4 undef = .pointer (some ⟨w.heap.size, 0, none⟩) ∧ a'.tmps.getD 6 undef = .int .i64 k ∧ a'.tmps.getD 7 undef = .pointer (some ⟨w.heap.size + 1, 0, none⟩) ∧ a'.tmps.getD 13 undef = .int .i64 q2 ∧ RFacts w W k nn (some ⟨g5, 0, none⟩) cp5 (acc ++ [part])) ?_ ?_
              rotate_left
              · intro J5 K5 hJ5 hK5
                go_region_law
                  (first | (refine step_append_lies _ (by rfl) _ _ _ (by rfl) (w.heap.size + 2) 9 i0 _ 1 16 Try.underlying33 hi0 hz0 hz1 hz2 rfl (by omega) (.slice pa acc.length pc) acc.length (acc.map strV) (by rfl) ((HO3.out.alloc _).drew) ⟨w3.heap.size, 0, none⟩ 1 1 [.string (strB part)] (by rfl) (by rfl) (World.news_of_block (cs := #[.string (strB part)]) (t := 9) (fr := (0, 0)) (heap_alloc_new w3 _)) (by simp [Value.oneCell']) (by omega) (by unfold maxLen; omega) (by omega) (by have := HZ3.out; simp; omega) (w3.heap.size + 1) (by simp) ?_; intro g4 cp4 w4 hown4 hgrow4 hat4 hlt4; have hn4 := keep_far (a := (w3.alloc (.cells #[.string (strB part)] 9)).drew) (keep_alloc HN3.out _) hgrow4 (fun e => own_ne HO3.out (by omega) e.symm); have z3 : w4.cell? ⟨w.heap.size + 1, 3, none⟩ = some (.slice pa acc.length pc) := cell_of hn4 3 rfl; have y3 := free_of hn4 3; clear hn4))
                all_goals
                  exact hK5 _ _ (Met.intro (hJ5 _ _ ⟨_, _, rfl, rfl, rfl, rfl, rfl, rfl, rfl, rfl, rfacts_app HF3.out hown4 hgrow4⟩))
              · intro a' w5 hrel5
                obtain ⟨g5, cp5, hfd, hfs, hf0, hf1, hf4, hf6, hf7, hf13, hF5⟩ := hrel5
                clear c3 c3a hpart hi0 hz0 hz1 hz2 HN3 HR3 HO3 HB3 HZ3 HF3 HT HX
                obtain ⟨T, DD⟩ := a'
                obtain rfl : DD = [] := hfd
                obtain ⟨u, hu⟩ : ∃ u : Nat → Value, T = #[u 0, u 1, u 2, u 3, u 4, u 5, u 6, u 7, u 8, u 9, u 10, u 11, u 12, u 13, u 14, u 15, u 16, u 17, u 18, u 19, u 20, u 21, u 22, u 23, u 24, u 25, u 26, u 27, u 28, u 29, u 30, u 31, u 32, u 33, u 34, u 35, u 36, u 37, u 38, u 39, u 40, u 41, u 42, u 43, u 44, u 45, u 46, u 47, u 48, u 49, u 50, u 51, u 52, u 53, u 54, u 55, u 56, u 57, u 58, u 59, u 60, u 61, u 62, u 63, u 64, u 65, u 66, u 67, u 68, u 69, u 70, u 71, u 72, u 73, u 74, u 75, u 76, u 77, u 78, u 79, u 80, u 81, u 82, u 83, u 84, u 85, u 86, u 87, u 88, u 89, u 90, u 91, u 92, u 93, u 94, u 95, u 96, u 97, u 98, u 99, u 100, u 101, u 102, u 103, u 104, u 105, u 106, u 107, u 108, u 109, u 110, u 111, u 112, u 113, u 114, u 115, u 116, u 117, u 118, u 119, u 120, u 121, u 122, u 123, u 124, u 125, u 126, u 127, u 128, u 129, u 130, u 131, u 132, u 133, u 134, u 135, u 136, u 137, u 138, u 139, u 140, u 141, u 142, u 143, u 144, u 145] := ⟨fun i => T.getD i undef, lit_eq T 146 hfs⟩
                subst hu
                have he0 : u 0 = .string s := hf0
                have he1 : u 1 = .int .i64 q := hf1
                have he4 : u 4 = .pointer (some ⟨w.heap.size, 0, none⟩) := hf4
                have he6 : u 6 = .int .i64 k := hf6
                have he7 : u 7 = .pointer (some ⟨w.heap.size + 1, 0, none⟩) := hf7
                have he13 : u 13 = .int .i64 q2 := hf13
                clear hfs hf0 hf1 hf4 hf6 hf7 hf13
                rw [he0, he1, he4, he6, he7, he13]
                clear he0 he1 he4 he6 he7 he13
                obtain ⟨ps, hps⟩ : ∃ ps, acc ++ [part] = ps := ⟨_, rfl⟩
                have HPL : Hid (ps.length = acc.length + 1) := Lib.hid (by rw [← hps]; simp)
                rw [hps] at hF5 HUN
                clear hps
                have h41 := HHB.out 41 (by decide)
                have h44 := HHB.out 44 (by decide)
                have b41 : (41 : UInt8).toNat = 41 := rfl
                have b44 : (44 : UInt8).toNat = 44 := rfl
                have r0 := cell_of hF5.1 0 rfl; have r1 := cell_of hF5.1 1 rfl; have r2 := cell_of hF5.1 2 rfl; have r3 := cell_of hF5.1 3 rfl
                have rf := fun i => free_of hF5.1 i
                have c0 := cell_of hF5.2.1 0 rfl; have c1 := cell_of hF5.2.1 1 rfl; have c2 := cell_of hF5.2.1 2 rfl
                have c3 : w5.cell? ⟨w.heap.size + 1, 3, none⟩ = some (.slice (some ⟨g5, 0, none⟩) ps.length cp5) := cell_of hF5.2.1 3 rfl
                have HF := Lib.hid hF5
                have hplb : ps.length ≤ 65536 := by rw [HPL.out]; omega
                clear hF5
                have hcase : (byteAt s q2 = 41 ∧ right k ps.length = false) ∨ (byteAt s q2 = 41 ∧ right k ps.length = true ∧ k ≠ 6) ∨ (byteAt s q2 = 41 ∧ right k ps.length = true ∧ k = 6 ∧ leL (ps.getD 0 []) (ps.getD 1 []) = false) ∨ (byteAt s q2 = 41 ∧ right k ps.length = true ∧ k = 6 ∧ leL (ps.getD 0 []) (ps.getD 1 []) = true) ∨ byteAt s q2 = 44 ∨ (byteAt s q2 ≠ 41 ∧ byteAt s q2 ≠ 44) := by
                  exact round_cases _ _ _ _
                have HH41 := Lib.hid h41; have HH44 := Lib.hid h44
                clear h41 h44 b41 b44
                rcases hcase with ⟨hb, hr⟩ | ⟨hb, hr, h6⟩ | ⟨hb, hr, h6, hle⟩ | ⟨hb, hr, h6, hle⟩ | hb | ⟨hb, hb4⟩
                · have HOUT : Hid (pLoop g k [] (s.data.toList.drop p3) = none) := Lib.hid (by rw [HUN.out, if_pos (HH41.out.2 hb), if_neg (ok_bad hr)])
                  have HRI := Lib.hid hr
                  have c41 : (byteAt s q2 == 41) = true := b_eq hb
                  clear hb hr
                  go_wp2_with (first | (go_at_call 62; ((with_reducible refine (at_lit s q2 hsm hsl3 _).mono ?_); rintro e w' ⟨rfl, rfl⟩)) | fail)
                  go_quiet ((go_at_call 66; with_reducible refine Calls.quiet_of_same (right_q k ps.length _ HRI.out _)))
                  go_wp2
                  refine bodyPost_ret (term_results _ w.heap.size 0 0 none 0 0 none 0 0 (-1) (chain4_box (W := w5.drewN nq) HF.out.1 rfl) _ rfl rfl) rfl ?_
                  exact NPost.bind_none (by rw [← HP3.out]; exact HOUT.out) ⟨rfl, chain4_below (below_drewN HF.out.2.2.2.1 _) (Nat.le_refl _)⟩
                · have HOUT : Hid (pLoop g k [] (s.data.toList.drop p3) = some (ps, rest.tail)) := Lib.hid (by rw [HUN.out, if_pos (HH41.out.2 hb), if_pos (ok_good hr h6)])
                  have HPT : Hid ((posOf s rest.tail : Int) = (q2 : Int) + 1) := Lib.hid (by
                    have := byte_in (c := 41) (by decide) hb
                    rw [HTL.out, posOf_drop s (q2 + 1) (by omega)]; rfl)
                  have HRI := Lib.hid hr
                  have c41 : (byteAt s q2 == 41) = true := b_eq hb
                  have h6i : ((k : Int) == 6) = false := beqf (by omega)
                  clear hb hr h6
                  go_wp2_with (first | (go_at_call 62; ((with_reducible refine (at_lit s q2 hsm hsl3 _).mono ?_); rintro e w' ⟨rfl, rfl⟩)) | fail)
                  go_quiet ((go_at_call 66; with_reducible refine Calls.quiet_of_same (right_q k ps.length _ HRI.out _)))
                  go_wp2
                  refine bodyPost_ret (term_results _ w.heap.size k nn none 0 0 (some ⟨g5, 0, none⟩) ps.length cp5 ((q2 : Int) + 1) (chain4_box (W := w5.drewN nq) HF.out.1 rfl) _ rfl rfl) rfl ?_
                  exact NPost.bind_some (by rw [← HP3.out]; exact HOUT.out) ⟨none, 0, _, cp5, by unfold NodeRes nodeC; rw [HPT.out]; first | rfl | (rw [HNN.out]; rfl), bytes_nil _, strs_other (kk := 0) (n := 0) (strs_own HF.out.2.2.1) HF.out.1 (fun q hq => chain4_other (W := w5.drewN nq) hq), chain4_below (below_drewN HF.out.2.2.2.1 _) (Nat.le_refl _)⟩
                · have h2 := two_parts hr h6
                  have HOUT : Hid (pLoop g k [] (s.data.toList.drop p3) = none) := Lib.hid (by rw [HUN.out, if_pos (HH41.out.2 hb), if_neg (ok_bad6 h6 hle)])
                  have HRI := Lib.hid hr
                  have c41 : (byteAt s q2 == 41) = true := b_eq hb
                  have h6i : ((k : Int) == 6) = true := b_eq (by omega)
                  have hgt := str_gt (a := ps.getD 0 []) (b := ps.getD 1 [])
                  rw [hle] at hgt
                  have p0 : w5.cell? ⟨g5, 0, none⟩ = some (.string (strB (ps.getD 0 []))) := cell_part HF.out.2.2.1 0 (by rw [h2]; decide)
                  have p1 : w5.cell? ⟨g5, 1, none⟩ = some (.string (strB (ps.getD 1 []))) := cell_part HF.out.2.2.1 1 (by rw [h2]; decide)
                  generalize ps.getD 0 [] = x0 at *
                  generalize ps.getD 1 [] = x1 at *
                  have hl0 : (0 : Int) < ps.length := by rw [h2]; decide
                  have hl1 : (1 : Int) < ps.length := by rw [h2]; decide
                  clear h2
                  clear hb hr h6 hle
                  go_wp2_with (first | (go_at_call 62; ((with_reducible refine (at_lit s q2 hsm hsl3 _).mono ?_); rintro e w' ⟨rfl, rfl⟩)) | fail)
                  go_quiet ((go_at_call 66; with_reducible refine Calls.quiet_of_same (right_q k ps.length _ HRI.out _)))
                  go_wp2
                  refine bodyPost_ret (term_results _ w.heap.size 0 0 none 0 0 none 0 0 (-1) (chain4_box (W := w5.drewN nq) HF.out.1 rfl) _ rfl rfl) rfl ?_
                  exact NPost.bind_none (by rw [← HP3.out]; exact HOUT.out) ⟨rfl, chain4_below (below_drewN HF.out.2.2.2.1 _) (Nat.le_refl _)⟩
                · have h2 := two_parts hr h6
                  have HOUT : Hid (pLoop g k [] (s.data.toList.drop p3) = some (ps, rest.tail)) := Lib.hid (by rw [HUN.out, if_pos (HH41.out.2 hb), if_pos (ok_good6 hr h6 hle)])
                  have HPT : Hid ((posOf s rest.tail : Int) = (q2 : Int) + 1) := Lib.hid (by
                    have := byte_in (c := 41) (by decide) hb
                    rw [HTL.out, posOf_drop s (q2 + 1) (by omega)]; rfl)
                  have HRI := Lib.hid hr
                  have c41 : (byteAt s q2 == 41) = true := b_eq hb
                  have h6i : ((k : Int) == 6) = true := b_eq (by omega)
                  have hgt := str_gt (a := ps.getD 0 []) (b := ps.getD 1 [])
                  rw [hle] at hgt
                  have p0 : w5.cell? ⟨g5, 0, none⟩ = some (.string (strB (ps.getD 0 []))) := cell_part HF.out.2.2.1 0 (by rw [h2]; decide)
                  have p1 : w5.cell? ⟨g5, 1, none⟩ = some (.string (strB (ps.getD 1 []))) := cell_part HF.out.2.2.1 1 (by rw [h2]; decide)
                  generalize ps.getD 0 [] = x0 at *
                  generalize ps.getD 1 [] = x1 at *
                  have hl0 : (0 : Int) < ps.length := by rw [h2]; decide
                  have hl1 : (1 : Int) < ps.length := by rw [h2]; decide
                  clear h2
                  clear hb hr h6 hle
                  go_wp2_with (first | (go_at_call 62; ((with_reducible refine (at_lit s q2 hsm hsl3 _).mono ?_); rintro e w' ⟨rfl, rfl⟩)) | fail)
                  go_quiet ((go_at_call 66; with_reducible refine Calls.quiet_of_same (right_q k ps.length _ HRI.out _)))
                  go_wp2
                  refine bodyPost_ret (term_results _ w.heap.size k nn none 0 0 (some ⟨g5, 0, none⟩) ps.length cp5 ((q2 : Int) + 1) (chain4_box (W := w5.drewN nq) HF.out.1 rfl) _ rfl rfl) rfl ?_
                  exact NPost.bind_some (by rw [← HP3.out]; exact HOUT.out) ⟨none, 0, _, cp5, by unfold NodeRes nodeC; rw [HPT.out]; first | rfl | (rw [HNN.out]; rfl), bytes_nil _, strs_other (kk := 0) (n := 0) (strs_own HF.out.2.2.1) HF.out.1 (fun q hq => chain4_other (W := w5.drewN nq) hq), chain4_below (below_drewN HF.out.2.2.2.1 _) (Nat.le_refl _)⟩
                · have hne : ¬ rest.head? = some 41 := fun h => by have := HH41.out.1 h; rw [hb] at this; exact absurd this (by decide)
                  have HEQ : Hid (pLoop f2 k ps (s.data.toList.drop (q2 + 1)) = pLoop g k [] (s.data.toList.drop p3)) := Lib.hid (by rw [HUN.out, if_neg hne, if_pos (HH44.out.2 hb), HTL.out])
                  have hin : q2 < s.size := byte_in (c := 44) (by decide) hb
                  have c41 : (byteAt s q2 == 41) = false := b_ne (by omega)
                  have c44 : (byteAt s q2 != 44) = false := b_neq hb
                  clear hb hne
                  go_wp2_with (first | (go_at_call 62; ((with_reducible refine (at_lit s q2 hsm hsl3 _).mono ?_); rintro e w' ⟨rfl, rfl⟩)) | fail)
                  exact HK.out _ _ (Handed.intro f2 (Nat.lt_succ_self _) (HJ.out _ _ _ ⟨q2 + 1, ps, _, _, rfl, rfl, rfl, rfl, rfl, rfl, rfl, by omega, HEQ.out, hin, by omega, (by rw [HPL.out]; omega), HF.out⟩))
                · have hne : ¬ rest.head? = some 41 := fun h => hb (HH41.out.1 h)
                  have hne4 : ¬ rest.head? = some 44 := fun h => hb4 (HH44.out.1 h)
                  have HOUT : Hid (pLoop g k [] (s.data.toList.drop p3) = none) := Lib.hid (by rw [HUN.out, if_neg hne, if_neg hne4])
                  have c41 : (byteAt s q2 == 41) = false := b_ne hb
                  have c44 : (byteAt s q2 != 44) = true := b_nne hb4
                  clear hb hb4 hne hne4
                  go_wp2_with (first | (go_at_call 62; ((with_reducible refine (at_lit s q2 hsm hsl3 _).mono ?_); rintro e w' ⟨rfl, rfl⟩)) | fail)
                  refine bodyPost_ret (term_results _ w.heap.size 0 0 none 0 0 none 0 0 (-1) (chain4_box HF.out.1 rfl) _ rfl rfl) rfl ?_
                  exact NPost.bind_none (by rw [← HP3.out]; exact HOUT.out) ⟨rfl, chain4_below HF.out.2.2.2.1 (Nat.le_refl _)⟩
      · have HPH := Lib.hid (hPB (.inr (.inr h44)))
        have h44i : (byteAt s q0 != 44) = true := b_nne h44
        clear h44 hPB hPG2
        rcases hk2 with ⟨hk8, hu1, hu3⟩ | ⟨hk8, hk10⟩
        all_goals
          go_enter Try.func53, Try.ntmps53
          go_wp2_with (first | (go_at_call 62; ((with_reducible refine (at_lit s p hsm hp63 _).mono ?_); rintro e w' ⟨rfl, rfl⟩)) | (go_at_call 62; ((with_reducible refine (at_next s p hsm hp63 _).mono ?_); rintro e w' ⟨rfl, rfl⟩)) | (go_at_call 61; ((with_reducible refine (rkind_v _ k HKI.out _).mono ?_); rintro e w' ⟨rfl, rfl⟩)) | (go_at_call 64; ((with_reducible refine (word_2 s p hsm (by omega) d r q0 HD.out HR.out HQ.out _).mono ?_); rintro e w' ⟨rfl, rfl⟩)) | (go_at_call 65; ((with_reducible refine (rread_n d hds nn HNV.out HC.out _).mono ?_); rintro e w' ⟨rfl, rfl⟩)) | (go_at_call 62; ((with_reducible refine (at_lit s q0 hsm hq0b _).mono ?_); rintro e w' ⟨rfl, rfl⟩)) | fail)
          refine bodyPost_ret (term_results _ w.heap.size 0 0 none 0 0 none 0 0 (-1) (keep_alloc (heap_alloc_new w _) _) _ rfl rfl) rfl ?_
          rw [HPH.out]
          exact ⟨rfl, ((Below.refl _ _).alloc (Nat.le_refl _) _).alloc (by simp) _⟩
  · have e : pass 40 (s.data.toList.drop (p + 1)) = none := by
      cases hx : pass 40 (s.data.toList.drop (p + 1)) with
      | none => rfl
      | some r => rw [pass_some] at hx; exact absurd ((head_byte s (p + 1) 40 (by decide)).1 (by rw [hx]; rfl)) h40
    rw [e]
    have h40i : (byteAt s (p + 1) != 40) = true := by simpa using h40
    clear h40 e
    go_enter Try.func53, Try.ntmps53
    go_wp2_with (first | (go_at_call 62; ((with_reducible refine (at_lit s p hsm hp63 _).mono ?_); rintro e w' ⟨rfl, rfl⟩)) | (go_at_call 62; ((with_reducible refine (at_next s p hsm hp63 _).mono ?_); rintro e w' ⟨rfl, rfl⟩)) | (go_at_call 61; ((with_reducible refine (rkind_v _ k HKI.out _).mono ?_); rintro e w' ⟨rfl, rfl⟩)) | fail)
    refine bodyPost_ret (term_results _ w.heap.size 0 0 none 0 0 none 0 0 (-1) (keep_alloc (heap_alloc_new w _) _) _ rfl rfl) rfl ?_
    exact ⟨rfl, ((Below.refl _ _).alloc (Nat.le_refl _) _).alloc (by simp) _⟩
end Go.Proofs.Ytjbmcjppaadkgaa

namespace Go.Proofs.Ytjbmcjppaadkgaa
set_option linter.unusedVariables false
set_option linter.unusedSimpArgs false
set_option maxRecDepth 100000
open Go.RowKit

theorem rterm_all : ∀ g, RTermIH g := by
  intro g
  induction g using Nat.strongRecOn with
  | ind g ih =>
    intro s p w hs hp hf
    have h11 := kindOf_le (byteAt s p).toNat.toUInt8
    rcases (show kindOf (byteAt s p).toNat.toUInt8 = 0 ∨ (1 ≤ kindOf (byteAt s p).toNat.toUInt8 ∧ kindOf (byteAt s p).toNat.toUInt8 ≤ 4) ∨ (kindOf (byteAt s p).toNat.toUInt8 = 8 ∨ kindOf (byteAt s p).toNat.toUInt8 = 10) ∨ (5 ≤ kindOf (byteAt s p).toNat.toUInt8 ∧ kindOf (byteAt s p).toNat.toUInt8 ≠ 8 ∧ kindOf (byteAt s p).toNat.toUInt8 ≠ 10) by omega) with h | ⟨h1, h2⟩ | h | ⟨h1, h2, h3⟩
    · exact rterm_none g s p w hs hp h
    · exact rterm_leaf g s p w hs hp _ rfl h1 h2
    · exact rterm_num g ih s p w hs hp hf _ rfl h
    · exact rterm_plain g ih s p w hs hp hf _ rfl h1 h2 h3

/-- what the reference reads: kind, number, bytes, parts -/
def nodeR (t : List UInt8) : Nat × Nat × List UInt8 × List (List UInt8) := (pLook t).getD (0, 0, [], [])
def NodeRet (w : World) (x : Nat × Nat × List UInt8 × List (List UInt8)) (e : Ending) (w' : World) : Prop :=
  ∃ ab cb ap cp, e = .returned (.agg #[.int .i64 x.1, .int .u64 x.2.1, .slice ab x.2.2.1.length cb, .slice ap x.2.2.2.length cp]) ∧ Bytes w' (.slice ab x.2.2.1.length cb) x.2.2.1 ∧ Strs w' (.slice ap x.2.2.2.length cp) x.2.2.2 ∧ Below w.heap.size w w'

theorem read_results (W : World) (b k n : Nat) (ab : Option Addr) (bl cb : Nat) (ap : Option Addr) (pl cp : Nat) (h : W.heap[b]? = some (.cells (nodeC k n ab bl cb ap pl cp) 69 (0, 0))) (T : Array Value) (h6 : T.getD 2 undef = .pointer (some ⟨b, 0, none⟩)) :
    (results Try.f37 T).run Try.prog W = .ok (.agg (nodeC k n ab bl cb ap pl cp)) W := by
  have c0 := cell_of h 0 rfl; have c1 := cell_of h 1 rfl; have c2 := cell_of h 2 rfl; have c3 := cell_of h 3 rfl
  have e6 : T[2]?.getD undef = .pointer (some ⟨b, 0, none⟩) := by simpa using h6
  simp [results, Try.results37, go_sem, e6, c0, c1, c2, c3]

theorem term_0 (s : ByteArray) (w : World) (hs : s.size ≤ 65536) : Calls Try.prog 53 #[.string s, .int .i64 0] w (NPost w s (pTermS (pLoop s.size) s.data.toList)) := by
  have := rterm_all s.size s 0 w hs (Nat.zero_le _) (by omega)
  rw [List.drop_zero] at this
  exact this
theorem pTerm_suf0 {g : Nat} {l : List UInt8} {x : Nat × Nat × List UInt8 × List (List UInt8) × List UInt8} (h : pTermS (pLoop g) l = some x) : x.2.2.2.2 <:+ l := by
  obtain ⟨k1, n1, b1, ps1, rest⟩ := x
  exact (pTerm_suf h).1

theorem nok_full {f : Nat} {args : Array Value} {wr : World} {s : ByteArray} {k1 n1 q2 : Nat} {b1 : List UInt8} {ps1 : List (List UInt8)} {rest : List UInt8} (h : Calls Try.prog f args wr (NPost wr s (some (k1, n1, b1, ps1, rest)))) (he : posOf s rest = q2) :
    Calls Try.prog f args wr (fun e w2 => ∃ ab cb ap cp, e = NodeRes k1 n1 ab b1.length cb ap ps1.length cp (q2 : Int) ∧ Bytes w2 (.slice ab b1.length cb) b1 ∧ Strs w2 (.slice ap ps1.length cp) ps1 ∧ Below wr.heap.size wr w2) := by
  subst he
  exact h
theorem bytes_alloc {W : World} {v : Value} {l : List UInt8} (h : Bytes W v l) (o : Obj) : Bytes (W.alloc o) v l := h.below ((Below.refl _ _).alloc (Nat.le_refl _) _)
theorem strs_alloc {W : World} {v : Value} {l : List (List UInt8)} (h : Strs W v l) (o : Obj) : Strs (W.alloc o) v l := h.below ((Below.refl _ _).alloc (Nat.le_refl _) _)
theorem rnode_any (s : ByteArray) (hs : s.size ≤ maxLen) (w : World) : Calls Try.prog 37 #[.string s] w (NodeRet w (nodeR s.data.toList)) := by
  unfold maxLen at hs
  have hz := zero_node
  have hlen : s.data.toList.length = s.size := by simp
  by_cases hbig : 65536 < s.size
  · have HO : Hid (nodeR s.data.toList = (0, 0, [], [])) := Lib.hid (by unfold nodeR pLook; rw [if_neg (by rw [hlen]; omega)]; rfl)
    clear hlen
    have hbi : (65536 : Int) < s.size := by omega
    go_enter Try.func37, Try.ntmps37
    go_wp2_with fail
    refine bodyPost_ret (read_results _ w.heap.size 0 0 none 0 0 none 0 0 (heap_alloc_new w _) _ rfl) rfl ?_
    rw [HO.out]
    exact ⟨none, 0, none, 0, rfl, bytes_nil _, strs_nil _, (Below.refl _ _).alloc (Nat.le_refl _) _⟩
  · have hle : s.size ≤ 65536 := by omega
    have hbi : ¬ (65536 : Int) < s.size := by omega
    have hT := fun w => term_0 s w hle
    have HU : Hid (nodeR s.data.toList = ((pTermS (pLoop s.size) s.data.toList).bind fun x => if x.2.2.2.2 = [] then some (x.1, x.2.1, x.2.2.1, x.2.2.2.1) else none).getD (0, 0, [], [])) := Lib.hid (by unfold nodeR pLook; rw [hlen, if_pos hle])
    have HSF : Hid (∀ x, pTermS (pLoop s.size) s.data.toList = some x → x.2.2.2.2 <:+ s.data.toList) := Lib.hid (fun x h => pTerm_suf0 h)
    have HLEN := Lib.hid hlen
    clear hlen
    cases hx : pTermS (pLoop s.size) s.data.toList with
    | none =>
      have HO : Hid (nodeR s.data.toList = (0, 0, [], [])) := Lib.hid (by rw [HU.out, hx]; rfl)
      rw [hx] at hT
      have HT := Lib.hid hT
      have hm1 : ((-1 : Int) != s.size) = true := b_nne (by omega)
      clear hx hT
      go_enter Try.func37, Try.ntmps37
      go_wp2_with (first | (go_at_call 53; ((with_reducible refine (HT.out _).mono ?_); rintro e w2 ⟨rfl, hB2⟩; have hr2 := (hB2.block w.heap.size (by simp)).trans (heap_alloc_new w _); have hrr := fun o => keep_alloc (w := w2) hr2 o; have q0 := fun o => cell_of (hrr o) 0 rfl; have q1 := fun o => cell_of (hrr o) 1 rfl; have q2 := fun o => cell_of (hrr o) 2 rfl; have q3 := fun o => cell_of (hrr o) 3 rfl; have qf := fun o i => free_of (hrr o) i; have HRR := Lib.hid hrr; have HB2 := Lib.hid hB2; clear hr2 hrr hB2)) | fail)
      refine bodyPost_ret (read_results _ w.heap.size 0 0 none 0 0 none 0 0 (chain4_box (HRR.out _) rfl) _ rfl) rfl ?_
      rw [HO.out]
      exact ⟨none, 0, none, 0, rfl, bytes_nil _, strs_nil _, chain4_below ((((Below.refl _ _).alloc (Nat.le_refl _) _).trans (HB2.out.mono (by simp))).alloc (by have := HB2.out.size; simp at this; omega) _) (Nat.le_refl _)⟩
    | some x =>
      obtain ⟨k1, n1, b1, ps1, rest⟩ := x
      have hsf : rest <:+ s.data.toList := HSF.out _ hx
      have hrl : rest.length ≤ s.size := by have := hsf.length_le; rw [HLEN.out] at this; exact this
      obtain ⟨q2, hq2⟩ : ∃ q2, posOf s rest = q2 := ⟨_, rfl⟩
      rw [hx] at hT
      have hT2 := fun w => nok_full (hT w) hq2
      by_cases hr : rest = []
      · have HO : Hid (nodeR s.data.toList = (k1, n1, b1, ps1)) := Lib.hid (by rw [HU.out, hx]; simp [hr])
        have hqe : ((q2 : Int) != s.size) = false := b_neq (by rw [← hq2, hr]; unfold posOf; simp)
        have HT := Lib.hid hT2
        clear hx hT hT2 hsf hrl hr hq2
        go_enter Try.func37, Try.ntmps37
        go_wp2_with (first | (go_at_call 53; ((with_reducible refine (HT.out _).mono ?_); rintro e w2 ⟨ab, cb, ap, cp, rfl, hvb, hvp, hB2⟩; unfold NodeRes; have hr2 := (hB2.block w.heap.size (by simp)).trans (heap_alloc_new w _); have hrr := fun o => keep_alloc (w := w2) hr2 o; have q0 := fun o => cell_of (hrr o) 0 rfl; have q1 := fun o => cell_of (hrr o) 1 rfl; have q2 := fun o => cell_of (hrr o) 2 rfl; have q3 := fun o => cell_of (hrr o) 3 rfl; have qf := fun o i => free_of (hrr o) i; have HRR := Lib.hid hrr; have HB2 := Lib.hid hB2; have HVB := Lib.hid hvb; have HVP := Lib.hid hvp; clear hr2 hrr hB2 hvb hvp)) | fail)
        refine bodyPost_ret (read_results _ w.heap.size k1 n1 ab b1.length cb ap ps1.length cp (chain4_box (HRR.out _) rfl) _ rfl) rfl ?_
        rw [HO.out]
        exact ⟨ab, cb, ap, cp, rfl, bytes_other (kk := 0) (n := 0) (bytes_alloc HVB.out _) (HRR.out _) (fun q hq => chain4_other hq), strs_other (kk := 0) (n := 0) (strs_alloc HVP.out _) (HRR.out _) (fun q hq => chain4_other hq), chain4_below ((((Below.refl _ _).alloc (Nat.le_refl _) _).trans (HB2.out.mono (by simp))).alloc (by have := HB2.out.size; simp at this; omega) _) (Nat.le_refl _)⟩
      · have HO : Hid (nodeR s.data.toList = (0, 0, [], [])) := Lib.hid (by rw [HU.out, hx]; simp [hr])
        have hrp : 0 < rest.length := List.length_pos_iff.2 hr
        have hqe : ((q2 : Int) != s.size) = true := b_nne (by rw [← hq2]; unfold posOf; omega)
        have HT := Lib.hid hT2
        clear hx hT hT2 hsf hrl hr hq2 hrp
        go_enter Try.func37, Try.ntmps37
        go_wp2_with (first | (go_at_call 53; ((with_reducible refine (HT.out _).mono ?_); rintro e w2 ⟨ab, cb, ap, cp, rfl, hvb, hvp, hB2⟩; unfold NodeRes; have hr2 := (hB2.block w.heap.size (by simp)).trans (heap_alloc_new w _); have hrr := fun o => keep_alloc (w := w2) hr2 o; have q0 := fun o => cell_of (hrr o) 0 rfl; have q1 := fun o => cell_of (hrr o) 1 rfl; have q2 := fun o => cell_of (hrr o) 2 rfl; have q3 := fun o => cell_of (hrr o) 3 rfl; have qf := fun o i => free_of (hrr o) i; have HRR := Lib.hid hrr; have HB2 := Lib.hid hB2; have HVB := Lib.hid hvb; have HVP := Lib.hid hvp; clear hr2 hrr hB2 hvb hvp)) | fail)
        refine bodyPost_ret (read_results _ w.heap.size 0 0 none 0 0 none 0 0 (chain4_box (HRR.out _) rfl) _ rfl) rfl ?_
        rw [HO.out]
        exact ⟨none, 0, none, 0, rfl, bytes_nil _, strs_nil _, chain4_below ((((Below.refl _ _).alloc (Nat.le_refl _) _).trans (HB2.out.mono (by simp))).alloc (by have := HB2.out.size; simp at this; omega) _) (Nat.le_refl _)⟩
end Go.Proofs.Ytjbmcjppaadkgaa
