import Derived.Test.YtelfcdfbhnkakaaRef5
namespace Go.Proofs.Ytelfcdfbhnkakaa
set_option linter.unusedVariables false
set_option linter.unusedSimpArgs false
set_option maxRecDepth 100000
open Go.RowKit

theorem rterm_all : ∀ g, RTermIH g := by
  intro g
  induction g using Nat.strongRecOn with
  | ind g ih =>
    intro s p w hs hp hf
    have h11 := kindOf_le (byteAt s p).toNat.toUInt8
    rcases (show kindOf (byteAt s p).toNat.toUInt8 = 0 ∨ (1 ≤ kindOf (byteAt s p).toNat.toUInt8 ∧ kindOf (byteAt s p).toNat.toUInt8 ≤ 4) ∨ (kindOf (byteAt s p).toNat.toUInt8 = 8 ∨ kindOf (byteAt s p).toNat.toUInt8 = 10) ∨ (5 ≤ kindOf (byteAt s p).toNat.toUInt8 ∧ kindOf (byteAt s p).toNat.toUInt8 ≠ 8 ∧ kindOf (byteAt s p).toNat.toUInt8 ≠ 10) by omega) with h | ⟨h1, h2⟩ | h | ⟨h1, h2, h3⟩
    · exact rterm_none g s p w hs hp h
    · exact rterm_leaf g s p w hs hp _ rfl h1 h2
    · exact rterm_num g ih s p w hs hp hf _ rfl h
    · exact rterm_plain g ih s p w hs hp hf _ rfl h1 h2 h3

/-- what the reference reads: kind, number, bytes, parts -/
def nodeR (t : List UInt8) : Nat × Nat × List UInt8 × List (List UInt8) := (pLook t).getD (0, 0, [], [])
def NodeRet (w : World) (x : Nat × Nat × List UInt8 × List (List UInt8)) (e : Ending) (w' : World) : Prop :=
  ∃ ab cb ap cp, e = .returned (.agg #[.int .i64 x.1, .int .u64 x.2.1, .slice ab x.2.2.1.length cb, .slice ap x.2.2.2.length cp]) ∧ Bytes w' (.slice ab x.2.2.1.length cb) x.2.2.1 ∧ Strs w' (.slice ap x.2.2.2.length cp) x.2.2.2 ∧ Below w.heap.size w w'

theorem read_results (W : World) (b k n : Nat) (ab : Option Addr) (bl cb : Nat) (ap : Option Addr) (pl cp : Nat) (h : W.heap[b]? = some (.cells (nodeC k n ab bl cb ap pl cp) 27 (0, 0))) (T : Array Value) (h6 : T.getD 2 undef = .pointer (some ⟨b, 0, none⟩)) :
    (results Try.f8 T).run Try.prog W = .ok (.agg (nodeC k n ab bl cb ap pl cp)) W := by
  have c0 := cell_of h 0 rfl; have c1 := cell_of h 1 rfl; have c2 := cell_of h 2 rfl; have c3 := cell_of h 3 rfl
  have e6 : T[2]?.getD undef = .pointer (some ⟨b, 0, none⟩) := by simpa using h6
  simp [results, Try.results8, go_sem, e6, c0, c1, c2, c3]

theorem term_0 (s : ByteArray) (w : World) (hs : s.size ≤ 65536) : Calls Try.prog 26 #[.string s, .int .i64 0] w (NPost w s (pTermS (pLoop s.size) s.data.toList)) := by
  have := rterm_all s.size s 0 w hs (Nat.zero_le _) (by omega)
  rw [List.drop_zero] at this
  exact this
theorem pTerm_suf0 {g : Nat} {l : List UInt8} {x : Nat × Nat × List UInt8 × List (List UInt8) × List UInt8} (h : pTermS (pLoop g) l = some x) : x.2.2.2.2 <:+ l := by
  obtain ⟨k1, n1, b1, ps1, rest⟩ := x
  exact (pTerm_suf h).1

theorem nok_full {f : Nat} {args : Array Value} {wr : World} {s : ByteArray} {k1 n1 q2 : Nat} {b1 : List UInt8} {ps1 : List (List UInt8)} {rest : List UInt8} (h : Calls Try.prog f args wr (NPost wr s (some (k1, n1, b1, ps1, rest)))) (he : posOf s rest = q2) :
    Calls Try.prog f args wr (fun e w2 => ∃ ab cb ap cp, e = NodeRes k1 n1 ab b1.length cb ap ps1.length cp (q2 : Int) ∧ Bytes w2 (.slice ab b1.length cb) b1 ∧ Strs w2 (.slice ap ps1.length cp) ps1 ∧ Below wr.heap.size wr w2) := by
  subst he
  exact h
theorem bytes_alloc {W : World} {v : Value} {l : List UInt8} (h : Bytes W v l) (o : Obj) : Bytes (W.alloc o) v l := h.below ((Below.refl _ _).alloc (Nat.le_refl _) _)
theorem strs_alloc {W : World} {v : Value} {l : List (List UInt8)} (h : Strs W v l) (o : Obj) : Strs (W.alloc o) v l := h.below ((Below.refl _ _).alloc (Nat.le_refl _) _)
theorem rnode_any (s : ByteArray) (hs : s.size ≤ maxLen) (w : World) : Calls Try.prog 8 #[.string s] w (NodeRet w (nodeR s.data.toList)) := by
  unfold maxLen at hs
  have hz := zero_node
  have hlen : s.data.toList.length = s.size := by simp
  by_cases hbig : 65536 < s.size
  · have HO : Hid (nodeR s.data.toList = (0, 0, [], [])) := Lib.hid (by unfold nodeR pLook; rw [if_neg (by rw [hlen]; omega)]; rfl)
    clear hlen
    have hbi : (65536 : Int) < s.size := by omega
    go_enter Try.func8, Try.ntmps8
    go_wp2_with fail
    refine bodyPost_ret (read_results _ w.heap.size 0 0 none 0 0 none 0 0 (heap_alloc_new w _) _ rfl) rfl ?_
    rw [HO.out]
    exact ⟨none, 0, none, 0, rfl, bytes_nil _, strs_nil _, (Below.refl _ _).alloc (Nat.le_refl _) _⟩
  · have hle : s.size ≤ 65536 := by omega
    have hbi : ¬ (65536 : Int) < s.size := by omega
    have hT := fun w => term_0 s w hle
    have HU : Hid (nodeR s.data.toList = ((pTermS (pLoop s.size) s.data.toList).bind fun x => if x.2.2.2.2 = [] then some (x.1, x.2.1, x.2.2.1, x.2.2.2.1) else none).getD (0, 0, [], [])) := Lib.hid (by unfold nodeR pLook; rw [hlen, if_pos hle])
    have HSF : Hid (∀ x, pTermS (pLoop s.size) s.data.toList = some x → x.2.2.2.2 <:+ s.data.toList) := Lib.hid (fun x h => pTerm_suf0 h)
    have HLEN := Lib.hid hlen
    clear hlen
    cases hx : pTermS (pLoop s.size) s.data.toList with
    | none =>
      have HO : Hid (nodeR s.data.toList = (0, 0, [], [])) := Lib.hid (by rw [HU.out, hx]; rfl)
      rw [hx] at hT
      have HT := Lib.hid hT
      have hm1 : ((-1 : Int) != s.size) = true := b_nne (by omega)
      clear hx hT
      go_enter Try.func8, Try.ntmps8
      go_wp2_with (first | (go_at_call 26; ((with_reducible refine (HT.out _).mono ?_); rintro e w2 ⟨rfl, hB2⟩; have hr2 := (hB2.block w.heap.size (by simp)).trans (heap_alloc_new w _); have hrr := fun o => keep_alloc (w := w2) hr2 o; have q0 := fun o => cell_of (hrr o) 0 rfl; have q1 := fun o => cell_of (hrr o) 1 rfl; have q2 := fun o => cell_of (hrr o) 2 rfl; have q3 := fun o => cell_of (hrr o) 3 rfl; have qf := fun o i => free_of (hrr o) i; have HRR := Lib.hid hrr; have HB2 := Lib.hid hB2; clear hr2 hrr hB2)) | fail)
      refine bodyPost_ret (read_results _ w.heap.size 0 0 none 0 0 none 0 0 (chain4_box (HRR.out _) rfl) _ rfl) rfl ?_
      rw [HO.out]
      exact ⟨none, 0, none, 0, rfl, bytes_nil _, strs_nil _, chain4_below ((((Below.refl _ _).alloc (Nat.le_refl _) _).trans (HB2.out.mono (by simp))).alloc (by have := HB2.out.size; simp at this; omega) _) (Nat.le_refl _)⟩
    | some x =>
      obtain ⟨k1, n1, b1, ps1, rest⟩ := x
      have hsf : rest <:+ s.data.toList := HSF.out _ hx
      have hrl : rest.length ≤ s.size := by have := hsf.length_le; rw [HLEN.out] at this; exact this
      obtain ⟨q2, hq2⟩ : ∃ q2, posOf s rest = q2 := ⟨_, rfl⟩
      rw [hx] at hT
      have hT2 := fun w => nok_full (hT w) hq2
      by_cases hr : rest = []
      · have HO : Hid (nodeR s.data.toList = (k1, n1, b1, ps1)) := Lib.hid (by rw [HU.out, hx]; simp [hr])
        have hqe : ((q2 : Int) != s.size) = false := b_neq (by rw [← hq2, hr]; unfold posOf; simp)
        have HT := Lib.hid hT2
        clear hx hT hT2 hsf hrl hr hq2
        go_enter Try.func8, Try.ntmps8
        go_wp2_with (first | (go_at_call 26; ((with_reducible refine (HT.out _).mono ?_); rintro e w2 ⟨ab, cb, ap, cp, rfl, hvb, hvp, hB2⟩; unfold NodeRes; have hr2 := (hB2.block w.heap.size (by simp)).trans (heap_alloc_new w _); have hrr := fun o => keep_alloc (w := w2) hr2 o; have q0 := fun o => cell_of (hrr o) 0 rfl; have q1 := fun o => cell_of (hrr o) 1 rfl; have q2 := fun o => cell_of (hrr o) 2 rfl; have q3 := fun o => cell_of (hrr o) 3 rfl; have qf := fun o i => free_of (hrr o) i; have HRR := Lib.hid hrr; have HB2 := Lib.hid hB2; have HVB := Lib.hid hvb; have HVP := Lib.hid hvp; clear hr2 hrr hB2 hvb hvp)) | fail)
        refine bodyPost_ret (read_results _ w.heap.size k1 n1 ab b1.length cb ap ps1.length cp (chain4_box (HRR.out _) rfl) _ rfl) rfl ?_
        rw [HO.out]
        exact ⟨ab, cb, ap, cp, rfl, bytes_other (kk := 0) (n := 0) (bytes_alloc HVB.out _) (HRR.out _) (fun q hq => chain4_other hq), strs_other (kk := 0) (n := 0) (strs_alloc HVP.out _) (HRR.out _) (fun q hq => chain4_other hq), chain4_below ((((Below.refl _ _).alloc (Nat.le_refl _) _).trans (HB2.out.mono (by simp))).alloc (by have := HB2.out.size; simp at this; omega) _) (Nat.le_refl _)⟩
      · have HO : Hid (nodeR s.data.toList = (0, 0, [], [])) := Lib.hid (by rw [HU.out, hx]; simp [hr])
        have hrp : 0 < rest.length := List.length_pos_iff.2 hr
        have hqe : ((q2 : Int) != s.size) = true := b_nne (by rw [← hq2]; unfold posOf; omega)
        have HT := Lib.hid hT2
        clear hx hT hT2 hsf hrl hr hq2 hrp
        go_enter Try.func8, Try.ntmps8
        go_wp2_with (first | (go_at_call 26; ((with_reducible refine (HT.out _).mono ?_); rintro e w2 ⟨ab, cb, ap, cp, rfl, hvb, hvp, hB2⟩; unfold NodeRes; have hr2 := (hB2.block w.heap.size (by simp)).trans (heap_alloc_new w _); have hrr := fun o => keep_alloc (w := w2) hr2 o; have q0 := fun o => cell_of (hrr o) 0 rfl; have q1 := fun o => cell_of (hrr o) 1 rfl; have q2 := fun o => cell_of (hrr o) 2 rfl; have q3 := fun o => cell_of (hrr o) 3 rfl; have qf := fun o i => free_of (hrr o) i; have HRR := Lib.hid hrr; have HB2 := Lib.hid hB2; have HVB := Lib.hid hvb; have HVP := Lib.hid hvp; clear hr2 hrr hB2 hvb hvp)) | fail)
        refine bodyPost_ret (read_results _ w.heap.size 0 0 none 0 0 none 0 0 (chain4_box (HRR.out _) rfl) _ rfl) rfl ?_
        rw [HO.out]
        exact ⟨none, 0, none, 0, rfl, bytes_nil _, strs_nil _, chain4_below ((((Below.refl _ _).alloc (Nat.le_refl _) _).trans (HB2.out.mono (by simp))).alloc (by have := HB2.out.size; simp at this; omega) _) (Nat.le_refl _)⟩
end Go.Proofs.Ytelfcdfbhnkakaa
