import Derived.Test.YtelfcdfbhnkakaaRef1
namespace Go.Proofs.Ytelfcdfbhnkakaa
set_option linter.unusedVariables false
set_option linter.unusedSimpArgs false
set_option maxRecDepth 100000
open Go.RowKit

def NodeRes (k n : Nat) (ab : Option Addr) (bl cb : Nat) (ap : Option Addr) (pl cp : Nat) (j : Int) : Ending :=
  .returned (.tuple #[.agg #[.int .i64 k, .int .u64 n, .slice ab bl cb, .slice ap pl cp], .int .i64 j])
def NOk (w : World) (s : ByteArray) (k n : Nat) (b : List UInt8) (ps : List (List UInt8)) (rest : List UInt8) (e : Ending) (w' : World) : Prop :=
  ∃ ab cb ap cp, e = NodeRes k n ab b.length cb ap ps.length cp (posOf s rest) ∧ Bytes w' (.slice ab b.length cb) b ∧ Strs w' (.slice ap ps.length cp) ps ∧ Below w.heap.size w w'
def NBad (w : World) (e : Ending) (w' : World) : Prop :=
  e = .returned (.tuple #[.agg #[.int .i64 0, .int .u64 0, .slice none 0 0, .slice none 0 0], .int .i64 (-1)]) ∧ Below w.heap.size w w'
def NPost (w : World) (s : ByteArray) (o : Option (Nat × Nat × List UInt8 × List (List UInt8) × List UInt8)) (e : Ending) (w' : World) : Prop :=
  match o with
  | some x => NOk w s x.1 x.2.1 x.2.2.1 x.2.2.2.1 x.2.2.2.2 e w'
  | none => NBad w e w'

theorem zero_node (w : World) : (zeroValue 27).run Try.prog w = .ok (.agg #[.int .i64 0, .int .u64 0, .slice none 0 0, .slice none 0 0]) w := by kernel_rfl
abbrev nodeC (k n : Nat) (ab : Option Addr) (bl cb : Nat) (ap : Option Addr) (pl cp : Nat) : Array Value := #[.int .i64 k, .int .u64 n, .slice ab bl cb, .slice ap pl cp]
theorem leaf_results (W : World) (b k n : Nat) (ab : Option Addr) (bl cb : Nat) (ap : Option Addr) (pl cp : Nat) (j : Int) (h : W.heap[b]? = some (.cells (nodeC k n ab bl cb ap pl cp) 27 (0, 0))) (T : Array Value) (h6 : T.getD 6 undef = .pointer (some ⟨b, 0, none⟩)) (h7 : T.getD 7 undef = .int .i64 j) :
    (results Try.f37 T).run Try.prog W = .ok (.tuple #[.agg (nodeC k n ab bl cb ap pl cp), .int .i64 j]) W := by
  have c0 := cell_of h 0 rfl; have c1 := cell_of h 1 rfl; have c2 := cell_of h 2 rfl; have c3 := cell_of h 3 rfl
  have e6 : T[6]?.getD undef = .pointer (some ⟨b, 0, none⟩) := by simpa using h6
  have e7 : T[7]?.getD undef = .int .i64 j := by simpa using h7
  simp [results, Try.results37, go_sem, e6, e7, c0, c1, c2, c3]

theorem bytes_slice {w : World} {v : Value} {l : List UInt8} (h : Bytes w v l) : ∃ a c, v = .slice a l.length c := by
  obtain ⟨a, c, rfl, _⟩ := h; exact ⟨a, c, rfl⟩

theorem rread_l (d : List UInt8) (hds : (strB d).size ≤ maxLen) (w : World) : Calls Try.prog 39 #[.string (strB d)] w fun e w' => e = .returned (.tuple #[.int .u64 (rdVal d), .int .i64 (rdCode d)]) ∧ w = w' := rread_any (strB d) hds w
theorem rreadhex_l (d : List UInt8) (hds : (strB d).size ≤ 1000000) (w : World) : Calls Try.prog 50 #[.string (strB d)] w (HexRet w d) := rreadhex_any (strB d) hds w

theorem leaf_zero (s : ByteArray) (p : Nat) (hp : p ≤ s.size) (w : World) : Calls Try.prog 37 #[.string s, .int .i64 p, .int .i64 1] w (NOk w s 1 0 [] [] (s.data.toList.drop p)) := by
  have hz := zero_node
  have HP := Lib.hid (posOf_drop s p hp)
  go_enter Try.func37, Try.ntmps37
  go_wp2_with fail
  refine bodyPost_ret (leaf_results _ w.heap.size 1 0 none 0 0 none 0 0 p (heap_alloc_new w _) _ rfl rfl) rfl ?_
  exact ⟨none, 0, none, 0, by unfold NodeRes; rw [HP.out]; rfl, bytes_nil _, strs_nil _, (Below.refl _ _).alloc (Nat.le_refl _) _⟩

theorem word_run_le (s : ByteArray) (p : Nat) : ((s.data.toList.drop p).takeWhile isWord).length ≤ s.size := by
  have := digs_run_le isWord s p; omega

theorem word_v (s : ByteArray) (p : Nat) (hs : s.size ≤ maxLen) (hp : p ≤ s.size) (d r : List UInt8) (hd : (s.data.toList.drop p).takeWhile isWord = d) (hr : (s.data.toList.drop p).dropWhile isWord = r) (w : World) :
    Calls Try.prog 38 #[.string s, .int .i64 p] w fun e w' => e = .returned (.tuple #[.string (strB d), .int .i64 (posOf s r)]) ∧ w = w' := by
  subst hd; subst hr
  exact word_any s p hs hp w

theorem leaf_num (k : Nat) (hk : k = 2 ∨ k = 3) (sh : Shape) (hs : shapeOf k = some sh) (s : ByteArray) (p : Nat) (hsm : s.size ≤ maxLen) (hp : p ≤ s.size) (w : World) :
    Calls Try.prog 37 #[.string s, .int .i64 p, .int .i64 k] w (NPost w s ((pNum sh.low sh.high (s.data.toList.drop p)).bind fun x => some (k, x.1, [], [], x.2))) := by
  have hz := zero_node
  have hwl := word_run_le s p
  obtain ⟨d, hd⟩ : ∃ d, (s.data.toList.drop p).takeWhile isWord = d := ⟨_, rfl⟩
  obtain ⟨r, hr⟩ : ∃ r, (s.data.toList.drop p).dropWhile isWord = r := ⟨_, rfl⟩
  have hlow : sh.low = 0 ∧ ((k = 2 ∧ sh.high = 4294967295) ∨ (k = 3 ∧ sh.high = 18446744073709551615)) := by
    rcases hk with rfl | rfl <;> (simp only [shapeOf, Option.some.injEq] at hs; subst hs; simp)
  have hv := rdVal_bd d
  have hds : (strB d).size ≤ maxLen := by rw [strB_size, ← hd]; unfold maxLen at hsm ⊢; omega
  unfold pNum
  rw [hd, hr]
  have HD := Lib.hid hd
  have HR := Lib.hid hr
  have hnum : numIn sh.low sh.high d = decide (rdCode d = 0 ∧ (k = 3 ∨ (k = 2 ∧ rdVal d ≤ 4294967295))) := by
    unfold numIn
    rw [decide_eq_decide]
    rcases hlow with ⟨h1, ⟨h2, h3⟩ | ⟨h2, h3⟩⟩ <;> rw [h1, h3] <;> constructor <;> intro h <;> simp at h ⊢ <;> omega
  rw [hnum]
  have hcase : (rdCode d ≠ 0) ∨ (rdCode d = 0 ∧ k = 2 ∧ 4294967295 < rdVal d) ∨ (rdCode d = 0 ∧ k = 3) ∨ (rdCode d = 0 ∧ k = 2 ∧ rdVal d ≤ 4294967295) := by omega
  have hpw : Hid (posOf s r = posOf s r) := Lib.hid rfl
  clear hnum hs hlow hd hr hwl
  rcases hcase with h | ⟨h, rfl, h3⟩ | ⟨h, rfl⟩ | ⟨h, rfl, h3⟩
  · rw [if_neg (by simp [h])]
    have hc : (rdCode d != 0) = true := by simpa using h
    clear h
    rcases hk with rfl | rfl
    all_goals
      go_enter Try.func37, Try.ntmps37
      go_wp2_with (first | (go_at_call 38; ((with_reducible refine (word_v s p hsm hp d r HD.out HR.out _).mono ?_); rintro e w' ⟨rfl, rfl⟩)) | (go_at_call 39; ((with_reducible refine (rread_l d hds _).mono ?_); rintro e w' ⟨rfl, rfl⟩)) | fail)
      refine bodyPost_ret (leaf_results _ w.heap.size 0 0 none 0 0 none 0 0 (-1) (heap_alloc_new w _) _ rfl rfl) rfl ?_
      exact ⟨rfl, (Below.refl _ _).alloc (Nat.le_refl _) _⟩
  · rw [if_neg (by simp; omega)]
    have hc : (rdCode d != 0) = false := by simp [h]
    clear h
    go_enter Try.func37, Try.ntmps37
    go_wp2_with (first | (go_at_call 38; ((with_reducible refine (word_v s p hsm hp d r HD.out HR.out _).mono ?_); rintro e w' ⟨rfl, rfl⟩)) | (go_at_call 39; ((with_reducible refine (rread_l d hds _).mono ?_); rintro e w' ⟨rfl, rfl⟩)) | fail)
    refine bodyPost_ret (leaf_results _ w.heap.size 0 0 none 0 0 none 0 0 (-1) (heap_alloc_new w _) _ rfl rfl) rfl ?_
    exact ⟨rfl, (Below.refl _ _).alloc (Nat.le_refl _) _⟩
  · rw [if_pos (by simp [h])]
    have hc : (rdCode d != 0) = false := by simp [h]
    have HV : Hid (rdVal d = ((rdVal d).toNat : Nat)) := Lib.hid (by omega)
    clear h
    generalize (rdVal d).toNat = nn at *
    go_enter Try.func37, Try.ntmps37
    go_wp2_with (first | (go_at_call 38; ((with_reducible refine (word_v s p hsm hp d r HD.out HR.out _).mono ?_); rintro e w' ⟨rfl, rfl⟩)) | (go_at_call 39; ((with_reducible refine (rread_l d hds _).mono ?_); rintro e w' ⟨rfl, rfl⟩)) | fail)
    rw [HV.out]
    refine bodyPost_ret (leaf_results _ w.heap.size 3 nn none 0 0 none 0 0 (posOf s r) (heap_alloc_new w _) _ rfl rfl) rfl ?_
    exact ⟨none, 0, none, 0, rfl, bytes_nil _, strs_nil _, (Below.refl _ _).alloc (Nat.le_refl _) _⟩
  · rw [if_pos (by simp [h]; omega)]
    have hc : (rdCode d != 0) = false := by simp [h]
    have HV : Hid (rdVal d = ((rdVal d).toNat : Nat)) := Lib.hid (by omega)
    clear h
    generalize (rdVal d).toNat = nn at *
    go_enter Try.func37, Try.ntmps37
    go_wp2_with (first | (go_at_call 38; ((with_reducible refine (word_v s p hsm hp d r HD.out HR.out _).mono ?_); rintro e w' ⟨rfl, rfl⟩)) | (go_at_call 39; ((with_reducible refine (rread_l d hds _).mono ?_); rintro e w' ⟨rfl, rfl⟩)) | fail)
    rw [HV.out]
    refine bodyPost_ret (leaf_results _ w.heap.size 2 nn none 0 0 none 0 0 (posOf s r) (heap_alloc_new w _) _ rfl rfl) rfl ?_
    exact ⟨none, 0, none, 0, rfl, bytes_nil _, strs_nil _, (Below.refl _ _).alloc (Nat.le_refl _) _⟩

section
variable {W : World} {k : Nat} {v0 v1 v2 v3 : Value}
theorem chain4_box {C : Array Value} {T : TypeId} (h : W.heap[k]? = some (.cells C T (0, 0))) (hC : C.size = 4) :
    ((((W.setCell ⟨k, 0, none⟩ v0).setCell ⟨k, 1, none⟩ v1).setCell ⟨k, 2, none⟩ v2).setCell ⟨k, 3, none⟩ v3).heap[k]? = some (.cells #[v0, v1, v2, v3] T (0, 0)) := by
  rw [heap_set (heap_set (heap_set (heap_set h)))]
  obtain ⟨l⟩ := C
  match l, hC with
  | [a, b, c, d], _ => rfl
theorem chain4_other {q : Nat} (hq : q ≠ k) : ((((W.setCell ⟨k, 0, none⟩ v0).setCell ⟨k, 1, none⟩ v1).setCell ⟨k, 2, none⟩ v2).setCell ⟨k, 3, none⟩ v3).heap[q]? = W.heap[q]? := by
  rw [heap_set_other hq, heap_set_other hq, heap_set_other hq, heap_set_other hq]
end
theorem cell_other {W W' : World} {b i : Nat} {v : Value} (h : W.cell? ⟨b, i, none⟩ = some v) (hW : W'.heap[b]? = W.heap[b]?) : W'.cell? ⟨b, i, none⟩ = some v := by
  unfold World.cell? at h ⊢
  rw [hW]; exact h
/-- bytes, and strings, lie in no node -/
theorem bytes_other {W W' : World} {v : Value} {l : List UInt8} (h : Bytes W v l) {k kk n : Nat} {ab : Option Addr} {bl cb : Nat} {ap : Option Addr} {pl cp : Nat} {T : TypeId} {fz : Nat × Nat}
    (hk : W.heap[k]? = some (.cells (nodeC kk n ab bl cb ap pl cp) T fz)) (hW : ∀ q, q ≠ k → W'.heap[q]? = W.heap[q]?) : Bytes W' v l := by
  obtain ⟨a, cap, rfl, hc⟩ := h
  refine ⟨a, cap, rfl, ?_⟩
  rcases hc with hc | ⟨b, off, rfl, hc⟩
  · exact .inl hc
  · refine .inr ⟨b, off, rfl, fun i hi => ?_⟩
    have h1 := hc i hi
    by_cases hb : b = k
    · subst hb
      simp only [World.cell?, hk] at h1
      match off + i, h1 with
      | 0, h => simp at h
      | 1, h => simp at h
      | 2, h => simp at h
      | 3, h => simp at h
      | n + 4, h => simp at h
    · exact cell_other h1 (hW b hb)
theorem strs_other {W W' : World} {v : Value} {l : List (List UInt8)} (h : Strs W v l) {k kk n : Nat} {ab : Option Addr} {bl cb : Nat} {ap : Option Addr} {pl cp : Nat} {T : TypeId} {fz : Nat × Nat}
    (hk : W.heap[k]? = some (.cells (nodeC kk n ab bl cb ap pl cp) T fz)) (hW : ∀ q, q ≠ k → W'.heap[q]? = W.heap[q]?) : Strs W' v l := by
  obtain ⟨a, cap, rfl, hn, hc⟩ := h
  refine ⟨a, cap, rfl, hn, ?_⟩
  rcases hc with hc | ⟨b, off, rfl, hc⟩
  · exact .inl hc
  · refine .inr ⟨b, off, rfl, fun i hi => ?_⟩
    have h1 := hc i hi
    by_cases hb : b = k
    · subst hb
      simp only [World.cell?, hk] at h1
      match off + i, h1 with
      | 0, h => simp [strV] at h
      | 1, h => simp [strV] at h
      | 2, h => simp [strV] at h
      | 3, h => simp [strV] at h
      | n + 4, h => simp at h
    · exact cell_other h1 (hW b hb)

theorem leaf_hex (s : ByteArray) (p : Nat) (hsm : s.size ≤ maxLen) (hp : p ≤ s.size) (hsz : s.size ≤ 65536) (w : World) :
    Calls Try.prog 37 #[.string s, .int .i64 p, .int .i64 4] w (NPost w s (if hxCode ((s.data.toList.drop p).takeWhile isWord) = 0 then some (4, 0, hxBytes ((s.data.toList.drop p).takeWhile isWord), [], (s.data.toList.drop p).dropWhile isWord) else none)) := by
  have hz := zero_node
  have hwl := word_run_le s p
  obtain ⟨d, hd⟩ : ∃ d, (s.data.toList.drop p).takeWhile isWord = d := ⟨_, rfl⟩
  obtain ⟨r, hr⟩ : ∃ r, (s.data.toList.drop p).dropWhile isWord = r := ⟨_, rfl⟩
  have hds : (strB d).size ≤ 1000000 := by rw [strB_size, ← hd]; omega
  rw [hd, hr]
  have HD := Lib.hid hd
  have HR := Lib.hid hr
  clear hd hr hwl
  by_cases h : hxCode d = 0
  · rw [if_pos h]
    have hc : (hxCode d != 0) = false := by simp [h]
    clear h
    go_enter Try.func37, Try.ntmps37
    go_wp2_with (first | (go_at_call 38; ((with_reducible refine (word_v s p hsm hp d r HD.out HR.out _).mono ?_); rintro e w' ⟨rfl, rfl⟩)) | (go_at_call 50; ((with_reducible refine (rreadhex_l d hds _).mono ?_); rintro e w1 ⟨v, rfl, hbv, hb⟩; obtain ⟨av, cv, rfl⟩ := bytes_slice hbv; have hbx := (hb.block w.heap.size (by simp)).trans (heap_alloc_new w _); have q0 := cell_of hbx 0 rfl; have q1 := cell_of hbx 1 rfl; have q2 := cell_of hbx 2 rfl; have q3 := cell_of hbx 3 rfl; have qf := fun i => free_of hbx i; have HBX := Lib.hid hbx; have HBV := Lib.hid hbv; have HB := Lib.hid hb; clear hbx hbv hb)) | fail)
    refine bodyPost_ret (leaf_results _ w.heap.size 4 0 av (hxBytes d).length cv none 0 0 (posOf s r) (chain4_box HBX.out rfl) _ rfl rfl) rfl ?_
    have hB : Below w.heap.size w w1 := ((Below.refl _ _).alloc (Nat.le_refl _) _).trans (HB.out.mono (by simp))
    exact ⟨av, cv, none, 0, rfl, bytes_other (kk := 0) (n := 0) HBV.out HBX.out (fun q hq => chain4_other hq), strs_nil _, chain4_below hB (Nat.le_refl _)⟩
  · rw [if_neg h]
    have hc : (hxCode d != 0) = true := by simpa using h
    clear h
    go_enter Try.func37, Try.ntmps37
    go_wp2_with (first | (go_at_call 38; ((with_reducible refine (word_v s p hsm hp d r HD.out HR.out _).mono ?_); rintro e w' ⟨rfl, rfl⟩)) | (go_at_call 50; ((with_reducible refine (rreadhex_l d hds _).mono ?_); rintro e w1 ⟨v, rfl, hbv, hb⟩; obtain ⟨av, cv, rfl⟩ := bytes_slice hbv; have hbx := (hb.block w.heap.size (by simp)).trans (heap_alloc_new w _); have q0 := cell_of hbx 0 rfl; have q1 := cell_of hbx 1 rfl; have q2 := cell_of hbx 2 rfl; have q3 := cell_of hbx 3 rfl; have qf := fun i => free_of hbx i; have HBX := Lib.hid hbx; have HBV := Lib.hid hbv; have HB := Lib.hid hb; clear hbx hbv hb)) | fail)
    refine bodyPost_ret (leaf_results _ w.heap.size 0 0 none 0 0 none 0 0 (-1) (chain4_box HBX.out rfl) _ rfl rfl) rfl ?_
    have hB : Below w.heap.size w w1 := ((Below.refl _ _).alloc (Nat.le_refl _) _).trans (HB.out.mono (by simp))
    exact ⟨rfl, chain4_below hB (Nat.le_refl _)⟩

theorem leaf_any (k : Nat) (h1 : 1 ≤ k) (h4 : k ≤ 4) (sh : Shape) (hs : shapeOf k = some sh) (s : ByteArray) (p : Nat) (hsz : s.size ≤ 65536) (hp : p ≤ s.size) (w : World) :
    Calls Try.prog 37 #[.string s, .int .i64 p, .int .i64 k] w (NPost w s ((pLeaf k sh (s.data.toList.drop p)).bind fun x => some (k, x.1, x.2.1, [], x.2.2))) := by
  have hsm : s.size ≤ maxLen := by unfold maxLen; omega
  rcases (show k = 1 ∨ k = 2 ∨ k = 3 ∨ k = 4 by omega) with rfl | rfl | rfl | rfl
  · exact leaf_zero s p hp w
  · have := leaf_num 2 (.inl rfl) sh hs s p hsm hp w
    unfold pLeaf
    simp only [show ¬ (2 : Nat) = 1 by decide, show ¬ (2 : Nat) = 4 by decide, if_false]
    rw [Option.bind_assoc]
    exact this
  · have := leaf_num 3 (.inr rfl) sh hs s p hsm hp w
    unfold pLeaf
    simp only [show ¬ (3 : Nat) = 1 by decide, show ¬ (3 : Nat) = 4 by decide, if_false]
    rw [Option.bind_assoc]
    exact this
  · have := leaf_hex s p hsm hp hsz w
    unfold pLeaf
    simp only [show ¬ (4 : Nat) = 1 by decide, if_false, if_true]
    split
    · rename_i h
      rw [if_pos h] at this
      exact this
    · rename_i h
      rw [if_neg h] at this
      exact this
end Go.Proofs.Ytelfcdfbhnkakaa
