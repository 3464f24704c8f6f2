/- Texts of this seat, merged: Wire13, Wire14, Wire2, Wire3, Wire4, Wire15, Wire16. -/
import Derived.Test.YtjbmcjppaadkgaaGP6
import Derived.StillTailTactics
import Derived.Laws.StructEq
namespace Go.Proofs.Ytjbmcjppaadkgaa
set_option linter.unusedVariables false
set_option linter.unusedSimpArgs false
set_option maxRecDepth 100000
open Go.RowKit
def FdOk : Fd → Prop
  | .z => True
  | .n4 c => c = 1 ∨ c = 2
  | .n8 c => c = 3
  | .t c => 4 ≤ c ∧ c ≤ 12
structure NumOk (N : Nat → Nat) : Prop where
  n1 : N 1 < 4294967296
  n2 : N 2 < 4294967296
  n3 : N 3 < 18446744073709551616
def pF (N : Nat → Nat) (X : Nat → ByteArray) : Fd → List UInt8 → Nat × List UInt8
  | .z, L => (0, L ++ numB 0 3)
  | .n4 c, L => (0, L ++ numB (N c) 4)
  | .n8 c, L => (0, L ++ numB (N c) 8)
  | .t c, L => if 65535 < (X c).size then (3, []) else (0, L ++ numB (X c).size 2 ++ (X c).data.toList)
def pAll (N : Nat → Nat) (X : Nat → ByteArray) : List Fd → List UInt8 → Nat × List UInt8
  | [], L => (0, L)
  | f :: fs, L => if (pF N X f L).1 = 0 then pAll N X fs (pF N X f L).2 else pF N X f L
def pCont (N : Nat → Nat) (X : Nat → ByteArray) (fs : List Fd) (r : Nat × List UInt8) : Nat × List UInt8 := if r.1 = 0 then pAll N X fs r.2 else r
theorem pAll_cons (N : Nat → Nat) (X : Nat → ByteArray) (f : Fd) (fs : List Fd) (L : List UInt8) : pAll N X (f :: fs) L = pCont N X fs (pF N X f L) := rfl
theorem pF_len (N : Nat → Nat) (X : Nat → ByteArray) (f : Fd) (L : List UInt8) : (pF N X f L).2.length ≤ L.length + 65537 := by
  cases f with
  | z => simp [pF, numB_len]
  | n4 c => simp [pF, numB_len]
  | n8 c => simp [pF, numB_len]
  | t c =>
    simp only [pF]
    split
    · simp
    · simp [numB_len]; omega
theorem row_alloc {w : World} {base : Nat} {v : Value} {L : List UInt8} (h : RowB w base v L) (o : Obj) : RowB (w.alloc o) base v L := by
  unfold RowB at h ⊢
  exact h.alloc o
theorem pf_any (f : Fd) (fv v : Value) (L : List UInt8) (base B : Nat) (k : Int) (N : Nat → Nat) (X : Nat → ByteArray) (w0 w : World) (hf : FdIs w0 B f fv) (hok : FdOk f) (hm : MsgAt w0 B k N X) (hN : NumOk N) (h0 : w0.heap.size ≤ base) (hb0 : Below base w0 w)
    (hv : RowB w base v L) (hbase : base ≤ w.heap.size) (hL : L.length ≤ 1000000) : Calls Try.prog 21 #[fv, v] w (PrRet w base (pF N X f L)) := by
  cases f with
  | z =>
    obtain rfl : fv = fdZ := hf
    have HC := Lib.hid (fun W (h : RowB W base v L) (hs : base ≤ W.heap.size) => p0_any v L base W h hs hL)
    unfold fdZ
    go_enter Try.func21, Try.ntmps21
    go_wp2_with (first | (go_at_call 41; ((with_reducible refine (HC.out _ (row_alloc hv _) (by simp; omega)).mono ?_); rintro e w2 ⟨v', rfl, hr, hb⟩)) | fail)
    go_ret2
    exact ⟨_, rfl, fun _ => hr trivial, (Below.refl _ _).alloc hbase _ |>.trans hb⟩
  | n4 c =>
    obtain ⟨bp, bs, rfl, n1, n2, c1, c2⟩ := hf
    have hlt1 := World.block_lt_of_cell? w0 _ c1
    have hlt2 := World.block_lt_of_cell? w0 _ c2
    have hBl := (Array.getElem?_eq_some_iff.1 hm).1
    have hcN : N c < 4294967296 := by rcases hok with rfl | rfl; exact hN.n1; exact hN.n2
    have q1 := (hb0.cell (p := ⟨bp, 0, none⟩) (Nat.lt_of_lt_of_le hlt1 h0)).trans c1
    have q2 := (hb0.cell (p := ⟨bs, 0, none⟩) (Nat.lt_of_lt_of_le hlt2 h0)).trans c2
    have q3 := (hb0.cell (p := ⟨B, c, none⟩) (Nat.lt_of_lt_of_le hBl h0)).trans (msg_c32 hm hok)
    have HC := Lib.hid (fun o => p4_any v L base bp bs B c (N c) (w.alloc o) (row_alloc hv o) (by simp; omega) hL hcN (old1 o q1) (old1 o q2) (old1 o q3))
    clear q1 q2 q3 c1 c2 hok
    unfold fd4
    go_enter Try.func21, Try.ntmps21
    go_wp2_with (first | (go_at_call 44; ((with_reducible refine (HC.out _).mono ?_); rintro e w2 ⟨v', rfl, hr, hb⟩)) | fail)
    go_ret2
    exact ⟨_, rfl, fun _ => hr trivial, (Below.refl _ _).alloc hbase _ |>.trans hb⟩
  | n8 c =>
    obtain ⟨bp, bs, rfl, n1, n2, c1, c2⟩ := hf
    have hlt1 := World.block_lt_of_cell? w0 _ c1
    have hlt2 := World.block_lt_of_cell? w0 _ c2
    have hBl := (Array.getElem?_eq_some_iff.1 hm).1
    have hcN : N c < 18446744073709551616 := by obtain rfl : c = 3 := hok; exact hN.n3
    have q1 := (hb0.cell (p := ⟨bp, 0, none⟩) (Nat.lt_of_lt_of_le hlt1 h0)).trans c1
    have q2 := (hb0.cell (p := ⟨bs, 0, none⟩) (Nat.lt_of_lt_of_le hlt2 h0)).trans c2
    have q3 := (hb0.cell (p := ⟨B, c, none⟩) (Nat.lt_of_lt_of_le hBl h0)).trans (msg_c64 hm hok)
    have HC := Lib.hid (fun o => p8_any v L base bp bs B c (N c) (w.alloc o) (row_alloc hv o) (by simp; omega) hL hcN (old1 o q1) (old1 o q2) (old1 o q3))
    clear q1 q2 q3 c1 c2 hok
    unfold fd8
    go_enter Try.func21, Try.ntmps21
    go_wp2_with (first | (go_at_call 51; ((with_reducible refine (HC.out _).mono ?_); rintro e w2 ⟨v', rfl, hr, hb⟩)) | fail)
    go_ret2
    exact ⟨_, rfl, fun _ => hr trivial, (Below.refl _ _).alloc hbase _ |>.trans hb⟩
  | t c =>
    obtain ⟨bt, rfl, n1, c1⟩ := hf
    have hlt1 := World.block_lt_of_cell? w0 _ c1
    have hBl := (Array.getElem?_eq_some_iff.1 hm).1
    have q1 := (hb0.cell (p := ⟨bt, 0, none⟩) (Nat.lt_of_lt_of_le hlt1 h0)).trans c1
    have q3 := (hb0.cell (p := ⟨B, c, none⟩) (Nat.lt_of_lt_of_le hBl h0)).trans (msg_cx hm hok.1 hok.2)
    have HC := Lib.hid (fun o => pt_any v L base bt B c (X c) (w.alloc o) (row_alloc hv o) (by simp; omega) hL (Nat.lt_of_lt_of_le hlt1 h0) (Nat.lt_of_lt_of_le hBl h0) (old1 o q1) (old1 o q3))
    clear q1 q3 c1 hok
    unfold fdT
    unfold PrRet at HC ⊢
    simp only [pF]
    generalize (if 65535 < (X c).size then (3, []) else (0, L ++ numB (X c).size 2 ++ (X c).data.toList)) = R at *
    obtain ⟨rc, rl⟩ := R
    dsimp only at HC ⊢
    go_enter Try.func21, Try.ntmps21
    go_wp2_with (first | (go_at_call 47; ((with_reducible refine (HC.out _).mono ?_); rintro e w2 ⟨v', rfl, hr, hb⟩)) | fail)
    go_ret2
    exact ⟨_, rfl, hr, (Below.refl _ _).alloc hbase _ |>.trans hb⟩
theorem fds_len {w : World} {B : Nat} : ∀ {fs : List Fd} {vs : List Value}, FdsIs w B fs vs → vs.length = fs.length
  | [], [], _ => rfl
  | _ :: _, _ :: _, h => congrArg (· + 1) (fds_len h.2)
theorem fds_get {w : World} {B : Nat} : ∀ {fs : List Fd} {vs : List Value} {i : Nat} {f : Fd}, FdsIs w B fs vs → fs[i]? = some f → ∃ v, vs[i]? = some v ∧ FdIs w B f v
  | _ :: _, v :: _, 0, f, h, hf => by cases hf; exact ⟨v, rfl, h.1⟩
  | _ :: _, _ :: _, i + 1, f, h, hf => fds_get (i := i) h.2 hf
  | [], _, _, _, _, hf => by cases hf
  | _ :: _, [], _, _, h, _ => h.elim
set_option maxHeartbeats 1000000 in
theorem walkP_any (g : Nat) (fs : List Fd) (vs : List Value) (v : Value) (L : List UInt8) (base B : Nat) (k : Int) (N : Nat → Nat) (X : Nat → ByteArray) (w0 w : World) (hfs : FieldsAt w0 g vs) (hf : FdsIs w0 B fs vs) (hok : ∀ f ∈ fs, FdOk f) (hm : MsgAt w0 B k N X) (hN : NumOk N)
    (h0 : w0.heap.size ≤ base) (hb0 : Below base w0 w) (hv : RowB w base v L) (hbase : base ≤ w.heap.size) (hL : L.length ≤ 10) (hn : fs.length ≤ 7) :
    Calls Try.prog 20 #[.slice (some ⟨g, 0, none⟩) fs.length fs.length, v, .func (.func 21) #[] #[]] w (PrRet w base (pAll N X fs L)) := by
  go_enter Try.func20, Try.ntmps20
  go_wp2_with fail
  refine wp_scope_goto 0 (fun n a' w' => ∃ (v' : Value) (i : Nat) (r : Nat × List UInt8), ∃ (u3 u4 u5 u6 u7 u10 u11 u12 u13 u14 u15 u16 u17 u18 u19 u20 u21 u22 u23 u24 u25 u26 u27 u28 u29 u30 u31 : Value), a' = { tmps := #[.slice (some ⟨g, 0, none⟩) fs.length fs.length, v', .func (.func 21) #[] #[], u3, u4, u5, u6, u7, .int .i64 (i : Nat), .int .i64 (r.1 : Nat), u10, u11, u12, u13, u14, u15, u16, u17, u18, u19, u20, u21, u22, u23, u24, u25, u26, u27, u28, u29, u30, u31], defers := [] } ∧ i ≤ fs.length ∧ n = fs.length - i ∧ (r.1 = 0 → RowB w' base v' r.2) ∧ r.2.length ≤ 10 + i * 70000 ∧ pAll N X fs L = pCont N X (fs.drop i) r ∧ Below base w w') rfl ?_ ?_
  · intro R hpass hout
    go_wp2
    go_step3
    go_step
    go_step
    exact hpass _ _ _ ⟨v, 0, (0, L), _, _, _, _, _, _, _, _, _, _, _, _, _, _, _, _, _, _, _, _, _, _, _, _, _, _, _, rfl, Nat.zero_le _, rfl, fun _ => hv, by simpa using hL, rfl, Below.refl _ _⟩
  · intro n a' wr hrel J hJ
    obtain ⟨v', i, r, u3, u4, u5, u6, u7, u10, u11, u12, u13, u14, u15, u16, u17, u18, u19, u20, u21, u22, u23, u24, u25, u26, u27, u28, u29, u30, u31, rfl, hi, hnn, hrow, hlen, hz, hb⟩ := hrel
    subst hnn
    obtain ⟨e, Li⟩ := r
    have HJ := Lib.hid hJ
    have HZ := Lib.hid hz
    have HB := Lib.hid hb
    have HR := Lib.hid hrow
    clear hJ hz hb hrow
    by_cases he : e = 0
    · subst he
      by_cases hlt : i < fs.length
      · obtain ⟨f, hfi⟩ : ∃ f, fs[i]? = some f := ⟨_, List.getElem?_eq_getElem hlt⟩
        obtain ⟨fv, hvi, hF⟩ := fds_get hf hfi
        obtain ⟨a, b, c, rfl, c0, c1, c2⟩ := hfs i fv hvi
        have hbb := hb0.trans HB.out
        have hg0 := World.block_lt_of_cell? w0 _ c0
        have q0 := (hbb.cell (p := ⟨g, i * 3, none⟩) (Nat.lt_of_lt_of_le hg0 h0)).trans c0
        have q1 := (hbb.cell (p := ⟨g, i * 3 + 1, none⟩) (Nat.lt_of_lt_of_le hg0 h0)).trans c1
        have q2 := (hbb.cell (p := ⟨g, i * 3 + 2, none⟩) (Nat.lt_of_lt_of_le hg0 h0)).trans c2
        have HC := pf_any f _ v' Li base B k N X w0 wr hF (hok f (List.mem_of_getElem? hfi)) hm hN h0 hbb (HR.out rfl) (Nat.le_trans hbase HB.out.size) (by dsimp only at hlen; omega)
        have hd : fs.drop i = f :: fs.drop (i + 1) := by
          rw [List.drop_eq_getElem_cons hlt]
          rw [List.getElem?_eq_getElem hlt] at hfi
          cases hfi; rfl
        have HZ2 : Hid (pAll N X fs L = pCont N X (fs.drop (i + 1)) (pF N X f Li)) := Lib.hid (by rw [HZ.out, hd]; rfl)
        have hl2 := pF_len N X f Li
        generalize pF N X f Li = R at *
        obtain ⟨rc, rl⟩ := R
        unfold PrRet at HC
        dsimp only at HC hl2 hlen
        have HC := Lib.hid HC
        have HL2 : Hid (rl.length ≤ 10 + (i + 1) * 70000) := Lib.hid (by omega)
        have hii : (i : Int) < fs.length := by omega
        have hin : ¬ (i : Int) = fs.length := by omega
        clear hd hl2 hlen hfi hvi hF c0 c1 c2 hbb
        go_wp2_with (first | (go_at_call 21; ((with_reducible refine (HC.out).mono ?_); rintro e w2 ⟨v2, rfl, hr2, hb2⟩)) | fail)
        go_step3
        refine jump_back (HJ.out (fs.length - (i + 1)) _ _ (by omega) ⟨v2, i + 1, (rc, rl), _, _, _, _, _, _, _, _, _, _, _, _, _, _, _, _, _, _, _, _, _, _, _, _, _, _, _, rfl, hlt, rfl, hr2, HL2.out, HZ2.out, HB.out.trans hb2⟩)
      · obtain rfl : i = fs.length := by omega
        have HZ2 : Hid (pAll N X fs L = (0, Li)) := Lib.hid (by rw [HZ.out, List.drop_length]; rfl)
        go_wp2_with fail
        refine jump_ret ?_
        go_ret2
        rw [HZ2.out]
        exact ⟨_, rfl, fun _ => HR.out trivial, HB.out⟩
    · have HZ2 : Hid (pAll N X fs L = (e, Li)) := Lib.hid (by rw [HZ.out]; unfold pCont; exact if_neg he)
      have hei : ((e : Int) != 0) = true := bnet (by omega)
      go_wp2_with fail
      all_goals
        refine jump_ret ?_
        go_ret2
        rw [HZ2.out]
        exact ⟨_, rfl, fun h => absurd h he, HB.out⟩
end Go.Proofs.Ytjbmcjppaadkgaa

namespace Go.Proofs.Ytjbmcjppaadkgaa
set_option linter.unusedVariables false
set_option linter.unusedSimpArgs false
set_option maxRecDepth 100000
open Go.RowKit
def rF (N : Nat → Nat) (X : Nat → ByteArray) : Fd → List UInt8 → Nat × List UInt8 × (Nat → Nat) × (Nat → ByteArray)
  | .z, l => ((zr 3 l).1, (zr 3 l).2, N, X)
  | .n4 c, l => rdNum 4 c l N X
  | .n8 c, l => rdNum 8 c l N X
  | .t c, l => rdTxt c l N X
def rAll : List Fd → List UInt8 → (Nat → Nat) → (Nat → ByteArray) → Nat × List UInt8 × (Nat → Nat) × (Nat → ByteArray)
  | [], l, N, X => (0, l, N, X)
  | f :: fs, l, N, X => if (rF N X f l).1 = 0 then rAll fs (rF N X f l).2.1 (rF N X f l).2.2.1 (rF N X f l).2.2.2 else rF N X f l
def rCont (fs : List Fd) (r : Nat × List UInt8 × (Nat → Nat) × (Nat → ByteArray)) : Nat × List UInt8 × (Nat → Nat) × (Nat → ByteArray) := if r.1 = 0 then rAll fs r.2.1 r.2.2.1 r.2.2.2 else r
theorem zr_len : ∀ (n : Nat) (l : List UInt8), (zr n l).2.length ≤ l.length
  | 0, _ => Nat.le_refl _
  | _ + 1, [] => Nat.le_refl _
  | n + 1, x :: r => by
    show (if x = 0 then zr n r else (3, [])).2.length ≤ _
    split
    · exact Nat.le_trans (zr_len n r) (by simp)
    · simp
theorem rF_len (N : Nat → Nat) (X : Nat → ByteArray) (f : Fd) (l : List UInt8) : (rF N X f l).2.1.length ≤ l.length := by
  cases f with
  | z => exact zr_len 3 l
  | n4 c => simp only [rF, rdNum]; split <;> simp
  | n8 c => simp only [rF, rdNum]; split <;> simp
  | t c =>
    simp only [rF, rdTxt]
    split
    · simp
    · rcases cut_codes l with h | ⟨t, r, h, h1, h2⟩
      · rw [h]; simp
      · rw [h]; exact h2
set_option maxHeartbeats 1000000 in
theorem rf_any (f : Fd) (fv v : Value) (l : List UInt8) (b B : Nat) (k : Int) (N : Nat → Nat) (X : Nat → ByteArray) (w : World) (hf : FdIs w B f fv) (hok : FdOk f) (hm : MsgAt w B k N X) (hv : PartB w b v l) (hbB : b ≠ B) (hl : l.length ≤ 10000000) :
    Calls Try.prog 28 #[fv, v] w (RdRet w b B k (rF N X f l)) := by
  have hb1 := fun o => below_one (w := w) o
  have HM := Lib.hid (fun o => msg_below hm (hb1 o))
  have HV := Lib.hid (fun o => hv.below (hb1 o))
  clear hm hv hb1
  cases f with
  | z =>
    obtain rfl : fv = fdZ := hf
    have HC := Lib.hid (fun o => noughts_any b v l (w.alloc o) (HV.out o) hl)
    unfold fdZ
    unfold CutRet at HC
    unfold RdRet
    simp only [rF]
    generalize zr 3 l = R at *
    obtain ⟨rc, rl⟩ := R
    dsimp only at HC ⊢
    go_enter Try.func28, Try.ntmps28
    go_wp2_with (first | (go_at_call 43; ((with_reducible refine (HC.out _).mono ?_); rintro e w2 ⟨v', rfl, hp2, hb2⟩)) | fail)
    go_ret2
    exact ⟨_, rfl, hp2, msg_below (HM.out _) hb2, grown_of_below (Below.next (below_one _) hb2)⟩
  | n4 c =>
    obtain ⟨bp, bs, rfl, n1, n2, c1, c2⟩ := hf
    have HC := Lib.hid (fun o => r4_any b v l bp bs B c k N X (w.alloc o) (HV.out o) hl hbB n2 (HM.out o) hok (old1 o c1) (old1 o c2))
    clear c1 c2 hok
    unfold fd4
    unfold RdRet at HC ⊢
    simp only [rF]
    generalize rdNum 4 c l N X = R at *
    obtain ⟨rc, rl, rN, rX⟩ := R
    dsimp only at HC ⊢
    go_enter Try.func28, Try.ntmps28
    go_wp2_with (first | (go_at_call 45; ((with_reducible refine (HC.out _).mono ?_); rintro e w2 ⟨v', rfl, hp2, hm2, hg2⟩)) | fail)
    go_ret2
    exact ⟨_, rfl, hp2, hm2, grown_tr (grown_of_below (below_one _)) hg2⟩
  | n8 c =>
    obtain ⟨bp, bs, rfl, n1, n2, c1, c2⟩ := hf
    have HC := Lib.hid (fun o => r8_any b v l bp bs B c k N X (w.alloc o) (HV.out o) hl hbB n2 (HM.out o) hok (old1 o c1) (old1 o c2))
    clear c1 c2 hok
    unfold fd8
    unfold RdRet at HC ⊢
    simp only [rF]
    generalize rdNum 8 c l N X = R at *
    obtain ⟨rc, rl, rN, rX⟩ := R
    dsimp only at HC ⊢
    go_enter Try.func28, Try.ntmps28
    go_wp2_with (first | (go_at_call 52; ((with_reducible refine (HC.out _).mono ?_); rintro e w2 ⟨v', rfl, hp2, hm2, hg2⟩)) | fail)
    go_ret2
    exact ⟨_, rfl, hp2, hm2, grown_tr (grown_of_below (below_one _)) hg2⟩
  | t c =>
    obtain ⟨bt, rfl, n1, c1⟩ := hf
    have HC := Lib.hid (fun o => rt_any b v l bt B c k N X (w.alloc o) (HV.out o) hl hbB (HM.out o) hok.1 hok.2 (old1 o c1))
    clear c1 hok
    unfold fdT
    unfold RdRet at HC ⊢
    simp only [rF]
    generalize rdTxt c l N X = R at *
    obtain ⟨rc, rl, rN, rX⟩ := R
    dsimp only at HC ⊢
    go_enter Try.func28, Try.ntmps28
    go_wp2_with (first | (go_at_call 48; ((with_reducible refine (HC.out _).mono ?_); rintro e w2 ⟨v', rfl, hp2, hm2, hg2⟩)) | fail)
    go_ret2
    exact ⟨_, rfl, hp2, hm2, grown_tr (grown_of_below (below_one _)) hg2⟩
set_option maxHeartbeats 1000000 in
theorem walkR_any (g : Nat) (fs : List Fd) (vs : List Value) (v : Value) (l : List UInt8) (b B : Nat) (k : Int) (N : Nat → Nat) (X : Nat → ByteArray) (w : World) (hfs : FieldsAt w g vs) (hgB : g ≠ B) (hf : FdsIs w B fs vs) (hok : ∀ f ∈ fs, FdOk f) (hm : MsgAt w B k N X)
    (hv : PartB w b v l) (hbB : b ≠ B) (hl : l.length ≤ 10000000) (hn : fs.length ≤ 7) :
    Calls Try.prog 20 #[.slice (some ⟨g, 0, none⟩) fs.length fs.length, v, .func (.func 28) #[] #[]] w (RdRet w b B k (rAll fs l N X)) := by
  go_enter Try.func20, Try.ntmps20
  go_wp2_with fail
  refine wp_scope_goto 0 (fun n a' w' => ∃ (v' : Value) (i : Nat) (r : Nat × List UInt8 × (Nat → Nat) × (Nat → ByteArray)), ∃ (u3 u4 u5 u6 u7 u10 u11 u12 u13 u14 u15 u16 u17 u18 u19 u20 u21 u22 u23 u24 u25 u26 u27 u28 u29 u30 u31 : Value), a' = { tmps := #[.slice (some ⟨g, 0, none⟩) fs.length fs.length, v', .func (.func 28) #[] #[], u3, u4, u5, u6, u7, .int .i64 (i : Nat), .int .i64 (r.1 : Nat), u10, u11, u12, u13, u14, u15, u16, u17, u18, u19, u20, u21, u22, u23, u24, u25, u26, u27, u28, u29, u30, u31], defers := [] } ∧ i ≤ fs.length ∧ n = fs.length - i ∧ (r.1 = 0 → PartB w' b v' r.2.1) ∧ r.2.1.length ≤ l.length ∧ rAll fs l N X = rCont (fs.drop i) r ∧ MsgAt w' B k r.2.2.1 r.2.2.2 ∧ w.grownBy w' (some B)) rfl ?_ ?_
  · intro R hpass hout
    go_wp2
    go_step3
    go_step
    go_step
    exact hpass _ _ _ ⟨v, 0, (0, l, N, X), _, _, _, _, _, _, _, _, _, _, _, _, _, _, _, _, _, _, _, _, _, _, _, _, _, _, _, rfl, Nat.zero_le _, rfl, fun _ => hv, Nat.le_refl _, rfl, hm, grown_of_below (Below.refl _ _)⟩
  · intro n a' wr hrel J hJ
    obtain ⟨v', i, r, u3, u4, u5, u6, u7, u10, u11, u12, u13, u14, u15, u16, u17, u18, u19, u20, u21, u22, u23, u24, u25, u26, u27, u28, u29, u30, u31, rfl, hi, hnn, hrow, hlen, hz, hmr, hb⟩ := hrel
    subst hnn
    obtain ⟨e, Li, Ni, Xi⟩ := r
    have HJ := Lib.hid hJ
    have HZ := Lib.hid hz
    have HB := Lib.hid hb
    have HR := Lib.hid hrow
    have HM := Lib.hid hmr
    clear hJ hz hb hrow hmr hm hv
    by_cases he : e = 0
    · subst he
      by_cases hlt : i < fs.length
      · obtain ⟨f, hfi⟩ : ∃ f, fs[i]? = some f := ⟨_, List.getElem?_eq_getElem hlt⟩
        obtain ⟨fv, hvi, hF⟩ := fds_get hf hfi
        obtain ⟨a, b', c, rfl, c0, c1, c2⟩ := hfs i fv hvi
        have q0 := grown_cell HB.out hgB c0
        have q1 := grown_cell HB.out hgB c1
        have q2 := grown_cell HB.out hgB c2
        have HC := rf_any f _ v' Li b B k Ni Xi wr (hF.grown HB.out) (hok f (List.mem_of_getElem? hfi)) HM.out (HR.out rfl) hbB (Nat.le_trans hlen hl)
        have hd : fs.drop i = f :: fs.drop (i + 1) := by
          rw [List.drop_eq_getElem_cons hlt]
          rw [List.getElem?_eq_getElem hlt] at hfi
          cases hfi; rfl
        have HZ2 : Hid (rAll fs l N X = rCont (fs.drop (i + 1)) (rF Ni Xi f Li)) := Lib.hid (by rw [HZ.out, hd]; rfl)
        have hl2 := rF_len Ni Xi f Li
        generalize rF Ni Xi f Li = R at *
        obtain ⟨rc, rl, rN, rX⟩ := R
        unfold RdRet at HC
        dsimp only at HC hl2 hlen
        have HC := Lib.hid HC
        have HL2 : Hid (rl.length ≤ l.length) := Lib.hid (by omega)
        have hii : (i : Int) < fs.length := by omega
        have hin : ¬ (i : Int) = fs.length := by omega
        clear hd hl2 hlen hfi hvi hF c0 c1 c2
        go_wp2_with (first | (go_at_call 28; ((with_reducible refine (HC.out).mono ?_); rintro e w2 ⟨v2, rfl, hr2, hm2, hb2⟩)) | fail)
        go_step3
        refine jump_back (HJ.out (fs.length - (i + 1)) _ _ (by omega) ⟨v2, i + 1, (rc, rl, rN, rX), _, _, _, _, _, _, _, _, _, _, _, _, _, _, _, _, _, _, _, _, _, _, _, _, _, _, _, rfl, hlt, rfl, hr2, HL2.out, HZ2.out, hm2, grown_tr HB.out hb2⟩)
      · obtain rfl : i = fs.length := by omega
        have HZ2 : Hid (rAll fs l N X = (0, Li, Ni, Xi)) := Lib.hid (by rw [HZ.out, List.drop_length]; rfl)
        go_wp2_with fail
        refine jump_ret ?_
        go_ret2
        rw [HZ2.out]
        exact ⟨_, rfl, fun _ => HR.out trivial, HM.out, HB.out⟩
    · have HZ2 : Hid (rAll fs l N X = (e, Li, Ni, Xi)) := Lib.hid (by rw [HZ.out]; unfold rCont; exact if_neg he)
      have hei : ((e : Int) != 0) = true := bnet (by omega)
      go_wp2_with fail
      all_goals
        refine jump_ret ?_
        go_ret2
        rw [HZ2.out]
        exact ⟨_, rfl, fun h => absurd h he, HM.out, HB.out⟩
end Go.Proofs.Ytjbmcjppaadkgaa

namespace Go.Proofs.Ytjbmcjppaadkgaa
set_option linter.unusedVariables false
set_option linter.unusedSimpArgs false
set_option maxRecDepth 100000
open Go.RowKit
structure Msg where
  k : Int
  s : Nat
  r : Nat
  c : Nat
  a4 : ByteArray
  a5 : ByteArray
  a6 : ByteArray
  a7 : ByteArray
  a8 : ByteArray
  a9 : ByteArray
  a10 : ByteArray
  a11 : ByteArray
  a12 : ByteArray
theorem cells13 {W : World} {b : Nat} {T : TypeId} {v0 v1 v2 v3 v4 v5 v6 v7 v8 v9 v10 v11 v12 : Value} (h : W.heap[b]? = some (.cells #[v0, v1, v2, v3, v4, v5, v6, v7, v8, v9, v10, v11, v12] T (0, 0))) :
    W.cell? ⟨b, 0, none⟩ = some v0 ∧ W.cell? ⟨b, 1, none⟩ = some v1 ∧ W.cell? ⟨b, 2, none⟩ = some v2 ∧ W.cell? ⟨b, 3, none⟩ = some v3 ∧ W.cell? ⟨b, 4, none⟩ = some v4 ∧ W.cell? ⟨b, 5, none⟩ = some v5 ∧ W.cell? ⟨b, 6, none⟩ = some v6 ∧ W.cell? ⟨b, 7, none⟩ = some v7 ∧ W.cell? ⟨b, 8, none⟩ = some v8 ∧ W.cell? ⟨b, 9, none⟩ = some v9 ∧ W.cell? ⟨b, 10, none⟩ = some v10 ∧ W.cell? ⟨b, 11, none⟩ = some v11 ∧ W.cell? ⟨b, 12, none⟩ = some v12 :=
  ⟨cell_of h 0 rfl, cell_of h 1 rfl, cell_of h 2 rfl, cell_of h 3 rfl, cell_of h 4 rfl, cell_of h 5 rfl, cell_of h 6 rfl, cell_of h 7 rfl, cell_of h 8 rfl, cell_of h 9 rfl, cell_of h 10 rfl, cell_of h 11 rfl, cell_of h 12 rfl⟩
theorem rheavy_any (k : Int) (s r c : Nat) (a4 a5 a6 a7 a8 a9 a10 a11 a12 : ByteArray) (most : Int) (w : World) : Calls Try.prog 6 #[.agg #[.int .i64 k, .int .u32 (s : Nat), .int .u32 (r : Nat), .int .u64 (c : Nat), .string a4, .string a5, .string a6, .string a7, .string a8, .string a9, .string a10, .string a11, .string a12], .int .i64 most] w fun e w' => (∃ b, e = .returned (.bool b)) ∧ Below w.heap.size w w' := by
  have hx := heap_alloc_new w (.cells #[.int .i64 k, .int .u32 (s : Nat), .int .u32 (r : Nat), .int .u64 (c : Nat), .string a4, .string a5, .string a6, .string a7, .string a8, .string a9, .string a10, .string a11, .string a12] 25)
  obtain ⟨c0, c1, c2, c3, c4, c5, c6, c7, c8, c9, c10, c11, c12⟩ := cells13 hx
  go_enter Try.func6, Try.ntmps6
  go_wp2_with fail
  go_ret
  exact ⟨⟨_, rfl⟩, below_one _⟩
theorem rheavy_small (k : Int) (s r c : Nat) (a4 a5 a6 a7 a8 a9 a10 a11 a12 : ByteArray) (most : Int) (h4 : a4.size ≤ 100000) (h5 : a5.size ≤ 100000) (h6 : a6.size ≤ 100000) (h7 : a7.size ≤ 100000) (h8 : a8.size ≤ 100000) (h9 : a9.size ≤ 100000) (h10 : a10.size ≤ 100000) (h11 : a11.size ≤ 100000) (h12 : a12.size ≤ 100000) (w : World) :
    Calls Try.prog 6 #[.agg #[.int .i64 k, .int .u32 (s : Nat), .int .u32 (r : Nat), .int .u64 (c : Nat), .string a4, .string a5, .string a6, .string a7, .string a8, .string a9, .string a10, .string a11, .string a12], .int .i64 most] w fun e w' => e = .returned (.bool (decide (most < a4.size + a5.size + a6.size + a7.size + a8.size + a9.size + a10.size + a11.size + a12.size))) ∧ Below w.heap.size w w' := by
  have hx := heap_alloc_new w (.cells #[.int .i64 k, .int .u32 (s : Nat), .int .u32 (r : Nat), .int .u64 (c : Nat), .string a4, .string a5, .string a6, .string a7, .string a8, .string a9, .string a10, .string a11, .string a12] 25)
  obtain ⟨c0, c1, c2, c3, c4, c5, c6, c7, c8, c9, c10, c11, c12⟩ := cells13 hx
  have i4 : (a4.size : Int) ≤ 100000 := by omega
  have i5 : (a5.size : Int) ≤ 100000 := by omega
  have i6 : (a6.size : Int) ≤ 100000 := by omega
  have i7 : (a7.size : Int) ≤ 100000 := by omega
  have i8 : (a8.size : Int) ≤ 100000 := by omega
  have i9 : (a9.size : Int) ≤ 100000 := by omega
  have i10 : (a10.size : Int) ≤ 100000 := by omega
  have i11 : (a11.size : Int) ≤ 100000 := by omega
  have i12 : (a12.size : Int) ≤ 100000 := by omega
  go_enter Try.func6, Try.ntmps6
  go_wp2_with fail
  go_ret
  exact ⟨rfl, below_one _⟩
/-! the terms of a row -/
def rowM (k : Int) (a4 a5 a6 a7 a8 a9 a10 a11 a12 : ByteArray) : List (List UInt8) :=
  if k = 1 then [a4.data.toList, a5.data.toList, a6.data.toList, a11.data.toList, a12.data.toList]
  else if k = 2 then [a4.data.toList, a7.data.toList, a11.data.toList, a12.data.toList]
  else if k = 3 then [a8.data.toList, a9.data.toList]
  else if k = 4 then [a10.data.toList] else []
def TermsRet (w : World) (l : List (List UInt8)) (e : Ending) (w' : World) : Prop := ∃ v, e = .returned v ∧ Strs w' v l ∧ Below w.heap.size w w'
theorem strv_self (a : ByteArray) : strV a.data.toList = .string a := by simp [strV, strB]
theorem strs_blk {W : World} {b : Nat} {l : List (List UInt8)} {T : TypeId} (h : W.heap[b]? = some (.cells (l.map strV).toArray T (0, 0))) : Strs W (.slice (some ⟨b, 0, none⟩) l.length l.length) l := by
  refine ⟨_, _, rfl, fun h => (by cases h), .inr ⟨b, 0, rfl, fun i hi => ?_⟩⟩
  rw [Nat.zero_add]
  exact cell_of h i (by simp [List.getElem?_eq_getElem hi, List.getD])
theorem rterms_any (k : Int) (s r c : Nat) (a4 a5 a6 a7 a8 a9 a10 a11 a12 : ByteArray) (w : World) : Calls Try.prog 15 #[.agg #[.int .i64 k, .int .u32 (s : Nat), .int .u32 (r : Nat), .int .u64 (c : Nat), .string a4, .string a5, .string a6, .string a7, .string a8, .string a9, .string a10, .string a11, .string a12]] w (TermsRet w (rowM k a4 a5 a6 a7 a8 a9 a10 a11 a12)) := by
  have hx := heap_alloc_new w (.cells #[.int .i64 k, .int .u32 (s : Nat), .int .u32 (r : Nat), .int .u64 (c : Nat), .string a4, .string a5, .string a6, .string a7, .string a8, .string a9, .string a10, .string a11, .string a12] 25)
  have hb := below_one (w := w) (.cells #[.int .i64 k, .int .u32 (s : Nat), .int .u32 (r : Nat), .int .u64 (c : Nat), .string a4, .string a5, .string a6, .string a7, .string a8, .string a9, .string a10, .string a11, .string a12] 25)
  obtain ⟨c0, c1, c2, c3, c4, c5, c6, c7, c8, c9, c10, c11, c12⟩ := cells13 hx
  have s1 : (w.alloc (.cells #[.int .i64 k, .int .u32 (s : Nat), .int .u32 (r : Nat), .int .u64 (c : Nat), .string a4, .string a5, .string a6, .string a7, .string a8, .string a9, .string a10, .string a11, .string a12] 25)).heap.size = w.heap.size + 1 := by simp
  have hst : ∀ (l : List (List UInt8)), Strs ((w.alloc (.cells #[.int .i64 k, .int .u32 (s : Nat), .int .u32 (r : Nat), .int .u64 (c : Nat), .string a4, .string a5, .string a6, .string a7, .string a8, .string a9, .string a10, .string a11, .string a12] 25)).alloc (.cells (l.map strV).toArray 9)) (.slice (some ⟨w.heap.size + 1, 0, none⟩) l.length l.length) l := fun l => by
    have h := heap_alloc_new (w.alloc (.cells #[.int .i64 k, .int .u32 (s : Nat), .int .u32 (r : Nat), .int .u64 (c : Nat), .string a4, .string a5, .string a6, .string a7, .string a8, .string a9, .string a10, .string a11, .string a12] 25)) (.cells (l.map strV).toArray 9)
    rw [s1] at h
    exact strs_blk h
  by_cases h1 : k = 1
  · subst h1
    have hs := hst [a4.data.toList, a5.data.toList, a6.data.toList, a11.data.toList, a12.data.toList]
    simp only [List.map_cons, List.map_nil, strv_self] at hs
    go_enter Try.func15, Try.ntmps15
    go_wp2_with fail
    go_ret
    exact ⟨_, rfl, hs, Below.next hb (below_one _)⟩
  have e1 : (k == 1) = false := beqf h1
  by_cases h2 : k = 2
  · subst h2
    have hs := hst [a4.data.toList, a7.data.toList, a11.data.toList, a12.data.toList]
    simp only [List.map_cons, List.map_nil, strv_self] at hs
    go_enter Try.func15, Try.ntmps15
    go_wp2_with fail
    go_ret
    exact ⟨_, rfl, hs, Below.next hb (below_one _)⟩
  have e2 : (k == 2) = false := beqf h2
  by_cases h3 : k = 3
  · subst h3
    have hs := hst [a8.data.toList, a9.data.toList]
    simp only [List.map_cons, List.map_nil, strv_self] at hs
    go_enter Try.func15, Try.ntmps15
    go_wp2_with fail
    go_ret
    exact ⟨_, rfl, hs, Below.next hb (below_one _)⟩
  have e3 : (k == 3) = false := beqf h3
  by_cases h4 : k = 4
  · subst h4
    have hs := hst [a10.data.toList]
    simp only [List.map_cons, List.map_nil, strv_self] at hs
    go_enter Try.func15, Try.ntmps15
    go_wp2_with fail
    go_ret
    exact ⟨_, rfl, hs, Below.next hb (below_one _)⟩
  have e4 : (k == 4) = false := beqf h4
  have HR : Hid (rowM k a4 a5 a6 a7 a8 a9 a10 a11 a12 = []) := Lib.hid (by unfold rowM; rw [if_neg h1, if_neg h2, if_neg h3, if_neg h4])
  clear h1 h2 h3 h4
  go_enter Try.func15, Try.ntmps15
  go_wp2_with fail
  go_ret
  exact ⟨_, rfl, by rw [HR.out]; exact strs_nil _, hb⟩
end Go.Proofs.Ytjbmcjppaadkgaa

namespace Go.Proofs.Ytjbmcjppaadkgaa
set_option linter.unusedVariables false
set_option linter.unusedSimpArgs false
set_option maxRecDepth 100000
open Go.RowKit
theorem res_cell13 {fn : Func} {t : Tmp} {T : TypeId} (hr : fn.results = #[.cell t 25]) (W : World) (b : Nat) (v0 v1 v2 v3 v4 v5 v6 v7 v8 v9 v10 v11 v12 : Value) (h : W.heap[b]? = some (.cells #[v0, v1, v2, v3, v4, v5, v6, v7, v8, v9, v10, v11, v12] T (0, 0))) (tm : Array Value) (h2 : tm.getD t undef = .pointer (some ⟨b, 0, none⟩)) :
    (results fn tm).run Try.prog W = .ok (.agg #[v0, v1, v2, v3, v4, v5, v6, v7, v8, v9, v10, v11, v12]) W := by
  obtain ⟨c0, c1, c2, c3, c4, c5, c6, c7, c8, c9, c10, c11, c12⟩ := cells13 h
  have e2 : tm[t]?.getD undef = .pointer (some ⟨b, 0, none⟩) := by simpa using h2
  simp [results, hr, go_sem, e2, c0, c1, c2, c3, c4, c5, c6, c7, c8, c9, c10, c11, c12]
theorem strs_cells {W : World} {v : Value} {l : List (List UInt8)} (h : Strs W v l) (h0 : l ≠ []) : ∃ b off cp, v = .slice (some ⟨b, off, none⟩) l.length cp ∧ ∀ i, i < l.length → W.cell? ⟨b, off + i, none⟩ = some (strV (l.getD i [])) := by
  obtain ⟨a, cp, rfl, _, h⟩ := h
  rcases h with rfl | ⟨b, off, rfl, hc⟩
  · exact absurd rfl h0
  · exact ⟨b, off, cp, rfl, hc⟩
def set13 (W : World) (b : Nat) (v0 v1 v2 v3 v4 v5 v6 v7 v8 v9 v10 v11 v12 : Value) : World := (((((((((((((W.setCell ⟨b, 0, none⟩ v0).setCell ⟨b, 1, none⟩ v1).setCell ⟨b, 2, none⟩ v2).setCell ⟨b, 3, none⟩ v3).setCell ⟨b, 4, none⟩ v4).setCell ⟨b, 5, none⟩ v5).setCell ⟨b, 6, none⟩ v6).setCell ⟨b, 7, none⟩ v7).setCell ⟨b, 8, none⟩ v8).setCell ⟨b, 9, none⟩ v9).setCell ⟨b, 10, none⟩ v10).setCell ⟨b, 11, none⟩ v11).setCell ⟨b, 12, none⟩ v12)
theorem set13_block {W : World} {b : Nat} {T : TypeId} {x0 x1 x2 x3 x4 x5 x6 x7 x8 x9 x10 x11 x12 : Value} (h : W.heap[b]? = some (.cells #[x0, x1, x2, x3, x4, x5, x6, x7, x8, x9, x10, x11, x12] T (0, 0))) (v0 v1 v2 v3 v4 v5 v6 v7 v8 v9 v10 v11 v12 : Value) :
    (set13 W b v0 v1 v2 v3 v4 v5 v6 v7 v8 v9 v10 v11 v12).heap[b]? = some (.cells #[v0, v1, v2, v3, v4, v5, v6, v7, v8, v9, v10, v11, v12] T (0, 0)) := by
  have h0 : (W.setCell ⟨b, 0, none⟩ v0).heap[b]? = some (.cells #[v0, x1, x2, x3, x4, x5, x6, x7, x8, x9, x10, x11, x12] T (0, 0)) := set_block (i := 0) (v := v0) h
  have h1 : ((W.setCell ⟨b, 0, none⟩ v0).setCell ⟨b, 1, none⟩ v1).heap[b]? = some (.cells #[v0, v1, x2, x3, x4, x5, x6, x7, x8, x9, x10, x11, x12] T (0, 0)) := set_block (i := 1) (v := v1) h0
  have h2 : (((W.setCell ⟨b, 0, none⟩ v0).setCell ⟨b, 1, none⟩ v1).setCell ⟨b, 2, none⟩ v2).heap[b]? = some (.cells #[v0, v1, v2, x3, x4, x5, x6, x7, x8, x9, x10, x11, x12] T (0, 0)) := set_block (i := 2) (v := v2) h1
  have h3 : ((((W.setCell ⟨b, 0, none⟩ v0).setCell ⟨b, 1, none⟩ v1).setCell ⟨b, 2, none⟩ v2).setCell ⟨b, 3, none⟩ v3).heap[b]? = some (.cells #[v0, v1, v2, v3, x4, x5, x6, x7, x8, x9, x10, x11, x12] T (0, 0)) := set_block (i := 3) (v := v3) h2
  have h4 : (((((W.setCell ⟨b, 0, none⟩ v0).setCell ⟨b, 1, none⟩ v1).setCell ⟨b, 2, none⟩ v2).setCell ⟨b, 3, none⟩ v3).setCell ⟨b, 4, none⟩ v4).heap[b]? = some (.cells #[v0, v1, v2, v3, v4, x5, x6, x7, x8, x9, x10, x11, x12] T (0, 0)) := set_block (i := 4) (v := v4) h3
  have h5 : ((((((W.setCell ⟨b, 0, none⟩ v0).setCell ⟨b, 1, none⟩ v1).setCell ⟨b, 2, none⟩ v2).setCell ⟨b, 3, none⟩ v3).setCell ⟨b, 4, none⟩ v4).setCell ⟨b, 5, none⟩ v5).heap[b]? = some (.cells #[v0, v1, v2, v3, v4, v5, x6, x7, x8, x9, x10, x11, x12] T (0, 0)) := set_block (i := 5) (v := v5) h4
  have h6 : (((((((W.setCell ⟨b, 0, none⟩ v0).setCell ⟨b, 1, none⟩ v1).setCell ⟨b, 2, none⟩ v2).setCell ⟨b, 3, none⟩ v3).setCell ⟨b, 4, none⟩ v4).setCell ⟨b, 5, none⟩ v5).setCell ⟨b, 6, none⟩ v6).heap[b]? = some (.cells #[v0, v1, v2, v3, v4, v5, v6, x7, x8, x9, x10, x11, x12] T (0, 0)) := set_block (i := 6) (v := v6) h5
  have h7 : ((((((((W.setCell ⟨b, 0, none⟩ v0).setCell ⟨b, 1, none⟩ v1).setCell ⟨b, 2, none⟩ v2).setCell ⟨b, 3, none⟩ v3).setCell ⟨b, 4, none⟩ v4).setCell ⟨b, 5, none⟩ v5).setCell ⟨b, 6, none⟩ v6).setCell ⟨b, 7, none⟩ v7).heap[b]? = some (.cells #[v0, v1, v2, v3, v4, v5, v6, v7, x8, x9, x10, x11, x12] T (0, 0)) := set_block (i := 7) (v := v7) h6
  have h8 : (((((((((W.setCell ⟨b, 0, none⟩ v0).setCell ⟨b, 1, none⟩ v1).setCell ⟨b, 2, none⟩ v2).setCell ⟨b, 3, none⟩ v3).setCell ⟨b, 4, none⟩ v4).setCell ⟨b, 5, none⟩ v5).setCell ⟨b, 6, none⟩ v6).setCell ⟨b, 7, none⟩ v7).setCell ⟨b, 8, none⟩ v8).heap[b]? = some (.cells #[v0, v1, v2, v3, v4, v5, v6, v7, v8, x9, x10, x11, x12] T (0, 0)) := set_block (i := 8) (v := v8) h7
  have h9 : ((((((((((W.setCell ⟨b, 0, none⟩ v0).setCell ⟨b, 1, none⟩ v1).setCell ⟨b, 2, none⟩ v2).setCell ⟨b, 3, none⟩ v3).setCell ⟨b, 4, none⟩ v4).setCell ⟨b, 5, none⟩ v5).setCell ⟨b, 6, none⟩ v6).setCell ⟨b, 7, none⟩ v7).setCell ⟨b, 8, none⟩ v8).setCell ⟨b, 9, none⟩ v9).heap[b]? = some (.cells #[v0, v1, v2, v3, v4, v5, v6, v7, v8, v9, x10, x11, x12] T (0, 0)) := set_block (i := 9) (v := v9) h8
  have h10 : (((((((((((W.setCell ⟨b, 0, none⟩ v0).setCell ⟨b, 1, none⟩ v1).setCell ⟨b, 2, none⟩ v2).setCell ⟨b, 3, none⟩ v3).setCell ⟨b, 4, none⟩ v4).setCell ⟨b, 5, none⟩ v5).setCell ⟨b, 6, none⟩ v6).setCell ⟨b, 7, none⟩ v7).setCell ⟨b, 8, none⟩ v8).setCell ⟨b, 9, none⟩ v9).setCell ⟨b, 10, none⟩ v10).heap[b]? = some (.cells #[v0, v1, v2, v3, v4, v5, v6, v7, v8, v9, v10, x11, x12] T (0, 0)) := set_block (i := 10) (v := v10) h9
  have h11 : ((((((((((((W.setCell ⟨b, 0, none⟩ v0).setCell ⟨b, 1, none⟩ v1).setCell ⟨b, 2, none⟩ v2).setCell ⟨b, 3, none⟩ v3).setCell ⟨b, 4, none⟩ v4).setCell ⟨b, 5, none⟩ v5).setCell ⟨b, 6, none⟩ v6).setCell ⟨b, 7, none⟩ v7).setCell ⟨b, 8, none⟩ v8).setCell ⟨b, 9, none⟩ v9).setCell ⟨b, 10, none⟩ v10).setCell ⟨b, 11, none⟩ v11).heap[b]? = some (.cells #[v0, v1, v2, v3, v4, v5, v6, v7, v8, v9, v10, v11, x12] T (0, 0)) := set_block (i := 11) (v := v11) h10
  have h12 : (((((((((((((W.setCell ⟨b, 0, none⟩ v0).setCell ⟨b, 1, none⟩ v1).setCell ⟨b, 2, none⟩ v2).setCell ⟨b, 3, none⟩ v3).setCell ⟨b, 4, none⟩ v4).setCell ⟨b, 5, none⟩ v5).setCell ⟨b, 6, none⟩ v6).setCell ⟨b, 7, none⟩ v7).setCell ⟨b, 8, none⟩ v8).setCell ⟨b, 9, none⟩ v9).setCell ⟨b, 10, none⟩ v10).setCell ⟨b, 11, none⟩ v11).setCell ⟨b, 12, none⟩ v12).heap[b]? = some (.cells #[v0, v1, v2, v3, v4, v5, v6, v7, v8, v9, v10, v11, v12] T (0, 0)) := set_block (i := 12) (v := v12) h11
  exact h12
theorem set13_below {n : Nat} {w W : World} {b : Nat} (h : Below n w W) (hb : n ≤ b) (v0 v1 v2 v3 v4 v5 v6 v7 v8 v9 v10 v11 v12 : Value) : Below n w (set13 W b v0 v1 v2 v3 v4 v5 v6 v7 v8 v9 v10 v11 v12) := (((((((((((((h.setCell (p := ⟨b, 0, none⟩) hb _).setCell (p := ⟨b, 1, none⟩) hb _).setCell (p := ⟨b, 2, none⟩) hb _).setCell (p := ⟨b, 3, none⟩) hb _).setCell (p := ⟨b, 4, none⟩) hb _).setCell (p := ⟨b, 5, none⟩) hb _).setCell (p := ⟨b, 6, none⟩) hb _).setCell (p := ⟨b, 7, none⟩) hb _).setCell (p := ⟨b, 8, none⟩) hb _).setCell (p := ⟨b, 9, none⟩) hb _).setCell (p := ⟨b, 10, none⟩) hb _).setCell (p := ⟨b, 11, none⟩) hb _).setCell (p := ⟨b, 12, none⟩) hb _)
set_option maxHeartbeats 1000000 in
theorem rwith_4 (s r c : Nat) (y0 : ByteArray) (b off cp : Nat) (w : World) (h0 : w.cell? ⟨b, off, none⟩ = some (.string y0)) :
    Calls Try.prog 23 #[.int .i64 4, .int .u32 s, .int .u32 r, .int .u64 c, .slice (some ⟨b, off, none⟩) 1 cp] w fun e w' => e = .returned (.agg #[.int .i64 4, .int .u32 0, .int .u32 r, .int .u64 c, .string ⟨#[]⟩, .string ⟨#[]⟩, .string ⟨#[]⟩, .string ⟨#[]⟩, .string ⟨#[]⟩, .string ⟨#[]⟩, .string y0, .string ⟨#[]⟩, .string ⟨#[]⟩]) ∧ Below w.heap.size w w' := by
  have g0 : (w.alloc (.cells #[.int .i64 0, .int .u32 0, .int .u32 0, .int .u64 0, .string ⟨#[]⟩, .string ⟨#[]⟩, .string ⟨#[]⟩, .string ⟨#[]⟩, .string ⟨#[]⟩, .string ⟨#[]⟩, .string ⟨#[]⟩, .string ⟨#[]⟩, .string ⟨#[]⟩] 25)).cell? ⟨b, off, none⟩ = some (.string y0) := cell_keep4 h0 (below_one _)
  have hx := heap_alloc_new w (.cells #[.int .i64 0, .int .u32 0, .int .u32 0, .int .u64 0, .string ⟨#[]⟩, .string ⟨#[]⟩, .string ⟨#[]⟩, .string ⟨#[]⟩, .string ⟨#[]⟩, .string ⟨#[]⟩, .string ⟨#[]⟩, .string ⟨#[]⟩, .string ⟨#[]⟩] 25)
  have hb := below_one (w := w) (.cells #[.int .i64 0, .int .u32 0, .int .u32 0, .int .u64 0, .string ⟨#[]⟩, .string ⟨#[]⟩, .string ⟨#[]⟩, .string ⟨#[]⟩, .string ⟨#[]⟩, .string ⟨#[]⟩, .string ⟨#[]⟩, .string ⟨#[]⟩, .string ⟨#[]⟩] 25)
  clear h0
  go_enter Try.func23, Try.ntmps23
  go_wp2_with fail
  refine bodyPost_ret (v := .agg #[.int .i64 4, .int .u32 0, .int .u32 r, .int .u64 c, .string ⟨#[]⟩, .string ⟨#[]⟩, .string ⟨#[]⟩, .string ⟨#[]⟩, .string ⟨#[]⟩, .string ⟨#[]⟩, .string y0, .string ⟨#[]⟩, .string ⟨#[]⟩]) ?_ rfl ⟨rfl, ?_⟩
  · exact res_cell13 (t := 10) rfl _ _ _ _ _ _ _ _ _ _ _ _ _ _ _ (heap_alloc_new w _) _ rfl
  · exact below_one _
set_option maxHeartbeats 1000000 in
theorem rwith_3 (s r c : Nat) (y0 y1 : ByteArray) (b off cp : Nat) (w : World) (h0 : w.cell? ⟨b, off, none⟩ = some (.string y0)) (h1 : w.cell? ⟨b, off + 1, none⟩ = some (.string y1)) :
    Calls Try.prog 23 #[.int .i64 3, .int .u32 s, .int .u32 r, .int .u64 c, .slice (some ⟨b, off, none⟩) 2 cp] w fun e w' => e = .returned (.agg #[.int .i64 3, .int .u32 0, .int .u32 r, .int .u64 0, .string ⟨#[]⟩, .string ⟨#[]⟩, .string ⟨#[]⟩, .string ⟨#[]⟩, .string y0, .string y1, .string ⟨#[]⟩, .string ⟨#[]⟩, .string ⟨#[]⟩]) ∧ Below w.heap.size w w' := by
  have g0 : (w.alloc (.cells #[.int .i64 0, .int .u32 0, .int .u32 0, .int .u64 0, .string ⟨#[]⟩, .string ⟨#[]⟩, .string ⟨#[]⟩, .string ⟨#[]⟩, .string ⟨#[]⟩, .string ⟨#[]⟩, .string ⟨#[]⟩, .string ⟨#[]⟩, .string ⟨#[]⟩] 25)).cell? ⟨b, off, none⟩ = some (.string y0) := cell_keep4 h0 (below_one _)
  have g1 : (w.alloc (.cells #[.int .i64 0, .int .u32 0, .int .u32 0, .int .u64 0, .string ⟨#[]⟩, .string ⟨#[]⟩, .string ⟨#[]⟩, .string ⟨#[]⟩, .string ⟨#[]⟩, .string ⟨#[]⟩, .string ⟨#[]⟩, .string ⟨#[]⟩, .string ⟨#[]⟩] 25)).cell? ⟨b, off + 1, none⟩ = some (.string y1) := cell_keep4 h1 (below_one _)
  have hx := heap_alloc_new w (.cells #[.int .i64 0, .int .u32 0, .int .u32 0, .int .u64 0, .string ⟨#[]⟩, .string ⟨#[]⟩, .string ⟨#[]⟩, .string ⟨#[]⟩, .string ⟨#[]⟩, .string ⟨#[]⟩, .string ⟨#[]⟩, .string ⟨#[]⟩, .string ⟨#[]⟩] 25)
  have hb := below_one (w := w) (.cells #[.int .i64 0, .int .u32 0, .int .u32 0, .int .u64 0, .string ⟨#[]⟩, .string ⟨#[]⟩, .string ⟨#[]⟩, .string ⟨#[]⟩, .string ⟨#[]⟩, .string ⟨#[]⟩, .string ⟨#[]⟩, .string ⟨#[]⟩, .string ⟨#[]⟩] 25)
  clear h0 h1
  go_enter Try.func23, Try.ntmps23
  go_wp2_with fail
  generalize w.alloc (.cells #[.int .i64 0, .int .u32 0, .int .u32 0, .int .u64 0, .string ⟨#[]⟩, .string ⟨#[]⟩, .string ⟨#[]⟩, .string ⟨#[]⟩, .string ⟨#[]⟩, .string ⟨#[]⟩, .string ⟨#[]⟩, .string ⟨#[]⟩, .string ⟨#[]⟩] 25) = W at *
  go_still_tail 8, (by kernel_rfl)
  change wpList _ _ _ _ _ W.drew
  have hx : W.drew.heap[w.heap.size]? = some (.cells #[.int .i64 0, .int .u32 0, .int .u32 0, .int .u64 0, .string ⟨#[]⟩, .string ⟨#[]⟩, .string ⟨#[]⟩, .string ⟨#[]⟩, .string ⟨#[]⟩, .string ⟨#[]⟩, .string ⟨#[]⟩, .string ⟨#[]⟩, .string ⟨#[]⟩] 25) := hx
  have hb := hb.drew
  clear g0 g1
  generalize W.drew = W5 at *
  have fz := fun i => free_of hx i
  obtain ⟨c0, c1, c2, c3, c4, c5, c6, c7, c8, c9, c10, c11, c12⟩ := cells13 hx
  go_wp2_with fail
  refine bodyPost_ret (v := .agg #[.int .i64 3, .int .u32 0, .int .u32 r, .int .u64 0, .string ⟨#[]⟩, .string ⟨#[]⟩, .string ⟨#[]⟩, .string ⟨#[]⟩, .string y0, .string y1, .string ⟨#[]⟩, .string ⟨#[]⟩, .string ⟨#[]⟩]) ?_ rfl ⟨rfl, ?_⟩
  · exact res_cell13 (t := 10) rfl _ _ _ _ _ _ _ _ _ _ _ _ _ _ _ (set13_block hx _ _ _ _ _ _ _ _ _ _ _ _ _) _ rfl
  · exact set13_below hb (Nat.le_refl _) _ _ _ _ _ _ _ _ _ _ _ _ _
set_option maxHeartbeats 1000000 in
theorem rwith_2 (s r c : Nat) (y0 y1 y2 y3 : ByteArray) (b off cp : Nat) (w : World) (h0 : w.cell? ⟨b, off, none⟩ = some (.string y0)) (h1 : w.cell? ⟨b, off + 1, none⟩ = some (.string y1)) (h2 : w.cell? ⟨b, off + 2, none⟩ = some (.string y2)) (h3 : w.cell? ⟨b, off + 3, none⟩ = some (.string y3)) :
    Calls Try.prog 23 #[.int .i64 2, .int .u32 s, .int .u32 r, .int .u64 c, .slice (some ⟨b, off, none⟩) 4 cp] w fun e w' => e = .returned (.agg #[.int .i64 2, .int .u32 s, .int .u32 r, .int .u64 0, .string y0, .string ⟨#[]⟩, .string ⟨#[]⟩, .string y1, .string ⟨#[]⟩, .string ⟨#[]⟩, .string ⟨#[]⟩, .string y2, .string y3]) ∧ Below w.heap.size w w' := by
  have g0 : (w.alloc (.cells #[.int .i64 0, .int .u32 0, .int .u32 0, .int .u64 0, .string ⟨#[]⟩, .string ⟨#[]⟩, .string ⟨#[]⟩, .string ⟨#[]⟩, .string ⟨#[]⟩, .string ⟨#[]⟩, .string ⟨#[]⟩, .string ⟨#[]⟩, .string ⟨#[]⟩] 25)).cell? ⟨b, off, none⟩ = some (.string y0) := cell_keep4 h0 (below_one _)
  have g1 : (w.alloc (.cells #[.int .i64 0, .int .u32 0, .int .u32 0, .int .u64 0, .string ⟨#[]⟩, .string ⟨#[]⟩, .string ⟨#[]⟩, .string ⟨#[]⟩, .string ⟨#[]⟩, .string ⟨#[]⟩, .string ⟨#[]⟩, .string ⟨#[]⟩, .string ⟨#[]⟩] 25)).cell? ⟨b, off + 1, none⟩ = some (.string y1) := cell_keep4 h1 (below_one _)
  have g2 : (w.alloc (.cells #[.int .i64 0, .int .u32 0, .int .u32 0, .int .u64 0, .string ⟨#[]⟩, .string ⟨#[]⟩, .string ⟨#[]⟩, .string ⟨#[]⟩, .string ⟨#[]⟩, .string ⟨#[]⟩, .string ⟨#[]⟩, .string ⟨#[]⟩, .string ⟨#[]⟩] 25)).cell? ⟨b, off + 2, none⟩ = some (.string y2) := cell_keep4 h2 (below_one _)
  have g3 : (w.alloc (.cells #[.int .i64 0, .int .u32 0, .int .u32 0, .int .u64 0, .string ⟨#[]⟩, .string ⟨#[]⟩, .string ⟨#[]⟩, .string ⟨#[]⟩, .string ⟨#[]⟩, .string ⟨#[]⟩, .string ⟨#[]⟩, .string ⟨#[]⟩, .string ⟨#[]⟩] 25)).cell? ⟨b, off + 3, none⟩ = some (.string y3) := cell_keep4 h3 (below_one _)
  have hx := heap_alloc_new w (.cells #[.int .i64 0, .int .u32 0, .int .u32 0, .int .u64 0, .string ⟨#[]⟩, .string ⟨#[]⟩, .string ⟨#[]⟩, .string ⟨#[]⟩, .string ⟨#[]⟩, .string ⟨#[]⟩, .string ⟨#[]⟩, .string ⟨#[]⟩, .string ⟨#[]⟩] 25)
  have hb := below_one (w := w) (.cells #[.int .i64 0, .int .u32 0, .int .u32 0, .int .u64 0, .string ⟨#[]⟩, .string ⟨#[]⟩, .string ⟨#[]⟩, .string ⟨#[]⟩, .string ⟨#[]⟩, .string ⟨#[]⟩, .string ⟨#[]⟩, .string ⟨#[]⟩, .string ⟨#[]⟩] 25)
  clear h0 h1 h2 h3
  go_enter Try.func23, Try.ntmps23
  go_wp2_with fail
  generalize w.alloc (.cells #[.int .i64 0, .int .u32 0, .int .u32 0, .int .u64 0, .string ⟨#[]⟩, .string ⟨#[]⟩, .string ⟨#[]⟩, .string ⟨#[]⟩, .string ⟨#[]⟩, .string ⟨#[]⟩, .string ⟨#[]⟩, .string ⟨#[]⟩, .string ⟨#[]⟩] 25) = W at *
  go_still_tail 15, (by kernel_rfl)
  change wpList _ _ _ _ _ W.drew
  have hx : W.drew.heap[w.heap.size]? = some (.cells #[.int .i64 0, .int .u32 0, .int .u32 0, .int .u64 0, .string ⟨#[]⟩, .string ⟨#[]⟩, .string ⟨#[]⟩, .string ⟨#[]⟩, .string ⟨#[]⟩, .string ⟨#[]⟩, .string ⟨#[]⟩, .string ⟨#[]⟩, .string ⟨#[]⟩] 25) := hx
  have hb := hb.drew
  clear g0 g1 g2 g3
  generalize W.drew = W5 at *
  have fz := fun i => free_of hx i
  obtain ⟨c0, c1, c2, c3, c4, c5, c6, c7, c8, c9, c10, c11, c12⟩ := cells13 hx
  go_wp2_with fail
  refine bodyPost_ret (v := .agg #[.int .i64 2, .int .u32 s, .int .u32 r, .int .u64 0, .string y0, .string ⟨#[]⟩, .string ⟨#[]⟩, .string y1, .string ⟨#[]⟩, .string ⟨#[]⟩, .string ⟨#[]⟩, .string y2, .string y3]) ?_ rfl ⟨rfl, ?_⟩
  · exact res_cell13 (t := 10) rfl _ _ _ _ _ _ _ _ _ _ _ _ _ _ _ (set13_block hx _ _ _ _ _ _ _ _ _ _ _ _ _) _ rfl
  · exact set13_below hb (Nat.le_refl _) _ _ _ _ _ _ _ _ _ _ _ _ _
set_option maxHeartbeats 1000000 in
theorem rwith_1 (s r c : Nat) (y0 y1 y2 y3 y4 : ByteArray) (b off cp : Nat) (w : World) (h0 : w.cell? ⟨b, off, none⟩ = some (.string y0)) (h1 : w.cell? ⟨b, off + 1, none⟩ = some (.string y1)) (h2 : w.cell? ⟨b, off + 2, none⟩ = some (.string y2)) (h3 : w.cell? ⟨b, off + 3, none⟩ = some (.string y3)) (h4 : w.cell? ⟨b, off + 4, none⟩ = some (.string y4)) :
    Calls Try.prog 23 #[.int .i64 1, .int .u32 s, .int .u32 r, .int .u64 c, .slice (some ⟨b, off, none⟩) 5 cp] w fun e w' => e = .returned (.agg #[.int .i64 1, .int .u32 s, .int .u32 0, .int .u64 0, .string y0, .string y1, .string y2, .string ⟨#[]⟩, .string ⟨#[]⟩, .string ⟨#[]⟩, .string ⟨#[]⟩, .string y3, .string y4]) ∧ Below w.heap.size w w' := by
  have g0 : (w.alloc (.cells #[.int .i64 0, .int .u32 0, .int .u32 0, .int .u64 0, .string ⟨#[]⟩, .string ⟨#[]⟩, .string ⟨#[]⟩, .string ⟨#[]⟩, .string ⟨#[]⟩, .string ⟨#[]⟩, .string ⟨#[]⟩, .string ⟨#[]⟩, .string ⟨#[]⟩] 25)).cell? ⟨b, off, none⟩ = some (.string y0) := cell_keep4 h0 (below_one _)
  have g1 : (w.alloc (.cells #[.int .i64 0, .int .u32 0, .int .u32 0, .int .u64 0, .string ⟨#[]⟩, .string ⟨#[]⟩, .string ⟨#[]⟩, .string ⟨#[]⟩, .string ⟨#[]⟩, .string ⟨#[]⟩, .string ⟨#[]⟩, .string ⟨#[]⟩, .string ⟨#[]⟩] 25)).cell? ⟨b, off + 1, none⟩ = some (.string y1) := cell_keep4 h1 (below_one _)
  have g2 : (w.alloc (.cells #[.int .i64 0, .int .u32 0, .int .u32 0, .int .u64 0, .string ⟨#[]⟩, .string ⟨#[]⟩, .string ⟨#[]⟩, .string ⟨#[]⟩, .string ⟨#[]⟩, .string ⟨#[]⟩, .string ⟨#[]⟩, .string ⟨#[]⟩, .string ⟨#[]⟩] 25)).cell? ⟨b, off + 2, none⟩ = some (.string y2) := cell_keep4 h2 (below_one _)
  have g3 : (w.alloc (.cells #[.int .i64 0, .int .u32 0, .int .u32 0, .int .u64 0, .string ⟨#[]⟩, .string ⟨#[]⟩, .string ⟨#[]⟩, .string ⟨#[]⟩, .string ⟨#[]⟩, .string ⟨#[]⟩, .string ⟨#[]⟩, .string ⟨#[]⟩, .string ⟨#[]⟩] 25)).cell? ⟨b, off + 3, none⟩ = some (.string y3) := cell_keep4 h3 (below_one _)
  have g4 : (w.alloc (.cells #[.int .i64 0, .int .u32 0, .int .u32 0, .int .u64 0, .string ⟨#[]⟩, .string ⟨#[]⟩, .string ⟨#[]⟩, .string ⟨#[]⟩, .string ⟨#[]⟩, .string ⟨#[]⟩, .string ⟨#[]⟩, .string ⟨#[]⟩, .string ⟨#[]⟩] 25)).cell? ⟨b, off + 4, none⟩ = some (.string y4) := cell_keep4 h4 (below_one _)
  have hx := heap_alloc_new w (.cells #[.int .i64 0, .int .u32 0, .int .u32 0, .int .u64 0, .string ⟨#[]⟩, .string ⟨#[]⟩, .string ⟨#[]⟩, .string ⟨#[]⟩, .string ⟨#[]⟩, .string ⟨#[]⟩, .string ⟨#[]⟩, .string ⟨#[]⟩, .string ⟨#[]⟩] 25)
  have hb := below_one (w := w) (.cells #[.int .i64 0, .int .u32 0, .int .u32 0, .int .u64 0, .string ⟨#[]⟩, .string ⟨#[]⟩, .string ⟨#[]⟩, .string ⟨#[]⟩, .string ⟨#[]⟩, .string ⟨#[]⟩, .string ⟨#[]⟩, .string ⟨#[]⟩, .string ⟨#[]⟩] 25)
  clear h0 h1 h2 h3 h4
  go_enter Try.func23, Try.ntmps23
  go_wp2_with fail
  generalize w.alloc (.cells #[.int .i64 0, .int .u32 0, .int .u32 0, .int .u64 0, .string ⟨#[]⟩, .string ⟨#[]⟩, .string ⟨#[]⟩, .string ⟨#[]⟩, .string ⟨#[]⟩, .string ⟨#[]⟩, .string ⟨#[]⟩, .string ⟨#[]⟩, .string ⟨#[]⟩] 25) = W at *
  go_still_tail 17, (by kernel_rfl)
  change wpList _ _ _ _ _ W.drew
  have hx : W.drew.heap[w.heap.size]? = some (.cells #[.int .i64 0, .int .u32 0, .int .u32 0, .int .u64 0, .string ⟨#[]⟩, .string ⟨#[]⟩, .string ⟨#[]⟩, .string ⟨#[]⟩, .string ⟨#[]⟩, .string ⟨#[]⟩, .string ⟨#[]⟩, .string ⟨#[]⟩, .string ⟨#[]⟩] 25) := hx
  have hb := hb.drew
  clear g0 g1 g2 g3 g4
  generalize W.drew = W5 at *
  have fz := fun i => free_of hx i
  obtain ⟨c0, c1, c2, c3, c4, c5, c6, c7, c8, c9, c10, c11, c12⟩ := cells13 hx
  go_wp2_with fail
  refine bodyPost_ret (v := .agg #[.int .i64 1, .int .u32 s, .int .u32 0, .int .u64 0, .string y0, .string y1, .string y2, .string ⟨#[]⟩, .string ⟨#[]⟩, .string ⟨#[]⟩, .string ⟨#[]⟩, .string y3, .string y4]) ?_ rfl ⟨rfl, ?_⟩
  · exact res_cell13 (t := 10) rfl _ _ _ _ _ _ _ _ _ _ _ _ _ _ _ (set13_block hx _ _ _ _ _ _ _ _ _ _ _ _ _) _ rfl
  · exact set13_below hb (Nat.le_refl _) _ _ _ _ _ _ _ _ _ _ _ _ _
end Go.Proofs.Ytjbmcjppaadkgaa

namespace Go.Proofs.Ytjbmcjppaadkgaa
set_option linter.unusedVariables false
set_option linter.unusedSimpArgs false
set_option maxRecDepth 100000
open Go.RowKit
theorem ba_inj {a b : ByteArray} (h : a.toList = b.toList) : a = b := by
  rw [ByteArray.toList_eq, ByteArray.toList_eq] at h
  obtain ⟨⟨x⟩⟩ := a
  obtain ⟨⟨y⟩⟩ := b
  simp at h
  subst h; rfl
set_option maxHeartbeats 1000000 in
theorem msg_eql (w : World) (k : Int) (s r c : Nat) (k' : Int) (s' r' c' : Nat) (a4 a5 a6 a7 a8 a9 a10 a11 a12 b4 b5 b6 b7 b8 b9 b10 b11 b12 : ByteArray) (bq : Bool)
    (h : bq = decide (k = k' ∧ s = s' ∧ r = r' ∧ c = c' ∧ a4 = b4 ∧ a5 = b5 ∧ a6 = b6 ∧ a7 = b7 ∧ a8 = b8 ∧ a9 = b9 ∧ a10 = b10 ∧ a11 = b11 ∧ a12 = b12)) :
    (binOp .eql 25 (.agg #[.int .i64 k, .int .u32 (s : Nat), .int .u32 (r : Nat), .int .u64 (c : Nat), .string a4, .string a5, .string a6, .string a7, .string a8, .string a9, .string a10, .string a11, .string a12]) (.agg #[.int .i64 k', .int .u32 (s' : Nat), .int .u32 (r' : Nat), .int .u64 (c' : Nat), .string b4, .string b5, .string b6, .string b7, .string b8, .string b9, .string b10, .string b11, .string b12])).run Try.prog w = .ok (.bool bq) w := by
  by_cases hall : k = k' ∧ s = s' ∧ r = r' ∧ c = c' ∧ a4 = b4 ∧ a5 = b5 ∧ a6 = b6 ∧ a7 = b7 ∧ a8 = b8 ∧ a9 = b9 ∧ a10 = b10 ∧ a11 = b11 ∧ a12 = b12
  · rw [h, decide_eq_true hall]
    obtain ⟨rfl, rfl, rfl, rfl, rfl, rfl, rfl, rfl, rfl, rfl, rfl, rfl, rfl⟩ := hall
    go_simp
  · rw [h, decide_eq_false hall]
    clear h
    go_simp
    intro q0 q1 q2 q3 q4 q5 q6 q7 q8 q9 q10 q11 q12
    exact absurd ⟨q0, by omega, by omega, by omega, ba_inj q4, ba_inj q5, ba_inj q6, ba_inj q7, ba_inj q8, ba_inj q9, ba_inj q10, ba_inj q11, ba_inj q12⟩ hall
end Go.Proofs.Ytjbmcjppaadkgaa

namespace Go.Proofs.Ytjbmcjppaadkgaa
set_option linter.unusedVariables false
set_option linter.unusedSimpArgs false
set_option maxRecDepth 100000
open Go.RowKit
def fsOf (k : Nat) : List Fd :=
  if k = 1 then [.z, .n4 1, .t 4, .t 5, .t 6, .t 11, .t 12] else if k = 2 then [.z, .n4 1, .n4 2, .t 4, .t 7, .t 11, .t 12] else if k = 3 then [.z, .n4 2, .t 8, .t 9] else if k = 4 then [.z, .n4 2, .n8 3, .t 10] else []
def N0 : Nat → Nat := fun _ => 0
def X0 : Nat → ByteArray := fun _ => ⟨#[]⟩
def msgV (k : Int) (N : Nat → Nat) (X : Nat → ByteArray) : Value := .agg (msgC k N X)
def readR (x : UInt8) (R : Nat × List UInt8 × (Nat → Nat) × (Nat → ByteArray)) : Nat × Int × (Nat → Nat) × (Nat → ByteArray) :=
  if R.1 ≠ 0 then (R.1, 0, N0, X0) else if 0 < R.2.1.length then (5, 0, N0, X0) else (0, x.toNat, R.2.2.1, R.2.2.2)
def readS : List UInt8 → Nat × Int × (Nat → Nat) × (Nat → ByteArray)
  | [] => (4, 0, N0, X0)
  | x :: r => if fsOf x.toNat = [] then (3, 0, N0, X0) else readR x (rAll (fsOf x.toNat) r N0 X0)
def ReadRet6 (w : World) (r : Nat × Int × (Nat → Nat) × (Nat → ByteArray)) (e : Ending) (w' : World) : Prop := e = .returned (.tuple #[msgV r.2.1 r.2.2.1 r.2.2.2, .int .i64 r.1]) ∧ Below w.heap.size w w'
theorem row_any (B k : Nat) (w : World) (hc : w.cell? ⟨B, 0, none⟩ = some (.int .i64 (k : Nat))) (hk : fsOf k ≠ []) : Calls Try.prog 19 #[.pointer (some ⟨B, 0, none⟩)] w (RowRet w B (fsOf k)) := by
  unfold fsOf at hk ⊢
  by_cases h1 : k = 1
  · subst h1; exact row_1 B w hc
  by_cases h2 : k = 2
  · subst h2; exact row_2 B w hc
  by_cases h3 : k = 3
  · subst h3; exact row_3 B w hc
  by_cases h4 : k = 4
  · subst h4; exact row_4 B w hc
  rw [if_neg h1, if_neg h2, if_neg h3, if_neg h4] at hk
  exact absurd rfl hk
theorem fsOf_no {k : Nat} (h : fsOf k = []) : k ≠ 1 ∧ k ≠ 2 ∧ k ≠ 3 ∧ k ≠ 4 := by
  refine ⟨?_, ?_, ?_, ?_⟩ <;> (rintro rfl; exact absurd h (by decide))
theorem fsOf_len (k : Nat) : (fsOf k).length ≤ 7 := by
  unfold fsOf
  split; · decide
  split; · decide
  split; · decide
  split <;> decide
theorem fsOf_ok (k : Nat) : ∀ f ∈ fsOf k, FdOk f := by
  unfold fsOf
  split
  · intro f hf; simp at hf; rcases hf with rfl | rfl | rfl | rfl | rfl | rfl | rfl <;> simp [FdOk]
  split
  · intro f hf; simp at hf; rcases hf with rfl | rfl | rfl | rfl | rfl | rfl | rfl <;> simp [FdOk]
  split
  · intro f hf; simp at hf; rcases hf with rfl | rfl | rfl | rfl <;> simp [FdOk]
  split
  · intro f hf; simp at hf; rcases hf with rfl | rfl | rfl | rfl <;> simp [FdOk]
  · intro f hf; cases hf
theorem res_cell13t {fn : Func} {t u : Tmp} {T : TypeId} (hr : fn.results = #[.cell t 25, .tmp u]) (W : World) (b : Nat) (v0 v1 v2 v3 v4 v5 v6 v7 v8 v9 v10 v11 v12 x : Value) (h : W.heap[b]? = some (.cells #[v0, v1, v2, v3, v4, v5, v6, v7, v8, v9, v10, v11, v12] T (0, 0))) (tm : Array Value) (h2 : tm.getD t undef = .pointer (some ⟨b, 0, none⟩)) (h3 : tm.getD u undef = x) :
    (results fn tm).run Try.prog W = .ok (.tuple #[.agg #[v0, v1, v2, v3, v4, v5, v6, v7, v8, v9, v10, v11, v12], x]) W := by
  obtain ⟨c0, c1, c2, c3, c4, c5, c6, c7, c8, c9, c10, c11, c12⟩ := cells13 h
  have e2 : tm[t]?.getD undef = .pointer (some ⟨b, 0, none⟩) := by simpa using h2
  have e3 : tm[u]?.getD undef = x := by simpa using h3
  simp [results, hr, go_sem, e2, e3, c0, c1, c2, c3, c4, c5, c6, c7, c8, c9, c10, c11, c12]
theorem read_nil (a : Option Addr) (cp : Nat) (w : World) : Calls Try.prog 12 #[.slice a 0 cp] w (ReadRet6 w (readS [])) := by
  have hx := heap_alloc_new w (.cells #[.int .i64 0, .int .u32 0, .int .u32 0, .int .u64 0, .string ⟨#[]⟩, .string ⟨#[]⟩, .string ⟨#[]⟩, .string ⟨#[]⟩, .string ⟨#[]⟩, .string ⟨#[]⟩, .string ⟨#[]⟩, .string ⟨#[]⟩, .string ⟨#[]⟩] 25)
  obtain ⟨c0, c1, c2, c3, c4, c5, c6, c7, c8, c9, c10, c11, c12⟩ := cells13 hx
  have fz := fun i => free_of hx i
  go_enter Try.func12, Try.ntmps12
  go_wp2_with fail
  exact bodyPost_ret (res_cell13t (t := 2) (u := 3) rfl _ _ _ _ _ _ _ _ _ _ _ _ _ _ _ _ hx _ rfl rfl) rfl ⟨rfl, below_one _⟩
theorem wrap64_id (a : Int) (h0 : 0 ≤ a) (h : a < 256) : wrap64 a = a := by unfold wrap64; omega
theorem zero_next {w W : World} {R : Nat} (h : w.heap[R]? = some (.cells #[.int .i64 0, .int .u32 0, .int .u32 0, .int .u64 0, .string ⟨#[]⟩, .string ⟨#[]⟩, .string ⟨#[]⟩, .string ⟨#[]⟩, .string ⟨#[]⟩, .string ⟨#[]⟩, .string ⟨#[]⟩, .string ⟨#[]⟩, .string ⟨#[]⟩] 25 (0, 0))) (hb : W.heap[R]? = w.heap[R]?) : W.heap[R]? = some (.cells #[.int .i64 0, .int .u32 0, .int .u32 0, .int .u64 0, .string ⟨#[]⟩, .string ⟨#[]⟩, .string ⟨#[]⟩, .string ⟨#[]⟩, .string ⟨#[]⟩, .string ⟨#[]⟩, .string ⟨#[]⟩, .string ⟨#[]⟩, .string ⟨#[]⟩] 25 (0, 0)) := hb.trans h
theorem read_kind (x : UInt8) (r : List UInt8) (b off cp : Nat) (w : World) (hk : fsOf x.toNat = []) (hc0 : w.cell? ⟨b, off, none⟩ = some (.int .u8 x.toNat)) : Calls Try.prog 12 #[.slice (some ⟨b, off, none⟩) (r.length + 1) cp] w (ReadRet6 w (readS (x :: r))) := by
  have HZ : Hid (readS (x :: r) = (3, 0, N0, X0)) := Lib.hid (if_pos hk)
  obtain ⟨n1, n2, n3, n4⟩ := fsOf_no hk
  have q0 : (w.alloc (.cells #[.int .i64 0, .int .u32 0, .int .u32 0, .int .u64 0, .string ⟨#[]⟩, .string ⟨#[]⟩, .string ⟨#[]⟩, .string ⟨#[]⟩, .string ⟨#[]⟩, .string ⟨#[]⟩, .string ⟨#[]⟩, .string ⟨#[]⟩, .string ⟨#[]⟩] 25)).cell? ⟨b, off, none⟩ = some (.int .u8 x.toNat) := old1 _ hc0
  have hx : (((w.alloc (.cells #[.int .i64 0, .int .u32 0, .int .u32 0, .int .u64 0, .string ⟨#[]⟩, .string ⟨#[]⟩, .string ⟨#[]⟩, .string ⟨#[]⟩, .string ⟨#[]⟩, .string ⟨#[]⟩, .string ⟨#[]⟩, .string ⟨#[]⟩, .string ⟨#[]⟩] 25)).alloc (.cells #[.int .i64 (x.toNat : Nat), .int .u32 0, .int .u32 0, .int .u64 0, .string ⟨#[]⟩, .string ⟨#[]⟩, .string ⟨#[]⟩, .string ⟨#[]⟩, .string ⟨#[]⟩, .string ⟨#[]⟩, .string ⟨#[]⟩, .string ⟨#[]⟩, .string ⟨#[]⟩] 25))).heap[w.heap.size]? = some (.cells #[.int .i64 0, .int .u32 0, .int .u32 0, .int .u64 0, .string ⟨#[]⟩, .string ⟨#[]⟩, .string ⟨#[]⟩, .string ⟨#[]⟩, .string ⟨#[]⟩, .string ⟨#[]⟩, .string ⟨#[]⟩, .string ⟨#[]⟩, .string ⟨#[]⟩] 25 (0, 0)) := (Below.heap_alloc _ _ _ (by simp)).trans (heap_alloc_new w _)
  have HX := Lib.hid hx
  have HSZ : Hid ((((w.alloc (.cells #[.int .i64 0, .int .u32 0, .int .u32 0, .int .u64 0, .string ⟨#[]⟩, .string ⟨#[]⟩, .string ⟨#[]⟩, .string ⟨#[]⟩, .string ⟨#[]⟩, .string ⟨#[]⟩, .string ⟨#[]⟩, .string ⟨#[]⟩, .string ⟨#[]⟩] 25)).alloc (.cells #[.int .i64 (x.toNat : Nat), .int .u32 0, .int .u32 0, .int .u64 0, .string ⟨#[]⟩, .string ⟨#[]⟩, .string ⟨#[]⟩, .string ⟨#[]⟩, .string ⟨#[]⟩, .string ⟨#[]⟩, .string ⟨#[]⟩, .string ⟨#[]⟩, .string ⟨#[]⟩] 25))).heap.size = w.heap.size + 2) := Lib.hid (by simp)
  have HB : Hid (Below w.heap.size w (((w.alloc (.cells #[.int .i64 0, .int .u32 0, .int .u32 0, .int .u64 0, .string ⟨#[]⟩, .string ⟨#[]⟩, .string ⟨#[]⟩, .string ⟨#[]⟩, .string ⟨#[]⟩, .string ⟨#[]⟩, .string ⟨#[]⟩, .string ⟨#[]⟩, .string ⟨#[]⟩] 25)).alloc (.cells #[.int .i64 (x.toNat : Nat), .int .u32 0, .int .u32 0, .int .u64 0, .string ⟨#[]⟩, .string ⟨#[]⟩, .string ⟨#[]⟩, .string ⟨#[]⟩, .string ⟨#[]⟩, .string ⟨#[]⟩, .string ⟨#[]⟩, .string ⟨#[]⟩, .string ⟨#[]⟩] 25)))) := Lib.hid (Below.next (below_one _) (below_one _))
  have cB : (((w.alloc (.cells #[.int .i64 0, .int .u32 0, .int .u32 0, .int .u64 0, .string ⟨#[]⟩, .string ⟨#[]⟩, .string ⟨#[]⟩, .string ⟨#[]⟩, .string ⟨#[]⟩, .string ⟨#[]⟩, .string ⟨#[]⟩, .string ⟨#[]⟩, .string ⟨#[]⟩] 25)).alloc (.cells #[.int .i64 (x.toNat : Nat), .int .u32 0, .int .u32 0, .int .u64 0, .string ⟨#[]⟩, .string ⟨#[]⟩, .string ⟨#[]⟩, .string ⟨#[]⟩, .string ⟨#[]⟩, .string ⟨#[]⟩, .string ⟨#[]⟩, .string ⟨#[]⟩, .string ⟨#[]⟩] 25))).cell? ⟨w.heap.size + 1, 0, none⟩ = some (.int .i64 x.toNat) := cell_of (new2 w _ _) 0 rfl
  have HROW := Lib.hid (row_no (w.heap.size + 1) x.toNat (((w.alloc (.cells #[.int .i64 0, .int .u32 0, .int .u32 0, .int .u64 0, .string ⟨#[]⟩, .string ⟨#[]⟩, .string ⟨#[]⟩, .string ⟨#[]⟩, .string ⟨#[]⟩, .string ⟨#[]⟩, .string ⟨#[]⟩, .string ⟨#[]⟩, .string ⟨#[]⟩] 25)).alloc (.cells #[.int .i64 (x.toNat : Nat), .int .u32 0, .int .u32 0, .int .u64 0, .string ⟨#[]⟩, .string ⟨#[]⟩, .string ⟨#[]⟩, .string ⟨#[]⟩, .string ⟨#[]⟩, .string ⟨#[]⟩, .string ⟨#[]⟩, .string ⟨#[]⟩, .string ⟨#[]⟩] 25))) cB (by omega) (by omega) (by omega) (by omega))
  obtain ⟨c0, c1, c2, c3, c4, c5, c6, c7, c8, c9, c10, c11, c12⟩ := cells13 hx
  have fz := fun i => free_of hx i
  have hxl := UInt8.toNat_lt x
  have hw64 : wrap64 (x.toNat : Int) = x.toNat := wrap64_id _ (by omega) (by omega)
  clear hk hc0 n1 n2 n3 n4 hx
  go_enter Try.func12, Try.ntmps12
  go_wp2_with (first | (go_at_call 19; ((with_reducible refine (HROW.out).mono ?_); rintro e w2 ⟨rfl, rfl⟩; (try dsimp only))) | fail)
  rw [HZ.out]
  exact bodyPost_ret (res_cell13t (t := 2) (u := 3) rfl _ _ _ _ _ _ _ _ _ _ _ _ _ _ _ _ HX.out _ rfl rfl) rfl ⟨rfl, HB.out⟩
set_option maxHeartbeats 1000000 in
theorem read_x (x : UInt8) (r : List UInt8) (b off cp : Nat) (v : Value) (w : World) (fs : List Fd) (hk : fsOf x.toNat = fs) (hfs : fs ≠ []) (hc0 : w.cell? ⟨b, off, none⟩ = some (.int .u8 x.toNat)) (hv : PartB w b v r) (hl : r.length ≤ 10000000) (rc : Nat) (rl : List UInt8) (rN : Nat → Nat) (rX : Nat → ByteArray) (hR : rAll fs r N0 X0 = (rc, rl, rN, rX)) (hvv : v = .slice (some ⟨b, off + 1, none⟩) r.length (cp - 1)) (hcp : r.length + 1 ≤ cp) (hcm : cp ≤ maxLen) (hc1 : ¬ cp = 1) : Calls Try.prog 12 #[.slice (some ⟨b, off, none⟩) (r.length + 1) cp] w (ReadRet6 w (readS (x :: r))) := by
  have HZ : Hid (readS (x :: r) = readR x (rc, rl, rN, rX)) := Lib.hid (by rw [← hR, ← hk]; exact if_neg (by rw [hk]; exact hfs))
  have hbl := World.block_lt_of_cell? w _ hc0
  have q0 : (w.alloc (.cells #[.int .i64 0, .int .u32 0, .int .u32 0, .int .u64 0, .string ⟨#[]⟩, .string ⟨#[]⟩, .string ⟨#[]⟩, .string ⟨#[]⟩, .string ⟨#[]⟩, .string ⟨#[]⟩, .string ⟨#[]⟩, .string ⟨#[]⟩, .string ⟨#[]⟩] 25)).cell? ⟨b, off, none⟩ = some (.int .u8 x.toNat) := old1 _ hc0
  have hx : (((w.alloc (.cells #[.int .i64 0, .int .u32 0, .int .u32 0, .int .u64 0, .string ⟨#[]⟩, .string ⟨#[]⟩, .string ⟨#[]⟩, .string ⟨#[]⟩, .string ⟨#[]⟩, .string ⟨#[]⟩, .string ⟨#[]⟩, .string ⟨#[]⟩, .string ⟨#[]⟩] 25)).alloc (.cells #[.int .i64 (x.toNat : Nat), .int .u32 0, .int .u32 0, .int .u64 0, .string ⟨#[]⟩, .string ⟨#[]⟩, .string ⟨#[]⟩, .string ⟨#[]⟩, .string ⟨#[]⟩, .string ⟨#[]⟩, .string ⟨#[]⟩, .string ⟨#[]⟩, .string ⟨#[]⟩] 25))).heap[w.heap.size]? = some (.cells #[.int .i64 0, .int .u32 0, .int .u32 0, .int .u64 0, .string ⟨#[]⟩, .string ⟨#[]⟩, .string ⟨#[]⟩, .string ⟨#[]⟩, .string ⟨#[]⟩, .string ⟨#[]⟩, .string ⟨#[]⟩, .string ⟨#[]⟩, .string ⟨#[]⟩] 25 (0, 0)) := (Below.heap_alloc _ _ _ (by simp)).trans (heap_alloc_new w _)
  have HX := Lib.hid hx
  have HSZ : Hid ((((w.alloc (.cells #[.int .i64 0, .int .u32 0, .int .u32 0, .int .u64 0, .string ⟨#[]⟩, .string ⟨#[]⟩, .string ⟨#[]⟩, .string ⟨#[]⟩, .string ⟨#[]⟩, .string ⟨#[]⟩, .string ⟨#[]⟩, .string ⟨#[]⟩, .string ⟨#[]⟩] 25)).alloc (.cells #[.int .i64 (x.toNat : Nat), .int .u32 0, .int .u32 0, .int .u64 0, .string ⟨#[]⟩, .string ⟨#[]⟩, .string ⟨#[]⟩, .string ⟨#[]⟩, .string ⟨#[]⟩, .string ⟨#[]⟩, .string ⟨#[]⟩, .string ⟨#[]⟩, .string ⟨#[]⟩] 25))).heap.size = w.heap.size + 2) := Lib.hid (by simp)
  have HB : Hid (Below w.heap.size w (((w.alloc (.cells #[.int .i64 0, .int .u32 0, .int .u32 0, .int .u64 0, .string ⟨#[]⟩, .string ⟨#[]⟩, .string ⟨#[]⟩, .string ⟨#[]⟩, .string ⟨#[]⟩, .string ⟨#[]⟩, .string ⟨#[]⟩, .string ⟨#[]⟩, .string ⟨#[]⟩] 25)).alloc (.cells #[.int .i64 (x.toNat : Nat), .int .u32 0, .int .u32 0, .int .u64 0, .string ⟨#[]⟩, .string ⟨#[]⟩, .string ⟨#[]⟩, .string ⟨#[]⟩, .string ⟨#[]⟩, .string ⟨#[]⟩, .string ⟨#[]⟩, .string ⟨#[]⟩, .string ⟨#[]⟩] 25)))) := Lib.hid (Below.next (below_one _) (below_one _))
  have cB : (((w.alloc (.cells #[.int .i64 0, .int .u32 0, .int .u32 0, .int .u64 0, .string ⟨#[]⟩, .string ⟨#[]⟩, .string ⟨#[]⟩, .string ⟨#[]⟩, .string ⟨#[]⟩, .string ⟨#[]⟩, .string ⟨#[]⟩, .string ⟨#[]⟩, .string ⟨#[]⟩] 25)).alloc (.cells #[.int .i64 (x.toNat : Nat), .int .u32 0, .int .u32 0, .int .u64 0, .string ⟨#[]⟩, .string ⟨#[]⟩, .string ⟨#[]⟩, .string ⟨#[]⟩, .string ⟨#[]⟩, .string ⟨#[]⟩, .string ⟨#[]⟩, .string ⟨#[]⟩, .string ⟨#[]⟩] 25))).cell? ⟨w.heap.size + 1, 0, none⟩ = some (.int .i64 x.toNat) := cell_of (new2 w _ _) 0 rfl
  have HROW := row_any (w.heap.size + 1) x.toNat (((w.alloc (.cells #[.int .i64 0, .int .u32 0, .int .u32 0, .int .u64 0, .string ⟨#[]⟩, .string ⟨#[]⟩, .string ⟨#[]⟩, .string ⟨#[]⟩, .string ⟨#[]⟩, .string ⟨#[]⟩, .string ⟨#[]⟩, .string ⟨#[]⟩, .string ⟨#[]⟩] 25)).alloc (.cells #[.int .i64 (x.toNat : Nat), .int .u32 0, .int .u32 0, .int .u64 0, .string ⟨#[]⟩, .string ⟨#[]⟩, .string ⟨#[]⟩, .string ⟨#[]⟩, .string ⟨#[]⟩, .string ⟨#[]⟩, .string ⟨#[]⟩, .string ⟨#[]⟩, .string ⟨#[]⟩] 25))) cB (by rw [hk]; exact hfs)
  rw [hk] at HROW
  unfold RowRet at HROW
  have HOK : Hid (∀ f ∈ fs, FdOk f) := Lib.hid (by rw [← hk]; exact fsOf_ok _)
  have HN : Hid (fs.length ≤ 7) := Lib.hid (by rw [← hk]; exact fsOf_len _)
  have HROW := Lib.hid HROW
  have HM : Hid (MsgAt (((w.alloc (.cells #[.int .i64 0, .int .u32 0, .int .u32 0, .int .u64 0, .string ⟨#[]⟩, .string ⟨#[]⟩, .string ⟨#[]⟩, .string ⟨#[]⟩, .string ⟨#[]⟩, .string ⟨#[]⟩, .string ⟨#[]⟩, .string ⟨#[]⟩, .string ⟨#[]⟩] 25)).alloc (.cells #[.int .i64 (x.toNat : Nat), .int .u32 0, .int .u32 0, .int .u64 0, .string ⟨#[]⟩, .string ⟨#[]⟩, .string ⟨#[]⟩, .string ⟨#[]⟩, .string ⟨#[]⟩, .string ⟨#[]⟩, .string ⟨#[]⟩, .string ⟨#[]⟩, .string ⟨#[]⟩] 25))) (w.heap.size + 1) x.toNat N0 X0) := Lib.hid (new2 w _ _)
  have HV := Lib.hid (hv.below HB.out)
  rw [hvv] at HV
  have HBB : Hid (b ≠ w.heap.size + 1) := Lib.hid (by simp at hbl; omega)
  have HL := Lib.hid hl
  have HRR := Lib.hid hR
  have hfl : 0 < fs.length := List.length_pos_iff.2 hfs
  have hfl0 : ¬ (fs.length : Int) = 0 := by omega
  have hcpi : (cp : Int) ≤ 9223372036854775807 := by unfold maxLen at hcm; omega
  have hxl := UInt8.toNat_lt x
  have hw64 : wrap64 (x.toNat : Int) = x.toNat := wrap64_id _ (by omega) (by omega)
  clear hk hc0 hv hl hR hx hfs hvv hbl
  by_cases he : rc = 0
  · subst he
    by_cases hlr : 0 < rl.length
    · have hlri : (0 : Int) < rl.length := by omega
      have HZ2 : Hid (readR x (0, rl, rN, rX) = (5, 0, N0, X0)) := Lib.hid (by unfold readR; rw [if_neg (by simp)]; exact if_pos hlr)
      go_enter Try.func12, Try.ntmps12
      go_wp2_with (first | (go_at_call 19; ((with_reducible refine (HROW.out).mono ?_); rintro e w2 ⟨g, vs, rfl, hg, hfa, hfi, hb2⟩; (try dsimp only); have HM2 := Lib.hid (msg_below HM.out hb2); have HV2 := Lib.hid (HV.out.below hb2); have HX2 := Lib.hid ((hb2.block w.heap.size (by simp; omega)).trans HX.out); have HB2 := Lib.hid (Below.next HB.out hb2); have HG2 : Hid (g ≠ w.heap.size + 1) := Lib.hid (by have := HSZ.out; omega); have HFA := Lib.hid hfa; have HFI := Lib.hid hfi; clear hg hfa hfi hb2)) | (go_at_call 20; ((with_reducible refine (walkR_any g fs vs _ r b (w.heap.size + 1) x.toNat N0 X0 w2 HFA.out HG2.out HFI.out HOK.out HM2.out HV2.out HBB.out HL.out HN.out).mono ?_); unfold RdRet; rw [HRR.out]; rintro e w3 ⟨v3, rfl, hp3, hm3, hg3⟩; (try dsimp only); have hx3 := (hg3.block w.heap.size (Nat.lt_of_lt_of_le (Nat.lt_succ_self _) (Nat.le_trans (Nat.le_succ _) (by have := (Array.getElem?_eq_some_iff.1 HM2.out).1; omega))) (fun h => by have := Option.some.inj h; omega)).trans HX2.out; have HX3 := Lib.hid hx3; have HB3 : Hid (Below w.heap.size w w3) := Lib.hid (HB2.out.grown hg3 HB2.out.size (fun k hk => by have := Option.some.inj hk; omega)); obtain ⟨c0, c1, c2, c3, c4, c5, c6, c7, c8, c9, c10, c11, c12⟩ := cells13 hx3; have fz := fun i => free_of hx3 i; have HM3 := Lib.hid hm3; have HP3 := Lib.hid hp3; clear hx3 hm3 hp3 hg3; obtain ⟨o3, q3, rfl, hq31, hq32, _⟩ := HP3.out rfl; have hq33 : (q3 : Int) ≤ 9223372036854775807 := (by unfold maxLen at hq32; omega); obtain ⟨d0, d1, d2, d3, d4, d5, d6, d7, d8, d9, d10, d11, d12⟩ := cells13 HM3.out)) | fail)
      rw [HZ.out, HZ2.out]
      exact bodyPost_ret (res_cell13t (t := 2) (u := 3) rfl _ _ _ _ _ _ _ _ _ _ _ _ _ _ _ _ (set13_block HX3.out _ _ _ _ _ _ _ _ _ _ _ _ _) _ rfl rfl) rfl ⟨rfl, set13_below HB3.out (Nat.le_refl _) _ _ _ _ _ _ _ _ _ _ _ _ _⟩
    · have hlri : (rl.length : Int) = 0 := by omega
      have HZ2 : Hid (readR x (0, rl, rN, rX) = (0, ((x.toNat : Nat) : Int), rN, rX)) := Lib.hid (by unfold readR; rw [if_neg (by simp)]; exact if_neg hlr)
      go_enter Try.func12, Try.ntmps12
      go_wp2_with (first | (go_at_call 19; ((with_reducible refine (HROW.out).mono ?_); rintro e w2 ⟨g, vs, rfl, hg, hfa, hfi, hb2⟩; (try dsimp only); have HM2 := Lib.hid (msg_below HM.out hb2); have HV2 := Lib.hid (HV.out.below hb2); have HX2 := Lib.hid ((hb2.block w.heap.size (by simp; omega)).trans HX.out); have HB2 := Lib.hid (Below.next HB.out hb2); have HG2 : Hid (g ≠ w.heap.size + 1) := Lib.hid (by have := HSZ.out; omega); have HFA := Lib.hid hfa; have HFI := Lib.hid hfi; clear hg hfa hfi hb2)) | (go_at_call 20; ((with_reducible refine (walkR_any g fs vs _ r b (w.heap.size + 1) x.toNat N0 X0 w2 HFA.out HG2.out HFI.out HOK.out HM2.out HV2.out HBB.out HL.out HN.out).mono ?_); unfold RdRet; rw [HRR.out]; rintro e w3 ⟨v3, rfl, hp3, hm3, hg3⟩; (try dsimp only); have hx3 := (hg3.block w.heap.size (Nat.lt_of_lt_of_le (Nat.lt_succ_self _) (Nat.le_trans (Nat.le_succ _) (by have := (Array.getElem?_eq_some_iff.1 HM2.out).1; omega))) (fun h => by have := Option.some.inj h; omega)).trans HX2.out; have HX3 := Lib.hid hx3; have HB3 : Hid (Below w.heap.size w w3) := Lib.hid (HB2.out.grown hg3 HB2.out.size (fun k hk => by have := Option.some.inj hk; omega)); obtain ⟨c0, c1, c2, c3, c4, c5, c6, c7, c8, c9, c10, c11, c12⟩ := cells13 hx3; have fz := fun i => free_of hx3 i; have HM3 := Lib.hid hm3; have HP3 := Lib.hid hp3; clear hx3 hm3 hp3 hg3; obtain ⟨o3, q3, rfl, hq31, hq32, _⟩ := HP3.out rfl; have hq33 : (q3 : Int) ≤ 9223372036854775807 := (by unfold maxLen at hq32; omega); obtain ⟨d0, d1, d2, d3, d4, d5, d6, d7, d8, d9, d10, d11, d12⟩ := cells13 HM3.out)) | fail)
      rw [HZ.out, HZ2.out]
      exact bodyPost_ret (res_cell13t (t := 2) (u := 3) rfl _ _ _ _ _ _ _ _ _ _ _ _ _ _ _ _ (set13_block HX3.out _ _ _ _ _ _ _ _ _ _ _ _ _) _ rfl rfl) rfl ⟨rfl, set13_below HB3.out (Nat.le_refl _) _ _ _ _ _ _ _ _ _ _ _ _ _⟩
  · have hei : ((rc : Int) != 0) = true := bnet (by omega)
    have HZ2 : Hid (readR x (rc, rl, rN, rX) = (rc, 0, N0, X0)) := Lib.hid (if_pos he)
    go_enter Try.func12, Try.ntmps12
    go_wp2_with (first | (go_at_call 19; ((with_reducible refine (HROW.out).mono ?_); rintro e w2 ⟨g, vs, rfl, hg, hfa, hfi, hb2⟩; (try dsimp only); have HM2 := Lib.hid (msg_below HM.out hb2); have HV2 := Lib.hid (HV.out.below hb2); have HX2 := Lib.hid ((hb2.block w.heap.size (by simp; omega)).trans HX.out); have HB2 := Lib.hid (Below.next HB.out hb2); have HG2 : Hid (g ≠ w.heap.size + 1) := Lib.hid (by have := HSZ.out; omega); have HFA := Lib.hid hfa; have HFI := Lib.hid hfi; clear hg hfa hfi hb2)) | (go_at_call 20; ((with_reducible refine (walkR_any g fs vs _ r b (w.heap.size + 1) x.toNat N0 X0 w2 HFA.out HG2.out HFI.out HOK.out HM2.out HV2.out HBB.out HL.out HN.out).mono ?_); unfold RdRet; rw [HRR.out]; rintro e w3 ⟨v3, rfl, hp3, hm3, hg3⟩; (try dsimp only); have hx3 := (hg3.block w.heap.size (Nat.lt_of_lt_of_le (Nat.lt_succ_self _) (Nat.le_trans (Nat.le_succ _) (by have := (Array.getElem?_eq_some_iff.1 HM2.out).1; omega))) (fun h => by have := Option.some.inj h; omega)).trans HX2.out; have HX3 := Lib.hid hx3; have HB3 : Hid (Below w.heap.size w w3) := Lib.hid (HB2.out.grown hg3 HB2.out.size (fun k hk => by have := Option.some.inj hk; omega)); obtain ⟨c0, c1, c2, c3, c4, c5, c6, c7, c8, c9, c10, c11, c12⟩ := cells13 hx3; have fz := fun i => free_of hx3 i; have HM3 := Lib.hid hm3; have HP3 := Lib.hid hp3; clear hx3 hm3 hp3 hg3)) | fail)
    rw [HZ.out, HZ2.out]
    exact bodyPost_ret (res_cell13t (t := 2) (u := 3) rfl _ _ _ _ _ _ _ _ _ _ _ _ _ _ _ _ (set13_block HX3.out _ _ _ _ _ _ _ _ _ _ _ _ _) _ rfl rfl) rfl ⟨rfl, set13_below HB3.out (Nat.le_refl _) _ _ _ _ _ _ _ _ _ _ _ _ _⟩
set_option maxHeartbeats 1000000 in
theorem read_one (x : UInt8) (r : List UInt8) (b off cp : Nat) (v : Value) (w : World) (fs : List Fd) (hk : fsOf x.toNat = fs) (hfs : fs ≠ []) (hc0 : w.cell? ⟨b, off, none⟩ = some (.int .u8 x.toNat)) (hv : PartB w b v r) (hl : r.length ≤ 10000000) (rc : Nat) (rl : List UInt8) (rN : Nat → Nat) (rX : Nat → ByteArray) (hR : rAll fs r N0 X0 = (rc, rl, rN, rX)) (hvv : v = .slice (some ⟨b, off, none⟩) 0 0) (hr0 : r = []) (hrc : ¬ rc = 0) : Calls Try.prog 12 #[.slice (some ⟨b, off, none⟩) 1 1] w (ReadRet6 w (readS (x :: r))) := by
  have HZ : Hid (readS (x :: r) = readR x (rc, rl, rN, rX)) := Lib.hid (by rw [← hR, ← hk]; exact if_neg (by rw [hk]; exact hfs))
  have hbl := World.block_lt_of_cell? w _ hc0
  have q0 : (w.alloc (.cells #[.int .i64 0, .int .u32 0, .int .u32 0, .int .u64 0, .string ⟨#[]⟩, .string ⟨#[]⟩, .string ⟨#[]⟩, .string ⟨#[]⟩, .string ⟨#[]⟩, .string ⟨#[]⟩, .string ⟨#[]⟩, .string ⟨#[]⟩, .string ⟨#[]⟩] 25)).cell? ⟨b, off, none⟩ = some (.int .u8 x.toNat) := old1 _ hc0
  have hx : (((w.alloc (.cells #[.int .i64 0, .int .u32 0, .int .u32 0, .int .u64 0, .string ⟨#[]⟩, .string ⟨#[]⟩, .string ⟨#[]⟩, .string ⟨#[]⟩, .string ⟨#[]⟩, .string ⟨#[]⟩, .string ⟨#[]⟩, .string ⟨#[]⟩, .string ⟨#[]⟩] 25)).alloc (.cells #[.int .i64 (x.toNat : Nat), .int .u32 0, .int .u32 0, .int .u64 0, .string ⟨#[]⟩, .string ⟨#[]⟩, .string ⟨#[]⟩, .string ⟨#[]⟩, .string ⟨#[]⟩, .string ⟨#[]⟩, .string ⟨#[]⟩, .string ⟨#[]⟩, .string ⟨#[]⟩] 25))).heap[w.heap.size]? = some (.cells #[.int .i64 0, .int .u32 0, .int .u32 0, .int .u64 0, .string ⟨#[]⟩, .string ⟨#[]⟩, .string ⟨#[]⟩, .string ⟨#[]⟩, .string ⟨#[]⟩, .string ⟨#[]⟩, .string ⟨#[]⟩, .string ⟨#[]⟩, .string ⟨#[]⟩] 25 (0, 0)) := (Below.heap_alloc _ _ _ (by simp)).trans (heap_alloc_new w _)
  have HX := Lib.hid hx
  have HSZ : Hid ((((w.alloc (.cells #[.int .i64 0, .int .u32 0, .int .u32 0, .int .u64 0, .string ⟨#[]⟩, .string ⟨#[]⟩, .string ⟨#[]⟩, .string ⟨#[]⟩, .string ⟨#[]⟩, .string ⟨#[]⟩, .string ⟨#[]⟩, .string ⟨#[]⟩, .string ⟨#[]⟩] 25)).alloc (.cells #[.int .i64 (x.toNat : Nat), .int .u32 0, .int .u32 0, .int .u64 0, .string ⟨#[]⟩, .string ⟨#[]⟩, .string ⟨#[]⟩, .string ⟨#[]⟩, .string ⟨#[]⟩, .string ⟨#[]⟩, .string ⟨#[]⟩, .string ⟨#[]⟩, .string ⟨#[]⟩] 25))).heap.size = w.heap.size + 2) := Lib.hid (by simp)
  have HB : Hid (Below w.heap.size w (((w.alloc (.cells #[.int .i64 0, .int .u32 0, .int .u32 0, .int .u64 0, .string ⟨#[]⟩, .string ⟨#[]⟩, .string ⟨#[]⟩, .string ⟨#[]⟩, .string ⟨#[]⟩, .string ⟨#[]⟩, .string ⟨#[]⟩, .string ⟨#[]⟩, .string ⟨#[]⟩] 25)).alloc (.cells #[.int .i64 (x.toNat : Nat), .int .u32 0, .int .u32 0, .int .u64 0, .string ⟨#[]⟩, .string ⟨#[]⟩, .string ⟨#[]⟩, .string ⟨#[]⟩, .string ⟨#[]⟩, .string ⟨#[]⟩, .string ⟨#[]⟩, .string ⟨#[]⟩, .string ⟨#[]⟩] 25)))) := Lib.hid (Below.next (below_one _) (below_one _))
  have cB : (((w.alloc (.cells #[.int .i64 0, .int .u32 0, .int .u32 0, .int .u64 0, .string ⟨#[]⟩, .string ⟨#[]⟩, .string ⟨#[]⟩, .string ⟨#[]⟩, .string ⟨#[]⟩, .string ⟨#[]⟩, .string ⟨#[]⟩, .string ⟨#[]⟩, .string ⟨#[]⟩] 25)).alloc (.cells #[.int .i64 (x.toNat : Nat), .int .u32 0, .int .u32 0, .int .u64 0, .string ⟨#[]⟩, .string ⟨#[]⟩, .string ⟨#[]⟩, .string ⟨#[]⟩, .string ⟨#[]⟩, .string ⟨#[]⟩, .string ⟨#[]⟩, .string ⟨#[]⟩, .string ⟨#[]⟩] 25))).cell? ⟨w.heap.size + 1, 0, none⟩ = some (.int .i64 x.toNat) := cell_of (new2 w _ _) 0 rfl
  have HROW := row_any (w.heap.size + 1) x.toNat (((w.alloc (.cells #[.int .i64 0, .int .u32 0, .int .u32 0, .int .u64 0, .string ⟨#[]⟩, .string ⟨#[]⟩, .string ⟨#[]⟩, .string ⟨#[]⟩, .string ⟨#[]⟩, .string ⟨#[]⟩, .string ⟨#[]⟩, .string ⟨#[]⟩, .string ⟨#[]⟩] 25)).alloc (.cells #[.int .i64 (x.toNat : Nat), .int .u32 0, .int .u32 0, .int .u64 0, .string ⟨#[]⟩, .string ⟨#[]⟩, .string ⟨#[]⟩, .string ⟨#[]⟩, .string ⟨#[]⟩, .string ⟨#[]⟩, .string ⟨#[]⟩, .string ⟨#[]⟩, .string ⟨#[]⟩] 25))) cB (by rw [hk]; exact hfs)
  rw [hk] at HROW
  unfold RowRet at HROW
  have HOK : Hid (∀ f ∈ fs, FdOk f) := Lib.hid (by rw [← hk]; exact fsOf_ok _)
  have HN : Hid (fs.length ≤ 7) := Lib.hid (by rw [← hk]; exact fsOf_len _)
  have HROW := Lib.hid HROW
  have HM : Hid (MsgAt (((w.alloc (.cells #[.int .i64 0, .int .u32 0, .int .u32 0, .int .u64 0, .string ⟨#[]⟩, .string ⟨#[]⟩, .string ⟨#[]⟩, .string ⟨#[]⟩, .string ⟨#[]⟩, .string ⟨#[]⟩, .string ⟨#[]⟩, .string ⟨#[]⟩, .string ⟨#[]⟩] 25)).alloc (.cells #[.int .i64 (x.toNat : Nat), .int .u32 0, .int .u32 0, .int .u64 0, .string ⟨#[]⟩, .string ⟨#[]⟩, .string ⟨#[]⟩, .string ⟨#[]⟩, .string ⟨#[]⟩, .string ⟨#[]⟩, .string ⟨#[]⟩, .string ⟨#[]⟩, .string ⟨#[]⟩] 25))) (w.heap.size + 1) x.toNat N0 X0) := Lib.hid (new2 w _ _)
  have HV := Lib.hid (hv.below HB.out)
  rw [hvv] at HV
  have HBB : Hid (b ≠ w.heap.size + 1) := Lib.hid (by simp at hbl; omega)
  have HL := Lib.hid hl
  have HRR := Lib.hid hR
  have hfl : 0 < fs.length := List.length_pos_iff.2 hfs
  have hfl0 : ¬ (fs.length : Int) = 0 := by omega
  have hxl := UInt8.toNat_lt x
  have hw64 : wrap64 (x.toNat : Int) = x.toNat := wrap64_id _ (by omega) (by omega)
  clear hr0 hk hc0 hv hl hR hx hfs hvv hbl
  have hei : ((rc : Int) != 0) = true := bnet (by omega)
  have HZ2 : Hid (readR x (rc, rl, rN, rX) = (rc, 0, N0, X0)) := Lib.hid (if_pos hrc)
  go_enter Try.func12, Try.ntmps12
  go_wp2_with (first | (go_at_call 19; ((with_reducible refine (HROW.out).mono ?_); rintro e w2 ⟨g, vs, rfl, hg, hfa, hfi, hb2⟩; (try dsimp only); have HM2 := Lib.hid (msg_below HM.out hb2); have HV2 := Lib.hid (HV.out.below hb2); have HX2 := Lib.hid ((hb2.block w.heap.size (by simp; omega)).trans HX.out); have HB2 := Lib.hid (Below.next HB.out hb2); have HG2 : Hid (g ≠ w.heap.size + 1) := Lib.hid (by have := HSZ.out; omega); have HFA := Lib.hid hfa; have HFI := Lib.hid hfi; clear hg hfa hfi hb2)) | (go_at_call 20; ((with_reducible refine (walkR_any g fs vs _ r b (w.heap.size + 1) x.toNat N0 X0 w2 HFA.out HG2.out HFI.out HOK.out HM2.out HV2.out HBB.out HL.out HN.out).mono ?_); unfold RdRet; rw [HRR.out]; rintro e w3 ⟨v3, rfl, hp3, hm3, hg3⟩; (try dsimp only); have hx3 := (hg3.block w.heap.size (Nat.lt_of_lt_of_le (Nat.lt_succ_self _) (Nat.le_trans (Nat.le_succ _) (by have := (Array.getElem?_eq_some_iff.1 HM2.out).1; omega))) (fun h => by have := Option.some.inj h; omega)).trans HX2.out; have HX3 := Lib.hid hx3; have HB3 : Hid (Below w.heap.size w w3) := Lib.hid (HB2.out.grown hg3 HB2.out.size (fun k hk => by have := Option.some.inj hk; omega)); obtain ⟨c0, c1, c2, c3, c4, c5, c6, c7, c8, c9, c10, c11, c12⟩ := cells13 hx3; have fz := fun i => free_of hx3 i; have HM3 := Lib.hid hm3; have HP3 := Lib.hid hp3; clear hx3 hm3 hp3 hg3)) | fail)
  rw [HZ.out, HZ2.out]
  exact bodyPost_ret (res_cell13t (t := 2) (u := 3) rfl _ _ _ _ _ _ _ _ _ _ _ _ _ _ _ _ (set13_block HX3.out _ _ _ _ _ _ _ _ _ _ _ _ _) _ rfl rfl) rfl ⟨rfl, set13_below HB3.out (Nat.le_refl _) _ _ _ _ _ _ _ _ _ _ _ _ _⟩
theorem rAll_nil {k : Nat} (hk : fsOf k ≠ []) : rAll (fsOf k) [] N0 X0 = (4, [], N0, X0) := by
  unfold fsOf at hk ⊢
  split; · rfl
  split; · rfl
  split; · rfl
  split; · rfl
  · rename_i h1 h2 h3 h4
    rw [if_neg h1, if_neg h2, if_neg h3, if_neg h4] at hk
    exact absurd rfl hk
theorem wread_any (v : Value) (l : List UInt8) (w : World) (hv : (l = [] ∧ ∃ a cp, v = .slice a 0 cp) ∨ ∃ b, PartB w b v l) (hl : l.length ≤ 10000000) : Calls Try.prog 12 #[v] w (ReadRet6 w (readS l)) := by
  cases l with
  | nil =>
    rcases hv with ⟨_, a, cp, rfl⟩ | ⟨b, off, cp, rfl, _⟩
    · exact read_nil a cp w
    · exact read_nil _ cp w
  | cons x r =>
    rcases hv with ⟨h, _⟩ | ⟨b, off, cp, rfl, hc1, hc2, hcell⟩
    · cases h
    · have hc0 : w.cell? ⟨b, off, none⟩ = some (.int .u8 x.toNat) := hcell 0 (by simp)
      rw [List.length_cons] at hl hc1 ⊢
      by_cases hk : fsOf x.toNat = []
      · exact read_kind x r b off cp w hk hc0
      · by_cases hcp : cp = 1
        · subst hcp
          obtain rfl : r = [] := List.length_eq_zero_iff.1 (by omega)
          exact read_one x [] b off 1 _ w _ rfl hk hc0 (part_end (l := [x]) (i := 1) rfl (by decide)) (by simp) 4 [] N0 X0 (rAll_nil hk) rfl rfl (by decide)
        · obtain ⟨rc, rl, rN, rX⟩ : Nat × List UInt8 × (Nat → Nat) × (Nat → ByteArray) := rAll (fsOf x.toNat) r N0 X0
          exact read_x x r b off cp _ w _ rfl hk hc0 (part_drop (l := x :: r) hc1 hc2 hcell 1 (by simp) (by simp) rfl) (by omega) _ _ _ _ rfl rfl hc1 hc2 hcp
end Go.Proofs.Ytjbmcjppaadkgaa

namespace Go.Proofs.Ytjbmcjppaadkgaa
set_option linter.unusedVariables false
set_option linter.unusedSimpArgs false
set_option maxRecDepth 100000
open Go.RowKit
abbrev same13 (k : Int) (N : Nat → Nat) (X : Nat → ByteArray) (k' : Int) (N' : Nat → Nat) (X' : Nat → ByteArray) : Prop :=
  k = k' ∧ N 1 = N' 1 ∧ N 2 = N' 2 ∧ N 3 = N' 3 ∧ X 4 = X' 4 ∧ X 5 = X' 5 ∧ X 6 = X' 6 ∧ X 7 = X' 7 ∧ X 8 = X' 8 ∧ X 9 = X' 9 ∧ X 10 = X' 10 ∧ X 11 = X' 11 ∧ X 12 = X' 12
def printR (k : Int) (N : Nat → Nat) (X : Nat → ByteArray) (P : List UInt8) (R : Nat × Int × (Nat → Nat) × (Nat → ByteArray)) : Nat × List UInt8 :=
  if R.1 ≠ 0 ∨ ¬ same13 R.2.1 R.2.2.1 R.2.2.2 k N X then (3, []) else (0, P)
def printP (k : Int) (N : Nat → Nat) (X : Nat → ByteArray) (P : Nat × List UInt8) : Nat × List UInt8 :=
  if P.1 ≠ 0 then (P.1, []) else printR k N X P.2 (readS P.2)
def kindB (k : Int) : Nat := if 1 ≤ k ∧ k ≤ 4 then k.toNat else 0
def printS (k : Int) (N : Nat → Nat) (X : Nat → ByteArray) : Nat × List UInt8 :=
  if kindB k = 0 then (3, []) else printP k N X (pAll N X (fsOf (kindB k)) [UInt8.ofNat (kindB k)])
def PrintRet6 (w : World) (r : Nat × List UInt8) (e : Ending) (w' : World) : Prop :=
  ∃ v, e = .returned (.tuple #[v, .int .i64 r.1]) ∧ (r.1 ≠ 0 → v = .slice none 0 0) ∧ (r.1 = 0 → ∃ base, RowB w' base v r.2) ∧ Below w.heap.size w w'
theorem row_part {w : World} {base : Nat} {v : Value} {L : List UInt8} (h : RowB w base v L) : (L = [] ∧ ∃ a cp, v = .slice a 0 cp) ∨ ∃ b, PartB w b v L := by
  by_cases h0 : 0 < L.length
  · obtain ⟨g, cap, rfl, hg, h1, h2⟩ := own_at h h0
    refine .inr ⟨g, 0, cap, rfl, h1, h2, fun i hi => ?_⟩
    rw [Nat.zero_add, h.cellAt i (by omega)]
    unfold cellsOf
    simp [List.getD, List.getElem?_eq_getElem hi]
  · have hL : L = [] := List.length_eq_zero_iff.1 (by omega)
    subst hL
    refine .inl ⟨rfl, ?_⟩
    rcases h.2 with ⟨rfl, _⟩ | ⟨g, cap, cur, rfl, _⟩
    · exact ⟨_, _, rfl⟩
    · exact ⟨_, _, rfl⟩
theorem row_below {w w' : World} {base : Nat} {v : Value} {L : List UInt8} (h : RowB w base v L) (hb : Below w.heap.size w w') : RowB w' base v L := by
  unfold RowB at h ⊢
  refine ⟨h.1, ?_⟩
  rcases h.2 with h | ⟨g, cap, cur, h1, h2, h3, h4⟩
  · exact .inl h
  · exact .inr ⟨g, cap, cur, h1, h2, (hb.block g (Array.getElem?_eq_some_iff.1 h3).1).trans h3, h4⟩
theorem row_one (w : World) (x : UInt8) (n : Int) (hn : n = x.toNat) : RowB (w.alloc (.cells #[.int .u8 n] 5)) w.heap.size (.slice (some ⟨w.heap.size, 0, none⟩) 1 1) [x] := by
  subst hn
  exact ⟨rfl, .inr ⟨w.heap.size, 1, _, rfl, Nat.le_refl _, heap_alloc_new w _, Nat.le_refl _, by decide, rfl, rfl⟩⟩
theorem pAll_len (N : Nat → Nat) (X : Nat → ByteArray) : ∀ (fs : List Fd) (L : List UInt8), (pAll N X fs L).2.length ≤ L.length + fs.length * 65537
  | [], L => by simp [pAll]
  | f :: fs, L => by
    have h1 := pF_len N X f L
    have h2 := pAll_len N X fs (pF N X f L).2
    unfold pAll
    split
    · simp only [List.length_cons]; omega
    · simp only [List.length_cons]; omega
set_option maxHeartbeats 1000000 in
theorem msg_neq (w : World) (rk : Int) (rN : Nat → Nat) (rX : Nat → ByteArray) (k : Int) (N : Nat → Nat) (X : Nat → ByteArray) (bq : Bool) (h : bq = !decide (same13 rk rN rX k N X)) :
    (binOp .neq 25 (.agg #[.int .i64 rk, .int .u32 (rN 1 : Nat), .int .u32 (rN 2 : Nat), .int .u64 (rN 3 : Nat), .string (rX 4), .string (rX 5), .string (rX 6), .string (rX 7), .string (rX 8), .string (rX 9), .string (rX 10), .string (rX 11), .string (rX 12)]) (.agg #[.int .i64 k, .int .u32 (N 1 : Nat), .int .u32 (N 2 : Nat), .int .u64 (N 3 : Nat), .string (X 4), .string (X 5), .string (X 6), .string (X 7), .string (X 8), .string (X 9), .string (X 10), .string (X 11), .string (X 12)])).run Try.prog w = .ok (.bool bq) w := by
  by_cases hall : same13 rk rN rX k N X
  · rw [h, decide_eq_true hall]
    obtain ⟨h0, h1, h2, h3, h4, h5, h6, h7, h8, h9, h10, h11, h12⟩ := hall
    rw [h0, h1, h2, h3, h4, h5, h6, h7, h8, h9, h10, h11, h12]
    go_simp
  · rw [h, decide_eq_false hall]
    clear h
    go_simp
    intro q0 q1 q2 q3 q4 q5 q6 q7 q8 q9 q10 q11 q12
    exact absurd ⟨q0, by omega, by omega, by omega, ba_inj q4, ba_inj q5, ba_inj q6, ba_inj q7, ba_inj q8, ba_inj q9, ba_inj q10, ba_inj q11, ba_inj q12⟩ hall
theorem print_kind (k : Int) (N : Nat → Nat) (X : Nat → ByteArray) (w : World) (hk : kindB k = 0) : Calls Try.prog 7 #[.agg #[.int .i64 k, .int .u32 (N 1 : Nat), .int .u32 (N 2 : Nat), .int .u64 (N 3 : Nat), .string (X 4), .string (X 5), .string (X 6), .string (X 7), .string (X 8), .string (X 9), .string (X 10), .string (X 11), .string (X 12)]] w (PrintRet6 w (printS k N X)) := by
  have HZ : Hid (printS k N X = (3, [])) := Lib.hid (if_pos hk)
  have hkk : k ≠ 1 ∧ k ≠ 2 ∧ k ≠ 3 ∧ k ≠ 4 := by unfold kindB at hk; split at hk <;> omega
  have cB : (w.alloc (.cells #[.int .i64 k, .int .u32 (N 1 : Nat), .int .u32 (N 2 : Nat), .int .u64 (N 3 : Nat), .string (X 4), .string (X 5), .string (X 6), .string (X 7), .string (X 8), .string (X 9), .string (X 10), .string (X 11), .string (X 12)] 25)).cell? ⟨w.heap.size, 0, none⟩ = some (.int .i64 k) := cell_of (heap_alloc_new w _) 0 rfl
  have HROW := Lib.hid (row_no w.heap.size k (w.alloc (.cells #[.int .i64 k, .int .u32 (N 1 : Nat), .int .u32 (N 2 : Nat), .int .u64 (N 3 : Nat), .string (X 4), .string (X 5), .string (X 6), .string (X 7), .string (X 8), .string (X 9), .string (X 10), .string (X 11), .string (X 12)] 25)) cB hkk.1 hkk.2.1 hkk.2.2.1 hkk.2.2.2)
  clear hk hkk
  go_enter Try.func7, Try.ntmps7
  go_wp2_with (first | (go_at_call 19; ((with_reducible refine (HROW.out).mono ?_); rintro e w2 ⟨rfl, rfl⟩; (try dsimp only))) | fail)
  go_ret2
  rw [HZ.out]
  exact ⟨_, rfl, fun _ => rfl, fun h => absurd h (by simp), below_one _⟩
end Go.Proofs.Ytjbmcjppaadkgaa
