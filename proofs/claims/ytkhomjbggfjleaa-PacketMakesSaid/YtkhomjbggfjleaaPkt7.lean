/- Packets: Make by contract. -/
import Derived.Test.YtkhomjbggfjleaaPkt6
import Derived.Laws.CopyOwn
import Derived.Deep.Cut
namespace Go.Proofs.Ytkhomjbggfjleaa
set_option linter.unusedVariables false
set_option linter.unusedSimpArgs false
set_option maxRecDepth 100000
open Go.RowKit
theorem size_4 (w : World) : Calls Try.prog 17 #[.int .i64 4] w fun e w' => e = .returned (.tuple #[.agg #[.int .i64 4, .int .u8 69, .int .i64 20, .int .i64 2, .int .i64 0, .int .i64 12, .int .i64 16, .int .i64 4], .bool true]) ∧ Below w.heap.size w w' := by
  have h4 := four_any
  go_enter Try.func17, Try.ntmps17
  go_wp2_with (first | (go_at_call 22; ((with_reducible refine (h4 _).mono ?_); rintro e w2 ⟨rfl, hb2⟩; have hx := (hb2.block w.heap.size (by simp)).trans (heap_alloc_new w (.cells #[.int .i64 0, .int .u8 0, .int .i64 0, .int .i64 0, .int .i64 0, .int .i64 0, .int .i64 0, .int .i64 0] 40)); have HX := Lib.hid hx; have hz := fun i => free_of hx i; have HB := Lib.hid (Below.next (below_one (w := w) (.cells #[.int .i64 0, .int .u8 0, .int .i64 0, .int .i64 0, .int .i64 0, .int .i64 0, .int .i64 0, .int .i64 0] 40)) hb2); obtain ⟨c0, c1, c2, c3, c4, c5, c6, c7⟩ := cells8 hx; clear hx hb2)) | fail)
  exact bodyPost_ret (res_cell8t rfl _ _ _ _ _ _ _ _ _ _ _ (set8_block HX.out _ _ _ _ _ _ _ _) _ rfl rfl) rfl ⟨rfl, set8_below HB.out (Nat.le_refl _) _ _ _ _ _ _ _ _⟩
theorem size_6 (w : World) : Calls Try.prog 17 #[.int .i64 16] w fun e w' => e = .returned (.tuple #[.agg #[.int .i64 6, .int .u8 96, .int .i64 40, .int .i64 4, .int .i64 40, .int .i64 8, .int .i64 24, .int .i64 16], .bool true]) ∧ Below w.heap.size w w' := by
  have h6 := six_any
  go_enter Try.func17, Try.ntmps17
  go_wp2_with (first | (go_at_call 23; ((with_reducible refine (h6 _).mono ?_); rintro e w2 ⟨rfl, hb2⟩; have hx := (hb2.block w.heap.size (by simp)).trans (heap_alloc_new w (.cells #[.int .i64 0, .int .u8 0, .int .i64 0, .int .i64 0, .int .i64 0, .int .i64 0, .int .i64 0, .int .i64 0] 40)); have HX := Lib.hid hx; have hz := fun i => free_of hx i; have HB := Lib.hid (Below.next (below_one (w := w) (.cells #[.int .i64 0, .int .u8 0, .int .i64 0, .int .i64 0, .int .i64 0, .int .i64 0, .int .i64 0, .int .i64 0] 40)) hb2); obtain ⟨c0, c1, c2, c3, c4, c5, c6, c7⟩ := cells8 hx; clear hx hb2)) | fail)
  exact bodyPost_ret (res_cell8t rfl _ _ _ _ _ _ _ _ _ _ _ (set8_block HX.out _ _ _ _ _ _ _ _) _ rfl rfl) rfl ⟨rfl, set8_below HB.out (Nat.le_refl _) _ _ _ _ _ _ _ _⟩
theorem size_0 (v : Int) (h4 : v ≠ 4) (h6 : v ≠ 16) (w : World) : Calls Try.prog 17 #[.int .i64 v] w fun e w' => e = .returned (.tuple #[.agg #[.int .i64 0, .int .u8 0, .int .i64 0, .int .i64 0, .int .i64 0, .int .i64 0, .int .i64 0, .int .i64 0], .bool false]) ∧ Below w.heap.size w w' := by
  have e4 : (v == 4) = false := beqf h4
  have e6 : (v == 16) = false := beqf h6
  clear h4 h6
  go_enter Try.func17, Try.ntmps17
  go_wp2_with fail
  have hx := heap_alloc_new w (.cells #[.int .i64 0, .int .u8 0, .int .i64 0, .int .i64 0, .int .i64 0, .int .i64 0, .int .i64 0, .int .i64 0] 40)
  have hb := below_one (w := w) (.cells #[.int .i64 0, .int .u8 0, .int .i64 0, .int .i64 0, .int .i64 0, .int .i64 0, .int .i64 0, .int .i64 0] 40)
  generalize w.alloc (.cells #[.int .i64 0, .int .u8 0, .int .i64 0, .int .i64 0, .int .i64 0, .int .i64 0, .int .i64 0, .int .i64 0] 40) = W at hx hb ⊢
  refine bodyPost_ret (v := .tuple #[.agg #[.int .i64 0, .int .u8 0, .int .i64 0, .int .i64 0, .int .i64 0, .int .i64 0, .int .i64 0, .int .i64 0], .bool false]) ?_ rfl ?_
  · exact res_cell8t (t := 2) (u := 3) rfl _ _ _ _ _ _ _ _ _ _ _ hx _ rfl rfl
  · exact ⟨rfl, hb⟩
theorem bytes_blk {w : World} {B : Nat} {L : List UInt8} {T : TypeId} {cp : Nat} (h : w.heap[B]? = some (.cells (cellsOf L).toArray T (0, 0))) : Bytes w (.slice (some ⟨B, 0, none⟩) L.length cp) L := by
  refine ⟨_, _, rfl, .inr ⟨B, 0, rfl, fun i hi => ?_⟩⟩
  rw [Nat.zero_add]
  exact cell_of h i (by simp [cellsOf, List.getElem?_eq_getElem hi, List.getD])
theorem made_z (n : Nat) : (madeCells (Value.cells (.int .u8 0)) (n * 1)) = (cellsOf (List.replicate n 0)).toArray := by
  apply Array.ext'
  simp [madeCells, cellsOf, Value.cells]
  apply List.ext_getElem
  · simp
  · intro i h1 h2
    simp [Nat.mod_one]
theorem wpList_make_bytes {w : World} {ops : Array Oper} {rest : List Oper} {o : Oper} {a : Act} {Q : Exit → Act → World → Prop}
    (hg : o.guard = none) (l c : Operand) (hop : o.op = Op.makeSlice 22 l c) (L C : Int) (n : Nat) (hl : a.eval l = .int .i64 L) (hc : a.eval c = .int .i64 C) (hL : L = (n : Int)) (hC : C = (n : Int)) (hn : n ≤ 281474976710656)
    (hK : ∀ w', w'.heap[w.heap.size]? = some (.cells (cellsOf (List.replicate n 0)).toArray 5 (0, 0)) → Below w.heap.size w w' → wpList Try.prog ops Q rest (a.put o.dst (.slice (some ⟨w.heap.size, 0, none⟩) n n)) w') :
    wpList Try.prog ops Q (o :: rest) a w := by
  obtain ⟨i0, hi0, hz0, hz1, hz2⟩ := info_parts Try.info5
  refine wpList_plain hg fun K hK' => ?_
  have hr := run_make (P := Try.prog) w 22 5 i0 _ Try.underlying22 hi0 hz0 .i64 .i64 n n (by omega) (Int.le_refl _) (by rw [hz2]; omega) (by omega)
  rw [hz1] at hr
  simp only [Int.toNat_natCast] at hr
  rw [made_z] at hr
  subst hL
  subst hC
  unfold Oper.wp
  simp [execOp, hop, hl, hc, hr, Result.andThen]
  exact hK' _ _ (hK _ (heap_alloc_new w _) (below_one _))
theorem set_bytes {w : World} {b i : Nat} {L : List UInt8} {T : TypeId} {x : Int} {y : UInt8} (h : w.heap[b]? = some (.cells (cellsOf L).toArray T (0, 0))) (hx : x = y.toNat) : (w.setCell ⟨b, i, none⟩ (.int .u8 x)).heap[b]? = some (.cells (cellsOf (L.set i y)).toArray T (0, 0)) := by
  rw [set_block h, hx]
  congr 2
  apply Array.ext'
  simp [cellsOf, List.map_set]
theorem cells_at' {w : World} {b i : Nat} {L : List UInt8} {T : TypeId} (h : w.heap[b]? = some (.cells (cellsOf L).toArray T (0, 0))) (hi : i < L.length) : w.cell? ⟨b, i, none⟩ = some (.int .u8 (L.getD i 0).toNat) :=
  cell_of h i (by simp [cellsOf, List.getElem?_eq_getElem hi, List.getD])
theorem heap_other {W : World} {g j k : Nat} {v : Value} (h : j ≠ g) : (W.setCell ⟨g, k, none⟩ v).heap[j]? = W.heap[j]? := by
  simp [World.setCell, Array.getElem?_modify, h.symm]
theorem cells_one (l : List UInt8) : ∀ v ∈ cellsOf l, v.oneCell' = true := fun u hu => by obtain ⟨y, _, rfl⟩ := List.mem_map.1 hu; rfl
theorem bytes_at {w : World} {b off n cp : Nat} {l : List UInt8} (h : Bytes w (.slice (some ⟨b, off, none⟩) n cp) l) : ∀ j u, (cellsOf l)[j]? = some u → w.cell? ((⟨b, off, none⟩ : Addr).add j) = some u := by
  obtain ⟨a, c, hv, h⟩ := h
  rcases h with rfl | ⟨b', o', rfl, hc⟩
  · intro j u hu; cases hu
  · cases hv; exact bytes_news hc
theorem splice_at {α : Type} (A R cs : List α) (off : Nat) (h : A.length = off) : splice (A ++ R) off cs = (A ++ cs) ++ R.drop cs.length := by
  subst h
  unfold splice
  rw [List.take_left, List.drop_append, List.drop_eq_nil_of_le (by omega), List.nil_append, Nat.add_sub_cancel_left, List.append_assoc]
theorem rep_get (n i : Nat) : (List.replicate n (0 : UInt8)).getD i 0 = 0 := by
  simp only [List.getD, List.getElem?_replicate]
  split <;> rfl
/-! what a packet is that is made -/
def headOf (v6 : Bool) (n : Nat) : List UInt8 :=
  if v6 then [96, 0, 0, 0, UInt8.ofNat (n / 256), UInt8.ofNat (n % 256), 0, 0] else [69, 0, UInt8.ofNat ((n + 20) / 256), UInt8.ofNat ((n + 20) % 256), 0, 0, 0, 0, 0, 0, 0, 0]
def makeP (s d q : List UInt8) : List UInt8 × Nat :=
  if s.length = 4 ∧ d.length = 4 then (if q.length ≤ 1980 then (headOf false q.length ++ (s ++ (d ++ q)), 0) else ([], 5))
  else if s.length = 16 ∧ d.length = 16 then (if q.length ≤ 1960 then (headOf true q.length ++ (s ++ (d ++ q)), 0) else ([], 5))
  else ([], 3)
def MakeRet (w : World) (r : List UInt8 × Nat) (e : Ending) (w' : World) : Prop :=
  ∃ ad cp, e = .returned (.tuple #[.slice ad r.1.length cp, .int .i64 r.2]) ∧ Bytes w' (.slice ad r.1.length cp) r.1 ∧ NilOk (.slice ad r.1.length cp) ∧ r.1.length ≤ cp ∧ cp ≤ maxLen ∧ Below w.heap.size w w'
theorem make_form (sa da qa : Option Addr) (sn sc dn dc qn qc : Nat) (hs : sn ≤ 100000) (hd : dn ≤ 100000) (hq : qn ≤ 100000) (w : World) (h : (sn ≠ 4 ∧ sn ≠ 16) ∨ sn ≠ dn) :
    Calls Try.prog 12 #[.slice sa sn sc, .slice da dn dc, .slice qa qn qc] w (MakeRet w ([], 3)) := by
  by_cases h4 : sn = 4
  · subst h4
    have hne : ((dn : Int) != 4) = true := bnet (by omega)
    have HSZ := Lib.hid size_4
    clear h
    go_enter Try.func12, Try.ntmps12
    go_wp2_with (first | (go_at_call 17; ((with_reducible refine (HSZ.out _).mono ?_); rintro e w2 ⟨rfl, hb2⟩; have HB := Lib.hid hb2; clear hb2)) | fail)
    go_ret2
    exact ⟨none, 0, rfl, bytes_nil _, nilok_nil, Nat.le_refl _, Nat.zero_le _, Below.next HB.out (below_one _)⟩
  · by_cases h6 : sn = 16
    · subst h6
      have hne : ((dn : Int) != 16) = true := bnet (by omega)
      have HSZ := Lib.hid size_6
      clear h
      go_enter Try.func12, Try.ntmps12
      go_wp2_with (first | (go_at_call 17; ((with_reducible refine (HSZ.out _).mono ?_); rintro e w2 ⟨rfl, hb2⟩; have HB := Lib.hid hb2; clear hb2)) | fail)
      go_ret2
      exact ⟨none, 0, rfl, bytes_nil _, nilok_nil, Nat.le_refl _, Nat.zero_le _, Below.next HB.out (below_one _)⟩
    · have HSZ := Lib.hid (size_0 sn (by omega) (by omega))
      clear h
      go_enter Try.func12, Try.ntmps12
      go_wp2_with (first | (go_at_call 17; ((with_reducible refine (HSZ.out _).mono ?_); rintro e w2 ⟨rfl, hb2⟩; have HB := Lib.hid hb2; clear hb2)) | fail)
      go_ret2
      exact ⟨none, 0, rfl, bytes_nil _, nilok_nil, Nat.le_refl _, Nat.zero_le _, Below.next HB.out (below_one _)⟩

theorem make_long_4 (sa da qa : Option Addr) (sc dc qn qc : Nat) (hq : qn ≤ 100000) (w : World) (h : 1980 < qn) :
    Calls Try.prog 12 #[.slice sa 4 sc, .slice da 4 dc, .slice qa qn qc] w (MakeRet w ([], 5)) := by
  have hi : (1980 : Int) < qn := by omega
  have HSZ := Lib.hid size_4
  have hw : IntKind.i64.wrap 1980 = 1980 := wrap_i64 1980 (by omega) (by omega)
  go_enter Try.func12, Try.ntmps12
  go_wp2_with (first | (go_at_call 17; ((with_reducible refine (HSZ.out _).mono ?_); rintro e w2 ⟨rfl, hb2⟩; have hx := heap_alloc_new w2 (.cells #[.int .i64 4, .int .u8 69, .int .i64 20, .int .i64 2, .int .i64 0, .int .i64 12, .int .i64 16, .int .i64 4] 40); obtain ⟨c0, c1, c2, c3, c4, c5, c6, c7⟩ := cells8 hx; have HB := Lib.hid hb2; clear hb2)) | fail)
  go_ret2
  exact ⟨none, 0, rfl, bytes_nil _, nilok_nil, Nat.le_refl _, Nat.zero_le _, Below.next HB.out (below_one _)⟩

theorem make_long_6 (sa da qa : Option Addr) (sc dc qn qc : Nat) (hq : qn ≤ 100000) (w : World) (h : 1960 < qn) :
    Calls Try.prog 12 #[.slice sa 16 sc, .slice da 16 dc, .slice qa qn qc] w (MakeRet w ([], 5)) := by
  have hi : (1960 : Int) < qn := by omega
  have HSZ := Lib.hid size_6
  have hw : IntKind.i64.wrap 1960 = 1960 := wrap_i64 1960 (by omega) (by omega)
  go_enter Try.func12, Try.ntmps12
  go_wp2_with (first | (go_at_call 17; ((with_reducible refine (HSZ.out _).mono ?_); rintro e w2 ⟨rfl, hb2⟩; have hx := heap_alloc_new w2 (.cells #[.int .i64 6, .int .u8 96, .int .i64 40, .int .i64 4, .int .i64 40, .int .i64 8, .int .i64 24, .int .i64 16] 40); obtain ⟨c0, c1, c2, c3, c4, c5, c6, c7⟩ := cells8 hx; have HB := Lib.hid hb2; clear hb2)) | fail)
  go_ret2
  exact ⟨none, 0, rfl, bytes_nil _, nilok_nil, Nat.le_refl _, Nat.zero_le _, Below.next HB.out (below_one _)⟩

theorem fin_4 (s d q : List UInt8) (hs : s.length = 4) (hd : d.length = 4) (qn : Nat) (hq : qn = q.length) :
    splice (splice (splice (cellsOf ((((List.replicate (20 + qn) 0).set 0 69).set 2 (UInt8.ofNat ((qn + 20) / 256))).set (3) (UInt8.ofNat ((qn + 20) % 256)))) 12 (cellsOf s)) 16 (cellsOf d)) 20 (cellsOf q) = cellsOf (headOf false qn ++ (s ++ (d ++ q))) := by
  have h0 : List.replicate (20 + qn) (0 : UInt8) = List.replicate 12 0 ++ List.replicate (4 + 4 + qn) 0 := by rw [List.replicate_append_replicate]; congr 1; omega
  rw [h0]
  generalize hR : List.replicate (4 + 4 + qn) (0 : UInt8) = R
  have hRl : R.length = 4 + 4 + qn := by rw [← hR]; simp
  have h1 : (((List.replicate 12 0 ++ R).set 0 69).set 2 (UInt8.ofNat ((qn + 20) / 256))).set (3) (UInt8.ofNat ((qn + 20) % 256)) = headOf false qn ++ R := rfl
  rw [h1]
  have hH : (headOf false qn).length = 12 := rfl
  generalize headOf false qn = H at *
  have hc : ∀ x y : List UInt8, cellsOf (x ++ y) = cellsOf x ++ cellsOf y := fun x y => by simp [cellsOf]
  have hl : ∀ x : List UInt8, (cellsOf x).length = x.length := fun x => by simp [cellsOf]
  rw [hc H R, splice_at _ _ _ 12 (by rw [hl, hH]), splice_at _ _ _ 16 (by simp only [List.length_append, hl, hH, hs]), splice_at _ _ _ 20 (by simp only [List.length_append, hl, hH, hs, hd])]
  rw [hc, hc, hc, show List.drop (cellsOf q).length (List.drop (cellsOf d).length (List.drop (cellsOf s).length (cellsOf R))) = [] from List.eq_nil_of_length_eq_zero (by simp only [List.length_drop, hl, hs, hd, hRl]; omega)]
  simp only [List.append_nil, List.append_assoc]
set_option maxHeartbeats 4000000 in
theorem make_fine_4 (s d q : List UInt8) (sa da qa : Option Addr) (sc dc qc : Nat) (w : World) (hs : s.length = 4) (hd : d.length = 4) (hq : q.length ≤ 1980) (hsv : Bytes w (.slice sa s.length sc) s) (hdv : Bytes w (.slice da d.length dc) d) (hqv : Bytes w (.slice qa q.length qc) q) :
    Calls Try.prog 12 #[.slice sa 4 sc, .slice da 4 dc, .slice qa q.length qc] w (MakeRet w (headOf false q.length ++ (s ++ (d ++ q)), 0)) := by
  have hqi : (q.length : Int) ≤ 1980 := by omega
  have HSZ := Lib.hid size_4
  have hw : IntKind.i64.wrap 1980 = 1980 := wrap_i64 1980 (by omega) (by omega)
  obtain ⟨qn, hqn⟩ : ∃ qn, qn = q.length := ⟨_, rfl⟩
  rw [← hqn] at hqi ⊢
  have HQN := Lib.hid hqn
  obtain ⟨sb, so, sc', he, _⟩ := look_cells hsv (by omega)
  cases he
  obtain ⟨db, dof, dc', he, _⟩ := look_cells hdv (by omega)
  cases he
  have HQA : Hid (0 < qn → ∃ qb qo, qa = some ⟨qb, qo, none⟩) := Lib.hid (fun h0 => by obtain ⟨qb, qo, qc', he, _⟩ := look_cells hqv (by omega); cases he; exact ⟨_, _, rfl⟩)
  obtain ⟨CS, hcs'⟩ : ∃ X, X = cellsOf s := ⟨_, rfl⟩
  obtain ⟨CD, hcd'⟩ : ∃ X, X = cellsOf d := ⟨_, rfl⟩
  obtain ⟨CQ, hcq'⟩ : ∃ X, X = cellsOf q := ⟨_, rfl⟩
  have hcs : CS.length = 4 := by rw [hcs']; simp [cellsOf, hs]
  have hcd : CD.length = 4 := by rw [hcd']; simp [cellsOf, hd]
  have hcq : CQ.length = qn := by rw [hcq', hqn]; simp [cellsOf]
  have HCS := Lib.hid hcs'
  have HCD := Lib.hid hcd'
  have HCQ := Lib.hid hcq'
  clear hcs' hcd' hcq'
  rw [hs] at hsv
  rw [hd] at hdv
  rw [← hqn] at hqv
  have HSV := Lib.hid hsv
  have HDV := Lib.hid hdv
  have HQV := Lib.hid hqv
  have H4 := Lib.hid hs
  have HDN := Lib.hid hd
  have hqn0 : (0 : Int) ≤ qn := by omega
  have hqn1 : qn ≤ 1980 := by omega
  obtain ⟨RR, hRR⟩ : ∃ RR : List UInt8 × Nat, RR = (headOf false qn ++ (s ++ (d ++ q)), 0) := ⟨_, rfl⟩
  rw [← hRR]
  have HRR := Lib.hid hRR
  clear hqn hsv hdv hqv hs hd hq hRR
  go_enter Try.func12, Try.ntmps12
  go_wp2_with (first | (go_at_call 17; ((with_reducible refine (HSZ.out _).mono ?_); rintro e w2 ⟨rfl, hb2⟩; have hx := heap_alloc_new w2 (.cells #[.int .i64 4, .int .u8 69, .int .i64 20, .int .i64 2, .int .i64 0, .int .i64 12, .int .i64 16, .int .i64 4] 40); obtain ⟨c0, c1, c2, c3, c4, c5, c6, c7⟩ := cells8 hx; have HB0 := Lib.hid hb2.size; have HB := Lib.hid hb2; clear hb2)) | (at_make; refine wpList_make_bytes rfl _ _ rfl _ _ (20 + qn) rfl rfl (by omega) (by omega) (by omega) ?_; intro w3 hg3 hb3; have hsz : (w2.alloc (.cells #[.int .i64 4, .int .u8 69, .int .i64 20, .int .i64 2, .int .i64 0, .int .i64 12, .int .i64 16, .int .i64 4] 40)).heap.size = w2.heap.size + 1 := (by simp); rw [hsz] at hg3; have hy := (hb3.block w2.heap.size (by rw [hsz]; omega)).trans (heap_alloc_new w2 (.cells #[.int .i64 4, .int .u8 69, .int .i64 20, .int .i64 2, .int .i64 0, .int .i64 12, .int .i64 16, .int .i64 4] 40)); have HB := Lib.hid (Below.next (Below.next HB.out (below_one (w := w2) (.cells #[.int .i64 4, .int .u8 69, .int .i64 20, .int .i64 2, .int .i64 0, .int .i64 12, .int .i64 16, .int .i64 4] 40))) hb3); have d0 : w3.cell? ⟨w2.heap.size + 1, 0, none⟩ = some (.int .u8 0) := (by rw [cells_at' hg3 (by simp; omega), rep_get]; rfl); have fz := fun i => free_of hg3 i; obtain ⟨c0, c1, c2, c3, c4, c5, c6, c7⟩ := cells8 hy; have HG := Lib.hid hg3; have HY := Lib.hid hy; clear hg3 hb3 hsz hy) | fail)
  have hg4 : (w3.setCell ⟨w2.heap.size + 1, 0, none⟩ (.int .u8 69)).heap[w2.heap.size + 1]? = some (.cells (cellsOf ((List.replicate (20 + qn) 0).set 0 69)).toArray 5 (0, 0)) := set_bytes HG.out rfl
  have hy4 : (w3.setCell ⟨w2.heap.size + 1, 0, none⟩ (.int .u8 69)).heap[w2.heap.size]? = some (.cells #[.int .i64 4, .int .u8 69, .int .i64 20, .int .i64 2, .int .i64 0, .int .i64 12, .int .i64 16, .int .i64 4] 40) := (heap_other (by omega)).trans HY.out
  have hb4 : Below w.heap.size w (w3.setCell ⟨w2.heap.size + 1, 0, none⟩ (.int .u8 69)) := HB.out.setCell (by show w.heap.size ≤ w2.heap.size + 1; have := HB0.out; omega) _
  clear d0 fz c0 c1 c2 c3 c4 c5 c6 c7 HG HY HB
  generalize w3.setCell ⟨w2.heap.size + 1, 0, none⟩ (.int .u8 69) = W4 at *
  obtain ⟨c0, c1, c2, c3, c4, c5, c6, c7⟩ := cells8 hy4
  have hti : (2 : Int) < 20 + qn := by omega
  have hti1 : (3 : Int) < 20 + qn := by omega
  have hw3 : IntKind.i64.wrap (3) = 3 := wrap_i64 (3) (by omega) (by omega)
  have hw8 : IntKind.u8.wrap ((20 + (qn : Int)) / 256) = (20 + (qn : Int)) / 256 := wrap_u8 _ (by omega) (by omega)
  have hw9 : IntKind.u8.wrap (20 + (qn : Int)) = (20 + (qn : Int)) % 256 := by rw [IntKind.wrap_u8]
  have hg4 : W4.drew.heap[w2.heap.size + 1]? = some (.cells (cellsOf ((List.replicate (20 + qn) 0).set 0 69)).toArray 5 (0, 0)) := hg4
  have hy4 : W4.drew.heap[w2.heap.size]? = some (.cells #[.int .i64 4, .int .u8 69, .int .i64 20, .int .i64 2, .int .i64 0, .int .i64 12, .int .i64 16, .int .i64 4] 40) := hy4
  have hb4 := hb4.drew
  have fz := fun i => free_of hg4 i
  have d1 := cells_at' (i := 2) hg4 (by simp; omega)
  have hA := set_bytes (i := 2) (x := (20 + (qn : Int)) / 256) (y := UInt8.ofNat ((qn + 20) / 256)) hg4 (by rw [UInt8.toNat_ofNat']; omega)
  have d3 := cells_at' (i := 3) hA (by simp; omega)
  have fz2 := fun i => free_of hA i
  have d3b : (W4.setCell ⟨w2.heap.size + 1, 2, none⟩ (.int .u8 ((20 + (qn : Int)) / 256))).drew.cell? ⟨w2.heap.size + 1, 3, none⟩ = _ := d3
  have fz3 : ∀ i, (W4.setCell ⟨w2.heap.size + 1, 2, none⟩ (.int .u8 ((20 + (qn : Int)) / 256))).drew.frozen? ⟨w2.heap.size + 1, i, none⟩ = false := fz2
  have hB := set_bytes (i := 3) (x := (20 + (qn : Int)) % 256) (y := UInt8.ofNat ((qn + 20) % 256)) hA (by rw [UInt8.toNat_ofNat']; omega)
  have hY := (heap_other (W := (W4.drew.setCell ⟨w2.heap.size + 1, 2, none⟩ (.int .u8 ((20 + (qn : Int)) / 256)))) (g := w2.heap.size + 1) (k := 3) (v := (.int .u8 ((20 + (qn : Int)) % 256))) (j := w2.heap.size) (by omega)).trans ((heap_other (by omega)).trans hy4)
  have hb5 := (hb4.setCell (p := ⟨w2.heap.size + 1, 2, none⟩) (by show w.heap.size ≤ w2.heap.size + 1; have := HB0.out; omega) (.int .u8 ((20 + (qn : Int)) / 256))).setCell (p := ⟨w2.heap.size + 1, 3, none⟩) (by show w.heap.size ≤ w2.heap.size + 1; have := HB0.out; omega) (.int .u8 ((20 + (qn : Int)) % 256))
  obtain ⟨c0, c1, c2, c3, c4, c5, c6, c7⟩ := cells8 hy4
  have HG := Lib.hid hB
  have HY := Lib.hid hY
  have HB := Lib.hid hb5
  have hne : w2.heap.size ≠ w2.heap.size + 1 := by omega
  clear hg4 hy4 hb4 hA hB hY hb5
  go_region_held3 (fun W => W.cell? ⟨w2.heap.size, 3, none⟩ = some (.int .i64 2)) (first | exact c3 | (show (W4.setCell _ _).cell? _ = _; rw [cell_set_ne hne]; exact c3) | (show ((W4.setCell _ _).setCell _ _).cell? _ = _; rw [cell_set_ne hne, cell_set_ne hne]; exact c3)) (fail)
  all_goals
    have hg6 : (((W4.setCell ⟨w2.heap.size + 1, 2, none⟩ (.int .u8 ((20 + (qn : Int)) / 256))).setCell ⟨w2.heap.size + 1, 3, none⟩ (.int .u8 ((20 + (qn : Int)) % 256))).drew).heap[w2.heap.size + 1]? = _ := HG.out
    have hy6 : (((W4.setCell ⟨w2.heap.size + 1, 2, none⟩ (.int .u8 ((20 + (qn : Int)) / 256))).setCell ⟨w2.heap.size + 1, 3, none⟩ (.int .u8 ((20 + (qn : Int)) % 256))).drew).heap[w2.heap.size]? = _ := HY.out
    have hb6 : Below w.heap.size w ((W4.setCell ⟨w2.heap.size + 1, 2, none⟩ (.int .u8 ((20 + (qn : Int)) / 256))).setCell ⟨w2.heap.size + 1, 3, none⟩ (.int .u8 ((20 + (qn : Int)) % 256))).drew := HB.out
    clear HG HY HB fz fz2 fz3 d1 d3 d3b c0 c1 c2 c3 c4 c5 c6 c7
    generalize ((W4.setCell ⟨w2.heap.size + 1, 2, none⟩ (.int .u8 ((20 + (qn : Int)) / 256))).setCell ⟨w2.heap.size + 1, 3, none⟩ (.int .u8 ((20 + (qn : Int)) % 256))).drew = W6 at *
    have hXl : (cellsOf ((((List.replicate (20 + qn) 0).set 0 69).set 2 (UInt8.ofNat ((qn + 20) / 256))).set (3) (UInt8.ofNat ((qn + 20) % 256)))).length = 20 + qn := by simp [cellsOf]
    obtain ⟨X, hX⟩ : ∃ X, X = cellsOf ((((List.replicate (20 + qn) 0).set 0 69).set 2 (UInt8.ofNat ((qn + 20) / 256))).set (3) (UInt8.ofNat ((qn + 20) % 256))) := ⟨_, rfl⟩
    rw [← hX] at hXl hg6
    have HX := Lib.hid hX
    clear hX
    obtain ⟨c0, c1, c2, c3, c4, c5, c6, c7⟩ := cells8 hy6
    have HG := Lib.hid hg6
    have HY := Lib.hid hy6
    have HB := Lib.hid hb6
    clear hg6 hy6 hb6
    go_wp2_with (first | (refine wpList_copy_splice rfl (.tmp 65) (.tmp 66) 22 22 rfl 5 Try.underlying22 (by kernel_rfl) _ _ _ _ _ _ rfl rfl (w2.heap.size + 1) 12 X 5 HG.out CS (by rw [hcs]; show _ = min _ _; omega) (fun _ => ⟨rfl, _, rfl, by rw [HCS.out]; exact bytes_at (HSV.out.below HB.out)⟩) (by omega) (by rw [HCS.out]; exact cells_one _) (w2.heap.size + 1) _ (Below.refl _ _) (Nat.le_refl _) ?_; intro W7 HG7 hb7; have hy := (hb7.block w2.heap.size (by omega)).trans HY.out; have HG := HG7; have HB := Lib.hid (HB.out.trans (hb7.mono (by have := HB0.out; omega))); have HY := Lib.hid hy; obtain ⟨c0, c1, c2, c3, c4, c5, c6, c7⟩ := cells8 hy; clear hb7 hy HG7) | (refine wpList_copy_splice rfl (.tmp 71) (.tmp 72) 22 22 rfl 5 Try.underlying22 (by kernel_rfl) _ _ _ _ _ _ rfl rfl (w2.heap.size + 1) 16 (splice X 12 CS) 5 HG.out CD (by rw [hcd]; show _ = min _ _; omega) (fun _ => ⟨rfl, _, rfl, by rw [HCD.out]; exact bytes_at (HDV.out.below HB.out)⟩) (by rw [length_splice _ _ _ (by omega)]; omega) (by rw [HCD.out]; exact cells_one _) (w2.heap.size + 1) _ (Below.refl _ _) (Nat.le_refl _) ?_; intro W7 HG7 hb7; have hy := (hb7.block w2.heap.size (by omega)).trans HY.out; have HG := HG7; have HB := Lib.hid (HB.out.trans (hb7.mono (by have := HB0.out; omega))); have HY := Lib.hid hy; obtain ⟨c0, c1, c2, c3, c4, c5, c6, c7⟩ := cells8 hy; clear hb7 hy HG7) | (refine wpList_copy_splice rfl (.tmp 77) (.tmp 78) 22 22 rfl 5 Try.underlying22 (by kernel_rfl) _ _ _ _ _ _ rfl rfl (w2.heap.size + 1) 20 (splice (splice X 12 CS) 16 CD) 5 HG.out CQ (by rw [hcq]; show _ = min _ _; omega) (fun h0 => by first | exact absurd h0 (by omega) | (obtain ⟨qb, qo, hq'⟩ := HQA.out (by omega); have hv := HQV.out.below HB.out; rw [hq'] at hv; exact ⟨(by first | rfl | exact if_neg (by omega)), _, hq', by rw [HCQ.out]; exact bytes_at hv⟩)) (by rw [length_splice _ _ _ (by rw [length_splice _ _ _ (by omega)]; omega), length_splice _ _ _ (by omega)]; omega) (by rw [HCQ.out]; exact cells_one _) (w2.heap.size + 1) _ (Below.refl _ _) (Nat.le_refl _) ?_; intro W7 HG7 hb7; have hy := (hb7.block w2.heap.size (by omega)).trans HY.out; have HG := HG7; have HB := Lib.hid (HB.out.trans (hb7.mono (by have := HB0.out; omega))); have HY := Lib.hid hy; obtain ⟨c0, c1, c2, c3, c4, c5, c6, c7⟩ := cells8 hy; clear hb7 hy HG7) | fail)
    all_goals
      go_ret2
      have hfin := HG.out
      rw [HX.out, HCS.out, HCD.out, HCQ.out, fin_4 s d q H4.out HDN.out qn HQN.out] at hfin
      have hlen : (headOf false qn ++ (s ++ (d ++ q))).length = 20 + qn := by have h1 := H4.out; have h2 := HDN.out; have h3 := HQN.out; simp [headOf]; omega
      have hby := bytes_blk (cp := 20 + qn) hfin
      refine ⟨some ⟨w2.heap.size + 1, 0, none⟩, 20 + qn, ?_, ?_, (fun n cap h => by cases h), ?_, ?_, HB.out⟩
      · rw [HRR.out]
        show _ = Ending.returned (.tuple #[.slice _ (headOf false qn ++ (s ++ (d ++ q))).length _, _])
        rw [hlen]
        first | rfl | (have h0 : qn = 0 := by assumption
                       rw [h0]; done) | (have h0 : qn = 0 := by assumption
                                         rw [h0]; rfl)
      · rw [HRR.out]; exact hby
      · rw [HRR.out]
        show (headOf false qn ++ (s ++ (d ++ q))).length ≤ _
        rw [hlen]; exact Nat.le_refl _
      · unfold maxLen; omega

theorem fin_6 (s d q : List UInt8) (hs : s.length = 16) (hd : d.length = 16) (qn : Nat) (hq : qn = q.length) :
    splice (splice (splice (cellsOf ((((List.replicate (40 + qn) 0).set 0 96).set 4 (UInt8.ofNat (qn / 256))).set (5) (UInt8.ofNat (qn % 256)))) 8 (cellsOf s)) 24 (cellsOf d)) 40 (cellsOf q) = cellsOf (headOf true qn ++ (s ++ (d ++ q))) := by
  have h0 : List.replicate (40 + qn) (0 : UInt8) = List.replicate 8 0 ++ List.replicate (16 + 16 + qn) 0 := by rw [List.replicate_append_replicate]; congr 1; omega
  rw [h0]
  generalize hR : List.replicate (16 + 16 + qn) (0 : UInt8) = R
  have hRl : R.length = 16 + 16 + qn := by rw [← hR]; simp
  have h1 : (((List.replicate 8 0 ++ R).set 0 96).set 4 (UInt8.ofNat (qn / 256))).set (5) (UInt8.ofNat (qn % 256)) = headOf true qn ++ R := rfl
  rw [h1]
  have hH : (headOf true qn).length = 8 := rfl
  generalize headOf true qn = H at *
  have hc : ∀ x y : List UInt8, cellsOf (x ++ y) = cellsOf x ++ cellsOf y := fun x y => by simp [cellsOf]
  have hl : ∀ x : List UInt8, (cellsOf x).length = x.length := fun x => by simp [cellsOf]
  rw [hc H R, splice_at _ _ _ 8 (by rw [hl, hH]), splice_at _ _ _ 24 (by simp only [List.length_append, hl, hH, hs]), splice_at _ _ _ 40 (by simp only [List.length_append, hl, hH, hs, hd])]
  rw [hc, hc, hc, show List.drop (cellsOf q).length (List.drop (cellsOf d).length (List.drop (cellsOf s).length (cellsOf R))) = [] from List.eq_nil_of_length_eq_zero (by simp only [List.length_drop, hl, hs, hd, hRl]; omega)]
  simp only [List.append_nil, List.append_assoc]
set_option maxHeartbeats 4000000 in
theorem make_fine_6 (s d q : List UInt8) (sa da qa : Option Addr) (sc dc qc : Nat) (w : World) (hs : s.length = 16) (hd : d.length = 16) (hq : q.length ≤ 1960) (hsv : Bytes w (.slice sa s.length sc) s) (hdv : Bytes w (.slice da d.length dc) d) (hqv : Bytes w (.slice qa q.length qc) q) :
    Calls Try.prog 12 #[.slice sa 16 sc, .slice da 16 dc, .slice qa q.length qc] w (MakeRet w (headOf true q.length ++ (s ++ (d ++ q)), 0)) := by
  have hqi : (q.length : Int) ≤ 1960 := by omega
  have HSZ := Lib.hid size_6
  have hw : IntKind.i64.wrap 1960 = 1960 := wrap_i64 1960 (by omega) (by omega)
  obtain ⟨qn, hqn⟩ : ∃ qn, qn = q.length := ⟨_, rfl⟩
  rw [← hqn] at hqi ⊢
  have HQN := Lib.hid hqn
  obtain ⟨sb, so, sc', he, _⟩ := look_cells hsv (by omega)
  cases he
  obtain ⟨db, dof, dc', he, _⟩ := look_cells hdv (by omega)
  cases he
  have HQA : Hid (0 < qn → ∃ qb qo, qa = some ⟨qb, qo, none⟩) := Lib.hid (fun h0 => by obtain ⟨qb, qo, qc', he, _⟩ := look_cells hqv (by omega); cases he; exact ⟨_, _, rfl⟩)
  obtain ⟨CS, hcs'⟩ : ∃ X, X = cellsOf s := ⟨_, rfl⟩
  obtain ⟨CD, hcd'⟩ : ∃ X, X = cellsOf d := ⟨_, rfl⟩
  obtain ⟨CQ, hcq'⟩ : ∃ X, X = cellsOf q := ⟨_, rfl⟩
  have hcs : CS.length = 16 := by rw [hcs']; simp [cellsOf, hs]
  have hcd : CD.length = 16 := by rw [hcd']; simp [cellsOf, hd]
  have hcq : CQ.length = qn := by rw [hcq', hqn]; simp [cellsOf]
  have HCS := Lib.hid hcs'
  have HCD := Lib.hid hcd'
  have HCQ := Lib.hid hcq'
  clear hcs' hcd' hcq'
  rw [hs] at hsv
  rw [hd] at hdv
  rw [← hqn] at hqv
  have HSV := Lib.hid hsv
  have HDV := Lib.hid hdv
  have HQV := Lib.hid hqv
  have H16 := Lib.hid hs
  have HDN := Lib.hid hd
  have hqn0 : (0 : Int) ≤ qn := by omega
  have hqn1 : qn ≤ 1960 := by omega
  obtain ⟨RR, hRR⟩ : ∃ RR : List UInt8 × Nat, RR = (headOf true qn ++ (s ++ (d ++ q)), 0) := ⟨_, rfl⟩
  rw [← hRR]
  have HRR := Lib.hid hRR
  clear hqn hsv hdv hqv hs hd hq hRR
  go_enter Try.func12, Try.ntmps12
  go_wp2_with (first | (go_at_call 17; ((with_reducible refine (HSZ.out _).mono ?_); rintro e w2 ⟨rfl, hb2⟩; have hx := heap_alloc_new w2 (.cells #[.int .i64 6, .int .u8 96, .int .i64 40, .int .i64 4, .int .i64 40, .int .i64 8, .int .i64 24, .int .i64 16] 40); obtain ⟨c0, c1, c2, c3, c4, c5, c6, c7⟩ := cells8 hx; have HB0 := Lib.hid hb2.size; have HB := Lib.hid hb2; clear hb2)) | (at_make; refine wpList_make_bytes rfl _ _ rfl _ _ (40 + qn) rfl rfl (by omega) (by omega) (by omega) ?_; intro w3 hg3 hb3; have hsz : (w2.alloc (.cells #[.int .i64 6, .int .u8 96, .int .i64 40, .int .i64 4, .int .i64 40, .int .i64 8, .int .i64 24, .int .i64 16] 40)).heap.size = w2.heap.size + 1 := (by simp); rw [hsz] at hg3; have hy := (hb3.block w2.heap.size (by rw [hsz]; omega)).trans (heap_alloc_new w2 (.cells #[.int .i64 6, .int .u8 96, .int .i64 40, .int .i64 4, .int .i64 40, .int .i64 8, .int .i64 24, .int .i64 16] 40)); have HB := Lib.hid (Below.next (Below.next HB.out (below_one (w := w2) (.cells #[.int .i64 6, .int .u8 96, .int .i64 40, .int .i64 4, .int .i64 40, .int .i64 8, .int .i64 24, .int .i64 16] 40))) hb3); have d0 : w3.cell? ⟨w2.heap.size + 1, 0, none⟩ = some (.int .u8 0) := (by rw [cells_at' hg3 (by simp; omega), rep_get]; rfl); have fz := fun i => free_of hg3 i; obtain ⟨c0, c1, c2, c3, c4, c5, c6, c7⟩ := cells8 hy; have HG := Lib.hid hg3; have HY := Lib.hid hy; clear hg3 hb3 hsz hy) | fail)
  have hg4 : (w3.setCell ⟨w2.heap.size + 1, 0, none⟩ (.int .u8 96)).heap[w2.heap.size + 1]? = some (.cells (cellsOf ((List.replicate (40 + qn) 0).set 0 96)).toArray 5 (0, 0)) := set_bytes HG.out rfl
  have hy4 : (w3.setCell ⟨w2.heap.size + 1, 0, none⟩ (.int .u8 96)).heap[w2.heap.size]? = some (.cells #[.int .i64 6, .int .u8 96, .int .i64 40, .int .i64 4, .int .i64 40, .int .i64 8, .int .i64 24, .int .i64 16] 40) := (heap_other (by omega)).trans HY.out
  have hb4 : Below w.heap.size w (w3.setCell ⟨w2.heap.size + 1, 0, none⟩ (.int .u8 96)) := HB.out.setCell (by show w.heap.size ≤ w2.heap.size + 1; have := HB0.out; omega) _
  clear d0 fz c0 c1 c2 c3 c4 c5 c6 c7 HG HY HB
  generalize w3.setCell ⟨w2.heap.size + 1, 0, none⟩ (.int .u8 96) = W4 at *
  obtain ⟨c0, c1, c2, c3, c4, c5, c6, c7⟩ := cells8 hy4
  have hti : (4 : Int) < 40 + qn := by omega
  have hti1 : (5 : Int) < 40 + qn := by omega
  have hw3 : IntKind.i64.wrap (5) = 5 := wrap_i64 (5) (by omega) (by omega)
  have hw8 : IntKind.u8.wrap ((40 + (qn : Int) - 40) / 256) = (40 + (qn : Int) - 40) / 256 := wrap_u8 _ (by omega) (by omega)
  have hw9 : IntKind.u8.wrap (40 + (qn : Int) - 40) = (40 + (qn : Int) - 40) % 256 := by rw [IntKind.wrap_u8]
  have hg4 : W4.drew.heap[w2.heap.size + 1]? = some (.cells (cellsOf ((List.replicate (40 + qn) 0).set 0 96)).toArray 5 (0, 0)) := hg4
  have hy4 : W4.drew.heap[w2.heap.size]? = some (.cells #[.int .i64 6, .int .u8 96, .int .i64 40, .int .i64 4, .int .i64 40, .int .i64 8, .int .i64 24, .int .i64 16] 40) := hy4
  have hb4 := hb4.drew
  have fz := fun i => free_of hg4 i
  have d1 := cells_at' (i := 4) hg4 (by simp; omega)
  have hA := set_bytes (i := 4) (x := (40 + (qn : Int) - 40) / 256) (y := UInt8.ofNat (qn / 256)) hg4 (by rw [UInt8.toNat_ofNat']; omega)
  have d3 := cells_at' (i := 5) hA (by simp; omega)
  have fz2 := fun i => free_of hA i
  have d3b : (W4.setCell ⟨w2.heap.size + 1, 4, none⟩ (.int .u8 ((40 + (qn : Int) - 40) / 256))).drew.cell? ⟨w2.heap.size + 1, 5, none⟩ = _ := d3
  have fz3 : ∀ i, (W4.setCell ⟨w2.heap.size + 1, 4, none⟩ (.int .u8 ((40 + (qn : Int) - 40) / 256))).drew.frozen? ⟨w2.heap.size + 1, i, none⟩ = false := fz2
  have hB := set_bytes (i := 5) (x := (40 + (qn : Int) - 40) % 256) (y := UInt8.ofNat (qn % 256)) hA (by rw [UInt8.toNat_ofNat']; omega)
  have hY := (heap_other (W := (W4.drew.setCell ⟨w2.heap.size + 1, 4, none⟩ (.int .u8 ((40 + (qn : Int) - 40) / 256)))) (g := w2.heap.size + 1) (k := 5) (v := (.int .u8 ((40 + (qn : Int) - 40) % 256))) (j := w2.heap.size) (by omega)).trans ((heap_other (by omega)).trans hy4)
  have hb5 := (hb4.setCell (p := ⟨w2.heap.size + 1, 4, none⟩) (by show w.heap.size ≤ w2.heap.size + 1; have := HB0.out; omega) (.int .u8 ((40 + (qn : Int) - 40) / 256))).setCell (p := ⟨w2.heap.size + 1, 5, none⟩) (by show w.heap.size ≤ w2.heap.size + 1; have := HB0.out; omega) (.int .u8 ((40 + (qn : Int) - 40) % 256))
  obtain ⟨c0, c1, c2, c3, c4, c5, c6, c7⟩ := cells8 hy4
  have HG := Lib.hid hB
  have HY := Lib.hid hY
  have HB := Lib.hid hb5
  have hne : w2.heap.size ≠ w2.heap.size + 1 := by omega
  clear hg4 hy4 hb4 hA hB hY hb5
  go_region_held3 (fun W => W.cell? ⟨w2.heap.size, 3, none⟩ = some (.int .i64 4)) (first | exact c3 | (show (W4.setCell _ _).cell? _ = _; rw [cell_set_ne hne]; exact c3) | (show ((W4.setCell _ _).setCell _ _).cell? _ = _; rw [cell_set_ne hne, cell_set_ne hne]; exact c3)) (fail)
  all_goals
    have hg6 : (((W4.setCell ⟨w2.heap.size + 1, 4, none⟩ (.int .u8 ((40 + (qn : Int) - 40) / 256))).setCell ⟨w2.heap.size + 1, 5, none⟩ (.int .u8 ((40 + (qn : Int) - 40) % 256))).drew).heap[w2.heap.size + 1]? = _ := HG.out
    have hy6 : (((W4.setCell ⟨w2.heap.size + 1, 4, none⟩ (.int .u8 ((40 + (qn : Int) - 40) / 256))).setCell ⟨w2.heap.size + 1, 5, none⟩ (.int .u8 ((40 + (qn : Int) - 40) % 256))).drew).heap[w2.heap.size]? = _ := HY.out
    have hb6 : Below w.heap.size w ((W4.setCell ⟨w2.heap.size + 1, 4, none⟩ (.int .u8 ((40 + (qn : Int) - 40) / 256))).setCell ⟨w2.heap.size + 1, 5, none⟩ (.int .u8 ((40 + (qn : Int) - 40) % 256))).drew := HB.out
    clear HG HY HB fz fz2 fz3 d1 d3 d3b c0 c1 c2 c3 c4 c5 c6 c7
    generalize ((W4.setCell ⟨w2.heap.size + 1, 4, none⟩ (.int .u8 ((40 + (qn : Int) - 40) / 256))).setCell ⟨w2.heap.size + 1, 5, none⟩ (.int .u8 ((40 + (qn : Int) - 40) % 256))).drew = W6 at *
    have hXl : (cellsOf ((((List.replicate (40 + qn) 0).set 0 96).set 4 (UInt8.ofNat (qn / 256))).set (5) (UInt8.ofNat (qn % 256)))).length = 40 + qn := by simp [cellsOf]
    obtain ⟨X, hX⟩ : ∃ X, X = cellsOf ((((List.replicate (40 + qn) 0).set 0 96).set 4 (UInt8.ofNat (qn / 256))).set (5) (UInt8.ofNat (qn % 256))) := ⟨_, rfl⟩
    rw [← hX] at hXl hg6
    have HX := Lib.hid hX
    clear hX
    obtain ⟨c0, c1, c2, c3, c4, c5, c6, c7⟩ := cells8 hy6
    have HG := Lib.hid hg6
    have HY := Lib.hid hy6
    have HB := Lib.hid hb6
    clear hg6 hy6 hb6
    go_wp2_with (first | (refine wpList_copy_splice rfl (.tmp 65) (.tmp 66) 22 22 rfl 5 Try.underlying22 (by kernel_rfl) _ _ _ _ _ _ rfl rfl (w2.heap.size + 1) 8 X 5 HG.out CS (by rw [hcs]; show _ = min _ _; omega) (fun _ => ⟨rfl, _, rfl, by rw [HCS.out]; exact bytes_at (HSV.out.below HB.out)⟩) (by omega) (by rw [HCS.out]; exact cells_one _) (w2.heap.size + 1) _ (Below.refl _ _) (Nat.le_refl _) ?_; intro W7 HG7 hb7; have hy := (hb7.block w2.heap.size (by omega)).trans HY.out; have HG := HG7; have HB := Lib.hid (HB.out.trans (hb7.mono (by have := HB0.out; omega))); have HY := Lib.hid hy; obtain ⟨c0, c1, c2, c3, c4, c5, c6, c7⟩ := cells8 hy; clear hb7 hy HG7) | (refine wpList_copy_splice rfl (.tmp 71) (.tmp 72) 22 22 rfl 5 Try.underlying22 (by kernel_rfl) _ _ _ _ _ _ rfl rfl (w2.heap.size + 1) 24 (splice X 8 CS) 5 HG.out CD (by rw [hcd]; show _ = min _ _; omega) (fun _ => ⟨rfl, _, rfl, by rw [HCD.out]; exact bytes_at (HDV.out.below HB.out)⟩) (by rw [length_splice _ _ _ (by omega)]; omega) (by rw [HCD.out]; exact cells_one _) (w2.heap.size + 1) _ (Below.refl _ _) (Nat.le_refl _) ?_; intro W7 HG7 hb7; have hy := (hb7.block w2.heap.size (by omega)).trans HY.out; have HG := HG7; have HB := Lib.hid (HB.out.trans (hb7.mono (by have := HB0.out; omega))); have HY := Lib.hid hy; obtain ⟨c0, c1, c2, c3, c4, c5, c6, c7⟩ := cells8 hy; clear hb7 hy HG7) | (refine wpList_copy_splice rfl (.tmp 77) (.tmp 78) 22 22 rfl 5 Try.underlying22 (by kernel_rfl) _ _ _ _ _ _ rfl rfl (w2.heap.size + 1) 40 (splice (splice X 8 CS) 24 CD) 5 HG.out CQ (by rw [hcq]; show _ = min _ _; omega) (fun h0 => by first | exact absurd h0 (by omega) | (obtain ⟨qb, qo, hq'⟩ := HQA.out (by omega); have hv := HQV.out.below HB.out; rw [hq'] at hv; exact ⟨(by first | rfl | exact if_neg (by omega)), _, hq', by rw [HCQ.out]; exact bytes_at hv⟩)) (by rw [length_splice _ _ _ (by rw [length_splice _ _ _ (by omega)]; omega), length_splice _ _ _ (by omega)]; omega) (by rw [HCQ.out]; exact cells_one _) (w2.heap.size + 1) _ (Below.refl _ _) (Nat.le_refl _) ?_; intro W7 HG7 hb7; have hy := (hb7.block w2.heap.size (by omega)).trans HY.out; have HG := HG7; have HB := Lib.hid (HB.out.trans (hb7.mono (by have := HB0.out; omega))); have HY := Lib.hid hy; obtain ⟨c0, c1, c2, c3, c4, c5, c6, c7⟩ := cells8 hy; clear hb7 hy HG7) | fail)
    all_goals
      go_ret2
      have hfin := HG.out
      rw [HX.out, HCS.out, HCD.out, HCQ.out, fin_6 s d q H16.out HDN.out qn HQN.out] at hfin
      have hlen : (headOf true qn ++ (s ++ (d ++ q))).length = 40 + qn := by have h1 := H16.out; have h2 := HDN.out; have h3 := HQN.out; simp [headOf]; omega
      have hby := bytes_blk (cp := 40 + qn) hfin
      refine ⟨some ⟨w2.heap.size + 1, 0, none⟩, 40 + qn, ?_, ?_, (fun n cap h => by cases h), ?_, ?_, HB.out⟩
      · rw [HRR.out]
        show _ = Ending.returned (.tuple #[.slice _ (headOf true qn ++ (s ++ (d ++ q))).length _, _])
        rw [hlen]
        first | rfl | (have h0 : qn = 0 := by assumption
                       rw [h0]; done) | (have h0 : qn = 0 := by assumption
                                         rw [h0]; rfl)
      · rw [HRR.out]; exact hby
      · rw [HRR.out]
        show (headOf true qn ++ (s ++ (d ++ q))).length ≤ _
        rw [hlen]; exact Nat.le_refl _
      · unfold maxLen; omega
end Go.Proofs.Ytkhomjbggfjleaa
