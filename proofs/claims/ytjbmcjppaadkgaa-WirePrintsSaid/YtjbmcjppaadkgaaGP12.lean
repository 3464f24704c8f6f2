/- Texts of this seat, merged: WireM1, Wire26, Wire27, Wire28. -/
import Derived.Test.YtjbmcjppaadkgaaGP11
namespace Go.Proofs.Ytjbmcjppaadkgaa
set_option linter.unusedVariables false
set_option linter.unusedSimpArgs false
set_option maxRecDepth 100000
open Go.RowKit
theorem valB_inj : ∀ (a b : List UInt8), a.length = b.length → valB a = valB b → a = b
  | [], [], _, _ => rfl
  | x :: a, y :: b, h, hv => by
    simp only [valB] at hv
    have hx := UInt8.toNat_lt x
    have hy := UInt8.toNat_lt y
    have h1 : x.toNat = y.toNat := by omega
    have h2 : valB a = valB b := by omega
    rw [UInt8.toNat_inj.1 h1, valB_inj a b (by simpa using h) h2]
  | [], _ :: _, h, _ => by simp at h
  | _ :: _, [], h, _ => by simp at h
theorem num_val (a : List UInt8) : numB (valB a) a.length = a :=
  valB_inj _ _ (numB_len _ _) (valB_num a.length (valB a) (valB_lt a))
def numC : Fd → List Nat
  | .n4 c => [c]
  | .n8 c => [c]
  | _ => []
def txtC : Fd → List Nat
  | .t c => [c]
  | _ => []
def numCs (fs : List Fd) : List Nat := fs.flatMap numC
def txtCs (fs : List Fd) : List Nat := fs.flatMap txtC
def FdDist : List Fd → Prop
  | [] => True
  | f :: fs => (∀ c ∈ numC f, c ∉ numCs fs) ∧ (∀ c ∈ txtC f, c ∉ txtCs fs) ∧ FdDist fs
theorem zr_ok : ∀ (n : Nat) (l l' : List UInt8), zr n l = (0, l') → l = List.replicate n 0 ++ l'
  | 0, l, l', h => by cases h; rfl
  | n + 1, [], l', h => by cases h
  | n + 1, x :: r, l', h => by
    simp only [zr] at h
    split at h
    · rename_i hx
      subst hx
      rw [zr_ok n r l' h]; rfl
    · cases h
theorem upd_same {α : Type} (f : Nat → α) (c : Nat) (v : α) : upd f c v c = v := by simp [upd]
theorem upd_other {α : Type} (f : Nat → α) {c d : Nat} (v : α) (h : d ≠ c) : upd f c v d = f d := by simp [upd, h]
theorem take_bsub (l : List UInt8) {n : Nat} (h : ¬ l.length < 2 + n) : l.take 2 ++ bsub l 2 (2 + n) ++ l.drop (2 + n) = l := by
  unfold bsub
  rw [Nat.add_sub_cancel_left, List.append_assoc]
  have h2 : (l.drop 2).take n ++ l.drop (2 + n) = l.drop 2 := by
    rw [← List.drop_drop]
    exact List.take_append_drop n (l.drop 2)
  rw [h2, List.take_append_drop]
/-- one field: what it leaves as it was; what it prints is what it took -/
theorem rF_ok (f : Fd) (l l' : List UInt8) (N N' : Nat → Nat) (X X' : Nat → ByteArray) (h : rF N X f l = (0, l', N', X')) :
    (∀ c, c ∉ numC f → N' c = N c) ∧ (∀ c, c ∉ txtC f → X' c = X c) ∧ (NumOk N → FdOk f → NumOk N') ∧
    (∀ (Nf : Nat → Nat) (Xf : Nat → ByteArray), (∀ c ∈ numC f, Nf c = N' c) → (∀ c ∈ txtC f, Xf c = X' c) → ∃ a, l = a ++ l' ∧ ∀ L, pF Nf Xf f L = (0, L ++ a)) := by
  cases f with
  | z =>
    simp only [rF, Prod.mk.injEq] at h
    obtain ⟨h1, h2, rfl, rfl⟩ := h
    have hz : zr 3 l = (0, l') := Prod.ext h1 h2
    refine ⟨fun _ _ => rfl, fun _ _ => rfl, fun hN _ => hN, fun Nf Xf _ _ => ⟨List.replicate 3 0, zr_ok 3 l l' hz, fun L => rfl⟩⟩
  | n4 c =>
    simp only [rF, rdNum] at h
    split at h
    · cases h
    rename_i hl
    simp only [Prod.mk.injEq] at h
    obtain ⟨_, rfl, rfl, rfl⟩ := h
    have hlt := valB_lt (l.take 4)
    have hlen : (l.take 4).length = 4 := by rw [List.length_take]; omega
    rw [hlen] at hlt
    refine ⟨fun d hd => upd_other _ _ (by simpa [numC] using hd), fun _ _ => rfl, fun hN hok => ?_, fun Nf Xf hn _ => ⟨l.take 4, (List.take_append_drop 4 l).symm, fun L => ?_⟩⟩
    · rcases hok with rfl | rfl
      · exact ⟨by rw [upd_same]; exact hlt, by rw [upd_other _ _ (by decide)]; exact hN.n2, by rw [upd_other _ _ (by decide)]; exact hN.n3⟩
      · exact ⟨by rw [upd_other _ _ (by decide)]; exact hN.n1, by rw [upd_same]; exact hlt, by rw [upd_other _ _ (by decide)]; exact hN.n3⟩
    · have hc := hn c (by simp [numC])
      rw [upd_same] at hc
      have := num_val (l.take 4)
      rw [hlen] at this
      simp only [pF, hc, this]
  | n8 c =>
    simp only [rF, rdNum] at h
    split at h
    · cases h
    rename_i hl
    simp only [Prod.mk.injEq] at h
    obtain ⟨_, rfl, rfl, rfl⟩ := h
    have hlt := valB_lt (l.take 8)
    have hlen : (l.take 8).length = 8 := by rw [List.length_take]; omega
    rw [hlen] at hlt
    refine ⟨fun d hd => upd_other _ _ (by simpa [numC] using hd), fun _ _ => rfl, fun hN hok => ?_, fun Nf Xf hn _ => ⟨l.take 8, (List.take_append_drop 8 l).symm, fun L => ?_⟩⟩
    · obtain rfl : c = 3 := hok
      exact ⟨by rw [upd_other _ _ (by decide)]; exact hN.n1, by rw [upd_other _ _ (by decide)]; exact hN.n2, by rw [upd_same]; exact hlt⟩
    · have hc := hn c (by simp [numC])
      rw [upd_same] at hc
      have := num_val (l.take 8)
      rw [hlen] at this
      simp only [pF, hc, this]
  | t c =>
    simp only [rF, rdTxt] at h
    split at h
    · cases h
    rename_i hno
    unfold cutTxt at h
    split at h
    · cases h
    split at h
    · cases h
    rename_i h2 hn
    simp only [Prod.mk.injEq] at h
    obtain ⟨_, rfl, rfl, rfl⟩ := h
    refine ⟨fun _ _ => rfl, fun d hd => upd_other _ _ (by simpa [txtC] using hd), fun hN _ => hN, fun Nf Xf _ hx => ⟨l.take 2 ++ bsub l 2 (2 + valB (l.take 2)), (take_bsub l hn).symm, fun L => ?_⟩⟩
    have hc := hx c (by simp [txtC])
    rw [upd_same] at hc
    have hlen : (l.take 2).length = 2 := by rw [List.length_take]; omega
    have hlt := valB_lt (l.take 2)
    rw [hlen] at hlt
    have hnv := num_val (l.take 2)
    rw [hlen] at hnv
    have hbl : (bsub l 2 (2 + valB (l.take 2))).length = valB (l.take 2) := by rw [bsub_len (by omega)]; omega
    simp only [pF, hc, strB_size, hbl]
    rw [if_neg (by omega), hnv]
    simp [strB]
theorem rAll_ok : ∀ (fs : List Fd) (l l' : List UInt8) (N N' : Nat → Nat) (X X' : Nat → ByteArray), rAll fs l N X = (0, l', N', X') → (∀ f ∈ fs, FdOk f) →
    (∀ c, c ∉ numCs fs → N' c = N c) ∧ (∀ c, c ∉ txtCs fs → X' c = X c) ∧ (NumOk N → NumOk N') ∧ (FdDist fs → ∃ a, l = a ++ l' ∧ ∀ L, pAll N' X' fs L = (0, L ++ a))
  | [], l, l', N, N', X, X', h, _ => by
    cases h
    exact ⟨fun _ _ => rfl, fun _ _ => rfl, fun h => h, fun _ => ⟨[], rfl, fun L => by simp [pAll]⟩⟩
  | f :: fs, l, l', N, N', X, X', h, hok => by
    unfold rAll at h
    split at h
    · rename_i h0
      obtain ⟨R, hR⟩ : ∃ R, rF N X f l = R := ⟨_, rfl⟩
      obtain ⟨e, l1, N1, X1⟩ := R
      rw [hR] at h h0
      dsimp only at h h0
      subst h0
      obtain ⟨a1, a2, a3, a4⟩ := rF_ok f l l1 N N1 X X1 hR
      obtain ⟨b1, b2, b3, b4⟩ := rAll_ok fs l1 l' N1 N' X1 X' h (fun g hg => hok g (List.mem_cons_of_mem _ hg))
      refine ⟨fun c hc => ?_, fun c hc => ?_, fun hN => b3 (a3 hN (hok f (List.mem_cons_self ..))), fun hd => ?_⟩
      · simp only [numCs, List.flatMap_cons, List.mem_append, not_or] at hc
        rw [b1 c hc.2, a1 c hc.1]
      · simp only [txtCs, List.flatMap_cons, List.mem_append, not_or] at hc
        rw [b2 c hc.2, a2 c hc.1]
      · obtain ⟨a, ha, hp⟩ := a4 N' X' (fun c hc => b1 c (hd.1 c hc)) (fun c hc => b2 c (hd.2.1 c hc))
        obtain ⟨a', ha', hp'⟩ := b4 hd.2.2
        refine ⟨a ++ a', by rw [ha, ha', List.append_assoc], fun L => ?_⟩
        unfold pAll
        rw [hp L]
        simp only [if_true]
        rw [hp' (L ++ a), List.append_assoc]
    · rename_i h0
      rw [h] at h0
      exact absurd rfl h0
theorem fsOf_dist (k : Nat) : FdDist (fsOf k) := by
  unfold fsOf
  split; · simp [FdDist, numC, txtC, numCs, txtCs]
  split; · simp [FdDist, numC, txtC, numCs, txtCs]
  split; · simp [FdDist, numC, txtC, numCs, txtCs]
  split <;> simp [FdDist, numC, txtC, numCs, txtCs]
theorem N0_ok : NumOk N0 := ⟨by decide, by decide, by decide⟩
/-- what is read -/
theorem readS_ok {l : List UInt8} {k : Int} {N : Nat → Nat} {X : Nat → ByteArray} (h : readS l = (0, k, N, X)) :
    ∃ x r, l = x :: r ∧ k = (x.toNat : Nat) ∧ fsOf x.toNat ≠ [] ∧ rAll (fsOf x.toNat) r N0 X0 = (0, [], N, X) := by
  cases l with
  | nil => cases h
  | cons x r =>
    refine ⟨x, r, rfl, ?_⟩
    by_cases hk : fsOf x.toNat = []
    · have h' : readS (x :: r) = (3, 0, N0, X0) := if_pos hk
      rw [h'] at h
      cases h
    · have h' : readS (x :: r) = readR x (rAll (fsOf x.toNat) r N0 X0) := if_neg hk
      rw [h'] at h
      refine (fun (g : ((k = (x.toNat : Nat)) ∧ rAll (fsOf x.toNat) r N0 X0 = (0, [], N, X))) => ⟨g.1, hk, g.2⟩) ?_
      generalize rAll (fsOf x.toNat) r N0 X0 = R at h ⊢
      obtain ⟨e, l, N1, X1⟩ := R
      by_cases he : e = 0
      · subst he
        by_cases hl : 0 < l.length
        · have h2 : readR x (0, l, N1, X1) = (5, 0, N0, X0) := by unfold readR; rw [if_neg (by simp), if_pos hl]
          rw [h2] at h
          cases h
        · have h2 : readR x (0, l, N1, X1) = (0, ((x.toNat : Nat) : Int), N1, X1) := by unfold readR; rw [if_neg (by simp), if_neg hl]
          rw [h2] at h
          obtain rfl : l = [] := List.length_eq_zero_iff.1 (by omega)
          simp only [Prod.mk.injEq] at h
          obtain ⟨_, h3, rfl, rfl⟩ := h
          exact ⟨h3.symm, rfl⟩
      · have h2 : readR x (e, l, N1, X1) = (e, 0, N0, X0) := if_pos he
        rw [h2] at h
        simp only [Prod.mk.injEq] at h
        exact absurd h.1 he
theorem fsOf_range {n : Nat} (h : fsOf n ≠ []) : 1 ≤ n ∧ n ≤ 4 := by
  have : ¬ (n ≠ 1 ∧ n ≠ 2 ∧ n ≠ 3 ∧ n ≠ 4) := fun g => h (by unfold fsOf; rw [if_neg g.1, if_neg g.2.1, if_neg g.2.2.1, if_neg g.2.2.2])
  omega
theorem kindB_nat {n : Nat} (h1 : 1 ≤ n) (h4 : n ≤ 4) : kindB ((n : Nat) : Int) = n := by
  unfold kindB
  rw [if_pos (by omega)]
  exact Int.toNat_natCast n
theorem ofNat_toNat8 (x : UInt8) : UInt8.ofNat x.toNat = x := UInt8.toNat_inj.1 (by rw [UInt8.toNat_ofNat', Nat.mod_eq_of_lt (UInt8.toNat_lt x)])
theorem read_print {l : List UInt8} {k : Int} {N : Nat → Nat} {X : Nat → ByteArray} (h : readS l = (0, k, N, X)) : NumOk N ∧ printS k N X = (0, l) := by
  obtain ⟨x, r, rfl, rfl, hk, hr⟩ := readS_ok h
  obtain ⟨h1, h4⟩ := fsOf_range hk
  obtain ⟨_, _, hN, hp⟩ := rAll_ok _ _ _ _ _ _ _ hr (fsOf_ok _)
  refine ⟨hN N0_ok, ?_⟩
  obtain ⟨a, ha, hpa⟩ := hp (fsOf_dist _)
  rw [List.append_nil] at ha
  subst ha
  unfold printS
  rw [kindB_nat h1 h4, if_neg (by omega), ofNat_toNat8, hpa [x]]
  unfold printP
  rw [if_neg (by simp)]
  show printR _ N X (x :: r) (readS (x :: r)) = _
  rw [h]
  unfold printR
  exact if_neg (fun h => h.elim (fun h => h rfl) (fun h => h ⟨rfl, rfl, rfl, rfl, rfl, rfl, rfl, rfl, rfl, rfl, rfl, rfl, rfl⟩))
end Go.Proofs.Ytjbmcjppaadkgaa

namespace Go.Proofs.Ytjbmcjppaadkgaa
set_option linter.unusedVariables false
set_option linter.unusedSimpArgs false
set_option maxRecDepth 100000
open Go.RowKit
def txtsX (X : Nat → ByteArray) (cs : List Nat) : List (List UInt8) := cs.map fun c => (X c).data.toList
theorem vals_txts (X : Nat → ByteArray) (cs : List Nat) : valsX X cs = (txtsX X cs).map strV := by
  simp [valsX, txtsX, strv_self]
def headT (kn : Nat) (N : Nat → Nat) : List (List UInt8) := [numT kn, numT (N 1), numT (N 2)]
def bodyT (kn : Nat) (N : Nat → Nat) (X : Nat → ByteArray) : List UInt8 := listT (headT kn N ++ (txtsX X (cellsX (fsOf kn))).take ((txtsX X (cellsX (fsOf kn))).length - 2))
def bodyS (k : Int) (N : Nat → Nat) (X : Nat → ByteArray) : List UInt8 := if (k = 1 ∨ k = 2) ∧ (printS k N X).1 = 0 then bodyT (kindB k) N X else []
theorem body_kind (k : Int) (N : Nat → Nat) (X : Nat → ByteArray) (w : World) (h1 : k ≠ 1) (h2 : k ≠ 2) : Calls Try.prog 10 #[.agg #[.int .i64 k, .int .u32 (N 1 : Nat), .int .u32 (N 2 : Nat), .int .u64 (N 3 : Nat), .string (X 4), .string (X 5), .string (X 6), .string (X 7), .string (X 8), .string (X 9), .string (X 10), .string (X 11), .string (X 12)]] w fun e w' => e = .returned (.string (strB (bodyS k N X))) ∧ Below w.heap.size w w' := by
  have HZ : Hid (bodyS k N X = []) := Lib.hid (if_neg (fun h => h.1.elim h1 h2))
  have hx := heap_alloc_new w (.cells #[.int .i64 k, .int .u32 (N 1 : Nat), .int .u32 (N 2 : Nat), .int .u64 (N 3 : Nat), .string (X 4), .string (X 5), .string (X 6), .string (X 7), .string (X 8), .string (X 9), .string (X 10), .string (X 11), .string (X 12)] 25)
  have c0 : (w.alloc (.cells #[.int .i64 k, .int .u32 (N 1 : Nat), .int .u32 (N 2 : Nat), .int .u64 (N 3 : Nat), .string (X 4), .string (X 5), .string (X 6), .string (X 7), .string (X 8), .string (X 9), .string (X 10), .string (X 11), .string (X 12)] 25)).cell? ⟨w.heap.size, 0, none⟩ = some (.int .i64 k) := cell_of hx 0 rfl
  have e1 : (k != 1) = true := bnet h1
  have e2 : (k != 2) = true := bnet h2
  clear h1 h2 hx
  go_enter Try.func10, Try.ntmps10
  go_wp2_with fail
  go_ret
  rw [HZ.out]
  exact ⟨rfl, below_one _⟩
theorem slice_strs {w : World} {base g c n : Nat} {T : List (List UInt8)} (h : w.ownsRow base 9 1 (.slice (some ⟨g, 0, none⟩) T.length c) T.length (T.map strV)) (m : Nat) (hm : m ≤ T.length) (hn : n = m) : Strs w (.slice (some ⟨g, 0, none⟩) n c) (T.take m) := by
  subst hn
  refine ⟨_, _, by rw [List.length_take, Nat.min_eq_left hm], fun h => (by cases h), .inr ⟨g, 0, rfl, fun i hi => ?_⟩⟩
  rw [List.length_take] at hi
  rw [Nat.zero_add, h.cellAt i (by omega), List.getElem?_map]
  have : i < T.length := by omega
  simp only [List.getD, List.getElem?_take]
  rw [if_pos (by omega), List.getElem?_eq_getElem this]; rfl
theorem drew_below {B : Nat} {a b : World} (h : Below B a b) : Below B a b.drew := h.drew
def CatRet (W : World) (kn : Nat) (N : Nat → Nat) (T : List (List UInt8)) (e : Ending) (w' : World) : Prop := ∃ v, e = .returned v ∧ Strs w' v (headT kn N ++ T.take (T.length - 2)) ∧ Below W.heap.size W w'
theorem body_cat (W : World) (kn : Nat) (N : Nat → Nat) (T : List (List UInt8)) (base gt qt : Nat) (hrow : W.ownsRow base 9 1 (.slice (some ⟨gt, 0, none⟩) T.length qt) T.length (T.map strV)) (h5 : T.length ≤ 5) :
    Calls Try.prog 27 #[.slice (some ⟨W.heap.size + 1, 0, none⟩) 2 2] ((W.alloc (.cells #[.string (strB (numT kn)), .string (strB (numT (N 1))), .string (strB (numT (N 2)))] 9)).alloc (.cells #[.slice (some ⟨W.heap.size, 0, none⟩) 3 3, .slice (some ⟨gt, 0, none⟩) (T.length - 2) qt] 33)) (CatRet W kn N T) := by
  have hb : Below W.heap.size W ((W.alloc (.cells #[.string (strB (numT kn)), .string (strB (numT (N 1))), .string (strB (numT (N 2)))] 9)).alloc (.cells #[.slice (some ⟨W.heap.size, 0, none⟩) 3 3, .slice (some ⟨gt, 0, none⟩) (T.length - 2) qt] 33)) := Below.next (below_one _) (below_one _)
  have hd1 : ((W.alloc (.cells #[.string (strB (numT kn)), .string (strB (numT (N 1))), .string (strB (numT (N 2)))] 9)).alloc (.cells #[.slice (some ⟨W.heap.size, 0, none⟩) 3 3, .slice (some ⟨gt, 0, none⟩) (T.length - 2) qt] 33)).heap[W.heap.size]? = some (.cells #[.string (strB (numT kn)), .string (strB (numT (N 1))), .string (strB (numT (N 2)))] 9 (0, 0)) := (Below.heap_alloc _ _ _ (by simp)).trans (heap_alloc_new W _)
  have s1 : Strs ((W.alloc (.cells #[.string (strB (numT kn)), .string (strB (numT (N 1))), .string (strB (numT (N 2)))] 9)).alloc (.cells #[.slice (some ⟨W.heap.size, 0, none⟩) 3 3, .slice (some ⟨gt, 0, none⟩) (T.length - 2) qt] 33)) (.slice (some ⟨W.heap.size, 0, none⟩) 3 3) (headT kn N) := strs_blk (l := headT kn N) hd1
  have s2 : Strs ((W.alloc (.cells #[.string (strB (numT kn)), .string (strB (numT (N 1))), .string (strB (numT (N 2)))] 9)).alloc (.cells #[.slice (some ⟨W.heap.size, 0, none⟩) 3 3, .slice (some ⟨gt, 0, none⟩) (T.length - 2) qt] 33)) (.slice (some ⟨gt, 0, none⟩) (T.length - 2) qt) (T.take (T.length - 2)) := slice_strs (ownsRow_below hrow hb) (T.length - 2) (by omega) rfl
  have hc := concat_any (W.heap.size + 1) _ _ (headT kn N) (T.take (T.length - 2)) _ (cell_of (new2 W (.cells #[.string (strB (numT kn)), .string (strB (numT (N 1))), .string (strB (numT (N 2)))] 9) (.cells #[.slice (some ⟨W.heap.size, 0, none⟩) 3 3, .slice (some ⟨gt, 0, none⟩) (T.length - 2) qt] 33)) 0 rfl) (cell_of (new2 W (.cells #[.string (strB (numT kn)), .string (strB (numT (N 1))), .string (strB (numT (N 2)))] 9) (.cells #[.slice (some ⟨W.heap.size, 0, none⟩) 3 3, .slice (some ⟨gt, 0, none⟩) (T.length - 2) qt] 33)) 1 rfl) s1 s2 (by simp [headT]) (by simp [headT]) (by simp; omega)
  refine hc.mono ?_
  rintro e w' ⟨v, rfl, h1, h2⟩
  rw [← List.length_append] at h1
  exact ⟨v, rfl, strs_own h1, Below.next hb h2⟩
set_option maxHeartbeats 2000000 in
theorem body_x (k : Int) (kn : Nat) (N : Nat → Nat) (X : Nat → ByteArray) (w : World) (hkn : k = (kn : Nat)) (h1 : 1 ≤ kn) (h4 : kn ≤ 2) (hN : NumOk N) (hf : (k != 1) = false ∨ ((k != 1) = true ∧ (k != 2) = false)) : Calls Try.prog 10 #[.agg #[.int .i64 k, .int .u32 (N 1 : Nat), .int .u32 (N 2 : Nat), .int .u64 (N 3 : Nat), .string (X 4), .string (X 5), .string (X 6), .string (X 7), .string (X 8), .string (X 9), .string (X 10), .string (X 11), .string (X 12)]] w fun e w' => e = .returned (.string (strB (bodyS k N X))) ∧ Below w.heap.size w w' := by
  have hx := heap_alloc_new w (.cells #[.int .i64 k, .int .u32 (N 1 : Nat), .int .u32 (N 2 : Nat), .int .u64 (N 3 : Nat), .string (X 4), .string (X 5), .string (X 6), .string (X 7), .string (X 8), .string (X 9), .string (X 10), .string (X 11), .string (X 12)] 25)
  have c0 : (w.alloc (.cells #[.int .i64 k, .int .u32 (N 1 : Nat), .int .u32 (N 2 : Nat), .int .u64 (N 3 : Nat), .string (X 4), .string (X 5), .string (X 6), .string (X 7), .string (X 8), .string (X 9), .string (X 10), .string (X 11), .string (X 12)] 25)).cell? ⟨w.heap.size, 0, none⟩ = some (.int .i64 k) := cell_of hx 0 rfl; have c1 : (w.alloc (.cells #[.int .i64 k, .int .u32 (N 1 : Nat), .int .u32 (N 2 : Nat), .int .u64 (N 3 : Nat), .string (X 4), .string (X 5), .string (X 6), .string (X 7), .string (X 8), .string (X 9), .string (X 10), .string (X 11), .string (X 12)] 25)).cell? ⟨w.heap.size, 1, none⟩ = some (.int .u32 (N 1 : Nat)) := cell_of hx 1 rfl; have c2 : (w.alloc (.cells #[.int .i64 k, .int .u32 (N 1 : Nat), .int .u32 (N 2 : Nat), .int .u64 (N 3 : Nat), .string (X 4), .string (X 5), .string (X 6), .string (X 7), .string (X 8), .string (X 9), .string (X 10), .string (X 11), .string (X 12)] 25)).cell? ⟨w.heap.size, 2, none⟩ = some (.int .u32 (N 2 : Nat)) := cell_of hx 2 rfl; have c3 : (w.alloc (.cells #[.int .i64 k, .int .u32 (N 1 : Nat), .int .u32 (N 2 : Nat), .int .u64 (N 3 : Nat), .string (X 4), .string (X 5), .string (X 6), .string (X 7), .string (X 8), .string (X 9), .string (X 10), .string (X 11), .string (X 12)] 25)).cell? ⟨w.heap.size, 3, none⟩ = some (.int .u64 (N 3 : Nat)) := cell_of hx 3 rfl; have c4 : (w.alloc (.cells #[.int .i64 k, .int .u32 (N 1 : Nat), .int .u32 (N 2 : Nat), .int .u64 (N 3 : Nat), .string (X 4), .string (X 5), .string (X 6), .string (X 7), .string (X 8), .string (X 9), .string (X 10), .string (X 11), .string (X 12)] 25)).cell? ⟨w.heap.size, 4, none⟩ = some (.string (X 4)) := cell_of hx 4 rfl; have c5 : (w.alloc (.cells #[.int .i64 k, .int .u32 (N 1 : Nat), .int .u32 (N 2 : Nat), .int .u64 (N 3 : Nat), .string (X 4), .string (X 5), .string (X 6), .string (X 7), .string (X 8), .string (X 9), .string (X 10), .string (X 11), .string (X 12)] 25)).cell? ⟨w.heap.size, 5, none⟩ = some (.string (X 5)) := cell_of hx 5 rfl; have c6 : (w.alloc (.cells #[.int .i64 k, .int .u32 (N 1 : Nat), .int .u32 (N 2 : Nat), .int .u64 (N 3 : Nat), .string (X 4), .string (X 5), .string (X 6), .string (X 7), .string (X 8), .string (X 9), .string (X 10), .string (X 11), .string (X 12)] 25)).cell? ⟨w.heap.size, 6, none⟩ = some (.string (X 6)) := cell_of hx 6 rfl; have c7 : (w.alloc (.cells #[.int .i64 k, .int .u32 (N 1 : Nat), .int .u32 (N 2 : Nat), .int .u64 (N 3 : Nat), .string (X 4), .string (X 5), .string (X 6), .string (X 7), .string (X 8), .string (X 9), .string (X 10), .string (X 11), .string (X 12)] 25)).cell? ⟨w.heap.size, 7, none⟩ = some (.string (X 7)) := cell_of hx 7 rfl; have c8 : (w.alloc (.cells #[.int .i64 k, .int .u32 (N 1 : Nat), .int .u32 (N 2 : Nat), .int .u64 (N 3 : Nat), .string (X 4), .string (X 5), .string (X 6), .string (X 7), .string (X 8), .string (X 9), .string (X 10), .string (X 11), .string (X 12)] 25)).cell? ⟨w.heap.size, 8, none⟩ = some (.string (X 8)) := cell_of hx 8 rfl; have c9 : (w.alloc (.cells #[.int .i64 k, .int .u32 (N 1 : Nat), .int .u32 (N 2 : Nat), .int .u64 (N 3 : Nat), .string (X 4), .string (X 5), .string (X 6), .string (X 7), .string (X 8), .string (X 9), .string (X 10), .string (X 11), .string (X 12)] 25)).cell? ⟨w.heap.size, 9, none⟩ = some (.string (X 9)) := cell_of hx 9 rfl; have c10 : (w.alloc (.cells #[.int .i64 k, .int .u32 (N 1 : Nat), .int .u32 (N 2 : Nat), .int .u64 (N 3 : Nat), .string (X 4), .string (X 5), .string (X 6), .string (X 7), .string (X 8), .string (X 9), .string (X 10), .string (X 11), .string (X 12)] 25)).cell? ⟨w.heap.size, 10, none⟩ = some (.string (X 10)) := cell_of hx 10 rfl; have c11 : (w.alloc (.cells #[.int .i64 k, .int .u32 (N 1 : Nat), .int .u32 (N 2 : Nat), .int .u64 (N 3 : Nat), .string (X 4), .string (X 5), .string (X 6), .string (X 7), .string (X 8), .string (X 9), .string (X 10), .string (X 11), .string (X 12)] 25)).cell? ⟨w.heap.size, 11, none⟩ = some (.string (X 11)) := cell_of hx 11 rfl; have c12 : (w.alloc (.cells #[.int .i64 k, .int .u32 (N 1 : Nat), .int .u32 (N 2 : Nat), .int .u64 (N 3 : Nat), .string (X 4), .string (X 5), .string (X 6), .string (X 7), .string (X 8), .string (X 9), .string (X 10), .string (X 11), .string (X 12)] 25)).cell? ⟨w.heap.size, 12, none⟩ = some (.string (X 12)) := cell_of hx 12 rfl
  have htm := wterms_any k N X (w.alloc (.cells #[.int .i64 k, .int .u32 (N 1 : Nat), .int .u32 (N 2 : Nat), .int .u64 (N 3 : Nat), .string (X 4), .string (X 5), .string (X 6), .string (X 7), .string (X 8), .string (X 9), .string (X 10), .string (X 11), .string (X 12)] 25)) hN
  unfold TermsW at htm
  have hkb : kindB k = kn := by rw [hkn]; exact kindB_nat h1 (by omega)
  rw [hkb] at htm
  have hbz : (printS k N X).1 ≠ 0 → bodyS k N X = [] := fun h => if_neg (fun g => h g.2)
  have hby : (printS k N X).1 = 0 → bodyS k N X = bodyT kn N X := fun h => by
    have : bodyS k N X = bodyT (kindB k) N X := if_pos ⟨by omega, h⟩
    rw [this, hkb]
  generalize printS k N X = R at *
  obtain ⟨rc, rl⟩ := R
  dsimp only at htm hbz hby
  obtain ⟨T, hT⟩ : ∃ T, txtsX X (cellsX (fsOf kn)) = T := ⟨_, rfl⟩
  have hTl : 4 ≤ T.length ∧ T.length ≤ 5 := by
    rw [← hT]
    have : kn = 1 ∨ kn = 2 := by omega
    rcases this with rfl | rfl <;> exact ⟨by simp [txtsX, cellsX, fsOf], by simp [txtsX, cellsX, fsOf]⟩
  rw [vals_txts, hT] at htm
  have HTM : Hid (Calls Try.prog 9 #[.agg #[.int .i64 k, .int .u32 (N 1 : Nat), .int .u32 (N 2 : Nat), .int .u64 (N 3 : Nat), .string (X 4), .string (X 5), .string (X 6), .string (X 7), .string (X 8), .string (X 9), .string (X 10), .string (X 11), .string (X 12)]] (w.alloc (.cells #[.int .i64 k, .int .u32 (N 1 : Nat), .int .u32 (N 2 : Nat), .int .u64 (N 3 : Nat), .string (X 4), .string (X 5), .string (X 6), .string (X 7), .string (X 8), .string (X 9), .string (X 10), .string (X 11), .string (X 12)] 25)) fun e w' => ∃ v, e = .returned v ∧ (rc ≠ 0 → v = .slice none 0 0) ∧ (rc = 0 → ∃ base, w'.ownsRow base 9 1 v T.length (T.map strV)) ∧ Below (w.alloc (.cells #[.int .i64 k, .int .u32 (N 1 : Nat), .int .u32 (N 2 : Nat), .int .u64 (N 3 : Nat), .string (X 4), .string (X 5), .string (X 6), .string (X 7), .string (X 8), .string (X 9), .string (X 10), .string (X 11), .string (X 12)] 25)).heap.size (w.alloc (.cells #[.int .i64 k, .int .u32 (N 1 : Nat), .int .u32 (N 2 : Nat), .int .u64 (N 3 : Nat), .string (X 4), .string (X 5), .string (X 6), .string (X 7), .string (X 8), .string (X 9), .string (X 10), .string (X 11), .string (X 12)] 25)) w') := Lib.hid (htm.mono (by
    rintro e w' ⟨v, a1, a2, a3, a4⟩
    refine ⟨v, a1, a2, fun h => ?_, a4⟩
    obtain ⟨b, hb⟩ := a3 h
    unfold RowX at hb
    rw [List.length_map] at hb
    exact ⟨b, hb⟩))
  clear htm
  have hl4 : (4 : Int) ≤ T.length := by omega
  have hl5 : (T.length : Int) ≤ 5 := by omega
  have hl0 : ¬ (T.length : Int) = 0 := by omega
  have HTL := Lib.hid hTl
  by_cases he : rc = 0
  · subst he
    have HZ := Lib.hid (hby rfl)
    have hwk : IntKind.u64.wrap k = k := wrap_u64 _ (by omega) (by omega)
    have hw1 := wrap_u64 (N 1 : Int) (by omega) (by have := hN.n1; omega)
    have hw2 := wrap_u64 (N 2 : Int) (by omega) (by have := hN.n2; omega)
    have HNA : Hid (∀ W, Calls Try.prog 25 #[.int .u64 k] W fun e w' => e = .returned (.string (strB (numT kn))) ∧ Below W.heap.size W w') := Lib.hid (fun W => by rw [hkn]; exact number_any kn (by unfold top; omega) W)
    have HNB := Lib.hid (fun W => number_any (N 1) (by have := hN.n1; unfold top; omega) W)
    have HNC := Lib.hid (fun W => number_any (N 2) (by have := hN.n2; unfold top; omega) W)
    have HLP : Hid (0 < T.length) := Lib.hid (by omega)
    have HT := Lib.hid hT
    clear hbz hby hkb hN hkn hTl hT
    rcases hf with f1 | ⟨f1, f2⟩
    · go_enter Try.func10, Try.ntmps10
      go_wp2_with (first | (go_at_call 9; ((with_reducible refine (HTM.out).mono ?_); rintro e w2 ⟨v2, rfl, hnil, hrow, hb2⟩; obtain ⟨base, hrow⟩ := hrow rfl; have HRT := Lib.hid hrow; obtain ⟨gt, qt, rfl, _, hgq, hgm⟩ := own_at hrow HLP.out; have q0 := (hb2.cell (p := ⟨w.heap.size, 0, none⟩) (World.block_lt_of_cell? _ _ c0)).trans c0; have q1 := (hb2.cell (p := ⟨w.heap.size, 1, none⟩) (World.block_lt_of_cell? _ _ c1)).trans c1; have q2 := (hb2.cell (p := ⟨w.heap.size, 2, none⟩) (World.block_lt_of_cell? _ _ c2)).trans c2; have HB := Lib.hid (Below.next (below_one _) hb2); clear hb2 hrow)) | fail)
      have q0 : w2.drew.cell? ⟨w.heap.size, 0, none⟩ = some (.int .i64 k) := q0
      have q1 : w2.drew.cell? ⟨w.heap.size, 1, none⟩ = some (.int .u32 (N 1 : Nat)) := q1
      have q2 : w2.drew.cell? ⟨w.heap.size, 2, none⟩ = some (.int .u32 (N 2 : Nat)) := q2
      have HB := Lib.hid (drew_below HB.out)
      have HRT := Lib.hid (ownsRow_below HRT.out ((Below.refl _ _).drew))
      go_region_held3 (fun W => W.cell? ⟨w.heap.size, 0, none⟩ = some (.int .i64 k) ∧ W.cell? ⟨w.heap.size, 1, none⟩ = some (.int .u32 (N 1 : Nat)) ∧ W.cell? ⟨w.heap.size, 2, none⟩ = some (.int .u32 (N 2 : Nat))) (first | exact ⟨by assumption, by assumption, by assumption⟩ | exact ⟨old1 _ (by assumption), old1 _ (by assumption), old1 _ (by assumption)⟩) (first | (go_at_call 25; ((with_reducible refine (HNA.out _).mono ?_); rintro e w2 ⟨rfl, hb2⟩; have HB := Lib.hid (Below.next HB.out hb2); have HRT := Lib.hid (ownsRow_below HRT.out hb2); have q0 := (hb2.cell (p := ⟨w.heap.size, 0, none⟩) (World.block_lt_of_cell? _ _ q0)).trans q0; have q1 := (hb2.cell (p := ⟨w.heap.size, 1, none⟩) (World.block_lt_of_cell? _ _ q1)).trans q1; have q2 := (hb2.cell (p := ⟨w.heap.size, 2, none⟩) (World.block_lt_of_cell? _ _ q2)).trans q2; clear hb2)) | (go_at_call 25; ((with_reducible refine (HNB.out _).mono ?_); rintro e w2 ⟨rfl, hb2⟩; have HB := Lib.hid (Below.next HB.out hb2); have HRT := Lib.hid (ownsRow_below HRT.out hb2); have q0 := (hb2.cell (p := ⟨w.heap.size, 0, none⟩) (World.block_lt_of_cell? _ _ q0)).trans q0; have q1 := (hb2.cell (p := ⟨w.heap.size, 1, none⟩) (World.block_lt_of_cell? _ _ q1)).trans q1; have q2 := (hb2.cell (p := ⟨w.heap.size, 2, none⟩) (World.block_lt_of_cell? _ _ q2)).trans q2; clear hb2)) | (go_at_call 25; ((with_reducible refine (HNC.out _).mono ?_); rintro e w2 ⟨rfl, hb2⟩; have HB := Lib.hid (Below.next HB.out hb2); have HRT := Lib.hid (ownsRow_below HRT.out hb2); have q0 := (hb2.cell (p := ⟨w.heap.size, 0, none⟩) (World.block_lt_of_cell? _ _ q0)).trans q0; have q1 := (hb2.cell (p := ⟨w.heap.size, 1, none⟩) (World.block_lt_of_cell? _ _ q1)).trans q1; have q2 := (hb2.cell (p := ⟨w.heap.size, 2, none⟩) (World.block_lt_of_cell? _ _ q2)).trans q2; clear hb2)))
      all_goals
        go_wp2_with (first | (go_at_call 27; ((with_reducible refine (body_cat _ kn N T _ gt qt HRT.out HTL.out.2).mono ?_); rintro e w7 ⟨v7, rfl, hs7, hb7⟩; have HB7 := Lib.hid (Below.next HB.out hb7); have HS7 := Lib.hid hs7; clear hs7 hb7)) | (go_at_call 26; ((with_reducible refine (list_any6 v7 _ _ HS7.out (by unfold maxLen; simp [headT]; have := HTL.out; omega)).mono ?_); rintro e w8 ⟨rfl, hb8⟩; have HB8 := Lib.hid (Below.next HB7.out hb8))) | fail)
        go_ret
        refine ⟨?_, HB8.out⟩
        rw [HZ.out]
        unfold bodyT
        rw [HT.out]
        rfl
    · go_enter Try.func10, Try.ntmps10
      go_wp2_with (first | (go_at_call 9; ((with_reducible refine (HTM.out).mono ?_); rintro e w2 ⟨v2, rfl, hnil, hrow, hb2⟩; obtain ⟨base, hrow⟩ := hrow rfl; have HRT := Lib.hid hrow; obtain ⟨gt, qt, rfl, _, hgq, hgm⟩ := own_at hrow HLP.out; have q0 := (hb2.cell (p := ⟨w.heap.size, 0, none⟩) (World.block_lt_of_cell? _ _ c0)).trans c0; have q1 := (hb2.cell (p := ⟨w.heap.size, 1, none⟩) (World.block_lt_of_cell? _ _ c1)).trans c1; have q2 := (hb2.cell (p := ⟨w.heap.size, 2, none⟩) (World.block_lt_of_cell? _ _ c2)).trans c2; have HB := Lib.hid (Below.next (below_one _) hb2); clear hb2 hrow)) | fail)
      have q0 : w2.drew.cell? ⟨w.heap.size, 0, none⟩ = some (.int .i64 k) := q0
      have q1 : w2.drew.cell? ⟨w.heap.size, 1, none⟩ = some (.int .u32 (N 1 : Nat)) := q1
      have q2 : w2.drew.cell? ⟨w.heap.size, 2, none⟩ = some (.int .u32 (N 2 : Nat)) := q2
      have HB := Lib.hid (drew_below HB.out)
      have HRT := Lib.hid (ownsRow_below HRT.out ((Below.refl _ _).drew))
      go_region_held3 (fun W => W.cell? ⟨w.heap.size, 0, none⟩ = some (.int .i64 k) ∧ W.cell? ⟨w.heap.size, 1, none⟩ = some (.int .u32 (N 1 : Nat)) ∧ W.cell? ⟨w.heap.size, 2, none⟩ = some (.int .u32 (N 2 : Nat))) (first | exact ⟨by assumption, by assumption, by assumption⟩ | exact ⟨old1 _ (by assumption), old1 _ (by assumption), old1 _ (by assumption)⟩) (first | (go_at_call 25; ((with_reducible refine (HNA.out _).mono ?_); rintro e w2 ⟨rfl, hb2⟩; have HB := Lib.hid (Below.next HB.out hb2); have HRT := Lib.hid (ownsRow_below HRT.out hb2); have q0 := (hb2.cell (p := ⟨w.heap.size, 0, none⟩) (World.block_lt_of_cell? _ _ q0)).trans q0; have q1 := (hb2.cell (p := ⟨w.heap.size, 1, none⟩) (World.block_lt_of_cell? _ _ q1)).trans q1; have q2 := (hb2.cell (p := ⟨w.heap.size, 2, none⟩) (World.block_lt_of_cell? _ _ q2)).trans q2; clear hb2)) | (go_at_call 25; ((with_reducible refine (HNB.out _).mono ?_); rintro e w2 ⟨rfl, hb2⟩; have HB := Lib.hid (Below.next HB.out hb2); have HRT := Lib.hid (ownsRow_below HRT.out hb2); have q0 := (hb2.cell (p := ⟨w.heap.size, 0, none⟩) (World.block_lt_of_cell? _ _ q0)).trans q0; have q1 := (hb2.cell (p := ⟨w.heap.size, 1, none⟩) (World.block_lt_of_cell? _ _ q1)).trans q1; have q2 := (hb2.cell (p := ⟨w.heap.size, 2, none⟩) (World.block_lt_of_cell? _ _ q2)).trans q2; clear hb2)) | (go_at_call 25; ((with_reducible refine (HNC.out _).mono ?_); rintro e w2 ⟨rfl, hb2⟩; have HB := Lib.hid (Below.next HB.out hb2); have HRT := Lib.hid (ownsRow_below HRT.out hb2); have q0 := (hb2.cell (p := ⟨w.heap.size, 0, none⟩) (World.block_lt_of_cell? _ _ q0)).trans q0; have q1 := (hb2.cell (p := ⟨w.heap.size, 1, none⟩) (World.block_lt_of_cell? _ _ q1)).trans q1; have q2 := (hb2.cell (p := ⟨w.heap.size, 2, none⟩) (World.block_lt_of_cell? _ _ q2)).trans q2; clear hb2)))
      all_goals
        go_wp2_with (first | (go_at_call 27; ((with_reducible refine (body_cat _ kn N T _ gt qt HRT.out HTL.out.2).mono ?_); rintro e w7 ⟨v7, rfl, hs7, hb7⟩; have HB7 := Lib.hid (Below.next HB.out hb7); have HS7 := Lib.hid hs7; clear hs7 hb7)) | (go_at_call 26; ((with_reducible refine (list_any6 v7 _ _ HS7.out (by unfold maxLen; simp [headT]; have := HTL.out; omega)).mono ?_); rintro e w8 ⟨rfl, hb8⟩; have HB8 := Lib.hid (Below.next HB7.out hb8))) | fail)
        go_ret
        refine ⟨?_, HB8.out⟩
        rw [HZ.out]
        unfold bodyT
        rw [HT.out]
        rfl
  · have HZ := Lib.hid (hbz he)
    have HE := Lib.hid he
    clear hbz hby he hkb hkn
    rcases hf with f1 | ⟨f1, f2⟩
    · go_enter Try.func10, Try.ntmps10
      go_wp2_with (first | (go_at_call 9; ((with_reducible refine (HTM.out).mono ?_); rintro e w2 ⟨v2, rfl, hnil, hrow, hb2⟩; obtain rfl := hnil HE.out; have q0 := (hb2.cell (p := ⟨w.heap.size, 0, none⟩) (World.block_lt_of_cell? _ _ c0)).trans c0; have q1 := (hb2.cell (p := ⟨w.heap.size, 1, none⟩) (World.block_lt_of_cell? _ _ c1)).trans c1; have q2 := (hb2.cell (p := ⟨w.heap.size, 2, none⟩) (World.block_lt_of_cell? _ _ c2)).trans c2; have HB := Lib.hid (Below.next (below_one _) hb2); clear hb2)) | fail)
      go_ret
      rw [HZ.out]
      exact ⟨rfl, HB.out⟩
    · go_enter Try.func10, Try.ntmps10
      go_wp2_with (first | (go_at_call 9; ((with_reducible refine (HTM.out).mono ?_); rintro e w2 ⟨v2, rfl, hnil, hrow, hb2⟩; obtain rfl := hnil HE.out; have q0 := (hb2.cell (p := ⟨w.heap.size, 0, none⟩) (World.block_lt_of_cell? _ _ c0)).trans c0; have q1 := (hb2.cell (p := ⟨w.heap.size, 1, none⟩) (World.block_lt_of_cell? _ _ c1)).trans c1; have q2 := (hb2.cell (p := ⟨w.heap.size, 2, none⟩) (World.block_lt_of_cell? _ _ c2)).trans c2; have HB := Lib.hid (Below.next (below_one _) hb2); clear hb2)) | fail)
      go_ret
      rw [HZ.out]
      exact ⟨rfl, HB.out⟩
theorem wbody_any (k : Int) (N : Nat → Nat) (X : Nat → ByteArray) (w : World) (hN : NumOk N) : Calls Try.prog 10 #[.agg #[.int .i64 k, .int .u32 (N 1 : Nat), .int .u32 (N 2 : Nat), .int .u64 (N 3 : Nat), .string (X 4), .string (X 5), .string (X 6), .string (X 7), .string (X 8), .string (X 9), .string (X 10), .string (X 11), .string (X 12)]] w fun e w' => e = .returned (.string (strB (bodyS k N X))) ∧ Below w.heap.size w w' := by
  by_cases h1 : k = 1
  · exact body_x k 1 N X w h1 (by decide) (by decide) hN (.inl (bneq_i h1))
  · by_cases h2 : k = 2
    · exact body_x k 2 N X w h2 (by decide) (by decide) hN (.inr ⟨bnet h1, bneq_i h2⟩)
    · exact body_kind k N X w h1 h2
end Go.Proofs.Ytjbmcjppaadkgaa

namespace Go.Proofs.Ytjbmcjppaadkgaa
set_option linter.unusedVariables false
set_option linter.unusedSimpArgs false
set_option maxRecDepth 100000
open Go.RowKit
def signedS (k : Int) (N : Nat → Nat) (X : Nat → ByteArray) : List UInt8 := listT [bodyS k N X, (X 11).data.toList]
set_option maxHeartbeats 2000000 in
theorem wsigned_any (k : Int) (N : Nat → Nat) (X : Nat → ByteArray) (w : World) (hN : NumOk N) : Calls Try.prog 11 #[.agg #[.int .i64 k, .int .u32 (N 1 : Nat), .int .u32 (N 2 : Nat), .int .u64 (N 3 : Nat), .string (X 4), .string (X 5), .string (X 6), .string (X 7), .string (X 8), .string (X 9), .string (X 10), .string (X 11), .string (X 12)]] w fun e w' => e = .returned (.string (strB (signedS k N X))) ∧ Below w.heap.size w w' := by
  have hx := heap_alloc_new w (.cells #[.int .i64 k, .int .u32 (N 1 : Nat), .int .u32 (N 2 : Nat), .int .u64 (N 3 : Nat), .string (X 4), .string (X 5), .string (X 6), .string (X 7), .string (X 8), .string (X 9), .string (X 10), .string (X 11), .string (X 12)] 25)
  have c0 : (w.alloc (.cells #[.int .i64 k, .int .u32 (N 1 : Nat), .int .u32 (N 2 : Nat), .int .u64 (N 3 : Nat), .string (X 4), .string (X 5), .string (X 6), .string (X 7), .string (X 8), .string (X 9), .string (X 10), .string (X 11), .string (X 12)] 25)).drew.cell? ⟨w.heap.size, 0, none⟩ = some (.int .i64 k) := cell_of hx 0 rfl; have c1 : (w.alloc (.cells #[.int .i64 k, .int .u32 (N 1 : Nat), .int .u32 (N 2 : Nat), .int .u64 (N 3 : Nat), .string (X 4), .string (X 5), .string (X 6), .string (X 7), .string (X 8), .string (X 9), .string (X 10), .string (X 11), .string (X 12)] 25)).drew.cell? ⟨w.heap.size, 1, none⟩ = some (.int .u32 (N 1 : Nat)) := cell_of hx 1 rfl; have c2 : (w.alloc (.cells #[.int .i64 k, .int .u32 (N 1 : Nat), .int .u32 (N 2 : Nat), .int .u64 (N 3 : Nat), .string (X 4), .string (X 5), .string (X 6), .string (X 7), .string (X 8), .string (X 9), .string (X 10), .string (X 11), .string (X 12)] 25)).drew.cell? ⟨w.heap.size, 2, none⟩ = some (.int .u32 (N 2 : Nat)) := cell_of hx 2 rfl; have c3 : (w.alloc (.cells #[.int .i64 k, .int .u32 (N 1 : Nat), .int .u32 (N 2 : Nat), .int .u64 (N 3 : Nat), .string (X 4), .string (X 5), .string (X 6), .string (X 7), .string (X 8), .string (X 9), .string (X 10), .string (X 11), .string (X 12)] 25)).drew.cell? ⟨w.heap.size, 3, none⟩ = some (.int .u64 (N 3 : Nat)) := cell_of hx 3 rfl; have c4 : (w.alloc (.cells #[.int .i64 k, .int .u32 (N 1 : Nat), .int .u32 (N 2 : Nat), .int .u64 (N 3 : Nat), .string (X 4), .string (X 5), .string (X 6), .string (X 7), .string (X 8), .string (X 9), .string (X 10), .string (X 11), .string (X 12)] 25)).drew.cell? ⟨w.heap.size, 4, none⟩ = some (.string (X 4)) := cell_of hx 4 rfl; have c5 : (w.alloc (.cells #[.int .i64 k, .int .u32 (N 1 : Nat), .int .u32 (N 2 : Nat), .int .u64 (N 3 : Nat), .string (X 4), .string (X 5), .string (X 6), .string (X 7), .string (X 8), .string (X 9), .string (X 10), .string (X 11), .string (X 12)] 25)).drew.cell? ⟨w.heap.size, 5, none⟩ = some (.string (X 5)) := cell_of hx 5 rfl; have c6 : (w.alloc (.cells #[.int .i64 k, .int .u32 (N 1 : Nat), .int .u32 (N 2 : Nat), .int .u64 (N 3 : Nat), .string (X 4), .string (X 5), .string (X 6), .string (X 7), .string (X 8), .string (X 9), .string (X 10), .string (X 11), .string (X 12)] 25)).drew.cell? ⟨w.heap.size, 6, none⟩ = some (.string (X 6)) := cell_of hx 6 rfl; have c7 : (w.alloc (.cells #[.int .i64 k, .int .u32 (N 1 : Nat), .int .u32 (N 2 : Nat), .int .u64 (N 3 : Nat), .string (X 4), .string (X 5), .string (X 6), .string (X 7), .string (X 8), .string (X 9), .string (X 10), .string (X 11), .string (X 12)] 25)).drew.cell? ⟨w.heap.size, 7, none⟩ = some (.string (X 7)) := cell_of hx 7 rfl; have c8 : (w.alloc (.cells #[.int .i64 k, .int .u32 (N 1 : Nat), .int .u32 (N 2 : Nat), .int .u64 (N 3 : Nat), .string (X 4), .string (X 5), .string (X 6), .string (X 7), .string (X 8), .string (X 9), .string (X 10), .string (X 11), .string (X 12)] 25)).drew.cell? ⟨w.heap.size, 8, none⟩ = some (.string (X 8)) := cell_of hx 8 rfl; have c9 : (w.alloc (.cells #[.int .i64 k, .int .u32 (N 1 : Nat), .int .u32 (N 2 : Nat), .int .u64 (N 3 : Nat), .string (X 4), .string (X 5), .string (X 6), .string (X 7), .string (X 8), .string (X 9), .string (X 10), .string (X 11), .string (X 12)] 25)).drew.cell? ⟨w.heap.size, 9, none⟩ = some (.string (X 9)) := cell_of hx 9 rfl; have c10 : (w.alloc (.cells #[.int .i64 k, .int .u32 (N 1 : Nat), .int .u32 (N 2 : Nat), .int .u64 (N 3 : Nat), .string (X 4), .string (X 5), .string (X 6), .string (X 7), .string (X 8), .string (X 9), .string (X 10), .string (X 11), .string (X 12)] 25)).drew.cell? ⟨w.heap.size, 10, none⟩ = some (.string (X 10)) := cell_of hx 10 rfl; have c11 : (w.alloc (.cells #[.int .i64 k, .int .u32 (N 1 : Nat), .int .u32 (N 2 : Nat), .int .u64 (N 3 : Nat), .string (X 4), .string (X 5), .string (X 6), .string (X 7), .string (X 8), .string (X 9), .string (X 10), .string (X 11), .string (X 12)] 25)).drew.cell? ⟨w.heap.size, 11, none⟩ = some (.string (X 11)) := cell_of hx 11 rfl; have c12 : (w.alloc (.cells #[.int .i64 k, .int .u32 (N 1 : Nat), .int .u32 (N 2 : Nat), .int .u64 (N 3 : Nat), .string (X 4), .string (X 5), .string (X 6), .string (X 7), .string (X 8), .string (X 9), .string (X 10), .string (X 11), .string (X 12)] 25)).drew.cell? ⟨w.heap.size, 12, none⟩ = some (.string (X 12)) := cell_of hx 12 rfl
  have HNO := Lib.hid hN
  have HB : Hid (Below w.heap.size w (w.alloc (.cells #[.int .i64 k, .int .u32 (N 1 : Nat), .int .u32 (N 2 : Nat), .int .u64 (N 3 : Nat), .string (X 4), .string (X 5), .string (X 6), .string (X 7), .string (X 8), .string (X 9), .string (X 10), .string (X 11), .string (X 12)] 25)).drew) := Lib.hid (below_one _).drew
  have HLEN : Hid ([bodyS k N X, (X 11).data.toList].length ≤ maxLen) := Lib.hid (by show 2 ≤ maxLen; decide)
  clear hx
  go_enter Try.func11, Try.ntmps11
  go_wp2_with fail
  go_region_held3 (fun W => W.cell? ⟨w.heap.size, 0, none⟩ = some (.int .i64 k) ∧ W.cell? ⟨w.heap.size, 1, none⟩ = some (.int .u32 (N 1 : Nat)) ∧ W.cell? ⟨w.heap.size, 2, none⟩ = some (.int .u32 (N 2 : Nat)) ∧ W.cell? ⟨w.heap.size, 3, none⟩ = some (.int .u64 (N 3 : Nat)) ∧ W.cell? ⟨w.heap.size, 4, none⟩ = some (.string (X 4)) ∧ W.cell? ⟨w.heap.size, 5, none⟩ = some (.string (X 5)) ∧ W.cell? ⟨w.heap.size, 6, none⟩ = some (.string (X 6)) ∧ W.cell? ⟨w.heap.size, 7, none⟩ = some (.string (X 7)) ∧ W.cell? ⟨w.heap.size, 8, none⟩ = some (.string (X 8)) ∧ W.cell? ⟨w.heap.size, 9, none⟩ = some (.string (X 9)) ∧ W.cell? ⟨w.heap.size, 10, none⟩ = some (.string (X 10)) ∧ W.cell? ⟨w.heap.size, 11, none⟩ = some (.string (X 11)) ∧ W.cell? ⟨w.heap.size, 12, none⟩ = some (.string (X 12))) (first | exact ⟨by assumption, by assumption, by assumption, by assumption, by assumption, by assumption, by assumption, by assumption, by assumption, by assumption, by assumption, by assumption, by assumption⟩ | exact ⟨old1 _ (by assumption), old1 _ (by assumption), old1 _ (by assumption), old1 _ (by assumption), old1 _ (by assumption), old1 _ (by assumption), old1 _ (by assumption), old1 _ (by assumption), old1 _ (by assumption), old1 _ (by assumption), old1 _ (by assumption), old1 _ (by assumption), old1 _ (by assumption)⟩) (first | (go_at_call 10; ((with_reducible refine (wbody_any k N X _ HNO.out).mono ?_); rintro e w2 ⟨rfl, hb2⟩; have HB := Lib.hid (HB.out.trans (hb2.mono HB.out.size)); have c0 := (hb2.cell (p := ⟨w.heap.size, 0, none⟩) (World.block_lt_of_cell? _ _ c0)).trans c0; have c1 := (hb2.cell (p := ⟨w.heap.size, 1, none⟩) (World.block_lt_of_cell? _ _ c1)).trans c1; have c2 := (hb2.cell (p := ⟨w.heap.size, 2, none⟩) (World.block_lt_of_cell? _ _ c2)).trans c2; have c3 := (hb2.cell (p := ⟨w.heap.size, 3, none⟩) (World.block_lt_of_cell? _ _ c3)).trans c3; have c4 := (hb2.cell (p := ⟨w.heap.size, 4, none⟩) (World.block_lt_of_cell? _ _ c4)).trans c4; have c5 := (hb2.cell (p := ⟨w.heap.size, 5, none⟩) (World.block_lt_of_cell? _ _ c5)).trans c5; have c6 := (hb2.cell (p := ⟨w.heap.size, 6, none⟩) (World.block_lt_of_cell? _ _ c6)).trans c6; have c7 := (hb2.cell (p := ⟨w.heap.size, 7, none⟩) (World.block_lt_of_cell? _ _ c7)).trans c7; have c8 := (hb2.cell (p := ⟨w.heap.size, 8, none⟩) (World.block_lt_of_cell? _ _ c8)).trans c8; have c9 := (hb2.cell (p := ⟨w.heap.size, 9, none⟩) (World.block_lt_of_cell? _ _ c9)).trans c9; have c10 := (hb2.cell (p := ⟨w.heap.size, 10, none⟩) (World.block_lt_of_cell? _ _ c10)).trans c10; have c11 := (hb2.cell (p := ⟨w.heap.size, 11, none⟩) (World.block_lt_of_cell? _ _ c11)).trans c11; have c12 := (hb2.cell (p := ⟨w.heap.size, 12, none⟩) (World.block_lt_of_cell? _ _ c12)).trans c12; have HST : Hid (Strs (w2.alloc (.cells #[.string (strB (bodyS k N X)), .string (X 11)] 9)) (.slice (some ⟨w2.heap.size, 0, none⟩) 2 2) [bodyS k N X, (X 11).data.toList]) := Lib.hid (by have h := heap_alloc_new w2 (.cells #[.string (strB (bodyS k N X)), .string (X 11)] 9); refine strs_blk (l := [bodyS k N X, (X 11).data.toList]) (T := 9) ?_; rw [h]; simp [strV, strv_self, strB]); clear hb2)) | (go_at_call 26; ((with_reducible refine (list_any6 _ _ _ HST.out HLEN.out).mono ?_); rintro e w3 ⟨rfl, hb3⟩; have HB3 := Lib.hid (Below.next (HB.out.alloc HB.out.size _) hb3); have c0 := ((Below.next (below_one _) hb3).cell (p := ⟨w.heap.size, 0, none⟩) (World.block_lt_of_cell? _ _ c0)).trans c0; have c1 := ((Below.next (below_one _) hb3).cell (p := ⟨w.heap.size, 1, none⟩) (World.block_lt_of_cell? _ _ c1)).trans c1; have c2 := ((Below.next (below_one _) hb3).cell (p := ⟨w.heap.size, 2, none⟩) (World.block_lt_of_cell? _ _ c2)).trans c2; have c3 := ((Below.next (below_one _) hb3).cell (p := ⟨w.heap.size, 3, none⟩) (World.block_lt_of_cell? _ _ c3)).trans c3; have c4 := ((Below.next (below_one _) hb3).cell (p := ⟨w.heap.size, 4, none⟩) (World.block_lt_of_cell? _ _ c4)).trans c4; have c5 := ((Below.next (below_one _) hb3).cell (p := ⟨w.heap.size, 5, none⟩) (World.block_lt_of_cell? _ _ c5)).trans c5; have c6 := ((Below.next (below_one _) hb3).cell (p := ⟨w.heap.size, 6, none⟩) (World.block_lt_of_cell? _ _ c6)).trans c6; have c7 := ((Below.next (below_one _) hb3).cell (p := ⟨w.heap.size, 7, none⟩) (World.block_lt_of_cell? _ _ c7)).trans c7; have c8 := ((Below.next (below_one _) hb3).cell (p := ⟨w.heap.size, 8, none⟩) (World.block_lt_of_cell? _ _ c8)).trans c8; have c9 := ((Below.next (below_one _) hb3).cell (p := ⟨w.heap.size, 9, none⟩) (World.block_lt_of_cell? _ _ c9)).trans c9; have c10 := ((Below.next (below_one _) hb3).cell (p := ⟨w.heap.size, 10, none⟩) (World.block_lt_of_cell? _ _ c10)).trans c10; have c11 := ((Below.next (below_one _) hb3).cell (p := ⟨w.heap.size, 11, none⟩) (World.block_lt_of_cell? _ _ c11)).trans c11; have c12 := ((Below.next (below_one _) hb3).cell (p := ⟨w.heap.size, 12, none⟩) (World.block_lt_of_cell? _ _ c12)).trans c12; clear hb3)))
  all_goals
    go_wp2_with fail
    go_ret
    exact ⟨rfl, HB3.out⟩
end Go.Proofs.Ytjbmcjppaadkgaa

namespace Go.Proofs.Ytjbmcjppaadkgaa
set_option linter.unusedVariables false
set_option linter.unusedSimpArgs false
set_option maxRecDepth 100000
open Go.RowKit
def withN (kn : Nat) (N : Nat → Nat) : Nat → Nat := fun i => if (ncsOf kn).contains i then N i else 0
def withX (kn : Nat) (X : Nat → ByteArray) : Nat → ByteArray := fun i => if (csOf kn).contains i then X i else ⟨#[]⟩
theorem with_any (kn : Nat) (h1 : 1 ≤ kn) (h4 : kn ≤ 4) (N : Nat → Nat) (X : Nat → ByteArray) (v : Value) (w : World) (hv : Strs w v (txtsX X (csOf kn))) :
    Calls Try.prog 23 #[.int .i64 (kn : Nat), .int .u32 (N 1 : Nat), .int .u32 (N 2 : Nat), .int .u64 (N 3 : Nat), v] w fun e w' => e = .returned (msgV (kn : Nat) (withN kn N) (withX kn X)) ∧ Below w.heap.size w w' := by
  have : kn = 1 ∨ kn = 2 ∨ kn = 3 ∨ kn = 4 := by omega
  rcases this with rfl | rfl | rfl | rfl
  · obtain ⟨b, off, cp, rfl, hc⟩ := strs_cells hv (by simp [txtsX, csOf])
    exact rwith_1 (N 1) (N 2) (N 3) (X 4) (X 5) (X 6) (X 11) (X 12) b off cp w (by rw [← strv_self]; exact hc 0 (by simp [txtsX, csOf])) (by rw [← strv_self]; exact hc 1 (by simp [txtsX, csOf])) (by rw [← strv_self]; exact hc 2 (by simp [txtsX, csOf])) (by rw [← strv_self]; exact hc 3 (by simp [txtsX, csOf])) (by rw [← strv_self]; exact hc 4 (by simp [txtsX, csOf]))
  · obtain ⟨b, off, cp, rfl, hc⟩ := strs_cells hv (by simp [txtsX, csOf])
    exact rwith_2 (N 1) (N 2) (N 3) (X 4) (X 7) (X 11) (X 12) b off cp w (by rw [← strv_self]; exact hc 0 (by simp [txtsX, csOf])) (by rw [← strv_self]; exact hc 1 (by simp [txtsX, csOf])) (by rw [← strv_self]; exact hc 2 (by simp [txtsX, csOf])) (by rw [← strv_self]; exact hc 3 (by simp [txtsX, csOf]))
  · obtain ⟨b, off, cp, rfl, hc⟩ := strs_cells hv (by simp [txtsX, csOf])
    exact rwith_3 (N 1) (N 2) (N 3) (X 8) (X 9) b off cp w (by rw [← strv_self]; exact hc 0 (by simp [txtsX, csOf])) (by rw [← strv_self]; exact hc 1 (by simp [txtsX, csOf]))
  · obtain ⟨b, off, cp, rfl, hc⟩ := strs_cells hv (by simp [txtsX, csOf])
    exact rwith_4 (N 1) (N 2) (N 3) (X 10) b off cp w (by rw [← strv_self]; exact hc 0 (by simp [txtsX, csOf]))
theorem rows_txts (kn : Nat) (h1 : 1 ≤ kn) (h4 : kn ≤ 4) (X : Nat → ByteArray) : rowM (kn : Nat) (X 4) (X 5) (X 6) (X 7) (X 8) (X 9) (X 10) (X 11) (X 12) = txtsX X (csOf kn) := by
  have : kn = 1 ∨ kn = 2 ∨ kn = 3 ∨ kn = 4 := by omega
  rcases this with rfl | rfl | rfl | rfl <;> simp [rowM, txtsX, csOf]
theorem msg_eq6 (w : World) (rk : Int) (rN : Nat → Nat) (rX : Nat → ByteArray) (k : Int) (N : Nat → Nat) (X : Nat → ByteArray) (bq : Bool) (h : bq = decide (same13 rk rN rX k N X)) :
    (binOp .eql 25 (msgV rk rN rX) (.agg #[.int .i64 k, .int .u32 (N 1 : Nat), .int .u32 (N 2 : Nat), .int .u64 (N 3 : Nat), .string (X 4), .string (X 5), .string (X 6), .string (X 7), .string (X 8), .string (X 9), .string (X 10), .string (X 11), .string (X 12)])).run Try.prog w = .ok (.bool bq) w :=
  msg_eql w rk (rN 1) (rN 2) (rN 3) k (N 1) (N 2) (N 3) (rX 4) (rX 5) (rX 6) (rX 7) (rX 8) (rX 9) (rX 10) (rX 11) (rX 12) (X 4) (X 5) (X 6) (X 7) (X 8) (X 9) (X 10) (X 11) (X 12) bq h
def goodT (t : List UInt8) : Bool := decide (t.length ≤ 65535) && isL t
def rightP (k : Int) (N : Nat → Nat) (X : Nat → ByteArray) : Bool :=
  if kindB k = 0 then false else (txtsX X (csOf (kindB k))).all goodT && decide (same13 k (withN (kindB k) N) (withX (kindB k) X) k N X)
theorem rright_kind (k : Int) (N : Nat → Nat) (X : Nat → ByteArray) (w : World) (hk : kindB k = 0) : Calls Try.prog 8 #[.agg #[.int .i64 k, .int .u32 (N 1 : Nat), .int .u32 (N 2 : Nat), .int .u64 (N 3 : Nat), .string (X 4), .string (X 5), .string (X 6), .string (X 7), .string (X 8), .string (X 9), .string (X 10), .string (X 11), .string (X 12)]] w fun e w' => e = .returned (.bool (rightP k N X)) ∧ Below w.heap.size w w' := by
  have HZ : Hid (rightP k N X = false) := Lib.hid (if_pos hk)
  have hx := heap_alloc_new w (.cells #[.int .i64 k, .int .u32 (N 1 : Nat), .int .u32 (N 2 : Nat), .int .u64 (N 3 : Nat), .string (X 4), .string (X 5), .string (X 6), .string (X 7), .string (X 8), .string (X 9), .string (X 10), .string (X 11), .string (X 12)] 25)
  have c0 : (w.alloc (.cells #[.int .i64 k, .int .u32 (N 1 : Nat), .int .u32 (N 2 : Nat), .int .u64 (N 3 : Nat), .string (X 4), .string (X 5), .string (X 6), .string (X 7), .string (X 8), .string (X 9), .string (X 10), .string (X 11), .string (X 12)] 25)).cell? ⟨w.heap.size, 0, none⟩ = some (.int .i64 k) := cell_of hx 0 rfl
  have hkk : k < 1 ∨ (¬ k < 1 ∧ 4 < k) := by unfold kindB at hk; split at hk <;> omega
  clear hx hk
  rcases hkk with h | ⟨h, h2⟩
  · go_enter Try.func8, Try.ntmps8
    go_wp2_with fail
    go_ret
    rw [HZ.out]
    exact ⟨rfl, below_one _⟩
  · go_enter Try.func8, Try.ntmps8
    go_wp2_with fail
    go_ret
    rw [HZ.out]
    exact ⟨rfl, below_one _⟩
set_option maxHeartbeats 2000000 in
theorem rright_x (k : Int) (kn : Nat) (N : Nat → Nat) (X : Nat → ByteArray) (w : World) (hkn : k = (kn : Nat)) (h1 : 1 ≤ kn) (h4 : kn ≤ 4) (hN : NumOk N) (hsz : ∀ c, (X c).size ≤ maxLen) : Calls Try.prog 8 #[.agg #[.int .i64 k, .int .u32 (N 1 : Nat), .int .u32 (N 2 : Nat), .int .u64 (N 3 : Nat), .string (X 4), .string (X 5), .string (X 6), .string (X 7), .string (X 8), .string (X 9), .string (X 10), .string (X 11), .string (X 12)]] w fun e w' => e = .returned (.bool (rightP k N X)) ∧ Below w.heap.size w w' := by
  have hx := heap_alloc_new w (.cells #[.int .i64 k, .int .u32 (N 1 : Nat), .int .u32 (N 2 : Nat), .int .u64 (N 3 : Nat), .string (X 4), .string (X 5), .string (X 6), .string (X 7), .string (X 8), .string (X 9), .string (X 10), .string (X 11), .string (X 12)] 25)
  have c0 : (w.alloc (.cells #[.int .i64 k, .int .u32 (N 1 : Nat), .int .u32 (N 2 : Nat), .int .u64 (N 3 : Nat), .string (X 4), .string (X 5), .string (X 6), .string (X 7), .string (X 8), .string (X 9), .string (X 10), .string (X 11), .string (X 12)] 25)).cell? ⟨w.heap.size, 0, none⟩ = some (.int .i64 k) := cell_of hx 0 rfl; have c1 : (w.alloc (.cells #[.int .i64 k, .int .u32 (N 1 : Nat), .int .u32 (N 2 : Nat), .int .u64 (N 3 : Nat), .string (X 4), .string (X 5), .string (X 6), .string (X 7), .string (X 8), .string (X 9), .string (X 10), .string (X 11), .string (X 12)] 25)).cell? ⟨w.heap.size, 1, none⟩ = some (.int .u32 (N 1 : Nat)) := cell_of hx 1 rfl; have c2 : (w.alloc (.cells #[.int .i64 k, .int .u32 (N 1 : Nat), .int .u32 (N 2 : Nat), .int .u64 (N 3 : Nat), .string (X 4), .string (X 5), .string (X 6), .string (X 7), .string (X 8), .string (X 9), .string (X 10), .string (X 11), .string (X 12)] 25)).cell? ⟨w.heap.size, 2, none⟩ = some (.int .u32 (N 2 : Nat)) := cell_of hx 2 rfl; have c3 : (w.alloc (.cells #[.int .i64 k, .int .u32 (N 1 : Nat), .int .u32 (N 2 : Nat), .int .u64 (N 3 : Nat), .string (X 4), .string (X 5), .string (X 6), .string (X 7), .string (X 8), .string (X 9), .string (X 10), .string (X 11), .string (X 12)] 25)).cell? ⟨w.heap.size, 3, none⟩ = some (.int .u64 (N 3 : Nat)) := cell_of hx 3 rfl; have c4 : (w.alloc (.cells #[.int .i64 k, .int .u32 (N 1 : Nat), .int .u32 (N 2 : Nat), .int .u64 (N 3 : Nat), .string (X 4), .string (X 5), .string (X 6), .string (X 7), .string (X 8), .string (X 9), .string (X 10), .string (X 11), .string (X 12)] 25)).cell? ⟨w.heap.size, 4, none⟩ = some (.string (X 4)) := cell_of hx 4 rfl; have c5 : (w.alloc (.cells #[.int .i64 k, .int .u32 (N 1 : Nat), .int .u32 (N 2 : Nat), .int .u64 (N 3 : Nat), .string (X 4), .string (X 5), .string (X 6), .string (X 7), .string (X 8), .string (X 9), .string (X 10), .string (X 11), .string (X 12)] 25)).cell? ⟨w.heap.size, 5, none⟩ = some (.string (X 5)) := cell_of hx 5 rfl; have c6 : (w.alloc (.cells #[.int .i64 k, .int .u32 (N 1 : Nat), .int .u32 (N 2 : Nat), .int .u64 (N 3 : Nat), .string (X 4), .string (X 5), .string (X 6), .string (X 7), .string (X 8), .string (X 9), .string (X 10), .string (X 11), .string (X 12)] 25)).cell? ⟨w.heap.size, 6, none⟩ = some (.string (X 6)) := cell_of hx 6 rfl; have c7 : (w.alloc (.cells #[.int .i64 k, .int .u32 (N 1 : Nat), .int .u32 (N 2 : Nat), .int .u64 (N 3 : Nat), .string (X 4), .string (X 5), .string (X 6), .string (X 7), .string (X 8), .string (X 9), .string (X 10), .string (X 11), .string (X 12)] 25)).cell? ⟨w.heap.size, 7, none⟩ = some (.string (X 7)) := cell_of hx 7 rfl; have c8 : (w.alloc (.cells #[.int .i64 k, .int .u32 (N 1 : Nat), .int .u32 (N 2 : Nat), .int .u64 (N 3 : Nat), .string (X 4), .string (X 5), .string (X 6), .string (X 7), .string (X 8), .string (X 9), .string (X 10), .string (X 11), .string (X 12)] 25)).cell? ⟨w.heap.size, 8, none⟩ = some (.string (X 8)) := cell_of hx 8 rfl; have c9 : (w.alloc (.cells #[.int .i64 k, .int .u32 (N 1 : Nat), .int .u32 (N 2 : Nat), .int .u64 (N 3 : Nat), .string (X 4), .string (X 5), .string (X 6), .string (X 7), .string (X 8), .string (X 9), .string (X 10), .string (X 11), .string (X 12)] 25)).cell? ⟨w.heap.size, 9, none⟩ = some (.string (X 9)) := cell_of hx 9 rfl; have c10 : (w.alloc (.cells #[.int .i64 k, .int .u32 (N 1 : Nat), .int .u32 (N 2 : Nat), .int .u64 (N 3 : Nat), .string (X 4), .string (X 5), .string (X 6), .string (X 7), .string (X 8), .string (X 9), .string (X 10), .string (X 11), .string (X 12)] 25)).cell? ⟨w.heap.size, 10, none⟩ = some (.string (X 10)) := cell_of hx 10 rfl; have c11 : (w.alloc (.cells #[.int .i64 k, .int .u32 (N 1 : Nat), .int .u32 (N 2 : Nat), .int .u64 (N 3 : Nat), .string (X 4), .string (X 5), .string (X 6), .string (X 7), .string (X 8), .string (X 9), .string (X 10), .string (X 11), .string (X 12)] 25)).cell? ⟨w.heap.size, 11, none⟩ = some (.string (X 11)) := cell_of hx 11 rfl; have c12 : (w.alloc (.cells #[.int .i64 k, .int .u32 (N 1 : Nat), .int .u32 (N 2 : Nat), .int .u64 (N 3 : Nat), .string (X 4), .string (X 5), .string (X 6), .string (X 7), .string (X 8), .string (X 9), .string (X 10), .string (X 11), .string (X 12)] 25)).cell? ⟨w.heap.size, 12, none⟩ = some (.string (X 12)) := cell_of hx 12 rfl
  have HM : Hid (MsgAt (w.alloc (.cells #[.int .i64 k, .int .u32 (N 1 : Nat), .int .u32 (N 2 : Nat), .int .u64 (N 3 : Nat), .string (X 4), .string (X 5), .string (X 6), .string (X 7), .string (X 8), .string (X 9), .string (X 10), .string (X 11), .string (X 12)] 25)) w.heap.size k N X) := Lib.hid hx
  have hkb : kindB k = kn := by rw [hkn]; exact kindB_nat h1 h4
  obtain ⟨T, hT⟩ : ∃ T, txtsX X (csOf kn) = T := ⟨_, rfl⟩
  obtain ⟨q, hq⟩ : ∃ q, decide (same13 k (withN kn N) (withX kn X) k N X) = q := ⟨_, rfl⟩
  have HZ : Hid (rightP k N X = (T.all goodT && q)) := Lib.hid (by unfold rightP; rw [hkb, if_neg (by omega), hT, hq])
  have htm := rterms_any (k := k) (s := N 1) (r := N 2) (c := N 3) (a4 := X 4) (a5 := X 5) (a6 := X 6) (a7 := X 7) (a8 := X 8) (a9 := X 9) (a10 := X 10) (a11 := X 11) (a12 := X 12) (w.alloc (.cells #[.int .i64 k, .int .u32 (N 1 : Nat), .int .u32 (N 2 : Nat), .int .u64 (N 3 : Nat), .string (X 4), .string (X 5), .string (X 6), .string (X 7), .string (X 8), .string (X 9), .string (X 10), .string (X 11), .string (X 12)] 25))
  rw [hkn, rows_txts kn h1 h4, hT, ← hkn] at htm
  unfold TermsRet at htm
  have HTM := Lib.hid htm
  obtain ⟨wN, hwN⟩ : ∃ f, withN kn N = f := ⟨_, rfl⟩
  obtain ⟨wX, hwX⟩ : ∃ f, withX kn X = f := ⟨_, rfl⟩
  rw [hwN, hwX] at hq
  have hEQ : ∀ W, (binOp .eql 25 (.agg #[.int .i64 k, .int .u32 (wN 1 : Nat), .int .u32 (wN 2 : Nat), .int .u64 (wN 3 : Nat), .string (wX 4), .string (wX 5), .string (wX 6), .string (wX 7), .string (wX 8), .string (wX 9), .string (wX 10), .string (wX 11), .string (wX 12)]) (.agg #[.int .i64 k, .int .u32 (N 1 : Nat), .int .u32 (N 2 : Nat), .int .u64 (N 3 : Nat), .string (X 4), .string (X 5), .string (X 6), .string (X 7), .string (X 8), .string (X 9), .string (X 10), .string (X 11), .string (X 12)])).run Try.prog W = .ok (.bool q) W := fun W => msg_eq6 W k wN wX k N X q hq.symm
  have HW : Hid (∀ W v, Strs W v T → Calls Try.prog 23 #[.int .i64 k, .int .u32 (N 1 : Nat), .int .u32 (N 2 : Nat), .int .u64 (N 3 : Nat), v] W fun e w' => e = .returned (.agg #[.int .i64 k, .int .u32 (wN 1 : Nat), .int .u32 (wN 2 : Nat), .int .u64 (wN 3 : Nat), .string (wX 4), .string (wX 5), .string (wX 6), .string (wX 7), .string (wX 8), .string (wX 9), .string (wX 10), .string (wX 11), .string (wX 12)]) ∧ Below W.heap.size W w') := Lib.hid (fun W v h => by
    rw [← hwN, ← hwX, hkn]
    exact with_any kn h1 h4 N X v W (by rw [hT]; exact h))
  have HTS : Hid (∀ t ∈ T, t.length ≤ maxLen) := Lib.hid (by
    rw [← hT]
    intro t ht
    simp only [txtsX, List.mem_map] at ht
    obtain ⟨c, _, rfl⟩ := ht
    simpa using hsz c)
  have hki : ¬ k < 1 := by omega
  have hki4 : ¬ 4 < k := by omega
  have hTl : (T.length : Int) ≤ 5 := by rw [← hT]; simp only [txtsX, List.length_map]; have := cs_len kn; omega
  clear hkn h1 h4 hkb hT hq htm hwN hwX hx hN hsz
  go_enter Try.func8, Try.ntmps8
  go_wp2_with (first | (go_at_call 15; ((with_reducible refine (HTM.out).mono ?_); rintro e w2 ⟨v2, rfl, hs2, hb2⟩; have HS2 := Lib.hid hs2; have HM2 := Lib.hid (msg_below HM.out hb2); have HB2 := Lib.hid (Below.next (below_one _) hb2); obtain ⟨a2, q2, rfl, _⟩ := id hs2; clear hs2 hb2)) | fail)
  go_loopw [4] (fun i wr => ∃ j : Nat, i = .int .i64 (j : Nat) ∧ j ≤ T.length ∧ Below w2.heap.size w2 wr ∧ (T.take j).all goodT = true) (fun i _ => T.length - (intOf i).toNat)
  case atStart => exact ⟨0, rfl, Nat.zero_le _, Below.refl _ _, rfl⟩
  case round =>
    obtain ⟨j, rfl, hj, hb, hall⟩ := hrel
    have HBr := Lib.hid hb
    have HAL := Lib.hid hall
    clear hb hall
    by_cases hlt : j < T.length
    · obtain ⟨b, off, cp, he, hc⟩ := strs_cells (HS2.out.below HBr.out) (fun h => by rw [h] at hlt; simp at hlt)
      cases he
      have hcj := hc j hlt
      have hgt : T[j]? = some (T.getD j []) := by simp [List.getD, List.getElem?_eq_getElem hlt]
      have htl := HTS.out (T.getD j []) (List.mem_of_getElem? hgt)
      have htake : T.take (j + 1) = T.take j ++ [T.getD j []] := by rw [List.take_add_one, hgt]; rfl
      have hbad : goodT (T.getD j []) = false → T.all goodT = false := fun h => by
        rw [List.all_eq_false]
        exact ⟨_, List.mem_of_getElem? hgt, by rw [h]; decide⟩
      generalize T.getD j [] = t at *
      replace hcj : wr.cell? ⟨b, off + j, none⟩ = some (.string (strB t)) := hcj
      have hji : (j : Int) < T.length := by omega
      by_cases hs : 65535 < t.length
      · have HZf : Hid (rightP k N X = false) := Lib.hid (by rw [HZ.out, hbad (by unfold goodT; rw [decide_eq_false (by omega)]; rfl)]; rfl)
        have hsi : (65535 : Int) < ((strB t).size : Int) := by rw [strB_size]; omega
        clear hs htl htake hbad hgt hc
        go_wp2_with fail
        go_ret
        rw [HZf.out]
        exact ⟨rfl, Below.next HB2.out HBr.out⟩
      · have hsi : ¬ (65535 : Int) < ((strB t).size : Int) := by rw [strB_size]; omega
        cases hL : isL t with
        | false =>
          have HZf : Hid (rightP k N X = false) := Lib.hid (by rw [HZ.out, hbad (by unfold goodT; rw [hL, Bool.and_false])]; rfl)
          have HIS := Lib.hid (fun w => ris_v t htl false hL (strB t) rfl w)
          clear hs htl htake hbad hgt hc hL
          go_wp2_with (first | (go_at_call 22; ((with_reducible refine (HIS.out _).mono ?_); rintro e w5 ⟨rfl, hb5⟩; have HB5 := Lib.hid (Below.next HBr.out hb5))) | fail)
          go_ret
          rw [HZf.out]
          exact ⟨rfl, Below.next HB2.out HB5.out⟩
        | true =>
          have HIS := Lib.hid (fun w => ris_v t htl true hL (strB t) rfl w)
          have HG : Hid ((T.take (j + 1)).all goodT = true) := Lib.hid (by
            rw [htake, List.all_append, HAL.out]
            have : goodT t = true := by unfold goodT; rw [decide_eq_true (by omega), hL]; rfl
            simp [this])
          clear hs htl htake hbad hgt hc hL
          go_wp2_with (first | (go_at_call 22; ((with_reducible refine (HIS.out _).mono ?_); rintro e w5 ⟨rfl, hb5⟩; have HB5 := Lib.hid (Below.next HBr.out hb5))) | fail)
          go_roundw
          case rel => exact ⟨j + 1, by first | rfl | go_num, hlt, HB5.out, HG.out⟩
          case measure => simp [intOf]; omega
    · obtain rfl : j = T.length := by omega
      have HZ2 : Hid (rightP k N X = q) := Lib.hid (by rw [HZ.out]; have := HAL.out; rw [List.take_length] at this; rw [this]; rfl)
      have HMr := Lib.hid (msg_below (msg_below HM2.out HBr.out) (Below.refl _ _).drew)
      have HSr := Lib.hid ((HS2.out.below HBr.out).below (Below.refl _ _).drew)
      have HBw := Lib.hid (Below.next HB2.out HBr.out).drew
      have c0 : wr.drew.cell? ⟨w.heap.size, 0, none⟩ = some (.int .i64 k) := cell_of HMr.out 0 rfl; have c1 : wr.drew.cell? ⟨w.heap.size, 1, none⟩ = some (.int .u32 (N 1 : Nat)) := cell_of HMr.out 1 rfl; have c2 : wr.drew.cell? ⟨w.heap.size, 2, none⟩ = some (.int .u32 (N 2 : Nat)) := cell_of HMr.out 2 rfl; have c3 : wr.drew.cell? ⟨w.heap.size, 3, none⟩ = some (.int .u64 (N 3 : Nat)) := cell_of HMr.out 3 rfl; have c4 : wr.drew.cell? ⟨w.heap.size, 4, none⟩ = some (.string (X 4)) := cell_of HMr.out 4 rfl; have c5 : wr.drew.cell? ⟨w.heap.size, 5, none⟩ = some (.string (X 5)) := cell_of HMr.out 5 rfl; have c6 : wr.drew.cell? ⟨w.heap.size, 6, none⟩ = some (.string (X 6)) := cell_of HMr.out 6 rfl; have c7 : wr.drew.cell? ⟨w.heap.size, 7, none⟩ = some (.string (X 7)) := cell_of HMr.out 7 rfl; have c8 : wr.drew.cell? ⟨w.heap.size, 8, none⟩ = some (.string (X 8)) := cell_of HMr.out 8 rfl; have c9 : wr.drew.cell? ⟨w.heap.size, 9, none⟩ = some (.string (X 9)) := cell_of HMr.out 9 rfl; have c10 : wr.drew.cell? ⟨w.heap.size, 10, none⟩ = some (.string (X 10)) := cell_of HMr.out 10 rfl; have c11 : wr.drew.cell? ⟨w.heap.size, 11, none⟩ = some (.string (X 11)) := cell_of HMr.out 11 rfl; have c12 : wr.drew.cell? ⟨w.heap.size, 12, none⟩ = some (.string (X 12)) := cell_of HMr.out 12 rfl
      go_wp2_with fail
      go_region_held3 (fun W => W.cell? ⟨w.heap.size, 0, none⟩ = some (.int .i64 k) ∧ W.cell? ⟨w.heap.size, 1, none⟩ = some (.int .u32 (N 1 : Nat)) ∧ W.cell? ⟨w.heap.size, 2, none⟩ = some (.int .u32 (N 2 : Nat)) ∧ W.cell? ⟨w.heap.size, 3, none⟩ = some (.int .u64 (N 3 : Nat)) ∧ W.cell? ⟨w.heap.size, 4, none⟩ = some (.string (X 4)) ∧ W.cell? ⟨w.heap.size, 5, none⟩ = some (.string (X 5)) ∧ W.cell? ⟨w.heap.size, 6, none⟩ = some (.string (X 6)) ∧ W.cell? ⟨w.heap.size, 7, none⟩ = some (.string (X 7)) ∧ W.cell? ⟨w.heap.size, 8, none⟩ = some (.string (X 8)) ∧ W.cell? ⟨w.heap.size, 9, none⟩ = some (.string (X 9)) ∧ W.cell? ⟨w.heap.size, 10, none⟩ = some (.string (X 10)) ∧ W.cell? ⟨w.heap.size, 11, none⟩ = some (.string (X 11)) ∧ W.cell? ⟨w.heap.size, 12, none⟩ = some (.string (X 12))) (exact ⟨by assumption, by assumption, by assumption, by assumption, by assumption, by assumption, by assumption, by assumption, by assumption, by assumption, by assumption, by assumption, by assumption⟩) (first | (go_at_call 23; ((with_reducible refine (HW.out _ _ HSr.out).mono ?_); rintro e w5 ⟨rfl, hb2⟩; have HB5 := Lib.hid (HBw.out.trans (hb2.mono HBw.out.size)); have c0 := (hb2.cell (p := ⟨w.heap.size, 0, none⟩) (World.block_lt_of_cell? _ _ c0)).trans c0; have c1 := (hb2.cell (p := ⟨w.heap.size, 1, none⟩) (World.block_lt_of_cell? _ _ c1)).trans c1; have c2 := (hb2.cell (p := ⟨w.heap.size, 2, none⟩) (World.block_lt_of_cell? _ _ c2)).trans c2; have c3 := (hb2.cell (p := ⟨w.heap.size, 3, none⟩) (World.block_lt_of_cell? _ _ c3)).trans c3; have c4 := (hb2.cell (p := ⟨w.heap.size, 4, none⟩) (World.block_lt_of_cell? _ _ c4)).trans c4; have c5 := (hb2.cell (p := ⟨w.heap.size, 5, none⟩) (World.block_lt_of_cell? _ _ c5)).trans c5; have c6 := (hb2.cell (p := ⟨w.heap.size, 6, none⟩) (World.block_lt_of_cell? _ _ c6)).trans c6; have c7 := (hb2.cell (p := ⟨w.heap.size, 7, none⟩) (World.block_lt_of_cell? _ _ c7)).trans c7; have c8 := (hb2.cell (p := ⟨w.heap.size, 8, none⟩) (World.block_lt_of_cell? _ _ c8)).trans c8; have c9 := (hb2.cell (p := ⟨w.heap.size, 9, none⟩) (World.block_lt_of_cell? _ _ c9)).trans c9; have c10 := (hb2.cell (p := ⟨w.heap.size, 10, none⟩) (World.block_lt_of_cell? _ _ c10)).trans c10; have c11 := (hb2.cell (p := ⟨w.heap.size, 11, none⟩) (World.block_lt_of_cell? _ _ c11)).trans c11; have c12 := (hb2.cell (p := ⟨w.heap.size, 12, none⟩) (World.block_lt_of_cell? _ _ c12)).trans c12; clear hb2)))
      all_goals
        go_wp2_with fail
        go_ret
        rw [HZ2.out]
        exact ⟨rfl, HB5.out⟩
theorem rright6_any (k : Int) (N : Nat → Nat) (X : Nat → ByteArray) (w : World) (hN : NumOk N) (hsz : ∀ c, (X c).size ≤ maxLen) : Calls Try.prog 8 #[.agg #[.int .i64 k, .int .u32 (N 1 : Nat), .int .u32 (N 2 : Nat), .int .u64 (N 3 : Nat), .string (X 4), .string (X 5), .string (X 6), .string (X 7), .string (X 8), .string (X 9), .string (X 10), .string (X 11), .string (X 12)]] w fun e w' => e = .returned (.bool (rightP k N X)) ∧ Below w.heap.size w w' := by
  by_cases h : kindB k = 0
  · exact rright_kind k N X w h
  · have hk : 1 ≤ k ∧ k ≤ 4 := by unfold kindB at h; split at h; assumption; exact absurd rfl h
    exact rright_x k k.toNat N X w (by omega) (by omega) (by omega) hN hsz
end Go.Proofs.Ytjbmcjppaadkgaa
