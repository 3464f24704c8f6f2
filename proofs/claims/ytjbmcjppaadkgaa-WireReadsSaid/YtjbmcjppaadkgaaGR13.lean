/- Texts of this seat, merged: WireM1, Wire22. -/
import Derived.Test.YtjbmcjppaadkgaaGR12
namespace Go.Proofs.Ytjbmcjppaadkgaa
set_option linter.unusedVariables false
set_option linter.unusedSimpArgs false
set_option maxRecDepth 100000
open Go.RowKit
theorem valB_inj : ∀ (a b : List UInt8), a.length = b.length → valB a = valB b → a = b
  | [], [], _, _ => rfl
  | x :: a, y :: b, h, hv => by
    simp only [valB] at hv
    have hx := UInt8.toNat_lt x
    have hy := UInt8.toNat_lt y
    have h1 : x.toNat = y.toNat := by omega
    have h2 : valB a = valB b := by omega
    rw [UInt8.toNat_inj.1 h1, valB_inj a b (by simpa using h) h2]
  | [], _ :: _, h, _ => by simp at h
  | _ :: _, [], h, _ => by simp at h
theorem num_val (a : List UInt8) : numB (valB a) a.length = a :=
  valB_inj _ _ (numB_len _ _) (valB_num a.length (valB a) (valB_lt a))
def numC : Fd → List Nat
  | .n4 c => [c]
  | .n8 c => [c]
  | _ => []
def txtC : Fd → List Nat
  | .t c => [c]
  | _ => []
def numCs (fs : List Fd) : List Nat := fs.flatMap numC
def txtCs (fs : List Fd) : List Nat := fs.flatMap txtC
def FdDist : List Fd → Prop
  | [] => True
  | f :: fs => (∀ c ∈ numC f, c ∉ numCs fs) ∧ (∀ c ∈ txtC f, c ∉ txtCs fs) ∧ FdDist fs
theorem zr_ok : ∀ (n : Nat) (l l' : List UInt8), zr n l = (0, l') → l = List.replicate n 0 ++ l'
  | 0, l, l', h => by cases h; rfl
  | n + 1, [], l', h => by cases h
  | n + 1, x :: r, l', h => by
    simp only [zr] at h
    split at h
    · rename_i hx
      subst hx
      rw [zr_ok n r l' h]; rfl
    · cases h
theorem upd_same {α : Type} (f : Nat → α) (c : Nat) (v : α) : upd f c v c = v := by simp [upd]
theorem upd_other {α : Type} (f : Nat → α) {c d : Nat} (v : α) (h : d ≠ c) : upd f c v d = f d := by simp [upd, h]
theorem take_bsub (l : List UInt8) {n : Nat} (h : ¬ l.length < 2 + n) : l.take 2 ++ bsub l 2 (2 + n) ++ l.drop (2 + n) = l := by
  unfold bsub
  rw [Nat.add_sub_cancel_left, List.append_assoc]
  have h2 : (l.drop 2).take n ++ l.drop (2 + n) = l.drop 2 := by
    rw [← List.drop_drop]
    exact List.take_append_drop n (l.drop 2)
  rw [h2, List.take_append_drop]
/-- one field: what it leaves as it was; what it prints is what it took -/
theorem rF_ok (f : Fd) (l l' : List UInt8) (N N' : Nat → Nat) (X X' : Nat → ByteArray) (h : rF N X f l = (0, l', N', X')) :
    (∀ c, c ∉ numC f → N' c = N c) ∧ (∀ c, c ∉ txtC f → X' c = X c) ∧ (NumOk N → FdOk f → NumOk N') ∧
    (∀ (Nf : Nat → Nat) (Xf : Nat → ByteArray), (∀ c ∈ numC f, Nf c = N' c) → (∀ c ∈ txtC f, Xf c = X' c) → ∃ a, l = a ++ l' ∧ ∀ L, pF Nf Xf f L = (0, L ++ a)) := by
  cases f with
  | z =>
    simp only [rF, Prod.mk.injEq] at h
    obtain ⟨h1, h2, rfl, rfl⟩ := h
    have hz : zr 3 l = (0, l') := Prod.ext h1 h2
    refine ⟨fun _ _ => rfl, fun _ _ => rfl, fun hN _ => hN, fun Nf Xf _ _ => ⟨List.replicate 3 0, zr_ok 3 l l' hz, fun L => rfl⟩⟩
  | n4 c =>
    simp only [rF, rdNum] at h
    split at h
    · cases h
    rename_i hl
    simp only [Prod.mk.injEq] at h
    obtain ⟨_, rfl, rfl, rfl⟩ := h
    have hlt := valB_lt (l.take 4)
    have hlen : (l.take 4).length = 4 := by rw [List.length_take]; omega
    rw [hlen] at hlt
    refine ⟨fun d hd => upd_other _ _ (by simpa [numC] using hd), fun _ _ => rfl, fun hN hok => ?_, fun Nf Xf hn _ => ⟨l.take 4, (List.take_append_drop 4 l).symm, fun L => ?_⟩⟩
    · rcases hok with rfl | rfl
      · exact ⟨by rw [upd_same]; exact hlt, by rw [upd_other _ _ (by decide)]; exact hN.n2, by rw [upd_other _ _ (by decide)]; exact hN.n3⟩
      · exact ⟨by rw [upd_other _ _ (by decide)]; exact hN.n1, by rw [upd_same]; exact hlt, by rw [upd_other _ _ (by decide)]; exact hN.n3⟩
    · have hc := hn c (by simp [numC])
      rw [upd_same] at hc
      have := num_val (l.take 4)
      rw [hlen] at this
      simp only [pF, hc, this]
  | n8 c =>
    simp only [rF, rdNum] at h
    split at h
    · cases h
    rename_i hl
    simp only [Prod.mk.injEq] at h
    obtain ⟨_, rfl, rfl, rfl⟩ := h
    have hlt := valB_lt (l.take 8)
    have hlen : (l.take 8).length = 8 := by rw [List.length_take]; omega
    rw [hlen] at hlt
    refine ⟨fun d hd => upd_other _ _ (by simpa [numC] using hd), fun _ _ => rfl, fun hN hok => ?_, fun Nf Xf hn _ => ⟨l.take 8, (List.take_append_drop 8 l).symm, fun L => ?_⟩⟩
    · obtain rfl : c = 3 := hok
      exact ⟨by rw [upd_other _ _ (by decide)]; exact hN.n1, by rw [upd_other _ _ (by decide)]; exact hN.n2, by rw [upd_same]; exact hlt⟩
    · have hc := hn c (by simp [numC])
      rw [upd_same] at hc
      have := num_val (l.take 8)
      rw [hlen] at this
      simp only [pF, hc, this]
  | t c =>
    simp only [rF, rdTxt] at h
    split at h
    · cases h
    rename_i hno
    unfold cutTxt at h
    split at h
    · cases h
    split at h
    · cases h
    rename_i h2 hn
    simp only [Prod.mk.injEq] at h
    obtain ⟨_, rfl, rfl, rfl⟩ := h
    refine ⟨fun _ _ => rfl, fun d hd => upd_other _ _ (by simpa [txtC] using hd), fun hN _ => hN, fun Nf Xf _ hx => ⟨l.take 2 ++ bsub l 2 (2 + valB (l.take 2)), (take_bsub l hn).symm, fun L => ?_⟩⟩
    have hc := hx c (by simp [txtC])
    rw [upd_same] at hc
    have hlen : (l.take 2).length = 2 := by rw [List.length_take]; omega
    have hlt := valB_lt (l.take 2)
    rw [hlen] at hlt
    have hnv := num_val (l.take 2)
    rw [hlen] at hnv
    have hbl : (bsub l 2 (2 + valB (l.take 2))).length = valB (l.take 2) := by rw [bsub_len (by omega)]; omega
    simp only [pF, hc, strB_size, hbl]
    rw [if_neg (by omega), hnv]
    simp [strB]
theorem rAll_ok : ∀ (fs : List Fd) (l l' : List UInt8) (N N' : Nat → Nat) (X X' : Nat → ByteArray), rAll fs l N X = (0, l', N', X') → (∀ f ∈ fs, FdOk f) →
    (∀ c, c ∉ numCs fs → N' c = N c) ∧ (∀ c, c ∉ txtCs fs → X' c = X c) ∧ (NumOk N → NumOk N') ∧ (FdDist fs → ∃ a, l = a ++ l' ∧ ∀ L, pAll N' X' fs L = (0, L ++ a))
  | [], l, l', N, N', X, X', h, _ => by
    cases h
    exact ⟨fun _ _ => rfl, fun _ _ => rfl, fun h => h, fun _ => ⟨[], rfl, fun L => by simp [pAll]⟩⟩
  | f :: fs, l, l', N, N', X, X', h, hok => by
    unfold rAll at h
    split at h
    · rename_i h0
      obtain ⟨R, hR⟩ : ∃ R, rF N X f l = R := ⟨_, rfl⟩
      obtain ⟨e, l1, N1, X1⟩ := R
      rw [hR] at h h0
      dsimp only at h h0
      subst h0
      obtain ⟨a1, a2, a3, a4⟩ := rF_ok f l l1 N N1 X X1 hR
      obtain ⟨b1, b2, b3, b4⟩ := rAll_ok fs l1 l' N1 N' X1 X' h (fun g hg => hok g (List.mem_cons_of_mem _ hg))
      refine ⟨fun c hc => ?_, fun c hc => ?_, fun hN => b3 (a3 hN (hok f (List.mem_cons_self ..))), fun hd => ?_⟩
      · simp only [numCs, List.flatMap_cons, List.mem_append, not_or] at hc
        rw [b1 c hc.2, a1 c hc.1]
      · simp only [txtCs, List.flatMap_cons, List.mem_append, not_or] at hc
        rw [b2 c hc.2, a2 c hc.1]
      · obtain ⟨a, ha, hp⟩ := a4 N' X' (fun c hc => b1 c (hd.1 c hc)) (fun c hc => b2 c (hd.2.1 c hc))
        obtain ⟨a', ha', hp'⟩ := b4 hd.2.2
        refine ⟨a ++ a', by rw [ha, ha', List.append_assoc], fun L => ?_⟩
        unfold pAll
        rw [hp L]
        simp only [if_true]
        rw [hp' (L ++ a), List.append_assoc]
    · rename_i h0
      rw [h] at h0
      exact absurd rfl h0
theorem fsOf_dist (k : Nat) : FdDist (fsOf k) := by
  unfold fsOf
  split; · simp [FdDist, numC, txtC, numCs, txtCs]
  split; · simp [FdDist, numC, txtC, numCs, txtCs]
  split; · simp [FdDist, numC, txtC, numCs, txtCs]
  split <;> simp [FdDist, numC, txtC, numCs, txtCs]
theorem N0_ok : NumOk N0 := ⟨by decide, by decide, by decide⟩
/-- what is read -/
theorem readS_ok {l : List UInt8} {k : Int} {N : Nat → Nat} {X : Nat → ByteArray} (h : readS l = (0, k, N, X)) :
    ∃ x r, l = x :: r ∧ k = (x.toNat : Nat) ∧ fsOf x.toNat ≠ [] ∧ rAll (fsOf x.toNat) r N0 X0 = (0, [], N, X) := by
  cases l with
  | nil => cases h
  | cons x r =>
    refine ⟨x, r, rfl, ?_⟩
    by_cases hk : fsOf x.toNat = []
    · have h' : readS (x :: r) = (3, 0, N0, X0) := if_pos hk
      rw [h'] at h
      cases h
    · have h' : readS (x :: r) = readR x (rAll (fsOf x.toNat) r N0 X0) := if_neg hk
      rw [h'] at h
      refine (fun (g : ((k = (x.toNat : Nat)) ∧ rAll (fsOf x.toNat) r N0 X0 = (0, [], N, X))) => ⟨g.1, hk, g.2⟩) ?_
      generalize rAll (fsOf x.toNat) r N0 X0 = R at h ⊢
      obtain ⟨e, l, N1, X1⟩ := R
      by_cases he : e = 0
      · subst he
        by_cases hl : 0 < l.length
        · have h2 : readR x (0, l, N1, X1) = (5, 0, N0, X0) := by unfold readR; rw [if_neg (by simp), if_pos hl]
          rw [h2] at h
          cases h
        · have h2 : readR x (0, l, N1, X1) = (0, ((x.toNat : Nat) : Int), N1, X1) := by unfold readR; rw [if_neg (by simp), if_neg hl]
          rw [h2] at h
          obtain rfl : l = [] := List.length_eq_zero_iff.1 (by omega)
          simp only [Prod.mk.injEq] at h
          obtain ⟨_, h3, rfl, rfl⟩ := h
          exact ⟨h3.symm, rfl⟩
      · have h2 : readR x (e, l, N1, X1) = (e, 0, N0, X0) := if_pos he
        rw [h2] at h
        simp only [Prod.mk.injEq] at h
        exact absurd h.1 he
theorem fsOf_range {n : Nat} (h : fsOf n ≠ []) : 1 ≤ n ∧ n ≤ 4 := by
  have : ¬ (n ≠ 1 ∧ n ≠ 2 ∧ n ≠ 3 ∧ n ≠ 4) := fun g => h (by unfold fsOf; rw [if_neg g.1, if_neg g.2.1, if_neg g.2.2.1, if_neg g.2.2.2])
  omega
theorem kindB_nat {n : Nat} (h1 : 1 ≤ n) (h4 : n ≤ 4) : kindB ((n : Nat) : Int) = n := by
  unfold kindB
  rw [if_pos (by omega)]
  exact Int.toNat_natCast n
theorem ofNat_toNat8 (x : UInt8) : UInt8.ofNat x.toNat = x := UInt8.toNat_inj.1 (by rw [UInt8.toNat_ofNat', Nat.mod_eq_of_lt (UInt8.toNat_lt x)])
theorem read_print {l : List UInt8} {k : Int} {N : Nat → Nat} {X : Nat → ByteArray} (h : readS l = (0, k, N, X)) : NumOk N ∧ printS k N X = (0, l) := by
  obtain ⟨x, r, rfl, rfl, hk, hr⟩ := readS_ok h
  obtain ⟨h1, h4⟩ := fsOf_range hk
  obtain ⟨_, _, hN, hp⟩ := rAll_ok _ _ _ _ _ _ _ hr (fsOf_ok _)
  refine ⟨hN N0_ok, ?_⟩
  obtain ⟨a, ha, hpa⟩ := hp (fsOf_dist _)
  rw [List.append_nil] at ha
  subst ha
  unfold printS
  rw [kindB_nat h1 h4, if_neg (by omega), ofNat_toNat8, hpa [x]]
  unfold printP
  rw [if_neg (by simp)]
  show printR _ N X (x :: r) (readS (x :: r)) = _
  rw [h]
  unfold printR
  exact if_neg (fun h => h.elim (fun h => h rfl) (fun h => h ⟨rfl, rfl, rfl, rfl, rfl, rfl, rfl, rfl, rfl, rfl, rfl, rfl, rfl⟩))
end Go.Proofs.Ytjbmcjppaadkgaa

namespace Go.Proofs.Ytjbmcjppaadkgaa
set_option linter.unusedVariables false
set_option linter.unusedSimpArgs false
set_option maxRecDepth 100000
open Go.RowKit
theorem bytes_row {w : World} {a1 : Option Addr} {len1 cap1 : Nat} {z1 : List Int} (w1 : ((a1 = none ∧ len1 = 0 ∧ cap1 = 0 ∧ z1 = []) ∨ ∃ x, a1 = some x ∧ len1 ≤ cap1 ∧ cap1 ≤ maxLen ∧ z1.length = cap1 ∧ (∀ i, i < z1.length → w.cell? (x.add i) = some (.int .u8 (z1.getD i 0))) ∧ ∀ n ∈ z1, (Lit.int .u8 n).wf = true)) : ∃ l, l.length = len1 ∧ Bytes w (.slice a1 len1 cap1) l ∧ len1 ≤ cap1 ∧ cap1 ≤ maxLen ∧ (a1 = none → cap1 = 0) := by
  rcases w1 with ⟨rfl, rfl, rfl, rfl⟩ | ⟨x, rfl, hlc, hm, hz, hcell, hwz⟩
  · exact ⟨[], rfl, bytes_nil w, Nat.le_refl _, Nat.zero_le _, fun _ => rfl⟩
  · refine ⟨(z1.take len1).map fun n => UInt8.ofNat n.toNat, by simp; omega, ⟨some x, cap1, by simp; omega, ?_⟩, hlc, hm, fun h => by cases h⟩
    by_cases h0 : len1 = 0
    · left; subst h0; rfl
    · right
      have hc := hcell 0 (by omega)
      obtain ⟨b, off, spot⟩ := x
      have hspot : spot = none := by simpa [Addr.add] using World.cell?_spot hc
      subst hspot
      refine ⟨b, off, rfl, fun i hi => ?_⟩
      have hi2 : i < len1 := by simp at hi; omega
      have h1 := hcell i (by omega)
      rw [add_at] at h1
      rw [h1]
      have hb := hwz (z1.getD i 0) (by simp [List.getD, List.getElem?_eq_getElem (show i < z1.length by omega)])
      have hb2 := bounds_u8 hb
      have e : (((z1.take len1).map fun n => UInt8.ofNat n.toNat).getD i 0) = UInt8.ofNat (z1.getD i 0).toNat := by
        simp [List.getD, hi2, List.getElem?_eq_getElem (show i < z1.length by omega)]
      rw [e, UInt8.toNat_ofNat', Nat.mod_eq_of_lt (by omega)]
      congr 2; omega

theorem str_any {w : World} {a : Option Addr} {n c : Nat} {l : List UInt8} (h : Bytes w (.slice a n c) l) : (convert 28 9 (.slice a n c)).run Try.prog w = .ok (.string (strB l)) w := by
  obtain ⟨a', cp, hv, hc⟩ := bytes_conv h
  cases hv
  exact hc
theorem part_of {w : World} {a : Option Addr} {cap : Nat} {l : List UInt8} (h : Bytes w (.slice a l.length cap) l) (hc : l.length ≤ cap) (hm : cap ≤ maxLen) : (l = [] ∧ ∃ a' cp, Value.slice a l.length cap = .slice a' 0 cp) ∨ ∃ b, PartB w b (.slice a l.length cap) l := by
  obtain ⟨a', cp, hv, h⟩ := h
  cases hv
  rcases h with rfl | ⟨b, off, rfl, h⟩
  · exact .inl ⟨rfl, _, _, rfl⟩
  · exact .inr ⟨b, off, cap, rfl, hc, hm, h⟩
set_option maxHeartbeats 1000000 in
theorem wirereads_walk (l : List UInt8) (a : Option Addr) (cap : Nat) (w : World) (hv : Bytes w (.slice a l.length cap) l) (hc : l.length ≤ cap) (hm : cap ≤ maxLen) :
    Calls Try.prog 4 #[.slice a l.length cap] w fun e w' => e = .returned (.bool true) ∧ Below w.heap.size w w' := by
  have HVB := Lib.hid hv
  have HC := Lib.hid hc
  have HM := Lib.hid hm
  clear hv hc hm
  by_cases h3 : 3000 < l.length
  · have h3i : (3000 : Int) < l.length := by omega
    go_enter Try.func4, Try.ntmps4
    go_wp2_with (first | (go_at_call 5; ((with_reducible refine (awake6_any _).mono ?_); rintro e w2 ⟨rfl, hb⟩; (try dsimp only); have HB2 := Lib.hid hb; have HVB2 := Lib.hid (HVB.out.below hb); clear hb)) | fail)
    go_ret
    exact ⟨rfl, HB2.out⟩
  · have h3i : ¬ (3000 : Int) < l.length := by omega
    have HL7 : Hid (l.length ≤ 10000000) := Lib.hid (by omega)
    have HL5 : Hid (l.length ≤ 100000) := Lib.hid (by omega)
    obtain ⟨R, hR⟩ : ∃ R, readS l = R := ⟨_, rfl⟩
    obtain ⟨rc, rk, rN, rX⟩ := R
    have HRR := Lib.hid hR
    have hNE : ∀ W, (binOp .neq 25 (.agg #[.int .i64 rk, .int .u32 (rN 1 : Nat), .int .u32 (rN 2 : Nat), .int .u64 (rN 3 : Nat), .string (rX 4), .string (rX 5), .string (rX 6), .string (rX 7), .string (rX 8), .string (rX 9), .string (rX 10), .string (rX 11), .string (rX 12)]) (.agg #[.int .i64 rk, .int .u32 (rN 1 : Nat), .int .u32 (rN 2 : Nat), .int .u64 (rN 3 : Nat), .string (rX 4), .string (rX 5), .string (rX 6), .string (rX 7), .string (rX 8), .string (rX 9), .string (rX 10), .string (rX 11), .string (rX 12)])).run Try.prog W = .ok (.bool false) W := fun W => msg_neq W rk rN rX rk rN rX false (by rw [decide_eq_true (show same13 rk rN rX rk rN rX from ⟨rfl, rfl, rfl, rfl, rfl, rfl, rfl, rfl, rfl, rfl, rfl, rfl, rfl⟩)]; rfl)
    by_cases he : rc = 0
    · subst he
      obtain ⟨hN, hP⟩ := read_print hR
      have HNO := Lib.hid hN
      have HPR := Lib.hid hP
      clear hR hN hP h3
      go_enter Try.func4, Try.ntmps4
      go_wp2_with (first | (go_at_call 5; ((with_reducible refine (awake6_any _).mono ?_); rintro e w2 ⟨rfl, hb⟩; (try dsimp only); have HB2 := Lib.hid hb; have HVB2 := Lib.hid (HVB.out.below hb); clear hb)) | (go_at_call 12; ((with_reducible refine (wread_any _ l w2 (part_of HVB2.out HC.out HM.out) HL7.out).mono ?_); unfold ReadRet6; rw [HRR.out]; rintro e w3 ⟨rfl, hb⟩; (try dsimp only [msgV, msgC]); have HB3 := Lib.hid (Below.next HB2.out hb); have HB3m := Lib.hid (Below.next (Below.next HB2.out hb) (below_one (w := w3) (.cells #[.int .i64 rk, .int .u32 (rN 1 : Nat), .int .u32 (rN 2 : Nat), .int .u64 (rN 3 : Nat), .string (rX 4), .string (rX 5), .string (rX 6), .string (rX 7), .string (rX 8), .string (rX 9), .string (rX 10), .string (rX 11), .string (rX 12)] 25))); clear hb)) | (go_at_call 18; ((with_reducible refine (rread6_any _ l (w3.alloc (.cells #[.int .i64 rk, .int .u32 (rN 1 : Nat), .int .u32 (rN 2 : Nat), .int .u64 (rN 3 : Nat), .string (rX 4), .string (rX 5), .string (rX 6), .string (rX 7), .string (rX 8), .string (rX 9), .string (rX 10), .string (rX 11), .string (rX 12)] 25)) (part_of (HVB.out.below HB3m.out) HC.out HM.out) HL5.out).mono ?_); unfold ReadRet6; rw [HRR.out]; rintro e w5 ⟨rfl, hb5⟩; (try dsimp only [msgV, msgC]); have HB5 := Lib.hid (Below.next HB3m.out hb5); have HB5m := Lib.hid (Below.next (Below.next HB3m.out hb5) (below_one (w := w5) (.cells #[.int .i64 rk, .int .u32 (rN 1 : Nat), .int .u32 (rN 2 : Nat), .int .u64 (rN 3 : Nat), .string (rX 4), .string (rX 5), .string (rX 6), .string (rX 7), .string (rX 8), .string (rX 9), .string (rX 10), .string (rX 11), .string (rX 12)] 25))); have c0 : ∀ o, (w5.alloc o).cell? ⟨w3.heap.size, 0, none⟩ = some (.int .i64 rk) := (fun o => old1 o ((hb5.cell (p := ⟨w3.heap.size, 0, none⟩) (by simp)).trans (cell_of (heap_alloc_new w3 (.cells #[.int .i64 rk, .int .u32 (rN 1 : Nat), .int .u32 (rN 2 : Nat), .int .u64 (rN 3 : Nat), .string (rX 4), .string (rX 5), .string (rX 6), .string (rX 7), .string (rX 8), .string (rX 9), .string (rX 10), .string (rX 11), .string (rX 12)] 25)) 0 rfl))); have c1 : ∀ o, (w5.alloc o).cell? ⟨w3.heap.size, 1, none⟩ = some (.int .u32 (rN 1 : Nat)) := (fun o => old1 o ((hb5.cell (p := ⟨w3.heap.size, 1, none⟩) (by simp)).trans (cell_of (heap_alloc_new w3 (.cells #[.int .i64 rk, .int .u32 (rN 1 : Nat), .int .u32 (rN 2 : Nat), .int .u64 (rN 3 : Nat), .string (rX 4), .string (rX 5), .string (rX 6), .string (rX 7), .string (rX 8), .string (rX 9), .string (rX 10), .string (rX 11), .string (rX 12)] 25)) 1 rfl))); have c2 : ∀ o, (w5.alloc o).cell? ⟨w3.heap.size, 2, none⟩ = some (.int .u32 (rN 2 : Nat)) := (fun o => old1 o ((hb5.cell (p := ⟨w3.heap.size, 2, none⟩) (by simp)).trans (cell_of (heap_alloc_new w3 (.cells #[.int .i64 rk, .int .u32 (rN 1 : Nat), .int .u32 (rN 2 : Nat), .int .u64 (rN 3 : Nat), .string (rX 4), .string (rX 5), .string (rX 6), .string (rX 7), .string (rX 8), .string (rX 9), .string (rX 10), .string (rX 11), .string (rX 12)] 25)) 2 rfl))); have c3 : ∀ o, (w5.alloc o).cell? ⟨w3.heap.size, 3, none⟩ = some (.int .u64 (rN 3 : Nat)) := (fun o => old1 o ((hb5.cell (p := ⟨w3.heap.size, 3, none⟩) (by simp)).trans (cell_of (heap_alloc_new w3 (.cells #[.int .i64 rk, .int .u32 (rN 1 : Nat), .int .u32 (rN 2 : Nat), .int .u64 (rN 3 : Nat), .string (rX 4), .string (rX 5), .string (rX 6), .string (rX 7), .string (rX 8), .string (rX 9), .string (rX 10), .string (rX 11), .string (rX 12)] 25)) 3 rfl))); have c4 : ∀ o, (w5.alloc o).cell? ⟨w3.heap.size, 4, none⟩ = some (.string (rX 4)) := (fun o => old1 o ((hb5.cell (p := ⟨w3.heap.size, 4, none⟩) (by simp)).trans (cell_of (heap_alloc_new w3 (.cells #[.int .i64 rk, .int .u32 (rN 1 : Nat), .int .u32 (rN 2 : Nat), .int .u64 (rN 3 : Nat), .string (rX 4), .string (rX 5), .string (rX 6), .string (rX 7), .string (rX 8), .string (rX 9), .string (rX 10), .string (rX 11), .string (rX 12)] 25)) 4 rfl))); have c5 : ∀ o, (w5.alloc o).cell? ⟨w3.heap.size, 5, none⟩ = some (.string (rX 5)) := (fun o => old1 o ((hb5.cell (p := ⟨w3.heap.size, 5, none⟩) (by simp)).trans (cell_of (heap_alloc_new w3 (.cells #[.int .i64 rk, .int .u32 (rN 1 : Nat), .int .u32 (rN 2 : Nat), .int .u64 (rN 3 : Nat), .string (rX 4), .string (rX 5), .string (rX 6), .string (rX 7), .string (rX 8), .string (rX 9), .string (rX 10), .string (rX 11), .string (rX 12)] 25)) 5 rfl))); have c6 : ∀ o, (w5.alloc o).cell? ⟨w3.heap.size, 6, none⟩ = some (.string (rX 6)) := (fun o => old1 o ((hb5.cell (p := ⟨w3.heap.size, 6, none⟩) (by simp)).trans (cell_of (heap_alloc_new w3 (.cells #[.int .i64 rk, .int .u32 (rN 1 : Nat), .int .u32 (rN 2 : Nat), .int .u64 (rN 3 : Nat), .string (rX 4), .string (rX 5), .string (rX 6), .string (rX 7), .string (rX 8), .string (rX 9), .string (rX 10), .string (rX 11), .string (rX 12)] 25)) 6 rfl))); have c7 : ∀ o, (w5.alloc o).cell? ⟨w3.heap.size, 7, none⟩ = some (.string (rX 7)) := (fun o => old1 o ((hb5.cell (p := ⟨w3.heap.size, 7, none⟩) (by simp)).trans (cell_of (heap_alloc_new w3 (.cells #[.int .i64 rk, .int .u32 (rN 1 : Nat), .int .u32 (rN 2 : Nat), .int .u64 (rN 3 : Nat), .string (rX 4), .string (rX 5), .string (rX 6), .string (rX 7), .string (rX 8), .string (rX 9), .string (rX 10), .string (rX 11), .string (rX 12)] 25)) 7 rfl))); have c8 : ∀ o, (w5.alloc o).cell? ⟨w3.heap.size, 8, none⟩ = some (.string (rX 8)) := (fun o => old1 o ((hb5.cell (p := ⟨w3.heap.size, 8, none⟩) (by simp)).trans (cell_of (heap_alloc_new w3 (.cells #[.int .i64 rk, .int .u32 (rN 1 : Nat), .int .u32 (rN 2 : Nat), .int .u64 (rN 3 : Nat), .string (rX 4), .string (rX 5), .string (rX 6), .string (rX 7), .string (rX 8), .string (rX 9), .string (rX 10), .string (rX 11), .string (rX 12)] 25)) 8 rfl))); have c9 : ∀ o, (w5.alloc o).cell? ⟨w3.heap.size, 9, none⟩ = some (.string (rX 9)) := (fun o => old1 o ((hb5.cell (p := ⟨w3.heap.size, 9, none⟩) (by simp)).trans (cell_of (heap_alloc_new w3 (.cells #[.int .i64 rk, .int .u32 (rN 1 : Nat), .int .u32 (rN 2 : Nat), .int .u64 (rN 3 : Nat), .string (rX 4), .string (rX 5), .string (rX 6), .string (rX 7), .string (rX 8), .string (rX 9), .string (rX 10), .string (rX 11), .string (rX 12)] 25)) 9 rfl))); have c10 : ∀ o, (w5.alloc o).cell? ⟨w3.heap.size, 10, none⟩ = some (.string (rX 10)) := (fun o => old1 o ((hb5.cell (p := ⟨w3.heap.size, 10, none⟩) (by simp)).trans (cell_of (heap_alloc_new w3 (.cells #[.int .i64 rk, .int .u32 (rN 1 : Nat), .int .u32 (rN 2 : Nat), .int .u64 (rN 3 : Nat), .string (rX 4), .string (rX 5), .string (rX 6), .string (rX 7), .string (rX 8), .string (rX 9), .string (rX 10), .string (rX 11), .string (rX 12)] 25)) 10 rfl))); have c11 : ∀ o, (w5.alloc o).cell? ⟨w3.heap.size, 11, none⟩ = some (.string (rX 11)) := (fun o => old1 o ((hb5.cell (p := ⟨w3.heap.size, 11, none⟩) (by simp)).trans (cell_of (heap_alloc_new w3 (.cells #[.int .i64 rk, .int .u32 (rN 1 : Nat), .int .u32 (rN 2 : Nat), .int .u64 (rN 3 : Nat), .string (rX 4), .string (rX 5), .string (rX 6), .string (rX 7), .string (rX 8), .string (rX 9), .string (rX 10), .string (rX 11), .string (rX 12)] 25)) 11 rfl))); have c12 : ∀ o, (w5.alloc o).cell? ⟨w3.heap.size, 12, none⟩ = some (.string (rX 12)) := (fun o => old1 o ((hb5.cell (p := ⟨w3.heap.size, 12, none⟩) (by simp)).trans (cell_of (heap_alloc_new w3 (.cells #[.int .i64 rk, .int .u32 (rN 1 : Nat), .int .u32 (rN 2 : Nat), .int .u64 (rN 3 : Nat), .string (rX 4), .string (rX 5), .string (rX 6), .string (rX 7), .string (rX 8), .string (rX 9), .string (rX 10), .string (rX 11), .string (rX 12)] 25)) 12 rfl))); have d0 : (w5.alloc (.cells #[.int .i64 rk, .int .u32 (rN 1 : Nat), .int .u32 (rN 2 : Nat), .int .u64 (rN 3 : Nat), .string (rX 4), .string (rX 5), .string (rX 6), .string (rX 7), .string (rX 8), .string (rX 9), .string (rX 10), .string (rX 11), .string (rX 12)] 25)).cell? ⟨w5.heap.size, 0, none⟩ = some (.int .i64 rk) := (cell_of (heap_alloc_new w5 (.cells #[.int .i64 rk, .int .u32 (rN 1 : Nat), .int .u32 (rN 2 : Nat), .int .u64 (rN 3 : Nat), .string (rX 4), .string (rX 5), .string (rX 6), .string (rX 7), .string (rX 8), .string (rX 9), .string (rX 10), .string (rX 11), .string (rX 12)] 25)) 0 rfl); have d1 : (w5.alloc (.cells #[.int .i64 rk, .int .u32 (rN 1 : Nat), .int .u32 (rN 2 : Nat), .int .u64 (rN 3 : Nat), .string (rX 4), .string (rX 5), .string (rX 6), .string (rX 7), .string (rX 8), .string (rX 9), .string (rX 10), .string (rX 11), .string (rX 12)] 25)).cell? ⟨w5.heap.size, 1, none⟩ = some (.int .u32 (rN 1 : Nat)) := (cell_of (heap_alloc_new w5 (.cells #[.int .i64 rk, .int .u32 (rN 1 : Nat), .int .u32 (rN 2 : Nat), .int .u64 (rN 3 : Nat), .string (rX 4), .string (rX 5), .string (rX 6), .string (rX 7), .string (rX 8), .string (rX 9), .string (rX 10), .string (rX 11), .string (rX 12)] 25)) 1 rfl); have d2 : (w5.alloc (.cells #[.int .i64 rk, .int .u32 (rN 1 : Nat), .int .u32 (rN 2 : Nat), .int .u64 (rN 3 : Nat), .string (rX 4), .string (rX 5), .string (rX 6), .string (rX 7), .string (rX 8), .string (rX 9), .string (rX 10), .string (rX 11), .string (rX 12)] 25)).cell? ⟨w5.heap.size, 2, none⟩ = some (.int .u32 (rN 2 : Nat)) := (cell_of (heap_alloc_new w5 (.cells #[.int .i64 rk, .int .u32 (rN 1 : Nat), .int .u32 (rN 2 : Nat), .int .u64 (rN 3 : Nat), .string (rX 4), .string (rX 5), .string (rX 6), .string (rX 7), .string (rX 8), .string (rX 9), .string (rX 10), .string (rX 11), .string (rX 12)] 25)) 2 rfl); have d3 : (w5.alloc (.cells #[.int .i64 rk, .int .u32 (rN 1 : Nat), .int .u32 (rN 2 : Nat), .int .u64 (rN 3 : Nat), .string (rX 4), .string (rX 5), .string (rX 6), .string (rX 7), .string (rX 8), .string (rX 9), .string (rX 10), .string (rX 11), .string (rX 12)] 25)).cell? ⟨w5.heap.size, 3, none⟩ = some (.int .u64 (rN 3 : Nat)) := (cell_of (heap_alloc_new w5 (.cells #[.int .i64 rk, .int .u32 (rN 1 : Nat), .int .u32 (rN 2 : Nat), .int .u64 (rN 3 : Nat), .string (rX 4), .string (rX 5), .string (rX 6), .string (rX 7), .string (rX 8), .string (rX 9), .string (rX 10), .string (rX 11), .string (rX 12)] 25)) 3 rfl); have d4 : (w5.alloc (.cells #[.int .i64 rk, .int .u32 (rN 1 : Nat), .int .u32 (rN 2 : Nat), .int .u64 (rN 3 : Nat), .string (rX 4), .string (rX 5), .string (rX 6), .string (rX 7), .string (rX 8), .string (rX 9), .string (rX 10), .string (rX 11), .string (rX 12)] 25)).cell? ⟨w5.heap.size, 4, none⟩ = some (.string (rX 4)) := (cell_of (heap_alloc_new w5 (.cells #[.int .i64 rk, .int .u32 (rN 1 : Nat), .int .u32 (rN 2 : Nat), .int .u64 (rN 3 : Nat), .string (rX 4), .string (rX 5), .string (rX 6), .string (rX 7), .string (rX 8), .string (rX 9), .string (rX 10), .string (rX 11), .string (rX 12)] 25)) 4 rfl); have d5 : (w5.alloc (.cells #[.int .i64 rk, .int .u32 (rN 1 : Nat), .int .u32 (rN 2 : Nat), .int .u64 (rN 3 : Nat), .string (rX 4), .string (rX 5), .string (rX 6), .string (rX 7), .string (rX 8), .string (rX 9), .string (rX 10), .string (rX 11), .string (rX 12)] 25)).cell? ⟨w5.heap.size, 5, none⟩ = some (.string (rX 5)) := (cell_of (heap_alloc_new w5 (.cells #[.int .i64 rk, .int .u32 (rN 1 : Nat), .int .u32 (rN 2 : Nat), .int .u64 (rN 3 : Nat), .string (rX 4), .string (rX 5), .string (rX 6), .string (rX 7), .string (rX 8), .string (rX 9), .string (rX 10), .string (rX 11), .string (rX 12)] 25)) 5 rfl); have d6 : (w5.alloc (.cells #[.int .i64 rk, .int .u32 (rN 1 : Nat), .int .u32 (rN 2 : Nat), .int .u64 (rN 3 : Nat), .string (rX 4), .string (rX 5), .string (rX 6), .string (rX 7), .string (rX 8), .string (rX 9), .string (rX 10), .string (rX 11), .string (rX 12)] 25)).cell? ⟨w5.heap.size, 6, none⟩ = some (.string (rX 6)) := (cell_of (heap_alloc_new w5 (.cells #[.int .i64 rk, .int .u32 (rN 1 : Nat), .int .u32 (rN 2 : Nat), .int .u64 (rN 3 : Nat), .string (rX 4), .string (rX 5), .string (rX 6), .string (rX 7), .string (rX 8), .string (rX 9), .string (rX 10), .string (rX 11), .string (rX 12)] 25)) 6 rfl); have d7 : (w5.alloc (.cells #[.int .i64 rk, .int .u32 (rN 1 : Nat), .int .u32 (rN 2 : Nat), .int .u64 (rN 3 : Nat), .string (rX 4), .string (rX 5), .string (rX 6), .string (rX 7), .string (rX 8), .string (rX 9), .string (rX 10), .string (rX 11), .string (rX 12)] 25)).cell? ⟨w5.heap.size, 7, none⟩ = some (.string (rX 7)) := (cell_of (heap_alloc_new w5 (.cells #[.int .i64 rk, .int .u32 (rN 1 : Nat), .int .u32 (rN 2 : Nat), .int .u64 (rN 3 : Nat), .string (rX 4), .string (rX 5), .string (rX 6), .string (rX 7), .string (rX 8), .string (rX 9), .string (rX 10), .string (rX 11), .string (rX 12)] 25)) 7 rfl); have d8 : (w5.alloc (.cells #[.int .i64 rk, .int .u32 (rN 1 : Nat), .int .u32 (rN 2 : Nat), .int .u64 (rN 3 : Nat), .string (rX 4), .string (rX 5), .string (rX 6), .string (rX 7), .string (rX 8), .string (rX 9), .string (rX 10), .string (rX 11), .string (rX 12)] 25)).cell? ⟨w5.heap.size, 8, none⟩ = some (.string (rX 8)) := (cell_of (heap_alloc_new w5 (.cells #[.int .i64 rk, .int .u32 (rN 1 : Nat), .int .u32 (rN 2 : Nat), .int .u64 (rN 3 : Nat), .string (rX 4), .string (rX 5), .string (rX 6), .string (rX 7), .string (rX 8), .string (rX 9), .string (rX 10), .string (rX 11), .string (rX 12)] 25)) 8 rfl); have d9 : (w5.alloc (.cells #[.int .i64 rk, .int .u32 (rN 1 : Nat), .int .u32 (rN 2 : Nat), .int .u64 (rN 3 : Nat), .string (rX 4), .string (rX 5), .string (rX 6), .string (rX 7), .string (rX 8), .string (rX 9), .string (rX 10), .string (rX 11), .string (rX 12)] 25)).cell? ⟨w5.heap.size, 9, none⟩ = some (.string (rX 9)) := (cell_of (heap_alloc_new w5 (.cells #[.int .i64 rk, .int .u32 (rN 1 : Nat), .int .u32 (rN 2 : Nat), .int .u64 (rN 3 : Nat), .string (rX 4), .string (rX 5), .string (rX 6), .string (rX 7), .string (rX 8), .string (rX 9), .string (rX 10), .string (rX 11), .string (rX 12)] 25)) 9 rfl); have d10 : (w5.alloc (.cells #[.int .i64 rk, .int .u32 (rN 1 : Nat), .int .u32 (rN 2 : Nat), .int .u64 (rN 3 : Nat), .string (rX 4), .string (rX 5), .string (rX 6), .string (rX 7), .string (rX 8), .string (rX 9), .string (rX 10), .string (rX 11), .string (rX 12)] 25)).cell? ⟨w5.heap.size, 10, none⟩ = some (.string (rX 10)) := (cell_of (heap_alloc_new w5 (.cells #[.int .i64 rk, .int .u32 (rN 1 : Nat), .int .u32 (rN 2 : Nat), .int .u64 (rN 3 : Nat), .string (rX 4), .string (rX 5), .string (rX 6), .string (rX 7), .string (rX 8), .string (rX 9), .string (rX 10), .string (rX 11), .string (rX 12)] 25)) 10 rfl); have d11 : (w5.alloc (.cells #[.int .i64 rk, .int .u32 (rN 1 : Nat), .int .u32 (rN 2 : Nat), .int .u64 (rN 3 : Nat), .string (rX 4), .string (rX 5), .string (rX 6), .string (rX 7), .string (rX 8), .string (rX 9), .string (rX 10), .string (rX 11), .string (rX 12)] 25)).cell? ⟨w5.heap.size, 11, none⟩ = some (.string (rX 11)) := (cell_of (heap_alloc_new w5 (.cells #[.int .i64 rk, .int .u32 (rN 1 : Nat), .int .u32 (rN 2 : Nat), .int .u64 (rN 3 : Nat), .string (rX 4), .string (rX 5), .string (rX 6), .string (rX 7), .string (rX 8), .string (rX 9), .string (rX 10), .string (rX 11), .string (rX 12)] 25)) 11 rfl); have d12 : (w5.alloc (.cells #[.int .i64 rk, .int .u32 (rN 1 : Nat), .int .u32 (rN 2 : Nat), .int .u64 (rN 3 : Nat), .string (rX 4), .string (rX 5), .string (rX 6), .string (rX 7), .string (rX 8), .string (rX 9), .string (rX 10), .string (rX 11), .string (rX 12)] 25)).cell? ⟨w5.heap.size, 12, none⟩ = some (.string (rX 12)) := (cell_of (heap_alloc_new w5 (.cells #[.int .i64 rk, .int .u32 (rN 1 : Nat), .int .u32 (rN 2 : Nat), .int .u64 (rN 3 : Nat), .string (rX 4), .string (rX 5), .string (rX 6), .string (rX 7), .string (rX 8), .string (rX 9), .string (rX 10), .string (rX 11), .string (rX 12)] 25)) 12 rfl); clear hb5)) | (go_at_call 7; ((with_reducible refine (wprint_any rk rN rX _ HNO.out).mono ?_); unfold PrintRet6; rw [HPR.out]; rintro e w7 ⟨v7, rfl, _, hr7, hb7⟩; (try dsimp only); obtain ⟨base7, hrow7⟩ := hr7 rfl; obtain ⟨a7, cap7, rfl, hcv7⟩ := bytes_conv (bytes_own hrow7); have HB7 := Lib.hid (Below.next HB5m.out hb7); have hcvb := str_any (HVB.out.below HB7.out); clear hr7 hb7 hrow7)) | fail)
      go_ret
      exact ⟨ret_bool (by simp [toList_eq, strB]), HB7.out⟩
    · have hei : ((rc : Int) != 0) = true := bnet (by omega)
      clear hR h3
      go_enter Try.func4, Try.ntmps4
      go_wp2_with (first | (go_at_call 5; ((with_reducible refine (awake6_any _).mono ?_); rintro e w2 ⟨rfl, hb⟩; (try dsimp only); have HB2 := Lib.hid hb; have HVB2 := Lib.hid (HVB.out.below hb); clear hb)) | (go_at_call 12; ((with_reducible refine (wread_any _ l w2 (part_of HVB2.out HC.out HM.out) HL7.out).mono ?_); unfold ReadRet6; rw [HRR.out]; rintro e w3 ⟨rfl, hb⟩; (try dsimp only [msgV, msgC]); have HB3 := Lib.hid (Below.next HB2.out hb); have HB3m := Lib.hid (Below.next (Below.next HB2.out hb) (below_one (w := w3) (.cells #[.int .i64 rk, .int .u32 (rN 1 : Nat), .int .u32 (rN 2 : Nat), .int .u64 (rN 3 : Nat), .string (rX 4), .string (rX 5), .string (rX 6), .string (rX 7), .string (rX 8), .string (rX 9), .string (rX 10), .string (rX 11), .string (rX 12)] 25))); clear hb)) | (go_at_call 18; ((with_reducible refine (rread6_any _ l (w3.alloc (.cells #[.int .i64 rk, .int .u32 (rN 1 : Nat), .int .u32 (rN 2 : Nat), .int .u64 (rN 3 : Nat), .string (rX 4), .string (rX 5), .string (rX 6), .string (rX 7), .string (rX 8), .string (rX 9), .string (rX 10), .string (rX 11), .string (rX 12)] 25)) (part_of (HVB.out.below HB3m.out) HC.out HM.out) HL5.out).mono ?_); unfold ReadRet6; rw [HRR.out]; rintro e w5 ⟨rfl, hb5⟩; (try dsimp only [msgV, msgC]); have HB5 := Lib.hid (Below.next HB3m.out hb5); have HB5m := Lib.hid (Below.next (Below.next HB3m.out hb5) (below_one (w := w5) (.cells #[.int .i64 rk, .int .u32 (rN 1 : Nat), .int .u32 (rN 2 : Nat), .int .u64 (rN 3 : Nat), .string (rX 4), .string (rX 5), .string (rX 6), .string (rX 7), .string (rX 8), .string (rX 9), .string (rX 10), .string (rX 11), .string (rX 12)] 25))); have c0 : ∀ o, (w5.alloc o).cell? ⟨w3.heap.size, 0, none⟩ = some (.int .i64 rk) := (fun o => old1 o ((hb5.cell (p := ⟨w3.heap.size, 0, none⟩) (by simp)).trans (cell_of (heap_alloc_new w3 (.cells #[.int .i64 rk, .int .u32 (rN 1 : Nat), .int .u32 (rN 2 : Nat), .int .u64 (rN 3 : Nat), .string (rX 4), .string (rX 5), .string (rX 6), .string (rX 7), .string (rX 8), .string (rX 9), .string (rX 10), .string (rX 11), .string (rX 12)] 25)) 0 rfl))); have c1 : ∀ o, (w5.alloc o).cell? ⟨w3.heap.size, 1, none⟩ = some (.int .u32 (rN 1 : Nat)) := (fun o => old1 o ((hb5.cell (p := ⟨w3.heap.size, 1, none⟩) (by simp)).trans (cell_of (heap_alloc_new w3 (.cells #[.int .i64 rk, .int .u32 (rN 1 : Nat), .int .u32 (rN 2 : Nat), .int .u64 (rN 3 : Nat), .string (rX 4), .string (rX 5), .string (rX 6), .string (rX 7), .string (rX 8), .string (rX 9), .string (rX 10), .string (rX 11), .string (rX 12)] 25)) 1 rfl))); have c2 : ∀ o, (w5.alloc o).cell? ⟨w3.heap.size, 2, none⟩ = some (.int .u32 (rN 2 : Nat)) := (fun o => old1 o ((hb5.cell (p := ⟨w3.heap.size, 2, none⟩) (by simp)).trans (cell_of (heap_alloc_new w3 (.cells #[.int .i64 rk, .int .u32 (rN 1 : Nat), .int .u32 (rN 2 : Nat), .int .u64 (rN 3 : Nat), .string (rX 4), .string (rX 5), .string (rX 6), .string (rX 7), .string (rX 8), .string (rX 9), .string (rX 10), .string (rX 11), .string (rX 12)] 25)) 2 rfl))); have c3 : ∀ o, (w5.alloc o).cell? ⟨w3.heap.size, 3, none⟩ = some (.int .u64 (rN 3 : Nat)) := (fun o => old1 o ((hb5.cell (p := ⟨w3.heap.size, 3, none⟩) (by simp)).trans (cell_of (heap_alloc_new w3 (.cells #[.int .i64 rk, .int .u32 (rN 1 : Nat), .int .u32 (rN 2 : Nat), .int .u64 (rN 3 : Nat), .string (rX 4), .string (rX 5), .string (rX 6), .string (rX 7), .string (rX 8), .string (rX 9), .string (rX 10), .string (rX 11), .string (rX 12)] 25)) 3 rfl))); have c4 : ∀ o, (w5.alloc o).cell? ⟨w3.heap.size, 4, none⟩ = some (.string (rX 4)) := (fun o => old1 o ((hb5.cell (p := ⟨w3.heap.size, 4, none⟩) (by simp)).trans (cell_of (heap_alloc_new w3 (.cells #[.int .i64 rk, .int .u32 (rN 1 : Nat), .int .u32 (rN 2 : Nat), .int .u64 (rN 3 : Nat), .string (rX 4), .string (rX 5), .string (rX 6), .string (rX 7), .string (rX 8), .string (rX 9), .string (rX 10), .string (rX 11), .string (rX 12)] 25)) 4 rfl))); have c5 : ∀ o, (w5.alloc o).cell? ⟨w3.heap.size, 5, none⟩ = some (.string (rX 5)) := (fun o => old1 o ((hb5.cell (p := ⟨w3.heap.size, 5, none⟩) (by simp)).trans (cell_of (heap_alloc_new w3 (.cells #[.int .i64 rk, .int .u32 (rN 1 : Nat), .int .u32 (rN 2 : Nat), .int .u64 (rN 3 : Nat), .string (rX 4), .string (rX 5), .string (rX 6), .string (rX 7), .string (rX 8), .string (rX 9), .string (rX 10), .string (rX 11), .string (rX 12)] 25)) 5 rfl))); have c6 : ∀ o, (w5.alloc o).cell? ⟨w3.heap.size, 6, none⟩ = some (.string (rX 6)) := (fun o => old1 o ((hb5.cell (p := ⟨w3.heap.size, 6, none⟩) (by simp)).trans (cell_of (heap_alloc_new w3 (.cells #[.int .i64 rk, .int .u32 (rN 1 : Nat), .int .u32 (rN 2 : Nat), .int .u64 (rN 3 : Nat), .string (rX 4), .string (rX 5), .string (rX 6), .string (rX 7), .string (rX 8), .string (rX 9), .string (rX 10), .string (rX 11), .string (rX 12)] 25)) 6 rfl))); have c7 : ∀ o, (w5.alloc o).cell? ⟨w3.heap.size, 7, none⟩ = some (.string (rX 7)) := (fun o => old1 o ((hb5.cell (p := ⟨w3.heap.size, 7, none⟩) (by simp)).trans (cell_of (heap_alloc_new w3 (.cells #[.int .i64 rk, .int .u32 (rN 1 : Nat), .int .u32 (rN 2 : Nat), .int .u64 (rN 3 : Nat), .string (rX 4), .string (rX 5), .string (rX 6), .string (rX 7), .string (rX 8), .string (rX 9), .string (rX 10), .string (rX 11), .string (rX 12)] 25)) 7 rfl))); have c8 : ∀ o, (w5.alloc o).cell? ⟨w3.heap.size, 8, none⟩ = some (.string (rX 8)) := (fun o => old1 o ((hb5.cell (p := ⟨w3.heap.size, 8, none⟩) (by simp)).trans (cell_of (heap_alloc_new w3 (.cells #[.int .i64 rk, .int .u32 (rN 1 : Nat), .int .u32 (rN 2 : Nat), .int .u64 (rN 3 : Nat), .string (rX 4), .string (rX 5), .string (rX 6), .string (rX 7), .string (rX 8), .string (rX 9), .string (rX 10), .string (rX 11), .string (rX 12)] 25)) 8 rfl))); have c9 : ∀ o, (w5.alloc o).cell? ⟨w3.heap.size, 9, none⟩ = some (.string (rX 9)) := (fun o => old1 o ((hb5.cell (p := ⟨w3.heap.size, 9, none⟩) (by simp)).trans (cell_of (heap_alloc_new w3 (.cells #[.int .i64 rk, .int .u32 (rN 1 : Nat), .int .u32 (rN 2 : Nat), .int .u64 (rN 3 : Nat), .string (rX 4), .string (rX 5), .string (rX 6), .string (rX 7), .string (rX 8), .string (rX 9), .string (rX 10), .string (rX 11), .string (rX 12)] 25)) 9 rfl))); have c10 : ∀ o, (w5.alloc o).cell? ⟨w3.heap.size, 10, none⟩ = some (.string (rX 10)) := (fun o => old1 o ((hb5.cell (p := ⟨w3.heap.size, 10, none⟩) (by simp)).trans (cell_of (heap_alloc_new w3 (.cells #[.int .i64 rk, .int .u32 (rN 1 : Nat), .int .u32 (rN 2 : Nat), .int .u64 (rN 3 : Nat), .string (rX 4), .string (rX 5), .string (rX 6), .string (rX 7), .string (rX 8), .string (rX 9), .string (rX 10), .string (rX 11), .string (rX 12)] 25)) 10 rfl))); have c11 : ∀ o, (w5.alloc o).cell? ⟨w3.heap.size, 11, none⟩ = some (.string (rX 11)) := (fun o => old1 o ((hb5.cell (p := ⟨w3.heap.size, 11, none⟩) (by simp)).trans (cell_of (heap_alloc_new w3 (.cells #[.int .i64 rk, .int .u32 (rN 1 : Nat), .int .u32 (rN 2 : Nat), .int .u64 (rN 3 : Nat), .string (rX 4), .string (rX 5), .string (rX 6), .string (rX 7), .string (rX 8), .string (rX 9), .string (rX 10), .string (rX 11), .string (rX 12)] 25)) 11 rfl))); have c12 : ∀ o, (w5.alloc o).cell? ⟨w3.heap.size, 12, none⟩ = some (.string (rX 12)) := (fun o => old1 o ((hb5.cell (p := ⟨w3.heap.size, 12, none⟩) (by simp)).trans (cell_of (heap_alloc_new w3 (.cells #[.int .i64 rk, .int .u32 (rN 1 : Nat), .int .u32 (rN 2 : Nat), .int .u64 (rN 3 : Nat), .string (rX 4), .string (rX 5), .string (rX 6), .string (rX 7), .string (rX 8), .string (rX 9), .string (rX 10), .string (rX 11), .string (rX 12)] 25)) 12 rfl))); have d0 : (w5.alloc (.cells #[.int .i64 rk, .int .u32 (rN 1 : Nat), .int .u32 (rN 2 : Nat), .int .u64 (rN 3 : Nat), .string (rX 4), .string (rX 5), .string (rX 6), .string (rX 7), .string (rX 8), .string (rX 9), .string (rX 10), .string (rX 11), .string (rX 12)] 25)).cell? ⟨w5.heap.size, 0, none⟩ = some (.int .i64 rk) := (cell_of (heap_alloc_new w5 (.cells #[.int .i64 rk, .int .u32 (rN 1 : Nat), .int .u32 (rN 2 : Nat), .int .u64 (rN 3 : Nat), .string (rX 4), .string (rX 5), .string (rX 6), .string (rX 7), .string (rX 8), .string (rX 9), .string (rX 10), .string (rX 11), .string (rX 12)] 25)) 0 rfl); have d1 : (w5.alloc (.cells #[.int .i64 rk, .int .u32 (rN 1 : Nat), .int .u32 (rN 2 : Nat), .int .u64 (rN 3 : Nat), .string (rX 4), .string (rX 5), .string (rX 6), .string (rX 7), .string (rX 8), .string (rX 9), .string (rX 10), .string (rX 11), .string (rX 12)] 25)).cell? ⟨w5.heap.size, 1, none⟩ = some (.int .u32 (rN 1 : Nat)) := (cell_of (heap_alloc_new w5 (.cells #[.int .i64 rk, .int .u32 (rN 1 : Nat), .int .u32 (rN 2 : Nat), .int .u64 (rN 3 : Nat), .string (rX 4), .string (rX 5), .string (rX 6), .string (rX 7), .string (rX 8), .string (rX 9), .string (rX 10), .string (rX 11), .string (rX 12)] 25)) 1 rfl); have d2 : (w5.alloc (.cells #[.int .i64 rk, .int .u32 (rN 1 : Nat), .int .u32 (rN 2 : Nat), .int .u64 (rN 3 : Nat), .string (rX 4), .string (rX 5), .string (rX 6), .string (rX 7), .string (rX 8), .string (rX 9), .string (rX 10), .string (rX 11), .string (rX 12)] 25)).cell? ⟨w5.heap.size, 2, none⟩ = some (.int .u32 (rN 2 : Nat)) := (cell_of (heap_alloc_new w5 (.cells #[.int .i64 rk, .int .u32 (rN 1 : Nat), .int .u32 (rN 2 : Nat), .int .u64 (rN 3 : Nat), .string (rX 4), .string (rX 5), .string (rX 6), .string (rX 7), .string (rX 8), .string (rX 9), .string (rX 10), .string (rX 11), .string (rX 12)] 25)) 2 rfl); have d3 : (w5.alloc (.cells #[.int .i64 rk, .int .u32 (rN 1 : Nat), .int .u32 (rN 2 : Nat), .int .u64 (rN 3 : Nat), .string (rX 4), .string (rX 5), .string (rX 6), .string (rX 7), .string (rX 8), .string (rX 9), .string (rX 10), .string (rX 11), .string (rX 12)] 25)).cell? ⟨w5.heap.size, 3, none⟩ = some (.int .u64 (rN 3 : Nat)) := (cell_of (heap_alloc_new w5 (.cells #[.int .i64 rk, .int .u32 (rN 1 : Nat), .int .u32 (rN 2 : Nat), .int .u64 (rN 3 : Nat), .string (rX 4), .string (rX 5), .string (rX 6), .string (rX 7), .string (rX 8), .string (rX 9), .string (rX 10), .string (rX 11), .string (rX 12)] 25)) 3 rfl); have d4 : (w5.alloc (.cells #[.int .i64 rk, .int .u32 (rN 1 : Nat), .int .u32 (rN 2 : Nat), .int .u64 (rN 3 : Nat), .string (rX 4), .string (rX 5), .string (rX 6), .string (rX 7), .string (rX 8), .string (rX 9), .string (rX 10), .string (rX 11), .string (rX 12)] 25)).cell? ⟨w5.heap.size, 4, none⟩ = some (.string (rX 4)) := (cell_of (heap_alloc_new w5 (.cells #[.int .i64 rk, .int .u32 (rN 1 : Nat), .int .u32 (rN 2 : Nat), .int .u64 (rN 3 : Nat), .string (rX 4), .string (rX 5), .string (rX 6), .string (rX 7), .string (rX 8), .string (rX 9), .string (rX 10), .string (rX 11), .string (rX 12)] 25)) 4 rfl); have d5 : (w5.alloc (.cells #[.int .i64 rk, .int .u32 (rN 1 : Nat), .int .u32 (rN 2 : Nat), .int .u64 (rN 3 : Nat), .string (rX 4), .string (rX 5), .string (rX 6), .string (rX 7), .string (rX 8), .string (rX 9), .string (rX 10), .string (rX 11), .string (rX 12)] 25)).cell? ⟨w5.heap.size, 5, none⟩ = some (.string (rX 5)) := (cell_of (heap_alloc_new w5 (.cells #[.int .i64 rk, .int .u32 (rN 1 : Nat), .int .u32 (rN 2 : Nat), .int .u64 (rN 3 : Nat), .string (rX 4), .string (rX 5), .string (rX 6), .string (rX 7), .string (rX 8), .string (rX 9), .string (rX 10), .string (rX 11), .string (rX 12)] 25)) 5 rfl); have d6 : (w5.alloc (.cells #[.int .i64 rk, .int .u32 (rN 1 : Nat), .int .u32 (rN 2 : Nat), .int .u64 (rN 3 : Nat), .string (rX 4), .string (rX 5), .string (rX 6), .string (rX 7), .string (rX 8), .string (rX 9), .string (rX 10), .string (rX 11), .string (rX 12)] 25)).cell? ⟨w5.heap.size, 6, none⟩ = some (.string (rX 6)) := (cell_of (heap_alloc_new w5 (.cells #[.int .i64 rk, .int .u32 (rN 1 : Nat), .int .u32 (rN 2 : Nat), .int .u64 (rN 3 : Nat), .string (rX 4), .string (rX 5), .string (rX 6), .string (rX 7), .string (rX 8), .string (rX 9), .string (rX 10), .string (rX 11), .string (rX 12)] 25)) 6 rfl); have d7 : (w5.alloc (.cells #[.int .i64 rk, .int .u32 (rN 1 : Nat), .int .u32 (rN 2 : Nat), .int .u64 (rN 3 : Nat), .string (rX 4), .string (rX 5), .string (rX 6), .string (rX 7), .string (rX 8), .string (rX 9), .string (rX 10), .string (rX 11), .string (rX 12)] 25)).cell? ⟨w5.heap.size, 7, none⟩ = some (.string (rX 7)) := (cell_of (heap_alloc_new w5 (.cells #[.int .i64 rk, .int .u32 (rN 1 : Nat), .int .u32 (rN 2 : Nat), .int .u64 (rN 3 : Nat), .string (rX 4), .string (rX 5), .string (rX 6), .string (rX 7), .string (rX 8), .string (rX 9), .string (rX 10), .string (rX 11), .string (rX 12)] 25)) 7 rfl); have d8 : (w5.alloc (.cells #[.int .i64 rk, .int .u32 (rN 1 : Nat), .int .u32 (rN 2 : Nat), .int .u64 (rN 3 : Nat), .string (rX 4), .string (rX 5), .string (rX 6), .string (rX 7), .string (rX 8), .string (rX 9), .string (rX 10), .string (rX 11), .string (rX 12)] 25)).cell? ⟨w5.heap.size, 8, none⟩ = some (.string (rX 8)) := (cell_of (heap_alloc_new w5 (.cells #[.int .i64 rk, .int .u32 (rN 1 : Nat), .int .u32 (rN 2 : Nat), .int .u64 (rN 3 : Nat), .string (rX 4), .string (rX 5), .string (rX 6), .string (rX 7), .string (rX 8), .string (rX 9), .string (rX 10), .string (rX 11), .string (rX 12)] 25)) 8 rfl); have d9 : (w5.alloc (.cells #[.int .i64 rk, .int .u32 (rN 1 : Nat), .int .u32 (rN 2 : Nat), .int .u64 (rN 3 : Nat), .string (rX 4), .string (rX 5), .string (rX 6), .string (rX 7), .string (rX 8), .string (rX 9), .string (rX 10), .string (rX 11), .string (rX 12)] 25)).cell? ⟨w5.heap.size, 9, none⟩ = some (.string (rX 9)) := (cell_of (heap_alloc_new w5 (.cells #[.int .i64 rk, .int .u32 (rN 1 : Nat), .int .u32 (rN 2 : Nat), .int .u64 (rN 3 : Nat), .string (rX 4), .string (rX 5), .string (rX 6), .string (rX 7), .string (rX 8), .string (rX 9), .string (rX 10), .string (rX 11), .string (rX 12)] 25)) 9 rfl); have d10 : (w5.alloc (.cells #[.int .i64 rk, .int .u32 (rN 1 : Nat), .int .u32 (rN 2 : Nat), .int .u64 (rN 3 : Nat), .string (rX 4), .string (rX 5), .string (rX 6), .string (rX 7), .string (rX 8), .string (rX 9), .string (rX 10), .string (rX 11), .string (rX 12)] 25)).cell? ⟨w5.heap.size, 10, none⟩ = some (.string (rX 10)) := (cell_of (heap_alloc_new w5 (.cells #[.int .i64 rk, .int .u32 (rN 1 : Nat), .int .u32 (rN 2 : Nat), .int .u64 (rN 3 : Nat), .string (rX 4), .string (rX 5), .string (rX 6), .string (rX 7), .string (rX 8), .string (rX 9), .string (rX 10), .string (rX 11), .string (rX 12)] 25)) 10 rfl); have d11 : (w5.alloc (.cells #[.int .i64 rk, .int .u32 (rN 1 : Nat), .int .u32 (rN 2 : Nat), .int .u64 (rN 3 : Nat), .string (rX 4), .string (rX 5), .string (rX 6), .string (rX 7), .string (rX 8), .string (rX 9), .string (rX 10), .string (rX 11), .string (rX 12)] 25)).cell? ⟨w5.heap.size, 11, none⟩ = some (.string (rX 11)) := (cell_of (heap_alloc_new w5 (.cells #[.int .i64 rk, .int .u32 (rN 1 : Nat), .int .u32 (rN 2 : Nat), .int .u64 (rN 3 : Nat), .string (rX 4), .string (rX 5), .string (rX 6), .string (rX 7), .string (rX 8), .string (rX 9), .string (rX 10), .string (rX 11), .string (rX 12)] 25)) 11 rfl); have d12 : (w5.alloc (.cells #[.int .i64 rk, .int .u32 (rN 1 : Nat), .int .u32 (rN 2 : Nat), .int .u64 (rN 3 : Nat), .string (rX 4), .string (rX 5), .string (rX 6), .string (rX 7), .string (rX 8), .string (rX 9), .string (rX 10), .string (rX 11), .string (rX 12)] 25)).cell? ⟨w5.heap.size, 12, none⟩ = some (.string (rX 12)) := (cell_of (heap_alloc_new w5 (.cells #[.int .i64 rk, .int .u32 (rN 1 : Nat), .int .u32 (rN 2 : Nat), .int .u64 (rN 3 : Nat), .string (rX 4), .string (rX 5), .string (rX 6), .string (rX 7), .string (rX 8), .string (rX 9), .string (rX 10), .string (rX 11), .string (rX 12)] 25)) 12 rfl); clear hb5)) | fail)
      go_ret
      exact ⟨rfl, HB5m.out⟩
theorem wirereads_row {w : World} {a1 : Option Addr} {len1 cap1 : Nat} {z1 : List Int} (w1 : ((a1 = none ∧ len1 = 0 ∧ cap1 = 0 ∧ z1 = []) ∨ ∃ x, a1 = some x ∧ len1 ≤ cap1 ∧ cap1 ≤ maxLen ∧ z1.length = cap1 ∧ (∀ i, i < z1.length → w.cell? (x.add i) = some (.int .u8 (z1.getD i 0))) ∧ ∀ n ∈ z1, (Lit.int .u8 n).wf = true)) :
    Calls Try.prog 4 #[.slice a1 len1 cap1] w fun e w' => e = .returned (.bool true) ∧ Below w.heap.size w w' := by
  obtain ⟨l, rfl, hb, hc, hm, hno⟩ := bytes_row w1
  exact wirereads_walk l a1 cap1 w hb hc hm
end Go.Proofs.Ytjbmcjppaadkgaa
