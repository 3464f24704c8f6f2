import Derived.Test.YtbaceiohcbhpaaaAddrLaw1
namespace Go.Proofs.Ytbaceiohcbhpaaa
set_option linter.unusedVariables false
set_option linter.unusedSimpArgs false
set_option maxRecDepth 100000
open Go.RowKit

theorem len_ne_beq {a b : List UInt8} (h : a.length ≠ b.length) : ((a.length : Int) == b.length) = false := bne_i (by omega)
theorem within_no {a b : List UInt8} {m n : Int} {r1 r2 : Bool} (h1 : rightP a.length m = r1) (h2 : rightP b.length n = r2) (h : r1 = false ∨ r2 = false ∨ a.length ≠ b.length ∨ m < n ∨ hasP b n a = false) : withinP a m b n = false := by
  unfold withinP
  rw [h1, h2]
  rcases h with h | h | h | h | h
  · simp [h]
  · simp [h]
  · simp [h]
  · have : decide (n ≤ m) = false := decide_eq_false (by omega)
    rw [this]; simp
  · rw [h]; simp
set_option maxHeartbeats 8000000 in
theorem addrwithin_walk (a b c : List UInt8) (ad bd cd : Option Addr) (cp cb cc : Nat) (m n : Int) (w : World) (ha : Bytes w (.slice ad a.length cp) a) (hb : Bytes w (.slice bd b.length cb) b) (hc : Bytes w (.slice cd c.length cc) c)
    (hac : a.length ≤ cp) (hcm : cp ≤ maxLen) (hbc : b.length ≤ cb) (hbm : cb ≤ maxLen) (hcc : c.length ≤ cc) (hccm : cc ≤ maxLen) :
    Calls Try.prog 4 #[.agg #[.slice ad a.length cp, .int .i64 m], .agg #[.slice bd b.length cb, .int .i64 n], .slice cd c.length cc] w fun e w' => e = .returned (.bool true) ∧ Below w.heap.size w w' := by
  have hac2 : (a.length : Int) ≤ 9223372036854775807 := by unfold maxLen at hcm; omega
  have hbc2 : (b.length : Int) ≤ 9223372036854775807 := by unfold maxLen at hbm; omega
  have hcc2 : (c.length : Int) ≤ 9223372036854775807 := by unfold maxLen at hccm; omega
  have e0 := heap_alloc_new w (.cells #[.slice ad a.length cp, .int .i64 m] 24)
  have e1 := heap_alloc_new (w.alloc (.cells #[.slice ad a.length cp, .int .i64 m] 24)) (.cells #[.slice bd b.length cb, .int .i64 n] 24)
  have s1 : (w.alloc (.cells #[.slice ad a.length cp, .int .i64 m] 24)).heap.size = w.heap.size + 1 := by simp
  rw [s1] at e1
  have k0 := (below_one (w := w.alloc (.cells #[.slice ad a.length cp, .int .i64 m] 24)) (.cells #[.slice bd b.length cb, .int .i64 n] 24)).block w.heap.size (by rw [s1]; omega)
  rw [e0] at k0
  have c0 : ((w.alloc (.cells #[.slice ad a.length cp, .int .i64 m] 24)).alloc (.cells #[.slice bd b.length cb, .int .i64 n] 24)).cell? ⟨w.heap.size, 0, none⟩ = some (.slice ad a.length cp) := cell_of k0 0 rfl
  have c1 : ((w.alloc (.cells #[.slice ad a.length cp, .int .i64 m] 24)).alloc (.cells #[.slice bd b.length cb, .int .i64 n] 24)).cell? ⟨w.heap.size, 1, none⟩ = some (.int .i64 m) := cell_of k0 1 rfl
  have c2 : ((w.alloc (.cells #[.slice ad a.length cp, .int .i64 m] 24)).alloc (.cells #[.slice bd b.length cb, .int .i64 n] 24)).cell? ⟨w.heap.size + 1, 0, none⟩ = some (.slice bd b.length cb) := cell_of e1 0 rfl
  have c3 : ((w.alloc (.cells #[.slice ad a.length cp, .int .i64 m] 24)).alloc (.cells #[.slice bd b.length cb, .int .i64 n] 24)).cell? ⟨w.heap.size + 1, 1, none⟩ = some (.int .i64 n) := cell_of e1 1 rfl
  have HB : Hid (Below w.heap.size w ((w.alloc (.cells #[.slice ad a.length cp, .int .i64 m] 24)).alloc (.cells #[.slice bd b.length cb, .int .i64 n] 24))) := Lib.hid (((Below.refl _ _).alloc (Nat.le_refl _) _).alloc (by simp) _)
  have HVA := Lib.hid ha
  have HVB := Lib.hid hb
  have HVC := Lib.hid hc
  clear e0 e1 s1 k0 ha hb hc
  by_cases h1 : 40 < a.length
  · have h1i : (40 : Int) < a.length := by omega
    go_enter Try.func4, Try.ntmps4
    go_wp2_with (first | (go_at_call 5; ((with_reducible refine (awake4 _).mono ?_); rintro e wn ⟨rfl, hb⟩; have c0 := cell_keep4 c0 hb; have c1 := cell_keep4 c1 hb; have c2 := cell_keep4 c2 hb; have c3 := cell_keep4 c3 hb; have HB := Lib.hid (Below.next HB.out hb); clear hb)) | (go_at_call 13; ((with_reducible refine (HWI.out _ (HVA.out.below HB.out) (HVB.out.below HB.out)).mono ?_); rintro e wn ⟨rfl, hb⟩; have c0 := cell_keep4 c0 hb; have c1 := cell_keep4 c1 hb; have c2 := cell_keep4 c2 hb; have c3 := cell_keep4 c3 hb; have HB := Lib.hid (Below.next HB.out hb); clear hb)) | (go_at_call 8; ((with_reducible refine (HRP.out _).mono ?_); rintro e wn ⟨rfl, hb⟩; have c0 := cell_keep4 c0 hb; have c1 := cell_keep4 c1 hb; have c2 := cell_keep4 c2 hb; have c3 := cell_keep4 c3 hb; have HB := Lib.hid (Below.next HB.out hb); clear hb)) | (go_at_call 8; ((with_reducible refine (HRQ.out _).mono ?_); rintro e wn ⟨rfl, hb⟩; have c0 := cell_keep4 c0 hb; have c1 := cell_keep4 c1 hb; have c2 := cell_keep4 c2 hb; have c3 := cell_keep4 c3 hb; have HB := Lib.hid (Below.next HB.out hb); clear hb)) | (go_at_call 10; ((with_reducible refine (HRH.out _ (HVB.out.below HB.out) (HVA.out.below HB.out)).mono ?_); rintro e wn ⟨rfl, hb⟩; have c0 := cell_keep4 c0 hb; have c1 := cell_keep4 c1 hb; have c2 := cell_keep4 c2 hb; have c3 := cell_keep4 c3 hb; have HB := Lib.hid (Below.next HB.out hb); clear hb)) | (go_at_call 9; ((with_reducible refine (HHP.out _ (HVA.out.below HB.out) (HVC.out.below HB.out)).mono ?_); rintro e wn ⟨rfl, hb⟩; have c0 := cell_keep4 c0 hb; have c1 := cell_keep4 c1 hb; have c2 := cell_keep4 c2 hb; have c3 := cell_keep4 c3 hb; have HB := Lib.hid (Below.next HB.out hb); clear hb)) | (go_at_call 9; ((with_reducible refine (HHQ.out _ (HVB.out.below HB.out) (HVC.out.below HB.out)).mono ?_); rintro e wn ⟨rfl, hb⟩; have c0 := cell_keep4 c0 hb; have c1 := cell_keep4 c1 hb; have c2 := cell_keep4 c2 hb; have c3 := cell_keep4 c3 hb; have HB := Lib.hid (Below.next HB.out hb); clear hb)) | fail)
    go_ret
    exact ⟨rfl, HB.out⟩
  have h1i : (a.length : Int) ≤ 40 := by omega
  by_cases h2 : 40 < b.length
  · have h2i : (40 : Int) < b.length := by omega
    go_enter Try.func4, Try.ntmps4
    go_wp2_with (first | (go_at_call 5; ((with_reducible refine (awake4 _).mono ?_); rintro e wn ⟨rfl, hb⟩; have c0 := cell_keep4 c0 hb; have c1 := cell_keep4 c1 hb; have c2 := cell_keep4 c2 hb; have c3 := cell_keep4 c3 hb; have HB := Lib.hid (Below.next HB.out hb); clear hb)) | (go_at_call 13; ((with_reducible refine (HWI.out _ (HVA.out.below HB.out) (HVB.out.below HB.out)).mono ?_); rintro e wn ⟨rfl, hb⟩; have c0 := cell_keep4 c0 hb; have c1 := cell_keep4 c1 hb; have c2 := cell_keep4 c2 hb; have c3 := cell_keep4 c3 hb; have HB := Lib.hid (Below.next HB.out hb); clear hb)) | (go_at_call 8; ((with_reducible refine (HRP.out _).mono ?_); rintro e wn ⟨rfl, hb⟩; have c0 := cell_keep4 c0 hb; have c1 := cell_keep4 c1 hb; have c2 := cell_keep4 c2 hb; have c3 := cell_keep4 c3 hb; have HB := Lib.hid (Below.next HB.out hb); clear hb)) | (go_at_call 8; ((with_reducible refine (HRQ.out _).mono ?_); rintro e wn ⟨rfl, hb⟩; have c0 := cell_keep4 c0 hb; have c1 := cell_keep4 c1 hb; have c2 := cell_keep4 c2 hb; have c3 := cell_keep4 c3 hb; have HB := Lib.hid (Below.next HB.out hb); clear hb)) | (go_at_call 10; ((with_reducible refine (HRH.out _ (HVB.out.below HB.out) (HVA.out.below HB.out)).mono ?_); rintro e wn ⟨rfl, hb⟩; have c0 := cell_keep4 c0 hb; have c1 := cell_keep4 c1 hb; have c2 := cell_keep4 c2 hb; have c3 := cell_keep4 c3 hb; have HB := Lib.hid (Below.next HB.out hb); clear hb)) | (go_at_call 9; ((with_reducible refine (HHP.out _ (HVA.out.below HB.out) (HVC.out.below HB.out)).mono ?_); rintro e wn ⟨rfl, hb⟩; have c0 := cell_keep4 c0 hb; have c1 := cell_keep4 c1 hb; have c2 := cell_keep4 c2 hb; have c3 := cell_keep4 c3 hb; have HB := Lib.hid (Below.next HB.out hb); clear hb)) | (go_at_call 9; ((with_reducible refine (HHQ.out _ (HVB.out.below HB.out) (HVC.out.below HB.out)).mono ?_); rintro e wn ⟨rfl, hb⟩; have c0 := cell_keep4 c0 hb; have c1 := cell_keep4 c1 hb; have c2 := cell_keep4 c2 hb; have c3 := cell_keep4 c3 hb; have HB := Lib.hid (Below.next HB.out hb); clear hb)) | fail)
    go_ret
    exact ⟨rfl, HB.out⟩
  have h2i : (b.length : Int) ≤ 40 := by omega
  by_cases h3 : 40 < c.length
  · have h3i : (40 : Int) < c.length := by omega
    go_enter Try.func4, Try.ntmps4
    go_wp2_with (first | (go_at_call 5; ((with_reducible refine (awake4 _).mono ?_); rintro e wn ⟨rfl, hb⟩; have c0 := cell_keep4 c0 hb; have c1 := cell_keep4 c1 hb; have c2 := cell_keep4 c2 hb; have c3 := cell_keep4 c3 hb; have HB := Lib.hid (Below.next HB.out hb); clear hb)) | (go_at_call 13; ((with_reducible refine (HWI.out _ (HVA.out.below HB.out) (HVB.out.below HB.out)).mono ?_); rintro e wn ⟨rfl, hb⟩; have c0 := cell_keep4 c0 hb; have c1 := cell_keep4 c1 hb; have c2 := cell_keep4 c2 hb; have c3 := cell_keep4 c3 hb; have HB := Lib.hid (Below.next HB.out hb); clear hb)) | (go_at_call 8; ((with_reducible refine (HRP.out _).mono ?_); rintro e wn ⟨rfl, hb⟩; have c0 := cell_keep4 c0 hb; have c1 := cell_keep4 c1 hb; have c2 := cell_keep4 c2 hb; have c3 := cell_keep4 c3 hb; have HB := Lib.hid (Below.next HB.out hb); clear hb)) | (go_at_call 8; ((with_reducible refine (HRQ.out _).mono ?_); rintro e wn ⟨rfl, hb⟩; have c0 := cell_keep4 c0 hb; have c1 := cell_keep4 c1 hb; have c2 := cell_keep4 c2 hb; have c3 := cell_keep4 c3 hb; have HB := Lib.hid (Below.next HB.out hb); clear hb)) | (go_at_call 10; ((with_reducible refine (HRH.out _ (HVB.out.below HB.out) (HVA.out.below HB.out)).mono ?_); rintro e wn ⟨rfl, hb⟩; have c0 := cell_keep4 c0 hb; have c1 := cell_keep4 c1 hb; have c2 := cell_keep4 c2 hb; have c3 := cell_keep4 c3 hb; have HB := Lib.hid (Below.next HB.out hb); clear hb)) | (go_at_call 9; ((with_reducible refine (HHP.out _ (HVA.out.below HB.out) (HVC.out.below HB.out)).mono ?_); rintro e wn ⟨rfl, hb⟩; have c0 := cell_keep4 c0 hb; have c1 := cell_keep4 c1 hb; have c2 := cell_keep4 c2 hb; have c3 := cell_keep4 c3 hb; have HB := Lib.hid (Below.next HB.out hb); clear hb)) | (go_at_call 9; ((with_reducible refine (HHQ.out _ (HVB.out.below HB.out) (HVC.out.below HB.out)).mono ?_); rintro e wn ⟨rfl, hb⟩; have c0 := cell_keep4 c0 hb; have c1 := cell_keep4 c1 hb; have c2 := cell_keep4 c2 hb; have c3 := cell_keep4 c3 hb; have HB := Lib.hid (Below.next HB.out hb); clear hb)) | fail)
    go_ret
    exact ⟨rfl, HB.out⟩
  have h3i : (c.length : Int) ≤ 40 := by omega
  obtain ⟨W, hW⟩ : ∃ W, withinP a m b n = W := ⟨_, rfl⟩
  obtain ⟨r1, hr1⟩ : ∃ r, rightP a.length m = r := ⟨_, rfl⟩
  obtain ⟨r2, hr2⟩ : ∃ r, rightP b.length n = r := ⟨_, rfl⟩
  obtain ⟨hh, hhh⟩ : ∃ r, hasP b n a = r := ⟨_, rfl⟩
  obtain ⟨h5, hh5⟩ : ∃ r, hasP a m c = r := ⟨_, rfl⟩
  obtain ⟨h6, hh6⟩ : ∃ r, hasP b n c = r := ⟨_, rfl⟩
  have hWI : ∀ w, Bytes w (.slice ad a.length cp) a → Bytes w (.slice bd b.length cb) b → Calls Try.prog 13 #[.agg #[.slice ad a.length cp, .int .i64 m], .agg #[.slice bd b.length cb, .int .i64 n]] w fun e w' => e = .returned (.bool W) ∧ Below w.heap.size w w' :=
    fun w h1 h2 => by rw [← hW]; exact awithin_any a b ad bd cp cb m n w h1 h2 hac hcm hbc hbm (by omega) (by omega)
  have hRH : ∀ w, Bytes w (.slice bd b.length cb) b → Bytes w (.slice ad a.length cp) a → Calls Try.prog 10 #[.agg #[.slice bd b.length cb, .int .i64 n], .slice ad a.length cp] w fun e w' => e = .returned (.bool hh) ∧ Below w.heap.size w w' :=
    fun w h1 h2 => by rw [← hhh]; exact rhas_any b a bd _ cb n w h1 h2 (by omega) (by omega)
  have hHP : ∀ w, Bytes w (.slice ad a.length cp) a → Bytes w (.slice cd c.length cc) c → Calls Try.prog 9 #[.agg #[.slice ad a.length cp, .int .i64 m], .slice cd c.length cc] w fun e w' => e = .returned (.bool h5) ∧ Below w.heap.size w w' :=
    fun w h1 h2 => by rw [← hh5]; exact ahas_any a c ad cd cp cc m w h1 h2 hac hcm hcc hccm (by omega) (by omega)
  have hHQ : ∀ w, Bytes w (.slice bd b.length cb) b → Bytes w (.slice cd c.length cc) c → Calls Try.prog 9 #[.agg #[.slice bd b.length cb, .int .i64 n], .slice cd c.length cc] w fun e w' => e = .returned (.bool h6) ∧ Below w.heap.size w w' :=
    fun w h1 h2 => by rw [← hh6]; exact ahas_any b c bd cd cb cc n w h1 h2 hbc hbm hcc hccm (by omega) (by omega)
  have HWI := Lib.hid hWI
  have HRH := Lib.hid hRH
  have HHP := Lib.hid hHP
  have HHQ := Lib.hid hHQ
  have HRP := Lib.hid (rright_v ad a.length cp m (by omega) r1 hr1)
  have HRQ := Lib.hid (rright_v bd b.length cb n (by omega) r2 hr2)
  have hcase : (r1 = false ∧ W = false) ∨ (r1 = true ∧ r2 = false ∧ W = false) ∨ (r1 = true ∧ r2 = true ∧ a.length ≠ b.length ∧ W = false) ∨ (r1 = true ∧ r2 = true ∧ a.length = b.length ∧ m < n ∧ W = false) ∨ (r1 = true ∧ r2 = true ∧ a.length = b.length ∧ n ≤ m ∧ hh = false ∧ W = false) ∨
      (r1 = true ∧ r2 = true ∧ a.length = b.length ∧ n ≤ m ∧ hh = true ∧ W = true ∧ h5 = false) ∨ (r1 = true ∧ r2 = true ∧ a.length = b.length ∧ n ≤ m ∧ hh = true ∧ W = true ∧ h5 = true ∧ h6 = true) := by
    cases r1 with
    | false => left; exact ⟨rfl, by rw [← hW]; exact within_no hr1 hr2 (.inl rfl)⟩
    | true =>
      right
      cases r2 with
      | false => left; exact ⟨rfl, rfl, by rw [← hW]; exact within_no hr1 hr2 (.inr (.inl rfl))⟩
      | true =>
        right
        by_cases hl : a.length = b.length
        · right
          by_cases hnm : n ≤ m
          · right
            cases hh with
            | false => left; exact ⟨rfl, rfl, hl, hnm, rfl, by rw [← hW]; exact within_no hr1 hr2 (.inr (.inr (.inr (.inr hhh))))⟩
            | true =>
              right
              have hWt : W = true := by rw [← hW]; unfold withinP; rw [hr1, hr2, hhh]; simp [hl, hnm]
              cases h5 with
              | false => left; exact ⟨rfl, rfl, hl, hnm, rfl, hWt, rfl⟩
              | true => right; exact ⟨rfl, rfl, hl, hnm, rfl, hWt, rfl, by rw [← hh6]; exact within_has (by rw [hW]; exact hWt) hh5⟩
          · left; exact ⟨rfl, rfl, hl, by omega, by rw [← hW]; exact within_no hr1 hr2 (.inr (.inr (.inr (.inl (by omega)))))⟩
        · left; exact ⟨rfl, rfl, hl, by rw [← hW]; exact within_no hr1 hr2 (.inr (.inr (.inl hl)))⟩
  clear hW hr1 hr2 hhh hh5 hh6 hWI hRH hHP hHQ hac hcm hbc hbm hcc hccm hac2 hbc2 hcc2
  rcases hcase with ⟨h1, h2⟩ | ⟨h1, h2, h3⟩ | ⟨h1, h2, h3, h4⟩ | ⟨h1, h2, h3, h4, h7⟩ | ⟨h1, h2, h3, h4, h7, h8⟩ | ⟨h1, h2, h3, h4, h7, h8, h9⟩ | ⟨h1, h2, h3, h4, h7, h8, h9, h10⟩
  · subst h1 h2
    go_enter Try.func4, Try.ntmps4
    go_wp2_with (first | (go_at_call 5; ((with_reducible refine (awake4 _).mono ?_); rintro e wn ⟨rfl, hb⟩; have c0 := cell_keep4 c0 hb; have c1 := cell_keep4 c1 hb; have c2 := cell_keep4 c2 hb; have c3 := cell_keep4 c3 hb; have HB := Lib.hid (Below.next HB.out hb); clear hb)) | (go_at_call 13; ((with_reducible refine (HWI.out _ (HVA.out.below HB.out) (HVB.out.below HB.out)).mono ?_); rintro e wn ⟨rfl, hb⟩; have c0 := cell_keep4 c0 hb; have c1 := cell_keep4 c1 hb; have c2 := cell_keep4 c2 hb; have c3 := cell_keep4 c3 hb; have HB := Lib.hid (Below.next HB.out hb); clear hb)) | (go_at_call 8; ((with_reducible refine (HRP.out _).mono ?_); rintro e wn ⟨rfl, hb⟩; have c0 := cell_keep4 c0 hb; have c1 := cell_keep4 c1 hb; have c2 := cell_keep4 c2 hb; have c3 := cell_keep4 c3 hb; have HB := Lib.hid (Below.next HB.out hb); clear hb)) | (go_at_call 8; ((with_reducible refine (HRQ.out _).mono ?_); rintro e wn ⟨rfl, hb⟩; have c0 := cell_keep4 c0 hb; have c1 := cell_keep4 c1 hb; have c2 := cell_keep4 c2 hb; have c3 := cell_keep4 c3 hb; have HB := Lib.hid (Below.next HB.out hb); clear hb)) | (go_at_call 10; ((with_reducible refine (HRH.out _ (HVB.out.below HB.out) (HVA.out.below HB.out)).mono ?_); rintro e wn ⟨rfl, hb⟩; have c0 := cell_keep4 c0 hb; have c1 := cell_keep4 c1 hb; have c2 := cell_keep4 c2 hb; have c3 := cell_keep4 c3 hb; have HB := Lib.hid (Below.next HB.out hb); clear hb)) | (go_at_call 9; ((with_reducible refine (HHP.out _ (HVA.out.below HB.out) (HVC.out.below HB.out)).mono ?_); rintro e wn ⟨rfl, hb⟩; have c0 := cell_keep4 c0 hb; have c1 := cell_keep4 c1 hb; have c2 := cell_keep4 c2 hb; have c3 := cell_keep4 c3 hb; have HB := Lib.hid (Below.next HB.out hb); clear hb)) | (go_at_call 9; ((with_reducible refine (HHQ.out _ (HVB.out.below HB.out) (HVC.out.below HB.out)).mono ?_); rintro e wn ⟨rfl, hb⟩; have c0 := cell_keep4 c0 hb; have c1 := cell_keep4 c1 hb; have c2 := cell_keep4 c2 hb; have c3 := cell_keep4 c3 hb; have HB := Lib.hid (Below.next HB.out hb); clear hb)) | fail)
    go_ret
    exact ⟨rfl, HB.out⟩
  · subst h1 h2 h3
    go_enter Try.func4, Try.ntmps4
    go_wp2_with (first | (go_at_call 5; ((with_reducible refine (awake4 _).mono ?_); rintro e wn ⟨rfl, hb⟩; have c0 := cell_keep4 c0 hb; have c1 := cell_keep4 c1 hb; have c2 := cell_keep4 c2 hb; have c3 := cell_keep4 c3 hb; have HB := Lib.hid (Below.next HB.out hb); clear hb)) | (go_at_call 13; ((with_reducible refine (HWI.out _ (HVA.out.below HB.out) (HVB.out.below HB.out)).mono ?_); rintro e wn ⟨rfl, hb⟩; have c0 := cell_keep4 c0 hb; have c1 := cell_keep4 c1 hb; have c2 := cell_keep4 c2 hb; have c3 := cell_keep4 c3 hb; have HB := Lib.hid (Below.next HB.out hb); clear hb)) | (go_at_call 8; ((with_reducible refine (HRP.out _).mono ?_); rintro e wn ⟨rfl, hb⟩; have c0 := cell_keep4 c0 hb; have c1 := cell_keep4 c1 hb; have c2 := cell_keep4 c2 hb; have c3 := cell_keep4 c3 hb; have HB := Lib.hid (Below.next HB.out hb); clear hb)) | (go_at_call 8; ((with_reducible refine (HRQ.out _).mono ?_); rintro e wn ⟨rfl, hb⟩; have c0 := cell_keep4 c0 hb; have c1 := cell_keep4 c1 hb; have c2 := cell_keep4 c2 hb; have c3 := cell_keep4 c3 hb; have HB := Lib.hid (Below.next HB.out hb); clear hb)) | (go_at_call 10; ((with_reducible refine (HRH.out _ (HVB.out.below HB.out) (HVA.out.below HB.out)).mono ?_); rintro e wn ⟨rfl, hb⟩; have c0 := cell_keep4 c0 hb; have c1 := cell_keep4 c1 hb; have c2 := cell_keep4 c2 hb; have c3 := cell_keep4 c3 hb; have HB := Lib.hid (Below.next HB.out hb); clear hb)) | (go_at_call 9; ((with_reducible refine (HHP.out _ (HVA.out.below HB.out) (HVC.out.below HB.out)).mono ?_); rintro e wn ⟨rfl, hb⟩; have c0 := cell_keep4 c0 hb; have c1 := cell_keep4 c1 hb; have c2 := cell_keep4 c2 hb; have c3 := cell_keep4 c3 hb; have HB := Lib.hid (Below.next HB.out hb); clear hb)) | (go_at_call 9; ((with_reducible refine (HHQ.out _ (HVB.out.below HB.out) (HVC.out.below HB.out)).mono ?_); rintro e wn ⟨rfl, hb⟩; have c0 := cell_keep4 c0 hb; have c1 := cell_keep4 c1 hb; have c2 := cell_keep4 c2 hb; have c3 := cell_keep4 c3 hb; have HB := Lib.hid (Below.next HB.out hb); clear hb)) | fail)
    go_ret
    exact ⟨rfl, HB.out⟩
  · subst h1 h2 h4
    have e := len_ne_beq h3
    clear h3
    go_enter Try.func4, Try.ntmps4
    go_wp2_with (first | (go_at_call 5; ((with_reducible refine (awake4 _).mono ?_); rintro e wn ⟨rfl, hb⟩; have c0 := cell_keep4 c0 hb; have c1 := cell_keep4 c1 hb; have c2 := cell_keep4 c2 hb; have c3 := cell_keep4 c3 hb; have HB := Lib.hid (Below.next HB.out hb); clear hb)) | (go_at_call 13; ((with_reducible refine (HWI.out _ (HVA.out.below HB.out) (HVB.out.below HB.out)).mono ?_); rintro e wn ⟨rfl, hb⟩; have c0 := cell_keep4 c0 hb; have c1 := cell_keep4 c1 hb; have c2 := cell_keep4 c2 hb; have c3 := cell_keep4 c3 hb; have HB := Lib.hid (Below.next HB.out hb); clear hb)) | (go_at_call 8; ((with_reducible refine (HRP.out _).mono ?_); rintro e wn ⟨rfl, hb⟩; have c0 := cell_keep4 c0 hb; have c1 := cell_keep4 c1 hb; have c2 := cell_keep4 c2 hb; have c3 := cell_keep4 c3 hb; have HB := Lib.hid (Below.next HB.out hb); clear hb)) | (go_at_call 8; ((with_reducible refine (HRQ.out _).mono ?_); rintro e wn ⟨rfl, hb⟩; have c0 := cell_keep4 c0 hb; have c1 := cell_keep4 c1 hb; have c2 := cell_keep4 c2 hb; have c3 := cell_keep4 c3 hb; have HB := Lib.hid (Below.next HB.out hb); clear hb)) | (go_at_call 10; ((with_reducible refine (HRH.out _ (HVB.out.below HB.out) (HVA.out.below HB.out)).mono ?_); rintro e wn ⟨rfl, hb⟩; have c0 := cell_keep4 c0 hb; have c1 := cell_keep4 c1 hb; have c2 := cell_keep4 c2 hb; have c3 := cell_keep4 c3 hb; have HB := Lib.hid (Below.next HB.out hb); clear hb)) | (go_at_call 9; ((with_reducible refine (HHP.out _ (HVA.out.below HB.out) (HVC.out.below HB.out)).mono ?_); rintro e wn ⟨rfl, hb⟩; have c0 := cell_keep4 c0 hb; have c1 := cell_keep4 c1 hb; have c2 := cell_keep4 c2 hb; have c3 := cell_keep4 c3 hb; have HB := Lib.hid (Below.next HB.out hb); clear hb)) | (go_at_call 9; ((with_reducible refine (HHQ.out _ (HVB.out.below HB.out) (HVC.out.below HB.out)).mono ?_); rintro e wn ⟨rfl, hb⟩; have c0 := cell_keep4 c0 hb; have c1 := cell_keep4 c1 hb; have c2 := cell_keep4 c2 hb; have c3 := cell_keep4 c3 hb; have HB := Lib.hid (Below.next HB.out hb); clear hb)) | fail)
    go_ret
    exact ⟨rfl, HB.out⟩
  · subst h1 h2 h7
    have e : ((a.length : Int) == b.length) = true := beq_i (by omega)
    clear h3
    go_enter Try.func4, Try.ntmps4
    go_wp2_with (first | (go_at_call 5; ((with_reducible refine (awake4 _).mono ?_); rintro e wn ⟨rfl, hb⟩; have c0 := cell_keep4 c0 hb; have c1 := cell_keep4 c1 hb; have c2 := cell_keep4 c2 hb; have c3 := cell_keep4 c3 hb; have HB := Lib.hid (Below.next HB.out hb); clear hb)) | (go_at_call 13; ((with_reducible refine (HWI.out _ (HVA.out.below HB.out) (HVB.out.below HB.out)).mono ?_); rintro e wn ⟨rfl, hb⟩; have c0 := cell_keep4 c0 hb; have c1 := cell_keep4 c1 hb; have c2 := cell_keep4 c2 hb; have c3 := cell_keep4 c3 hb; have HB := Lib.hid (Below.next HB.out hb); clear hb)) | (go_at_call 8; ((with_reducible refine (HRP.out _).mono ?_); rintro e wn ⟨rfl, hb⟩; have c0 := cell_keep4 c0 hb; have c1 := cell_keep4 c1 hb; have c2 := cell_keep4 c2 hb; have c3 := cell_keep4 c3 hb; have HB := Lib.hid (Below.next HB.out hb); clear hb)) | (go_at_call 8; ((with_reducible refine (HRQ.out _).mono ?_); rintro e wn ⟨rfl, hb⟩; have c0 := cell_keep4 c0 hb; have c1 := cell_keep4 c1 hb; have c2 := cell_keep4 c2 hb; have c3 := cell_keep4 c3 hb; have HB := Lib.hid (Below.next HB.out hb); clear hb)) | (go_at_call 10; ((with_reducible refine (HRH.out _ (HVB.out.below HB.out) (HVA.out.below HB.out)).mono ?_); rintro e wn ⟨rfl, hb⟩; have c0 := cell_keep4 c0 hb; have c1 := cell_keep4 c1 hb; have c2 := cell_keep4 c2 hb; have c3 := cell_keep4 c3 hb; have HB := Lib.hid (Below.next HB.out hb); clear hb)) | (go_at_call 9; ((with_reducible refine (HHP.out _ (HVA.out.below HB.out) (HVC.out.below HB.out)).mono ?_); rintro e wn ⟨rfl, hb⟩; have c0 := cell_keep4 c0 hb; have c1 := cell_keep4 c1 hb; have c2 := cell_keep4 c2 hb; have c3 := cell_keep4 c3 hb; have HB := Lib.hid (Below.next HB.out hb); clear hb)) | (go_at_call 9; ((with_reducible refine (HHQ.out _ (HVB.out.below HB.out) (HVC.out.below HB.out)).mono ?_); rintro e wn ⟨rfl, hb⟩; have c0 := cell_keep4 c0 hb; have c1 := cell_keep4 c1 hb; have c2 := cell_keep4 c2 hb; have c3 := cell_keep4 c3 hb; have HB := Lib.hid (Below.next HB.out hb); clear hb)) | fail)
    go_ret
    exact ⟨rfl, HB.out⟩
  · subst h1 h2 h7 h8
    have e : ((a.length : Int) == b.length) = true := beq_i (by omega)
    clear h3
    go_enter Try.func4, Try.ntmps4
    go_wp2_with (first | (go_at_call 5; ((with_reducible refine (awake4 _).mono ?_); rintro e wn ⟨rfl, hb⟩; have c0 := cell_keep4 c0 hb; have c1 := cell_keep4 c1 hb; have c2 := cell_keep4 c2 hb; have c3 := cell_keep4 c3 hb; have HB := Lib.hid (Below.next HB.out hb); clear hb)) | (go_at_call 13; ((with_reducible refine (HWI.out _ (HVA.out.below HB.out) (HVB.out.below HB.out)).mono ?_); rintro e wn ⟨rfl, hb⟩; have c0 := cell_keep4 c0 hb; have c1 := cell_keep4 c1 hb; have c2 := cell_keep4 c2 hb; have c3 := cell_keep4 c3 hb; have HB := Lib.hid (Below.next HB.out hb); clear hb)) | (go_at_call 8; ((with_reducible refine (HRP.out _).mono ?_); rintro e wn ⟨rfl, hb⟩; have c0 := cell_keep4 c0 hb; have c1 := cell_keep4 c1 hb; have c2 := cell_keep4 c2 hb; have c3 := cell_keep4 c3 hb; have HB := Lib.hid (Below.next HB.out hb); clear hb)) | (go_at_call 8; ((with_reducible refine (HRQ.out _).mono ?_); rintro e wn ⟨rfl, hb⟩; have c0 := cell_keep4 c0 hb; have c1 := cell_keep4 c1 hb; have c2 := cell_keep4 c2 hb; have c3 := cell_keep4 c3 hb; have HB := Lib.hid (Below.next HB.out hb); clear hb)) | (go_at_call 10; ((with_reducible refine (HRH.out _ (HVB.out.below HB.out) (HVA.out.below HB.out)).mono ?_); rintro e wn ⟨rfl, hb⟩; have c0 := cell_keep4 c0 hb; have c1 := cell_keep4 c1 hb; have c2 := cell_keep4 c2 hb; have c3 := cell_keep4 c3 hb; have HB := Lib.hid (Below.next HB.out hb); clear hb)) | (go_at_call 9; ((with_reducible refine (HHP.out _ (HVA.out.below HB.out) (HVC.out.below HB.out)).mono ?_); rintro e wn ⟨rfl, hb⟩; have c0 := cell_keep4 c0 hb; have c1 := cell_keep4 c1 hb; have c2 := cell_keep4 c2 hb; have c3 := cell_keep4 c3 hb; have HB := Lib.hid (Below.next HB.out hb); clear hb)) | (go_at_call 9; ((with_reducible refine (HHQ.out _ (HVB.out.below HB.out) (HVC.out.below HB.out)).mono ?_); rintro e wn ⟨rfl, hb⟩; have c0 := cell_keep4 c0 hb; have c1 := cell_keep4 c1 hb; have c2 := cell_keep4 c2 hb; have c3 := cell_keep4 c3 hb; have HB := Lib.hid (Below.next HB.out hb); clear hb)) | fail)
    go_ret
    exact ⟨rfl, HB.out⟩
  · subst h1 h2 h7 h8 h9
    have e : ((a.length : Int) == b.length) = true := beq_i (by omega)
    clear h3
    go_enter Try.func4, Try.ntmps4
    go_wp2_with (first | (go_at_call 5; ((with_reducible refine (awake4 _).mono ?_); rintro e wn ⟨rfl, hb⟩; have c0 := cell_keep4 c0 hb; have c1 := cell_keep4 c1 hb; have c2 := cell_keep4 c2 hb; have c3 := cell_keep4 c3 hb; have HB := Lib.hid (Below.next HB.out hb); clear hb)) | (go_at_call 13; ((with_reducible refine (HWI.out _ (HVA.out.below HB.out) (HVB.out.below HB.out)).mono ?_); rintro e wn ⟨rfl, hb⟩; have c0 := cell_keep4 c0 hb; have c1 := cell_keep4 c1 hb; have c2 := cell_keep4 c2 hb; have c3 := cell_keep4 c3 hb; have HB := Lib.hid (Below.next HB.out hb); clear hb)) | (go_at_call 8; ((with_reducible refine (HRP.out _).mono ?_); rintro e wn ⟨rfl, hb⟩; have c0 := cell_keep4 c0 hb; have c1 := cell_keep4 c1 hb; have c2 := cell_keep4 c2 hb; have c3 := cell_keep4 c3 hb; have HB := Lib.hid (Below.next HB.out hb); clear hb)) | (go_at_call 8; ((with_reducible refine (HRQ.out _).mono ?_); rintro e wn ⟨rfl, hb⟩; have c0 := cell_keep4 c0 hb; have c1 := cell_keep4 c1 hb; have c2 := cell_keep4 c2 hb; have c3 := cell_keep4 c3 hb; have HB := Lib.hid (Below.next HB.out hb); clear hb)) | (go_at_call 10; ((with_reducible refine (HRH.out _ (HVB.out.below HB.out) (HVA.out.below HB.out)).mono ?_); rintro e wn ⟨rfl, hb⟩; have c0 := cell_keep4 c0 hb; have c1 := cell_keep4 c1 hb; have c2 := cell_keep4 c2 hb; have c3 := cell_keep4 c3 hb; have HB := Lib.hid (Below.next HB.out hb); clear hb)) | (go_at_call 9; ((with_reducible refine (HHP.out _ (HVA.out.below HB.out) (HVC.out.below HB.out)).mono ?_); rintro e wn ⟨rfl, hb⟩; have c0 := cell_keep4 c0 hb; have c1 := cell_keep4 c1 hb; have c2 := cell_keep4 c2 hb; have c3 := cell_keep4 c3 hb; have HB := Lib.hid (Below.next HB.out hb); clear hb)) | (go_at_call 9; ((with_reducible refine (HHQ.out _ (HVB.out.below HB.out) (HVC.out.below HB.out)).mono ?_); rintro e wn ⟨rfl, hb⟩; have c0 := cell_keep4 c0 hb; have c1 := cell_keep4 c1 hb; have c2 := cell_keep4 c2 hb; have c3 := cell_keep4 c3 hb; have HB := Lib.hid (Below.next HB.out hb); clear hb)) | fail)
    go_ret
    exact ⟨rfl, HB.out⟩
  · subst h1 h2 h7 h8 h9 h10
    have e : ((a.length : Int) == b.length) = true := beq_i (by omega)
    clear h3
    go_enter Try.func4, Try.ntmps4
    go_wp2_with (first | (go_at_call 5; ((with_reducible refine (awake4 _).mono ?_); rintro e wn ⟨rfl, hb⟩; have c0 := cell_keep4 c0 hb; have c1 := cell_keep4 c1 hb; have c2 := cell_keep4 c2 hb; have c3 := cell_keep4 c3 hb; have HB := Lib.hid (Below.next HB.out hb); clear hb)) | (go_at_call 13; ((with_reducible refine (HWI.out _ (HVA.out.below HB.out) (HVB.out.below HB.out)).mono ?_); rintro e wn ⟨rfl, hb⟩; have c0 := cell_keep4 c0 hb; have c1 := cell_keep4 c1 hb; have c2 := cell_keep4 c2 hb; have c3 := cell_keep4 c3 hb; have HB := Lib.hid (Below.next HB.out hb); clear hb)) | (go_at_call 8; ((with_reducible refine (HRP.out _).mono ?_); rintro e wn ⟨rfl, hb⟩; have c0 := cell_keep4 c0 hb; have c1 := cell_keep4 c1 hb; have c2 := cell_keep4 c2 hb; have c3 := cell_keep4 c3 hb; have HB := Lib.hid (Below.next HB.out hb); clear hb)) | (go_at_call 8; ((with_reducible refine (HRQ.out _).mono ?_); rintro e wn ⟨rfl, hb⟩; have c0 := cell_keep4 c0 hb; have c1 := cell_keep4 c1 hb; have c2 := cell_keep4 c2 hb; have c3 := cell_keep4 c3 hb; have HB := Lib.hid (Below.next HB.out hb); clear hb)) | (go_at_call 10; ((with_reducible refine (HRH.out _ (HVB.out.below HB.out) (HVA.out.below HB.out)).mono ?_); rintro e wn ⟨rfl, hb⟩; have c0 := cell_keep4 c0 hb; have c1 := cell_keep4 c1 hb; have c2 := cell_keep4 c2 hb; have c3 := cell_keep4 c3 hb; have HB := Lib.hid (Below.next HB.out hb); clear hb)) | (go_at_call 9; ((with_reducible refine (HHP.out _ (HVA.out.below HB.out) (HVC.out.below HB.out)).mono ?_); rintro e wn ⟨rfl, hb⟩; have c0 := cell_keep4 c0 hb; have c1 := cell_keep4 c1 hb; have c2 := cell_keep4 c2 hb; have c3 := cell_keep4 c3 hb; have HB := Lib.hid (Below.next HB.out hb); clear hb)) | (go_at_call 9; ((with_reducible refine (HHQ.out _ (HVB.out.below HB.out) (HVC.out.below HB.out)).mono ?_); rintro e wn ⟨rfl, hb⟩; have c0 := cell_keep4 c0 hb; have c1 := cell_keep4 c1 hb; have c2 := cell_keep4 c2 hb; have c3 := cell_keep4 c3 hb; have HB := Lib.hid (Below.next HB.out hb); clear hb)) | fail)
    go_ret
    exact ⟨rfl, HB.out⟩
end Go.Proofs.Ytbaceiohcbhpaaa
