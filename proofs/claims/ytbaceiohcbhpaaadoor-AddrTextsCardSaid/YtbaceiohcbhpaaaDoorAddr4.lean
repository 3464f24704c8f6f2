import Derived.Test.YtbaceiohcbhpaaaDoorAddr3
namespace Go.Proofs.YtbaceiohcbhpaaaDoor
set_option linter.unusedVariables false
set_option linter.unusedSimpArgs false
set_option maxRecDepth 100000
open Go.RowKit

def prtP (n : Nat) (a : List UInt8) (k : Nat) : List UInt8 :=
  if n = 4 then (if 0 < k then [46] else []) ++ decs (a.getD k 0).toNat else (if 0 < k ∧ k % 2 = 0 then [58] else []) ++ hexOf [a.getD k 0]
def prt (n : Nat) (a : List UInt8) : Nat → List UInt8
  | 0 => []
  | k + 1 => prt n a k ++ prtP n a k
def printA (a : List UInt8) : List UInt8 := prt a.length a a.length
theorem prtP_len (n : Nat) (a : List UInt8) (k : Nat) : (prtP n a k).length ≤ 30 := by
  unfold prtP
  generalize a.getD k 0 = c
  have h := UInt8.toNat_lt c
  have h2 := decs_top c.toNat (by unfold top; omega)
  split
  · split <;> simp <;> omega
  · split <;> simp [hexOf_length]
theorem prt_len (n : Nat) (a : List UInt8) (k : Nat) : (prt n a k).length ≤ 30 * k := by
  induction k with
  | zero => simp [prt]
  | succ k ih =>
    have := prtP_len n a k
    simp [prt]; omega
theorem rprint_c (n : Nat) (hn : n < 256) (w : World) : Calls Tryd.prog 30 #[.int .u64 n] w fun e w' => e = .returned (.string (strB (decs n))) ∧ Below w.heap.size w w' := rprint_any n (by unfold top; omega) w
theorem rhex_c (v : Value) (c : UInt8) (w : World) (hv : Bytes w v [c]) : Calls Tryd.prog 31 #[v] w fun e w' => e = .returned (.string (strB (hexOf [c]))) ∧ Below w.heap.size w w' := rhex_any v [c] w hv (by simp)
theorem sz46 : (⟨#[46]⟩ : ByteArray).size = 1 := rfl
theorem sz58 : (⟨#[58]⟩ : ByteArray).size = 1 := rfl
theorem app46 (S : List UInt8) : strB S ++ ⟨#[46]⟩ = strB (S ++ [46]) := by rw [show (⟨#[46]⟩ : ByteArray) = strB [46] from rfl, strB_app]
theorem app58 (S : List UInt8) : strB S ++ ⟨#[58]⟩ = strB (S ++ [58]) := by rw [show (⟨#[58]⟩ : ByteArray) = strB [58] from rfl, strB_app]
theorem bytes_at {w : World} {bb off k : Nat} {c : UInt8} {cp : Nat} (h : w.cell? ⟨bb, off + k, none⟩ = some (.int .u8 c.toNat)) : Bytes w (.slice (some ⟨bb, off + k, none⟩) 1 cp) [c] := by
  refine ⟨_, _, rfl, .inr ⟨bb, off + k, rfl, fun i hi => ?_⟩⟩
  match i, hi with
  | 0, _ => exact h
theorem rprintA_any (ad : Option Addr) (cp : Nat) (a : List UInt8) (w : World) (hv : Bytes w (.slice ad a.length cp) a) (hcp : a.length ≤ cp) (hcm : cp ≤ maxLen) (hal : a.length ≤ 1000) :
    Calls Tryd.prog 14 #[.slice ad a.length cp] w fun e w' => e = .returned (.string (strB (printA a))) ∧ Below w.heap.size w w' := by
  have HV := Lib.hid hv
  clear hv
  unfold maxLen at hcm
  have hali : (a.length : Int) ≤ 1000 := by omega
  have s46 := sz46
  have s58 := sz58
  have h4 : (a.length = 4 ∧ ((a.length : Int) == 4) = true) ∨ (a.length ≠ 4 ∧ ((a.length : Int) == 4) = false) := by
    by_cases h : a.length = 4
    · exact .inl ⟨h, beq_i (by omega)⟩
    · exact .inr ⟨h, bne_i (by omega)⟩
  have H4 := Lib.hid h4
  clear h4
  go_enter Tryd.func14, Tryd.ntmps14
  go_wp2_with fail
  go_loopw [3, 4] (fun s i wr => ∃ k : Nat, i = .int .i64 k ∧ k ≤ a.length ∧ s = .string (strB (prt a.length a k)) ∧ Below w.heap.size w wr) (fun _ i _ => a.length - (intOf i).toNat)
  case atStart => exact ⟨0, rfl, by omega, rfl, Below.refl _ _⟩
  case round =>
    obtain ⟨k, rfl, hk, rfl, hbw⟩ := hrel
    have HB := Lib.hid hbw
    have HV1 := Lib.hid (HV.out.below hbw)
    have hsl := prt_len a.length a k
    have hss := strB_size (prt a.length a k)
    by_cases hlt : k < a.length
    · obtain ⟨bb, off, rfl, hc⟩ := bytes_cell HV1.out (by omega)
      have hN : prt a.length a (k + 1) = prt a.length a k ++ prtP a.length a k := rfl
      have c1 := hc k hlt
      have hxb := UInt8.toNat_lt (a.getD k 0)
      have hki : (k : Int) < a.length := by omega
      have hk0 : (0 : Int) ≤ k := by omega
      obtain ⟨S2, hS2⟩ : ∃ S2, prt a.length a (k + 1) = S2 := ⟨_, rfl⟩
      obtain ⟨S, hS⟩ : ∃ S, prt a.length a k = S := ⟨_, rfl⟩
      have HS2 := Lib.hid hS2
      rw [hS] at hss hsl hN
      rw [hS2] at hN
      rw [hS]
      rcases H4.out with ⟨h4, e4⟩ | ⟨h4, e4⟩
      · have hPP : prtP a.length a k = (if 0 < k then [46] else []) ++ decs (a.getD k 0).toNat := by unfold prtP; rw [if_pos h4]
        have HPR := Lib.hid (rprint_c (a.getD k 0).toNat hxb)
        have hds := strB_size (decs (a.getD k 0).toNat)
        have hdt := decs_top (a.getD k 0).toNat (by unfold top; omega)
        generalize (a.getD k 0).toNat = x at *
        by_cases hk1 : 0 < k
        · have HN : Hid ((strB S ++ ⟨#[46]⟩) ++ strB (decs x) = strB S2) := Lib.hid (by rw [hN, hPP, if_pos hk1, app46, strB_app]; simp)
          have hk2 : (0 : Int) < k := by omega
          clear hN hPP hS hS2 hc h4 hbw
          go_wp2_with (first | (go_at_call 30; ((with_reducible refine (HPR.out _).mono ?_); rintro e w3 ⟨rfl, hb3⟩; have HB3 := Lib.hid hb3; clear hb3)) | fail)
          go_roundw
          case rel => exact ⟨k + 1, by go_num, hlt, by rw [HS2.out, HN.out], Below.next HB.out HB3.out⟩
          case measure => simp [intOf]; omega
        · have HN : Hid (strB S ++ strB (decs x) = strB S2) := Lib.hid (by rw [hN, hPP, if_neg hk1, strB_app]; simp)
          have hk2 : ¬ (0 : Int) < k := by omega
          clear hN hPP hS hS2 hc h4 hbw
          go_wp2_with (first | (go_at_call 30; ((with_reducible refine (HPR.out _).mono ?_); rintro e w3 ⟨rfl, hb3⟩; have HB3 := Lib.hid hb3; clear hb3)) | fail)
          go_roundw
          case rel => exact ⟨k + 1, by go_num, hlt, by rw [HS2.out, HN.out], Below.next HB.out HB3.out⟩
          case measure => simp [intOf]; omega
      · have hPP : prtP a.length a k = (if 0 < k ∧ k % 2 = 0 then [58] else []) ++ hexOf [a.getD k 0] := by unfold prtP; rw [if_neg h4]
        have HVC : Hid (∀ n, Bytes wr (.slice (some ⟨bb, off + k, none⟩) 1 n) [a.getD k 0]) := Lib.hid (fun n => bytes_at c1)
        have HHX : Hid (∀ w v, Bytes w v [a.getD k 0] → Calls Tryd.prog 31 #[v] w fun e w' => e = .returned (.string (strB (hexOf [a.getD k 0]))) ∧ Below w.heap.size w w') := Lib.hid (fun w v h => rhex_c v _ w h)
        have hds := strB_size (hexOf [a.getD k 0])
        have hdt : (hexOf [a.getD k 0]).length = 2 := by rw [hexOf_length]; rfl
        rw [hdt] at hds
        clear hdt c1 hxb
        generalize a.getD k 0 = c at *
        have hw1 : (k : Int) + 1 ≤ a.length := by omega
        have hw2 : (a.length : Int) ≤ cp := by omega
        have hcase : (0 < k ∧ k % 2 = 0) ∨ ¬ (0 < k ∧ k % 2 = 0) := by omega
        rcases hcase with hk1 | hk1
        · have HN : Hid ((strB S ++ ⟨#[58]⟩) ++ strB (hexOf [c]) = strB S2) := Lib.hid (by rw [hN, hPP, if_pos hk1, app58, strB_app]; simp)
          have hk2 : (0 : Int) < k := by omega
          have hk3 : ((k : Int) % 2 == 0) = true := beq_i (by omega)
          clear hN hPP hS hS2 hc h4 hbw hk1
          go_wp2_with (first | (go_at_call 31; ((with_reducible refine (HHX.out _ _ (HVC.out _)).mono ?_); rintro e w3 ⟨rfl, hb3⟩; have HB3 := Lib.hid hb3; clear hb3)) | fail)
          go_roundw
          case rel => exact ⟨k + 1, by go_num, hlt, by rw [HS2.out, HN.out], Below.next HB.out HB3.out⟩
          case measure => simp [intOf]; omega
        · have HN : Hid (strB S ++ strB (hexOf [c]) = strB S2) := Lib.hid (by rw [hN, hPP, if_neg hk1, strB_app]; simp)
          have hk2 : (((0 : Int) < k) ∧ ((k : Int) % 2 == 0) = false) ∨ ¬ (0 : Int) < k := by
            by_cases h0 : 0 < k
            · left; exact ⟨by omega, bne_i (by omega)⟩
            · right; omega
          clear hN hPP hS hS2 hc h4 hbw hk1
          rcases hk2 with ⟨hk2, hk3⟩ | hk2
          all_goals
            go_wp2_with (first | (go_at_call 31; ((with_reducible refine (HHX.out _ _ (HVC.out _)).mono ?_); rintro e w3 ⟨rfl, hb3⟩; have HB3 := Lib.hid hb3; clear hb3)) | fail)
            go_roundw
            case rel => exact ⟨k + 1, by go_num, hlt, by rw [HS2.out, HN.out], Below.next HB.out HB3.out⟩
            case measure => simp [intOf]; omega
    · have HN : Hid (prt a.length a k = printA a) := Lib.hid (by unfold printA; rw [show k = a.length by omega])
      go_wp2_with fail
      go_ret
      exact ⟨ret_str (by rw [HN.out]), HB.out⟩
end Go.Proofs.YtbaceiohcbhpaaaDoor
