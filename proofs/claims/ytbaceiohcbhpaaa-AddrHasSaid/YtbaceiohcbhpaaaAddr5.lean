import Derived.Test.YtbaceiohcbhpaaaAddr4
namespace Go.Proofs.Ytbaceiohcbhpaaa
set_option linter.unusedVariables false
set_option linter.unusedSimpArgs false
set_option maxRecDepth 100000
open Go.RowKit

theorem same_c (va vb : Value) (la lb : List UInt8) (r : Bool) (hr : (la == lb) = r) (w : World) (ha : Bytes w va la) (hb : Bytes w vb lb) : Calls Try.prog 20 #[va, vb] w fun e w' => e = .returned (.bool r) ∧ w = w' := by
  subst hr; exact same_any va vb la lb w ha hb
theorem rsame4_any (a b : List UInt8) (ad bd : Option Addr) (cp cq : Nat) (m n : Int) (w : World) (ha : Bytes w (.slice ad a.length cp) a) (hb : Bytes w (.slice bd b.length cq) b) :
    Calls Try.prog 11 #[.agg #[.slice ad a.length cp, .int .i64 m], .agg #[.slice bd b.length cq, .int .i64 n]] w (RightRet w ((m == n) && (a == b))) := by
  have HVA : Hid (Bytes ((w.alloc (.cells #[.slice ad a.length cp, .int .i64 m] 24)).alloc (.cells #[.slice bd b.length cq, .int .i64 n] 24)) (.slice ad a.length cp) a) := Lib.hid (ha.below (((Below.refl _ _).alloc (Nat.le_refl _) _).alloc (by simp) _))
  have HVB : Hid (Bytes ((w.alloc (.cells #[.slice ad a.length cp, .int .i64 m] 24)).alloc (.cells #[.slice bd b.length cq, .int .i64 n] 24)) (.slice bd b.length cq) b) := Lib.hid (hb.below (((Below.refl _ _).alloc (Nat.le_refl _) _).alloc (by simp) _))
  obtain ⟨r, hr⟩ : ∃ r, (a == b) = r := ⟨_, rfl⟩
  have HSM := Lib.hid (fun w h1 h2 => same_c (.slice ad a.length cp) (.slice bd b.length cq) a b r hr w h1 h2)
  rw [hr]
  clear ha hb hr
  cases hmn : (m == n) with
  | false =>
    go_enter Try.func11, Try.ntmps11
    go_wp2_with (first | (go_at_call 20; ((with_reducible refine (HSM.out _ HVA.out HVB.out).mono ?_); rintro e w3 ⟨rfl, rfl⟩)) | fail)
    go_ret
    exact ⟨rfl, ((Below.refl _ _).alloc (Nat.le_refl _) _).alloc (by simp) _⟩
  | true =>
    go_enter Try.func11, Try.ntmps11
    go_wp2_with (first | (go_at_call 20; ((with_reducible refine (HSM.out _ HVA.out HVB.out).mono ?_); rintro e w3 ⟨rfl, rfl⟩)) | fail)
    go_ret
    exact ⟨ret_bool (by simp), ((Below.refl _ _).alloc (Nat.le_refl _) _).alloc (by simp) _⟩
theorem app47 (S : List UInt8) : strB S ++ ⟨#[47]⟩ = strB (S ++ [47]) := by rw [show (⟨#[47]⟩ : ByteArray) = strB [47] from rfl, strB_app]
theorem sz47 : (⟨#[47]⟩ : ByteArray).size = 1 := rfl
theorem printA_len (a : List UInt8) (h : a.length ≤ 1000) : (printA a).length ≤ 30000 := by
  have := prt_len a.length a a.length
  unfold printA; omega
theorem cell_keep4 {w w' : World} {b i : Nat} {v : Value} (h : w.cell? ⟨b, i, none⟩ = some v) (hb : Below w.heap.size w w') : w'.cell? ⟨b, i, none⟩ = some v :=
  (hb.cell (p := ⟨b, i, none⟩) (World.block_lt_of_cell? w _ h)).trans h
end Go.Proofs.Ytbaceiohcbhpaaa
