/- Texts of this seat, merged: Tri11. -/
import Derived.Test.YtlmmnjoincmgcaaGT5
namespace Go.Proofs.Ytlmmnjoincmgcaa
set_option linter.unusedVariables false
set_option linter.unusedSimpArgs false
set_option maxRecDepth 100000
open Go.RowKit
structure RdInv (T : World → Nat → Nat → List Rw → Prop) (w W : World) (base B : Nat) (vs : List Rw) (a : Option Addr) (cap : Nat) (bx : Nat) (x : Ac) : Prop where
  inv : TrInv T w W base B vs a cap
  box : W.heap[bx]? = some (.cells #[.slice x.ad x.adr.length x.cp, .int .i64 x.bits] 29 (0, 0))
structure RdMid (T : World → Nat → Nat → List Rw → Prop) (w W : World) (base : Nat) (vs : List Rw) (a : Option Addr) (cap : Nat) (bx : Nat) (x : Ac) : Prop where
  mid : TrMid T w W base vs a cap
  box : W.heap[bx]? = some (.cells #[.slice x.ad x.adr.length x.cp, .int .i64 x.bits] 29 (0, 0))
theorem RdInv.below {T : World → Nat → Nat → List Rw → Prop} (C : TrieC T) {w W W' : World} {base B : Nat} {vs : List Rw} {a : Option Addr} {cap bx : Nat} {x : Ac} (h : RdInv T w W base B vs a cap bx x) (hb : Below W.heap.size W W') : RdInv T w W' base B vs a cap bx x :=
  ⟨h.inv.below C hb, (hb.block bx (heap_lt h.box)).trans h.box⟩
theorem RdMid.below {T : World → Nat → Nat → List Rw → Prop} {w W W' : World} {base : Nat} {vs : List Rw} {a : Option Addr} {cap bx : Nat} {x : Ac} (h : RdMid T w W base vs a cap bx x) (hb : Below W.heap.size W W') : RdMid T w W' base vs a cap bx x :=
  ⟨h.mid.below hb, (hb.block bx (heap_lt h.box)).trans h.box⟩
theorem RdInv.keeps {T : World → Nat → Nat → List Rw → Prop} {w W W' : World} {base B : Nat} {vs : List Rw} {a : Option Addr} {cap bx : Nat} {x : Ac} (h : RdInv T w W base B vs a cap bx x) (hk : Keeps base W W') : RdMid T w W' base vs a cap bx x :=
  ⟨h.inv.keeps hk, hk.blk _ _ _ _ h.box (.inr (.inr rfl))⟩
theorem RdMid.same {T : World → Nat → Nat → List Rw → Prop} {w W : World} {base B : Nat} {vs : List Rw} {a : Option Addr} {cap bx : Nat} {x : Ac} (h : RdMid T w W base vs a cap bx x) (ht : T W base B vs) : RdInv T w W base B vs a cap bx x :=
  ⟨h.mid.done ht h.mid.row h.mid.adr h.mid.sh, h.box⟩
theorem RdMid.done {T : World → Nat → Nat → List Rw → Prop} {w W : World} {base B : Nat} {vs vs2 : List Rw} {a a2 : Option Addr} {cap cap2 bx : Nat} {x : Ac} (h : RdMid T w W base vs a cap bx x) (ht : T W base B vs2) (hr : RowsAt W a2 cap2 vs2) (ha : AdrOk W vs2) (hs : ∀ r ∈ vs2, r.adr.length ≤ 40) : RdInv T w W base B vs2 a2 cap2 bx x :=
  ⟨h.mid.done ht hr ha hs, h.box⟩
theorem RdInv.mid {T : World → Nat → Nat → List Rw → Prop} {w W : World} {base B : Nat} {vs : List Rw} {a : Option Addr} {cap bx : Nat} {x : Ac} (h : RdInv T w W base B vs a cap bx x) : RdMid T w W base vs a cap bx x := ⟨⟨h.inv.siz, h.inv.bel, h.inv.row, h.inv.adr, h.inv.sh⟩, h.box⟩
set_option maxHeartbeats 4000000 in
theorem trieacts_go (T : World → Nat → Nat → List Rw → Prop) (C : TrieC T) (la : Option Addr) (lc : Nat) (ls : List Ac) (aa : Option Addr) (ac : Nat) (A : List UInt8) (w : World) (hls : ActsAt w la ls) (hA : Bytes w (.slice aa A.length ac) A) (hn : ls.length ≤ 60) (hm : A.length ≤ 40)
    (haw : ∀ w, Calls Try.prog 5 #[] w fun e w' => e = .returned (.bool true) ∧ Below w.heap.size w w') :
    Calls Try.prog 3 #[.slice la ls.length lc, .slice aa A.length ac] w fun e w' => e = .returned (.bool true) ∧ Below w.heap.size w w' := by
  have HLS := Lib.hid hls
  have HA := Lib.hid hA
  have HN := Lib.hid hn
  have HM := Lib.hid hm
  have HTC := Lib.hid C
  have HAW := Lib.hid haw
  have HNW := Lib.hid C.new
  have hn1 : ¬ (60 : Int) < ls.length := by omega
  have hn2 : (ls.length : Int) ≤ 60 := by omega
  have hm1 : ¬ (40 : Int) < A.length := by omega
  have hm2 : (A.length : Int) ≤ 40 := by omega
  clear hls hA hn hm C haw
  go_enter Try.func3, Try.ntmps3
  go_wp2_with (first | (go_at_call 5; ((with_reducible refine (HAW.out _).mono ?_); rintro e w2 ⟨rfl, hb⟩; have HB := Lib.hid hb; clear hb)) | (go_at_call 6; ((with_reducible refine (HNW.out _).mono ?_); rintro e w3 ⟨B, rfl, ha, hb⟩; have HT := Lib.hid ha; have HBS : Hid (w.heap.size ≤ w2.heap.size) := Lib.hid HB.out.size; have HB := Lib.hid (Below.next HB.out hb); clear ha hb)) | fail)
  generalize w2.heap.size = base at *
  have HI : Hid (TrInv T w w3 base B [] none 0) := Lib.hid ⟨HBS.out, HB.out, HT.out, rows_nil w3, (fun r hr => by cases hr), (fun r hr => by cases hr)⟩
  clear HT HB HBS HNW HAW
  have HI : Hid (TrInv T w (w3.alloc (.cells #[] 62)) base B [] (some ⟨w3.heap.size, 0, none⟩) 0) := Lib.hid (by
    have hb : Below w3.heap.size w3 (w3.alloc (.cells #[] 62)) := below_one _
    have h := HI.out
    refine ⟨h.siz, Below.next h.bel hb, HTC.out.below _ _ _ _ _ h.tab hb, ⟨Nat.le_refl _, Nat.zero_le _, (fun e => by cases e), (fun x e => by cases e; rfl), ?_, .inl rfl⟩, (fun r hr => by cases hr), (fun r hr => by cases hr)⟩
    intro b off x e
    cases e
    exact ⟨_, _, heap_alloc_new w3 _⟩)
  go_loopw [6, 7] (fun m i wr => ∃ (k : Nat) (vs : List Rw) (a : Option Addr) (cap : Nat), i = .int .i64 k ∧ k ≤ ls.length ∧ vs.length ≤ k ∧ m = .slice a vs.length cap ∧ TrInv T w wr base B vs a cap) (fun m i _ => ls.length - (intOf i).toNat)
  case atStart => exact ⟨0, [], _, 0, rfl, Nat.zero_le _, Nat.le_refl _, rfl, HI.out⟩
  case round =>
    obtain ⟨k, vs, a, cap, rfl, hk, hvk, rfl, hti⟩ := hrel
    have HTI := Lib.hid hti
    have HVK := Lib.hid hvk
    have HBS : Hid (w.heap.size ≤ base) := Lib.hid hti.siz
    clear hti hvk HI
    by_cases hlt : k < ls.length
    · obtain ⟨x, hx⟩ : ∃ x, ls[k]? = some x := ⟨ls[k], List.getElem?_eq_getElem hlt⟩
      obtain ⟨b, off, rfl, k0, k1, k2, k3, hby⟩ := HLS.out k x hx
      have HC0 := Lib.hid k0
      have HC1 := Lib.hid k1
      have HC2 := Lib.hid k2
      have HC3 := Lib.hid k3
      have HBY := Lib.hid hby
      clear k0 k1 k2 k3 hby hx
      have hk0 : (0 : Int) ≤ k := by omega
      have hk1 : (k : Int) < ls.length := by omega
      have HLT := Lib.hid hlt
      have HV6 : Hid (vs.length ≤ 60) := Lib.hid (by have := HVK.out; have := HN.out; omega)
      have c0 := cell_keep4 HC0.out HTI.out.bel
      have c1 := cell_keep4 HC1.out HTI.out.bel
      have c2 := cell_keep4 HC2.out HTI.out.bel
      have c3 := cell_keep4 HC3.out HTI.out.bel
      by_cases hl40 : x.adr.length ≤ 40
      · have hl1 : ¬ (40 : Int) < x.adr.length := by omega
        have HL40 := Lib.hid hl40
        obtain ⟨rt, hrt⟩ : ∃ rt, rt = rightP x.adr.length x.bits := ⟨_, rfl⟩
        have HRT := Lib.hid (fun w => rright_v x.ad x.adr.length x.cp x.bits (by omega) rt hrt.symm w)
        have HRTE := Lib.hid hrt
        clear hlt hk hl40 hrt
        go_wp2_with fail
        have HR : Hid (RdInv T w (wr.alloc (.cells #[.slice x.ad x.adr.length x.cp, .int .i64 x.bits] 29)) base B vs a cap wr.heap.size x) := Lib.hid ⟨HTI.out.below HTC.out (below_one _), heap_alloc_new wr _⟩
        clear c0 c1 c2 c3
        generalize wr.heap.size = bx at *
        generalize wr.alloc (.cells #[.slice x.ad x.adr.length x.cp, .int .i64 x.bits] 29) = w0 at *
        clear HTI
        have c0 := cell_keep4 HC0.out HR.out.inv.bel; have c1 := cell_keep4 HC1.out HR.out.inv.bel; have c2 := cell_keep4 HC2.out HR.out.inv.bel; have c3 := cell_keep4 HC3.out HR.out.inv.bel; have b0 := cell_of HR.out.box 0 rfl; have b1 := cell_of HR.out.box 1 rfl
        rcases (show x.kind = 0 ∨ x.kind = 1 ∨ x.kind = 2 ∨ x.kind = 3 ∨ x.kind = 4 ∨ (x.kind ≠ 0 ∧ x.kind ≠ 1 ∧ x.kind ≠ 2 ∧ x.kind ≠ 3 ∧ x.kind ≠ 4) by omega) with hkd | hkd | hkd | hkd | hkd | hkd
        · have e0 : (x.kind == 0) = true := by simp [hkd]
          have e1 : (x.kind == 1) = false := beqf (by omega)
          have e2 : (x.kind == 2) = false := beqf (by omega)
          have e3 : (x.kind == 3) = false := beqf (by omega)
          have e4 : (x.kind == 4) = false := beqf (by omega)
          clear hkd
          cases rt with
          | false =>
            have HPT := Lib.hid (fun w h1 h2 => HTC.out.putNo w base B vs x.ad x.cp x.adr x.bits x.own h1 HV6.out h2 HL40.out HRTE.out.symm)
            have HSH : Hid (∀ r ∈ vs, r.adr.length ≤ 1000) := Lib.hid (fun r hr => by have := HR.out.inv.sh r hr; omega)
            obtain ⟨⟨o1, o2⟩, ho12⟩ : ∃ z, z = ownerV vs x.adr := ⟨_, rfl⟩
            have HOW := Lib.hid (fun w v h1 h2 => HTC.out.owner w base B vs v x.adr h1 HV6.out h2 HL40.out)
            have HRO := Lib.hid (fun a cap w v h1 h2 h3 => rowner_any a cap vs v x.adr w h1 h2 h3 (by have := HV6.out; omega) HSH.out (by have := HL40.out; omega))
            unfold OwnerRet at HOW HRO
            rw [← ho12] at HOW HRO
            clear ho12
            have n1 : (o1 != o1) = false := by simp
            have n2 : (o2 != o2) = false := by simp
            have n3 : (o1 == o1) = true := by simp
            go_wp2_with (first | (go_at_call 7; ((with_reducible refine (HRT.out _).mono ?_); rintro e w4 ⟨rfl, hb⟩; have HR := Lib.hid (RdInv.below HTC.out HR.out hb); clear c0 c1 c2 c3 b0 b1; have c0 := cell_keep4 HC0.out HR.out.inv.bel; have c1 := cell_keep4 HC1.out HR.out.inv.bel; have c2 := cell_keep4 HC2.out HR.out.inv.bel; have c3 := cell_keep4 HC3.out HR.out.inv.bel; have b0 := cell_of HR.out.box 0 rfl; have b1 := cell_of HR.out.box 1 rfl; clear hb)) | fail)
            go_still_tail 7, (by kernel_rfl)
            have HR := Lib.hid (RdInv.below HTC.out HR.out (Below.drew (Below.refl _ _)))
            change wpList _ _ _ _ _ w4.drew
            clear c0 c1 c2 c3 b0 b1
            generalize w4.drew = w5 at *
            have c0 := cell_keep4 HC0.out HR.out.inv.bel; have c1 := cell_keep4 HC1.out HR.out.inv.bel; have c2 := cell_keep4 HC2.out HR.out.inv.bel; have c3 := cell_keep4 HC3.out HR.out.inv.bel; have b0 := cell_of HR.out.box 0 rfl; have b1 := cell_of HR.out.box 1 rfl
            go_wp2_with (first | (go_at_call 8; ((with_reducible refine (HPT.out _ HR.out.inv.tab (HBY.out.below HR.out.inv.bel)).mono ?_); rintro e w4 ⟨rfl, ht, hk⟩; have HR := Lib.hid (RdMid.same (RdInv.keeps HR.out hk) ht); clear c0 c1 c2 c3 b0 b1; have c0 := cell_keep4 HC0.out HR.out.inv.bel; have c1 := cell_keep4 HC1.out HR.out.inv.bel; have c2 := cell_keep4 HC2.out HR.out.inv.bel; have c3 := cell_keep4 HC3.out HR.out.inv.bel; have b0 := cell_of HR.out.box 0 rfl; have b1 := cell_of HR.out.box 1 rfl; clear ht hk)) | (go_at_call 15; ((with_reducible refine (HOW.out _ _ HR.out.inv.tab (HBY.out.below HR.out.inv.bel)).mono ?_); rintro e w4 ⟨rfl, hb⟩; have HR := Lib.hid (RdInv.below HTC.out HR.out hb); clear c0 c1 c2 c3 b0 b1; have c0 := cell_keep4 HC0.out HR.out.inv.bel; have c1 := cell_keep4 HC1.out HR.out.inv.bel; have c2 := cell_keep4 HC2.out HR.out.inv.bel; have c3 := cell_keep4 HC3.out HR.out.inv.bel; have b0 := cell_of HR.out.box 0 rfl; have b1 := cell_of HR.out.box 1 rfl; clear hb)) | (go_at_call 16; ((with_reducible refine (HRO.out _ _ _ _ HR.out.inv.row HR.out.inv.adr (HBY.out.below HR.out.inv.bel)).mono ?_); rintro e w4 ⟨rfl, hb⟩; have HR := Lib.hid (RdInv.below HTC.out HR.out hb); clear c0 c1 c2 c3 b0 b1; have c0 := cell_keep4 HC0.out HR.out.inv.bel; have c1 := cell_keep4 HC1.out HR.out.inv.bel; have c2 := cell_keep4 HC2.out HR.out.inv.bel; have c3 := cell_keep4 HC3.out HR.out.inv.bel; have b0 := cell_of HR.out.box 0 rfl; have b1 := cell_of HR.out.box 1 rfl; clear hb)) | fail)
            go_roundw
            case rel => exact ⟨k + 1, vs, a, cap, by go_num, HLT.out, Nat.le_succ_of_le HVK.out, rfl, HR.out.inv⟩
            case measure => simp [intOf]; omega
          | true =>
            by_cases hng : x.own < 0
            · have HPT := Lib.hid (fun w h1 h2 => HTC.out.putArg w base B vs x.ad x.cp x.adr x.bits x.own h1 HV6.out h2 HL40.out HRTE.out.symm hng)
              have HSH : Hid (∀ r ∈ vs, r.adr.length ≤ 1000) := Lib.hid (fun r hr => by have := HR.out.inv.sh r hr; omega)
              obtain ⟨⟨o1, o2⟩, ho12⟩ : ∃ z, z = ownerV vs x.adr := ⟨_, rfl⟩
              have HOW := Lib.hid (fun w v h1 h2 => HTC.out.owner w base B vs v x.adr h1 HV6.out h2 HL40.out)
              have HRO := Lib.hid (fun a cap w v h1 h2 h3 => rowner_any a cap vs v x.adr w h1 h2 h3 (by have := HV6.out; omega) HSH.out (by have := HL40.out; omega))
              unfold OwnerRet at HOW HRO
              rw [← ho12] at HOW HRO
              clear ho12
              have n1 : (o1 != o1) = false := by simp
              have n2 : (o2 != o2) = false := by simp
              have n3 : (o1 == o1) = true := by simp
              go_wp2_with (first | (go_at_call 7; ((with_reducible refine (HRT.out _).mono ?_); rintro e w4 ⟨rfl, hb⟩; have HR := Lib.hid (RdInv.below HTC.out HR.out hb); clear c0 c1 c2 c3 b0 b1; have c0 := cell_keep4 HC0.out HR.out.inv.bel; have c1 := cell_keep4 HC1.out HR.out.inv.bel; have c2 := cell_keep4 HC2.out HR.out.inv.bel; have c3 := cell_keep4 HC3.out HR.out.inv.bel; have b0 := cell_of HR.out.box 0 rfl; have b1 := cell_of HR.out.box 1 rfl; clear hb)) | fail)
              go_still_tail 7, (by kernel_rfl)
              have HR := Lib.hid (RdInv.below HTC.out HR.out (Below.drew (Below.refl _ _)))
              change wpList _ _ _ _ _ w4.drew
              clear c0 c1 c2 c3 b0 b1
              generalize w4.drew = w5 at *
              have c0 := cell_keep4 HC0.out HR.out.inv.bel; have c1 := cell_keep4 HC1.out HR.out.inv.bel; have c2 := cell_keep4 HC2.out HR.out.inv.bel; have c3 := cell_keep4 HC3.out HR.out.inv.bel; have b0 := cell_of HR.out.box 0 rfl; have b1 := cell_of HR.out.box 1 rfl
              go_wp2_with (first | (go_at_call 8; ((with_reducible refine (HPT.out _ HR.out.inv.tab (HBY.out.below HR.out.inv.bel)).mono ?_); rintro e w4 ⟨rfl, ht, hk⟩; have HR := Lib.hid (RdMid.same (RdInv.keeps HR.out hk) ht); clear c0 c1 c2 c3 b0 b1; have c0 := cell_keep4 HC0.out HR.out.inv.bel; have c1 := cell_keep4 HC1.out HR.out.inv.bel; have c2 := cell_keep4 HC2.out HR.out.inv.bel; have c3 := cell_keep4 HC3.out HR.out.inv.bel; have b0 := cell_of HR.out.box 0 rfl; have b1 := cell_of HR.out.box 1 rfl; clear ht hk)) | (go_at_call 15; ((with_reducible refine (HOW.out _ _ HR.out.inv.tab (HBY.out.below HR.out.inv.bel)).mono ?_); rintro e w4 ⟨rfl, hb⟩; have HR := Lib.hid (RdInv.below HTC.out HR.out hb); clear c0 c1 c2 c3 b0 b1; have c0 := cell_keep4 HC0.out HR.out.inv.bel; have c1 := cell_keep4 HC1.out HR.out.inv.bel; have c2 := cell_keep4 HC2.out HR.out.inv.bel; have c3 := cell_keep4 HC3.out HR.out.inv.bel; have b0 := cell_of HR.out.box 0 rfl; have b1 := cell_of HR.out.box 1 rfl; clear hb)) | (go_at_call 16; ((with_reducible refine (HRO.out _ _ _ _ HR.out.inv.row HR.out.inv.adr (HBY.out.below HR.out.inv.bel)).mono ?_); rintro e w4 ⟨rfl, hb⟩; have HR := Lib.hid (RdInv.below HTC.out HR.out hb); clear c0 c1 c2 c3 b0 b1; have c0 := cell_keep4 HC0.out HR.out.inv.bel; have c1 := cell_keep4 HC1.out HR.out.inv.bel; have c2 := cell_keep4 HC2.out HR.out.inv.bel; have c3 := cell_keep4 HC3.out HR.out.inv.bel; have b0 := cell_of HR.out.box 0 rfl; have b1 := cell_of HR.out.box 1 rfl; clear hb)) | fail)
              go_roundw
              case rel => exact ⟨k + 1, vs, a, cap, by go_num, HLT.out, Nat.le_succ_of_le HVK.out, rfl, HR.out.inv⟩
              case measure => simp [intOf]; omega
            · have HPT := Lib.hid (fun w h1 h2 => HTC.out.put w base B vs x.ad x.cp x.adr x.bits x.own h1 HV6.out h2 HL40.out HRTE.out.symm hng)
              obtain ⟨q1, q2, q3⟩ := right_len HRTE.out.symm
              have HPL := Lib.hid (fun w h => rplain_typ x.adr x.ad x.cp x.bits w h (by have := HL40.out; omega) q2 q3)
              have hLl := plainS_len x.adr x.bits.toNat
              unfold PlainRetT at HPL
              generalize plainS x.adr x.bits.toNat = L at *
              have HLL : Hid (L.length ≤ 40) := Lib.hid (by have := HL40.out; omega)
              have HPU := Lib.hid (fun pa pc w h1 h2 h3 => rput_any a cap vs pa pc L x.bits x.own w h1 h2 h3 (by have := HV6.out; omega))
              unfold RowsRet at HPU
              clear hLl q1 q2 q3
              go_wp2_with (first | (go_at_call 7; ((with_reducible refine (HRT.out _).mono ?_); rintro e w4 ⟨rfl, hb⟩; have HR := Lib.hid (RdInv.below HTC.out HR.out hb); clear c0 c1 c2 c3 b0 b1; have c0 := cell_keep4 HC0.out HR.out.inv.bel; have c1 := cell_keep4 HC1.out HR.out.inv.bel; have c2 := cell_keep4 HC2.out HR.out.inv.bel; have c3 := cell_keep4 HC3.out HR.out.inv.bel; have b0 := cell_of HR.out.box 0 rfl; have b1 := cell_of HR.out.box 1 rfl; clear hb)) | fail)
              go_still_tail 7, (by kernel_rfl)
              have HR := Lib.hid (RdInv.below HTC.out HR.out (Below.drew (Below.refl _ _)))
              change wpList _ _ _ _ _ w4.drew
              clear c0 c1 c2 c3 b0 b1
              generalize w4.drew = w5 at *
              have c0 := cell_keep4 HC0.out HR.out.inv.bel; have c1 := cell_keep4 HC1.out HR.out.inv.bel; have c2 := cell_keep4 HC2.out HR.out.inv.bel; have c3 := cell_keep4 HC3.out HR.out.inv.bel; have b0 := cell_of HR.out.box 0 rfl; have b1 := cell_of HR.out.box 1 rfl
              go_wp2_with (first | (go_at_call 8; ((with_reducible refine (HPT.out _ HR.out.inv.tab (HBY.out.below HR.out.inv.bel)).mono ?_); rintro e w4 ⟨rfl, ht, hk⟩; have HM4 := Lib.hid (RdInv.keeps HR.out hk); have HT4 := Lib.hid ht; clear c0 c1 c2 c3 b0 b1 ht hk HR; have c3 := cell_keep4 HC3.out HM4.out.mid.bel)) | fail)
              have HMD := Lib.hid (RdMid.below HM4.out (Below.drew (Below.refl _ _)))
              have HTD : Hid (∀ pa pc, T w4.drew base B (putV vs ⟨pa, pc, L, x.bits, x.own⟩)) := Lib.hid (fun pa pc => HTC.out.below _ _ _ _ _ (HT4.out pa pc) (Below.drew (Below.refl _ _)))
              refine wp_region_held_drew (S := (fun W => W.cell? ⟨b, off + k * 4 + 3, none⟩ = some (.int .i64 x.own) ∧ W.cell? ⟨bx, 0, none⟩ = some (.slice x.ad x.adr.length x.cp) ∧ W.cell? ⟨bx, 1, none⟩ = some (.int .i64 x.bits))) (by kernel_rfl) ?_ (fun hHeld0 => ?_)
              · (try dsimp only); exact ⟨cell_keep4 HC3.out HMD.out.mid.bel, cell_of HMD.out.box 0 rfl, cell_of HMD.out.box 1 rfl⟩
              first
              | (refine wpAnyH_take (i := 0) (oi := { dst := some 82, op := Go.Op.move (Go.Operand.tmp 6), type := 27, pos := "law.go:80", after := #[], guard := none }) (v := ?_) rfl (by kernel_rfl) (by kernel_rfl) (by kernel_rfl) (fun _ _ _ h => h) (Or.inl ⟨by rfl, ?_⟩) hHeld0 ?_
                 rotate_left
                 · ((intro w hSw; (try dsimp only at hSw); go_simp) <;> (first | with_reducible rfl | (rw [if_neg (by omega)]; done))))
              | (refine wpAnyH_take (i := 0) (oi := { dst := some 82, op := Go.Op.move (Go.Operand.tmp 6), type := 27, pos := "law.go:80", after := #[], guard := none }) (v := undef) rfl (by kernel_rfl) (by kernel_rfl) (by kernel_rfl) (fun _ _ _ h => h) (Or.inr ⟨by rfl, rfl⟩) hHeld0 ?_)
              try simp only [Act.put, List.setIfInBounds_toArray, List.set_cons_zero, List.set_cons_succ]
              first
              | (refine wpAnyH_take (i := 1) (oi := { dst := some 83, op := Go.Op.load 29 (Go.Operand.tmp 8), type := 29, pos := "law.go:80", after := #[], guard := none }) (v := ?_) rfl (by kernel_rfl) (by kernel_rfl) (by kernel_rfl) (fun _ _ _ h => h) (Or.inl ⟨by rfl, ?_⟩) hHeld0 ?_
                 rotate_left
                 · ((intro w hSw; (try dsimp only at hSw); go_simp) <;> (first | with_reducible rfl | (rw [if_neg (by omega)]; done))))
              | (refine wpAnyH_take (i := 1) (oi := { dst := some 83, op := Go.Op.load 29 (Go.Operand.tmp 8), type := 29, pos := "law.go:80", after := #[], guard := none }) (v := undef) rfl (by kernel_rfl) (by kernel_rfl) (by kernel_rfl) (fun _ _ _ h => h) (Or.inr ⟨by rfl, rfl⟩) hHeld0 ?_)
              try simp only [Act.put, List.setIfInBounds_toArray, List.set_cons_zero, List.set_cons_succ]
              first
              | (refine wpAnyH_take (i := 3) (oi := { dst := some 85, op := Go.Op.move (Go.Operand.tmp 0), type := 22, pos := "law.go:80", after := #[], guard := none }) (v := ?_) rfl (by kernel_rfl) (by kernel_rfl) (by kernel_rfl) (fun _ _ _ h => h) (Or.inl ⟨by rfl, ?_⟩) hHeld0 ?_
                 rotate_left
                 · ((intro w hSw; (try dsimp only at hSw); go_simp) <;> (first | with_reducible rfl | (rw [if_neg (by omega)]; done))))
              | (refine wpAnyH_take (i := 3) (oi := { dst := some 85, op := Go.Op.move (Go.Operand.tmp 0), type := 22, pos := "law.go:80", after := #[], guard := none }) (v := undef) rfl (by kernel_rfl) (by kernel_rfl) (by kernel_rfl) (fun _ _ _ h => h) (Or.inr ⟨by rfl, rfl⟩) hHeld0 ?_)
              try simp only [Act.put, List.setIfInBounds_toArray, List.set_cons_zero, List.set_cons_succ]
              first
              | (refine wpAnyH_take (i := 4) (oi := { dst := some 86, op := Go.Op.move (Go.Operand.tmp 7), type := 3, pos := "law.go:80", after := #[], guard := none }) (v := ?_) rfl (by kernel_rfl) (by kernel_rfl) (by kernel_rfl) (fun _ _ _ h => h) (Or.inl ⟨by rfl, ?_⟩) hHeld0 ?_
                 rotate_left
                 · ((intro w hSw; (try dsimp only at hSw); go_simp) <;> (first | with_reducible rfl | (rw [if_neg (by omega)]; done))))
              | (refine wpAnyH_take (i := 4) (oi := { dst := some 86, op := Go.Op.move (Go.Operand.tmp 7), type := 3, pos := "law.go:80", after := #[], guard := none }) (v := undef) rfl (by kernel_rfl) (by kernel_rfl) (by kernel_rfl) (fun _ _ _ h => h) (Or.inr ⟨by rfl, rfl⟩) hHeld0 ?_)
              try simp only [Act.put, List.setIfInBounds_toArray, List.set_cons_zero, List.set_cons_succ]
              first
              | (refine wpAnyH_take (i := 5) (oi := { dst := some 87, op := Go.Op.indexAddr 22 (Go.Operand.tmp 85) (Go.Operand.tmp 86), type := 0, pos := "law.go:80", after := #[{ on := 3, ground := Go.Ground.data }, { on := 4, ground := Go.Ground.data }], guard := none }) (v := ?_) rfl (by kernel_rfl) (by kernel_rfl) (by kernel_rfl) (fun _ _ _ h => h) (Or.inl ⟨by rfl, ?_⟩) hHeld0 ?_
                 rotate_left
                 · ((intro w hSw; (try dsimp only at hSw); go_simp) <;> (first | with_reducible rfl | (rw [if_neg (by omega)]; done))))
              | (refine wpAnyH_take (i := 5) (oi := { dst := some 87, op := Go.Op.indexAddr 22 (Go.Operand.tmp 85) (Go.Operand.tmp 86), type := 0, pos := "law.go:80", after := #[{ on := 3, ground := Go.Ground.data }, { on := 4, ground := Go.Ground.data }], guard := none }) (v := undef) rfl (by kernel_rfl) (by kernel_rfl) (by kernel_rfl) (fun _ _ _ h => h) (Or.inr ⟨by rfl, rfl⟩) hHeld0 ?_)
              try simp only [Act.put, List.setIfInBounds_toArray, List.set_cons_zero, List.set_cons_succ]
              first
              | (refine wpAnyH_take (i := 6) (oi := { dst := some 88, op := Go.Op.fieldAddr 31 (Go.Operand.tmp 87) 2, type := 0, pos := "law.go:80", after := #[{ on := 5, ground := Go.Ground.data }], guard := none }) (v := ?_) rfl (by kernel_rfl) (by kernel_rfl) (by kernel_rfl) (fun _ _ _ h => h) (Or.inl ⟨by rfl, ?_⟩) hHeld0 ?_
                 rotate_left
                 · ((intro w hSw; (try dsimp only at hSw); go_simp) <;> (first | with_reducible rfl | (rw [if_neg (by omega)]; done))))
              | (refine wpAnyH_take (i := 6) (oi := { dst := some 88, op := Go.Op.fieldAddr 31 (Go.Operand.tmp 87) 2, type := 0, pos := "law.go:80", after := #[{ on := 5, ground := Go.Ground.data }], guard := none }) (v := undef) rfl (by kernel_rfl) (by kernel_rfl) (by kernel_rfl) (fun _ _ _ h => h) (Or.inr ⟨by rfl, rfl⟩) hHeld0 ?_)
              try simp only [Act.put, List.setIfInBounds_toArray, List.set_cons_zero, List.set_cons_succ]
              first
              | (refine wpAnyH_take (i := 7) (oi := { dst := some 89, op := Go.Op.load 3 (Go.Operand.tmp 88), type := 3, pos := "law.go:80", after := #[{ on := 6, ground := Go.Ground.data }], guard := none }) (v := ?_) rfl (by kernel_rfl) (by kernel_rfl) (by kernel_rfl) (fun _ _ _ h => h) (Or.inl ⟨by rfl, ?_⟩) hHeld0 ?_
                 rotate_left
                 · ((intro w hSw; (try dsimp only at hSw); go_simp) <;> (first | with_reducible rfl | (rw [if_neg (by omega)]; done))))
              | (refine wpAnyH_take (i := 7) (oi := { dst := some 89, op := Go.Op.load 3 (Go.Operand.tmp 88), type := 3, pos := "law.go:80", after := #[{ on := 6, ground := Go.Ground.data }], guard := none }) (v := undef) rfl (by kernel_rfl) (by kernel_rfl) (by kernel_rfl) (fun _ _ _ h => h) (Or.inr ⟨by rfl, rfl⟩) hHeld0 ?_)
              try simp only [Act.put, List.setIfInBounds_toArray, List.set_cons_zero, List.set_cons_succ]
              refine wpAnyH_ready (rs := [2]) (by kernel_rfl) (by simp) ?_
              refine AllReadyH.cons (o := { dst := some 84, op := Go.Op.call { callee := Go.Callee.value (Go.Operand.func 10), args := #[Go.Operand.tmp 83], argTypes := #[29] }, type := 29, pos := "law.go:80", after := #[{ on := 1, ground := Go.Ground.data }], guard := none }) rfl (fun Kr2 hK => ?_) AllReadyH.nil
              go_simp
              (go_at_call 10; (with_reducible refine (HPL.out _ (HBY.out.below HMD.out.mid.bel)).mono ?_); rintro e w5 ⟨pa, pc, rfl, hpb, hp1, hp2, hpt, hb⟩; have HPB := Lib.hid hpb; have HPY := Lib.hid hpt; have HM5 := Lib.hid (RdMid.below HMD.out hb); have HT5 := Lib.hid (HTC.out.below _ _ _ _ _ (HTD.out pa pc) hb); clear hb hpb hp1 hp2 hpt)
              refine hK.out _ _ ?_ (fun hHeld1 => ?_)
              · (try dsimp only); exact ⟨cell_keep4 HC3.out HM5.out.mid.bel, cell_of HM5.out.box 0 rfl, cell_of HM5.out.box 1 rfl⟩
              clear hK Kr2 hHeld0
              try simp only [Act.put, List.setIfInBounds_toArray, List.set_cons_zero, List.set_cons_succ]
              refine wpAnyH_ready (rs := [8]) (by kernel_rfl) (by simp) ?_
              refine AllReadyH.cons (o := { dst := some 90, op := Go.Op.call { callee := Go.Callee.value (Go.Operand.func 9), args := #[Go.Operand.tmp 82, Go.Operand.tmp 84, Go.Operand.tmp 89], argTypes := #[27, 29, 3] }, type := 27, pos := "law.go:80", after := #[{ on := 0, ground := Go.Ground.data }, { on := 2, ground := Go.Ground.data }, { on := 7, ground := Go.Ground.data }, { on := 2, ground := Go.Ground.chain }], guard := none }) rfl (fun Kr8 hK => ?_) AllReadyH.nil
              go_simp
              (go_at_call 9; (with_reducible refine (HPU.out _ _ _ HM5.out.mid.row HM5.out.mid.adr HPB.out).mono ?_); rintro e w6 ⟨a2, cap2, rfl, hrow, hb⟩; have HROW := Lib.hid hrow; have HB6 := Lib.hid hb; have HM6 := Lib.hid (RdMid.below HM5.out hb); have HT6 := Lib.hid (HTC.out.below _ _ _ _ _ HT5.out hb); clear hb hrow)
              refine hK.out _ _ ?_ (fun hHeld2 => ?_)
              · (try dsimp only); exact ⟨cell_keep4 HC3.out HM6.out.mid.bel, cell_of HM6.out.box 0 rfl, cell_of HM6.out.box 1 rfl⟩
              clear hK Kr8 hHeld1
              try simp only [Act.put, List.setIfInBounds_toArray, List.set_cons_zero, List.set_cons_succ]
              first
              | (refine wpAnyH_take (i := 9) (oi := { dst := some 6, op := Go.Op.assign (Go.Operand.tmp 90), type := 27, pos := "law.go:80", after := #[{ on := 8, ground := Go.Ground.data }, { on := 8, ground := Go.Ground.chain }, { on := 0, ground := Go.Ground.phase }, { on := 1, ground := Go.Ground.phase }, { on := 2, ground := Go.Ground.phase }, { on := 3, ground := Go.Ground.phase }, { on := 4, ground := Go.Ground.phase }, { on := 5, ground := Go.Ground.phase }, { on := 6, ground := Go.Ground.phase }, { on := 7, ground := Go.Ground.phase }, { on := 8, ground := Go.Ground.phase }], guard := none }) (v := ?_) rfl (by kernel_rfl) (by kernel_rfl) (by kernel_rfl) (fun _ _ _ h => h) (Or.inl ⟨by rfl, ?_⟩) hHeld2 ?_
                 rotate_left
                 · ((intro w hSw; (try dsimp only at hSw); go_simp) <;> (first | with_reducible rfl | (rw [if_neg (by omega)]; done))))
              | (refine wpAnyH_take (i := 9) (oi := { dst := some 6, op := Go.Op.assign (Go.Operand.tmp 90), type := 27, pos := "law.go:80", after := #[{ on := 8, ground := Go.Ground.data }, { on := 8, ground := Go.Ground.chain }, { on := 0, ground := Go.Ground.phase }, { on := 1, ground := Go.Ground.phase }, { on := 2, ground := Go.Ground.phase }, { on := 3, ground := Go.Ground.phase }, { on := 4, ground := Go.Ground.phase }, { on := 5, ground := Go.Ground.phase }, { on := 6, ground := Go.Ground.phase }, { on := 7, ground := Go.Ground.phase }, { on := 8, ground := Go.Ground.phase }], guard := none }) (v := undef) rfl (by kernel_rfl) (by kernel_rfl) (by kernel_rfl) (fun _ _ _ h => h) (Or.inr ⟨by rfl, rfl⟩) hHeld2 ?_)
              try simp only [Act.put, List.setIfInBounds_toArray, List.set_cons_zero, List.set_cons_succ]
              refine wpAnyH_done (by kernel_rfl) ?_ _
              clear hHeld2
              have HR : Hid (RdInv T w w6 base B (putV vs ⟨pa, pc, L, x.bits, x.own⟩) a2 cap2 bx x) := Lib.hid (HM6.out.done HT6.out HROW.out (HM6.out.mid.adr.put (p := ⟨pa, pc, L, x.bits, x.own⟩) (HPB.out.below HB6.out) (HPY.out.below HB6.out)) (fun r hr => by
                rcases putV_mem hr with hr | rfl
                · exact HM6.out.mid.sh r hr
                · exact HLL.out))
              have HVL := Lib.hid (putV_len vs ⟨pa, pc, L, x.bits, x.own⟩)
              clear HT4 HT5 HT6 HTD HM4 HM5 HM6 HMD HROW HPU HPL HPT
              generalize putV vs ⟨pa, pc, L, x.bits, x.own⟩ = vs2 at *
              have HV7 : Hid (vs2.length ≤ 60) := Lib.hid (by have := HVL.out; have := HVK.out; have := HLT.out; have := HN.out; omega)
              have HVK2 : Hid (vs2.length ≤ k + 1) := Lib.hid (by have := HVL.out; have := HVK.out; omega)
              have HSH : Hid (∀ r ∈ vs2, r.adr.length ≤ 1000) := Lib.hid (fun r hr => by have := HR.out.inv.sh r hr; omega)
              obtain ⟨⟨o1, o2⟩, ho12⟩ : ∃ z, z = ownerV vs2 x.adr := ⟨_, rfl⟩
              have HOW := Lib.hid (fun w v h1 h2 => HTC.out.owner w base B vs2 v x.adr h1 HV7.out h2 HL40.out)
              have HRO := Lib.hid (fun a cap w v h1 h2 h3 => rowner_any a cap vs2 v x.adr w h1 h2 h3 (by have := HV7.out; omega) HSH.out (by have := HL40.out; omega))
              unfold OwnerRet at HOW HRO
              rw [← ho12] at HOW HRO
              clear ho12
              have n1 : (o1 != o1) = false := by simp
              have n2 : (o2 != o2) = false := by simp
              have n3 : (o1 == o1) = true := by simp
              have c0 := cell_keep4 HC0.out HR.out.inv.bel; have c1 := cell_keep4 HC1.out HR.out.inv.bel; have c2 := cell_keep4 HC2.out HR.out.inv.bel; have c3 := cell_keep4 HC3.out HR.out.inv.bel; have b0 := cell_of HR.out.box 0 rfl; have b1 := cell_of HR.out.box 1 rfl
              go_wp2_with (first | (go_at_call 15; ((with_reducible refine (HOW.out _ _ HR.out.inv.tab (HBY.out.below HR.out.inv.bel)).mono ?_); rintro e w4 ⟨rfl, hb⟩; have HR := Lib.hid (RdInv.below HTC.out HR.out hb); clear c0 c1 c2 c3 b0 b1; have c0 := cell_keep4 HC0.out HR.out.inv.bel; have c1 := cell_keep4 HC1.out HR.out.inv.bel; have c2 := cell_keep4 HC2.out HR.out.inv.bel; have c3 := cell_keep4 HC3.out HR.out.inv.bel; have b0 := cell_of HR.out.box 0 rfl; have b1 := cell_of HR.out.box 1 rfl; clear hb)) | (go_at_call 16; ((with_reducible refine (HRO.out _ _ _ _ HR.out.inv.row HR.out.inv.adr (HBY.out.below HR.out.inv.bel)).mono ?_); rintro e w4 ⟨rfl, hb⟩; have HR := Lib.hid (RdInv.below HTC.out HR.out hb); clear c0 c1 c2 c3 b0 b1; have c0 := cell_keep4 HC0.out HR.out.inv.bel; have c1 := cell_keep4 HC1.out HR.out.inv.bel; have c2 := cell_keep4 HC2.out HR.out.inv.bel; have c3 := cell_keep4 HC3.out HR.out.inv.bel; have b0 := cell_of HR.out.box 0 rfl; have b1 := cell_of HR.out.box 1 rfl; clear hb)) | fail)
              go_roundw
              case rel => exact ⟨k + 1, vs2, a2, cap2, by go_num, HLT.out, HVK2.out, rfl, HR.out.inv⟩
              case measure => simp [intOf]; omega
        · have e0 : (x.kind == 0) = false := beqf (by omega)
          have e1 : (x.kind == 1) = true := by simp [hkd]
          have e2 : (x.kind == 2) = false := beqf (by omega)
          have e3 : (x.kind == 3) = false := beqf (by omega)
          have e4 : (x.kind == 4) = false := beqf (by omega)
          clear hkd
          cases rt with
          | false =>
            have HPT := Lib.hid (fun w h1 h2 => HTC.out.putNo w base B vs x.ad x.cp x.adr x.bits x.own h1 HV6.out h2 HL40.out HRTE.out.symm)
            have HSH : Hid (∀ r ∈ vs, r.adr.length ≤ 1000) := Lib.hid (fun r hr => by have := HR.out.inv.sh r hr; omega)
            obtain ⟨⟨o1, o2⟩, ho12⟩ : ∃ z, z = ownerV vs x.adr := ⟨_, rfl⟩
            have HOW := Lib.hid (fun w v h1 h2 => HTC.out.owner w base B vs v x.adr h1 HV6.out h2 HL40.out)
            have HRO := Lib.hid (fun a cap w v h1 h2 h3 => rowner_any a cap vs v x.adr w h1 h2 h3 (by have := HV6.out; omega) HSH.out (by have := HL40.out; omega))
            unfold OwnerRet at HOW HRO
            rw [← ho12] at HOW HRO
            clear ho12
            have n1 : (o1 != o1) = false := by simp
            have n2 : (o2 != o2) = false := by simp
            have n3 : (o1 == o1) = true := by simp
            go_wp2_with (first | (go_at_call 7; ((with_reducible refine (HRT.out _).mono ?_); rintro e w4 ⟨rfl, hb⟩; have HR := Lib.hid (RdInv.below HTC.out HR.out hb); clear c0 c1 c2 c3 b0 b1; have c0 := cell_keep4 HC0.out HR.out.inv.bel; have c1 := cell_keep4 HC1.out HR.out.inv.bel; have c2 := cell_keep4 HC2.out HR.out.inv.bel; have c3 := cell_keep4 HC3.out HR.out.inv.bel; have b0 := cell_of HR.out.box 0 rfl; have b1 := cell_of HR.out.box 1 rfl; clear hb)) | fail)
            go_still_tail 7, (by kernel_rfl)
            have HR := Lib.hid (RdInv.below HTC.out HR.out (Below.drew (Below.refl _ _)))
            change wpList _ _ _ _ _ w4.drew
            clear c0 c1 c2 c3 b0 b1
            generalize w4.drew = w5 at *
            have c0 := cell_keep4 HC0.out HR.out.inv.bel; have c1 := cell_keep4 HC1.out HR.out.inv.bel; have c2 := cell_keep4 HC2.out HR.out.inv.bel; have c3 := cell_keep4 HC3.out HR.out.inv.bel; have b0 := cell_of HR.out.box 0 rfl; have b1 := cell_of HR.out.box 1 rfl
            go_wp2_with (first | (go_at_call 8; ((with_reducible refine (HPT.out _ HR.out.inv.tab (HBY.out.below HR.out.inv.bel)).mono ?_); rintro e w4 ⟨rfl, ht, hk⟩; have HR := Lib.hid (RdMid.same (RdInv.keeps HR.out hk) ht); clear c0 c1 c2 c3 b0 b1; have c0 := cell_keep4 HC0.out HR.out.inv.bel; have c1 := cell_keep4 HC1.out HR.out.inv.bel; have c2 := cell_keep4 HC2.out HR.out.inv.bel; have c3 := cell_keep4 HC3.out HR.out.inv.bel; have b0 := cell_of HR.out.box 0 rfl; have b1 := cell_of HR.out.box 1 rfl; clear ht hk)) | (go_at_call 15; ((with_reducible refine (HOW.out _ _ HR.out.inv.tab (HBY.out.below HR.out.inv.bel)).mono ?_); rintro e w4 ⟨rfl, hb⟩; have HR := Lib.hid (RdInv.below HTC.out HR.out hb); clear c0 c1 c2 c3 b0 b1; have c0 := cell_keep4 HC0.out HR.out.inv.bel; have c1 := cell_keep4 HC1.out HR.out.inv.bel; have c2 := cell_keep4 HC2.out HR.out.inv.bel; have c3 := cell_keep4 HC3.out HR.out.inv.bel; have b0 := cell_of HR.out.box 0 rfl; have b1 := cell_of HR.out.box 1 rfl; clear hb)) | (go_at_call 16; ((with_reducible refine (HRO.out _ _ _ _ HR.out.inv.row HR.out.inv.adr (HBY.out.below HR.out.inv.bel)).mono ?_); rintro e w4 ⟨rfl, hb⟩; have HR := Lib.hid (RdInv.below HTC.out HR.out hb); clear c0 c1 c2 c3 b0 b1; have c0 := cell_keep4 HC0.out HR.out.inv.bel; have c1 := cell_keep4 HC1.out HR.out.inv.bel; have c2 := cell_keep4 HC2.out HR.out.inv.bel; have c3 := cell_keep4 HC3.out HR.out.inv.bel; have b0 := cell_of HR.out.box 0 rfl; have b1 := cell_of HR.out.box 1 rfl; clear hb)) | fail)
            go_roundw
            case rel => exact ⟨k + 1, vs, a, cap, by go_num, HLT.out, Nat.le_succ_of_le HVK.out, rfl, HR.out.inv⟩
            case measure => simp [intOf]; omega
          | true =>
            by_cases hng : x.own < 0
            · have HPT := Lib.hid (fun w h1 h2 => HTC.out.putArg w base B vs x.ad x.cp x.adr x.bits x.own h1 HV6.out h2 HL40.out HRTE.out.symm hng)
              have HSH : Hid (∀ r ∈ vs, r.adr.length ≤ 1000) := Lib.hid (fun r hr => by have := HR.out.inv.sh r hr; omega)
              obtain ⟨⟨o1, o2⟩, ho12⟩ : ∃ z, z = ownerV vs x.adr := ⟨_, rfl⟩
              have HOW := Lib.hid (fun w v h1 h2 => HTC.out.owner w base B vs v x.adr h1 HV6.out h2 HL40.out)
              have HRO := Lib.hid (fun a cap w v h1 h2 h3 => rowner_any a cap vs v x.adr w h1 h2 h3 (by have := HV6.out; omega) HSH.out (by have := HL40.out; omega))
              unfold OwnerRet at HOW HRO
              rw [← ho12] at HOW HRO
              clear ho12
              have n1 : (o1 != o1) = false := by simp
              have n2 : (o2 != o2) = false := by simp
              have n3 : (o1 == o1) = true := by simp
              go_wp2_with (first | (go_at_call 7; ((with_reducible refine (HRT.out _).mono ?_); rintro e w4 ⟨rfl, hb⟩; have HR := Lib.hid (RdInv.below HTC.out HR.out hb); clear c0 c1 c2 c3 b0 b1; have c0 := cell_keep4 HC0.out HR.out.inv.bel; have c1 := cell_keep4 HC1.out HR.out.inv.bel; have c2 := cell_keep4 HC2.out HR.out.inv.bel; have c3 := cell_keep4 HC3.out HR.out.inv.bel; have b0 := cell_of HR.out.box 0 rfl; have b1 := cell_of HR.out.box 1 rfl; clear hb)) | fail)
              go_still_tail 7, (by kernel_rfl)
              have HR := Lib.hid (RdInv.below HTC.out HR.out (Below.drew (Below.refl _ _)))
              change wpList _ _ _ _ _ w4.drew
              clear c0 c1 c2 c3 b0 b1
              generalize w4.drew = w5 at *
              have c0 := cell_keep4 HC0.out HR.out.inv.bel; have c1 := cell_keep4 HC1.out HR.out.inv.bel; have c2 := cell_keep4 HC2.out HR.out.inv.bel; have c3 := cell_keep4 HC3.out HR.out.inv.bel; have b0 := cell_of HR.out.box 0 rfl; have b1 := cell_of HR.out.box 1 rfl
              go_wp2_with (first | (go_at_call 8; ((with_reducible refine (HPT.out _ HR.out.inv.tab (HBY.out.below HR.out.inv.bel)).mono ?_); rintro e w4 ⟨rfl, ht, hk⟩; have HR := Lib.hid (RdMid.same (RdInv.keeps HR.out hk) ht); clear c0 c1 c2 c3 b0 b1; have c0 := cell_keep4 HC0.out HR.out.inv.bel; have c1 := cell_keep4 HC1.out HR.out.inv.bel; have c2 := cell_keep4 HC2.out HR.out.inv.bel; have c3 := cell_keep4 HC3.out HR.out.inv.bel; have b0 := cell_of HR.out.box 0 rfl; have b1 := cell_of HR.out.box 1 rfl; clear ht hk)) | (go_at_call 15; ((with_reducible refine (HOW.out _ _ HR.out.inv.tab (HBY.out.below HR.out.inv.bel)).mono ?_); rintro e w4 ⟨rfl, hb⟩; have HR := Lib.hid (RdInv.below HTC.out HR.out hb); clear c0 c1 c2 c3 b0 b1; have c0 := cell_keep4 HC0.out HR.out.inv.bel; have c1 := cell_keep4 HC1.out HR.out.inv.bel; have c2 := cell_keep4 HC2.out HR.out.inv.bel; have c3 := cell_keep4 HC3.out HR.out.inv.bel; have b0 := cell_of HR.out.box 0 rfl; have b1 := cell_of HR.out.box 1 rfl; clear hb)) | (go_at_call 16; ((with_reducible refine (HRO.out _ _ _ _ HR.out.inv.row HR.out.inv.adr (HBY.out.below HR.out.inv.bel)).mono ?_); rintro e w4 ⟨rfl, hb⟩; have HR := Lib.hid (RdInv.below HTC.out HR.out hb); clear c0 c1 c2 c3 b0 b1; have c0 := cell_keep4 HC0.out HR.out.inv.bel; have c1 := cell_keep4 HC1.out HR.out.inv.bel; have c2 := cell_keep4 HC2.out HR.out.inv.bel; have c3 := cell_keep4 HC3.out HR.out.inv.bel; have b0 := cell_of HR.out.box 0 rfl; have b1 := cell_of HR.out.box 1 rfl; clear hb)) | fail)
              go_roundw
              case rel => exact ⟨k + 1, vs, a, cap, by go_num, HLT.out, Nat.le_succ_of_le HVK.out, rfl, HR.out.inv⟩
              case measure => simp [intOf]; omega
            · have HPT := Lib.hid (fun w h1 h2 => HTC.out.put w base B vs x.ad x.cp x.adr x.bits x.own h1 HV6.out h2 HL40.out HRTE.out.symm hng)
              obtain ⟨q1, q2, q3⟩ := right_len HRTE.out.symm
              have HPL := Lib.hid (fun w h => rplain_typ x.adr x.ad x.cp x.bits w h (by have := HL40.out; omega) q2 q3)
              have hLl := plainS_len x.adr x.bits.toNat
              unfold PlainRetT at HPL
              generalize plainS x.adr x.bits.toNat = L at *
              have HLL : Hid (L.length ≤ 40) := Lib.hid (by have := HL40.out; omega)
              have HPU := Lib.hid (fun pa pc w h1 h2 h3 => rput_any a cap vs pa pc L x.bits x.own w h1 h2 h3 (by have := HV6.out; omega))
              unfold RowsRet at HPU
              clear hLl q1 q2 q3
              go_wp2_with (first | (go_at_call 7; ((with_reducible refine (HRT.out _).mono ?_); rintro e w4 ⟨rfl, hb⟩; have HR := Lib.hid (RdInv.below HTC.out HR.out hb); clear c0 c1 c2 c3 b0 b1; have c0 := cell_keep4 HC0.out HR.out.inv.bel; have c1 := cell_keep4 HC1.out HR.out.inv.bel; have c2 := cell_keep4 HC2.out HR.out.inv.bel; have c3 := cell_keep4 HC3.out HR.out.inv.bel; have b0 := cell_of HR.out.box 0 rfl; have b1 := cell_of HR.out.box 1 rfl; clear hb)) | fail)
              go_still_tail 7, (by kernel_rfl)
              have HR := Lib.hid (RdInv.below HTC.out HR.out (Below.drew (Below.refl _ _)))
              change wpList _ _ _ _ _ w4.drew
              clear c0 c1 c2 c3 b0 b1
              generalize w4.drew = w5 at *
              have c0 := cell_keep4 HC0.out HR.out.inv.bel; have c1 := cell_keep4 HC1.out HR.out.inv.bel; have c2 := cell_keep4 HC2.out HR.out.inv.bel; have c3 := cell_keep4 HC3.out HR.out.inv.bel; have b0 := cell_of HR.out.box 0 rfl; have b1 := cell_of HR.out.box 1 rfl
              go_wp2_with (first | (go_at_call 8; ((with_reducible refine (HPT.out _ HR.out.inv.tab (HBY.out.below HR.out.inv.bel)).mono ?_); rintro e w4 ⟨rfl, ht, hk⟩; have HM4 := Lib.hid (RdInv.keeps HR.out hk); have HT4 := Lib.hid ht; clear c0 c1 c2 c3 b0 b1 ht hk HR; have c3 := cell_keep4 HC3.out HM4.out.mid.bel)) | fail)
              have HMD := Lib.hid (RdMid.below HM4.out (Below.drew (Below.refl _ _)))
              have HTD : Hid (∀ pa pc, T w4.drew base B (putV vs ⟨pa, pc, L, x.bits, x.own⟩)) := Lib.hid (fun pa pc => HTC.out.below _ _ _ _ _ (HT4.out pa pc) (Below.drew (Below.refl _ _)))
              refine wp_region_held_drew (S := (fun W => W.cell? ⟨b, off + k * 4 + 3, none⟩ = some (.int .i64 x.own) ∧ W.cell? ⟨bx, 0, none⟩ = some (.slice x.ad x.adr.length x.cp) ∧ W.cell? ⟨bx, 1, none⟩ = some (.int .i64 x.bits))) (by kernel_rfl) ?_ (fun hHeld0 => ?_)
              · (try dsimp only); exact ⟨cell_keep4 HC3.out HMD.out.mid.bel, cell_of HMD.out.box 0 rfl, cell_of HMD.out.box 1 rfl⟩
              first
              | (refine wpAnyH_take (i := 0) (oi := { dst := some 82, op := Go.Op.move (Go.Operand.tmp 6), type := 27, pos := "law.go:80", after := #[], guard := none }) (v := ?_) rfl (by kernel_rfl) (by kernel_rfl) (by kernel_rfl) (fun _ _ _ h => h) (Or.inl ⟨by rfl, ?_⟩) hHeld0 ?_
                 rotate_left
                 · ((intro w hSw; (try dsimp only at hSw); go_simp) <;> (first | with_reducible rfl | (rw [if_neg (by omega)]; done))))
              | (refine wpAnyH_take (i := 0) (oi := { dst := some 82, op := Go.Op.move (Go.Operand.tmp 6), type := 27, pos := "law.go:80", after := #[], guard := none }) (v := undef) rfl (by kernel_rfl) (by kernel_rfl) (by kernel_rfl) (fun _ _ _ h => h) (Or.inr ⟨by rfl, rfl⟩) hHeld0 ?_)
              try simp only [Act.put, List.setIfInBounds_toArray, List.set_cons_zero, List.set_cons_succ]
              first
              | (refine wpAnyH_take (i := 1) (oi := { dst := some 83, op := Go.Op.load 29 (Go.Operand.tmp 8), type := 29, pos := "law.go:80", after := #[], guard := none }) (v := ?_) rfl (by kernel_rfl) (by kernel_rfl) (by kernel_rfl) (fun _ _ _ h => h) (Or.inl ⟨by rfl, ?_⟩) hHeld0 ?_
                 rotate_left
                 · ((intro w hSw; (try dsimp only at hSw); go_simp) <;> (first | with_reducible rfl | (rw [if_neg (by omega)]; done))))
              | (refine wpAnyH_take (i := 1) (oi := { dst := some 83, op := Go.Op.load 29 (Go.Operand.tmp 8), type := 29, pos := "law.go:80", after := #[], guard := none }) (v := undef) rfl (by kernel_rfl) (by kernel_rfl) (by kernel_rfl) (fun _ _ _ h => h) (Or.inr ⟨by rfl, rfl⟩) hHeld0 ?_)
              try simp only [Act.put, List.setIfInBounds_toArray, List.set_cons_zero, List.set_cons_succ]
              first
              | (refine wpAnyH_take (i := 3) (oi := { dst := some 85, op := Go.Op.move (Go.Operand.tmp 0), type := 22, pos := "law.go:80", after := #[], guard := none }) (v := ?_) rfl (by kernel_rfl) (by kernel_rfl) (by kernel_rfl) (fun _ _ _ h => h) (Or.inl ⟨by rfl, ?_⟩) hHeld0 ?_
                 rotate_left
                 · ((intro w hSw; (try dsimp only at hSw); go_simp) <;> (first | with_reducible rfl | (rw [if_neg (by omega)]; done))))
              | (refine wpAnyH_take (i := 3) (oi := { dst := some 85, op := Go.Op.move (Go.Operand.tmp 0), type := 22, pos := "law.go:80", after := #[], guard := none }) (v := undef) rfl (by kernel_rfl) (by kernel_rfl) (by kernel_rfl) (fun _ _ _ h => h) (Or.inr ⟨by rfl, rfl⟩) hHeld0 ?_)
              try simp only [Act.put, List.setIfInBounds_toArray, List.set_cons_zero, List.set_cons_succ]
              first
              | (refine wpAnyH_take (i := 4) (oi := { dst := some 86, op := Go.Op.move (Go.Operand.tmp 7), type := 3, pos := "law.go:80", after := #[], guard := none }) (v := ?_) rfl (by kernel_rfl) (by kernel_rfl) (by kernel_rfl) (fun _ _ _ h => h) (Or.inl ⟨by rfl, ?_⟩) hHeld0 ?_
                 rotate_left
                 · ((intro w hSw; (try dsimp only at hSw); go_simp) <;> (first | with_reducible rfl | (rw [if_neg (by omega)]; done))))
              | (refine wpAnyH_take (i := 4) (oi := { dst := some 86, op := Go.Op.move (Go.Operand.tmp 7), type := 3, pos := "law.go:80", after := #[], guard := none }) (v := undef) rfl (by kernel_rfl) (by kernel_rfl) (by kernel_rfl) (fun _ _ _ h => h) (Or.inr ⟨by rfl, rfl⟩) hHeld0 ?_)
              try simp only [Act.put, List.setIfInBounds_toArray, List.set_cons_zero, List.set_cons_succ]
              first
              | (refine wpAnyH_take (i := 5) (oi := { dst := some 87, op := Go.Op.indexAddr 22 (Go.Operand.tmp 85) (Go.Operand.tmp 86), type := 0, pos := "law.go:80", after := #[{ on := 3, ground := Go.Ground.data }, { on := 4, ground := Go.Ground.data }], guard := none }) (v := ?_) rfl (by kernel_rfl) (by kernel_rfl) (by kernel_rfl) (fun _ _ _ h => h) (Or.inl ⟨by rfl, ?_⟩) hHeld0 ?_
                 rotate_left
                 · ((intro w hSw; (try dsimp only at hSw); go_simp) <;> (first | with_reducible rfl | (rw [if_neg (by omega)]; done))))
              | (refine wpAnyH_take (i := 5) (oi := { dst := some 87, op := Go.Op.indexAddr 22 (Go.Operand.tmp 85) (Go.Operand.tmp 86), type := 0, pos := "law.go:80", after := #[{ on := 3, ground := Go.Ground.data }, { on := 4, ground := Go.Ground.data }], guard := none }) (v := undef) rfl (by kernel_rfl) (by kernel_rfl) (by kernel_rfl) (fun _ _ _ h => h) (Or.inr ⟨by rfl, rfl⟩) hHeld0 ?_)
              try simp only [Act.put, List.setIfInBounds_toArray, List.set_cons_zero, List.set_cons_succ]
              first
              | (refine wpAnyH_take (i := 6) (oi := { dst := some 88, op := Go.Op.fieldAddr 31 (Go.Operand.tmp 87) 2, type := 0, pos := "law.go:80", after := #[{ on := 5, ground := Go.Ground.data }], guard := none }) (v := ?_) rfl (by kernel_rfl) (by kernel_rfl) (by kernel_rfl) (fun _ _ _ h => h) (Or.inl ⟨by rfl, ?_⟩) hHeld0 ?_
                 rotate_left
                 · ((intro w hSw; (try dsimp only at hSw); go_simp) <;> (first | with_reducible rfl | (rw [if_neg (by omega)]; done))))
              | (refine wpAnyH_take (i := 6) (oi := { dst := some 88, op := Go.Op.fieldAddr 31 (Go.Operand.tmp 87) 2, type := 0, pos := "law.go:80", after := #[{ on := 5, ground := Go.Ground.data }], guard := none }) (v := undef) rfl (by kernel_rfl) (by kernel_rfl) (by kernel_rfl) (fun _ _ _ h => h) (Or.inr ⟨by rfl, rfl⟩) hHeld0 ?_)
              try simp only [Act.put, List.setIfInBounds_toArray, List.set_cons_zero, List.set_cons_succ]
              first
              | (refine wpAnyH_take (i := 7) (oi := { dst := some 89, op := Go.Op.load 3 (Go.Operand.tmp 88), type := 3, pos := "law.go:80", after := #[{ on := 6, ground := Go.Ground.data }], guard := none }) (v := ?_) rfl (by kernel_rfl) (by kernel_rfl) (by kernel_rfl) (fun _ _ _ h => h) (Or.inl ⟨by rfl, ?_⟩) hHeld0 ?_
                 rotate_left
                 · ((intro w hSw; (try dsimp only at hSw); go_simp) <;> (first | with_reducible rfl | (rw [if_neg (by omega)]; done))))
              | (refine wpAnyH_take (i := 7) (oi := { dst := some 89, op := Go.Op.load 3 (Go.Operand.tmp 88), type := 3, pos := "law.go:80", after := #[{ on := 6, ground := Go.Ground.data }], guard := none }) (v := undef) rfl (by kernel_rfl) (by kernel_rfl) (by kernel_rfl) (fun _ _ _ h => h) (Or.inr ⟨by rfl, rfl⟩) hHeld0 ?_)
              try simp only [Act.put, List.setIfInBounds_toArray, List.set_cons_zero, List.set_cons_succ]
              refine wpAnyH_ready (rs := [2]) (by kernel_rfl) (by simp) ?_
              refine AllReadyH.cons (o := { dst := some 84, op := Go.Op.call { callee := Go.Callee.value (Go.Operand.func 10), args := #[Go.Operand.tmp 83], argTypes := #[29] }, type := 29, pos := "law.go:80", after := #[{ on := 1, ground := Go.Ground.data }], guard := none }) rfl (fun Kr2 hK => ?_) AllReadyH.nil
              go_simp
              (go_at_call 10; (with_reducible refine (HPL.out _ (HBY.out.below HMD.out.mid.bel)).mono ?_); rintro e w5 ⟨pa, pc, rfl, hpb, hp1, hp2, hpt, hb⟩; have HPB := Lib.hid hpb; have HPY := Lib.hid hpt; have HM5 := Lib.hid (RdMid.below HMD.out hb); have HT5 := Lib.hid (HTC.out.below _ _ _ _ _ (HTD.out pa pc) hb); clear hb hpb hp1 hp2 hpt)
              refine hK.out _ _ ?_ (fun hHeld1 => ?_)
              · (try dsimp only); exact ⟨cell_keep4 HC3.out HM5.out.mid.bel, cell_of HM5.out.box 0 rfl, cell_of HM5.out.box 1 rfl⟩
              clear hK Kr2 hHeld0
              try simp only [Act.put, List.setIfInBounds_toArray, List.set_cons_zero, List.set_cons_succ]
              refine wpAnyH_ready (rs := [8]) (by kernel_rfl) (by simp) ?_
              refine AllReadyH.cons (o := { dst := some 90, op := Go.Op.call { callee := Go.Callee.value (Go.Operand.func 9), args := #[Go.Operand.tmp 82, Go.Operand.tmp 84, Go.Operand.tmp 89], argTypes := #[27, 29, 3] }, type := 27, pos := "law.go:80", after := #[{ on := 0, ground := Go.Ground.data }, { on := 2, ground := Go.Ground.data }, { on := 7, ground := Go.Ground.data }, { on := 2, ground := Go.Ground.chain }], guard := none }) rfl (fun Kr8 hK => ?_) AllReadyH.nil
              go_simp
              (go_at_call 9; (with_reducible refine (HPU.out _ _ _ HM5.out.mid.row HM5.out.mid.adr HPB.out).mono ?_); rintro e w6 ⟨a2, cap2, rfl, hrow, hb⟩; have HROW := Lib.hid hrow; have HB6 := Lib.hid hb; have HM6 := Lib.hid (RdMid.below HM5.out hb); have HT6 := Lib.hid (HTC.out.below _ _ _ _ _ HT5.out hb); clear hb hrow)
              refine hK.out _ _ ?_ (fun hHeld2 => ?_)
              · (try dsimp only); exact ⟨cell_keep4 HC3.out HM6.out.mid.bel, cell_of HM6.out.box 0 rfl, cell_of HM6.out.box 1 rfl⟩
              clear hK Kr8 hHeld1
              try simp only [Act.put, List.setIfInBounds_toArray, List.set_cons_zero, List.set_cons_succ]
              first
              | (refine wpAnyH_take (i := 9) (oi := { dst := some 6, op := Go.Op.assign (Go.Operand.tmp 90), type := 27, pos := "law.go:80", after := #[{ on := 8, ground := Go.Ground.data }, { on := 8, ground := Go.Ground.chain }, { on := 0, ground := Go.Ground.phase }, { on := 1, ground := Go.Ground.phase }, { on := 2, ground := Go.Ground.phase }, { on := 3, ground := Go.Ground.phase }, { on := 4, ground := Go.Ground.phase }, { on := 5, ground := Go.Ground.phase }, { on := 6, ground := Go.Ground.phase }, { on := 7, ground := Go.Ground.phase }, { on := 8, ground := Go.Ground.phase }], guard := none }) (v := ?_) rfl (by kernel_rfl) (by kernel_rfl) (by kernel_rfl) (fun _ _ _ h => h) (Or.inl ⟨by rfl, ?_⟩) hHeld2 ?_
                 rotate_left
                 · ((intro w hSw; (try dsimp only at hSw); go_simp) <;> (first | with_reducible rfl | (rw [if_neg (by omega)]; done))))
              | (refine wpAnyH_take (i := 9) (oi := { dst := some 6, op := Go.Op.assign (Go.Operand.tmp 90), type := 27, pos := "law.go:80", after := #[{ on := 8, ground := Go.Ground.data }, { on := 8, ground := Go.Ground.chain }, { on := 0, ground := Go.Ground.phase }, { on := 1, ground := Go.Ground.phase }, { on := 2, ground := Go.Ground.phase }, { on := 3, ground := Go.Ground.phase }, { on := 4, ground := Go.Ground.phase }, { on := 5, ground := Go.Ground.phase }, { on := 6, ground := Go.Ground.phase }, { on := 7, ground := Go.Ground.phase }, { on := 8, ground := Go.Ground.phase }], guard := none }) (v := undef) rfl (by kernel_rfl) (by kernel_rfl) (by kernel_rfl) (fun _ _ _ h => h) (Or.inr ⟨by rfl, rfl⟩) hHeld2 ?_)
              try simp only [Act.put, List.setIfInBounds_toArray, List.set_cons_zero, List.set_cons_succ]
              refine wpAnyH_done (by kernel_rfl) ?_ _
              clear hHeld2
              have HR : Hid (RdInv T w w6 base B (putV vs ⟨pa, pc, L, x.bits, x.own⟩) a2 cap2 bx x) := Lib.hid (HM6.out.done HT6.out HROW.out (HM6.out.mid.adr.put (p := ⟨pa, pc, L, x.bits, x.own⟩) (HPB.out.below HB6.out) (HPY.out.below HB6.out)) (fun r hr => by
                rcases putV_mem hr with hr | rfl
                · exact HM6.out.mid.sh r hr
                · exact HLL.out))
              have HVL := Lib.hid (putV_len vs ⟨pa, pc, L, x.bits, x.own⟩)
              clear HT4 HT5 HT6 HTD HM4 HM5 HM6 HMD HROW HPU HPL HPT
              generalize putV vs ⟨pa, pc, L, x.bits, x.own⟩ = vs2 at *
              have HV7 : Hid (vs2.length ≤ 60) := Lib.hid (by have := HVL.out; have := HVK.out; have := HLT.out; have := HN.out; omega)
              have HVK2 : Hid (vs2.length ≤ k + 1) := Lib.hid (by have := HVL.out; have := HVK.out; omega)
              have HSH : Hid (∀ r ∈ vs2, r.adr.length ≤ 1000) := Lib.hid (fun r hr => by have := HR.out.inv.sh r hr; omega)
              obtain ⟨⟨o1, o2⟩, ho12⟩ : ∃ z, z = ownerV vs2 x.adr := ⟨_, rfl⟩
              have HOW := Lib.hid (fun w v h1 h2 => HTC.out.owner w base B vs2 v x.adr h1 HV7.out h2 HL40.out)
              have HRO := Lib.hid (fun a cap w v h1 h2 h3 => rowner_any a cap vs2 v x.adr w h1 h2 h3 (by have := HV7.out; omega) HSH.out (by have := HL40.out; omega))
              unfold OwnerRet at HOW HRO
              rw [← ho12] at HOW HRO
              clear ho12
              have n1 : (o1 != o1) = false := by simp
              have n2 : (o2 != o2) = false := by simp
              have n3 : (o1 == o1) = true := by simp
              have c0 := cell_keep4 HC0.out HR.out.inv.bel; have c1 := cell_keep4 HC1.out HR.out.inv.bel; have c2 := cell_keep4 HC2.out HR.out.inv.bel; have c3 := cell_keep4 HC3.out HR.out.inv.bel; have b0 := cell_of HR.out.box 0 rfl; have b1 := cell_of HR.out.box 1 rfl
              go_wp2_with (first | (go_at_call 15; ((with_reducible refine (HOW.out _ _ HR.out.inv.tab (HBY.out.below HR.out.inv.bel)).mono ?_); rintro e w4 ⟨rfl, hb⟩; have HR := Lib.hid (RdInv.below HTC.out HR.out hb); clear c0 c1 c2 c3 b0 b1; have c0 := cell_keep4 HC0.out HR.out.inv.bel; have c1 := cell_keep4 HC1.out HR.out.inv.bel; have c2 := cell_keep4 HC2.out HR.out.inv.bel; have c3 := cell_keep4 HC3.out HR.out.inv.bel; have b0 := cell_of HR.out.box 0 rfl; have b1 := cell_of HR.out.box 1 rfl; clear hb)) | (go_at_call 16; ((with_reducible refine (HRO.out _ _ _ _ HR.out.inv.row HR.out.inv.adr (HBY.out.below HR.out.inv.bel)).mono ?_); rintro e w4 ⟨rfl, hb⟩; have HR := Lib.hid (RdInv.below HTC.out HR.out hb); clear c0 c1 c2 c3 b0 b1; have c0 := cell_keep4 HC0.out HR.out.inv.bel; have c1 := cell_keep4 HC1.out HR.out.inv.bel; have c2 := cell_keep4 HC2.out HR.out.inv.bel; have c3 := cell_keep4 HC3.out HR.out.inv.bel; have b0 := cell_of HR.out.box 0 rfl; have b1 := cell_of HR.out.box 1 rfl; clear hb)) | fail)
              go_roundw
              case rel => exact ⟨k + 1, vs2, a2, cap2, by go_num, HLT.out, HVK2.out, rfl, HR.out.inv⟩
              case measure => simp [intOf]; omega
        · have e0 : (x.kind == 0) = false := beqf (by omega)
          have e1 : (x.kind == 1) = false := beqf (by omega)
          have e2 : (x.kind == 2) = true := by simp [hkd]
          have e3 : (x.kind == 3) = false := beqf (by omega)
          have e4 : (x.kind == 4) = false := beqf (by omega)
          clear hkd
          cases rt with
          | false =>
            have HPT := Lib.hid (fun w h1 h2 => HTC.out.putNo w base B vs x.ad x.cp x.adr x.bits x.own h1 HV6.out h2 HL40.out HRTE.out.symm)
            have HSH : Hid (∀ r ∈ vs, r.adr.length ≤ 1000) := Lib.hid (fun r hr => by have := HR.out.inv.sh r hr; omega)
            obtain ⟨⟨o1, o2⟩, ho12⟩ : ∃ z, z = ownerV vs x.adr := ⟨_, rfl⟩
            have HOW := Lib.hid (fun w v h1 h2 => HTC.out.owner w base B vs v x.adr h1 HV6.out h2 HL40.out)
            have HRO := Lib.hid (fun a cap w v h1 h2 h3 => rowner_any a cap vs v x.adr w h1 h2 h3 (by have := HV6.out; omega) HSH.out (by have := HL40.out; omega))
            unfold OwnerRet at HOW HRO
            rw [← ho12] at HOW HRO
            clear ho12
            have n1 : (o1 != o1) = false := by simp
            have n2 : (o2 != o2) = false := by simp
            have n3 : (o1 == o1) = true := by simp
            go_wp2_with (first | (go_at_call 7; ((with_reducible refine (HRT.out _).mono ?_); rintro e w4 ⟨rfl, hb⟩; have HR := Lib.hid (RdInv.below HTC.out HR.out hb); clear c0 c1 c2 c3 b0 b1; have c0 := cell_keep4 HC0.out HR.out.inv.bel; have c1 := cell_keep4 HC1.out HR.out.inv.bel; have c2 := cell_keep4 HC2.out HR.out.inv.bel; have c3 := cell_keep4 HC3.out HR.out.inv.bel; have b0 := cell_of HR.out.box 0 rfl; have b1 := cell_of HR.out.box 1 rfl; clear hb)) | fail)
            go_still_tail 7, (by kernel_rfl)
            have HR := Lib.hid (RdInv.below HTC.out HR.out (Below.drew (Below.refl _ _)))
            change wpList _ _ _ _ _ w4.drew
            clear c0 c1 c2 c3 b0 b1
            generalize w4.drew = w5 at *
            have c0 := cell_keep4 HC0.out HR.out.inv.bel; have c1 := cell_keep4 HC1.out HR.out.inv.bel; have c2 := cell_keep4 HC2.out HR.out.inv.bel; have c3 := cell_keep4 HC3.out HR.out.inv.bel; have b0 := cell_of HR.out.box 0 rfl; have b1 := cell_of HR.out.box 1 rfl
            go_wp2_with (first | (go_at_call 8; ((with_reducible refine (HPT.out _ HR.out.inv.tab (HBY.out.below HR.out.inv.bel)).mono ?_); rintro e w4 ⟨rfl, ht, hk⟩; have HR := Lib.hid (RdMid.same (RdInv.keeps HR.out hk) ht); clear c0 c1 c2 c3 b0 b1; have c0 := cell_keep4 HC0.out HR.out.inv.bel; have c1 := cell_keep4 HC1.out HR.out.inv.bel; have c2 := cell_keep4 HC2.out HR.out.inv.bel; have c3 := cell_keep4 HC3.out HR.out.inv.bel; have b0 := cell_of HR.out.box 0 rfl; have b1 := cell_of HR.out.box 1 rfl; clear ht hk)) | (go_at_call 15; ((with_reducible refine (HOW.out _ _ HR.out.inv.tab (HBY.out.below HR.out.inv.bel)).mono ?_); rintro e w4 ⟨rfl, hb⟩; have HR := Lib.hid (RdInv.below HTC.out HR.out hb); clear c0 c1 c2 c3 b0 b1; have c0 := cell_keep4 HC0.out HR.out.inv.bel; have c1 := cell_keep4 HC1.out HR.out.inv.bel; have c2 := cell_keep4 HC2.out HR.out.inv.bel; have c3 := cell_keep4 HC3.out HR.out.inv.bel; have b0 := cell_of HR.out.box 0 rfl; have b1 := cell_of HR.out.box 1 rfl; clear hb)) | (go_at_call 16; ((with_reducible refine (HRO.out _ _ _ _ HR.out.inv.row HR.out.inv.adr (HBY.out.below HR.out.inv.bel)).mono ?_); rintro e w4 ⟨rfl, hb⟩; have HR := Lib.hid (RdInv.below HTC.out HR.out hb); clear c0 c1 c2 c3 b0 b1; have c0 := cell_keep4 HC0.out HR.out.inv.bel; have c1 := cell_keep4 HC1.out HR.out.inv.bel; have c2 := cell_keep4 HC2.out HR.out.inv.bel; have c3 := cell_keep4 HC3.out HR.out.inv.bel; have b0 := cell_of HR.out.box 0 rfl; have b1 := cell_of HR.out.box 1 rfl; clear hb)) | fail)
            go_roundw
            case rel => exact ⟨k + 1, vs, a, cap, by go_num, HLT.out, Nat.le_succ_of_le HVK.out, rfl, HR.out.inv⟩
            case measure => simp [intOf]; omega
          | true =>
            by_cases hng : x.own < 0
            · have HPT := Lib.hid (fun w h1 h2 => HTC.out.putArg w base B vs x.ad x.cp x.adr x.bits x.own h1 HV6.out h2 HL40.out HRTE.out.symm hng)
              have HSH : Hid (∀ r ∈ vs, r.adr.length ≤ 1000) := Lib.hid (fun r hr => by have := HR.out.inv.sh r hr; omega)
              obtain ⟨⟨o1, o2⟩, ho12⟩ : ∃ z, z = ownerV vs x.adr := ⟨_, rfl⟩
              have HOW := Lib.hid (fun w v h1 h2 => HTC.out.owner w base B vs v x.adr h1 HV6.out h2 HL40.out)
              have HRO := Lib.hid (fun a cap w v h1 h2 h3 => rowner_any a cap vs v x.adr w h1 h2 h3 (by have := HV6.out; omega) HSH.out (by have := HL40.out; omega))
              unfold OwnerRet at HOW HRO
              rw [← ho12] at HOW HRO
              clear ho12
              have n1 : (o1 != o1) = false := by simp
              have n2 : (o2 != o2) = false := by simp
              have n3 : (o1 == o1) = true := by simp
              go_wp2_with (first | (go_at_call 7; ((with_reducible refine (HRT.out _).mono ?_); rintro e w4 ⟨rfl, hb⟩; have HR := Lib.hid (RdInv.below HTC.out HR.out hb); clear c0 c1 c2 c3 b0 b1; have c0 := cell_keep4 HC0.out HR.out.inv.bel; have c1 := cell_keep4 HC1.out HR.out.inv.bel; have c2 := cell_keep4 HC2.out HR.out.inv.bel; have c3 := cell_keep4 HC3.out HR.out.inv.bel; have b0 := cell_of HR.out.box 0 rfl; have b1 := cell_of HR.out.box 1 rfl; clear hb)) | fail)
              go_still_tail 7, (by kernel_rfl)
              have HR := Lib.hid (RdInv.below HTC.out HR.out (Below.drew (Below.refl _ _)))
              change wpList _ _ _ _ _ w4.drew
              clear c0 c1 c2 c3 b0 b1
              generalize w4.drew = w5 at *
              have c0 := cell_keep4 HC0.out HR.out.inv.bel; have c1 := cell_keep4 HC1.out HR.out.inv.bel; have c2 := cell_keep4 HC2.out HR.out.inv.bel; have c3 := cell_keep4 HC3.out HR.out.inv.bel; have b0 := cell_of HR.out.box 0 rfl; have b1 := cell_of HR.out.box 1 rfl
              go_wp2_with (first | (go_at_call 8; ((with_reducible refine (HPT.out _ HR.out.inv.tab (HBY.out.below HR.out.inv.bel)).mono ?_); rintro e w4 ⟨rfl, ht, hk⟩; have HR := Lib.hid (RdMid.same (RdInv.keeps HR.out hk) ht); clear c0 c1 c2 c3 b0 b1; have c0 := cell_keep4 HC0.out HR.out.inv.bel; have c1 := cell_keep4 HC1.out HR.out.inv.bel; have c2 := cell_keep4 HC2.out HR.out.inv.bel; have c3 := cell_keep4 HC3.out HR.out.inv.bel; have b0 := cell_of HR.out.box 0 rfl; have b1 := cell_of HR.out.box 1 rfl; clear ht hk)) | (go_at_call 15; ((with_reducible refine (HOW.out _ _ HR.out.inv.tab (HBY.out.below HR.out.inv.bel)).mono ?_); rintro e w4 ⟨rfl, hb⟩; have HR := Lib.hid (RdInv.below HTC.out HR.out hb); clear c0 c1 c2 c3 b0 b1; have c0 := cell_keep4 HC0.out HR.out.inv.bel; have c1 := cell_keep4 HC1.out HR.out.inv.bel; have c2 := cell_keep4 HC2.out HR.out.inv.bel; have c3 := cell_keep4 HC3.out HR.out.inv.bel; have b0 := cell_of HR.out.box 0 rfl; have b1 := cell_of HR.out.box 1 rfl; clear hb)) | (go_at_call 16; ((with_reducible refine (HRO.out _ _ _ _ HR.out.inv.row HR.out.inv.adr (HBY.out.below HR.out.inv.bel)).mono ?_); rintro e w4 ⟨rfl, hb⟩; have HR := Lib.hid (RdInv.below HTC.out HR.out hb); clear c0 c1 c2 c3 b0 b1; have c0 := cell_keep4 HC0.out HR.out.inv.bel; have c1 := cell_keep4 HC1.out HR.out.inv.bel; have c2 := cell_keep4 HC2.out HR.out.inv.bel; have c3 := cell_keep4 HC3.out HR.out.inv.bel; have b0 := cell_of HR.out.box 0 rfl; have b1 := cell_of HR.out.box 1 rfl; clear hb)) | fail)
              go_roundw
              case rel => exact ⟨k + 1, vs, a, cap, by go_num, HLT.out, Nat.le_succ_of_le HVK.out, rfl, HR.out.inv⟩
              case measure => simp [intOf]; omega
            · have HPT := Lib.hid (fun w h1 h2 => HTC.out.put w base B vs x.ad x.cp x.adr x.bits x.own h1 HV6.out h2 HL40.out HRTE.out.symm hng)
              obtain ⟨q1, q2, q3⟩ := right_len HRTE.out.symm
              have HPL := Lib.hid (fun w h => rplain_typ x.adr x.ad x.cp x.bits w h (by have := HL40.out; omega) q2 q3)
              have hLl := plainS_len x.adr x.bits.toNat
              unfold PlainRetT at HPL
              generalize plainS x.adr x.bits.toNat = L at *
              have HLL : Hid (L.length ≤ 40) := Lib.hid (by have := HL40.out; omega)
              have HPU := Lib.hid (fun pa pc w h1 h2 h3 => rput_any a cap vs pa pc L x.bits x.own w h1 h2 h3 (by have := HV6.out; omega))
              unfold RowsRet at HPU
              clear hLl q1 q2 q3
              go_wp2_with (first | (go_at_call 7; ((with_reducible refine (HRT.out _).mono ?_); rintro e w4 ⟨rfl, hb⟩; have HR := Lib.hid (RdInv.below HTC.out HR.out hb); clear c0 c1 c2 c3 b0 b1; have c0 := cell_keep4 HC0.out HR.out.inv.bel; have c1 := cell_keep4 HC1.out HR.out.inv.bel; have c2 := cell_keep4 HC2.out HR.out.inv.bel; have c3 := cell_keep4 HC3.out HR.out.inv.bel; have b0 := cell_of HR.out.box 0 rfl; have b1 := cell_of HR.out.box 1 rfl; clear hb)) | fail)
              go_still_tail 7, (by kernel_rfl)
              have HR := Lib.hid (RdInv.below HTC.out HR.out (Below.drew (Below.refl _ _)))
              change wpList _ _ _ _ _ w4.drew
              clear c0 c1 c2 c3 b0 b1
              generalize w4.drew = w5 at *
              have c0 := cell_keep4 HC0.out HR.out.inv.bel; have c1 := cell_keep4 HC1.out HR.out.inv.bel; have c2 := cell_keep4 HC2.out HR.out.inv.bel; have c3 := cell_keep4 HC3.out HR.out.inv.bel; have b0 := cell_of HR.out.box 0 rfl; have b1 := cell_of HR.out.box 1 rfl
              go_wp2_with (first | (go_at_call 8; ((with_reducible refine (HPT.out _ HR.out.inv.tab (HBY.out.below HR.out.inv.bel)).mono ?_); rintro e w4 ⟨rfl, ht, hk⟩; have HM4 := Lib.hid (RdInv.keeps HR.out hk); have HT4 := Lib.hid ht; clear c0 c1 c2 c3 b0 b1 ht hk HR; have c3 := cell_keep4 HC3.out HM4.out.mid.bel)) | fail)
              have HMD := Lib.hid (RdMid.below HM4.out (Below.drew (Below.refl _ _)))
              have HTD : Hid (∀ pa pc, T w4.drew base B (putV vs ⟨pa, pc, L, x.bits, x.own⟩)) := Lib.hid (fun pa pc => HTC.out.below _ _ _ _ _ (HT4.out pa pc) (Below.drew (Below.refl _ _)))
              refine wp_region_held_drew (S := (fun W => W.cell? ⟨b, off + k * 4 + 3, none⟩ = some (.int .i64 x.own) ∧ W.cell? ⟨bx, 0, none⟩ = some (.slice x.ad x.adr.length x.cp) ∧ W.cell? ⟨bx, 1, none⟩ = some (.int .i64 x.bits))) (by kernel_rfl) ?_ (fun hHeld0 => ?_)
              · (try dsimp only); exact ⟨cell_keep4 HC3.out HMD.out.mid.bel, cell_of HMD.out.box 0 rfl, cell_of HMD.out.box 1 rfl⟩
              first
              | (refine wpAnyH_take (i := 0) (oi := { dst := some 82, op := Go.Op.move (Go.Operand.tmp 6), type := 27, pos := "law.go:80", after := #[], guard := none }) (v := ?_) rfl (by kernel_rfl) (by kernel_rfl) (by kernel_rfl) (fun _ _ _ h => h) (Or.inl ⟨by rfl, ?_⟩) hHeld0 ?_
                 rotate_left
                 · ((intro w hSw; (try dsimp only at hSw); go_simp) <;> (first | with_reducible rfl | (rw [if_neg (by omega)]; done))))
              | (refine wpAnyH_take (i := 0) (oi := { dst := some 82, op := Go.Op.move (Go.Operand.tmp 6), type := 27, pos := "law.go:80", after := #[], guard := none }) (v := undef) rfl (by kernel_rfl) (by kernel_rfl) (by kernel_rfl) (fun _ _ _ h => h) (Or.inr ⟨by rfl, rfl⟩) hHeld0 ?_)
              try simp only [Act.put, List.setIfInBounds_toArray, List.set_cons_zero, List.set_cons_succ]
              first
              | (refine wpAnyH_take (i := 1) (oi := { dst := some 83, op := Go.Op.load 29 (Go.Operand.tmp 8), type := 29, pos := "law.go:80", after := #[], guard := none }) (v := ?_) rfl (by kernel_rfl) (by kernel_rfl) (by kernel_rfl) (fun _ _ _ h => h) (Or.inl ⟨by rfl, ?_⟩) hHeld0 ?_
                 rotate_left
                 · ((intro w hSw; (try dsimp only at hSw); go_simp) <;> (first | with_reducible rfl | (rw [if_neg (by omega)]; done))))
              | (refine wpAnyH_take (i := 1) (oi := { dst := some 83, op := Go.Op.load 29 (Go.Operand.tmp 8), type := 29, pos := "law.go:80", after := #[], guard := none }) (v := undef) rfl (by kernel_rfl) (by kernel_rfl) (by kernel_rfl) (fun _ _ _ h => h) (Or.inr ⟨by rfl, rfl⟩) hHeld0 ?_)
              try simp only [Act.put, List.setIfInBounds_toArray, List.set_cons_zero, List.set_cons_succ]
              first
              | (refine wpAnyH_take (i := 3) (oi := { dst := some 85, op := Go.Op.move (Go.Operand.tmp 0), type := 22, pos := "law.go:80", after := #[], guard := none }) (v := ?_) rfl (by kernel_rfl) (by kernel_rfl) (by kernel_rfl) (fun _ _ _ h => h) (Or.inl ⟨by rfl, ?_⟩) hHeld0 ?_
                 rotate_left
                 · ((intro w hSw; (try dsimp only at hSw); go_simp) <;> (first | with_reducible rfl | (rw [if_neg (by omega)]; done))))
              | (refine wpAnyH_take (i := 3) (oi := { dst := some 85, op := Go.Op.move (Go.Operand.tmp 0), type := 22, pos := "law.go:80", after := #[], guard := none }) (v := undef) rfl (by kernel_rfl) (by kernel_rfl) (by kernel_rfl) (fun _ _ _ h => h) (Or.inr ⟨by rfl, rfl⟩) hHeld0 ?_)
              try simp only [Act.put, List.setIfInBounds_toArray, List.set_cons_zero, List.set_cons_succ]
              first
              | (refine wpAnyH_take (i := 4) (oi := { dst := some 86, op := Go.Op.move (Go.Operand.tmp 7), type := 3, pos := "law.go:80", after := #[], guard := none }) (v := ?_) rfl (by kernel_rfl) (by kernel_rfl) (by kernel_rfl) (fun _ _ _ h => h) (Or.inl ⟨by rfl, ?_⟩) hHeld0 ?_
                 rotate_left
                 · ((intro w hSw; (try dsimp only at hSw); go_simp) <;> (first | with_reducible rfl | (rw [if_neg (by omega)]; done))))
              | (refine wpAnyH_take (i := 4) (oi := { dst := some 86, op := Go.Op.move (Go.Operand.tmp 7), type := 3, pos := "law.go:80", after := #[], guard := none }) (v := undef) rfl (by kernel_rfl) (by kernel_rfl) (by kernel_rfl) (fun _ _ _ h => h) (Or.inr ⟨by rfl, rfl⟩) hHeld0 ?_)
              try simp only [Act.put, List.setIfInBounds_toArray, List.set_cons_zero, List.set_cons_succ]
              first
              | (refine wpAnyH_take (i := 5) (oi := { dst := some 87, op := Go.Op.indexAddr 22 (Go.Operand.tmp 85) (Go.Operand.tmp 86), type := 0, pos := "law.go:80", after := #[{ on := 3, ground := Go.Ground.data }, { on := 4, ground := Go.Ground.data }], guard := none }) (v := ?_) rfl (by kernel_rfl) (by kernel_rfl) (by kernel_rfl) (fun _ _ _ h => h) (Or.inl ⟨by rfl, ?_⟩) hHeld0 ?_
                 rotate_left
                 · ((intro w hSw; (try dsimp only at hSw); go_simp) <;> (first | with_reducible rfl | (rw [if_neg (by omega)]; done))))
              | (refine wpAnyH_take (i := 5) (oi := { dst := some 87, op := Go.Op.indexAddr 22 (Go.Operand.tmp 85) (Go.Operand.tmp 86), type := 0, pos := "law.go:80", after := #[{ on := 3, ground := Go.Ground.data }, { on := 4, ground := Go.Ground.data }], guard := none }) (v := undef) rfl (by kernel_rfl) (by kernel_rfl) (by kernel_rfl) (fun _ _ _ h => h) (Or.inr ⟨by rfl, rfl⟩) hHeld0 ?_)
              try simp only [Act.put, List.setIfInBounds_toArray, List.set_cons_zero, List.set_cons_succ]
              first
              | (refine wpAnyH_take (i := 6) (oi := { dst := some 88, op := Go.Op.fieldAddr 31 (Go.Operand.tmp 87) 2, type := 0, pos := "law.go:80", after := #[{ on := 5, ground := Go.Ground.data }], guard := none }) (v := ?_) rfl (by kernel_rfl) (by kernel_rfl) (by kernel_rfl) (fun _ _ _ h => h) (Or.inl ⟨by rfl, ?_⟩) hHeld0 ?_
                 rotate_left
                 · ((intro w hSw; (try dsimp only at hSw); go_simp) <;> (first | with_reducible rfl | (rw [if_neg (by omega)]; done))))
              | (refine wpAnyH_take (i := 6) (oi := { dst := some 88, op := Go.Op.fieldAddr 31 (Go.Operand.tmp 87) 2, type := 0, pos := "law.go:80", after := #[{ on := 5, ground := Go.Ground.data }], guard := none }) (v := undef) rfl (by kernel_rfl) (by kernel_rfl) (by kernel_rfl) (fun _ _ _ h => h) (Or.inr ⟨by rfl, rfl⟩) hHeld0 ?_)
              try simp only [Act.put, List.setIfInBounds_toArray, List.set_cons_zero, List.set_cons_succ]
              first
              | (refine wpAnyH_take (i := 7) (oi := { dst := some 89, op := Go.Op.load 3 (Go.Operand.tmp 88), type := 3, pos := "law.go:80", after := #[{ on := 6, ground := Go.Ground.data }], guard := none }) (v := ?_) rfl (by kernel_rfl) (by kernel_rfl) (by kernel_rfl) (fun _ _ _ h => h) (Or.inl ⟨by rfl, ?_⟩) hHeld0 ?_
                 rotate_left
                 · ((intro w hSw; (try dsimp only at hSw); go_simp) <;> (first | with_reducible rfl | (rw [if_neg (by omega)]; done))))
              | (refine wpAnyH_take (i := 7) (oi := { dst := some 89, op := Go.Op.load 3 (Go.Operand.tmp 88), type := 3, pos := "law.go:80", after := #[{ on := 6, ground := Go.Ground.data }], guard := none }) (v := undef) rfl (by kernel_rfl) (by kernel_rfl) (by kernel_rfl) (fun _ _ _ h => h) (Or.inr ⟨by rfl, rfl⟩) hHeld0 ?_)
              try simp only [Act.put, List.setIfInBounds_toArray, List.set_cons_zero, List.set_cons_succ]
              refine wpAnyH_ready (rs := [2]) (by kernel_rfl) (by simp) ?_
              refine AllReadyH.cons (o := { dst := some 84, op := Go.Op.call { callee := Go.Callee.value (Go.Operand.func 10), args := #[Go.Operand.tmp 83], argTypes := #[29] }, type := 29, pos := "law.go:80", after := #[{ on := 1, ground := Go.Ground.data }], guard := none }) rfl (fun Kr2 hK => ?_) AllReadyH.nil
              go_simp
              (go_at_call 10; (with_reducible refine (HPL.out _ (HBY.out.below HMD.out.mid.bel)).mono ?_); rintro e w5 ⟨pa, pc, rfl, hpb, hp1, hp2, hpt, hb⟩; have HPB := Lib.hid hpb; have HPY := Lib.hid hpt; have HM5 := Lib.hid (RdMid.below HMD.out hb); have HT5 := Lib.hid (HTC.out.below _ _ _ _ _ (HTD.out pa pc) hb); clear hb hpb hp1 hp2 hpt)
              refine hK.out _ _ ?_ (fun hHeld1 => ?_)
              · (try dsimp only); exact ⟨cell_keep4 HC3.out HM5.out.mid.bel, cell_of HM5.out.box 0 rfl, cell_of HM5.out.box 1 rfl⟩
              clear hK Kr2 hHeld0
              try simp only [Act.put, List.setIfInBounds_toArray, List.set_cons_zero, List.set_cons_succ]
              refine wpAnyH_ready (rs := [8]) (by kernel_rfl) (by simp) ?_
              refine AllReadyH.cons (o := { dst := some 90, op := Go.Op.call { callee := Go.Callee.value (Go.Operand.func 9), args := #[Go.Operand.tmp 82, Go.Operand.tmp 84, Go.Operand.tmp 89], argTypes := #[27, 29, 3] }, type := 27, pos := "law.go:80", after := #[{ on := 0, ground := Go.Ground.data }, { on := 2, ground := Go.Ground.data }, { on := 7, ground := Go.Ground.data }, { on := 2, ground := Go.Ground.chain }], guard := none }) rfl (fun Kr8 hK => ?_) AllReadyH.nil
              go_simp
              (go_at_call 9; (with_reducible refine (HPU.out _ _ _ HM5.out.mid.row HM5.out.mid.adr HPB.out).mono ?_); rintro e w6 ⟨a2, cap2, rfl, hrow, hb⟩; have HROW := Lib.hid hrow; have HB6 := Lib.hid hb; have HM6 := Lib.hid (RdMid.below HM5.out hb); have HT6 := Lib.hid (HTC.out.below _ _ _ _ _ HT5.out hb); clear hb hrow)
              refine hK.out _ _ ?_ (fun hHeld2 => ?_)
              · (try dsimp only); exact ⟨cell_keep4 HC3.out HM6.out.mid.bel, cell_of HM6.out.box 0 rfl, cell_of HM6.out.box 1 rfl⟩
              clear hK Kr8 hHeld1
              try simp only [Act.put, List.setIfInBounds_toArray, List.set_cons_zero, List.set_cons_succ]
              first
              | (refine wpAnyH_take (i := 9) (oi := { dst := some 6, op := Go.Op.assign (Go.Operand.tmp 90), type := 27, pos := "law.go:80", after := #[{ on := 8, ground := Go.Ground.data }, { on := 8, ground := Go.Ground.chain }, { on := 0, ground := Go.Ground.phase }, { on := 1, ground := Go.Ground.phase }, { on := 2, ground := Go.Ground.phase }, { on := 3, ground := Go.Ground.phase }, { on := 4, ground := Go.Ground.phase }, { on := 5, ground := Go.Ground.phase }, { on := 6, ground := Go.Ground.phase }, { on := 7, ground := Go.Ground.phase }, { on := 8, ground := Go.Ground.phase }], guard := none }) (v := ?_) rfl (by kernel_rfl) (by kernel_rfl) (by kernel_rfl) (fun _ _ _ h => h) (Or.inl ⟨by rfl, ?_⟩) hHeld2 ?_
                 rotate_left
                 · ((intro w hSw; (try dsimp only at hSw); go_simp) <;> (first | with_reducible rfl | (rw [if_neg (by omega)]; done))))
              | (refine wpAnyH_take (i := 9) (oi := { dst := some 6, op := Go.Op.assign (Go.Operand.tmp 90), type := 27, pos := "law.go:80", after := #[{ on := 8, ground := Go.Ground.data }, { on := 8, ground := Go.Ground.chain }, { on := 0, ground := Go.Ground.phase }, { on := 1, ground := Go.Ground.phase }, { on := 2, ground := Go.Ground.phase }, { on := 3, ground := Go.Ground.phase }, { on := 4, ground := Go.Ground.phase }, { on := 5, ground := Go.Ground.phase }, { on := 6, ground := Go.Ground.phase }, { on := 7, ground := Go.Ground.phase }, { on := 8, ground := Go.Ground.phase }], guard := none }) (v := undef) rfl (by kernel_rfl) (by kernel_rfl) (by kernel_rfl) (fun _ _ _ h => h) (Or.inr ⟨by rfl, rfl⟩) hHeld2 ?_)
              try simp only [Act.put, List.setIfInBounds_toArray, List.set_cons_zero, List.set_cons_succ]
              refine wpAnyH_done (by kernel_rfl) ?_ _
              clear hHeld2
              have HR : Hid (RdInv T w w6 base B (putV vs ⟨pa, pc, L, x.bits, x.own⟩) a2 cap2 bx x) := Lib.hid (HM6.out.done HT6.out HROW.out (HM6.out.mid.adr.put (p := ⟨pa, pc, L, x.bits, x.own⟩) (HPB.out.below HB6.out) (HPY.out.below HB6.out)) (fun r hr => by
                rcases putV_mem hr with hr | rfl
                · exact HM6.out.mid.sh r hr
                · exact HLL.out))
              have HVL := Lib.hid (putV_len vs ⟨pa, pc, L, x.bits, x.own⟩)
              clear HT4 HT5 HT6 HTD HM4 HM5 HM6 HMD HROW HPU HPL HPT
              generalize putV vs ⟨pa, pc, L, x.bits, x.own⟩ = vs2 at *
              have HV7 : Hid (vs2.length ≤ 60) := Lib.hid (by have := HVL.out; have := HVK.out; have := HLT.out; have := HN.out; omega)
              have HVK2 : Hid (vs2.length ≤ k + 1) := Lib.hid (by have := HVL.out; have := HVK.out; omega)
              have HSH : Hid (∀ r ∈ vs2, r.adr.length ≤ 1000) := Lib.hid (fun r hr => by have := HR.out.inv.sh r hr; omega)
              obtain ⟨⟨o1, o2⟩, ho12⟩ : ∃ z, z = ownerV vs2 x.adr := ⟨_, rfl⟩
              have HOW := Lib.hid (fun w v h1 h2 => HTC.out.owner w base B vs2 v x.adr h1 HV7.out h2 HL40.out)
              have HRO := Lib.hid (fun a cap w v h1 h2 h3 => rowner_any a cap vs2 v x.adr w h1 h2 h3 (by have := HV7.out; omega) HSH.out (by have := HL40.out; omega))
              unfold OwnerRet at HOW HRO
              rw [← ho12] at HOW HRO
              clear ho12
              have n1 : (o1 != o1) = false := by simp
              have n2 : (o2 != o2) = false := by simp
              have n3 : (o1 == o1) = true := by simp
              have c0 := cell_keep4 HC0.out HR.out.inv.bel; have c1 := cell_keep4 HC1.out HR.out.inv.bel; have c2 := cell_keep4 HC2.out HR.out.inv.bel; have c3 := cell_keep4 HC3.out HR.out.inv.bel; have b0 := cell_of HR.out.box 0 rfl; have b1 := cell_of HR.out.box 1 rfl
              go_wp2_with (first | (go_at_call 15; ((with_reducible refine (HOW.out _ _ HR.out.inv.tab (HBY.out.below HR.out.inv.bel)).mono ?_); rintro e w4 ⟨rfl, hb⟩; have HR := Lib.hid (RdInv.below HTC.out HR.out hb); clear c0 c1 c2 c3 b0 b1; have c0 := cell_keep4 HC0.out HR.out.inv.bel; have c1 := cell_keep4 HC1.out HR.out.inv.bel; have c2 := cell_keep4 HC2.out HR.out.inv.bel; have c3 := cell_keep4 HC3.out HR.out.inv.bel; have b0 := cell_of HR.out.box 0 rfl; have b1 := cell_of HR.out.box 1 rfl; clear hb)) | (go_at_call 16; ((with_reducible refine (HRO.out _ _ _ _ HR.out.inv.row HR.out.inv.adr (HBY.out.below HR.out.inv.bel)).mono ?_); rintro e w4 ⟨rfl, hb⟩; have HR := Lib.hid (RdInv.below HTC.out HR.out hb); clear c0 c1 c2 c3 b0 b1; have c0 := cell_keep4 HC0.out HR.out.inv.bel; have c1 := cell_keep4 HC1.out HR.out.inv.bel; have c2 := cell_keep4 HC2.out HR.out.inv.bel; have c3 := cell_keep4 HC3.out HR.out.inv.bel; have b0 := cell_of HR.out.box 0 rfl; have b1 := cell_of HR.out.box 1 rfl; clear hb)) | fail)
              go_roundw
              case rel => exact ⟨k + 1, vs2, a2, cap2, by go_num, HLT.out, HVK2.out, rfl, HR.out.inv⟩
              case measure => simp [intOf]; omega
        · have e0 : (x.kind == 0) = false := beqf (by omega)
          have e1 : (x.kind == 1) = false := beqf (by omega)
          have e2 : (x.kind == 2) = false := beqf (by omega)
          have e3 : (x.kind == 3) = true := by simp [hkd]
          have e4 : (x.kind == 4) = false := beqf (by omega)
          clear hkd
          cases rt with
          | false =>
            have HDP := Lib.hid (fun w h1 h2 => HTC.out.delNo w base B vs x.ad x.cp x.adr x.bits h1 HV6.out h2 HL40.out HRTE.out.symm)
            have HSH : Hid (∀ r ∈ vs, r.adr.length ≤ 1000) := Lib.hid (fun r hr => by have := HR.out.inv.sh r hr; omega)
            obtain ⟨⟨o1, o2⟩, ho12⟩ : ∃ z, z = ownerV vs x.adr := ⟨_, rfl⟩
            have HOW := Lib.hid (fun w v h1 h2 => HTC.out.owner w base B vs v x.adr h1 HV6.out h2 HL40.out)
            have HRO := Lib.hid (fun a cap w v h1 h2 h3 => rowner_any a cap vs v x.adr w h1 h2 h3 (by have := HV6.out; omega) HSH.out (by have := HL40.out; omega))
            unfold OwnerRet at HOW HRO
            rw [← ho12] at HOW HRO
            clear ho12
            have n1 : (o1 != o1) = false := by simp
            have n2 : (o2 != o2) = false := by simp
            have n3 : (o1 == o1) = true := by simp
            go_wp2_with (first | (go_at_call 7; ((with_reducible refine (HRT.out _).mono ?_); rintro e w4 ⟨rfl, hb⟩; have HR := Lib.hid (RdInv.below HTC.out HR.out hb); clear c0 c1 c2 c3 b0 b1; have c0 := cell_keep4 HC0.out HR.out.inv.bel; have c1 := cell_keep4 HC1.out HR.out.inv.bel; have c2 := cell_keep4 HC2.out HR.out.inv.bel; have c3 := cell_keep4 HC3.out HR.out.inv.bel; have b0 := cell_of HR.out.box 0 rfl; have b1 := cell_of HR.out.box 1 rfl; clear hb)) | (go_at_call 12; ((with_reducible refine (HDP.out _ HR.out.inv.tab (HBY.out.below HR.out.inv.bel)).mono ?_); rintro e w4 ⟨rfl, ht, hk⟩; have HR := Lib.hid (RdMid.same (RdInv.keeps HR.out hk) ht); clear c0 c1 c2 c3 b0 b1; have c0 := cell_keep4 HC0.out HR.out.inv.bel; have c1 := cell_keep4 HC1.out HR.out.inv.bel; have c2 := cell_keep4 HC2.out HR.out.inv.bel; have c3 := cell_keep4 HC3.out HR.out.inv.bel; have b0 := cell_of HR.out.box 0 rfl; have b1 := cell_of HR.out.box 1 rfl; clear ht hk)) | (go_at_call 15; ((with_reducible refine (HOW.out _ _ HR.out.inv.tab (HBY.out.below HR.out.inv.bel)).mono ?_); rintro e w4 ⟨rfl, hb⟩; have HR := Lib.hid (RdInv.below HTC.out HR.out hb); clear c0 c1 c2 c3 b0 b1; have c0 := cell_keep4 HC0.out HR.out.inv.bel; have c1 := cell_keep4 HC1.out HR.out.inv.bel; have c2 := cell_keep4 HC2.out HR.out.inv.bel; have c3 := cell_keep4 HC3.out HR.out.inv.bel; have b0 := cell_of HR.out.box 0 rfl; have b1 := cell_of HR.out.box 1 rfl; clear hb)) | (go_at_call 16; ((with_reducible refine (HRO.out _ _ _ _ HR.out.inv.row HR.out.inv.adr (HBY.out.below HR.out.inv.bel)).mono ?_); rintro e w4 ⟨rfl, hb⟩; have HR := Lib.hid (RdInv.below HTC.out HR.out hb); clear c0 c1 c2 c3 b0 b1; have c0 := cell_keep4 HC0.out HR.out.inv.bel; have c1 := cell_keep4 HC1.out HR.out.inv.bel; have c2 := cell_keep4 HC2.out HR.out.inv.bel; have c3 := cell_keep4 HC3.out HR.out.inv.bel; have b0 := cell_of HR.out.box 0 rfl; have b1 := cell_of HR.out.box 1 rfl; clear hb)) | fail)
            go_roundw
            case rel => exact ⟨k + 1, vs, a, cap, by go_num, HLT.out, Nat.le_succ_of_le HVK.out, rfl, HR.out.inv⟩
            case measure => simp [intOf]; omega
          | true =>
            have HDP := Lib.hid (fun w h1 h2 => HTC.out.del w base B vs x.ad x.cp x.adr x.bits h1 HV6.out h2 HL40.out HRTE.out.symm)
            obtain ⟨q1, q2, q3⟩ := right_len HRTE.out.symm
            have HPL := Lib.hid (fun w h => rplain_typ x.adr x.ad x.cp x.bits w h (by have := HL40.out; omega) q2 q3)
            unfold PlainRetT at HPL
            generalize plainS x.adr x.bits.toNat = L at *
            have HRD := Lib.hid (fun pa pc w h1 h2 h3 => rdel_any a cap vs pa pc L x.bits w h1 h2 h3 (by have := HV6.out; omega))
            unfold DelRet at HRD
            have HSUB := Lib.hid (delV_sub vs L x.bits)
            have HVL := Lib.hid (delV_len vs L x.bits)
            clear q1 q2 q3
            generalize delV vs L x.bits = D at *
            obtain ⟨vs2, was⟩ := D
            dsimp only at HRD HSUB HVL HDP
            have m1 : (was != was) = false := by simp
            have m2 : (was == was) = true := by simp
            have HV7 : Hid (vs2.length ≤ 60) := Lib.hid (by have := HVL.out; have := HV6.out; omega)
            have HVK2 : Hid (vs2.length ≤ k + 1) := Lib.hid (by have := HVL.out; have := HVK.out; omega)
            have HSH : Hid (∀ r ∈ vs2, r.adr.length ≤ 1000) := Lib.hid (fun r hr => by have := HR.out.inv.sh r (HSUB.out r hr); omega)
            obtain ⟨⟨o1, o2⟩, ho12⟩ : ∃ z, z = ownerV vs2 x.adr := ⟨_, rfl⟩
            have HOW := Lib.hid (fun w v h1 h2 => HTC.out.owner w base B vs2 v x.adr h1 HV7.out h2 HL40.out)
            have HRO := Lib.hid (fun a cap w v h1 h2 h3 => rowner_any a cap vs2 v x.adr w h1 h2 h3 (by have := HV7.out; omega) HSH.out (by have := HL40.out; omega))
            unfold OwnerRet at HOW HRO
            rw [← ho12] at HOW HRO
            clear ho12
            have n1 : (o1 != o1) = false := by simp
            have n2 : (o2 != o2) = false := by simp
            have n3 : (o1 == o1) = true := by simp
            go_wp2_with (first | (go_at_call 7; ((with_reducible refine (HRT.out _).mono ?_); rintro e w4 ⟨rfl, hb⟩; have HR := Lib.hid (RdInv.below HTC.out HR.out hb); clear c0 c1 c2 c3 b0 b1; have c0 := cell_keep4 HC0.out HR.out.inv.bel; have c1 := cell_keep4 HC1.out HR.out.inv.bel; have c2 := cell_keep4 HC2.out HR.out.inv.bel; have c3 := cell_keep4 HC3.out HR.out.inv.bel; have b0 := cell_of HR.out.box 0 rfl; have b1 := cell_of HR.out.box 1 rfl; clear hb)) | (go_at_call 10; ((with_reducible refine (HPL.out _ (HBY.out.below HR.out.inv.bel)).mono ?_); rintro e w4 ⟨pa, pc, rfl, hpb, hp1, hp2, hpt, hb⟩; have HPB := Lib.hid hpb; have HPY := Lib.hid hpt; have HR := Lib.hid (RdInv.below HTC.out HR.out hb); clear c0 c1 c2 c3 b0 b1; have c0 := cell_keep4 HC0.out HR.out.inv.bel; have c1 := cell_keep4 HC1.out HR.out.inv.bel; have c2 := cell_keep4 HC2.out HR.out.inv.bel; have c3 := cell_keep4 HC3.out HR.out.inv.bel; have b0 := cell_of HR.out.box 0 rfl; have b1 := cell_of HR.out.box 1 rfl; clear hb hpb hp1 hp2 hpt)) | (go_at_call 11; ((with_reducible refine (HRD.out _ _ _ HR.out.inv.row HR.out.inv.adr HPB.out).mono ?_); rintro e w4 ⟨a2, cap2, rfl, hrow, hb⟩; have HROW := Lib.hid hrow; have HR := Lib.hid (RdInv.below HTC.out HR.out hb); clear c0 c1 c2 c3 b0 b1; have c0 := cell_keep4 HC0.out HR.out.inv.bel; have c1 := cell_keep4 HC1.out HR.out.inv.bel; have c2 := cell_keep4 HC2.out HR.out.inv.bel; have c3 := cell_keep4 HC3.out HR.out.inv.bel; have b0 := cell_of HR.out.box 0 rfl; have b1 := cell_of HR.out.box 1 rfl; clear hb hrow)) | (go_at_call 12; ((with_reducible refine (HDP.out _ HR.out.inv.tab (HBY.out.below HR.out.inv.bel)).mono ?_); rintro e w4 ⟨rfl, ht, hk⟩; have HR := Lib.hid (RdMid.done (RdInv.keeps HR.out hk) ht (HROW.out.keeps hk) ((HR.out.inv.adr.sub HSUB.out).keeps hk) (fun r hr => HR.out.inv.sh r (HSUB.out r hr))); clear c0 c1 c2 c3 b0 b1; have c0 := cell_keep4 HC0.out HR.out.inv.bel; have c1 := cell_keep4 HC1.out HR.out.inv.bel; have c2 := cell_keep4 HC2.out HR.out.inv.bel; have c3 := cell_keep4 HC3.out HR.out.inv.bel; have b0 := cell_of HR.out.box 0 rfl; have b1 := cell_of HR.out.box 1 rfl; clear ht hk)) | (go_at_call 15; ((with_reducible refine (HOW.out _ _ HR.out.inv.tab (HBY.out.below HR.out.inv.bel)).mono ?_); rintro e w4 ⟨rfl, hb⟩; have HR := Lib.hid (RdInv.below HTC.out HR.out hb); clear c0 c1 c2 c3 b0 b1; have c0 := cell_keep4 HC0.out HR.out.inv.bel; have c1 := cell_keep4 HC1.out HR.out.inv.bel; have c2 := cell_keep4 HC2.out HR.out.inv.bel; have c3 := cell_keep4 HC3.out HR.out.inv.bel; have b0 := cell_of HR.out.box 0 rfl; have b1 := cell_of HR.out.box 1 rfl; clear hb)) | (go_at_call 16; ((with_reducible refine (HRO.out _ _ _ _ HR.out.inv.row HR.out.inv.adr (HBY.out.below HR.out.inv.bel)).mono ?_); rintro e w4 ⟨rfl, hb⟩; have HR := Lib.hid (RdInv.below HTC.out HR.out hb); clear c0 c1 c2 c3 b0 b1; have c0 := cell_keep4 HC0.out HR.out.inv.bel; have c1 := cell_keep4 HC1.out HR.out.inv.bel; have c2 := cell_keep4 HC2.out HR.out.inv.bel; have c3 := cell_keep4 HC3.out HR.out.inv.bel; have b0 := cell_of HR.out.box 0 rfl; have b1 := cell_of HR.out.box 1 rfl; clear hb)) | fail)
            go_roundw
            case rel => exact ⟨k + 1, vs2, a2, cap2, by go_num, HLT.out, HVK2.out, rfl, HR.out.inv⟩
            case measure => simp [intOf]; omega
        · have e0 : (x.kind == 0) = false := beqf (by omega)
          have e1 : (x.kind == 1) = false := beqf (by omega)
          have e2 : (x.kind == 2) = false := beqf (by omega)
          have e3 : (x.kind == 3) = false := beqf (by omega)
          have e4 : (x.kind == 4) = true := by simp [hkd]
          clear hkd
          have HDP := Lib.hid (fun w h1 => HTC.out.drop w base B vs x.own h1 HV6.out)
          have HRD := Lib.hid (fun w h1 => rdrop_any a cap vs x.own w h1 (by have := HV6.out; omega))
          unfold RowsRet at HRD
          have HSUB : Hid (∀ r ∈ dropV vs x.own, r ∈ vs) := Lib.hid (fun r hr => (List.mem_filter.1 hr).1)
          have HVL : Hid ((dropV vs x.own).length ≤ vs.length) := Lib.hid (List.length_filter_le _ _)
          generalize dropV vs x.own = vs2 at *
          have HV7 : Hid (vs2.length ≤ 60) := Lib.hid (by have := HVL.out; have := HV6.out; omega)
          have HVK2 : Hid (vs2.length ≤ k + 1) := Lib.hid (by have := HVL.out; have := HVK.out; omega)
          have hwr : IntKind.i64.wrap ((vs.length : Int) - vs2.length) = (vs.length : Int) - vs2.length := by have := HVL.out; have := HV6.out; exact wrap_i64 _ (by omega) (by omega)
          have m1 : (((vs.length : Int) - vs2.length) != ((vs.length : Int) - vs2.length)) = false := by simp
          have m2 : (((vs.length : Int) - vs2.length) == ((vs.length : Int) - vs2.length)) = true := by simp
          have HSH : Hid (∀ r ∈ vs2, r.adr.length ≤ 1000) := Lib.hid (fun r hr => by have := HR.out.inv.sh r (HSUB.out r hr); omega)
          obtain ⟨⟨o1, o2⟩, ho12⟩ : ∃ z, z = ownerV vs2 x.adr := ⟨_, rfl⟩
          have HOW := Lib.hid (fun w v h1 h2 => HTC.out.owner w base B vs2 v x.adr h1 HV7.out h2 HL40.out)
          have HRO := Lib.hid (fun a cap w v h1 h2 h3 => rowner_any a cap vs2 v x.adr w h1 h2 h3 (by have := HV7.out; omega) HSH.out (by have := HL40.out; omega))
          unfold OwnerRet at HOW HRO
          rw [← ho12] at HOW HRO
          clear ho12
          have n1 : (o1 != o1) = false := by simp
          have n2 : (o2 != o2) = false := by simp
          have n3 : (o1 == o1) = true := by simp
          go_wp2_with (first | (go_at_call 7; ((with_reducible refine (HRT.out _).mono ?_); rintro e w4 ⟨rfl, hb⟩; have HR := Lib.hid (RdInv.below HTC.out HR.out hb); clear c0 c1 c2 c3 b0 b1; have c0 := cell_keep4 HC0.out HR.out.inv.bel; have c1 := cell_keep4 HC1.out HR.out.inv.bel; have c2 := cell_keep4 HC2.out HR.out.inv.bel; have c3 := cell_keep4 HC3.out HR.out.inv.bel; have b0 := cell_of HR.out.box 0 rfl; have b1 := cell_of HR.out.box 1 rfl; clear hb)) | (go_at_call 13; ((with_reducible refine (HRD.out _ HR.out.inv.row).mono ?_); rintro e w4 ⟨a2, cap2, rfl, hrow, hb⟩; have HROW := Lib.hid hrow; have HR := Lib.hid (RdInv.below HTC.out HR.out hb); clear c0 c1 c2 c3 b0 b1; have c0 := cell_keep4 HC0.out HR.out.inv.bel; have c1 := cell_keep4 HC1.out HR.out.inv.bel; have c2 := cell_keep4 HC2.out HR.out.inv.bel; have c3 := cell_keep4 HC3.out HR.out.inv.bel; have b0 := cell_of HR.out.box 0 rfl; have b1 := cell_of HR.out.box 1 rfl; clear hb hrow)) | (go_at_call 14; ((with_reducible refine (HDP.out _ HR.out.inv.tab).mono ?_); rintro e w4 ⟨rfl, ht, hk⟩; have HR := Lib.hid (RdMid.done (RdInv.keeps HR.out hk) ht (HROW.out.keeps hk) ((HR.out.inv.adr.sub HSUB.out).keeps hk) (fun r hr => HR.out.inv.sh r (HSUB.out r hr))); clear c0 c1 c2 c3 b0 b1; have c0 := cell_keep4 HC0.out HR.out.inv.bel; have c1 := cell_keep4 HC1.out HR.out.inv.bel; have c2 := cell_keep4 HC2.out HR.out.inv.bel; have c3 := cell_keep4 HC3.out HR.out.inv.bel; have b0 := cell_of HR.out.box 0 rfl; have b1 := cell_of HR.out.box 1 rfl; clear ht hk)) | (go_at_call 15; ((with_reducible refine (HOW.out _ _ HR.out.inv.tab (HBY.out.below HR.out.inv.bel)).mono ?_); rintro e w4 ⟨rfl, hb⟩; have HR := Lib.hid (RdInv.below HTC.out HR.out hb); clear c0 c1 c2 c3 b0 b1; have c0 := cell_keep4 HC0.out HR.out.inv.bel; have c1 := cell_keep4 HC1.out HR.out.inv.bel; have c2 := cell_keep4 HC2.out HR.out.inv.bel; have c3 := cell_keep4 HC3.out HR.out.inv.bel; have b0 := cell_of HR.out.box 0 rfl; have b1 := cell_of HR.out.box 1 rfl; clear hb)) | (go_at_call 16; ((with_reducible refine (HRO.out _ _ _ _ HR.out.inv.row HR.out.inv.adr (HBY.out.below HR.out.inv.bel)).mono ?_); rintro e w4 ⟨rfl, hb⟩; have HR := Lib.hid (RdInv.below HTC.out HR.out hb); clear c0 c1 c2 c3 b0 b1; have c0 := cell_keep4 HC0.out HR.out.inv.bel; have c1 := cell_keep4 HC1.out HR.out.inv.bel; have c2 := cell_keep4 HC2.out HR.out.inv.bel; have c3 := cell_keep4 HC3.out HR.out.inv.bel; have b0 := cell_of HR.out.box 0 rfl; have b1 := cell_of HR.out.box 1 rfl; clear hb)) | fail)
          go_roundw
          case rel => exact ⟨k + 1, vs2, a2, cap2, by go_num, HLT.out, HVK2.out, rfl, HR.out.inv⟩
          case measure => simp [intOf]; omega
        · have e0 : (x.kind == 0) = false := beqf (by omega)
          have e1 : (x.kind == 1) = false := beqf (by omega)
          have e2 : (x.kind == 2) = false := beqf (by omega)
          have e3 : (x.kind == 3) = false := beqf (by omega)
          have e4 : (x.kind == 4) = false := beqf (by omega)
          clear hkd
          have HSH : Hid (∀ r ∈ vs, r.adr.length ≤ 1000) := Lib.hid (fun r hr => by have := HR.out.inv.sh r hr; omega)
          obtain ⟨⟨o1, o2⟩, ho12⟩ : ∃ z, z = ownerV vs x.adr := ⟨_, rfl⟩
          have HOW := Lib.hid (fun w v h1 h2 => HTC.out.owner w base B vs v x.adr h1 HV6.out h2 HL40.out)
          have HRO := Lib.hid (fun a cap w v h1 h2 h3 => rowner_any a cap vs v x.adr w h1 h2 h3 (by have := HV6.out; omega) HSH.out (by have := HL40.out; omega))
          unfold OwnerRet at HOW HRO
          rw [← ho12] at HOW HRO
          clear ho12
          have n1 : (o1 != o1) = false := by simp
          have n2 : (o2 != o2) = false := by simp
          have n3 : (o1 == o1) = true := by simp
          go_wp2_with (first | (go_at_call 7; ((with_reducible refine (HRT.out _).mono ?_); rintro e w4 ⟨rfl, hb⟩; have HR := Lib.hid (RdInv.below HTC.out HR.out hb); clear c0 c1 c2 c3 b0 b1; have c0 := cell_keep4 HC0.out HR.out.inv.bel; have c1 := cell_keep4 HC1.out HR.out.inv.bel; have c2 := cell_keep4 HC2.out HR.out.inv.bel; have c3 := cell_keep4 HC3.out HR.out.inv.bel; have b0 := cell_of HR.out.box 0 rfl; have b1 := cell_of HR.out.box 1 rfl; clear hb)) | (go_at_call 15; ((with_reducible refine (HOW.out _ _ HR.out.inv.tab (HBY.out.below HR.out.inv.bel)).mono ?_); rintro e w4 ⟨rfl, hb⟩; have HR := Lib.hid (RdInv.below HTC.out HR.out hb); clear c0 c1 c2 c3 b0 b1; have c0 := cell_keep4 HC0.out HR.out.inv.bel; have c1 := cell_keep4 HC1.out HR.out.inv.bel; have c2 := cell_keep4 HC2.out HR.out.inv.bel; have c3 := cell_keep4 HC3.out HR.out.inv.bel; have b0 := cell_of HR.out.box 0 rfl; have b1 := cell_of HR.out.box 1 rfl; clear hb)) | (go_at_call 16; ((with_reducible refine (HRO.out _ _ _ _ HR.out.inv.row HR.out.inv.adr (HBY.out.below HR.out.inv.bel)).mono ?_); rintro e w4 ⟨rfl, hb⟩; have HR := Lib.hid (RdInv.below HTC.out HR.out hb); clear c0 c1 c2 c3 b0 b1; have c0 := cell_keep4 HC0.out HR.out.inv.bel; have c1 := cell_keep4 HC1.out HR.out.inv.bel; have c2 := cell_keep4 HC2.out HR.out.inv.bel; have c3 := cell_keep4 HC3.out HR.out.inv.bel; have b0 := cell_of HR.out.box 0 rfl; have b1 := cell_of HR.out.box 1 rfl; clear hb)) | fail)
          go_roundw
          case rel => exact ⟨k + 1, vs, a, cap, by go_num, HLT.out, Nat.le_succ_of_le HVK.out, rfl, HR.out.inv⟩
          case measure => simp [intOf]; omega
      · have hl1 : (40 : Int) < x.adr.length := by omega
        clear hlt hk
        go_wp2_with fail
        go_roundw
        case rel => exact ⟨k + 1, vs, a, cap, by go_num, HLT.out, Nat.le_succ_of_le HVK.out, rfl, HTI.out.below HTC.out (below_one _)⟩
        case measure => simp [intOf]; omega
    · obtain rfl : k = ls.length := by omega
      have HV6 : Hid (vs.length ≤ 60) := Lib.hid (by have := HVK.out; have := HN.out; omega)
      obtain ⟨⟨o1, o2⟩, ho12⟩ : ∃ z, z = ownerV vs A := ⟨_, rfl⟩
      have HOW := Lib.hid (fun w v h1 h2 => HTC.out.owner w base B vs v A h1 HV6.out h2 HM.out)
      have HRO := Lib.hid (fun w v h1 h2 h3 => rowner_any a cap vs v A w h1 h2 h3 (by have := HV6.out; omega) (fun r hr => by have := HTI.out.sh r hr; omega) (by have := HM.out; omega))
      unfold OwnerRet at HOW HRO
      rw [← ho12] at HOW HRO
      clear ho12
      have n3 : (o1 == o1) = true := by simp
      have n4 : (o2 == o2) = true := by simp
      have HEV := Lib.hid (fun o w h1 h2 h3 => even_any B a cap vs o w (fun W => T W base B vs) h1 h2 (by have := HV6.out; omega) (fun w w' h hb => HTC.out.below w w' base B vs h hb) (fun w h => HTC.out.rows w base B vs h HV6.out) (fun w h => HTC.out.of w base B vs o h HV6.out) h3)
      clear hk hlt
      by_cases hz : (0 : Int) < ls.length
      · obtain ⟨x, hx⟩ : ∃ x, ls[0]? = some x := ⟨ls[0]'(by omega), List.getElem?_eq_getElem (by omega)⟩
        obtain ⟨b, off, rfl, _, _, _, k3, _⟩ := HLS.out 0 x hx
        have c3 := cell_keep4 k3 HTI.out.bel
        rw [Nat.zero_mul, Nat.add_zero] at c3
        have hz2 : 0 < ls.length := by omega
        clear k3 hx
        go_wp2_with (first | (go_at_call 15; ((with_reducible refine (HOW.out _ _ HTI.out.tab (HA.out.below HTI.out.bel)).mono ?_); rintro e w4 ⟨rfl, hb⟩; have HTI := Lib.hid (HTI.out.below HTC.out hb); clear hb)) | (go_at_call 16; ((with_reducible refine (HRO.out _ _ HTI.out.row HTI.out.adr (HA.out.below HTI.out.bel)).mono ?_); rintro e w4 ⟨rfl, hb⟩; have HTI := Lib.hid (HTI.out.below HTC.out hb); clear hb)) | (go_at_call 17; ((with_reducible refine (HEV.out _ _ HTI.out.row HTI.out.adr HTI.out.tab).mono ?_); rintro e w4 ⟨rfl, hb⟩; have HTI := Lib.hid (HTI.out.below HTC.out hb); clear hb)) | fail)
        go_ret
        exact ⟨rfl, HTI.out.bel⟩
      · have hz2 : ¬ 0 < ls.length := by omega
        go_wp2_with (first | (go_at_call 15; ((with_reducible refine (HOW.out _ _ HTI.out.tab (HA.out.below HTI.out.bel)).mono ?_); rintro e w4 ⟨rfl, hb⟩; have HTI := Lib.hid (HTI.out.below HTC.out hb); clear hb)) | (go_at_call 16; ((with_reducible refine (HRO.out _ _ HTI.out.row HTI.out.adr (HA.out.below HTI.out.bel)).mono ?_); rintro e w4 ⟨rfl, hb⟩; have HTI := Lib.hid (HTI.out.below HTC.out hb); clear hb)) | (go_at_call 17; ((with_reducible refine (HEV.out _ _ HTI.out.row HTI.out.adr HTI.out.tab).mono ?_); rintro e w4 ⟨rfl, hb⟩; have HTI := Lib.hid (HTI.out.below HTC.out hb); clear hb)) | fail)
        go_ret
        exact ⟨rfl, HTI.out.bel⟩
end Go.Proofs.Ytlmmnjoincmgcaa
