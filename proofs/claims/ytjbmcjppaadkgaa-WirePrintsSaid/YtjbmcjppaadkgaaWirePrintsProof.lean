/- For all its arguments (any message) the law WirePrints returns true and leaves them as they were. No condition. -/
import Derived.Test.YtjbmcjppaadkgaaRows
import Derived.Test.YtjbmcjppaadkgaaGP16
import Derived.WalkKit
import Derived.ProofKit
import Derived.OpenShut
import Derived.ShutString
import Derived.ChangeOld
import Derived.Below
import Derived.Lib.SmallJoins
namespace Go.Proofs.Ytjbmcjppaadkgaa.wirePrints
open Go.ChangeShapes Go.WideShapes Go.ChangeAt Go.RowKit Go.Joins Go.Deep
set_option linter.unusedVariables false

theorem own : ownKnob Try.prog.godebug = none := by kernel_rfl
theorem laidOut : laidOutB Try.prog = true := by kernel_rfl
theorem cellsMessage : Try.prog.cellsOf 25 = 13 := by kernel_rfl

/-- The law, walked, whatever the message is. -/
theorem wireprints_any (k : Int) (N : Nat → Nat) (X : Nat → ByteArray) (w : World) (hN : NumOk N) (hsz : ∀ c, (X c).size ≤ maxLen) : Calls Try.prog 3 #[.agg #[.int .i64 k, .int .u32 (N 1 : Nat), .int .u32 (N 2 : Nat), .int .u64 (N 3 : Nat), .string (X 4), .string (X 5), .string (X 6), .string (X 7), .string (X 8), .string (X 9), .string (X 10), .string (X 11), .string (X 12)]] w fun e w' => e = .returned (.bool true) ∧ Below w.heap.size w w' := by
  cases hr : rightP k N X with
  | true => exact wireprints_yes k N X w hN hsz hr
  | false => exact wireprints_no k N X w hN hsz hr

/-- A struct by value, each field of one cell, opened: its cells, each with its reading. -/
theorem open_cells {H : Type} {enc : TypeId × Value → H} {P : Program} {w : World} {base : Nat} {spare : Nat → Bool} {held : Bool} {r : Reach} {b0 : Nat} {t : TypeId} {fs : Array Field} {v : Value} {d : DataW H} {p : List MemPlace}
    (hs : P.underlying t = some (.struct fs)) (hone : oneCellFields P fs = true) (hC : P.cellsOf t = fs.size) (hv : Value.okWide P w r b0 t v) (h : DataW.Trod enc P w base spare held t v d p) :
    ∃ cs n, v = .agg cs ∧ cs.size = fs.size ∧ ∀ (j : Nat) (f : Field), fs[j]? = some f → ∃ c y, cs[j]? = some c ∧ DataW.trod enc P w base spare held n f.type [c] = some y := by
  obtain ⟨cs, rfl, hsz⟩ := okWide_struct hs hv
  obtain ⟨fuel, hf⟩ := h
  obtain ⟨xs, n, _, hx, _, hlen, hg⟩ := DataW.trod_struct hs hf
  refine ⟨cs, n, rfl, hsz.trans hC, fun j f hj => ?_⟩
  obtain ⟨o, k⟩ := hone_of hone j f hj
  have hjl : j < fs.size := (Array.getElem?_eq_some_iff.1 hj).1
  have hcl : j < cs.toList.length := by simp; omega
  have h1 := hg j f hj
  rw [o, k] at h1
  have e1 : (cs.toList.drop j).take 1 = [cs.toList[j]'hcl] := by
    rw [List.drop_eq_getElem_cons hcl]
    rfl
  simp only [Value.cells] at h1
  rw [e1, List.getElem?_eq_getElem (show j < xs.length by omega)] at h1
  exact ⟨_, _, by simp [show j < cs.size by omega], h1⟩

theorem agg13 {cs : Array Value} {c0 c1 c2 c3 c4 c5 c6 c7 c8 c9 c10 c11 c12 : Value} (hsz : cs.size = 13) (h0 : cs[0]? = some c0) (h1 : cs[1]? = some c1) (h2 : cs[2]? = some c2) (h3 : cs[3]? = some c3) (h4 : cs[4]? = some c4) (h5 : cs[5]? = some c5) (h6 : cs[6]? = some c6) (h7 : cs[7]? = some c7) (h8 : cs[8]? = some c8) (h9 : cs[9]? = some c9) (h10 : cs[10]? = some c10) (h11 : cs[11]? = some c11) (h12 : cs[12]? = some c12) : cs = #[c0, c1, c2, c3, c4, c5, c6, c7, c8, c9, c10, c11, c12] := by
  obtain ⟨l⟩ := cs
  match l, hsz with
  | [a0, a1, a2, a3, a4, a5, a6, a7, a8, a9, a10, a11, a12], _ =>
    obtain rfl : a0 = c0 := Option.some.inj h0
    obtain rfl : a1 = c1 := Option.some.inj h1
    obtain rfl : a2 = c2 := Option.some.inj h2
    obtain rfl : a3 = c3 := Option.some.inj h3
    obtain rfl : a4 = c4 := Option.some.inj h4
    obtain rfl : a5 = c5 := Option.some.inj h5
    obtain rfl : a6 = c6 := Option.some.inj h6
    obtain rfl : a7 = c7 := Option.some.inj h7
    obtain rfl : a8 = c8 := Option.some.inj h8
    obtain rfl : a9 = c9 := Option.some.inj h9
    obtain rfl : a10 = c10 := Option.some.inj h10
    obtain rfl : a11 = c11 := Option.some.inj h11
    obtain rfl : a12 = c12 := Option.some.inj h12
    rfl

theorem walk (m0 m1 m2 m3 : Int) (s4 s5 s6 s7 s8 s9 s10 s11 s12 : ByteArray) (w : World) (wm1 : (Lit.int .u32 m1).wf = true) (wm2 : (Lit.int .u32 m2).wf = true) (wm3 : (Lit.int .u64 m3).wf = true) (ws4 : s4.size ≤ maxLen) (ws5 : s5.size ≤ maxLen) (ws6 : s6.size ≤ maxLen) (ws7 : s7.size ≤ maxLen) (ws8 : s8.size ≤ maxLen) (ws9 : s9.size ≤ maxLen) (ws10 : s10.size ≤ maxLen) (ws11 : s11.size ≤ maxLen) (ws12 : s12.size ≤ maxLen) :
    Calls Try.prog 3 #[.agg #[.int .i64 m0, .int .u32 m1, .int .u32 m2, .int .u64 m3, .string s4, .string s5, .string s6, .string s7, .string s8, .string s9, .string s10, .string s11, .string s12]] w fun e w' => e = .returned (.bool true) ∧ Below w.heap.size w w' := by
  have b1 := bounds_u32 wm1
  have b2 := bounds_u32 wm2
  have b3 := bounds_u64 wm3
  obtain ⟨n1, rfl⟩ : ∃ n : Nat, m1 = n := ⟨m1.toNat, by omega⟩
  obtain ⟨n2, rfl⟩ : ∃ n : Nat, m2 = n := ⟨m2.toNat, by omega⟩
  obtain ⟨n3, rfl⟩ : ∃ n : Nat, m3 = n := ⟨m3.toNat, by omega⟩
  have hX : ∀ c : Nat, (if c = 4 then s4 else if c = 5 then s5 else if c = 6 then s6 else if c = 7 then s7 else if c = 8 then s8 else if c = 9 then s9 else if c = 10 then s10 else if c = 11 then s11 else s12).size ≤ maxLen := by
    intro c
    repeat' split
    all_goals assumption
  have h := wireprints_any m0 (fun i => if i = 1 then n1 else if i = 2 then n2 else n3) (fun c => if c = 4 then s4 else if c = 5 then s5 else if c = 6 then s6 else if c = 7 then s7 else if c = 8 then s8 else if c = 9 then s9 else if c = 10 then s10 else if c = 11 then s11 else s12) w
    (by constructor <;> simp <;> omega) hX
  simpa using h

set_option maxRecDepth 100000 in
theorem lifted (os : Os) (started : os.Started) (H : Type) (enc : TypeId × Value → H) :
    ReturnsInHanded {} Try.checked os 3 .any (Rows.wirePrintsSpec.pre6 enc Try.prog Try.f3 Rows.wirePrintsRow.domain false) (Rows.wirePrintsSpec.post enc Try.prog Try.f3 false true false false) := by
  refine returnsInHanded_of_change (C := Try.checked) own started (by kernel_rfl) Try.func3
    (ChangeSpec.witness6 (enc := enc) (C := Try.checked) false ⟨#[], #[.agg #[.int .i64 0, .int .u32 0, .int .u32 0, .int .u64 0, .string ⟨#[]⟩, .string ⟨#[]⟩, .string ⟨#[]⟩, .string ⟨#[]⟩, .string ⟨#[]⟩, .string ⟨#[]⟩, .string ⟨#[]⟩, .string ⟨#[]⟩, .string ⟨#[]⟩]], []⟩ 8 (by kernel_rfl) (by kernel_rfl) (by kernel_rfl) (by kernel_rfl)) ?_
  intro W base args ds gs before hval0 hW hcnd _
  have hval : ∀ (j : Nat) t v, Try.f3.params[j]? = some t → args[j]? = some v → Value.okWide Try.prog W .any base t v := hval0
  have hW' := hW
  obtain ⟨p, q, hA0, hV, rfl, hfz, hnd⟩ := hW
  have hA : DataW.TrodAll enc Try.prog W 0 (fun _ => true) true Try.f3.params.toList args.toList ds p := hA0
  rw [Try.params3] at hA hval
  obtain ⟨v0, vs0, d0, ds0, p0, q0, hargs, rfl, rfl, h0, r0⟩ := trodAll_cons hA
  obtain ⟨rfl, rfl, rfl⟩ := trodAll_nil r0
  obtain rfl : args = #[v0] := by cases args; simp_all
  obtain ⟨rfl, rfl⟩ := trodVars_none hV
  have lt0 : ∀ x ∈ p0, x.block < W.heap.size := by obtain ⟨m, hm⟩ := h0; exact DataW.trod_lt m _ _ _ hm
  have k0 := h0
  obtain ⟨cs, n, rfl, hsz, hg⟩ := open_cells Try.underlying25 (by kernel_rfl) cellsMessage (hval 0 25 v0 rfl rfl) h0
  obtain ⟨c0, y0, e0, g0⟩ := hg 0 _ rfl
  obtain ⟨c1, y1, e1, g1⟩ := hg 1 _ rfl
  obtain ⟨c2, y2, e2, g2⟩ := hg 2 _ rfl
  obtain ⟨c3, y3, e3, g3⟩ := hg 3 _ rfl
  obtain ⟨c4, y4, e4, g4⟩ := hg 4 _ rfl
  obtain ⟨c5, y5, e5, g5⟩ := hg 5 _ rfl
  obtain ⟨c6, y6, e6, g6⟩ := hg 6 _ rfl
  obtain ⟨c7, y7, e7, g7⟩ := hg 7 _ rfl
  obtain ⟨c8, y8, e8, g8⟩ := hg 8 _ rfl
  obtain ⟨c9, y9, e9, g9⟩ := hg 9 _ rfl
  obtain ⟨c10, y10, e10, g10⟩ := hg 10 _ rfl
  obtain ⟨c11, y11, e11, g11⟩ := hg 11 _ rfl
  obtain ⟨c12, y12, e12, g12⟩ := hg 12 _ rfl
  obtain ⟨m0, x0, _, wm0⟩ := DataW.trod_int Try.underlying3 g0
  obtain rfl : c0 = _ := (List.cons.inj x0).1
  obtain ⟨m1, x1, _, wm1⟩ := DataW.trod_int Try.underlying22 g1
  obtain rfl : c1 = _ := (List.cons.inj x1).1
  obtain ⟨m2, x2, _, wm2⟩ := DataW.trod_int Try.underlying22 g2
  obtain rfl : c2 = _ := (List.cons.inj x2).1
  obtain ⟨m3, x3, _, wm3⟩ := DataW.trod_int Try.underlying23 g3
  obtain rfl : c3 = _ := (List.cons.inj x3).1
  obtain ⟨s4, x4, _, ws4⟩ := DataW.trod_string Try.underlying9 g4
  obtain rfl : c4 = _ := (List.cons.inj x4).1
  obtain ⟨s5, x5, _, ws5⟩ := DataW.trod_string Try.underlying9 g5
  obtain rfl : c5 = _ := (List.cons.inj x5).1
  obtain ⟨s6, x6, _, ws6⟩ := DataW.trod_string Try.underlying9 g6
  obtain rfl : c6 = _ := (List.cons.inj x6).1
  obtain ⟨s7, x7, _, ws7⟩ := DataW.trod_string Try.underlying9 g7
  obtain rfl : c7 = _ := (List.cons.inj x7).1
  obtain ⟨s8, x8, _, ws8⟩ := DataW.trod_string Try.underlying9 g8
  obtain rfl : c8 = _ := (List.cons.inj x8).1
  obtain ⟨s9, x9, _, ws9⟩ := DataW.trod_string Try.underlying9 g9
  obtain rfl : c9 = _ := (List.cons.inj x9).1
  obtain ⟨s10, x10, _, ws10⟩ := DataW.trod_string Try.underlying9 g10
  obtain rfl : c10 = _ := (List.cons.inj x10).1
  obtain ⟨s11, x11, _, ws11⟩ := DataW.trod_string Try.underlying9 g11
  obtain rfl : c11 = _ := (List.cons.inj x11).1
  obtain ⟨s12, x12, _, ws12⟩ := DataW.trod_string Try.underlying9 g12
  obtain rfl : c12 = _ := (List.cons.inj x12).1
  obtain rfl := agg13 hsz e0 e1 e2 e3 e4 e5 e6 e7 e8 e9 e10 e11 e12
  clear hA0 hval0
  refine (walk m0 m1 m2 m3 s4 s5 s6 s7 s8 s9 s10 s11 s12 W wm1 wm2 wm3 ws4 ws5 ws6 ws7 ws8 ws9 ws10 ws11 ws12).mono fun e W' ⟨he, bel⟩ => ?_
  subst he
  exact ⟨_, rfl, _, _, _, [], _, [], hW', trodAll_mk1 (shut_bool Try.underlying4 _), (trodAll_cons_mk (Below.trod laidOut (by kernel_rfl) (of_decide_eq_true (by kernel_rfl)) k0 bel lt0) trodAll_mk0), rfl, bel.frame _, fun h => by cases h⟩

theorem over : Rows.wirePrintsRow.holds Try.pinned (OpenSpec.ofChange Rows.wirePrintsSpec) :=
  OpenClaim.holds_of_wide 3 Try.f3 rfl rfl rfl rfl rfl rfl rfl ⟨rfl, rfl, rfl, rfl, rfl⟩ rfl rfl rfl rfl rfl (by kernel_rfl) Try.func3 (by kernel_rfl)
    (of_decide_eq_true (by kernel_rfl)) (by unfold Func.isWrapper; first | (rw [if_pos (by decide +kernel)]; kernel_rfl) | (rw [if_neg (by decide +kernel)]; exact ⟨rfl, rfl⟩))
    (fun os started H enc _ => lifted os started H enc)

/-- ████ THE STATEMENT ████ -/
theorem proved : Rows.WirePrintsSaid := over
#print axioms proved
end Go.Proofs.Ytjbmcjppaadkgaa.wirePrints
