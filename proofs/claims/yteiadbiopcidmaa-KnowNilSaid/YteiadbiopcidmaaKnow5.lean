/- know: any piece, read, and a piece's name, by contract. -/
import Derived.Test.YteiadbiopcidmaaKnow4
namespace Go.Proofs.Yteiadbiopcidmaa
set_option linter.unusedVariables false
set_option linter.unusedSimpArgs false
set_option maxRecDepth 100000
open Go.RowKit

theorem kpiece_any (s : ByteArray) (hs : s.size ≤ 1000000) (R : Nat) (F : Nat) : ∀ l tm r2, kPieceS (kLoop F) l = some (tm, r2) → ∀ p w, p ≤ s.size → s.data.toList.drop p = l → RK w R s p →
    Calls Try.prog 21 #[.pointer (some ⟨R, 0, none⟩)] w (PieceOK w R s tm r2) := by
  induction F using Nat.strongRecOn with
  | ind F ih =>
    intro l tm r2 hk p w hp hl hR
    obtain ⟨hw0, hrest, h | h⟩ := kPieceS_cases (kLoop_suf F) hk
    · obtain ⟨h40, ps0, ps, hL, hfix, rfl⟩ := h
      exact kpiece_node s hs R p w hp hR l hl _ rfl hw0 h40 ps0 ps r2 hrest hfix fun q w hq hd hR => kinside_any s hs R F ih ps0 r2 q w hq (by rw [hd]; exact hL) hR
    · obtain ⟨h40, h8, h10, rfl, rfl⟩ := h
      exact kpiece_leaf s hs R p w hp hR l hl _ rfl hw0 h40 h8 h10
theorem grown_none {w a c : World} {b : Nat} (h : w.grownBy a none) (hg : a.grownBy c (some b)) (hb : w.heap.size ≤ b) : w.grownBy c none :=
  ⟨hg.os.trans h.os, hg.tape.trans h.tape, hg.output.trans h.output, Nat.le_trans h.size hg.size, fun k hk _ => (hg.block k (Nat.lt_of_lt_of_le hk h.size) (fun e => by cases e; omega)).trans (h.block k hk (fun e => by cases e))⟩
/-- a piece that is told -/
def ReadOK (w : World) (tm : Tm) (e : Ending) (w' : World) : Prop :=
  ∃ B, e = .returned (ptrV B) ∧ PieceAt (Fr w.heap.size) w' tm B ∧ w.grownBy w' none
theorem kread_any (s : ByteArray) (hs : s.size ≤ 1000000) (F : Nat) (tm : Tm) (r2 : List UInt8) (h : kPieceS (kLoop F) s.data.toList = some (tm, r2)) (w : World) :
    Calls Try.prog 13 #[.string s] w (ReadOK w tm) := by
  have HP : Hid (∀ R w, RK w R s 0 → Calls Try.prog 21 #[.pointer (some ⟨R, 0, none⟩)] w (PieceOK w R s tm r2)) := Lib.hid (fun R w hR => kpiece_any s hs R F _ _ _ h 0 w (Nat.zero_le _) rfl hR)
  clear h
  go_enter Try.func13, Try.ntmps13
  have HR : Hid (RK (w.alloc (.cells #[.string s, .int .i64 0] 57)) w.heap.size s 0) := Lib.hid (heap_alloc_new w _)
  go_wp2_with (first | (go_at_call 21; ((with_reducible refine (HP.out _ _ HR.out).mono ?_); rintro e w2 ⟨B, rfl, hpc, hr2, hg2⟩)) | fail)
  go_ret
  exact ⟨B, rfl, hpc.low (by simp), grown_none (World.grownBy_alloc w _ none) hg2 (Nat.le_refl _)⟩
/-- a name -/
def nameV (x : Bool × List UInt8) : Value := .agg #[.bool x.1, .string (strB x.2)]
def nameOf (tm : Tm) : Bool × List UInt8 := if tm.kind = 5 then (true, (tm.parts.headD (.mk 0 [] [])).text) else (false, tm.text)
theorem name_results (W : World) (b : Nat) (v0 v1 : Value) (h : W.heap[b]? = some (.cells #[v0, v1] 46 (0, 0))) (T : Array Value) (h2 : T.getD 2 undef = .pointer (some ⟨b, 0, none⟩)) :
    (results Try.f15 T).run Try.prog W = .ok (.agg #[v0, v1]) W := by
  have c0 := cell_of h 0 rfl; have c1 := cell_of h 1 rfl
  have e2 : T[2]?.getD undef = .pointer (some ⟨b, 0, none⟩) := by simpa using h2
  simp [results, Try.results15, go_sem, e2, c0, c1]
set_option maxHeartbeats 4000000 in
theorem kname_any (tm : Tm) (h5 : tm.kind = 5 → tm.parts ≠ []) (B : Nat) (ok : Nat → Prop) (w : World) (h : PieceAt ok w tm B) :
    Calls Try.prog 15 #[ptrV B] w fun e w' => e = .returned (nameV (nameOf tm)) ∧ w.grownBy w' none := by
  obtain ⟨k, t, ps⟩ := tm
  unfold PieceAt at h
  unfold ptrV
  obtain ⟨_, v, bs, hb, hr, _, hp⟩ := h
  have hlt : B < w.heap.size := (Array.getElem?_eq_some_iff.1 hb).1
  have g0 := cell_of hb 0 rfl
  have g1 := cell_of hb 1 rfl
  have g2 := cell_of hb 2 rfl
  simp only [Tm.kind, Tm.parts] at h5
  by_cases hk : k = 5
  · subst hk
    cases ps with
    | nil => exact absurd rfl (h5 rfl)
    | cons tm2 ps =>
      obtain ⟨k2, t2, ps2⟩ := tm2
      unfold PiecesAt at hp
      obtain ⟨b0, r, rfl, hp0, _⟩ := hp
      unfold PieceAt at hp0
      obtain ⟨_, v2, bs2, hb2, _, _, _⟩ := hp0
      obtain ⟨a, cap, rfl, hc1, hc2, hr | ⟨g, off, rfl, hr⟩⟩ := hr
      · cases hr
      · have c0 := hr 0 (by simp)
        rw [Nat.add_zero, List.getD_cons_zero] at c0
        have j1 := cell_of hb2 1 rfl
        have hlt2 : b0 < w.heap.size := (Array.getElem?_eq_some_iff.1 hb2).1
        have hlg : g < w.heap.size := World.block_lt_of_cell? w _ c0
        have hlen : (0 : Int) < ((b0 :: r).length : Nat) := by simp
        have hlen2 : 0 < (b0 :: r).length := by simp
        generalize (b0 :: r).length = n at *
        clear hb hb2 hr h5
        go_enter Try.func15, Try.ntmps15
        go_wp2
        refine bodyPost_ret (name_results _ w.heap.size _ _ (heap_alloc_new w _) _ rfl) rfl ⟨by simp [nameV, nameOf, Tm.kind, Tm.parts, Tm.text], World.grownBy_alloc _ _ _⟩
  · have hk5 : ((k : Int) == 5) = false := beqf (by omega)
    clear hb hr hp h5
    go_enter Try.func15, Try.ntmps15
    go_wp2
    refine bodyPost_ret (name_results _ w.heap.size _ _ (heap_alloc_new w _) _ rfl) rfl ⟨by simp [nameV, nameOf, Tm.kind, Tm.parts, Tm.text, hk], World.grownBy_alloc _ _ _⟩
end Go.Proofs.Yteiadbiopcidmaa
