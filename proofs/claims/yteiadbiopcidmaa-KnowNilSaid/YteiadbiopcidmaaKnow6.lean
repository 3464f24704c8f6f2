/- know: whatever is a term is read. -/
import Derived.Test.YteiadbiopcidmaaKnow5
import Derived.Test.YteiadbiopcidmaaTermMath3
namespace Go.Proofs.Yteiadbiopcidmaa
set_option linter.unusedVariables false
set_option linter.unusedSimpArgs false

theorem mem_tw {p : UInt8 → Bool} {l : List UInt8} {c : UInt8} (h : c ∈ l.takeWhile p) : p c = true := by
  have := List.all_takeWhile (p := p) (l := l)
  rw [List.all_eq_true] at this
  exact this c h
theorem kRun {u rest : List UInt8} (hu : ∀ c ∈ u, goes c = true) (hs : rest = [] ∨ ∃ c r, rest = c :: r ∧ goes c = false) : kW (u ++ rest) = u ∧ kR (u ++ rest) = rest := by
  unfold kW kR
  induction u with
  | nil =>
    rcases hs with rfl | ⟨c, r, rfl, hc⟩
    · exact ⟨rfl, rfl⟩
    · rw [List.nil_append, List.takeWhile_cons_of_neg (by simp [hc]), List.dropWhile_cons_of_neg (by simp [hc])]; exact ⟨rfl, rfl⟩
  | cons a u ih =>
    have ha := hu a (List.mem_cons_self ..)
    obtain ⟨h1, h2⟩ := ih fun c hc => hu c (List.mem_cons_of_mem _ hc)
    rw [List.cons_append, List.takeWhile_cons_of_pos ha, List.dropWhile_cons_of_pos ha, h1, h2]; exact ⟨rfl, rfl⟩
theorem hex_goes (c : UInt8) (h : isHex c = true) : goes c = true := by
  simp only [isHex, decide_eq_true_eq] at h
  simp only [goes, isStop, Bool.not_eq_true', Bool.or_eq_false_iff, beq_eq_false_iff_ne]
  refine ⟨⟨⟨?_, ?_⟩, ?_⟩, ?_⟩ <;> (intro e; subst e; revert h; decide)
theorem dig_goes (c : UInt8) (h : isDig c = true) : goes c = true := by
  simp only [isDig, decide_eq_true_eq] at h
  simp only [goes, isStop, Bool.not_eq_true', Bool.or_eq_false_iff, beq_eq_false_iff_ne]
  refine ⟨⟨⟨?_, ?_⟩, ?_⟩, ?_⟩ <;> (intro e; subst e; revert h; decide)
theorem kind_goes (c : UInt8) (h : kindOf c ≠ 0) : goes c = true := by
  cases hg : goes c with
  | true => rfl
  | false =>
    exfalso; apply h
    simp only [goes, isStop, Bool.not_eq_false', Bool.or_eq_true, beq_iff_eq] at hg
    rcases hg with ((e | e) | e) | e <;> (subst e; rfl)
theorem dig_kind (c : UInt8) (h : isDig c = true) : kindOf c ≠ 8 ∧ kindOf c ≠ 10 := by
  simp only [isDig, decide_eq_true_eq] at h
  unfold kindOf
  constructor <;> (repeat' split) <;> (try decide) <;> (rename_i e; subst e; revert h; decide)
theorem stop_not {rest : List UInt8} (h : Stop rest) : rest = [] ∨ ∃ c r, rest = c :: r ∧ goes c = false := by
  cases rest with
  | nil => exact .inl rfl
  | cons c r =>
    rcases h with h | h | h
    · cases h
    · simp at h; subst h; exact .inr ⟨_, _, rfl, rfl⟩
    · simp at h; subst h; exact .inr ⟨_, _, rfl, rfl⟩
theorem stop_ne40 {rest : List UInt8} (h : Stop rest) : rest.head? ≠ some 40 := by
  rcases h with rfl | h | h
  · simp
  · rw [h]; decide
  · rw [h]; decide
theorem shape_ne0 {k : Nat} {sh : Shape} (h : shapeOf k = some sh) : k ≠ 0 := by
  intro e; subst e; cases h
theorem shape_ls {k : Nat} {sh : Shape} (h : shapeOf k = some sh) (hn : sh.numbered = true) (hm : 0 < sh.most) : sh.least = sh.most := by
  unfold shapeOf at h
  split at h <;> cases h <;> simp_all
theorem qNum_run {sh : Shape} {r : List UInt8} {x : Nat × List UInt8} (h : qNum sh r = some x) : ∃ u, r = u ++ x.2 ∧ (∀ c ∈ u, isDig c = true) ∧ (sh.numbered = true → u ≠ []) ∧ (sh.numbered = false → u = []) := by
  unfold qNum at h
  split at h
  · rename_i hn
    split at h
    · rename_i hi
      cases h
      refine ⟨r.takeWhile isDig, (List.takeWhile_append_dropWhile).symm, fun c hc => mem_tw hc, fun _ e => ?_, fun e => by rw [hn] at e; cases e⟩
      rw [e] at hi
      revert hi
      unfold numIn
      simp [show rdCode [] ≠ 0 by decide]
    · cases h
  · rename_i hn
    cases h
    exact ⟨[], rfl, fun c hc => by (cases hc), fun e => absurd e hn, fun _ => rfl⟩
theorem leaf_piece {L : KLoop} {c : UInt8} {r rest : List UInt8} {n : Nat} {sh : Shape} (hk : shapeOf (kindOf c) = some sh) (hm : ¬ 0 < sh.most) (h : qLeaf sh r = some (n, rest)) (hs : Stop rest) :
    ∃ x, kPieceS L (c :: r) = some (.mk (kindOf c) x [], rest) := by
  have hr : ∃ u, r = u ++ rest ∧ ∀ c ∈ u, goes c = true := by
    unfold qLeaf at h
    split at h
    · split at h
      · obtain ⟨u, h1, h2, _, _⟩ := qNum_run h
        refine ⟨r.takeWhile isHex ++ u, ?_, fun c hc => ?_⟩
        · rw [List.append_assoc, ← h1, List.takeWhile_append_dropWhile]
        · rcases List.mem_append.1 hc with hc | hc
          · exact hex_goes c (mem_tw hc)
          · exact dig_goes c (h2 c hc)
      · cases h
    · obtain ⟨u, h1, h2, _, _⟩ := qNum_run h
      exact ⟨u, h1, fun c hc => dig_goes c (h2 c hc)⟩
  obtain ⟨u, rfl, hu⟩ := hr
  obtain ⟨h1, h2⟩ := kRun (u := c :: u) (rest := rest) (fun d hd => by
    rcases List.mem_cons.1 hd with rfl | hd
    · exact kind_goes d (shape_ne0 hk)
    · exact hu d hd) (stop_not hs)
  rw [List.cons_append] at h1 h2
  refine ⟨c :: u, ?_⟩
  unfold kPieceS
  rw [if_neg (by rw [h1]; simp), h2, if_neg (stop_ne40 hs), h1]
  have h8 : ¬ (kindOf c = 8 ∨ kindOf c = 10) := by
    rintro (e | e) <;> (rw [e] at hk; cases hk; exact hm (by decide))
  unfold fixParts
  rw [List.headD_cons, if_neg h8]; rfl

def KA (f : Nat) : Prop := ∀ (sh : Shape) (acc : List (List UInt8)) (r : List UInt8) (ps : List (List UInt8)) (rest : List UInt8) (acc' : List Tm) (c : UInt8) (F : Nat), qLoop f sh acc r = some (ps, 41 :: rest) → 2 * f ≤ F →
  ∃ tms : List Tm, kLoop F acc' (c :: r) = some (acc' ++ tms, rest) ∧ acc.length + tms.length = ps.length
theorem cons_of_pass {c : UInt8} {l r : List UInt8} (h : pass c l = some r) : l = c :: r := pass_some.1 h
theorem KB_of {f : Nat} (hA : KA f) {l : List UInt8} {k n : Nat} {ps : List (List UInt8)} {rest : List UInt8} (F : Nat) (h : qTermS (qLoop f) l = some (k, n, ps, rest)) (hs : Stop rest) (hF : 2 * f + 1 ≤ F) :
    ∃ tm, kPieceS (kLoop F) l = some (tm, rest) ∧ tm.kind = k ∧ tm.parts.length = ps.length := by
  cases l with
  | nil => cases h
  | cons c r =>
    simp only [qTermS] at h
    obtain ⟨sh, hk, h⟩ := Option.bind_eq_some_iff.1 h
    split at h
    · rename_i hm
      obtain ⟨y, hy, e⟩ := Option.bind_eq_some_iff.1 h
      cases e
      unfold qIn at hy
      obtain ⟨r1, h1, hy⟩ := Option.bind_eq_some_iff.1 hy
      obtain ⟨r2, h2, hy⟩ := Option.bind_eq_some_iff.1 hy
      obtain ⟨r3, h3, hy⟩ := Option.bind_eq_some_iff.1 hy
      obtain ⟨r4, h4, hy⟩ := Option.bind_eq_some_iff.1 hy
      obtain ⟨r5, h5, hy⟩ := Option.bind_eq_some_iff.1 hy
      cases hy
      obtain ⟨ps, y2⟩ := r4
      obtain ⟨n2, q2⟩ := r2
      simp only at h3 h5
      have e1 := cons_of_pass h1
      subst e1
      have e5 : y2 = 41 :: r5 := cons_of_pass h5
      subst e5
      obtain ⟨w1, w2⟩ := kRun (u := [c]) (rest := 40 :: r1) (fun d hd => by
        rw [List.mem_singleton] at hd; subst hd; exact kind_goes d (shape_ne0 hk)) (.inr ⟨40, r1, rfl, rfl⟩)
      rw [List.singleton_append] at w1 w2
      obtain ⟨u, hu, hd, hn1, hn2⟩ := qNum_run h2
      simp only at hu
      suffices key : ∃ ps0 tms : List Tm, kLoop F [] (40 :: r1) = some (ps0, r5) ∧ fixParts (kindOf c) ps0 = some tms ∧ tms.length = ps.length by
        obtain ⟨ps0, tms, k1, k2, k3⟩ := key
        refine ⟨.mk (kindOf c) ((c :: 40 :: r1).take ((c :: 40 :: r1).length - r5.length)) tms, ?_, rfl, k3⟩
        unfold kPieceS
        rw [if_neg (by rw [w1]; simp), w2, if_pos (by simp), k1]
        simp only [Option.bind_some, List.headD_cons]
        rw [k2]; rfl
      cases hb : sh.numbered with
      | true =>
        have h810 : kindOf c = 8 ∨ kindOf c = 10 := by
          revert hk hb hm
          generalize kindOf c = k
          intro hk hm hb
          unfold shapeOf at hk
          split at hk <;> cases hk <;> simp_all
        unfold qComma at h3
        rw [hb, if_pos rfl] at h3
        have e3 := cons_of_pass h3
        have hne := hn1 hb
        obtain ⟨v1, v2⟩ := kRun (u := u) (rest := q2) (fun d hdd => dig_goes d (hd d hdd)) (by rw [e3]; exact .inr ⟨_, _, rfl, rfl⟩)
        rw [← hu] at v1 v2
        have hl : qLoop f sh [] r3 = some (ps, 41 :: r5) := by
          unfold qList at h4
          rw [if_neg (by
            rintro ⟨h0, _⟩
            rw [shape_ls hk hb hm] at h0; omega)] at h4
          exact h4
        obtain ⟨F1, rfl⟩ : ∃ F1, F = F1 + 1 := ⟨F - 1, by omega⟩
        obtain ⟨a, u2, rfl⟩ : ∃ a u2, u = a :: u2 := by
          cases u with
          | nil => exact absurd rfl hne
          | cons a u2 => exact ⟨a, u2, rfl⟩
        have ha := hd a (List.mem_cons_self ..)
        obtain ⟨tms, t1, t2⟩ := hA sh [] r3 ps r5 [.mk (kindOf a) (a :: u2) []] 44 F1 hl (by omega)
        refine ⟨.mk (kindOf a) (a :: u2) [] :: tms, tms, ?_, ?_, by simpa using t2⟩
        · simp only [kLoop]
          have hr1 : r1 = a :: (u2 ++ q2) := by rw [hu]; rfl
          rw [if_neg (by rw [hr1]; intro e; simp at e; subst e; revert ha; decide)]
          have hp : kPieceS (kLoop F1) r1 = some (.mk (kindOf a) (a :: u2) [], q2) := by
            unfold kPieceS
            rw [if_neg (by rw [v1]; simp), v2, if_neg (by rw [e3]; simp), v1]
            have h8 : ¬ (kindOf a = 8 ∨ kindOf a = 10) := by
              have := dig_kind a ha; omega
            rw [show r1.headD 0 = a by rw [hr1]; rfl]
            unfold fixParts
            rw [if_neg h8]; rfl
          rw [hp]
          simp only [Option.bind_some]
          rw [if_pos (by rw [e3]; rfl), e3]
          simpa using t1
        · unfold fixParts
          rw [if_pos h810]
      | false =>
        have h810 : ¬ (kindOf c = 8 ∨ kindOf c = 10) := by
          rintro (e | e) <;> (rw [e] at hk; cases hk; cases hb)
        unfold qComma at h3
        rw [hb, if_neg (by simp)] at h3
        cases h3
        have e0 := hn2 hb
        subst e0
        rw [List.nil_append] at hu
        subst hu
        unfold qList at h4
        split at h4
        · rename_i h41
          cases h4
          obtain ⟨F1, rfl⟩ : ∃ F1, F = F1 + 1 := ⟨F - 1, by omega⟩
          refine ⟨[], [], ?_, by unfold fixParts; rw [if_neg h810], rfl⟩
          simp only [kLoop]
          rw [if_pos (by rfl)]; rfl
        · obtain ⟨tms, t1, t2⟩ := hA sh [] _ ps r5 [] 40 F h4 (by omega)
          exact ⟨tms, tms, by simpa using t1, by unfold fixParts; rw [if_neg h810], by simpa using t2⟩
    · rename_i hm
      obtain ⟨y, hy, e⟩ := Option.bind_eq_some_iff.1 h
      cases e
      obtain ⟨x, hx⟩ := leaf_piece (L := kLoop F) hk hm hy hs
      exact ⟨_, hx, rfl, rfl⟩
theorem kA : ∀ f, KA f := by
  intro f
  induction f with
  | zero => intro sh acc r ps rest acc' c F h; cases h
  | succ f ih =>
    intro sh acc r ps rest acc' c F h hF
    simp only [qLoop] at h
    obtain ⟨⟨k, n, qs, r2⟩, hy, h⟩ := Option.bind_eq_some_iff.1 h
    simp only at h
    obtain ⟨F1, rfl⟩ : ∃ F1, F = F1 + 1 := ⟨F - 1, by omega⟩
    split at h
    · cases h
    · have hst : Stop r2 := by
        split at h
        · rename_i h44; exact .inr (.inl h44)
        · split at h
          · cases h; exact .inr (.inr rfl)
          · cases h
      obtain ⟨tm, t1, t2, t3⟩ := KB_of ih F1 hy hst (by omega)
      have hne : r.head? ≠ some 41 := by
        intro e
        cases r with
        | nil => cases e
        | cons d r =>
          simp at e; subst e
          simp only [qTermS] at hy
          obtain ⟨sh', hk', _⟩ := Option.bind_eq_some_iff.1 hy
          cases hk'
      simp only [kLoop]
      rw [if_neg hne, t1]
      simp only [Option.bind_some]
      split at h
      · rename_i h44
        have e44 := head_cons h44
        obtain ⟨tms, u1, u2⟩ := ih sh _ _ ps rest (acc' ++ [tm]) 44 F1 h (by omega)
        rw [if_pos h44, e44]
        exact ⟨tm :: tms, by simpa using u1, by simp at u2 ⊢; omega⟩
      · rename_i h44
        split at h
        · cases h
          rw [if_neg (by simp), if_pos (by simp)]
          exact ⟨[tm], rfl, by simp⟩
        · cases h
/-- what is a term is read -/
theorem valid_piece (t : List UInt8) (k n : Nat) (ps : List (List UInt8)) (h : qLook t = some (k, n, ps)) : ∃ tm, kPieceS (kLoop (2 * t.length + 1)) t = some (tm, []) ∧ tm.kind = k ∧ (k = 5 → tm.parts ≠ []) := by
  obtain ⟨_, h1⟩ := qLook_some.1 h
  obtain ⟨tm, h2, h3, h4⟩ := KB_of (kA t.length) (2 * t.length + 1) h1 (.inl rfl) (Nat.le_refl _)
  refine ⟨tm, h2, h3, fun h5 e => ?_⟩
  obtain ⟨sh, s1, s2, _⟩ := qTerm_count h1
  simp only at s1 s2
  rw [h5] at s1
  cases s1
  rw [e] at h4
  simp at h4 s2
  omega
end Go.Proofs.Yteiadbiopcidmaa
