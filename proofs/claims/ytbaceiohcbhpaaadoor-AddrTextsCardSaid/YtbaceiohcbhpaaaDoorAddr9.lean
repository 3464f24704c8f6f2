import Derived.Test.YtbaceiohcbhpaaaDoorAddr8
namespace Go.Proofs.YtbaceiohcbhpaaaDoor
set_option linter.unusedVariables false
set_option linter.unusedSimpArgs false
set_option maxRecDepth 100000
open Go.RowKit

def ReadP4 (w : World) (x : Option (List UInt8 × Nat)) (e : Ending) (w' : World) : Prop :=
  ∃ ad n cp m, e = .returned (.tuple #[.agg #[.slice ad n cp, .int .i64 m], .bool x.isSome]) ∧ Bytes w' (.slice ad n cp) ((x.map (·.1)).getD []) ∧ m = (((x.map (·.2)).getD 0 : Nat) : Int) ∧ Below w.heap.size w w'
theorem readp_results (W : World) (b : Nat) (ad : Option Addr) (n cp : Nat) (bits : Int) (r : Bool) (h : W.heap[b]? = some (.cells #[.slice ad n cp, .int .i64 bits] 30 (0, 0))) (T : Array Value) (h2 : T.getD 2 undef = .pointer (some ⟨b, 0, none⟩)) (h3 : T.getD 3 undef = .bool r) :
    (results Tryd.f9 T).run Tryd.prog W = .ok (.tuple #[.agg #[.slice ad n cp, .int .i64 bits], .bool r]) W := by
  have c0 := cell_of h 0 rfl; have c1 := cell_of h 1 rfl
  have e2 : T[2]?.getD undef = .pointer (some ⟨b, 0, none⟩) := by simpa using h2
  have e3 : T[3]?.getD undef = .bool r := by simpa using h3
  simp [results, Tryd.results9, go_sem, e2, e3, c0, c1]
theorem two_stores {W : World} {b : Nat} {T : TypeId} {x0 x1 : Value} (h : W.heap[b]? = some (.cells #[x0, x1] T (0, 0))) (v0 v1 : Value) : ((W.setCell ⟨b, 0, none⟩ v0).setCell ⟨b, 1, none⟩ v1).heap[b]? = some (.cells #[v0, v1] T (0, 0)) := by
  have e1 := set_block (i := 0) (v := v0) h
  exact set_block (i := 1) (v := v1) e1
theorem bytes_stores {w W : World} {v : Value} {l : List UInt8} {T : TypeId} (h : Bytes W v l) (hbox : W.heap[w.heap.size]? = some (.cells #[.slice none 0 0, .int .i64 0] T (0, 0))) (v0 v1 : Value) : Bytes ((W.setCell ⟨w.heap.size, 0, none⟩ v0).setCell ⟨w.heap.size, 1, none⟩ v1) v l := by
  obtain ⟨a, cap, rfl, h⟩ := h
  refine ⟨a, cap, rfl, ?_⟩
  rcases h with h | ⟨b, off, rfl, h⟩
  · exact .inl h
  · by_cases hl : l = []
    · exact .inl hl
    · have hb : b ≠ w.heap.size := by
        intro e
        subst e
        have h0 := h 0 (List.length_pos_iff.2 hl)
        rw [Nat.add_zero] at h0
        match off, h0 with
        | 0, h0 => rw [cell_of hbox 0 rfl] at h0; cases h0
        | 1, h0 => rw [cell_of hbox 1 rfl] at h0; cases h0
        | n + 2, h0 => simp [World.cell?, hbox] at h0
      refine .inr ⟨b, off, rfl, fun i hi => ?_⟩
      rw [World.cell?_setCell_far _ _ _ _ (by simpa using hb.symm), World.cell?_setCell_far _ _ _ _ (by simpa using hb.symm)]
      exact h i hi
theorem rread4_none (s P : ByteArray) (Q : List UInt8) (hQ : Q.length ≤ 900) (hs : s = strB Q) (hx : refRead Q = none) (w : World) : Calls Tryd.prog 7 #[.string s] w fun e w' => ∃ ad n cp, e = .returned (.tuple #[.slice ad n cp, .bool false]) ∧ Below w.heap.size w w' := by
  subst hs
  have h := rread4_any (strB Q) (by rw [strB_size]; exact hQ) w
  rw [show (strB Q).data.toList = Q from rfl, hx] at h
  refine h.mono ?_
  rintro e w' ⟨ad, n, cp, rfl, _, hb⟩
  exact ⟨ad, n, cp, rfl, hb⟩
theorem rread4_some (s : ByteArray) (Q : List UInt8) (hQ : Q.length ≤ 900) (hs : s = strB Q) (a : List UInt8) (hx : refRead Q = some a) (w : World) : Calls Tryd.prog 7 #[.string s] w fun e w' => ∃ ad cp, e = .returned (.tuple #[.slice ad a.length cp, .bool true]) ∧ Bytes w' (.slice ad a.length cp) a ∧ Below w.heap.size w w' := by
  subst hs
  have h := rread4_any (strB Q) (by rw [strB_size]; exact hQ) w
  rw [show (strB Q).data.toList = Q from rfl, hx] at h
  refine h.mono ?_
  rintro e w' ⟨ad, n, cp, rfl, h2, hb⟩
  obtain ⟨a', c', e1, h3⟩ := id h2
  cases e1
  exact ⟨ad, cp, rfl, h2, hb⟩
theorem refRead_len {Q a : List UInt8} (h : refRead Q = some a) : (a.length = 4 ∨ a.length = 16) ∧ printA a = Q := by
  unfold refRead at h
  obtain ⟨g, _, h⟩ := Option.bind_eq_some_iff.1 h
  by_cases hc : (g.length = if Q.length = 39 then 16 else 4) ∧ printA g = Q
  · rw [if_pos hc] at h
    cases h
    refine ⟨?_, hc.2⟩
    have h1 := hc.1
    by_cases h39 : Q.length = 39
    · rw [if_pos h39] at h1; exact .inr h1
    · rw [if_neg h39] at h1; exact .inl h1
  · rw [if_neg hc] at h; cases h
theorem take_slash : ∀ {S : List UInt8} {k : Nat}, NoSlash (S.take k) → k < S.length → S.getD k 0 = 47 → S.takeWhile (· != 47) = S.take k ∧ S.dropWhile (· != 47) = S.drop k := by
  intro S
  induction S with
  | nil => intro k _ h; simp at h
  | cons c S ih =>
    intro k hn hk hc
    cases k with
    | zero =>
      simp at hc
      subst hc
      exact ⟨rfl, rfl⟩
    | succ k =>
      rw [List.take_succ_cons] at hn
      have h1 := hn c (List.mem_cons_self ..)
      have h2 := ih (k := k) (fun x hx => hn x (List.mem_cons_of_mem _ hx)) (by simpa using hk) (by simpa [List.getD] using hc)
      rw [List.takeWhile_cons_of_pos (p := fun x => x != 47) h1, List.dropWhile_cons_of_pos (p := fun x => x != 47) h1, List.take_succ_cons, List.drop_succ_cons, h2.1, h2.2]
      exact ⟨rfl, rfl⟩
theorem none_slash {S : List UInt8} (h : NoSlash S) : S.dropWhile (· != 47) = [] := by
  induction S with
  | nil => rfl
  | cons c S ih =>
    rw [List.dropWhile_cons_of_pos (p := fun x => x != 47) (h c (List.mem_cons_self ..))]
    exact ih fun x hx => h x (List.mem_cons_of_mem _ hx)
theorem refP_of {S : List UInt8} {k : Nat} (hn : NoSlash (S.take k)) (hk : k < S.length) (hc : S.getD k 0 = 47) : refReadP S = (refRead (S.take k)).bind fun a =>
    if rdCode (S.drop (k + 1)) = 0 ∧ (rdVal (S.drop (k + 1))).toNat ≤ 128 ∧ rightP a.length ((rdVal (S.drop (k + 1))).toNat : Int) = true ∧ plainS a (rdVal (S.drop (k + 1))).toNat = a then some (a, (rdVal (S.drop (k + 1))).toNat) else none := by
  obtain ⟨h1, h2⟩ := take_slash hn hk hc
  unfold refReadP
  rw [h1, h2, if_neg (by intro h; have := congrArg List.length h; simp at this; omega), List.tail_drop]
theorem slash_next {S : List UInt8} {k : Nat} (hn : NoSlash (S.take k)) (hk : k < S.length) (hc : S.getD k 0 ≠ 47) : NoSlash (S.take (k + 1)) := by
  rw [List.take_add_one, List.getElem?_eq_getElem hk]
  intro x hx
  rcases List.mem_append.1 hx with hx | hx
  · exact hn x hx
  · simp only [Option.toList_some, List.mem_singleton] at hx
    subst hx
    simp only [bne_iff_ne]
    simpa [List.getD, List.getElem?_eq_getElem hk] using hc
theorem same4_w (a b : List UInt8) (ad bd : Option Addr) (n : Nat) (ha1 : a.length = n) (hb1 : b.length = n) (cp cq : Nat) (m : Int) {r : Bool} (hr : (a == b) = r) (w : World) (ha : Bytes w (.slice ad n cp) a) (hb : Bytes w (.slice bd n cq) b) :
    Calls Tryd.prog 11 #[.agg #[.slice ad n cp, .int .i64 m], .agg #[.slice bd n cq, .int .i64 m]] w fun e w' => e = .returned (.bool r) ∧ Below w.heap.size w w' := by
  subst hr
  subst ha1
  have h := rsame4_any a b ad bd cp cq m m w ha (by rw [hb1]; exact hb)
  rw [hb1] at h
  have e : ((m == m) && (a == b)) = (a == b) := by simp
  rw [e] at h; exact h
theorem rplain_y (a : List UInt8) (ad : Option Addr) (cp : Nat) (bits : Int) (hal : a.length ≤ 1000) (hr : rightP a.length bits = true) (w : World) (ha : Bytes w (.slice ad a.length cp) a) :
    Calls Tryd.prog 16 #[.agg #[.slice ad a.length cp, .int .i64 bits]] w fun e w' => ∃ qd qc, e = .returned (.agg #[.slice qd a.length qc, .int .i64 bits]) ∧ Bytes w' (.slice qd a.length qc) (plainS a bits.toNat) ∧ Below w.heap.size w w' := by
  have h := rplain_v a ad cp bits w ha hal hr
  unfold PlainRet at h
  simp only [plainS_len] at h
  exact h
theorem rread_bad (s : ByteArray) (P : List UInt8) (hP : P.length ≤ 1000) (hs : s = strB P) (w : World) :
    Calls Tryd.prog 22 #[.string s] w fun e w' => e = .returned (.tuple #[.int .u64 (rdVal P), .int .i64 (rdCode P)]) ∧ w = w' := rread_c s P hP hs w
set_option maxHeartbeats 16000000 in
theorem rreadp_any (s : ByteArray) (hs : s.size ≤ 900) (w : World) : Calls Tryd.prog 9 #[.string s] w (ReadP4 w (refReadP s.data.toList)) := by
  have hlen : s.data.toList.length = s.size := by simp
  have HL := Lib.hid hlen
  have HBX : Hid ((w.alloc (.cells #[.slice none 0 0, .int .i64 0] 30)).heap[w.heap.size]? = some (.cells #[.slice none 0 0, .int .i64 0] 30 (0, 0))) := Lib.hid (heap_alloc_new w _)
  have HB : Hid (Below w.heap.size w (w.alloc (.cells #[.slice none 0 0, .int .i64 0] 30))) := Lib.hid (below_one _)
  clear hlen
  go_enter Tryd.func9, Tryd.ntmps9
  go_wp2_with fail
  go_loop [4] (fun i => ∃ k : Nat, i = .int .i64 k ∧ k ≤ s.size ∧ NoSlash (s.data.toList.take k)) (fun i => s.size - (intOf i).toNat)
  case atStart => exact ⟨0, rfl, by omega, fun c hc => by simp at hc⟩
  case round =>
    obtain ⟨k, rfl, hk, hns⟩ := hrel
    have HNS := Lib.hid hns
    clear hns
    by_cases hlt : k < s.size
    · have hget := get_byte s k hlt
      have hki : (k : Int) < s.size := by omega
      by_cases h47 : s.data.toList.getD k 0 = 47
      · have HR0 := Lib.hid (refP_of HNS.out (by rw [HL.out]; exact hlt) h47)
        have e47 : (((s[k]).toNat : Int) != 47) = false := by rw [← hget, h47]; rfl
        have eat : ((k : Int) == s.size) = false := bne_i (by omega)
        have hk0 : (0 : Int) ≤ k := by omega
        have hk1 : (0 : Int) ≤ (k : Int) + 1 := by omega
        have hk2 : (k : Int) + 1 ≤ s.size := by omega
        obtain ⟨Q, hQ⟩ : ∃ Q, s.data.toList.take k = Q := ⟨_, rfl⟩
        obtain ⟨U, hU⟩ : ∃ U, s.data.toList.drop (k + 1) = U := ⟨_, rfl⟩
        have hQl : Q.length ≤ 900 := by rw [← hQ, List.length_take, HL.out]; omega
        have hUl : U.length ≤ 1000 := by rw [← hU, List.length_drop, HL.out]; omega
        have hxQ : s.extract 0 k = strB Q := by rw [ext_piece, ← hQ]; unfold piece; simp
        have hxU : s.extract (k + 1) s.size = strB U := by rw [ext_piece, ← hU]; unfold piece; rw [List.take_of_length_le (by rw [List.length_drop, HL.out]; omega)]
        rw [hQ, hU] at HR0
        have HXQ := Lib.hid hxQ
        have HXU := Lib.hid hxU
        clear hget h47 hQ hU hxQ hxU
        cases hr : refRead Q with
        | none =>
          have HR : Hid (refReadP s.data.toList = none) := Lib.hid (by rw [HR0.out, hr]; rfl)
          have HRD := Lib.hid (rread4_none (s.extract 0 k) s Q hQl HXQ.out hr)
          have HRN := Lib.hid (rread_bad _ U hUl HXU.out)
          clear hr hQl hUl
          go_wp2_with (first | (go_at_call 7; ((with_reducible refine (HRD.out _).mono ?_); rintro e wn ⟨ad, nn, cp, rfl, hb⟩; have HBX := Lib.hid ((hb.block _ (Array.getElem?_eq_some_iff.1 HBX.out).1).trans HBX.out); have HB := Lib.hid (Below.next HB.out hb); clear hb; have z0 := cell_of HBX.out 0 rfl; have z1 := cell_of HBX.out 1 rfl; have zf := fun i => free_of HBX.out i)) | (go_at_call 22; ((with_reducible refine (HRN.out _).mono ?_); rintro e wm ⟨rfl, rfl⟩)) | fail)
          refine bodyPost_ret (readp_results _ _ _ _ _ _ _ (two_stores HBX.out _ _) _ rfl rfl) rfl ⟨none, 0, 0, 0, by rw [HR.out]; rfl, by rw [HR.out]; exact bytes_nil _, by rw [HR.out]; rfl, (HB.out.setCell (by simp) _).setCell (by simp) _⟩
        | some a =>
          have ha := (refRead_len hr).1
          have hal : a.length ≤ 16 := by omega
          have HRD := Lib.hid (rread4_some (s.extract 0 k) Q hQl HXQ.out a hr)
          rw [hr] at HR0
          have HR1 : Hid (refReadP s.data.toList = if rdCode U = 0 ∧ (rdVal U).toNat ≤ 128 ∧ rightP a.length ((rdVal U).toNat : Int) = true ∧ plainS a (rdVal U).toNat = a then some (a, (rdVal U).toNat) else none) := Lib.hid HR0.out
          clear hr hQl ha
          by_cases hc : rdCode U = 0
          · obtain ⟨u, hu, hut, _⟩ := decs_rd U hc
            have HRN := Lib.hid (rread_ok _ U hUl HXU.out u hu hc)
            have HR2 : Hid (refReadP s.data.toList = if u ≤ 128 ∧ rightP a.length (u : Int) = true ∧ plainS a u = a then some (a, u) else none) := Lib.hid (by rw [HR1.out, hu]; simp [hc])
            have hu0 : (0 : Int) ≤ u := by omega
            have hut2 : (u : Int) ≤ 18446744073709551615 := by unfold top at hut; omega
            clear hc hu hut hUl
            by_cases h128 : u ≤ 128
            · have hui : (u : Int) ≤ 128 := by omega
              clear hut2
              cases hri : rightP a.length (u : Int) with
              | false =>
                have HR : Hid (refReadP s.data.toList = none) := Lib.hid (by rw [HR2.out, if_neg]; rintro ⟨_, h, _⟩; rw [hri] at h; cases h)
                have HRR := Lib.hid (fun ad cp w => rright_v ad a.length cp (u : Int) (by omega) false hri w)
                have HRPL : Hid True := Lib.hid trivial
                have HSM : Hid True := Lib.hid trivial
                clear hri
                go_wp2_with (first | (go_at_call 7; ((with_reducible refine (HRD.out _).mono ?_); rintro e wn ⟨ad, cp, rfl, hva, hb⟩; have HVA := Lib.hid hva; clear hva; have HBX := Lib.hid ((hb.block _ (Array.getElem?_eq_some_iff.1 HBX.out).1).trans HBX.out); have HB := Lib.hid (Below.next HB.out hb); clear hb; have z0 := cell_of HBX.out 0 rfl; have z1 := cell_of HBX.out 1 rfl; have zf := fun i => free_of HBX.out i)) | (go_at_call 22; ((with_reducible refine (HRN.out _).mono ?_); rintro e wm ⟨rfl, rfl⟩)) | fail)
                have hpb := heap_alloc_new wn (.cells #[.slice ad a.length cp, .int .i64 u] 30)
                have hb := below_one (w := wn) (.cells #[.slice ad a.length cp, .int .i64 u] 30)
                have HVA := Lib.hid (Bytes.below HVA.out hb); have HBX := Lib.hid ((hb.block _ (Array.getElem?_eq_some_iff.1 HBX.out).1).trans HBX.out); have HB := Lib.hid (Below.next HB.out hb); clear hb
                generalize wn.alloc (.cells #[.slice ad a.length cp, .int .i64 u] 30) = wv at *
                generalize wn.heap.size = B at *
                have c0 : wv.drew.cell? ⟨B, 0, none⟩ = some (.slice ad a.length cp) := cell_of hpb 0 rfl
                have c1 : wv.drew.cell? ⟨B, 1, none⟩ = some (.int .i64 u) := cell_of hpb 1 rfl
                have HB : Hid (Below w.heap.size w wv.drew) := Lib.hid HB.out.drew
                have HVA : Hid (Bytes wv.drew (.slice ad a.length cp) a) := Lib.hid HVA.out
                have HBX : Hid (wv.drew.heap[w.heap.size]? = some (.cells #[.slice none 0 0, .int .i64 0] 30 (0, 0))) := Lib.hid HBX.out
                clear hpb z0 z1 zf
                refine wp_region_held_drew (S := (fun W => W.cell? ⟨B, 0, none⟩ = some (.slice ad a.length cp) ∧ W.cell? ⟨B, 1, none⟩ = some (.int .i64 u))) (by kernel_rfl) ?_ (fun hHeld0 => ?_)
                · (try dsimp only); exact ⟨c0, c1⟩
                first
                | (refine wpAnyH_take (i := 0) (oi := { dst := some 57, op := Go.Op.load 30 (Go.Operand.tmp 9), type := 30, pos := "ref.go:112", after := #[], guard := none }) (v := ?_) rfl (by kernel_rfl) (by kernel_rfl) (by kernel_rfl) (fun _ _ _ h => h) (Or.inl ⟨by rfl, ?_⟩) hHeld0 ?_
                   rotate_left
                   · ((intro w hSw; (try dsimp only at hSw); go_simp) <;> (first | with_reducible rfl | (rw [if_neg (by omega)]; done))))
                | (refine wpAnyH_take (i := 0) (oi := { dst := some 57, op := Go.Op.load 30 (Go.Operand.tmp 9), type := 30, pos := "ref.go:112", after := #[], guard := none }) (v := undef) rfl (by kernel_rfl) (by kernel_rfl) (by kernel_rfl) (fun _ _ _ h => h) (Or.inr ⟨by rfl, rfl⟩) hHeld0 ?_)
                try simp only [Act.put, List.setIfInBounds_toArray, List.set_cons_zero, List.set_cons_succ]
                refine wpAnyH_ready (rs := [1]) (by kernel_rfl) (by simp) ?_
                refine AllReadyH.cons (o := { dst := some 58, op := Go.Op.call { callee := Go.Callee.value (Go.Operand.func 15), args := #[Go.Operand.tmp 57], argTypes := #[30] }, type := 4, pos := "ref.go:112", after := #[{ on := 0, ground := Go.Ground.data }], guard := none }) rfl (fun Kr1 hK => ?_) AllReadyH.nil
                go_simp
                ((go_at_call 15; (with_reducible refine (HRR.out ad cp _).mono ?_); rintro e wn ⟨rfl, hb⟩))
                refine hK.out _ _ ?_ (fun hHeld1 => ?_)
                · (try dsimp only); exact ⟨cell_keep4 hHeld0.1 hb, cell_keep4 hHeld0.2 hb⟩
                have c0 := cell_keep4 hHeld0.1 hb
                have c1 := cell_keep4 hHeld0.2 hb
                have HVA := Lib.hid (Bytes.below HVA.out hb); have HBX := Lib.hid ((hb.block _ (Array.getElem?_eq_some_iff.1 HBX.out).1).trans HBX.out); have HB := Lib.hid (Below.next HB.out hb); clear hb
                clear hK Kr1 hHeld0
                try simp only [Act.put, List.setIfInBounds_toArray, List.set_cons_zero, List.set_cons_succ]
                first
                | (refine wpAnyH_take (i := 2) (oi := { dst := some 59, op := Go.Op.unOp Go.UnOp.not 4 (Go.Operand.tmp 58), type := 4, pos := "ref.go:112", after := #[{ on := 1, ground := Go.Ground.data }], guard := none }) (v := ?_) rfl (by kernel_rfl) (by kernel_rfl) (by kernel_rfl) (fun _ _ _ h => h) (Or.inl ⟨by rfl, ?_⟩) hHeld1 ?_
                   rotate_left
                   · ((intro w hSw; (try dsimp only at hSw); go_simp) <;> (first | with_reducible rfl | (rw [if_neg (by omega)]; done))))
                | (refine wpAnyH_take (i := 2) (oi := { dst := some 59, op := Go.Op.unOp Go.UnOp.not 4 (Go.Operand.tmp 58), type := 4, pos := "ref.go:112", after := #[{ on := 1, ground := Go.Ground.data }], guard := none }) (v := undef) rfl (by kernel_rfl) (by kernel_rfl) (by kernel_rfl) (fun _ _ _ h => h) (Or.inr ⟨by rfl, rfl⟩) hHeld1 ?_)
                try simp only [Act.put, List.setIfInBounds_toArray, List.set_cons_zero, List.set_cons_succ]
                first
                | (refine wpAnyH_take (i := 3) (oi := { dst := some 60, op := Go.Op.move (Go.Operand.tmp 59), type := 4, pos := "ref.go:112", after := #[{ on := 2, ground := Go.Ground.data }, { on := 1, ground := Go.Ground.chain }], guard := none }) (v := ?_) rfl (by kernel_rfl) (by kernel_rfl) (by kernel_rfl) (fun _ _ _ h => h) (Or.inl ⟨by rfl, ?_⟩) hHeld1 ?_
                   rotate_left
                   · ((intro w hSw; (try dsimp only at hSw); go_simp) <;> (first | with_reducible rfl | (rw [if_neg (by omega)]; done))))
                | (refine wpAnyH_take (i := 3) (oi := { dst := some 60, op := Go.Op.move (Go.Operand.tmp 59), type := 4, pos := "ref.go:112", after := #[{ on := 2, ground := Go.Ground.data }, { on := 1, ground := Go.Ground.chain }], guard := none }) (v := undef) rfl (by kernel_rfl) (by kernel_rfl) (by kernel_rfl) (fun _ _ _ h => h) (Or.inr ⟨by rfl, rfl⟩) hHeld1 ?_)
                try simp only [Act.put, List.setIfInBounds_toArray, List.set_cons_zero, List.set_cons_succ]
                first
                | (refine wpAnyH_take (i := 4) (oi := { dst := some 61, op := Go.Op.load 30 (Go.Operand.tmp 9), type := 30, pos := "ref.go:112", after := #[{ on := 3, ground := Go.Ground.guard }], guard := some (3, false) }) (v := ?_) rfl (by kernel_rfl) (by kernel_rfl) (by kernel_rfl) (fun _ _ _ h => h) (Or.inl ⟨by rfl, ?_⟩) hHeld1 ?_
                   rotate_left
                   · ((intro w hSw; (try dsimp only at hSw); go_simp) <;> (first | with_reducible rfl | (rw [if_neg (by omega)]; done))))
                | (refine wpAnyH_take (i := 4) (oi := { dst := some 61, op := Go.Op.load 30 (Go.Operand.tmp 9), type := 30, pos := "ref.go:112", after := #[{ on := 3, ground := Go.Ground.guard }], guard := some (3, false) }) (v := undef) rfl (by kernel_rfl) (by kernel_rfl) (by kernel_rfl) (fun _ _ _ h => h) (Or.inr ⟨by rfl, rfl⟩) hHeld1 ?_)
                try simp only [Act.put, List.setIfInBounds_toArray, List.set_cons_zero, List.set_cons_succ]
                first
                | (refine wpAnyH_take (i := 6) (oi := { dst := some 63, op := Go.Op.load 30 (Go.Operand.tmp 9), type := 30, pos := "ref.go:112", after := #[{ on := 3, ground := Go.Ground.guard }], guard := some (3, false) }) (v := ?_) rfl (by kernel_rfl) (by kernel_rfl) (by kernel_rfl) (fun _ _ _ h => h) (Or.inl ⟨by rfl, ?_⟩) hHeld1 ?_
                   rotate_left
                   · ((intro w hSw; (try dsimp only at hSw); go_simp) <;> (first | with_reducible rfl | (rw [if_neg (by omega)]; done))))
                | (refine wpAnyH_take (i := 6) (oi := { dst := some 63, op := Go.Op.load 30 (Go.Operand.tmp 9), type := 30, pos := "ref.go:112", after := #[{ on := 3, ground := Go.Ground.guard }], guard := some (3, false) }) (v := undef) rfl (by kernel_rfl) (by kernel_rfl) (by kernel_rfl) (fun _ _ _ h => h) (Or.inr ⟨by rfl, rfl⟩) hHeld1 ?_)
                try simp only [Act.put, List.setIfInBounds_toArray, List.set_cons_zero, List.set_cons_succ]
                refine wpAnyH_take (i := 5) (oi := { dst := some 62, op := Go.Op.call { callee := Go.Callee.value (Go.Operand.func 16), args := #[Go.Operand.tmp 61], argTypes := #[30] }, type := 30, pos := "ref.go:112", after := #[{ on := 4, ground := Go.Ground.data }, { on := 3, ground := Go.Ground.chain }, { on := 3, ground := Go.Ground.guard }], guard := some (3, false) }) (v := undef) rfl (by kernel_rfl) (by kernel_rfl) (by kernel_rfl) (fun _ _ _ h => h) (Or.inr ⟨by rfl, rfl⟩) hHeld1 ?_
                try simp only [Act.put, List.setIfInBounds_toArray, List.set_cons_zero, List.set_cons_succ]
                refine wpAnyH_take (i := 7) (oi := { dst := some 64, op := Go.Op.call { callee := Go.Callee.value (Go.Operand.func 11), args := #[Go.Operand.tmp 62, Go.Operand.tmp 63], argTypes := #[30, 30] }, type := 4, pos := "ref.go:112", after := #[{ on := 5, ground := Go.Ground.data }, { on := 6, ground := Go.Ground.data }, { on := 5, ground := Go.Ground.chain }, { on := 3, ground := Go.Ground.guard }], guard := some (3, false) }) (v := undef) rfl (by kernel_rfl) (by kernel_rfl) (by kernel_rfl) (fun _ _ _ h => h) (Or.inr ⟨by rfl, rfl⟩) hHeld1 ?_
                try simp only [Act.put, List.setIfInBounds_toArray, List.set_cons_zero, List.set_cons_succ]
                first
                | (refine wpAnyH_take (i := 8) (oi := { dst := some 65, op := Go.Op.unOp Go.UnOp.not 4 (Go.Operand.tmp 64), type := 4, pos := "ref.go:112", after := #[{ on := 7, ground := Go.Ground.data }, { on := 3, ground := Go.Ground.guard }], guard := some (3, false) }) (v := ?_) rfl (by kernel_rfl) (by kernel_rfl) (by kernel_rfl) (fun _ _ _ h => h) (Or.inl ⟨by rfl, ?_⟩) hHeld1 ?_
                   rotate_left
                   · ((intro w hSw; (try dsimp only at hSw); go_simp) <;> (first | with_reducible rfl | (rw [if_neg (by omega)]; done))))
                | (refine wpAnyH_take (i := 8) (oi := { dst := some 65, op := Go.Op.unOp Go.UnOp.not 4 (Go.Operand.tmp 64), type := 4, pos := "ref.go:112", after := #[{ on := 7, ground := Go.Ground.data }, { on := 3, ground := Go.Ground.guard }], guard := some (3, false) }) (v := undef) rfl (by kernel_rfl) (by kernel_rfl) (by kernel_rfl) (fun _ _ _ h => h) (Or.inr ⟨by rfl, rfl⟩) hHeld1 ?_)
                try simp only [Act.put, List.setIfInBounds_toArray, List.set_cons_zero, List.set_cons_succ]
                first
                | (refine wpAnyH_take (i := 9) (oi := { dst := some 66, op := Go.Op.pick (Go.Operand.tmp 60) (Go.Operand.const (Go.Value.bool true)) (Go.Operand.tmp 65), type := 4, pos := "ref.go:112", after := #[{ on := 3, ground := Go.Ground.data }, { on := 8, ground := Go.Ground.data }], guard := none }) (v := ?_) rfl (by kernel_rfl) (by kernel_rfl) (by kernel_rfl) (fun _ _ _ h => h) (Or.inl ⟨by rfl, ?_⟩) hHeld1 ?_
                   rotate_left
                   · ((intro w hSw; (try dsimp only at hSw); go_simp) <;> (first | with_reducible rfl | (rw [if_neg (by omega)]; done))))
                | (refine wpAnyH_take (i := 9) (oi := { dst := some 66, op := Go.Op.pick (Go.Operand.tmp 60) (Go.Operand.const (Go.Value.bool true)) (Go.Operand.tmp 65), type := 4, pos := "ref.go:112", after := #[{ on := 3, ground := Go.Ground.data }, { on := 8, ground := Go.Ground.data }], guard := none }) (v := undef) rfl (by kernel_rfl) (by kernel_rfl) (by kernel_rfl) (fun _ _ _ h => h) (Or.inr ⟨by rfl, rfl⟩) hHeld1 ?_)
                try simp only [Act.put, List.setIfInBounds_toArray, List.set_cons_zero, List.set_cons_succ]
                refine wpAnyH_done (by kernel_rfl) ?_ _
                clear hHeld1
                have z0 := cell_of HBX.out 0 rfl; have z1 := cell_of HBX.out 1 rfl; have zf := fun i => free_of HBX.out i
                go_wp2_with fail
                refine bodyPost_ret (readp_results _ _ _ _ _ _ _ (two_stores HBX.out _ _) _ rfl rfl) rfl ⟨none, 0, 0, 0, by rw [HR.out]; rfl, by rw [HR.out]; exact bytes_nil _, by rw [HR.out]; rfl, (HB.out.setCell (by simp) _).setCell (by simp) _⟩
              | true =>
                have HRR := Lib.hid (fun ad cp w => rright_v ad a.length cp (u : Int) (by omega) true hri w)
                have HRPL : Hid (∀ ad cp w, Bytes w (.slice ad a.length cp) a → Calls Tryd.prog 16 #[.agg #[.slice ad a.length cp, .int .i64 u]] w fun e w' => ∃ qd qc, e = .returned (.agg #[.slice qd a.length qc, .int .i64 u]) ∧ Bytes w' (.slice qd a.length qc) (plainS a u) ∧ Below w.heap.size w w') :=
                  Lib.hid (fun ad cp w h => by have := rplain_y a ad cp (u : Int) (by omega) hri w h; simpa using this)
                by_cases hpa : plainS a u = a
                · have HR : Hid (refReadP s.data.toList = some (a, u)) := Lib.hid (by rw [HR2.out, if_pos ⟨h128, hri, hpa⟩])
                  have HSM := Lib.hid (fun sd sc ad cp w h1 h2 => same4_w (plainS a u) a sd ad a.length (plainS_len a u) rfl sc cp (u : Int) (r := true) (by rw [hpa]; simp) w h1 h2)
                  clear hri hpa
                  go_wp2_with (first | (go_at_call 7; ((with_reducible refine (HRD.out _).mono ?_); rintro e wn ⟨ad, cp, rfl, hva, hb⟩; have HVA := Lib.hid hva; clear hva; have HBX := Lib.hid ((hb.block _ (Array.getElem?_eq_some_iff.1 HBX.out).1).trans HBX.out); have HB := Lib.hid (Below.next HB.out hb); clear hb; have z0 := cell_of HBX.out 0 rfl; have z1 := cell_of HBX.out 1 rfl; have zf := fun i => free_of HBX.out i)) | (go_at_call 22; ((with_reducible refine (HRN.out _).mono ?_); rintro e wm ⟨rfl, rfl⟩)) | fail)
                  have hpb := heap_alloc_new wn (.cells #[.slice ad a.length cp, .int .i64 u] 30)
                  have hb := below_one (w := wn) (.cells #[.slice ad a.length cp, .int .i64 u] 30)
                  have HVA := Lib.hid (Bytes.below HVA.out hb); have HBX := Lib.hid ((hb.block _ (Array.getElem?_eq_some_iff.1 HBX.out).1).trans HBX.out); have HB := Lib.hid (Below.next HB.out hb); clear hb
                  generalize wn.alloc (.cells #[.slice ad a.length cp, .int .i64 u] 30) = wv at *
                  generalize wn.heap.size = B at *
                  have c0 : wv.drew.cell? ⟨B, 0, none⟩ = some (.slice ad a.length cp) := cell_of hpb 0 rfl
                  have c1 : wv.drew.cell? ⟨B, 1, none⟩ = some (.int .i64 u) := cell_of hpb 1 rfl
                  have HB : Hid (Below w.heap.size w wv.drew) := Lib.hid HB.out.drew
                  have HVA : Hid (Bytes wv.drew (.slice ad a.length cp) a) := Lib.hid HVA.out
                  have HBX : Hid (wv.drew.heap[w.heap.size]? = some (.cells #[.slice none 0 0, .int .i64 0] 30 (0, 0))) := Lib.hid HBX.out
                  clear hpb z0 z1 zf
                  refine wp_region_held_drew (S := (fun W => W.cell? ⟨B, 0, none⟩ = some (.slice ad a.length cp) ∧ W.cell? ⟨B, 1, none⟩ = some (.int .i64 u))) (by kernel_rfl) ?_ (fun hHeld0 => ?_)
                  · (try dsimp only); exact ⟨c0, c1⟩
                  first
                  | (refine wpAnyH_take (i := 0) (oi := { dst := some 57, op := Go.Op.load 30 (Go.Operand.tmp 9), type := 30, pos := "ref.go:112", after := #[], guard := none }) (v := ?_) rfl (by kernel_rfl) (by kernel_rfl) (by kernel_rfl) (fun _ _ _ h => h) (Or.inl ⟨by rfl, ?_⟩) hHeld0 ?_
                     rotate_left
                     · ((intro w hSw; (try dsimp only at hSw); go_simp) <;> (first | with_reducible rfl | (rw [if_neg (by omega)]; done))))
                  | (refine wpAnyH_take (i := 0) (oi := { dst := some 57, op := Go.Op.load 30 (Go.Operand.tmp 9), type := 30, pos := "ref.go:112", after := #[], guard := none }) (v := undef) rfl (by kernel_rfl) (by kernel_rfl) (by kernel_rfl) (fun _ _ _ h => h) (Or.inr ⟨by rfl, rfl⟩) hHeld0 ?_)
                  try simp only [Act.put, List.setIfInBounds_toArray, List.set_cons_zero, List.set_cons_succ]
                  refine wpAnyH_ready (rs := [1]) (by kernel_rfl) (by simp) ?_
                  refine AllReadyH.cons (o := { dst := some 58, op := Go.Op.call { callee := Go.Callee.value (Go.Operand.func 15), args := #[Go.Operand.tmp 57], argTypes := #[30] }, type := 4, pos := "ref.go:112", after := #[{ on := 0, ground := Go.Ground.data }], guard := none }) rfl (fun Kr1 hK => ?_) AllReadyH.nil
                  go_simp
                  ((go_at_call 15; (with_reducible refine (HRR.out ad cp _).mono ?_); rintro e wn ⟨rfl, hb⟩))
                  refine hK.out _ _ ?_ (fun hHeld1 => ?_)
                  · (try dsimp only); exact ⟨cell_keep4 hHeld0.1 hb, cell_keep4 hHeld0.2 hb⟩
                  have c0 := cell_keep4 hHeld0.1 hb
                  have c1 := cell_keep4 hHeld0.2 hb
                  have HVA := Lib.hid (Bytes.below HVA.out hb); have HBX := Lib.hid ((hb.block _ (Array.getElem?_eq_some_iff.1 HBX.out).1).trans HBX.out); have HB := Lib.hid (Below.next HB.out hb); clear hb
                  clear hK Kr1 hHeld0
                  try simp only [Act.put, List.setIfInBounds_toArray, List.set_cons_zero, List.set_cons_succ]
                  first
                  | (refine wpAnyH_take (i := 2) (oi := { dst := some 59, op := Go.Op.unOp Go.UnOp.not 4 (Go.Operand.tmp 58), type := 4, pos := "ref.go:112", after := #[{ on := 1, ground := Go.Ground.data }], guard := none }) (v := ?_) rfl (by kernel_rfl) (by kernel_rfl) (by kernel_rfl) (fun _ _ _ h => h) (Or.inl ⟨by rfl, ?_⟩) hHeld1 ?_
                     rotate_left
                     · ((intro w hSw; (try dsimp only at hSw); go_simp) <;> (first | with_reducible rfl | (rw [if_neg (by omega)]; done))))
                  | (refine wpAnyH_take (i := 2) (oi := { dst := some 59, op := Go.Op.unOp Go.UnOp.not 4 (Go.Operand.tmp 58), type := 4, pos := "ref.go:112", after := #[{ on := 1, ground := Go.Ground.data }], guard := none }) (v := undef) rfl (by kernel_rfl) (by kernel_rfl) (by kernel_rfl) (fun _ _ _ h => h) (Or.inr ⟨by rfl, rfl⟩) hHeld1 ?_)
                  try simp only [Act.put, List.setIfInBounds_toArray, List.set_cons_zero, List.set_cons_succ]
                  first
                  | (refine wpAnyH_take (i := 3) (oi := { dst := some 60, op := Go.Op.move (Go.Operand.tmp 59), type := 4, pos := "ref.go:112", after := #[{ on := 2, ground := Go.Ground.data }, { on := 1, ground := Go.Ground.chain }], guard := none }) (v := ?_) rfl (by kernel_rfl) (by kernel_rfl) (by kernel_rfl) (fun _ _ _ h => h) (Or.inl ⟨by rfl, ?_⟩) hHeld1 ?_
                     rotate_left
                     · ((intro w hSw; (try dsimp only at hSw); go_simp) <;> (first | with_reducible rfl | (rw [if_neg (by omega)]; done))))
                  | (refine wpAnyH_take (i := 3) (oi := { dst := some 60, op := Go.Op.move (Go.Operand.tmp 59), type := 4, pos := "ref.go:112", after := #[{ on := 2, ground := Go.Ground.data }, { on := 1, ground := Go.Ground.chain }], guard := none }) (v := undef) rfl (by kernel_rfl) (by kernel_rfl) (by kernel_rfl) (fun _ _ _ h => h) (Or.inr ⟨by rfl, rfl⟩) hHeld1 ?_)
                  try simp only [Act.put, List.setIfInBounds_toArray, List.set_cons_zero, List.set_cons_succ]
                  first
                  | (refine wpAnyH_take (i := 4) (oi := { dst := some 61, op := Go.Op.load 30 (Go.Operand.tmp 9), type := 30, pos := "ref.go:112", after := #[{ on := 3, ground := Go.Ground.guard }], guard := some (3, false) }) (v := ?_) rfl (by kernel_rfl) (by kernel_rfl) (by kernel_rfl) (fun _ _ _ h => h) (Or.inl ⟨by rfl, ?_⟩) hHeld1 ?_
                     rotate_left
                     · ((intro w hSw; (try dsimp only at hSw); go_simp) <;> (first | with_reducible rfl | (rw [if_neg (by omega)]; done))))
                  | (refine wpAnyH_take (i := 4) (oi := { dst := some 61, op := Go.Op.load 30 (Go.Operand.tmp 9), type := 30, pos := "ref.go:112", after := #[{ on := 3, ground := Go.Ground.guard }], guard := some (3, false) }) (v := undef) rfl (by kernel_rfl) (by kernel_rfl) (by kernel_rfl) (fun _ _ _ h => h) (Or.inr ⟨by rfl, rfl⟩) hHeld1 ?_)
                  try simp only [Act.put, List.setIfInBounds_toArray, List.set_cons_zero, List.set_cons_succ]
                  first
                  | (refine wpAnyH_take (i := 6) (oi := { dst := some 63, op := Go.Op.load 30 (Go.Operand.tmp 9), type := 30, pos := "ref.go:112", after := #[{ on := 3, ground := Go.Ground.guard }], guard := some (3, false) }) (v := ?_) rfl (by kernel_rfl) (by kernel_rfl) (by kernel_rfl) (fun _ _ _ h => h) (Or.inl ⟨by rfl, ?_⟩) hHeld1 ?_
                     rotate_left
                     · ((intro w hSw; (try dsimp only at hSw); go_simp) <;> (first | with_reducible rfl | (rw [if_neg (by omega)]; done))))
                  | (refine wpAnyH_take (i := 6) (oi := { dst := some 63, op := Go.Op.load 30 (Go.Operand.tmp 9), type := 30, pos := "ref.go:112", after := #[{ on := 3, ground := Go.Ground.guard }], guard := some (3, false) }) (v := undef) rfl (by kernel_rfl) (by kernel_rfl) (by kernel_rfl) (fun _ _ _ h => h) (Or.inr ⟨by rfl, rfl⟩) hHeld1 ?_)
                  try simp only [Act.put, List.setIfInBounds_toArray, List.set_cons_zero, List.set_cons_succ]
                  refine wpAnyH_ready (rs := [5]) (by kernel_rfl) (by simp) ?_
                  refine AllReadyH.cons (o := { dst := some 62, op := Go.Op.call { callee := Go.Callee.value (Go.Operand.func 16), args := #[Go.Operand.tmp 61], argTypes := #[30] }, type := 30, pos := "ref.go:112", after := #[{ on := 4, ground := Go.Ground.data }, { on := 3, ground := Go.Ground.chain }, { on := 3, ground := Go.Ground.guard }], guard := some (3, false) }) rfl (fun Kr5 hK => ?_) AllReadyH.nil
                  go_simp
                  ((go_at_call 16; (with_reducible refine (HRPL.out ad cp _ HVA.out).mono ?_); rintro e wn ⟨sd, sc, rfl, hvs, hb⟩; have HVS := Lib.hid hvs; clear hvs))
                  refine hK.out _ _ ?_ (fun hHeld2 => ?_)
                  · (try dsimp only); exact ⟨cell_keep4 hHeld1.1 hb, cell_keep4 hHeld1.2 hb⟩
                  have c0 := cell_keep4 hHeld1.1 hb
                  have c1 := cell_keep4 hHeld1.2 hb
                  have HVA := Lib.hid (Bytes.below HVA.out hb); have HBX := Lib.hid ((hb.block _ (Array.getElem?_eq_some_iff.1 HBX.out).1).trans HBX.out); have HB := Lib.hid (Below.next HB.out hb); clear hb
                  clear hK Kr5 hHeld1
                  try simp only [Act.put, List.setIfInBounds_toArray, List.set_cons_zero, List.set_cons_succ]
                  refine wpAnyH_ready (rs := [7]) (by kernel_rfl) (by simp) ?_
                  refine AllReadyH.cons (o := { dst := some 64, op := Go.Op.call { callee := Go.Callee.value (Go.Operand.func 11), args := #[Go.Operand.tmp 62, Go.Operand.tmp 63], argTypes := #[30, 30] }, type := 4, pos := "ref.go:112", after := #[{ on := 5, ground := Go.Ground.data }, { on := 6, ground := Go.Ground.data }, { on := 5, ground := Go.Ground.chain }, { on := 3, ground := Go.Ground.guard }], guard := some (3, false) }) rfl (fun Kr7 hK => ?_) AllReadyH.nil
                  go_simp
                  ((go_at_call 11; (with_reducible refine (HSM.out sd sc ad cp _ HVS.out HVA.out).mono ?_); rintro e wn ⟨rfl, hb⟩))
                  refine hK.out _ _ ?_ (fun hHeld3 => ?_)
                  · (try dsimp only); exact ⟨cell_keep4 hHeld2.1 hb, cell_keep4 hHeld2.2 hb⟩
                  have c0 := cell_keep4 hHeld2.1 hb
                  have c1 := cell_keep4 hHeld2.2 hb
                  have HVA := Lib.hid (Bytes.below HVA.out hb); have HBX := Lib.hid ((hb.block _ (Array.getElem?_eq_some_iff.1 HBX.out).1).trans HBX.out); have HB := Lib.hid (Below.next HB.out hb); clear hb
                  clear hK Kr7 hHeld2
                  try simp only [Act.put, List.setIfInBounds_toArray, List.set_cons_zero, List.set_cons_succ]
                  first
                  | (refine wpAnyH_take (i := 8) (oi := { dst := some 65, op := Go.Op.unOp Go.UnOp.not 4 (Go.Operand.tmp 64), type := 4, pos := "ref.go:112", after := #[{ on := 7, ground := Go.Ground.data }, { on := 3, ground := Go.Ground.guard }], guard := some (3, false) }) (v := ?_) rfl (by kernel_rfl) (by kernel_rfl) (by kernel_rfl) (fun _ _ _ h => h) (Or.inl ⟨by rfl, ?_⟩) hHeld3 ?_
                     rotate_left
                     · ((intro w hSw; (try dsimp only at hSw); go_simp) <;> (first | with_reducible rfl | (rw [if_neg (by omega)]; done))))
                  | (refine wpAnyH_take (i := 8) (oi := { dst := some 65, op := Go.Op.unOp Go.UnOp.not 4 (Go.Operand.tmp 64), type := 4, pos := "ref.go:112", after := #[{ on := 7, ground := Go.Ground.data }, { on := 3, ground := Go.Ground.guard }], guard := some (3, false) }) (v := undef) rfl (by kernel_rfl) (by kernel_rfl) (by kernel_rfl) (fun _ _ _ h => h) (Or.inr ⟨by rfl, rfl⟩) hHeld3 ?_)
                  try simp only [Act.put, List.setIfInBounds_toArray, List.set_cons_zero, List.set_cons_succ]
                  first
                  | (refine wpAnyH_take (i := 9) (oi := { dst := some 66, op := Go.Op.pick (Go.Operand.tmp 60) (Go.Operand.const (Go.Value.bool true)) (Go.Operand.tmp 65), type := 4, pos := "ref.go:112", after := #[{ on := 3, ground := Go.Ground.data }, { on := 8, ground := Go.Ground.data }], guard := none }) (v := ?_) rfl (by kernel_rfl) (by kernel_rfl) (by kernel_rfl) (fun _ _ _ h => h) (Or.inl ⟨by rfl, ?_⟩) hHeld3 ?_
                     rotate_left
                     · ((intro w hSw; (try dsimp only at hSw); go_simp) <;> (first | with_reducible rfl | (rw [if_neg (by omega)]; done))))
                  | (refine wpAnyH_take (i := 9) (oi := { dst := some 66, op := Go.Op.pick (Go.Operand.tmp 60) (Go.Operand.const (Go.Value.bool true)) (Go.Operand.tmp 65), type := 4, pos := "ref.go:112", after := #[{ on := 3, ground := Go.Ground.data }, { on := 8, ground := Go.Ground.data }], guard := none }) (v := undef) rfl (by kernel_rfl) (by kernel_rfl) (by kernel_rfl) (fun _ _ _ h => h) (Or.inr ⟨by rfl, rfl⟩) hHeld3 ?_)
                  try simp only [Act.put, List.setIfInBounds_toArray, List.set_cons_zero, List.set_cons_succ]
                  refine wpAnyH_done (by kernel_rfl) ?_ _
                  clear hHeld3
                  have z0 := cell_of HBX.out 0 rfl; have z1 := cell_of HBX.out 1 rfl; have zf := fun i => free_of HBX.out i
                  go_wp2_with fail
                  refine bodyPost_ret (readp_results _ _ _ _ _ _ _ (two_stores HBX.out _ _) _ rfl rfl) rfl ⟨ad, a.length, cp, u, by rw [HR.out]; rfl, by rw [HR.out]; exact bytes_stores HVA.out HBX.out _ _, by rw [HR.out]; rfl, (HB.out.setCell (by simp) _).setCell (by simp) _⟩
                · have HR : Hid (refReadP s.data.toList = none) := Lib.hid (by rw [HR2.out, if_neg]; rintro ⟨_, _, h⟩; exact hpa h)
                  have HSM := Lib.hid (fun sd sc ad cp w h1 h2 => same4_w (plainS a u) a sd ad a.length (plainS_len a u) rfl sc cp (u : Int) (r := false) (by simpa using hpa) w h1 h2)
                  clear hri hpa
                  go_wp2_with (first | (go_at_call 7; ((with_reducible refine (HRD.out _).mono ?_); rintro e wn ⟨ad, cp, rfl, hva, hb⟩; have HVA := Lib.hid hva; clear hva; have HBX := Lib.hid ((hb.block _ (Array.getElem?_eq_some_iff.1 HBX.out).1).trans HBX.out); have HB := Lib.hid (Below.next HB.out hb); clear hb; have z0 := cell_of HBX.out 0 rfl; have z1 := cell_of HBX.out 1 rfl; have zf := fun i => free_of HBX.out i)) | (go_at_call 22; ((with_reducible refine (HRN.out _).mono ?_); rintro e wm ⟨rfl, rfl⟩)) | fail)
                  have hpb := heap_alloc_new wn (.cells #[.slice ad a.length cp, .int .i64 u] 30)
                  have hb := below_one (w := wn) (.cells #[.slice ad a.length cp, .int .i64 u] 30)
                  have HVA := Lib.hid (Bytes.below HVA.out hb); have HBX := Lib.hid ((hb.block _ (Array.getElem?_eq_some_iff.1 HBX.out).1).trans HBX.out); have HB := Lib.hid (Below.next HB.out hb); clear hb
                  generalize wn.alloc (.cells #[.slice ad a.length cp, .int .i64 u] 30) = wv at *
                  generalize wn.heap.size = B at *
                  have c0 : wv.drew.cell? ⟨B, 0, none⟩ = some (.slice ad a.length cp) := cell_of hpb 0 rfl
                  have c1 : wv.drew.cell? ⟨B, 1, none⟩ = some (.int .i64 u) := cell_of hpb 1 rfl
                  have HB : Hid (Below w.heap.size w wv.drew) := Lib.hid HB.out.drew
                  have HVA : Hid (Bytes wv.drew (.slice ad a.length cp) a) := Lib.hid HVA.out
                  have HBX : Hid (wv.drew.heap[w.heap.size]? = some (.cells #[.slice none 0 0, .int .i64 0] 30 (0, 0))) := Lib.hid HBX.out
                  clear hpb z0 z1 zf
                  refine wp_region_held_drew (S := (fun W => W.cell? ⟨B, 0, none⟩ = some (.slice ad a.length cp) ∧ W.cell? ⟨B, 1, none⟩ = some (.int .i64 u))) (by kernel_rfl) ?_ (fun hHeld0 => ?_)
                  · (try dsimp only); exact ⟨c0, c1⟩
                  first
                  | (refine wpAnyH_take (i := 0) (oi := { dst := some 57, op := Go.Op.load 30 (Go.Operand.tmp 9), type := 30, pos := "ref.go:112", after := #[], guard := none }) (v := ?_) rfl (by kernel_rfl) (by kernel_rfl) (by kernel_rfl) (fun _ _ _ h => h) (Or.inl ⟨by rfl, ?_⟩) hHeld0 ?_
                     rotate_left
                     · ((intro w hSw; (try dsimp only at hSw); go_simp) <;> (first | with_reducible rfl | (rw [if_neg (by omega)]; done))))
                  | (refine wpAnyH_take (i := 0) (oi := { dst := some 57, op := Go.Op.load 30 (Go.Operand.tmp 9), type := 30, pos := "ref.go:112", after := #[], guard := none }) (v := undef) rfl (by kernel_rfl) (by kernel_rfl) (by kernel_rfl) (fun _ _ _ h => h) (Or.inr ⟨by rfl, rfl⟩) hHeld0 ?_)
                  try simp only [Act.put, List.setIfInBounds_toArray, List.set_cons_zero, List.set_cons_succ]
                  refine wpAnyH_ready (rs := [1]) (by kernel_rfl) (by simp) ?_
                  refine AllReadyH.cons (o := { dst := some 58, op := Go.Op.call { callee := Go.Callee.value (Go.Operand.func 15), args := #[Go.Operand.tmp 57], argTypes := #[30] }, type := 4, pos := "ref.go:112", after := #[{ on := 0, ground := Go.Ground.data }], guard := none }) rfl (fun Kr1 hK => ?_) AllReadyH.nil
                  go_simp
                  ((go_at_call 15; (with_reducible refine (HRR.out ad cp _).mono ?_); rintro e wn ⟨rfl, hb⟩))
                  refine hK.out _ _ ?_ (fun hHeld1 => ?_)
                  · (try dsimp only); exact ⟨cell_keep4 hHeld0.1 hb, cell_keep4 hHeld0.2 hb⟩
                  have c0 := cell_keep4 hHeld0.1 hb
                  have c1 := cell_keep4 hHeld0.2 hb
                  have HVA := Lib.hid (Bytes.below HVA.out hb); have HBX := Lib.hid ((hb.block _ (Array.getElem?_eq_some_iff.1 HBX.out).1).trans HBX.out); have HB := Lib.hid (Below.next HB.out hb); clear hb
                  clear hK Kr1 hHeld0
                  try simp only [Act.put, List.setIfInBounds_toArray, List.set_cons_zero, List.set_cons_succ]
                  first
                  | (refine wpAnyH_take (i := 2) (oi := { dst := some 59, op := Go.Op.unOp Go.UnOp.not 4 (Go.Operand.tmp 58), type := 4, pos := "ref.go:112", after := #[{ on := 1, ground := Go.Ground.data }], guard := none }) (v := ?_) rfl (by kernel_rfl) (by kernel_rfl) (by kernel_rfl) (fun _ _ _ h => h) (Or.inl ⟨by rfl, ?_⟩) hHeld1 ?_
                     rotate_left
                     · ((intro w hSw; (try dsimp only at hSw); go_simp) <;> (first | with_reducible rfl | (rw [if_neg (by omega)]; done))))
                  | (refine wpAnyH_take (i := 2) (oi := { dst := some 59, op := Go.Op.unOp Go.UnOp.not 4 (Go.Operand.tmp 58), type := 4, pos := "ref.go:112", after := #[{ on := 1, ground := Go.Ground.data }], guard := none }) (v := undef) rfl (by kernel_rfl) (by kernel_rfl) (by kernel_rfl) (fun _ _ _ h => h) (Or.inr ⟨by rfl, rfl⟩) hHeld1 ?_)
                  try simp only [Act.put, List.setIfInBounds_toArray, List.set_cons_zero, List.set_cons_succ]
                  first
                  | (refine wpAnyH_take (i := 3) (oi := { dst := some 60, op := Go.Op.move (Go.Operand.tmp 59), type := 4, pos := "ref.go:112", after := #[{ on := 2, ground := Go.Ground.data }, { on := 1, ground := Go.Ground.chain }], guard := none }) (v := ?_) rfl (by kernel_rfl) (by kernel_rfl) (by kernel_rfl) (fun _ _ _ h => h) (Or.inl ⟨by rfl, ?_⟩) hHeld1 ?_
                     rotate_left
                     · ((intro w hSw; (try dsimp only at hSw); go_simp) <;> (first | with_reducible rfl | (rw [if_neg (by omega)]; done))))
                  | (refine wpAnyH_take (i := 3) (oi := { dst := some 60, op := Go.Op.move (Go.Operand.tmp 59), type := 4, pos := "ref.go:112", after := #[{ on := 2, ground := Go.Ground.data }, { on := 1, ground := Go.Ground.chain }], guard := none }) (v := undef) rfl (by kernel_rfl) (by kernel_rfl) (by kernel_rfl) (fun _ _ _ h => h) (Or.inr ⟨by rfl, rfl⟩) hHeld1 ?_)
                  try simp only [Act.put, List.setIfInBounds_toArray, List.set_cons_zero, List.set_cons_succ]
                  first
                  | (refine wpAnyH_take (i := 4) (oi := { dst := some 61, op := Go.Op.load 30 (Go.Operand.tmp 9), type := 30, pos := "ref.go:112", after := #[{ on := 3, ground := Go.Ground.guard }], guard := some (3, false) }) (v := ?_) rfl (by kernel_rfl) (by kernel_rfl) (by kernel_rfl) (fun _ _ _ h => h) (Or.inl ⟨by rfl, ?_⟩) hHeld1 ?_
                     rotate_left
                     · ((intro w hSw; (try dsimp only at hSw); go_simp) <;> (first | with_reducible rfl | (rw [if_neg (by omega)]; done))))
                  | (refine wpAnyH_take (i := 4) (oi := { dst := some 61, op := Go.Op.load 30 (Go.Operand.tmp 9), type := 30, pos := "ref.go:112", after := #[{ on := 3, ground := Go.Ground.guard }], guard := some (3, false) }) (v := undef) rfl (by kernel_rfl) (by kernel_rfl) (by kernel_rfl) (fun _ _ _ h => h) (Or.inr ⟨by rfl, rfl⟩) hHeld1 ?_)
                  try simp only [Act.put, List.setIfInBounds_toArray, List.set_cons_zero, List.set_cons_succ]
                  first
                  | (refine wpAnyH_take (i := 6) (oi := { dst := some 63, op := Go.Op.load 30 (Go.Operand.tmp 9), type := 30, pos := "ref.go:112", after := #[{ on := 3, ground := Go.Ground.guard }], guard := some (3, false) }) (v := ?_) rfl (by kernel_rfl) (by kernel_rfl) (by kernel_rfl) (fun _ _ _ h => h) (Or.inl ⟨by rfl, ?_⟩) hHeld1 ?_
                     rotate_left
                     · ((intro w hSw; (try dsimp only at hSw); go_simp) <;> (first | with_reducible rfl | (rw [if_neg (by omega)]; done))))
                  | (refine wpAnyH_take (i := 6) (oi := { dst := some 63, op := Go.Op.load 30 (Go.Operand.tmp 9), type := 30, pos := "ref.go:112", after := #[{ on := 3, ground := Go.Ground.guard }], guard := some (3, false) }) (v := undef) rfl (by kernel_rfl) (by kernel_rfl) (by kernel_rfl) (fun _ _ _ h => h) (Or.inr ⟨by rfl, rfl⟩) hHeld1 ?_)
                  try simp only [Act.put, List.setIfInBounds_toArray, List.set_cons_zero, List.set_cons_succ]
                  refine wpAnyH_ready (rs := [5]) (by kernel_rfl) (by simp) ?_
                  refine AllReadyH.cons (o := { dst := some 62, op := Go.Op.call { callee := Go.Callee.value (Go.Operand.func 16), args := #[Go.Operand.tmp 61], argTypes := #[30] }, type := 30, pos := "ref.go:112", after := #[{ on := 4, ground := Go.Ground.data }, { on := 3, ground := Go.Ground.chain }, { on := 3, ground := Go.Ground.guard }], guard := some (3, false) }) rfl (fun Kr5 hK => ?_) AllReadyH.nil
                  go_simp
                  ((go_at_call 16; (with_reducible refine (HRPL.out ad cp _ HVA.out).mono ?_); rintro e wn ⟨sd, sc, rfl, hvs, hb⟩; have HVS := Lib.hid hvs; clear hvs))
                  refine hK.out _ _ ?_ (fun hHeld2 => ?_)
                  · (try dsimp only); exact ⟨cell_keep4 hHeld1.1 hb, cell_keep4 hHeld1.2 hb⟩
                  have c0 := cell_keep4 hHeld1.1 hb
                  have c1 := cell_keep4 hHeld1.2 hb
                  have HVA := Lib.hid (Bytes.below HVA.out hb); have HBX := Lib.hid ((hb.block _ (Array.getElem?_eq_some_iff.1 HBX.out).1).trans HBX.out); have HB := Lib.hid (Below.next HB.out hb); clear hb
                  clear hK Kr5 hHeld1
                  try simp only [Act.put, List.setIfInBounds_toArray, List.set_cons_zero, List.set_cons_succ]
                  refine wpAnyH_ready (rs := [7]) (by kernel_rfl) (by simp) ?_
                  refine AllReadyH.cons (o := { dst := some 64, op := Go.Op.call { callee := Go.Callee.value (Go.Operand.func 11), args := #[Go.Operand.tmp 62, Go.Operand.tmp 63], argTypes := #[30, 30] }, type := 4, pos := "ref.go:112", after := #[{ on := 5, ground := Go.Ground.data }, { on := 6, ground := Go.Ground.data }, { on := 5, ground := Go.Ground.chain }, { on := 3, ground := Go.Ground.guard }], guard := some (3, false) }) rfl (fun Kr7 hK => ?_) AllReadyH.nil
                  go_simp
                  ((go_at_call 11; (with_reducible refine (HSM.out sd sc ad cp _ HVS.out HVA.out).mono ?_); rintro e wn ⟨rfl, hb⟩))
                  refine hK.out _ _ ?_ (fun hHeld3 => ?_)
                  · (try dsimp only); exact ⟨cell_keep4 hHeld2.1 hb, cell_keep4 hHeld2.2 hb⟩
                  have c0 := cell_keep4 hHeld2.1 hb
                  have c1 := cell_keep4 hHeld2.2 hb
                  have HVA := Lib.hid (Bytes.below HVA.out hb); have HBX := Lib.hid ((hb.block _ (Array.getElem?_eq_some_iff.1 HBX.out).1).trans HBX.out); have HB := Lib.hid (Below.next HB.out hb); clear hb
                  clear hK Kr7 hHeld2
                  try simp only [Act.put, List.setIfInBounds_toArray, List.set_cons_zero, List.set_cons_succ]
                  first
                  | (refine wpAnyH_take (i := 8) (oi := { dst := some 65, op := Go.Op.unOp Go.UnOp.not 4 (Go.Operand.tmp 64), type := 4, pos := "ref.go:112", after := #[{ on := 7, ground := Go.Ground.data }, { on := 3, ground := Go.Ground.guard }], guard := some (3, false) }) (v := ?_) rfl (by kernel_rfl) (by kernel_rfl) (by kernel_rfl) (fun _ _ _ h => h) (Or.inl ⟨by rfl, ?_⟩) hHeld3 ?_
                     rotate_left
                     · ((intro w hSw; (try dsimp only at hSw); go_simp) <;> (first | with_reducible rfl | (rw [if_neg (by omega)]; done))))
                  | (refine wpAnyH_take (i := 8) (oi := { dst := some 65, op := Go.Op.unOp Go.UnOp.not 4 (Go.Operand.tmp 64), type := 4, pos := "ref.go:112", after := #[{ on := 7, ground := Go.Ground.data }, { on := 3, ground := Go.Ground.guard }], guard := some (3, false) }) (v := undef) rfl (by kernel_rfl) (by kernel_rfl) (by kernel_rfl) (fun _ _ _ h => h) (Or.inr ⟨by rfl, rfl⟩) hHeld3 ?_)
                  try simp only [Act.put, List.setIfInBounds_toArray, List.set_cons_zero, List.set_cons_succ]
                  first
                  | (refine wpAnyH_take (i := 9) (oi := { dst := some 66, op := Go.Op.pick (Go.Operand.tmp 60) (Go.Operand.const (Go.Value.bool true)) (Go.Operand.tmp 65), type := 4, pos := "ref.go:112", after := #[{ on := 3, ground := Go.Ground.data }, { on := 8, ground := Go.Ground.data }], guard := none }) (v := ?_) rfl (by kernel_rfl) (by kernel_rfl) (by kernel_rfl) (fun _ _ _ h => h) (Or.inl ⟨by rfl, ?_⟩) hHeld3 ?_
                     rotate_left
                     · ((intro w hSw; (try dsimp only at hSw); go_simp) <;> (first | with_reducible rfl | (rw [if_neg (by omega)]; done))))
                  | (refine wpAnyH_take (i := 9) (oi := { dst := some 66, op := Go.Op.pick (Go.Operand.tmp 60) (Go.Operand.const (Go.Value.bool true)) (Go.Operand.tmp 65), type := 4, pos := "ref.go:112", after := #[{ on := 3, ground := Go.Ground.data }, { on := 8, ground := Go.Ground.data }], guard := none }) (v := undef) rfl (by kernel_rfl) (by kernel_rfl) (by kernel_rfl) (fun _ _ _ h => h) (Or.inr ⟨by rfl, rfl⟩) hHeld3 ?_)
                  try simp only [Act.put, List.setIfInBounds_toArray, List.set_cons_zero, List.set_cons_succ]
                  refine wpAnyH_done (by kernel_rfl) ?_ _
                  clear hHeld3
                  have z0 := cell_of HBX.out 0 rfl; have z1 := cell_of HBX.out 1 rfl; have zf := fun i => free_of HBX.out i
                  go_wp2_with fail
                  refine bodyPost_ret (readp_results _ _ _ _ _ _ _ (two_stores HBX.out _ _) _ rfl rfl) rfl ⟨none, 0, 0, 0, by rw [HR.out]; rfl, by rw [HR.out]; exact bytes_nil _, by rw [HR.out]; rfl, (HB.out.setCell (by simp) _).setCell (by simp) _⟩
            · have h128i : (128 : Int) < u := by omega
              have HR : Hid (refReadP s.data.toList = none) := Lib.hid (by rw [HR2.out, if_neg]; rintro ⟨h, _⟩; exact h128 h)
              clear h128
              go_wp2_with (first | (go_at_call 7; ((with_reducible refine (HRD.out _).mono ?_); rintro e wn ⟨ad, cp, rfl, hva, hb⟩; have HVA := Lib.hid hva; clear hva; have HBX := Lib.hid ((hb.block _ (Array.getElem?_eq_some_iff.1 HBX.out).1).trans HBX.out); have HB := Lib.hid (Below.next HB.out hb); clear hb; have z0 := cell_of HBX.out 0 rfl; have z1 := cell_of HBX.out 1 rfl; have zf := fun i => free_of HBX.out i)) | (go_at_call 22; ((with_reducible refine (HRN.out _).mono ?_); rintro e wm ⟨rfl, rfl⟩)) | fail)
              refine bodyPost_ret (readp_results _ _ _ _ _ _ _ (two_stores HBX.out _ _) _ rfl rfl) rfl ⟨none, 0, 0, 0, by rw [HR.out]; rfl, by rw [HR.out]; exact bytes_nil _, by rw [HR.out]; rfl, (HB.out.setCell (by simp) _).setCell (by simp) _⟩
          · have ec : (rdCode U != 0) = true := by simpa using hc
            have HR : Hid (refReadP s.data.toList = none) := Lib.hid (by rw [HR1.out, if_neg]; rintro ⟨h, _⟩; exact hc h)
            have HRN := Lib.hid (rread_bad _ U hUl HXU.out)
            clear hc hUl
            go_wp2_with (first | (go_at_call 7; ((with_reducible refine (HRD.out _).mono ?_); rintro e wn ⟨ad, cp, rfl, hva, hb⟩; have HVA := Lib.hid hva; clear hva; have HBX := Lib.hid ((hb.block _ (Array.getElem?_eq_some_iff.1 HBX.out).1).trans HBX.out); have HB := Lib.hid (Below.next HB.out hb); clear hb; have z0 := cell_of HBX.out 0 rfl; have z1 := cell_of HBX.out 1 rfl; have zf := fun i => free_of HBX.out i)) | (go_at_call 22; ((with_reducible refine (HRN.out _).mono ?_); rintro e wm ⟨rfl, rfl⟩)) | fail)
            refine bodyPost_ret (readp_results _ _ _ _ _ _ _ (two_stores HBX.out _ _) _ rfl rfl) rfl ⟨none, 0, 0, 0, by rw [HR.out]; rfl, by rw [HR.out]; exact bytes_nil _, by rw [HR.out]; rfl, (HB.out.setCell (by simp) _).setCell (by simp) _⟩
      · have HN := Lib.hid (slash_next HNS.out (by rw [HL.out]; exact hlt) h47)
        have e47 : (((s[k]).toNat : Int) != 47) = true := byte_ne (x := s[k]) (c := 47) (by rw [← hget]; exact h47)
        clear hget h47
        go_wp2_with fail
        go_round
        case rel => exact ⟨k + 1, by go_num, hlt, HN.out⟩
        case measure => simp [intOf]; omega
    · have HR : Hid (refReadP s.data.toList = none) := Lib.hid (by
        unfold refReadP
        rw [if_pos]
        refine none_slash ?_
        have := HNS.out
        rw [List.take_of_length_le (by rw [HL.out]; omega)] at this
        exact this)
      have eat : ((k : Int) == s.size) = true := beq_i (by omega)
      have hki : ¬ (k : Int) < s.size := by omega
      go_wp2_with fail
      refine bodyPost_ret (readp_results _ _ none 0 0 0 false (heap_alloc_new w _) _ rfl rfl) rfl ⟨none, 0, 0, 0, by rw [HR.out]; rfl, by rw [HR.out]; exact bytes_nil _, by rw [HR.out]; rfl, below_one _⟩
end Go.Proofs.YtbaceiohcbhpaaaDoor
