/- Texts of this seat, merged: Tp4. -/
import Derived.Test.YtlmmnjoincmgcaaGT9
import Derived.StillTailTactics
namespace Go.Proofs.Ytlmmnjoincmgcaa
set_option linter.unusedVariables false
set_option linter.unusedSimpArgs false
set_option maxRecDepth 100000
open Go.RowKit
theorem lit_eq (T : Array Value) (n : Nat) (h : T.size = n) : T = ((List.range n).map fun i => T.getD i undef).toArray := by
  subst h
  apply Array.ext
  · simp
  · intro i h1 h2
    simp [Array.getD, h1]
def Tr.dep : Tr → Nat
  | .nil => 0
  | .node _ _ _ _ _ _ l r => 1 + max l.dep r.dep
def places (B d : Nat) : List Fr → List (Nat × Nat)
  | [] => [(B, d)]
  | f :: fs => places B d fs ++ [(f.b, 3 + f.d)]
def outer (B d : Nat) : List Fr → List (Nat × Nat)
  | [] => []
  | _ :: fs => places B d fs
theorem places_outer (B d : Nat) (fs : List Fr) : places B d fs = outer B d fs ++ [(plB B fs, plO d fs)] := by
  cases fs <;> rfl
theorem places_len (B d : Nat) : ∀ fs : List Fr, (places B d fs).length = fs.length + 1
  | [] => rfl
  | f :: fs => by simp [places, places_len B d fs]
theorem outer_len (B d : Nat) (fs : List Fr) : (outer B d fs).length = fs.length := by
  cases fs with
  | nil => rfl
  | cons f fs => simp [outer, places_len]
/-- the places on the way back -/
theorem places_back (B d : Nat) : ∀ (fs : List Fr) (k : Nat), k ≤ fs.length → (places B d fs)[fs.length - k]? = some (plB B (fs.drop k), plO d (fs.drop k))
  | [], 0, _ => rfl
  | f :: fs, 0, _ => by
    show (places B d fs ++ [(f.b, 3 + f.d)])[fs.length + 1]? = _
    rw [List.getElem?_append_right (by rw [places_len]; exact Nat.le_refl _), places_len, Nat.sub_self]
    rfl
  | f :: fs, k + 1, h => by
    have h2 : k ≤ fs.length := by simpa using h
    show (places B d fs ++ [(f.b, 3 + f.d)])[fs.length + 1 - (k + 1)]? = _
    rw [Nat.add_sub_add_right, List.getElem?_append_left (by rw [places_len]; omega)]
    exact places_back B d fs k h2
theorem ctx_depth {s : Nat} : ∀ {f : Fr} {fs : List Fr}, Ctx s (f :: fs) → fs.length ≤ f.bits
  | f, [], _ => Nat.zero_le _
  | f, g :: gs, h => by
    have h1 := ctx_depth (f := g) (fs := gs) h.2.2.2.2
    have h2 := (h.2.2.2.1 g (by simp)).1.1
    simp only [List.length_cons]
    omega
theorem ctx_len {s m : Nat} {q : List UInt8} {fs : List Fr} (h : Ctx s fs) (hon : ∀ f ∈ fs, OnWay q m f) : fs.length ≤ m := by
  cases fs with
  | nil => exact Nat.zero_le _
  | cons f fs =>
    have h1 := ctx_depth h
    have h2 := (hon f (by simp)).1
    simp only [List.length_cons]
    omega
def cellsP (ls : List (Nat × Nat)) : List Value := ls.map fun x => .pointer (some ⟨x.1, x.2, none⟩)
theorem cellsP_len (ls : List (Nat × Nat)) : (cellsP ls).length = ls.length := by simp [cellsP]
theorem Try.infoPP : (Try.prog.info? 66).map (fun i => (i.zero, i.size, i.bytes)) = some (some (.pointer none), 1, 8) := by kernel_rfl
/-- one pointer is appended -/
theorem wpList_append_ptr {w : World} {ops : Array Oper} {rest : List Oper} {o : Oper} {a : Act} {Q : Exit → Act → World → Prop} (hgd : o.guard = none) (s x : Operand)
    (ho : o.op = .call { callee := .builtin .append, args := #[s, x], argTypes := #[64, 64] })
    (base : Nat) (v : Value) (ls : List (Nat × Nat)) (hs : a.eval s = v) (hown : w.ownsRow base 66 1 v ls.length (cellsP ls))
    (b off : Nat) (y : Nat × Nat) (hx : a.eval x = .slice (some ⟨b, off, none⟩) 1 1) (hsrc : w.cell? ⟨b, off, none⟩ = some (.pointer (some ⟨y.1, y.2, none⟩))) (h63 : ls.length ≤ 1000000) (hbase : base ≤ w.heap.size)
    (h : ∀ v' w', w'.ownsRow base 66 1 v' (ls ++ [y]).length (cellsP (ls ++ [y])) → w.grownBy w' v.ownBlock → wpList Try.prog ops Q rest (a.put o.dst v') w') : wpList Try.prog ops Q (o :: rest) a w := by
  obtain ⟨i0, hi0, hz0, hz1, hz2⟩ := info_parts Try.infoPP
  refine wpList_append_own w hgd s x 64 ho base 66 i0 _ 1 8 Try.underlying64 hi0 hz0 hz1 hz2 rfl (by decide) v ls.length (cellsP ls) hs hown ⟨b, off, none⟩ 1 1 [.pointer (some ⟨y.1, y.2, none⟩)] hx rfl ?_ ?_ (by unfold maxLen; omega) (by omega) hbase ?_
  · intro j u hj
    cases j with
    | zero => simp only [List.getElem?_cons_zero, Option.some.injEq] at hj; subst hj; rw [add_at]; exact hsrc
    | succ j => simp at hj
  · intro u hu
    simp only [List.mem_singleton] at hu
    subst hu
    rfl
  · intro v' w' h1 h2 _
    refine h v' w' ?_ h2
    simpa [cellsP] using h1
/-- the pointers that a way holds -/
def PtrsAt (w : World) (g : Nat) (ls : List (Nat × Nat)) : Prop := ∃ cur, w.heap[g]? = some (.cells cur 66 (0, 0)) ∧ ∀ (i : Nat) (x : Nat × Nat), ls[i]? = some x → cur[i]? = some (Value.pointer (some ⟨x.1, x.2, none⟩))
theorem own_belowP {w w' : World} {B : Nat} {v : Value} {e : TypeId} {size n : Nat} {xs : List Value} (h : w.ownsRow B e size v n xs) (hb : Below w.heap.size w w') : w'.ownsRow B e size v n xs := by
  refine ⟨h.1, h.2.imp id ?_⟩
  rintro ⟨g, c, cur, h1, h2, h3, h4⟩
  exact ⟨g, c, cur, h1, h2, (hb.block g (heap_lt h3)).trans h3, h4⟩
theorem way_step {q a : List UInt8} {m n : Nat} (h : n < m ∧ Agr q a n) (b : Nat) (ad : Option Addr) (cp : Nat) (o : Int) (l r : Tr) (fs : List Fr) :
    wayF q m (.node b ad cp a n o l r) fs = wayF q m (if bitAt q n = 0 then l else r) (⟨b, ad, cp, a, n, o, bitAt q n, if bitAt q n = 0 then r else l⟩ :: fs) := by
  conv => lhs; unfold wayF
  rw [if_pos h]
  rcases bit_two q n with h2 | h2
  · rw [h2]; rfl
  · rw [h2]; rfl
theorem fill_step (q a : List UInt8) (n b : Nat) (ad : Option Addr) (cp : Nat) (o : Int) (l r : Tr) (fs : List Fr) :
    fill (⟨b, ad, cp, a, n, o, bitAt q n, if bitAt q n = 0 then r else l⟩ :: fs) (if bitAt q n = 0 then l else r) = fill fs (.node b ad cp a n o l r) := by
  show fill fs (plug _ _) = _
  congr 1
  unfold plug
  rcases bit_two q n with h2 | h2 <;> rw [h2] <;> rfl
theorem dep_step (q a : List UInt8) (n b : Nat) (ad : Option Addr) (cp : Nat) (o : Int) (l r : Tr) : (if bitAt q n = 0 then l else r).dep < (Tr.node b ad cp a n o l r).dep := by
  show _ < 1 + max l.dep r.dep
  split <;> omega
def WayRet (w : World) (ls : List (Nat × Nat)) (e : Ending) (w' : World) : Prop :=
  ∃ g cap, e = .returned (.slice (some ⟨g, 0, none⟩) ls.length cap) ∧ ls.length ≤ cap ∧ cap ≤ maxLen ∧ w.heap.size ≤ g ∧ PtrsAt w' g ls ∧ Below w.heap.size w w'
theorem ptrs_own {w : World} {base : Nat} {v : Value} {ls : List (Nat × Nat)} (h : w.ownsRow base 66 1 v ls.length (cellsP ls)) (h0 : 0 < ls.length) : ∃ g cap, v = .slice (some ⟨g, 0, none⟩) ls.length cap ∧ ls.length ≤ cap ∧ cap ≤ maxLen ∧ base ≤ g ∧ PtrsAt w g ls := by
  rcases h.2 with ⟨_, h1⟩ | ⟨g, c, cur, h1, h2, h3, h4, h5, h6, h7⟩
  · omega
  · refine ⟨g, c, h1, h4, h5, h2, cur, h3, fun i x hx => ?_⟩
    have hlt := (List.getElem?_eq_some_iff.1 hx).1
    have h8 : (cellsP ls)[i]? = some (.pointer (some ⟨x.1, x.2, none⟩)) := by simp [cellsP, hx]
    rw [← h7, List.getElem?_take_of_lt (by omega)] at h8
    simpa using h8
theorem ptrs_cell {w : World} {g : Nat} {ls : List (Nat × Nat)} (h : PtrsAt w g ls) {i : Nat} {x : Nat × Nat} (hi : ls[i]? = some x) : w.cell? ⟨g, i, none⟩ = some (.pointer (some ⟨x.1, x.2, none⟩)) := by
  obtain ⟨cur, hc, h2⟩ := h
  exact cell_of hc i (h2 i x hi)
theorem PtrsAt.kp {base : Nat} {w w' : World} {g : Nat} {ls : List (Nat × Nat)} (h : PtrsAt w g ls) (hk : Kp base w w') : PtrsAt w' g ls := by
  obtain ⟨cur, hc, h2⟩ := h
  exact ⟨cur, hk.blk g cur _ _ hc (by decide) (by decide), h2⟩
theorem PtrsAt.below {w w' : World} {g : Nat} {ls : List (Nat × Nat)} (h : PtrsAt w g ls) (hb : Below w.heap.size w w') : PtrsAt w' g ls := h.kp (base := 0) (Kp.below hb (Nat.zero_le _))
set_option maxHeartbeats 2000000 in
theorem way_any (base B d s : Nat) (t o : Tr) (q : List UInt8) (m : Nat) (qd : Option Addr) (qc : Nat) (w : World) (hT : Tab w base B d t o) (hW : t.Wf s) (hd : (d = 0 ∧ s = 4) ∨ (d = 1 ∧ s = 16))
    (hq : Bytes w (.slice qd q.length qc) q) (hqs : q.length = s) (hm : m ≤ 8 * s) :
    Calls Try.prog 25 #[.pointer (some ⟨B, 0, none⟩), .agg #[.slice qd q.length qc, .int .i64 m]] w (WayRet w (places B d (wayF q m t []).1)) := by
  subst hqs
  obtain ⟨w1, hw1⟩ : ∃ w1, w1 = w.alloc (.cells #[.slice qd q.length qc, .int .i64 m] 29) := ⟨_, rfl⟩
  have h1 : w1.heap[w.heap.size]? = some (.cells #[.slice qd q.length qc, .int .i64 m] 29 (0, 0)) := by rw [hw1]; exact heap_alloc_new w _
  have hb1 : Below w.heap.size w w1 := by rw [hw1]; exact below_one _
  have hs1 : w1.heap.size = w.heap.size + 1 := by rw [hw1]; simp
  have HRT : Hid (∀ w, Tab w base B d t o → Calls Try.prog 41 #[.pointer (some ⟨B, 0, none⟩), .int .i64 (q.length : Nat)] w fun e w' => e = .returned (.pointer (some ⟨B, d, none⟩)) ∧ w' = w) := Lib.hid (fun w h => root_any B d q.length (by omega) _ w h.blk)
  have HT1 := Lib.hid (hT.below hb1)
  have c0 := cell_of h1 0 rfl
  go_enter Try.func25, Try.ntmps25
  go_wp2_with fail
  rw [← hw1]
  clear hw1
  refine wp_scope_goto 0 (fun n a' wr => ∃ (fs : List Fr) (e : Tr) (v : Value), a'.defers = [] ∧ a'.tmps.size = 45 ∧ a'.tmps.getD 0 undef = .pointer (some ⟨B, 0, none⟩) ∧ a'.tmps.getD 3 undef = .pointer (some ⟨w.heap.size, 0, none⟩) ∧ a'.tmps.getD 5 undef = v ∧ a'.tmps.getD 6 undef = .pointer (some ⟨plB B fs, plO d fs, none⟩) ∧ n = e.dep ∧ fill fs e = t ∧ (∀ f ∈ fs, OnWay q m f) ∧ wayF q m e fs = wayF q m t [] ∧ wr.ownsRow (w.heap.size + 1) 66 1 v (outer B d fs).length (cellsP (outer B d fs)) ∧ Below w.heap.size w wr ∧ wr.heap[w.heap.size]? = some (.cells #[.slice qd q.length qc, .int .i64 m] 29 (0, 0))) rfl ?_ ?_
  · intro R hpass hout
    have HP := Lib.hid hpass
    clear hpass hout
    go_wp2_with (first | (go_at_call 41; ((with_reducible refine (HRT.out _ HT1.out).mono ?_); rintro e w2 ⟨rfl, rfl⟩)) | fail)
    go_step3
    go_step
    go_step
    exact HP.out _ _ _ ⟨[], t, .slice none 0 0, rfl, rfl, rfl, rfl, rfl, rfl, rfl, rfl, fun f hf => by simp at hf, rfl, World.ownsRow_nil _ _ _ _, hb1, h1⟩
  · intro n a' wr hrel J hJ
    obtain ⟨fs, e, v, hfd, hfs, hf0, hf3, hf5, hf6, rfl, hfe, hon, hwe, hown, hbw, hbx⟩ := hrel
    obtain ⟨T, DD⟩ := a'
    obtain rfl : DD = [] := hfd
    obtain ⟨u, hu⟩ : ∃ u : Nat → Value, T = #[u 0, u 1, u 2, u 3, u 4, u 5, u 6, u 7, u 8, u 9, u 10, u 11, u 12, u 13, u 14, u 15, u 16, u 17, u 18, u 19, u 20, u 21, u 22, u 23, u 24, u 25, u 26, u 27, u 28, u 29, u 30, u 31, u 32, u 33, u 34, u 35, u 36, u 37, u 38, u 39, u 40, u 41, u 42, u 43, u 44] := ⟨fun i => T.getD i undef, lit_eq T 45 hfs⟩
    subst hu
    have he0 : u 0 = .pointer (some ⟨B, 0, none⟩) := hf0
    have he3 : u 3 = .pointer (some ⟨w.heap.size, 0, none⟩) := hf3
    have he5 : u 5 = v := hf5
    have he6 : u 6 = .pointer (some ⟨plB B fs, plO d fs, none⟩) := hf6
    clear hfs hf0 hf3 hf5 hf6
    rw [he0, he3, he5, he6]
    clear he0 he3 he5 he6
    have hwf : (fill fs e).Wf q.length := by rw [hfe]; exact hW
    obtain ⟨hctx, hew, heu⟩ := (wf_fill (on_d hon)).1 hwf
    have hlen := ctx_len hctx hon
    have HJ := Lib.hid hJ
    have HO := Lib.hid hown
    have HB := Lib.hid hbw
    have HX := Lib.hid hbx
    have hlen2 : (outer B d fs).length ≤ 200 := by rw [outer_len]; omega
    have HL2 := Lib.hid hlen2
    have hszr : w.heap.size + 1 ≤ wr.heap.size := heap_lt hbx
    have HSZ := Lib.hid hszr
    have HTT := Lib.hid (show ∀ W, Below w.heap.size w W → Tab W base B d (fill fs e) o from fun W hb => by rw [hfe]; exact hT.below hb)
    have HON := Lib.hid (on_d hon)
    obtain ⟨pe, hpe⟩ : ∃ pe, pe = e.ptr := ⟨_, rfl⟩
    have HPE := Lib.hid hpe
    clear hpe hJ hown hbw hbx hlen2 hszr c0 h1 hb1 hs1 HT1 HRT
    go_wp2_with (first | (at_builtin; refine wpList_append_ptr rfl _ _ rfl (w.heap.size + 1) v (outer B d fs) rfl (HO.out.alloc _) wr.heap.size 0 (plB B fs, plO d fs) rfl (cell_of (heap_alloc_new wr _) 0 rfl) (by have := HL2.out; omega) (by have := HSZ.out; simp; omega) ?_; intro v5 w5 hown5 hgrow5; rw [← places_outer] at hown5; have HO5 := Lib.hid hown5; have HB5 := Lib.hid ((HB.out.alloc HB.out.size _).grown hgrow5 (by have := HB.out.size; simp; omega) (fun k hk => by have := (HO.out.lt k hk).1; omega)); have HX5 := Lib.hid ((hgrow5.block w.heap.size (by have := HSZ.out; simp; omega) (fun e => by have := (HO.out.lt _ e.symm).1; omega)).trans ((Below.heap_alloc wr _ _ (heap_lt HX.out)).trans HX.out)); have hat := (Tab.at (HTT.out _ HB5.out) HON.out).1; rw [← HPE.out] at hat; clear hown5 hgrow5) | fail)
    have HTB5 := Lib.hid (HTT.out _ HB5.out)
    have HWE := Lib.hid hwe
    have hq5 : Bytes w5.drew (.slice qd q.length qc) q := hq.below (Below.drew HB5.out)
    have HQ5 := Lib.hid hq5
    have hp0 : (places B d fs).length = (fs.length + 1) := places_len B d fs
    have HPL := Lib.hid hp0
    have x0 := cell_of HX5.out 0 rfl
    have x1 := cell_of HX5.out 1 rfl
    clear hq5 hp0 hwe hat
    cases e with
    | nil =>
      obtain rfl : pe = .pointer none := HPE.out
      refine wp_region_held_drew (S := (fun _ => True)) (by kernel_rfl) ?_ (fun hHeld0 => ?_)
      · (try dsimp only); all_goals trivial
      first
      | (refine wpAnyH_take (i := 0) (oi := { dst := some 20, op := Go.Op.move (Go.Operand.tmp 7), type := 51, pos := "node.go:35", after := #[], guard := none }) (v := ?_) rfl (by kernel_rfl) (by kernel_rfl) (by kernel_rfl) (fun _ _ _ h => h) (Or.inl ⟨by rfl, ?_⟩) hHeld0 ?_
         rotate_left
         · ((intro w hSw; (try dsimp only at hSw); go_simp) <;> (first | with_reducible rfl | (rw [if_neg (by omega)]; done))))
      | (refine wpAnyH_take (i := 0) (oi := { dst := some 20, op := Go.Op.move (Go.Operand.tmp 7), type := 51, pos := "node.go:35", after := #[], guard := none }) (v := undef) rfl (by kernel_rfl) (by kernel_rfl) (by kernel_rfl) (fun _ _ _ h => h) (Or.inr ⟨by rfl, rfl⟩) hHeld0 ?_)
      try simp only [Act.put, List.setIfInBounds_toArray, List.set_cons_zero, List.set_cons_succ]
      first
      | (refine wpAnyH_take (i := 1) (oi := { dst := some 21, op := Go.Op.binOp Go.BinOp.eql 51 (Go.Operand.tmp 20) (Go.Operand.const (Go.Value.pointer none)) 51, type := 4, pos := "node.go:35", after := #[{ on := 0, ground := Go.Ground.data }], guard := none }) (v := ?_) rfl (by kernel_rfl) (by kernel_rfl) (by kernel_rfl) (fun _ _ _ h => h) (Or.inl ⟨by rfl, ?_⟩) hHeld0 ?_
         rotate_left
         · ((intro w hSw; (try dsimp only at hSw); go_simp) <;> (first | with_reducible rfl | (rw [if_neg (by omega)]; done))))
      | (refine wpAnyH_take (i := 1) (oi := { dst := some 21, op := Go.Op.binOp Go.BinOp.eql 51 (Go.Operand.tmp 20) (Go.Operand.const (Go.Value.pointer none)) 51, type := 4, pos := "node.go:35", after := #[{ on := 0, ground := Go.Ground.data }], guard := none }) (v := undef) rfl (by kernel_rfl) (by kernel_rfl) (by kernel_rfl) (fun _ _ _ h => h) (Or.inr ⟨by rfl, rfl⟩) hHeld0 ?_)
      try simp only [Act.put, List.setIfInBounds_toArray, List.set_cons_zero, List.set_cons_succ]
      first
      | (refine wpAnyH_take (i := 2) (oi := { dst := some 22, op := Go.Op.move (Go.Operand.tmp 21), type := 4, pos := "node.go:35", after := #[{ on := 1, ground := Go.Ground.data }], guard := none }) (v := ?_) rfl (by kernel_rfl) (by kernel_rfl) (by kernel_rfl) (fun _ _ _ h => h) (Or.inl ⟨by rfl, ?_⟩) hHeld0 ?_
         rotate_left
         · ((intro w hSw; (try dsimp only at hSw); go_simp) <;> (first | with_reducible rfl | (rw [if_neg (by omega)]; done))))
      | (refine wpAnyH_take (i := 2) (oi := { dst := some 22, op := Go.Op.move (Go.Operand.tmp 21), type := 4, pos := "node.go:35", after := #[{ on := 1, ground := Go.Ground.data }], guard := none }) (v := undef) rfl (by kernel_rfl) (by kernel_rfl) (by kernel_rfl) (fun _ _ _ h => h) (Or.inr ⟨by rfl, rfl⟩) hHeld0 ?_)
      try simp only [Act.put, List.setIfInBounds_toArray, List.set_cons_zero, List.set_cons_succ]
      refine wpAnyH_take (i := 3) (oi := { dst := some 23, op := Go.Op.move (Go.Operand.tmp 7), type := 51, pos := "node.go:35", after := #[{ on := 2, ground := Go.Ground.guard }], guard := some (2, false) }) (v := undef) rfl (by kernel_rfl) (by kernel_rfl) (by kernel_rfl) (fun _ _ _ h => h) (Or.inr ⟨by rfl, rfl⟩) hHeld0 ?_
      try simp only [Act.put, List.setIfInBounds_toArray, List.set_cons_zero, List.set_cons_succ]
      refine wpAnyH_take (i := 4) (oi := { dst := some 24, op := Go.Op.nilCheck (Go.Operand.tmp 23), type := 0, pos := "node.go:35", after := #[{ on := 3, ground := Go.Ground.data }, { on := 2, ground := Go.Ground.guard }], guard := some (2, false) }) (v := undef) rfl (by kernel_rfl) (by kernel_rfl) (by kernel_rfl) (fun _ _ _ h => h) (Or.inr ⟨by rfl, rfl⟩) hHeld0 ?_
      try simp only [Act.put, List.setIfInBounds_toArray, List.set_cons_zero, List.set_cons_succ]
      refine wpAnyH_take (i := 5) (oi := { dst := some 25, op := Go.Op.fieldAddr 58 (Go.Operand.tmp 24) 0, type := 0, pos := "node.go:35", after := #[{ on := 4, ground := Go.Ground.data }, { on := 2, ground := Go.Ground.guard }], guard := some (2, false) }) (v := undef) rfl (by kernel_rfl) (by kernel_rfl) (by kernel_rfl) (fun _ _ _ h => h) (Or.inr ⟨by rfl, rfl⟩) hHeld0 ?_
      try simp only [Act.put, List.setIfInBounds_toArray, List.set_cons_zero, List.set_cons_succ]
      refine wpAnyH_take (i := 6) (oi := { dst := some 26, op := Go.Op.fieldAddr 29 (Go.Operand.tmp 25) 1, type := 0, pos := "node.go:35", after := #[{ on := 5, ground := Go.Ground.data }, { on := 2, ground := Go.Ground.guard }], guard := some (2, false) }) (v := undef) rfl (by kernel_rfl) (by kernel_rfl) (by kernel_rfl) (fun _ _ _ h => h) (Or.inr ⟨by rfl, rfl⟩) hHeld0 ?_
      try simp only [Act.put, List.setIfInBounds_toArray, List.set_cons_zero, List.set_cons_succ]
      refine wpAnyH_take (i := 7) (oi := { dst := some 27, op := Go.Op.load 3 (Go.Operand.tmp 26), type := 3, pos := "node.go:35", after := #[{ on := 6, ground := Go.Ground.data }, { on := 2, ground := Go.Ground.guard }], guard := some (2, false) }) (v := undef) rfl (by kernel_rfl) (by kernel_rfl) (by kernel_rfl) (fun _ _ _ h => h) (Or.inr ⟨by rfl, rfl⟩) hHeld0 ?_
      try simp only [Act.put, List.setIfInBounds_toArray, List.set_cons_zero, List.set_cons_succ]
      refine wpAnyH_take (i := 8) (oi := { dst := some 28, op := Go.Op.fieldAddr 29 (Go.Operand.tmp 3) 1, type := 0, pos := "node.go:35", after := #[{ on := 2, ground := Go.Ground.guard }], guard := some (2, false) }) (v := undef) rfl (by kernel_rfl) (by kernel_rfl) (by kernel_rfl) (fun _ _ _ h => h) (Or.inr ⟨by rfl, rfl⟩) hHeld0 ?_
      try simp only [Act.put, List.setIfInBounds_toArray, List.set_cons_zero, List.set_cons_succ]
      refine wpAnyH_take (i := 9) (oi := { dst := some 29, op := Go.Op.load 3 (Go.Operand.tmp 28), type := 3, pos := "node.go:35", after := #[{ on := 8, ground := Go.Ground.data }, { on := 2, ground := Go.Ground.guard }], guard := some (2, false) }) (v := undef) rfl (by kernel_rfl) (by kernel_rfl) (by kernel_rfl) (fun _ _ _ h => h) (Or.inr ⟨by rfl, rfl⟩) hHeld0 ?_
      try simp only [Act.put, List.setIfInBounds_toArray, List.set_cons_zero, List.set_cons_succ]
      refine wpAnyH_take (i := 10) (oi := { dst := some 30, op := Go.Op.binOp Go.BinOp.geq 3 (Go.Operand.tmp 27) (Go.Operand.tmp 29) 3, type := 4, pos := "node.go:35", after := #[{ on := 7, ground := Go.Ground.data }, { on := 9, ground := Go.Ground.data }, { on := 2, ground := Go.Ground.guard }], guard := some (2, false) }) (v := undef) rfl (by kernel_rfl) (by kernel_rfl) (by kernel_rfl) (fun _ _ _ h => h) (Or.inr ⟨by rfl, rfl⟩) hHeld0 ?_
      try simp only [Act.put, List.setIfInBounds_toArray, List.set_cons_zero, List.set_cons_succ]
      first
      | (refine wpAnyH_take (i := 11) (oi := { dst := some 31, op := Go.Op.pick (Go.Operand.tmp 22) (Go.Operand.const (Go.Value.bool true)) (Go.Operand.tmp 30), type := 4, pos := "node.go:35", after := #[{ on := 2, ground := Go.Ground.data }, { on := 10, ground := Go.Ground.data }], guard := none }) (v := ?_) rfl (by kernel_rfl) (by kernel_rfl) (by kernel_rfl) (fun _ _ _ h => h) (Or.inl ⟨by rfl, ?_⟩) hHeld0 ?_
         rotate_left
         · ((intro w hSw; (try dsimp only at hSw); go_simp) <;> (first | with_reducible rfl | (rw [if_neg (by omega)]; done))))
      | (refine wpAnyH_take (i := 11) (oi := { dst := some 31, op := Go.Op.pick (Go.Operand.tmp 22) (Go.Operand.const (Go.Value.bool true)) (Go.Operand.tmp 30), type := 4, pos := "node.go:35", after := #[{ on := 2, ground := Go.Ground.data }, { on := 10, ground := Go.Ground.data }], guard := none }) (v := undef) rfl (by kernel_rfl) (by kernel_rfl) (by kernel_rfl) (fun _ _ _ h => h) (Or.inr ⟨by rfl, rfl⟩) hHeld0 ?_)
      try simp only [Act.put, List.setIfInBounds_toArray, List.set_cons_zero, List.set_cons_succ]
      first
      | (refine wpAnyH_take (i := 12) (oi := { dst := some 32, op := Go.Op.move (Go.Operand.tmp 31), type := 4, pos := "node.go:35", after := #[{ on := 11, ground := Go.Ground.data }, { on := 2, ground := Go.Ground.chain }], guard := none }) (v := ?_) rfl (by kernel_rfl) (by kernel_rfl) (by kernel_rfl) (fun _ _ _ h => h) (Or.inl ⟨by rfl, ?_⟩) hHeld0 ?_
         rotate_left
         · ((intro w hSw; (try dsimp only at hSw); go_simp) <;> (first | with_reducible rfl | (rw [if_neg (by omega)]; done))))
      | (refine wpAnyH_take (i := 12) (oi := { dst := some 32, op := Go.Op.move (Go.Operand.tmp 31), type := 4, pos := "node.go:35", after := #[{ on := 11, ground := Go.Ground.data }, { on := 2, ground := Go.Ground.chain }], guard := none }) (v := undef) rfl (by kernel_rfl) (by kernel_rfl) (by kernel_rfl) (fun _ _ _ h => h) (Or.inr ⟨by rfl, rfl⟩) hHeld0 ?_)
      try simp only [Act.put, List.setIfInBounds_toArray, List.set_cons_zero, List.set_cons_succ]
      refine wpAnyH_take (i := 13) (oi := { dst := some 33, op := Go.Op.load 29 (Go.Operand.tmp 3), type := 29, pos := "node.go:35", after := #[{ on := 12, ground := Go.Ground.guard }], guard := some (12, false) }) (v := undef) rfl (by kernel_rfl) (by kernel_rfl) (by kernel_rfl) (fun _ _ _ h => h) (Or.inr ⟨by rfl, rfl⟩) hHeld0 ?_
      try simp only [Act.put, List.setIfInBounds_toArray, List.set_cons_zero, List.set_cons_succ]
      refine wpAnyH_take (i := 14) (oi := { dst := some 34, op := Go.Op.move (Go.Operand.tmp 7), type := 51, pos := "node.go:35", after := #[{ on := 12, ground := Go.Ground.guard }], guard := some (12, false) }) (v := undef) rfl (by kernel_rfl) (by kernel_rfl) (by kernel_rfl) (fun _ _ _ h => h) (Or.inr ⟨by rfl, rfl⟩) hHeld0 ?_
      try simp only [Act.put, List.setIfInBounds_toArray, List.set_cons_zero, List.set_cons_succ]
      refine wpAnyH_take (i := 15) (oi := { dst := some 35, op := Go.Op.nilCheck (Go.Operand.tmp 34), type := 0, pos := "node.go:35", after := #[{ on := 14, ground := Go.Ground.data }, { on := 12, ground := Go.Ground.guard }], guard := some (12, false) }) (v := undef) rfl (by kernel_rfl) (by kernel_rfl) (by kernel_rfl) (fun _ _ _ h => h) (Or.inr ⟨by rfl, rfl⟩) hHeld0 ?_
      try simp only [Act.put, List.setIfInBounds_toArray, List.set_cons_zero, List.set_cons_succ]
      refine wpAnyH_take (i := 16) (oi := { dst := some 36, op := Go.Op.fieldAddr 58 (Go.Operand.tmp 35) 0, type := 0, pos := "node.go:35", after := #[{ on := 15, ground := Go.Ground.data }, { on := 12, ground := Go.Ground.guard }], guard := some (12, false) }) (v := undef) rfl (by kernel_rfl) (by kernel_rfl) (by kernel_rfl) (fun _ _ _ h => h) (Or.inr ⟨by rfl, rfl⟩) hHeld0 ?_
      try simp only [Act.put, List.setIfInBounds_toArray, List.set_cons_zero, List.set_cons_succ]
      refine wpAnyH_take (i := 17) (oi := { dst := some 37, op := Go.Op.load 29 (Go.Operand.tmp 36), type := 29, pos := "node.go:35", after := #[{ on := 16, ground := Go.Ground.data }, { on := 12, ground := Go.Ground.guard }], guard := some (12, false) }) (v := undef) rfl (by kernel_rfl) (by kernel_rfl) (by kernel_rfl) (fun _ _ _ h => h) (Or.inr ⟨by rfl, rfl⟩) hHeld0 ?_
      try simp only [Act.put, List.setIfInBounds_toArray, List.set_cons_zero, List.set_cons_succ]
      refine wpAnyH_take (i := 18) (oi := { dst := some 38, op := Go.Op.call { callee := Go.Callee.value (Go.Operand.func 26), args := #[Go.Operand.tmp 33, Go.Operand.tmp 37], argTypes := #[29, 29] }, type := 4, pos := "node.go:35", after := #[{ on := 13, ground := Go.Ground.data }, { on := 17, ground := Go.Ground.data }, { on := 12, ground := Go.Ground.chain }, { on := 12, ground := Go.Ground.guard }], guard := some (12, false) }) (v := undef) rfl (by kernel_rfl) (by kernel_rfl) (by kernel_rfl) (fun _ _ _ h => h) (Or.inr ⟨by rfl, rfl⟩) hHeld0 ?_
      try simp only [Act.put, List.setIfInBounds_toArray, List.set_cons_zero, List.set_cons_succ]
      refine wpAnyH_take (i := 19) (oi := { dst := some 39, op := Go.Op.unOp Go.UnOp.not 4 (Go.Operand.tmp 38), type := 4, pos := "node.go:35", after := #[{ on := 18, ground := Go.Ground.data }, { on := 12, ground := Go.Ground.guard }], guard := some (12, false) }) (v := undef) rfl (by kernel_rfl) (by kernel_rfl) (by kernel_rfl) (fun _ _ _ h => h) (Or.inr ⟨by rfl, rfl⟩) hHeld0 ?_
      try simp only [Act.put, List.setIfInBounds_toArray, List.set_cons_zero, List.set_cons_succ]
      first
      | (refine wpAnyH_take (i := 20) (oi := { dst := some 40, op := Go.Op.pick (Go.Operand.tmp 32) (Go.Operand.const (Go.Value.bool true)) (Go.Operand.tmp 39), type := 4, pos := "node.go:35", after := #[{ on := 12, ground := Go.Ground.data }, { on := 19, ground := Go.Ground.data }], guard := none }) (v := ?_) rfl (by kernel_rfl) (by kernel_rfl) (by kernel_rfl) (fun _ _ _ h => h) (Or.inl ⟨by rfl, ?_⟩) hHeld0 ?_
         rotate_left
         · ((intro w hSw; (try dsimp only at hSw); go_simp) <;> (first | with_reducible rfl | (rw [if_neg (by omega)]; done))))
      | (refine wpAnyH_take (i := 20) (oi := { dst := some 40, op := Go.Op.pick (Go.Operand.tmp 32) (Go.Operand.const (Go.Value.bool true)) (Go.Operand.tmp 39), type := 4, pos := "node.go:35", after := #[{ on := 12, ground := Go.Ground.data }, { on := 19, ground := Go.Ground.data }], guard := none }) (v := undef) rfl (by kernel_rfl) (by kernel_rfl) (by kernel_rfl) (fun _ _ _ h => h) (Or.inr ⟨by rfl, rfl⟩) hHeld0 ?_)
      try simp only [Act.put, List.setIfInBounds_toArray, List.set_cons_zero, List.set_cons_succ]
      refine wpAnyH_done (by kernel_rfl) ?_ _
      clear hHeld0
      go_wp2_with fail
      refine jump_ret ?_
      go_ret
      have hl0 : 0 < (places B d fs).length := by rw [HPL.out]; omega
      obtain ⟨g, cap, rfl, p1, p2, p3, p4⟩ := ptrs_own HO5.out hl0
      rw [← HWE.out]
      exact ⟨g, cap, rfl, p1, p2, by omega, p4.below (Below.drew (Below.refl _ _)), Below.drew HB5.out⟩
    | node b ad cp a n1 o1 l r =>
      obtain rfl : pe = .pointer (some ⟨b, 0, none⟩) := HPE.out
      have hnd := trAt_fill HON.out HTB5.out.here
      have HA5 : Hid (Bytes w5.drew (.slice ad a.length cp) a) := Lib.hid (hnd.1.2.2.1.below (Below.drew (Below.refl _ _)))
      have n0 := cell_of hnd.1.2.1 0 rfl
      have n2 := cell_of hnd.1.2.1 1 rfl
      have HN := Lib.hid hnd.1.2.1
      have hal : a.length = q.length := hew.1.1
      have hn8 : n1 ≤ 8 * q.length := hew.1.2.1
      have hra : rightP a.length n1 = true := rightP_nat.2 ⟨by omega, by omega⟩
      have hrq : rightP q.length m = true := rightP_nat.2 ⟨by omega, by omega⟩
      have hwi := withinP_iff (a := q) (b := a) (m := m) (n := n1) hal.symm hrq hra
      have HWI : Hid (∀ w, Bytes w (.slice qd q.length qc) q → Bytes w (.slice ad a.length cp) a → Calls Try.prog 26 #[.agg #[.slice qd q.length qc, .int .i64 m], .agg #[.slice ad a.length cp, .int .i64 n1]] w (RightRet w (withinP q m a n1))) := Lib.hid (fun w h1 h2 => awithin_all q a qd ad qc cp m n1 w h1 h2 (by omega) (by omega))
      have hends : ¬ (n1 < m ∧ Agr q a n1) → wayF q m (.node b ad cp a n1 o1 l r) fs = (fs, .node b ad cp a n1 o1 l r) := fun h => by unfold wayF; rw [if_neg h]
      have HEN := Lib.hid hends
      by_cases hlt : n1 < m
      · have hge : ¬ (m : Int) ≤ n1 := by omega
        by_cases hag : Agr q a n1
        · have hwt : withinP q m a n1 = true := hwi.2 ⟨by omega, hag⟩
          rw [hwt] at HWI
          have HKD : Hid (∀ w, w.heap[b]? = some (.cells #[.slice ad a.length cp, .int .i64 n1, .int .i64 o1, l.ptr, r.ptr] 58 (0, 0)) → Bytes w (.slice qd q.length qc) q → Calls Try.prog 39 #[.pointer (some ⟨b, 0, none⟩), .agg #[.slice qd q.length qc, .int .i64 m]] w fun e w' => e = .returned (.pointer (some ⟨b, 3 + bitAt q n1, none⟩)) ∧ Below w.heap.size w w') := Lib.hid (fun w h1 h2 => kid_any b ad cp a n1 o1 l r qd qc q m w h1 h2 (by omega) (by omega))
          have HON2 : Hid (∀ f ∈ (⟨b, ad, cp, a, n1, o1, bitAt q n1, if bitAt q n1 = 0 then r else l⟩ :: fs : List Fr), OnWay q m f) := Lib.hid (by
            intro f hf
            rcases List.mem_cons.1 hf with rfl | hf
            · exact ⟨hlt, hag, rfl⟩
            · exact hon f hf)
          have HWE := Lib.hid ((way_step ⟨hlt, hag⟩ b ad cp o1 l r fs).symm.trans HWE.out)
          have HFE := Lib.hid ((fill_step q a n1 b ad cp o1 l r fs).trans hfe)
          have HDP := Lib.hid (dep_step q a n1 b ad cp o1 l r)
          clear hal hn8 hra hrq hwi hends hag hwt hnd HEN hon hfe
          refine wp_region_held_drew (S := (fun W => W.cell? ⟨b, 0, none⟩ = some (.slice ad a.length cp) ∧ W.cell? ⟨b, 1, none⟩ = some (.int .i64 n1) ∧ W.cell? ⟨w.heap.size, 0, none⟩ = some (.slice qd q.length qc) ∧ W.cell? ⟨w.heap.size, 1, none⟩ = some (.int .i64 m))) (by kernel_rfl) ?_ (fun hHeld0 => ?_)
          · (try dsimp only); exact ⟨n0, n2, x0, x1⟩
          first
          | (refine wpAnyH_take (i := 0) (oi := { dst := some 20, op := Go.Op.move (Go.Operand.tmp 7), type := 51, pos := "node.go:35", after := #[], guard := none }) (v := ?_) rfl (by kernel_rfl) (by kernel_rfl) (by kernel_rfl) (fun _ _ _ h => h) (Or.inl ⟨by rfl, ?_⟩) hHeld0 ?_
             rotate_left
             · ((intro w hSw; (try dsimp only at hSw); go_simp) <;> (first | with_reducible rfl | (rw [if_neg (by omega)]; done))))
          | (refine wpAnyH_take (i := 0) (oi := { dst := some 20, op := Go.Op.move (Go.Operand.tmp 7), type := 51, pos := "node.go:35", after := #[], guard := none }) (v := undef) rfl (by kernel_rfl) (by kernel_rfl) (by kernel_rfl) (fun _ _ _ h => h) (Or.inr ⟨by rfl, rfl⟩) hHeld0 ?_)
          try simp only [Act.put, List.setIfInBounds_toArray, List.set_cons_zero, List.set_cons_succ]
          first
          | (refine wpAnyH_take (i := 1) (oi := { dst := some 21, op := Go.Op.binOp Go.BinOp.eql 51 (Go.Operand.tmp 20) (Go.Operand.const (Go.Value.pointer none)) 51, type := 4, pos := "node.go:35", after := #[{ on := 0, ground := Go.Ground.data }], guard := none }) (v := ?_) rfl (by kernel_rfl) (by kernel_rfl) (by kernel_rfl) (fun _ _ _ h => h) (Or.inl ⟨by rfl, ?_⟩) hHeld0 ?_
             rotate_left
             · ((intro w hSw; (try dsimp only at hSw); go_simp) <;> (first | with_reducible rfl | (rw [if_neg (by omega)]; done))))
          | (refine wpAnyH_take (i := 1) (oi := { dst := some 21, op := Go.Op.binOp Go.BinOp.eql 51 (Go.Operand.tmp 20) (Go.Operand.const (Go.Value.pointer none)) 51, type := 4, pos := "node.go:35", after := #[{ on := 0, ground := Go.Ground.data }], guard := none }) (v := undef) rfl (by kernel_rfl) (by kernel_rfl) (by kernel_rfl) (fun _ _ _ h => h) (Or.inr ⟨by rfl, rfl⟩) hHeld0 ?_)
          try simp only [Act.put, List.setIfInBounds_toArray, List.set_cons_zero, List.set_cons_succ]
          first
          | (refine wpAnyH_take (i := 2) (oi := { dst := some 22, op := Go.Op.move (Go.Operand.tmp 21), type := 4, pos := "node.go:35", after := #[{ on := 1, ground := Go.Ground.data }], guard := none }) (v := ?_) rfl (by kernel_rfl) (by kernel_rfl) (by kernel_rfl) (fun _ _ _ h => h) (Or.inl ⟨by rfl, ?_⟩) hHeld0 ?_
             rotate_left
             · ((intro w hSw; (try dsimp only at hSw); go_simp) <;> (first | with_reducible rfl | (rw [if_neg (by omega)]; done))))
          | (refine wpAnyH_take (i := 2) (oi := { dst := some 22, op := Go.Op.move (Go.Operand.tmp 21), type := 4, pos := "node.go:35", after := #[{ on := 1, ground := Go.Ground.data }], guard := none }) (v := undef) rfl (by kernel_rfl) (by kernel_rfl) (by kernel_rfl) (fun _ _ _ h => h) (Or.inr ⟨by rfl, rfl⟩) hHeld0 ?_)
          try simp only [Act.put, List.setIfInBounds_toArray, List.set_cons_zero, List.set_cons_succ]
          first
          | (refine wpAnyH_take (i := 3) (oi := { dst := some 23, op := Go.Op.move (Go.Operand.tmp 7), type := 51, pos := "node.go:35", after := #[{ on := 2, ground := Go.Ground.guard }], guard := some (2, false) }) (v := ?_) rfl (by kernel_rfl) (by kernel_rfl) (by kernel_rfl) (fun _ _ _ h => h) (Or.inl ⟨by rfl, ?_⟩) hHeld0 ?_
             rotate_left
             · ((intro w hSw; (try dsimp only at hSw); go_simp) <;> (first | with_reducible rfl | (rw [if_neg (by omega)]; done))))
          | (refine wpAnyH_take (i := 3) (oi := { dst := some 23, op := Go.Op.move (Go.Operand.tmp 7), type := 51, pos := "node.go:35", after := #[{ on := 2, ground := Go.Ground.guard }], guard := some (2, false) }) (v := undef) rfl (by kernel_rfl) (by kernel_rfl) (by kernel_rfl) (fun _ _ _ h => h) (Or.inr ⟨by rfl, rfl⟩) hHeld0 ?_)
          try simp only [Act.put, List.setIfInBounds_toArray, List.set_cons_zero, List.set_cons_succ]
          first
          | (refine wpAnyH_take (i := 4) (oi := { dst := some 24, op := Go.Op.nilCheck (Go.Operand.tmp 23), type := 0, pos := "node.go:35", after := #[{ on := 3, ground := Go.Ground.data }, { on := 2, ground := Go.Ground.guard }], guard := some (2, false) }) (v := ?_) rfl (by kernel_rfl) (by kernel_rfl) (by kernel_rfl) (fun _ _ _ h => h) (Or.inl ⟨by rfl, ?_⟩) hHeld0 ?_
             rotate_left
             · ((intro w hSw; (try dsimp only at hSw); go_simp) <;> (first | with_reducible rfl | (rw [if_neg (by omega)]; done))))
          | (refine wpAnyH_take (i := 4) (oi := { dst := some 24, op := Go.Op.nilCheck (Go.Operand.tmp 23), type := 0, pos := "node.go:35", after := #[{ on := 3, ground := Go.Ground.data }, { on := 2, ground := Go.Ground.guard }], guard := some (2, false) }) (v := undef) rfl (by kernel_rfl) (by kernel_rfl) (by kernel_rfl) (fun _ _ _ h => h) (Or.inr ⟨by rfl, rfl⟩) hHeld0 ?_)
          try simp only [Act.put, List.setIfInBounds_toArray, List.set_cons_zero, List.set_cons_succ]
          first
          | (refine wpAnyH_take (i := 5) (oi := { dst := some 25, op := Go.Op.fieldAddr 58 (Go.Operand.tmp 24) 0, type := 0, pos := "node.go:35", after := #[{ on := 4, ground := Go.Ground.data }, { on := 2, ground := Go.Ground.guard }], guard := some (2, false) }) (v := ?_) rfl (by kernel_rfl) (by kernel_rfl) (by kernel_rfl) (fun _ _ _ h => h) (Or.inl ⟨by rfl, ?_⟩) hHeld0 ?_
             rotate_left
             · ((intro w hSw; (try dsimp only at hSw); go_simp) <;> (first | with_reducible rfl | (rw [if_neg (by omega)]; done))))
          | (refine wpAnyH_take (i := 5) (oi := { dst := some 25, op := Go.Op.fieldAddr 58 (Go.Operand.tmp 24) 0, type := 0, pos := "node.go:35", after := #[{ on := 4, ground := Go.Ground.data }, { on := 2, ground := Go.Ground.guard }], guard := some (2, false) }) (v := undef) rfl (by kernel_rfl) (by kernel_rfl) (by kernel_rfl) (fun _ _ _ h => h) (Or.inr ⟨by rfl, rfl⟩) hHeld0 ?_)
          try simp only [Act.put, List.setIfInBounds_toArray, List.set_cons_zero, List.set_cons_succ]
          first
          | (refine wpAnyH_take (i := 6) (oi := { dst := some 26, op := Go.Op.fieldAddr 29 (Go.Operand.tmp 25) 1, type := 0, pos := "node.go:35", after := #[{ on := 5, ground := Go.Ground.data }, { on := 2, ground := Go.Ground.guard }], guard := some (2, false) }) (v := ?_) rfl (by kernel_rfl) (by kernel_rfl) (by kernel_rfl) (fun _ _ _ h => h) (Or.inl ⟨by rfl, ?_⟩) hHeld0 ?_
             rotate_left
             · ((intro w hSw; (try dsimp only at hSw); go_simp) <;> (first | with_reducible rfl | (rw [if_neg (by omega)]; done))))
          | (refine wpAnyH_take (i := 6) (oi := { dst := some 26, op := Go.Op.fieldAddr 29 (Go.Operand.tmp 25) 1, type := 0, pos := "node.go:35", after := #[{ on := 5, ground := Go.Ground.data }, { on := 2, ground := Go.Ground.guard }], guard := some (2, false) }) (v := undef) rfl (by kernel_rfl) (by kernel_rfl) (by kernel_rfl) (fun _ _ _ h => h) (Or.inr ⟨by rfl, rfl⟩) hHeld0 ?_)
          try simp only [Act.put, List.setIfInBounds_toArray, List.set_cons_zero, List.set_cons_succ]
          first
          | (refine wpAnyH_take (i := 7) (oi := { dst := some 27, op := Go.Op.load 3 (Go.Operand.tmp 26), type := 3, pos := "node.go:35", after := #[{ on := 6, ground := Go.Ground.data }, { on := 2, ground := Go.Ground.guard }], guard := some (2, false) }) (v := ?_) rfl (by kernel_rfl) (by kernel_rfl) (by kernel_rfl) (fun _ _ _ h => h) (Or.inl ⟨by rfl, ?_⟩) hHeld0 ?_
             rotate_left
             · ((intro w hSw; (try dsimp only at hSw); go_simp) <;> (first | with_reducible rfl | (rw [if_neg (by omega)]; done))))
          | (refine wpAnyH_take (i := 7) (oi := { dst := some 27, op := Go.Op.load 3 (Go.Operand.tmp 26), type := 3, pos := "node.go:35", after := #[{ on := 6, ground := Go.Ground.data }, { on := 2, ground := Go.Ground.guard }], guard := some (2, false) }) (v := undef) rfl (by kernel_rfl) (by kernel_rfl) (by kernel_rfl) (fun _ _ _ h => h) (Or.inr ⟨by rfl, rfl⟩) hHeld0 ?_)
          try simp only [Act.put, List.setIfInBounds_toArray, List.set_cons_zero, List.set_cons_succ]
          first
          | (refine wpAnyH_take (i := 8) (oi := { dst := some 28, op := Go.Op.fieldAddr 29 (Go.Operand.tmp 3) 1, type := 0, pos := "node.go:35", after := #[{ on := 2, ground := Go.Ground.guard }], guard := some (2, false) }) (v := ?_) rfl (by kernel_rfl) (by kernel_rfl) (by kernel_rfl) (fun _ _ _ h => h) (Or.inl ⟨by rfl, ?_⟩) hHeld0 ?_
             rotate_left
             · ((intro w hSw; (try dsimp only at hSw); go_simp) <;> (first | with_reducible rfl | (rw [if_neg (by omega)]; done))))
          | (refine wpAnyH_take (i := 8) (oi := { dst := some 28, op := Go.Op.fieldAddr 29 (Go.Operand.tmp 3) 1, type := 0, pos := "node.go:35", after := #[{ on := 2, ground := Go.Ground.guard }], guard := some (2, false) }) (v := undef) rfl (by kernel_rfl) (by kernel_rfl) (by kernel_rfl) (fun _ _ _ h => h) (Or.inr ⟨by rfl, rfl⟩) hHeld0 ?_)
          try simp only [Act.put, List.setIfInBounds_toArray, List.set_cons_zero, List.set_cons_succ]
          first
          | (refine wpAnyH_take (i := 9) (oi := { dst := some 29, op := Go.Op.load 3 (Go.Operand.tmp 28), type := 3, pos := "node.go:35", after := #[{ on := 8, ground := Go.Ground.data }, { on := 2, ground := Go.Ground.guard }], guard := some (2, false) }) (v := ?_) rfl (by kernel_rfl) (by kernel_rfl) (by kernel_rfl) (fun _ _ _ h => h) (Or.inl ⟨by rfl, ?_⟩) hHeld0 ?_
             rotate_left
             · ((intro w hSw; (try dsimp only at hSw); go_simp) <;> (first | with_reducible rfl | (rw [if_neg (by omega)]; done))))
          | (refine wpAnyH_take (i := 9) (oi := { dst := some 29, op := Go.Op.load 3 (Go.Operand.tmp 28), type := 3, pos := "node.go:35", after := #[{ on := 8, ground := Go.Ground.data }, { on := 2, ground := Go.Ground.guard }], guard := some (2, false) }) (v := undef) rfl (by kernel_rfl) (by kernel_rfl) (by kernel_rfl) (fun _ _ _ h => h) (Or.inr ⟨by rfl, rfl⟩) hHeld0 ?_)
          try simp only [Act.put, List.setIfInBounds_toArray, List.set_cons_zero, List.set_cons_succ]
          first
          | (refine wpAnyH_take (i := 10) (oi := { dst := some 30, op := Go.Op.binOp Go.BinOp.geq 3 (Go.Operand.tmp 27) (Go.Operand.tmp 29) 3, type := 4, pos := "node.go:35", after := #[{ on := 7, ground := Go.Ground.data }, { on := 9, ground := Go.Ground.data }, { on := 2, ground := Go.Ground.guard }], guard := some (2, false) }) (v := ?_) rfl (by kernel_rfl) (by kernel_rfl) (by kernel_rfl) (fun _ _ _ h => h) (Or.inl ⟨by rfl, ?_⟩) hHeld0 ?_
             rotate_left
             · ((intro w hSw; (try dsimp only at hSw); go_simp) <;> (first | with_reducible rfl | (rw [if_neg (by omega)]; done))))
          | (refine wpAnyH_take (i := 10) (oi := { dst := some 30, op := Go.Op.binOp Go.BinOp.geq 3 (Go.Operand.tmp 27) (Go.Operand.tmp 29) 3, type := 4, pos := "node.go:35", after := #[{ on := 7, ground := Go.Ground.data }, { on := 9, ground := Go.Ground.data }, { on := 2, ground := Go.Ground.guard }], guard := some (2, false) }) (v := undef) rfl (by kernel_rfl) (by kernel_rfl) (by kernel_rfl) (fun _ _ _ h => h) (Or.inr ⟨by rfl, rfl⟩) hHeld0 ?_)
          try simp only [Act.put, List.setIfInBounds_toArray, List.set_cons_zero, List.set_cons_succ]
          first
          | (refine wpAnyH_take (i := 11) (oi := { dst := some 31, op := Go.Op.pick (Go.Operand.tmp 22) (Go.Operand.const (Go.Value.bool true)) (Go.Operand.tmp 30), type := 4, pos := "node.go:35", after := #[{ on := 2, ground := Go.Ground.data }, { on := 10, ground := Go.Ground.data }], guard := none }) (v := ?_) rfl (by kernel_rfl) (by kernel_rfl) (by kernel_rfl) (fun _ _ _ h => h) (Or.inl ⟨by rfl, ?_⟩) hHeld0 ?_
             rotate_left
             · ((intro w hSw; (try dsimp only at hSw); go_simp) <;> (first | with_reducible rfl | (rw [if_neg (by omega)]; done))))
          | (refine wpAnyH_take (i := 11) (oi := { dst := some 31, op := Go.Op.pick (Go.Operand.tmp 22) (Go.Operand.const (Go.Value.bool true)) (Go.Operand.tmp 30), type := 4, pos := "node.go:35", after := #[{ on := 2, ground := Go.Ground.data }, { on := 10, ground := Go.Ground.data }], guard := none }) (v := undef) rfl (by kernel_rfl) (by kernel_rfl) (by kernel_rfl) (fun _ _ _ h => h) (Or.inr ⟨by rfl, rfl⟩) hHeld0 ?_)
          try simp only [Act.put, List.setIfInBounds_toArray, List.set_cons_zero, List.set_cons_succ]
          first
          | (refine wpAnyH_take (i := 12) (oi := { dst := some 32, op := Go.Op.move (Go.Operand.tmp 31), type := 4, pos := "node.go:35", after := #[{ on := 11, ground := Go.Ground.data }, { on := 2, ground := Go.Ground.chain }], guard := none }) (v := ?_) rfl (by kernel_rfl) (by kernel_rfl) (by kernel_rfl) (fun _ _ _ h => h) (Or.inl ⟨by rfl, ?_⟩) hHeld0 ?_
             rotate_left
             · ((intro w hSw; (try dsimp only at hSw); go_simp) <;> (first | with_reducible rfl | (rw [if_neg (by omega)]; done))))
          | (refine wpAnyH_take (i := 12) (oi := { dst := some 32, op := Go.Op.move (Go.Operand.tmp 31), type := 4, pos := "node.go:35", after := #[{ on := 11, ground := Go.Ground.data }, { on := 2, ground := Go.Ground.chain }], guard := none }) (v := undef) rfl (by kernel_rfl) (by kernel_rfl) (by kernel_rfl) (fun _ _ _ h => h) (Or.inr ⟨by rfl, rfl⟩) hHeld0 ?_)
          try simp only [Act.put, List.setIfInBounds_toArray, List.set_cons_zero, List.set_cons_succ]
          first
          | (refine wpAnyH_take (i := 13) (oi := { dst := some 33, op := Go.Op.load 29 (Go.Operand.tmp 3), type := 29, pos := "node.go:35", after := #[{ on := 12, ground := Go.Ground.guard }], guard := some (12, false) }) (v := ?_) rfl (by kernel_rfl) (by kernel_rfl) (by kernel_rfl) (fun _ _ _ h => h) (Or.inl ⟨by rfl, ?_⟩) hHeld0 ?_
             rotate_left
             · ((intro w hSw; (try dsimp only at hSw); go_simp) <;> (first | with_reducible rfl | (rw [if_neg (by omega)]; done))))
          | (refine wpAnyH_take (i := 13) (oi := { dst := some 33, op := Go.Op.load 29 (Go.Operand.tmp 3), type := 29, pos := "node.go:35", after := #[{ on := 12, ground := Go.Ground.guard }], guard := some (12, false) }) (v := undef) rfl (by kernel_rfl) (by kernel_rfl) (by kernel_rfl) (fun _ _ _ h => h) (Or.inr ⟨by rfl, rfl⟩) hHeld0 ?_)
          try simp only [Act.put, List.setIfInBounds_toArray, List.set_cons_zero, List.set_cons_succ]
          first
          | (refine wpAnyH_take (i := 14) (oi := { dst := some 34, op := Go.Op.move (Go.Operand.tmp 7), type := 51, pos := "node.go:35", after := #[{ on := 12, ground := Go.Ground.guard }], guard := some (12, false) }) (v := ?_) rfl (by kernel_rfl) (by kernel_rfl) (by kernel_rfl) (fun _ _ _ h => h) (Or.inl ⟨by rfl, ?_⟩) hHeld0 ?_
             rotate_left
             · ((intro w hSw; (try dsimp only at hSw); go_simp) <;> (first | with_reducible rfl | (rw [if_neg (by omega)]; done))))
          | (refine wpAnyH_take (i := 14) (oi := { dst := some 34, op := Go.Op.move (Go.Operand.tmp 7), type := 51, pos := "node.go:35", after := #[{ on := 12, ground := Go.Ground.guard }], guard := some (12, false) }) (v := undef) rfl (by kernel_rfl) (by kernel_rfl) (by kernel_rfl) (fun _ _ _ h => h) (Or.inr ⟨by rfl, rfl⟩) hHeld0 ?_)
          try simp only [Act.put, List.setIfInBounds_toArray, List.set_cons_zero, List.set_cons_succ]
          first
          | (refine wpAnyH_take (i := 15) (oi := { dst := some 35, op := Go.Op.nilCheck (Go.Operand.tmp 34), type := 0, pos := "node.go:35", after := #[{ on := 14, ground := Go.Ground.data }, { on := 12, ground := Go.Ground.guard }], guard := some (12, false) }) (v := ?_) rfl (by kernel_rfl) (by kernel_rfl) (by kernel_rfl) (fun _ _ _ h => h) (Or.inl ⟨by rfl, ?_⟩) hHeld0 ?_
             rotate_left
             · ((intro w hSw; (try dsimp only at hSw); go_simp) <;> (first | with_reducible rfl | (rw [if_neg (by omega)]; done))))
          | (refine wpAnyH_take (i := 15) (oi := { dst := some 35, op := Go.Op.nilCheck (Go.Operand.tmp 34), type := 0, pos := "node.go:35", after := #[{ on := 14, ground := Go.Ground.data }, { on := 12, ground := Go.Ground.guard }], guard := some (12, false) }) (v := undef) rfl (by kernel_rfl) (by kernel_rfl) (by kernel_rfl) (fun _ _ _ h => h) (Or.inr ⟨by rfl, rfl⟩) hHeld0 ?_)
          try simp only [Act.put, List.setIfInBounds_toArray, List.set_cons_zero, List.set_cons_succ]
          first
          | (refine wpAnyH_take (i := 16) (oi := { dst := some 36, op := Go.Op.fieldAddr 58 (Go.Operand.tmp 35) 0, type := 0, pos := "node.go:35", after := #[{ on := 15, ground := Go.Ground.data }, { on := 12, ground := Go.Ground.guard }], guard := some (12, false) }) (v := ?_) rfl (by kernel_rfl) (by kernel_rfl) (by kernel_rfl) (fun _ _ _ h => h) (Or.inl ⟨by rfl, ?_⟩) hHeld0 ?_
             rotate_left
             · ((intro w hSw; (try dsimp only at hSw); go_simp) <;> (first | with_reducible rfl | (rw [if_neg (by omega)]; done))))
          | (refine wpAnyH_take (i := 16) (oi := { dst := some 36, op := Go.Op.fieldAddr 58 (Go.Operand.tmp 35) 0, type := 0, pos := "node.go:35", after := #[{ on := 15, ground := Go.Ground.data }, { on := 12, ground := Go.Ground.guard }], guard := some (12, false) }) (v := undef) rfl (by kernel_rfl) (by kernel_rfl) (by kernel_rfl) (fun _ _ _ h => h) (Or.inr ⟨by rfl, rfl⟩) hHeld0 ?_)
          try simp only [Act.put, List.setIfInBounds_toArray, List.set_cons_zero, List.set_cons_succ]
          first
          | (refine wpAnyH_take (i := 17) (oi := { dst := some 37, op := Go.Op.load 29 (Go.Operand.tmp 36), type := 29, pos := "node.go:35", after := #[{ on := 16, ground := Go.Ground.data }, { on := 12, ground := Go.Ground.guard }], guard := some (12, false) }) (v := ?_) rfl (by kernel_rfl) (by kernel_rfl) (by kernel_rfl) (fun _ _ _ h => h) (Or.inl ⟨by rfl, ?_⟩) hHeld0 ?_
             rotate_left
             · ((intro w hSw; (try dsimp only at hSw); go_simp) <;> (first | with_reducible rfl | (rw [if_neg (by omega)]; done))))
          | (refine wpAnyH_take (i := 17) (oi := { dst := some 37, op := Go.Op.load 29 (Go.Operand.tmp 36), type := 29, pos := "node.go:35", after := #[{ on := 16, ground := Go.Ground.data }, { on := 12, ground := Go.Ground.guard }], guard := some (12, false) }) (v := undef) rfl (by kernel_rfl) (by kernel_rfl) (by kernel_rfl) (fun _ _ _ h => h) (Or.inr ⟨by rfl, rfl⟩) hHeld0 ?_)
          try simp only [Act.put, List.setIfInBounds_toArray, List.set_cons_zero, List.set_cons_succ]
          refine wpAnyH_ready (rs := [18]) (by kernel_rfl) (by simp) ?_
          refine AllReadyH.cons (o := { dst := some 38, op := Go.Op.call { callee := Go.Callee.value (Go.Operand.func 26), args := #[Go.Operand.tmp 33, Go.Operand.tmp 37], argTypes := #[29, 29] }, type := 4, pos := "node.go:35", after := #[{ on := 13, ground := Go.Ground.data }, { on := 17, ground := Go.Ground.data }, { on := 12, ground := Go.Ground.chain }, { on := 12, ground := Go.Ground.guard }], guard := some (12, false) }) rfl (fun Kr18 hK => ?_) AllReadyH.nil
          go_simp
          (go_at_call 26; ((with_reducible refine (HWI.out _ HQ5.out HA5.out).mono ?_); rintro e w6 ⟨rfl, hb6⟩; have HB6 := Lib.hid hb6; have n0 := cell_keep4 (w := w5.drew) n0 HB6.out; have n2 := cell_keep4 (w := w5.drew) n2 HB6.out; have x0 := cell_keep4 (w := w5.drew) x0 HB6.out; have x1 := cell_keep4 (w := w5.drew) x1 HB6.out; clear hb6))
          refine hK.out _ _ ?_ (fun hHeld1 => ?_)
          · (try dsimp only); exact ⟨n0, n2, x0, x1⟩
          clear hK Kr18 hHeld0
          try simp only [Act.put, List.setIfInBounds_toArray, List.set_cons_zero, List.set_cons_succ]
          first
          | (refine wpAnyH_take (i := 19) (oi := { dst := some 39, op := Go.Op.unOp Go.UnOp.not 4 (Go.Operand.tmp 38), type := 4, pos := "node.go:35", after := #[{ on := 18, ground := Go.Ground.data }, { on := 12, ground := Go.Ground.guard }], guard := some (12, false) }) (v := ?_) rfl (by kernel_rfl) (by kernel_rfl) (by kernel_rfl) (fun _ _ _ h => h) (Or.inl ⟨by rfl, ?_⟩) hHeld1 ?_
             rotate_left
             · ((intro w hSw; (try dsimp only at hSw); go_simp) <;> (first | with_reducible rfl | (rw [if_neg (by omega)]; done))))
          | (refine wpAnyH_take (i := 19) (oi := { dst := some 39, op := Go.Op.unOp Go.UnOp.not 4 (Go.Operand.tmp 38), type := 4, pos := "node.go:35", after := #[{ on := 18, ground := Go.Ground.data }, { on := 12, ground := Go.Ground.guard }], guard := some (12, false) }) (v := undef) rfl (by kernel_rfl) (by kernel_rfl) (by kernel_rfl) (fun _ _ _ h => h) (Or.inr ⟨by rfl, rfl⟩) hHeld1 ?_)
          try simp only [Act.put, List.setIfInBounds_toArray, List.set_cons_zero, List.set_cons_succ]
          first
          | (refine wpAnyH_take (i := 20) (oi := { dst := some 40, op := Go.Op.pick (Go.Operand.tmp 32) (Go.Operand.const (Go.Value.bool true)) (Go.Operand.tmp 39), type := 4, pos := "node.go:35", after := #[{ on := 12, ground := Go.Ground.data }, { on := 19, ground := Go.Ground.data }], guard := none }) (v := ?_) rfl (by kernel_rfl) (by kernel_rfl) (by kernel_rfl) (fun _ _ _ h => h) (Or.inl ⟨by rfl, ?_⟩) hHeld1 ?_
             rotate_left
             · ((intro w hSw; (try dsimp only at hSw); go_simp) <;> (first | with_reducible rfl | (rw [if_neg (by omega)]; done))))
          | (refine wpAnyH_take (i := 20) (oi := { dst := some 40, op := Go.Op.pick (Go.Operand.tmp 32) (Go.Operand.const (Go.Value.bool true)) (Go.Operand.tmp 39), type := 4, pos := "node.go:35", after := #[{ on := 12, ground := Go.Ground.data }, { on := 19, ground := Go.Ground.data }], guard := none }) (v := undef) rfl (by kernel_rfl) (by kernel_rfl) (by kernel_rfl) (fun _ _ _ h => h) (Or.inr ⟨by rfl, rfl⟩) hHeld1 ?_)
          try simp only [Act.put, List.setIfInBounds_toArray, List.set_cons_zero, List.set_cons_succ]
          refine wpAnyH_done (by kernel_rfl) ?_ _
          clear hHeld1
          have HN6 := Lib.hid ((HB6.out.block b (heap_lt (w := w5.drew) HN.out)).trans HN.out)
          have HQ6 := Lib.hid (HQ5.out.below HB6.out)
          go_wp2_with (first | (go_at_call 39; ((with_reducible refine (HKD.out _ HN6.out HQ6.out).mono ?_); rintro e w7 ⟨rfl, hb7⟩; have HB7 := Lib.hid hb7; clear hb7)) | fail)
          first | go_step3 | skip
          have hb7 : Below w.heap.size w w7 := Below.next (Below.next (Below.drew HB5.out) HB6.out) HB7.out
          have hb57 : Below w5.heap.size w5 w7 := Below.next (Below.next (Below.drew (Below.refl _ _)) HB6.out) HB7.out
          exact jump_back (HJ.out _ _ _ HDP.out ⟨_, _, v5, rfl, rfl, rfl, rfl, rfl, rfl, rfl, HFE.out, HON2.out, HWE.out, own_belowP HO5.out hb57, hb7, (hb57.block _ (heap_lt HX5.out)).trans HX5.out⟩)
        · have hwt : withinP q m a n1 = false := by
            cases h : withinP q m a n1 with
            | false => rfl
            | true => exact absurd (hwi.1 h).2 hag
          rw [hwt] at HWI
          have HEN2 := Lib.hid (HEN.out fun h => hag h.2)
          have HWE := Lib.hid (HEN2.out.symm.trans HWE.out)
          clear hal hn8 hra hrq hwi hends hlt hag hwt hnd HEN HEN2
          refine wp_region_held_drew (S := (fun W => W.cell? ⟨b, 0, none⟩ = some (.slice ad a.length cp) ∧ W.cell? ⟨b, 1, none⟩ = some (.int .i64 n1) ∧ W.cell? ⟨w.heap.size, 0, none⟩ = some (.slice qd q.length qc) ∧ W.cell? ⟨w.heap.size, 1, none⟩ = some (.int .i64 m))) (by kernel_rfl) ?_ (fun hHeld0 => ?_)
          · (try dsimp only); exact ⟨n0, n2, x0, x1⟩
          first
          | (refine wpAnyH_take (i := 0) (oi := { dst := some 20, op := Go.Op.move (Go.Operand.tmp 7), type := 51, pos := "node.go:35", after := #[], guard := none }) (v := ?_) rfl (by kernel_rfl) (by kernel_rfl) (by kernel_rfl) (fun _ _ _ h => h) (Or.inl ⟨by rfl, ?_⟩) hHeld0 ?_
             rotate_left
             · ((intro w hSw; (try dsimp only at hSw); go_simp) <;> (first | with_reducible rfl | (rw [if_neg (by omega)]; done))))
          | (refine wpAnyH_take (i := 0) (oi := { dst := some 20, op := Go.Op.move (Go.Operand.tmp 7), type := 51, pos := "node.go:35", after := #[], guard := none }) (v := undef) rfl (by kernel_rfl) (by kernel_rfl) (by kernel_rfl) (fun _ _ _ h => h) (Or.inr ⟨by rfl, rfl⟩) hHeld0 ?_)
          try simp only [Act.put, List.setIfInBounds_toArray, List.set_cons_zero, List.set_cons_succ]
          first
          | (refine wpAnyH_take (i := 1) (oi := { dst := some 21, op := Go.Op.binOp Go.BinOp.eql 51 (Go.Operand.tmp 20) (Go.Operand.const (Go.Value.pointer none)) 51, type := 4, pos := "node.go:35", after := #[{ on := 0, ground := Go.Ground.data }], guard := none }) (v := ?_) rfl (by kernel_rfl) (by kernel_rfl) (by kernel_rfl) (fun _ _ _ h => h) (Or.inl ⟨by rfl, ?_⟩) hHeld0 ?_
             rotate_left
             · ((intro w hSw; (try dsimp only at hSw); go_simp) <;> (first | with_reducible rfl | (rw [if_neg (by omega)]; done))))
          | (refine wpAnyH_take (i := 1) (oi := { dst := some 21, op := Go.Op.binOp Go.BinOp.eql 51 (Go.Operand.tmp 20) (Go.Operand.const (Go.Value.pointer none)) 51, type := 4, pos := "node.go:35", after := #[{ on := 0, ground := Go.Ground.data }], guard := none }) (v := undef) rfl (by kernel_rfl) (by kernel_rfl) (by kernel_rfl) (fun _ _ _ h => h) (Or.inr ⟨by rfl, rfl⟩) hHeld0 ?_)
          try simp only [Act.put, List.setIfInBounds_toArray, List.set_cons_zero, List.set_cons_succ]
          first
          | (refine wpAnyH_take (i := 2) (oi := { dst := some 22, op := Go.Op.move (Go.Operand.tmp 21), type := 4, pos := "node.go:35", after := #[{ on := 1, ground := Go.Ground.data }], guard := none }) (v := ?_) rfl (by kernel_rfl) (by kernel_rfl) (by kernel_rfl) (fun _ _ _ h => h) (Or.inl ⟨by rfl, ?_⟩) hHeld0 ?_
             rotate_left
             · ((intro w hSw; (try dsimp only at hSw); go_simp) <;> (first | with_reducible rfl | (rw [if_neg (by omega)]; done))))
          | (refine wpAnyH_take (i := 2) (oi := { dst := some 22, op := Go.Op.move (Go.Operand.tmp 21), type := 4, pos := "node.go:35", after := #[{ on := 1, ground := Go.Ground.data }], guard := none }) (v := undef) rfl (by kernel_rfl) (by kernel_rfl) (by kernel_rfl) (fun _ _ _ h => h) (Or.inr ⟨by rfl, rfl⟩) hHeld0 ?_)
          try simp only [Act.put, List.setIfInBounds_toArray, List.set_cons_zero, List.set_cons_succ]
          first
          | (refine wpAnyH_take (i := 3) (oi := { dst := some 23, op := Go.Op.move (Go.Operand.tmp 7), type := 51, pos := "node.go:35", after := #[{ on := 2, ground := Go.Ground.guard }], guard := some (2, false) }) (v := ?_) rfl (by kernel_rfl) (by kernel_rfl) (by kernel_rfl) (fun _ _ _ h => h) (Or.inl ⟨by rfl, ?_⟩) hHeld0 ?_
             rotate_left
             · ((intro w hSw; (try dsimp only at hSw); go_simp) <;> (first | with_reducible rfl | (rw [if_neg (by omega)]; done))))
          | (refine wpAnyH_take (i := 3) (oi := { dst := some 23, op := Go.Op.move (Go.Operand.tmp 7), type := 51, pos := "node.go:35", after := #[{ on := 2, ground := Go.Ground.guard }], guard := some (2, false) }) (v := undef) rfl (by kernel_rfl) (by kernel_rfl) (by kernel_rfl) (fun _ _ _ h => h) (Or.inr ⟨by rfl, rfl⟩) hHeld0 ?_)
          try simp only [Act.put, List.setIfInBounds_toArray, List.set_cons_zero, List.set_cons_succ]
          first
          | (refine wpAnyH_take (i := 4) (oi := { dst := some 24, op := Go.Op.nilCheck (Go.Operand.tmp 23), type := 0, pos := "node.go:35", after := #[{ on := 3, ground := Go.Ground.data }, { on := 2, ground := Go.Ground.guard }], guard := some (2, false) }) (v := ?_) rfl (by kernel_rfl) (by kernel_rfl) (by kernel_rfl) (fun _ _ _ h => h) (Or.inl ⟨by rfl, ?_⟩) hHeld0 ?_
             rotate_left
             · ((intro w hSw; (try dsimp only at hSw); go_simp) <;> (first | with_reducible rfl | (rw [if_neg (by omega)]; done))))
          | (refine wpAnyH_take (i := 4) (oi := { dst := some 24, op := Go.Op.nilCheck (Go.Operand.tmp 23), type := 0, pos := "node.go:35", after := #[{ on := 3, ground := Go.Ground.data }, { on := 2, ground := Go.Ground.guard }], guard := some (2, false) }) (v := undef) rfl (by kernel_rfl) (by kernel_rfl) (by kernel_rfl) (fun _ _ _ h => h) (Or.inr ⟨by rfl, rfl⟩) hHeld0 ?_)
          try simp only [Act.put, List.setIfInBounds_toArray, List.set_cons_zero, List.set_cons_succ]
          first
          | (refine wpAnyH_take (i := 5) (oi := { dst := some 25, op := Go.Op.fieldAddr 58 (Go.Operand.tmp 24) 0, type := 0, pos := "node.go:35", after := #[{ on := 4, ground := Go.Ground.data }, { on := 2, ground := Go.Ground.guard }], guard := some (2, false) }) (v := ?_) rfl (by kernel_rfl) (by kernel_rfl) (by kernel_rfl) (fun _ _ _ h => h) (Or.inl ⟨by rfl, ?_⟩) hHeld0 ?_
             rotate_left
             · ((intro w hSw; (try dsimp only at hSw); go_simp) <;> (first | with_reducible rfl | (rw [if_neg (by omega)]; done))))
          | (refine wpAnyH_take (i := 5) (oi := { dst := some 25, op := Go.Op.fieldAddr 58 (Go.Operand.tmp 24) 0, type := 0, pos := "node.go:35", after := #[{ on := 4, ground := Go.Ground.data }, { on := 2, ground := Go.Ground.guard }], guard := some (2, false) }) (v := undef) rfl (by kernel_rfl) (by kernel_rfl) (by kernel_rfl) (fun _ _ _ h => h) (Or.inr ⟨by rfl, rfl⟩) hHeld0 ?_)
          try simp only [Act.put, List.setIfInBounds_toArray, List.set_cons_zero, List.set_cons_succ]
          first
          | (refine wpAnyH_take (i := 6) (oi := { dst := some 26, op := Go.Op.fieldAddr 29 (Go.Operand.tmp 25) 1, type := 0, pos := "node.go:35", after := #[{ on := 5, ground := Go.Ground.data }, { on := 2, ground := Go.Ground.guard }], guard := some (2, false) }) (v := ?_) rfl (by kernel_rfl) (by kernel_rfl) (by kernel_rfl) (fun _ _ _ h => h) (Or.inl ⟨by rfl, ?_⟩) hHeld0 ?_
             rotate_left
             · ((intro w hSw; (try dsimp only at hSw); go_simp) <;> (first | with_reducible rfl | (rw [if_neg (by omega)]; done))))
          | (refine wpAnyH_take (i := 6) (oi := { dst := some 26, op := Go.Op.fieldAddr 29 (Go.Operand.tmp 25) 1, type := 0, pos := "node.go:35", after := #[{ on := 5, ground := Go.Ground.data }, { on := 2, ground := Go.Ground.guard }], guard := some (2, false) }) (v := undef) rfl (by kernel_rfl) (by kernel_rfl) (by kernel_rfl) (fun _ _ _ h => h) (Or.inr ⟨by rfl, rfl⟩) hHeld0 ?_)
          try simp only [Act.put, List.setIfInBounds_toArray, List.set_cons_zero, List.set_cons_succ]
          first
          | (refine wpAnyH_take (i := 7) (oi := { dst := some 27, op := Go.Op.load 3 (Go.Operand.tmp 26), type := 3, pos := "node.go:35", after := #[{ on := 6, ground := Go.Ground.data }, { on := 2, ground := Go.Ground.guard }], guard := some (2, false) }) (v := ?_) rfl (by kernel_rfl) (by kernel_rfl) (by kernel_rfl) (fun _ _ _ h => h) (Or.inl ⟨by rfl, ?_⟩) hHeld0 ?_
             rotate_left
             · ((intro w hSw; (try dsimp only at hSw); go_simp) <;> (first | with_reducible rfl | (rw [if_neg (by omega)]; done))))
          | (refine wpAnyH_take (i := 7) (oi := { dst := some 27, op := Go.Op.load 3 (Go.Operand.tmp 26), type := 3, pos := "node.go:35", after := #[{ on := 6, ground := Go.Ground.data }, { on := 2, ground := Go.Ground.guard }], guard := some (2, false) }) (v := undef) rfl (by kernel_rfl) (by kernel_rfl) (by kernel_rfl) (fun _ _ _ h => h) (Or.inr ⟨by rfl, rfl⟩) hHeld0 ?_)
          try simp only [Act.put, List.setIfInBounds_toArray, List.set_cons_zero, List.set_cons_succ]
          first
          | (refine wpAnyH_take (i := 8) (oi := { dst := some 28, op := Go.Op.fieldAddr 29 (Go.Operand.tmp 3) 1, type := 0, pos := "node.go:35", after := #[{ on := 2, ground := Go.Ground.guard }], guard := some (2, false) }) (v := ?_) rfl (by kernel_rfl) (by kernel_rfl) (by kernel_rfl) (fun _ _ _ h => h) (Or.inl ⟨by rfl, ?_⟩) hHeld0 ?_
             rotate_left
             · ((intro w hSw; (try dsimp only at hSw); go_simp) <;> (first | with_reducible rfl | (rw [if_neg (by omega)]; done))))
          | (refine wpAnyH_take (i := 8) (oi := { dst := some 28, op := Go.Op.fieldAddr 29 (Go.Operand.tmp 3) 1, type := 0, pos := "node.go:35", after := #[{ on := 2, ground := Go.Ground.guard }], guard := some (2, false) }) (v := undef) rfl (by kernel_rfl) (by kernel_rfl) (by kernel_rfl) (fun _ _ _ h => h) (Or.inr ⟨by rfl, rfl⟩) hHeld0 ?_)
          try simp only [Act.put, List.setIfInBounds_toArray, List.set_cons_zero, List.set_cons_succ]
          first
          | (refine wpAnyH_take (i := 9) (oi := { dst := some 29, op := Go.Op.load 3 (Go.Operand.tmp 28), type := 3, pos := "node.go:35", after := #[{ on := 8, ground := Go.Ground.data }, { on := 2, ground := Go.Ground.guard }], guard := some (2, false) }) (v := ?_) rfl (by kernel_rfl) (by kernel_rfl) (by kernel_rfl) (fun _ _ _ h => h) (Or.inl ⟨by rfl, ?_⟩) hHeld0 ?_
             rotate_left
             · ((intro w hSw; (try dsimp only at hSw); go_simp) <;> (first | with_reducible rfl | (rw [if_neg (by omega)]; done))))
          | (refine wpAnyH_take (i := 9) (oi := { dst := some 29, op := Go.Op.load 3 (Go.Operand.tmp 28), type := 3, pos := "node.go:35", after := #[{ on := 8, ground := Go.Ground.data }, { on := 2, ground := Go.Ground.guard }], guard := some (2, false) }) (v := undef) rfl (by kernel_rfl) (by kernel_rfl) (by kernel_rfl) (fun _ _ _ h => h) (Or.inr ⟨by rfl, rfl⟩) hHeld0 ?_)
          try simp only [Act.put, List.setIfInBounds_toArray, List.set_cons_zero, List.set_cons_succ]
          first
          | (refine wpAnyH_take (i := 10) (oi := { dst := some 30, op := Go.Op.binOp Go.BinOp.geq 3 (Go.Operand.tmp 27) (Go.Operand.tmp 29) 3, type := 4, pos := "node.go:35", after := #[{ on := 7, ground := Go.Ground.data }, { on := 9, ground := Go.Ground.data }, { on := 2, ground := Go.Ground.guard }], guard := some (2, false) }) (v := ?_) rfl (by kernel_rfl) (by kernel_rfl) (by kernel_rfl) (fun _ _ _ h => h) (Or.inl ⟨by rfl, ?_⟩) hHeld0 ?_
             rotate_left
             · ((intro w hSw; (try dsimp only at hSw); go_simp) <;> (first | with_reducible rfl | (rw [if_neg (by omega)]; done))))
          | (refine wpAnyH_take (i := 10) (oi := { dst := some 30, op := Go.Op.binOp Go.BinOp.geq 3 (Go.Operand.tmp 27) (Go.Operand.tmp 29) 3, type := 4, pos := "node.go:35", after := #[{ on := 7, ground := Go.Ground.data }, { on := 9, ground := Go.Ground.data }, { on := 2, ground := Go.Ground.guard }], guard := some (2, false) }) (v := undef) rfl (by kernel_rfl) (by kernel_rfl) (by kernel_rfl) (fun _ _ _ h => h) (Or.inr ⟨by rfl, rfl⟩) hHeld0 ?_)
          try simp only [Act.put, List.setIfInBounds_toArray, List.set_cons_zero, List.set_cons_succ]
          first
          | (refine wpAnyH_take (i := 11) (oi := { dst := some 31, op := Go.Op.pick (Go.Operand.tmp 22) (Go.Operand.const (Go.Value.bool true)) (Go.Operand.tmp 30), type := 4, pos := "node.go:35", after := #[{ on := 2, ground := Go.Ground.data }, { on := 10, ground := Go.Ground.data }], guard := none }) (v := ?_) rfl (by kernel_rfl) (by kernel_rfl) (by kernel_rfl) (fun _ _ _ h => h) (Or.inl ⟨by rfl, ?_⟩) hHeld0 ?_
             rotate_left
             · ((intro w hSw; (try dsimp only at hSw); go_simp) <;> (first | with_reducible rfl | (rw [if_neg (by omega)]; done))))
          | (refine wpAnyH_take (i := 11) (oi := { dst := some 31, op := Go.Op.pick (Go.Operand.tmp 22) (Go.Operand.const (Go.Value.bool true)) (Go.Operand.tmp 30), type := 4, pos := "node.go:35", after := #[{ on := 2, ground := Go.Ground.data }, { on := 10, ground := Go.Ground.data }], guard := none }) (v := undef) rfl (by kernel_rfl) (by kernel_rfl) (by kernel_rfl) (fun _ _ _ h => h) (Or.inr ⟨by rfl, rfl⟩) hHeld0 ?_)
          try simp only [Act.put, List.setIfInBounds_toArray, List.set_cons_zero, List.set_cons_succ]
          first
          | (refine wpAnyH_take (i := 12) (oi := { dst := some 32, op := Go.Op.move (Go.Operand.tmp 31), type := 4, pos := "node.go:35", after := #[{ on := 11, ground := Go.Ground.data }, { on := 2, ground := Go.Ground.chain }], guard := none }) (v := ?_) rfl (by kernel_rfl) (by kernel_rfl) (by kernel_rfl) (fun _ _ _ h => h) (Or.inl ⟨by rfl, ?_⟩) hHeld0 ?_
             rotate_left
             · ((intro w hSw; (try dsimp only at hSw); go_simp) <;> (first | with_reducible rfl | (rw [if_neg (by omega)]; done))))
          | (refine wpAnyH_take (i := 12) (oi := { dst := some 32, op := Go.Op.move (Go.Operand.tmp 31), type := 4, pos := "node.go:35", after := #[{ on := 11, ground := Go.Ground.data }, { on := 2, ground := Go.Ground.chain }], guard := none }) (v := undef) rfl (by kernel_rfl) (by kernel_rfl) (by kernel_rfl) (fun _ _ _ h => h) (Or.inr ⟨by rfl, rfl⟩) hHeld0 ?_)
          try simp only [Act.put, List.setIfInBounds_toArray, List.set_cons_zero, List.set_cons_succ]
          first
          | (refine wpAnyH_take (i := 13) (oi := { dst := some 33, op := Go.Op.load 29 (Go.Operand.tmp 3), type := 29, pos := "node.go:35", after := #[{ on := 12, ground := Go.Ground.guard }], guard := some (12, false) }) (v := ?_) rfl (by kernel_rfl) (by kernel_rfl) (by kernel_rfl) (fun _ _ _ h => h) (Or.inl ⟨by rfl, ?_⟩) hHeld0 ?_
             rotate_left
             · ((intro w hSw; (try dsimp only at hSw); go_simp) <;> (first | with_reducible rfl | (rw [if_neg (by omega)]; done))))
          | (refine wpAnyH_take (i := 13) (oi := { dst := some 33, op := Go.Op.load 29 (Go.Operand.tmp 3), type := 29, pos := "node.go:35", after := #[{ on := 12, ground := Go.Ground.guard }], guard := some (12, false) }) (v := undef) rfl (by kernel_rfl) (by kernel_rfl) (by kernel_rfl) (fun _ _ _ h => h) (Or.inr ⟨by rfl, rfl⟩) hHeld0 ?_)
          try simp only [Act.put, List.setIfInBounds_toArray, List.set_cons_zero, List.set_cons_succ]
          first
          | (refine wpAnyH_take (i := 14) (oi := { dst := some 34, op := Go.Op.move (Go.Operand.tmp 7), type := 51, pos := "node.go:35", after := #[{ on := 12, ground := Go.Ground.guard }], guard := some (12, false) }) (v := ?_) rfl (by kernel_rfl) (by kernel_rfl) (by kernel_rfl) (fun _ _ _ h => h) (Or.inl ⟨by rfl, ?_⟩) hHeld0 ?_
             rotate_left
             · ((intro w hSw; (try dsimp only at hSw); go_simp) <;> (first | with_reducible rfl | (rw [if_neg (by omega)]; done))))
          | (refine wpAnyH_take (i := 14) (oi := { dst := some 34, op := Go.Op.move (Go.Operand.tmp 7), type := 51, pos := "node.go:35", after := #[{ on := 12, ground := Go.Ground.guard }], guard := some (12, false) }) (v := undef) rfl (by kernel_rfl) (by kernel_rfl) (by kernel_rfl) (fun _ _ _ h => h) (Or.inr ⟨by rfl, rfl⟩) hHeld0 ?_)
          try simp only [Act.put, List.setIfInBounds_toArray, List.set_cons_zero, List.set_cons_succ]
          first
          | (refine wpAnyH_take (i := 15) (oi := { dst := some 35, op := Go.Op.nilCheck (Go.Operand.tmp 34), type := 0, pos := "node.go:35", after := #[{ on := 14, ground := Go.Ground.data }, { on := 12, ground := Go.Ground.guard }], guard := some (12, false) }) (v := ?_) rfl (by kernel_rfl) (by kernel_rfl) (by kernel_rfl) (fun _ _ _ h => h) (Or.inl ⟨by rfl, ?_⟩) hHeld0 ?_
             rotate_left
             · ((intro w hSw; (try dsimp only at hSw); go_simp) <;> (first | with_reducible rfl | (rw [if_neg (by omega)]; done))))
          | (refine wpAnyH_take (i := 15) (oi := { dst := some 35, op := Go.Op.nilCheck (Go.Operand.tmp 34), type := 0, pos := "node.go:35", after := #[{ on := 14, ground := Go.Ground.data }, { on := 12, ground := Go.Ground.guard }], guard := some (12, false) }) (v := undef) rfl (by kernel_rfl) (by kernel_rfl) (by kernel_rfl) (fun _ _ _ h => h) (Or.inr ⟨by rfl, rfl⟩) hHeld0 ?_)
          try simp only [Act.put, List.setIfInBounds_toArray, List.set_cons_zero, List.set_cons_succ]
          first
          | (refine wpAnyH_take (i := 16) (oi := { dst := some 36, op := Go.Op.fieldAddr 58 (Go.Operand.tmp 35) 0, type := 0, pos := "node.go:35", after := #[{ on := 15, ground := Go.Ground.data }, { on := 12, ground := Go.Ground.guard }], guard := some (12, false) }) (v := ?_) rfl (by kernel_rfl) (by kernel_rfl) (by kernel_rfl) (fun _ _ _ h => h) (Or.inl ⟨by rfl, ?_⟩) hHeld0 ?_
             rotate_left
             · ((intro w hSw; (try dsimp only at hSw); go_simp) <;> (first | with_reducible rfl | (rw [if_neg (by omega)]; done))))
          | (refine wpAnyH_take (i := 16) (oi := { dst := some 36, op := Go.Op.fieldAddr 58 (Go.Operand.tmp 35) 0, type := 0, pos := "node.go:35", after := #[{ on := 15, ground := Go.Ground.data }, { on := 12, ground := Go.Ground.guard }], guard := some (12, false) }) (v := undef) rfl (by kernel_rfl) (by kernel_rfl) (by kernel_rfl) (fun _ _ _ h => h) (Or.inr ⟨by rfl, rfl⟩) hHeld0 ?_)
          try simp only [Act.put, List.setIfInBounds_toArray, List.set_cons_zero, List.set_cons_succ]
          first
          | (refine wpAnyH_take (i := 17) (oi := { dst := some 37, op := Go.Op.load 29 (Go.Operand.tmp 36), type := 29, pos := "node.go:35", after := #[{ on := 16, ground := Go.Ground.data }, { on := 12, ground := Go.Ground.guard }], guard := some (12, false) }) (v := ?_) rfl (by kernel_rfl) (by kernel_rfl) (by kernel_rfl) (fun _ _ _ h => h) (Or.inl ⟨by rfl, ?_⟩) hHeld0 ?_
             rotate_left
             · ((intro w hSw; (try dsimp only at hSw); go_simp) <;> (first | with_reducible rfl | (rw [if_neg (by omega)]; done))))
          | (refine wpAnyH_take (i := 17) (oi := { dst := some 37, op := Go.Op.load 29 (Go.Operand.tmp 36), type := 29, pos := "node.go:35", after := #[{ on := 16, ground := Go.Ground.data }, { on := 12, ground := Go.Ground.guard }], guard := some (12, false) }) (v := undef) rfl (by kernel_rfl) (by kernel_rfl) (by kernel_rfl) (fun _ _ _ h => h) (Or.inr ⟨by rfl, rfl⟩) hHeld0 ?_)
          try simp only [Act.put, List.setIfInBounds_toArray, List.set_cons_zero, List.set_cons_succ]
          refine wpAnyH_ready (rs := [18]) (by kernel_rfl) (by simp) ?_
          refine AllReadyH.cons (o := { dst := some 38, op := Go.Op.call { callee := Go.Callee.value (Go.Operand.func 26), args := #[Go.Operand.tmp 33, Go.Operand.tmp 37], argTypes := #[29, 29] }, type := 4, pos := "node.go:35", after := #[{ on := 13, ground := Go.Ground.data }, { on := 17, ground := Go.Ground.data }, { on := 12, ground := Go.Ground.chain }, { on := 12, ground := Go.Ground.guard }], guard := some (12, false) }) rfl (fun Kr18 hK => ?_) AllReadyH.nil
          go_simp
          (go_at_call 26; ((with_reducible refine (HWI.out _ HQ5.out HA5.out).mono ?_); rintro e w6 ⟨rfl, hb6⟩; have HB6 := Lib.hid hb6; have n0 := cell_keep4 (w := w5.drew) n0 HB6.out; have n2 := cell_keep4 (w := w5.drew) n2 HB6.out; have x0 := cell_keep4 (w := w5.drew) x0 HB6.out; have x1 := cell_keep4 (w := w5.drew) x1 HB6.out; clear hb6))
          refine hK.out _ _ ?_ (fun hHeld1 => ?_)
          · (try dsimp only); exact ⟨n0, n2, x0, x1⟩
          clear hK Kr18 hHeld0
          try simp only [Act.put, List.setIfInBounds_toArray, List.set_cons_zero, List.set_cons_succ]
          first
          | (refine wpAnyH_take (i := 19) (oi := { dst := some 39, op := Go.Op.unOp Go.UnOp.not 4 (Go.Operand.tmp 38), type := 4, pos := "node.go:35", after := #[{ on := 18, ground := Go.Ground.data }, { on := 12, ground := Go.Ground.guard }], guard := some (12, false) }) (v := ?_) rfl (by kernel_rfl) (by kernel_rfl) (by kernel_rfl) (fun _ _ _ h => h) (Or.inl ⟨by rfl, ?_⟩) hHeld1 ?_
             rotate_left
             · ((intro w hSw; (try dsimp only at hSw); go_simp) <;> (first | with_reducible rfl | (rw [if_neg (by omega)]; done))))
          | (refine wpAnyH_take (i := 19) (oi := { dst := some 39, op := Go.Op.unOp Go.UnOp.not 4 (Go.Operand.tmp 38), type := 4, pos := "node.go:35", after := #[{ on := 18, ground := Go.Ground.data }, { on := 12, ground := Go.Ground.guard }], guard := some (12, false) }) (v := undef) rfl (by kernel_rfl) (by kernel_rfl) (by kernel_rfl) (fun _ _ _ h => h) (Or.inr ⟨by rfl, rfl⟩) hHeld1 ?_)
          try simp only [Act.put, List.setIfInBounds_toArray, List.set_cons_zero, List.set_cons_succ]
          first
          | (refine wpAnyH_take (i := 20) (oi := { dst := some 40, op := Go.Op.pick (Go.Operand.tmp 32) (Go.Operand.const (Go.Value.bool true)) (Go.Operand.tmp 39), type := 4, pos := "node.go:35", after := #[{ on := 12, ground := Go.Ground.data }, { on := 19, ground := Go.Ground.data }], guard := none }) (v := ?_) rfl (by kernel_rfl) (by kernel_rfl) (by kernel_rfl) (fun _ _ _ h => h) (Or.inl ⟨by rfl, ?_⟩) hHeld1 ?_
             rotate_left
             · ((intro w hSw; (try dsimp only at hSw); go_simp) <;> (first | with_reducible rfl | (rw [if_neg (by omega)]; done))))
          | (refine wpAnyH_take (i := 20) (oi := { dst := some 40, op := Go.Op.pick (Go.Operand.tmp 32) (Go.Operand.const (Go.Value.bool true)) (Go.Operand.tmp 39), type := 4, pos := "node.go:35", after := #[{ on := 12, ground := Go.Ground.data }, { on := 19, ground := Go.Ground.data }], guard := none }) (v := undef) rfl (by kernel_rfl) (by kernel_rfl) (by kernel_rfl) (fun _ _ _ h => h) (Or.inr ⟨by rfl, rfl⟩) hHeld1 ?_)
          try simp only [Act.put, List.setIfInBounds_toArray, List.set_cons_zero, List.set_cons_succ]
          refine wpAnyH_done (by kernel_rfl) ?_ _
          clear hHeld1
          go_wp2_with fail
          refine jump_ret ?_
          go_ret
          have hl0 : 0 < (places B d fs).length := by rw [HPL.out]; omega
          obtain ⟨g, cap, rfl, p1, p2, p3, p4⟩ := ptrs_own HO5.out hl0
          rw [← HWE.out]
          exact ⟨g, cap, rfl, p1, p2, by omega, (p4.below (Below.drew (Below.refl _ _))).below HB6.out, Below.next (Below.drew HB5.out) HB6.out⟩
      · have hge : (m : Int) ≤ n1 := by omega
        have HEN2 := Lib.hid (HEN.out fun h => hlt h.1)
        have HWE := Lib.hid (HEN2.out.symm.trans HWE.out)
        clear hal hn8 hra hrq hwi hends hlt hnd HEN HEN2
        refine wp_region_held_drew (S := (fun W => W.cell? ⟨b, 0, none⟩ = some (.slice ad a.length cp) ∧ W.cell? ⟨b, 1, none⟩ = some (.int .i64 n1) ∧ W.cell? ⟨w.heap.size, 0, none⟩ = some (.slice qd q.length qc) ∧ W.cell? ⟨w.heap.size, 1, none⟩ = some (.int .i64 m))) (by kernel_rfl) ?_ (fun hHeld0 => ?_)
        · (try dsimp only); exact ⟨n0, n2, x0, x1⟩
        first
        | (refine wpAnyH_take (i := 0) (oi := { dst := some 20, op := Go.Op.move (Go.Operand.tmp 7), type := 51, pos := "node.go:35", after := #[], guard := none }) (v := ?_) rfl (by kernel_rfl) (by kernel_rfl) (by kernel_rfl) (fun _ _ _ h => h) (Or.inl ⟨by rfl, ?_⟩) hHeld0 ?_
           rotate_left
           · ((intro w hSw; (try dsimp only at hSw); go_simp) <;> (first | with_reducible rfl | (rw [if_neg (by omega)]; done))))
        | (refine wpAnyH_take (i := 0) (oi := { dst := some 20, op := Go.Op.move (Go.Operand.tmp 7), type := 51, pos := "node.go:35", after := #[], guard := none }) (v := undef) rfl (by kernel_rfl) (by kernel_rfl) (by kernel_rfl) (fun _ _ _ h => h) (Or.inr ⟨by rfl, rfl⟩) hHeld0 ?_)
        try simp only [Act.put, List.setIfInBounds_toArray, List.set_cons_zero, List.set_cons_succ]
        first
        | (refine wpAnyH_take (i := 1) (oi := { dst := some 21, op := Go.Op.binOp Go.BinOp.eql 51 (Go.Operand.tmp 20) (Go.Operand.const (Go.Value.pointer none)) 51, type := 4, pos := "node.go:35", after := #[{ on := 0, ground := Go.Ground.data }], guard := none }) (v := ?_) rfl (by kernel_rfl) (by kernel_rfl) (by kernel_rfl) (fun _ _ _ h => h) (Or.inl ⟨by rfl, ?_⟩) hHeld0 ?_
           rotate_left
           · ((intro w hSw; (try dsimp only at hSw); go_simp) <;> (first | with_reducible rfl | (rw [if_neg (by omega)]; done))))
        | (refine wpAnyH_take (i := 1) (oi := { dst := some 21, op := Go.Op.binOp Go.BinOp.eql 51 (Go.Operand.tmp 20) (Go.Operand.const (Go.Value.pointer none)) 51, type := 4, pos := "node.go:35", after := #[{ on := 0, ground := Go.Ground.data }], guard := none }) (v := undef) rfl (by kernel_rfl) (by kernel_rfl) (by kernel_rfl) (fun _ _ _ h => h) (Or.inr ⟨by rfl, rfl⟩) hHeld0 ?_)
        try simp only [Act.put, List.setIfInBounds_toArray, List.set_cons_zero, List.set_cons_succ]
        first
        | (refine wpAnyH_take (i := 2) (oi := { dst := some 22, op := Go.Op.move (Go.Operand.tmp 21), type := 4, pos := "node.go:35", after := #[{ on := 1, ground := Go.Ground.data }], guard := none }) (v := ?_) rfl (by kernel_rfl) (by kernel_rfl) (by kernel_rfl) (fun _ _ _ h => h) (Or.inl ⟨by rfl, ?_⟩) hHeld0 ?_
           rotate_left
           · ((intro w hSw; (try dsimp only at hSw); go_simp) <;> (first | with_reducible rfl | (rw [if_neg (by omega)]; done))))
        | (refine wpAnyH_take (i := 2) (oi := { dst := some 22, op := Go.Op.move (Go.Operand.tmp 21), type := 4, pos := "node.go:35", after := #[{ on := 1, ground := Go.Ground.data }], guard := none }) (v := undef) rfl (by kernel_rfl) (by kernel_rfl) (by kernel_rfl) (fun _ _ _ h => h) (Or.inr ⟨by rfl, rfl⟩) hHeld0 ?_)
        try simp only [Act.put, List.setIfInBounds_toArray, List.set_cons_zero, List.set_cons_succ]
        first
        | (refine wpAnyH_take (i := 3) (oi := { dst := some 23, op := Go.Op.move (Go.Operand.tmp 7), type := 51, pos := "node.go:35", after := #[{ on := 2, ground := Go.Ground.guard }], guard := some (2, false) }) (v := ?_) rfl (by kernel_rfl) (by kernel_rfl) (by kernel_rfl) (fun _ _ _ h => h) (Or.inl ⟨by rfl, ?_⟩) hHeld0 ?_
           rotate_left
           · ((intro w hSw; (try dsimp only at hSw); go_simp) <;> (first | with_reducible rfl | (rw [if_neg (by omega)]; done))))
        | (refine wpAnyH_take (i := 3) (oi := { dst := some 23, op := Go.Op.move (Go.Operand.tmp 7), type := 51, pos := "node.go:35", after := #[{ on := 2, ground := Go.Ground.guard }], guard := some (2, false) }) (v := undef) rfl (by kernel_rfl) (by kernel_rfl) (by kernel_rfl) (fun _ _ _ h => h) (Or.inr ⟨by rfl, rfl⟩) hHeld0 ?_)
        try simp only [Act.put, List.setIfInBounds_toArray, List.set_cons_zero, List.set_cons_succ]
        first
        | (refine wpAnyH_take (i := 4) (oi := { dst := some 24, op := Go.Op.nilCheck (Go.Operand.tmp 23), type := 0, pos := "node.go:35", after := #[{ on := 3, ground := Go.Ground.data }, { on := 2, ground := Go.Ground.guard }], guard := some (2, false) }) (v := ?_) rfl (by kernel_rfl) (by kernel_rfl) (by kernel_rfl) (fun _ _ _ h => h) (Or.inl ⟨by rfl, ?_⟩) hHeld0 ?_
           rotate_left
           · ((intro w hSw; (try dsimp only at hSw); go_simp) <;> (first | with_reducible rfl | (rw [if_neg (by omega)]; done))))
        | (refine wpAnyH_take (i := 4) (oi := { dst := some 24, op := Go.Op.nilCheck (Go.Operand.tmp 23), type := 0, pos := "node.go:35", after := #[{ on := 3, ground := Go.Ground.data }, { on := 2, ground := Go.Ground.guard }], guard := some (2, false) }) (v := undef) rfl (by kernel_rfl) (by kernel_rfl) (by kernel_rfl) (fun _ _ _ h => h) (Or.inr ⟨by rfl, rfl⟩) hHeld0 ?_)
        try simp only [Act.put, List.setIfInBounds_toArray, List.set_cons_zero, List.set_cons_succ]
        first
        | (refine wpAnyH_take (i := 5) (oi := { dst := some 25, op := Go.Op.fieldAddr 58 (Go.Operand.tmp 24) 0, type := 0, pos := "node.go:35", after := #[{ on := 4, ground := Go.Ground.data }, { on := 2, ground := Go.Ground.guard }], guard := some (2, false) }) (v := ?_) rfl (by kernel_rfl) (by kernel_rfl) (by kernel_rfl) (fun _ _ _ h => h) (Or.inl ⟨by rfl, ?_⟩) hHeld0 ?_
           rotate_left
           · ((intro w hSw; (try dsimp only at hSw); go_simp) <;> (first | with_reducible rfl | (rw [if_neg (by omega)]; done))))
        | (refine wpAnyH_take (i := 5) (oi := { dst := some 25, op := Go.Op.fieldAddr 58 (Go.Operand.tmp 24) 0, type := 0, pos := "node.go:35", after := #[{ on := 4, ground := Go.Ground.data }, { on := 2, ground := Go.Ground.guard }], guard := some (2, false) }) (v := undef) rfl (by kernel_rfl) (by kernel_rfl) (by kernel_rfl) (fun _ _ _ h => h) (Or.inr ⟨by rfl, rfl⟩) hHeld0 ?_)
        try simp only [Act.put, List.setIfInBounds_toArray, List.set_cons_zero, List.set_cons_succ]
        first
        | (refine wpAnyH_take (i := 6) (oi := { dst := some 26, op := Go.Op.fieldAddr 29 (Go.Operand.tmp 25) 1, type := 0, pos := "node.go:35", after := #[{ on := 5, ground := Go.Ground.data }, { on := 2, ground := Go.Ground.guard }], guard := some (2, false) }) (v := ?_) rfl (by kernel_rfl) (by kernel_rfl) (by kernel_rfl) (fun _ _ _ h => h) (Or.inl ⟨by rfl, ?_⟩) hHeld0 ?_
           rotate_left
           · ((intro w hSw; (try dsimp only at hSw); go_simp) <;> (first | with_reducible rfl | (rw [if_neg (by omega)]; done))))
        | (refine wpAnyH_take (i := 6) (oi := { dst := some 26, op := Go.Op.fieldAddr 29 (Go.Operand.tmp 25) 1, type := 0, pos := "node.go:35", after := #[{ on := 5, ground := Go.Ground.data }, { on := 2, ground := Go.Ground.guard }], guard := some (2, false) }) (v := undef) rfl (by kernel_rfl) (by kernel_rfl) (by kernel_rfl) (fun _ _ _ h => h) (Or.inr ⟨by rfl, rfl⟩) hHeld0 ?_)
        try simp only [Act.put, List.setIfInBounds_toArray, List.set_cons_zero, List.set_cons_succ]
        first
        | (refine wpAnyH_take (i := 7) (oi := { dst := some 27, op := Go.Op.load 3 (Go.Operand.tmp 26), type := 3, pos := "node.go:35", after := #[{ on := 6, ground := Go.Ground.data }, { on := 2, ground := Go.Ground.guard }], guard := some (2, false) }) (v := ?_) rfl (by kernel_rfl) (by kernel_rfl) (by kernel_rfl) (fun _ _ _ h => h) (Or.inl ⟨by rfl, ?_⟩) hHeld0 ?_
           rotate_left
           · ((intro w hSw; (try dsimp only at hSw); go_simp) <;> (first | with_reducible rfl | (rw [if_neg (by omega)]; done))))
        | (refine wpAnyH_take (i := 7) (oi := { dst := some 27, op := Go.Op.load 3 (Go.Operand.tmp 26), type := 3, pos := "node.go:35", after := #[{ on := 6, ground := Go.Ground.data }, { on := 2, ground := Go.Ground.guard }], guard := some (2, false) }) (v := undef) rfl (by kernel_rfl) (by kernel_rfl) (by kernel_rfl) (fun _ _ _ h => h) (Or.inr ⟨by rfl, rfl⟩) hHeld0 ?_)
        try simp only [Act.put, List.setIfInBounds_toArray, List.set_cons_zero, List.set_cons_succ]
        first
        | (refine wpAnyH_take (i := 8) (oi := { dst := some 28, op := Go.Op.fieldAddr 29 (Go.Operand.tmp 3) 1, type := 0, pos := "node.go:35", after := #[{ on := 2, ground := Go.Ground.guard }], guard := some (2, false) }) (v := ?_) rfl (by kernel_rfl) (by kernel_rfl) (by kernel_rfl) (fun _ _ _ h => h) (Or.inl ⟨by rfl, ?_⟩) hHeld0 ?_
           rotate_left
           · ((intro w hSw; (try dsimp only at hSw); go_simp) <;> (first | with_reducible rfl | (rw [if_neg (by omega)]; done))))
        | (refine wpAnyH_take (i := 8) (oi := { dst := some 28, op := Go.Op.fieldAddr 29 (Go.Operand.tmp 3) 1, type := 0, pos := "node.go:35", after := #[{ on := 2, ground := Go.Ground.guard }], guard := some (2, false) }) (v := undef) rfl (by kernel_rfl) (by kernel_rfl) (by kernel_rfl) (fun _ _ _ h => h) (Or.inr ⟨by rfl, rfl⟩) hHeld0 ?_)
        try simp only [Act.put, List.setIfInBounds_toArray, List.set_cons_zero, List.set_cons_succ]
        first
        | (refine wpAnyH_take (i := 9) (oi := { dst := some 29, op := Go.Op.load 3 (Go.Operand.tmp 28), type := 3, pos := "node.go:35", after := #[{ on := 8, ground := Go.Ground.data }, { on := 2, ground := Go.Ground.guard }], guard := some (2, false) }) (v := ?_) rfl (by kernel_rfl) (by kernel_rfl) (by kernel_rfl) (fun _ _ _ h => h) (Or.inl ⟨by rfl, ?_⟩) hHeld0 ?_
           rotate_left
           · ((intro w hSw; (try dsimp only at hSw); go_simp) <;> (first | with_reducible rfl | (rw [if_neg (by omega)]; done))))
        | (refine wpAnyH_take (i := 9) (oi := { dst := some 29, op := Go.Op.load 3 (Go.Operand.tmp 28), type := 3, pos := "node.go:35", after := #[{ on := 8, ground := Go.Ground.data }, { on := 2, ground := Go.Ground.guard }], guard := some (2, false) }) (v := undef) rfl (by kernel_rfl) (by kernel_rfl) (by kernel_rfl) (fun _ _ _ h => h) (Or.inr ⟨by rfl, rfl⟩) hHeld0 ?_)
        try simp only [Act.put, List.setIfInBounds_toArray, List.set_cons_zero, List.set_cons_succ]
        first
        | (refine wpAnyH_take (i := 10) (oi := { dst := some 30, op := Go.Op.binOp Go.BinOp.geq 3 (Go.Operand.tmp 27) (Go.Operand.tmp 29) 3, type := 4, pos := "node.go:35", after := #[{ on := 7, ground := Go.Ground.data }, { on := 9, ground := Go.Ground.data }, { on := 2, ground := Go.Ground.guard }], guard := some (2, false) }) (v := ?_) rfl (by kernel_rfl) (by kernel_rfl) (by kernel_rfl) (fun _ _ _ h => h) (Or.inl ⟨by rfl, ?_⟩) hHeld0 ?_
           rotate_left
           · ((intro w hSw; (try dsimp only at hSw); go_simp) <;> (first | with_reducible rfl | (rw [if_neg (by omega)]; done))))
        | (refine wpAnyH_take (i := 10) (oi := { dst := some 30, op := Go.Op.binOp Go.BinOp.geq 3 (Go.Operand.tmp 27) (Go.Operand.tmp 29) 3, type := 4, pos := "node.go:35", after := #[{ on := 7, ground := Go.Ground.data }, { on := 9, ground := Go.Ground.data }, { on := 2, ground := Go.Ground.guard }], guard := some (2, false) }) (v := undef) rfl (by kernel_rfl) (by kernel_rfl) (by kernel_rfl) (fun _ _ _ h => h) (Or.inr ⟨by rfl, rfl⟩) hHeld0 ?_)
        try simp only [Act.put, List.setIfInBounds_toArray, List.set_cons_zero, List.set_cons_succ]
        first
        | (refine wpAnyH_take (i := 11) (oi := { dst := some 31, op := Go.Op.pick (Go.Operand.tmp 22) (Go.Operand.const (Go.Value.bool true)) (Go.Operand.tmp 30), type := 4, pos := "node.go:35", after := #[{ on := 2, ground := Go.Ground.data }, { on := 10, ground := Go.Ground.data }], guard := none }) (v := ?_) rfl (by kernel_rfl) (by kernel_rfl) (by kernel_rfl) (fun _ _ _ h => h) (Or.inl ⟨by rfl, ?_⟩) hHeld0 ?_
           rotate_left
           · ((intro w hSw; (try dsimp only at hSw); go_simp) <;> (first | with_reducible rfl | (rw [if_neg (by omega)]; done))))
        | (refine wpAnyH_take (i := 11) (oi := { dst := some 31, op := Go.Op.pick (Go.Operand.tmp 22) (Go.Operand.const (Go.Value.bool true)) (Go.Operand.tmp 30), type := 4, pos := "node.go:35", after := #[{ on := 2, ground := Go.Ground.data }, { on := 10, ground := Go.Ground.data }], guard := none }) (v := undef) rfl (by kernel_rfl) (by kernel_rfl) (by kernel_rfl) (fun _ _ _ h => h) (Or.inr ⟨by rfl, rfl⟩) hHeld0 ?_)
        try simp only [Act.put, List.setIfInBounds_toArray, List.set_cons_zero, List.set_cons_succ]
        first
        | (refine wpAnyH_take (i := 12) (oi := { dst := some 32, op := Go.Op.move (Go.Operand.tmp 31), type := 4, pos := "node.go:35", after := #[{ on := 11, ground := Go.Ground.data }, { on := 2, ground := Go.Ground.chain }], guard := none }) (v := ?_) rfl (by kernel_rfl) (by kernel_rfl) (by kernel_rfl) (fun _ _ _ h => h) (Or.inl ⟨by rfl, ?_⟩) hHeld0 ?_
           rotate_left
           · ((intro w hSw; (try dsimp only at hSw); go_simp) <;> (first | with_reducible rfl | (rw [if_neg (by omega)]; done))))
        | (refine wpAnyH_take (i := 12) (oi := { dst := some 32, op := Go.Op.move (Go.Operand.tmp 31), type := 4, pos := "node.go:35", after := #[{ on := 11, ground := Go.Ground.data }, { on := 2, ground := Go.Ground.chain }], guard := none }) (v := undef) rfl (by kernel_rfl) (by kernel_rfl) (by kernel_rfl) (fun _ _ _ h => h) (Or.inr ⟨by rfl, rfl⟩) hHeld0 ?_)
        try simp only [Act.put, List.setIfInBounds_toArray, List.set_cons_zero, List.set_cons_succ]
        refine wpAnyH_take (i := 13) (oi := { dst := some 33, op := Go.Op.load 29 (Go.Operand.tmp 3), type := 29, pos := "node.go:35", after := #[{ on := 12, ground := Go.Ground.guard }], guard := some (12, false) }) (v := undef) rfl (by kernel_rfl) (by kernel_rfl) (by kernel_rfl) (fun _ _ _ h => h) (Or.inr ⟨by rfl, rfl⟩) hHeld0 ?_
        try simp only [Act.put, List.setIfInBounds_toArray, List.set_cons_zero, List.set_cons_succ]
        refine wpAnyH_take (i := 14) (oi := { dst := some 34, op := Go.Op.move (Go.Operand.tmp 7), type := 51, pos := "node.go:35", after := #[{ on := 12, ground := Go.Ground.guard }], guard := some (12, false) }) (v := undef) rfl (by kernel_rfl) (by kernel_rfl) (by kernel_rfl) (fun _ _ _ h => h) (Or.inr ⟨by rfl, rfl⟩) hHeld0 ?_
        try simp only [Act.put, List.setIfInBounds_toArray, List.set_cons_zero, List.set_cons_succ]
        refine wpAnyH_take (i := 15) (oi := { dst := some 35, op := Go.Op.nilCheck (Go.Operand.tmp 34), type := 0, pos := "node.go:35", after := #[{ on := 14, ground := Go.Ground.data }, { on := 12, ground := Go.Ground.guard }], guard := some (12, false) }) (v := undef) rfl (by kernel_rfl) (by kernel_rfl) (by kernel_rfl) (fun _ _ _ h => h) (Or.inr ⟨by rfl, rfl⟩) hHeld0 ?_
        try simp only [Act.put, List.setIfInBounds_toArray, List.set_cons_zero, List.set_cons_succ]
        refine wpAnyH_take (i := 16) (oi := { dst := some 36, op := Go.Op.fieldAddr 58 (Go.Operand.tmp 35) 0, type := 0, pos := "node.go:35", after := #[{ on := 15, ground := Go.Ground.data }, { on := 12, ground := Go.Ground.guard }], guard := some (12, false) }) (v := undef) rfl (by kernel_rfl) (by kernel_rfl) (by kernel_rfl) (fun _ _ _ h => h) (Or.inr ⟨by rfl, rfl⟩) hHeld0 ?_
        try simp only [Act.put, List.setIfInBounds_toArray, List.set_cons_zero, List.set_cons_succ]
        refine wpAnyH_take (i := 17) (oi := { dst := some 37, op := Go.Op.load 29 (Go.Operand.tmp 36), type := 29, pos := "node.go:35", after := #[{ on := 16, ground := Go.Ground.data }, { on := 12, ground := Go.Ground.guard }], guard := some (12, false) }) (v := undef) rfl (by kernel_rfl) (by kernel_rfl) (by kernel_rfl) (fun _ _ _ h => h) (Or.inr ⟨by rfl, rfl⟩) hHeld0 ?_
        try simp only [Act.put, List.setIfInBounds_toArray, List.set_cons_zero, List.set_cons_succ]
        refine wpAnyH_take (i := 18) (oi := { dst := some 38, op := Go.Op.call { callee := Go.Callee.value (Go.Operand.func 26), args := #[Go.Operand.tmp 33, Go.Operand.tmp 37], argTypes := #[29, 29] }, type := 4, pos := "node.go:35", after := #[{ on := 13, ground := Go.Ground.data }, { on := 17, ground := Go.Ground.data }, { on := 12, ground := Go.Ground.chain }, { on := 12, ground := Go.Ground.guard }], guard := some (12, false) }) (v := undef) rfl (by kernel_rfl) (by kernel_rfl) (by kernel_rfl) (fun _ _ _ h => h) (Or.inr ⟨by rfl, rfl⟩) hHeld0 ?_
        try simp only [Act.put, List.setIfInBounds_toArray, List.set_cons_zero, List.set_cons_succ]
        refine wpAnyH_take (i := 19) (oi := { dst := some 39, op := Go.Op.unOp Go.UnOp.not 4 (Go.Operand.tmp 38), type := 4, pos := "node.go:35", after := #[{ on := 18, ground := Go.Ground.data }, { on := 12, ground := Go.Ground.guard }], guard := some (12, false) }) (v := undef) rfl (by kernel_rfl) (by kernel_rfl) (by kernel_rfl) (fun _ _ _ h => h) (Or.inr ⟨by rfl, rfl⟩) hHeld0 ?_
        try simp only [Act.put, List.setIfInBounds_toArray, List.set_cons_zero, List.set_cons_succ]
        first
        | (refine wpAnyH_take (i := 20) (oi := { dst := some 40, op := Go.Op.pick (Go.Operand.tmp 32) (Go.Operand.const (Go.Value.bool true)) (Go.Operand.tmp 39), type := 4, pos := "node.go:35", after := #[{ on := 12, ground := Go.Ground.data }, { on := 19, ground := Go.Ground.data }], guard := none }) (v := ?_) rfl (by kernel_rfl) (by kernel_rfl) (by kernel_rfl) (fun _ _ _ h => h) (Or.inl ⟨by rfl, ?_⟩) hHeld0 ?_
           rotate_left
           · ((intro w hSw; (try dsimp only at hSw); go_simp) <;> (first | with_reducible rfl | (rw [if_neg (by omega)]; done))))
        | (refine wpAnyH_take (i := 20) (oi := { dst := some 40, op := Go.Op.pick (Go.Operand.tmp 32) (Go.Operand.const (Go.Value.bool true)) (Go.Operand.tmp 39), type := 4, pos := "node.go:35", after := #[{ on := 12, ground := Go.Ground.data }, { on := 19, ground := Go.Ground.data }], guard := none }) (v := undef) rfl (by kernel_rfl) (by kernel_rfl) (by kernel_rfl) (fun _ _ _ h => h) (Or.inr ⟨by rfl, rfl⟩) hHeld0 ?_)
        try simp only [Act.put, List.setIfInBounds_toArray, List.set_cons_zero, List.set_cons_succ]
        refine wpAnyH_done (by kernel_rfl) ?_ _
        clear hHeld0
        go_wp2_with fail
        refine jump_ret ?_
        go_ret
        have hl0 : 0 < (places B d fs).length := by rw [HPL.out]; omega
        obtain ⟨g, cap, rfl, p1, p2, p3, p4⟩ := ptrs_own HO5.out hl0
        rw [← HWE.out]
        exact ⟨g, cap, rfl, p1, p2, by omega, p4.below (Below.drew (Below.refl _ _)), Below.drew HB5.out⟩
end Go.Proofs.Ytlmmnjoincmgcaa
