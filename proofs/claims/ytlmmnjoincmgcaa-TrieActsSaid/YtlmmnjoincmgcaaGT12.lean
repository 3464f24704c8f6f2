/- Texts of this seat, merged: Tp12, Tp13, Tp14, Tp15, Tp16, Tp17, Tp18. -/
import Derived.Test.YtlmmnjoincmgcaaGT11
import Derived.Deep.AppendLies
namespace Go.Proofs.Ytlmmnjoincmgcaa
set_option linter.unusedVariables false
set_option linter.unusedSimpArgs false
set_option maxRecDepth 100000
open Go.RowKit Go.Shelf
/-- a row is put: the table's rows -/
theorem put_rows {w w' : World} {base B s : Nat} {vs : List Rw} {d : Nat} {t o : Tr} (h : Pick w base B s vs d t o) {fs : List Fr} {b cp m : Nat} {ad : Option Addr} {q : List UInt8} {o0 own : Int} {l r : Tr} (hq : q.length = s) (hd : ∀ f ∈ fs, f.d = 0 ∨ f.d = 1)
    (hw : (fill fs (.node b ad cp q m o0 l r)).Wf s) (hr : (fill fs (.node b ad cp q m o0 l r)).rows = t.rows) (ho : 0 ≤ own) (ht : Tab w' base B d (fill fs (.node b ad cp q m own l r)) o) (p : Rw) (hp : p.key = (q, (m : Int), own)) : TT w' base B (putV vs p) := by
  refine h.back ht (wf_own hd hw (.inr ho)) (put_srt h.srt p) fun z => ?_
  have hpa : p.adr = q := congrArg (fun k : Ky => k.1) hp
  have hpm : p.bits = m := congrArg (fun k : Ky => k.2.1) hp
  rw [put_mem h.srt p z, h.mem z, node_rows hd hw b ad cp own z, hr, hpa, hpm, hp]
  constructor
  · rintro (⟨hz | hz, hn⟩ | hz)
    · exact .inl (.inl ⟨hz, hn⟩)
    · exact .inr hz
    · exact .inl (.inr ⟨by omega, hz⟩)
  · rintro ((⟨hz, hn⟩ | ⟨_, hz⟩) | hz)
    · exact .inl ⟨.inl hz, hn⟩
    · exact .inr hz
    · exact .inl ⟨.inr hz, fun hk => h.other hz (by rw [hk.1]; exact hq)⟩
theorem pput_nil (ad : Option Addr) (n cp : Nat) (bits own : Int) (w : World) :
    Calls Try.prog 8 #[.pointer none, .agg #[.slice ad n cp, .int .i64 bits], .int .i64 own] w fun e w' => e = .returned (.int .i64 1) ∧ Below w.heap.size w w' := by
  go_enter Try.func8, Try.ntmps8
  go_wp2_with fail
  go_ret
  exact ⟨rfl, below_one _⟩
theorem pput_no (base B : Nat) (vs : List Rw) (ad : Option Addr) (cp : Nat) (adr : List UInt8) (bits own : Int) (w : World) (h : TT w base B vs) (ha : Bytes w (.slice ad adr.length cp) adr) (hal : adr.length ≤ 40) (hr : rightP adr.length bits = false) :
    Calls Try.prog 8 #[.pointer (some ⟨B, 0, none⟩), .agg #[.slice ad adr.length cp, .int .i64 bits], .int .i64 own] w fun e w' => e = .returned (.int .i64 3) ∧ TT w' base B vs ∧ Keeps base w w' := by
  obtain ⟨w1, hw1⟩ : ∃ w1, w1 = w.alloc (.cells #[.slice ad adr.length cp, .int .i64 bits] 29) := ⟨_, rfl⟩; have h1 : w1.heap[w.heap.size]? = some (.cells #[.slice ad adr.length cp, .int .i64 bits] 29 (0, 0)) := (by rw [hw1]; exact heap_alloc_new w _); have hb1 : Below w.heap.size w w1 := (by rw [hw1]; exact below_one _); have c0 := cell_of h1 0 rfl; have c1 := cell_of h1 1 rfl; have HB1 := Lib.hid hb1; have HA1 := Lib.hid (ha.below hb1)
  have HPL := Lib.hid (fun w h => aplain_no adr ad cp bits w h (by omega) hr)
  have HFIN : Hid (∀ w', Below w.heap.size w w' → TT w' base B vs ∧ Keeps base w w') := Lib.hid (fun w' hb => ⟨h.below hb, (Kp.below hb h.size).keeps⟩)
  clear h ha hr h1 hb1
  go_enter Try.func8, Try.ntmps8
  go_wp2_with fail
  rw [← hw1]
  clear hw1
  go_wp2_with (first | (go_at_call 20; ((with_reducible refine (HPL.out _ HA1.out).mono ?_); rintro e w2 ⟨rfl, hb⟩; have HB2 := Lib.hid (Below.next HB1.out hb); clear hb)) | fail)
  go_ret
  exact ⟨rfl, HFIN.out _ (Below.next HB2.out (below_one _))⟩
theorem pput_arg (base B : Nat) (vs : List Rw) (ad : Option Addr) (cp : Nat) (adr : List UInt8) (bits own : Int) (w : World) (h : TT w base B vs) (ha : Bytes w (.slice ad adr.length cp) adr) (hal : adr.length ≤ 40) (hr : rightP adr.length bits = true) (ho : own < 0) :
    Calls Try.prog 8 #[.pointer (some ⟨B, 0, none⟩), .agg #[.slice ad adr.length cp, .int .i64 bits], .int .i64 own] w fun e w' => e = .returned (.int .i64 2) ∧ TT w' base B vs ∧ Keeps base w w' := by
  obtain ⟨w1, hw1⟩ : ∃ w1, w1 = w.alloc (.cells #[.slice ad adr.length cp, .int .i64 bits] 29) := ⟨_, rfl⟩; have h1 : w1.heap[w.heap.size]? = some (.cells #[.slice ad adr.length cp, .int .i64 bits] 29 (0, 0)) := (by rw [hw1]; exact heap_alloc_new w _); have hb1 : Below w.heap.size w w1 := (by rw [hw1]; exact below_one _); have c0 := cell_of h1 0 rfl; have c1 := cell_of h1 1 rfl; have HB1 := Lib.hid hb1; have HA1 := Lib.hid (ha.below hb1)
  have HPL := Lib.hid (fun w h => aplain_fresh adr ad cp bits w h (by omega) hr)
  have HFIN : Hid (∀ w', Below w.heap.size w w' → TT w' base B vs ∧ Keeps base w w') := Lib.hid (fun w' hb => ⟨h.below hb, (Kp.below hb h.size).keeps⟩)
  clear h ha hr h1 hb1
  go_enter Try.func8, Try.ntmps8
  go_wp2_with fail
  rw [← hw1]
  clear hw1
  go_wp2_with (first | (go_at_call 20; ((with_reducible refine (HPL.out _ HA1.out).mono ?_); rintro e w2 ⟨g, gc, rfl, _, _, _, _, _, hb⟩; have HB2 := Lib.hid (Below.next HB1.out hb); clear hb)) | fail)
  go_ret
  exact ⟨rfl, HFIN.out _ (Below.next HB2.out (below_one _))⟩
set_option maxHeartbeats 1000000 in
theorem pput_any (base B : Nat) (vs : List Rw) (ad : Option Addr) (cp : Nat) (adr : List UInt8) (bits own : Int) (w : World) (h : TT w base B vs) (ha : Bytes w (.slice ad adr.length cp) adr) (hal : adr.length ≤ 40) (hr : rightP adr.length bits = true) (ho : ¬ own < 0) :
    Calls Try.prog 8 #[.pointer (some ⟨B, 0, none⟩), .agg #[.slice ad adr.length cp, .int .i64 bits], .int .i64 own] w fun e w' => e = .returned (.int .i64 0) ∧ (∀ pa pc, TT w' base B (putV vs ⟨pa, pc, plainS adr bits.toNat, bits, own⟩)) ∧ Keeps base w w' := by
  obtain ⟨hs4, hb0, hb8⟩ := right_len hr
  obtain ⟨m, rfl⟩ : ∃ m : Nat, bits = m := ⟨bits.toNat, by omega⟩
  obtain ⟨w1, hw1⟩ : ∃ w1, w1 = w.alloc (.cells #[.slice ad adr.length cp, .int .i64 m] 29) := ⟨_, rfl⟩; have h1 : w1.heap[w.heap.size]? = some (.cells #[.slice ad adr.length cp, .int .i64 m] 29 (0, 0)) := (by rw [hw1]; exact heap_alloc_new w _); have hb1 : Below w.heap.size w w1 := (by rw [hw1]; exact below_one _); have c0 := cell_of h1 0 rfl; have c1 := cell_of h1 1 rfl; have HB1 := Lib.hid hb1; have HA1 := Lib.hid (ha.below hb1)
  have hq : (plainS adr m).length = adr.length := plainS_len _ _
  have hpp : plainS (plainS adr m) m = plainS adr m := plain_plain adr m
  have HPL := Lib.hid (fun w h => aplain_fresh adr ad cp m w h (by omega) hr)
  unfold FreshQ at HPL
  rw [show ((m : Nat) : Int).toNat = m from Int.toNat_natCast m] at HPL ⊢
  generalize plainS adr m = q at *
  obtain ⟨d, t, o, hpk⟩ := h.pick (s := q.length) (by omega)
  have HPK := Lib.hid hpk
  have HND : Hid (∀ W g gc, Tab W base B d t o → Bytes W (.slice (some ⟨g, 0, none⟩) q.length gc) q → TypAt W (some ⟨g, 0, none⟩) 5 → q.length ≤ gc → gc ≤ maxLen → Calls Try.prog 21 #[.pointer (some ⟨B, 0, none⟩), .agg #[.slice (some ⟨g, 0, none⟩) q.length gc, .int .i64 m]] W (NodeRet base B d q.length t o q m W)) := Lib.hid (fun W g gc h1 h2 h3 h4 h5 => node_any base B d q.length t o q m (some ⟨g, 0, none⟩) gc W h1 hpk.wf hpk.ds h2 h3 rfl hpp h4 h5 (by omega))
  have HO := Lib.hid ho
  clear h ha hr h1 hb1 hpk hpp hq hb0 hb8 hs4
  go_enter Try.func8, Try.ntmps8
  go_wp2_with fail
  rw [← hw1]
  clear hw1
  go_wp2_with (first | (go_at_call 20; ((with_reducible refine (HPL.out _ HA1.out).mono ?_); rintro e w2 ⟨g, gc, rfl, _, hby, hty, hc1, hc2, hb⟩; have HB2 := Lib.hid (Below.next HB1.out hb); have HBY := Lib.hid hby; have HTY := Lib.hid hty; have HGC := Lib.hid (And.intro hc1 hc2); clear hb hby hty hc1 hc2)) | (go_at_call 21; ((with_reducible refine (HND.out _ _ _ (HPK.out.tab.below (Below.next HB2.out (below_one _))) (HBY.out.below (below_one _)) (HTY.out.below (below_one _)) HGC.out.1 HGC.out.2).mono ?_); rintro e w4 ⟨fs, b, nad, ncp, own0, l, r, rfl, htab, hwf, hrows, hfd, hkp⟩; have hn := trAt_fill hfd htab.here; have n2 := cell_of hn.1.2.1 2 rfl; have f2 := free_of hn.1.2.1 2; have HT := Lib.hid htab; have HWF := Lib.hid hwf; have HRW := Lib.hid hrows; have HFD := Lib.hid hfd; have HKP := Lib.hid (Kp.trans (Kp.below (Below.next HB2.out (below_one _)) HPK.out.tab.size) hkp); clear hn htab hwf hrows hfd hkp)) | fail)
  have hown := Tab.own HT.out HFD.out own
  go_ret
  refine ⟨rfl, fun pa pc => put_rows HPK.out rfl HFD.out HWF.out HRW.out (by have := HO.out; omega) hown.1 _ rfl, (HKP.out.trans hown.2).keeps⟩
end Go.Proofs.Ytlmmnjoincmgcaa

namespace Go.Proofs.Ytlmmnjoincmgcaa
set_option linter.unusedVariables false
set_option linter.unusedSimpArgs false
set_option maxRecDepth 100000
open Go.RowKit Go.Shelf
/-- blocks of cells stay -/
def CellsK (W W' : World) : Prop := ∀ (k : Nat) (cur : Array Value) (T : TypeId) (fz : Nat × Nat), W.heap[k]? = some (.cells cur T fz) → W'.heap[k]? = some (.cells cur T fz)
theorem ck_grown {W W' : World} {row : Option Nat} (hg : W.grownBy W' row) (hr : ∀ r, row = some r → ∃ o : Obj, W.heap[r]? = some o ∧ o.isCells = false) : CellsK W W' :=
  fun k cur T fz h => (grownBy_keeps_cells hg hr h rfl).trans h
theorem bytes_ck {W W' : World} {v : Value} {l : List UInt8} (h : Bytes W v l) (hk : CellsK W W') : Bytes W' v l := by
  obtain ⟨a, cp, rfl, h2⟩ := h
  refine ⟨a, cp, rfl, h2.imp id ?_⟩
  rintro ⟨b, off, rfl, hc⟩
  refine ⟨b, off, rfl, fun i hi => ?_⟩
  have h3 := hc i hi
  obtain ⟨o, ho, hco⟩ := cells_of_cell h3
  cases o with
  | cells cur T fz => exact (World.cell?_of_block ((hk _ _ _ _ ho).trans ho.symm)).trans h3
  | _ => cases hco
theorem TrAt.ck {W W' : World} {base : Nat} (hk : CellsK W W') : ∀ {t : Tr}, TrAt W base t → TrAt W' base t
  | .nil, _ => trivial
  | .node b ad cp a n o l r, h => ⟨⟨h.1.1, hk _ _ _ _ h.1.2.1, bytes_ck h.1.2.2.1 hk, (fun b off x e => by obtain ⟨cur, fz, hc⟩ := h.1.2.2.2.1 b off x e; exact ⟨cur, fz, hk _ _ _ _ hc⟩), h.1.2.2.2.2⟩, h.2.1.ck hk, h.2.2.ck hk⟩
theorem Tab.ck {W W' : World} {base B d : Nat} {t o : Tr} (h : Tab W base B d t o) (hk : CellsK W W') : Tab W' base B d t o :=
  ⟨h.d01, hk _ _ _ _ h.blk, h.ge, h.here.ck hk, h.oth.ck hk, h.nd⟩
theorem Kp.ck {base : Nat} {w W W' : World} (h : Kp base w W) (hb : Below base W W') (hk : CellsK W W') : Kp base w W' :=
  ⟨h.bel.trans hb, fun k cur t fz h0 h1 h2 => hk _ _ _ _ (h.blk k cur t fz h0 h1 h2)⟩
/-- nothing, or a node among these -/
def GoodV (S : List Nat) (v : Value) : Prop := v = .pointer none ∨ ∃ b ∈ S, v = .pointer (some ⟨b, 0, none⟩)
/-- nodes that lead to each other alone -/
structure Safe (W : World) (base B d : Nat) (S : List Nat) : Prop where
  ge : ∀ b ∈ S, base ≤ b
  node : ∀ b ∈ S, ∃ (v0 v1 : Value) (ow : Int) (v3 v4 : Value), W.heap[b]? = some (.cells #[v0, v1, .int .i64 ow, v3, v4] 58 (0, 0)) ∧ GoodV S v3 ∧ GoodV S v4
  root : base ≤ B ∧ (d = 0 ∨ d = 1) ∧ ∃ v0 v1, W.heap[B]? = some (.cells #[v0, v1] 53 (0, 0)) ∧ GoodV S (if d = 0 then v0 else v1)
theorem Safe.ck {W W' : World} {base B d : Nat} {S : List Nat} (h : Safe W base B d S) (hk : CellsK W W') : Safe W' base B d S := by
  refine ⟨h.ge, fun b hb => ?_, h.root.1, h.root.2.1, ?_⟩
  · obtain ⟨v0, v1, ow, v3, v4, h1, h2⟩ := h.node b hb
    exact ⟨v0, v1, ow, v3, v4, hk _ _ _ _ h1, h2⟩
  · obtain ⟨v0, v1, h1, h2⟩ := h.root.2.2
    exact ⟨v0, v1, hk _ _ _ _ h1, h2⟩
theorem ptr_good {S : List Nat} {t : Tr} (h : ∀ b ∈ t.blks, b ∈ S) : GoodV S t.ptr := by
  cases t with
  | nil => exact .inl rfl
  | node b ad cp a n o l r => exact .inr ⟨b, h b (by simp [Tr.blks]), rfl⟩
theorem safe_tree {W : World} {base : Nat} {S : List Nat} : ∀ {t : Tr}, TrAt W base t → (∀ b ∈ t.blks, b ∈ S) → ∀ b ∈ t.blks, base ≤ b ∧ ∃ (v0 v1 : Value) (ow : Int) (v3 v4 : Value), W.heap[b]? = some (.cells #[v0, v1, .int .i64 ow, v3, v4] 58 (0, 0)) ∧ GoodV S v3 ∧ GoodV S v4
  | .nil, _, _, b, hb => by simp [Tr.blks] at hb
  | .node k ad cp a n o l r, h, hs, b, hb => by
    rw [blks_node] at hs hb
    rcases List.mem_cons.1 hb with rfl | hb
    · exact ⟨h.1.1, _, _, _, _, _, h.1.2.1, ptr_good fun x hx => hs x (by simp [hx]), ptr_good fun x hx => hs x (by simp [hx])⟩
    · rcases List.mem_append.1 hb with hb | hb
      · exact safe_tree h.2.1 (fun x hx => hs x (by simp [hx])) b hb
      · exact safe_tree h.2.2 (fun x hx => hs x (by simp [hx])) b hb
theorem Tab.safe {W : World} {base B d : Nat} {t o : Tr} (h : Tab W base B d t o) : Safe W base B d t.blks := by
  have h1 := safe_tree h.here (S := t.blks) (fun _ h => h)
  refine ⟨fun b hb => (h1 b hb).1, fun b hb => (h1 b hb).2, h.ge, h.d01, ?_⟩
  have h2 := h.blk
  have hg : GoodV t.blks t.ptr := ptr_good fun _ h => h
  rcases h.d01 with h3 | h3
  · rw [if_pos h3] at h2; exact ⟨_, _, h2, by rw [if_pos h3]; exact hg⟩
  · rw [if_neg (by omega)] at h2; exact ⟨_, _, h2, by rw [if_neg (by omega)]; exact hg⟩
/-- a place of the table, or of one of the nodes -/
def PlaceOk (B d : Nat) (S : List Nat) (b i : Nat) : Prop := (b = B ∧ i = d) ∨ (b ∈ S ∧ (i = 3 ∨ i = 4))
theorem Safe.get {W : World} {base B d : Nat} {S : List Nat} (h : Safe W base B d S) {b i : Nat} (hp : PlaceOk B d S b i) : ∃ v cur T, GoodV S v ∧ W.cell? ⟨b, i, none⟩ = some v ∧ W.frozen? ⟨b, i, none⟩ = false ∧ base ≤ b ∧ W.heap[b]? = some (.cells cur T (0, 0)) ∧ (T = 58 ∨ T = 53) := by
  rcases hp with ⟨rfl, rfl⟩ | ⟨hb, hi⟩
  · obtain ⟨h0, h1, v0, v1, h2, h3⟩ := h.root
    rcases h1 with rfl | rfl
    · exact ⟨_, _, _, h3, cell_of h2 0 rfl, free_of h2 0, h0, h2, .inr rfl⟩
    · exact ⟨_, _, _, h3, cell_of h2 1 rfl, free_of h2 1, h0, h2, .inr rfl⟩
  · obtain ⟨v0, v1, ow, v3, v4, h2, h3, h4⟩ := h.node b hb
    rcases hi with rfl | rfl
    · exact ⟨_, _, _, h3, cell_of h2 3 rfl, free_of h2 3, h.ge b hb, h2, .inl rfl⟩
    · exact ⟨_, _, _, h4, cell_of h2 4 rfl, free_of h2 4, h.ge b hb, h2, .inl rfl⟩
theorem Safe.set {W : World} {base B d : Nat} {S : List Nat} (h : Safe W base B d S) {b i : Nat} (hp : PlaceOk B d S b i) {v : Value} (hv : GoodV S v) : Safe (W.setCell ⟨b, i, none⟩ v) base B d S := by
  refine ⟨h.ge, fun k hk => ?_, h.root.1, h.root.2.1, ?_⟩
  · obtain ⟨v0, v1, ow, v3, v4, h2, h3, h4⟩ := h.node k hk
    by_cases e : k = b
    · subst e
      rcases hp with ⟨rfl, rfl⟩ | ⟨hb, rfl | rfl⟩
      · obtain ⟨_, _, u0, u1, h5, _⟩ := h.root
        rw [h2] at h5
        injection h5 with h5
        injection h5 with _ h6 _
        exact absurd h6 (by decide)
      · exact ⟨v0, v1, ow, v, v4, set_block h2, hv, h4⟩
      · exact ⟨v0, v1, ow, v3, v, set_block h2, h3, hv⟩
    · exact ⟨v0, v1, ow, v3, v4, by rw [heap_other e]; exact h2, h3, h4⟩
  · obtain ⟨_, h1, v0, v1, h2, h3⟩ := h.root
    by_cases e : B = b
    · subst e
      rcases hp with ⟨_, rfl⟩ | ⟨hb, _⟩
      · rcases h1 with rfl | rfl
        · exact ⟨v, v1, set_block h2, hv⟩
        · exact ⟨v0, v, set_block h2, hv⟩
      · obtain ⟨_, _, _, _, _, h5, _⟩ := h.node B hb
        rw [h2] at h5
        injection h5 with h5
        injection h5 with _ h6 _
        exact absurd h6 (by decide)
    · exact ⟨v0, v1, by rw [heap_other e]; exact h2, h3⟩
theorem place_ok {B d : Nat} (hd0 : d = 0 ∨ d = 1) : ∀ {fs : List Fr} {S : List Nat}, (∀ f ∈ fs, f.d = 0 ∨ f.d = 1) → (∀ b ∈ ctxB fs, b ∈ S) → PlaceOk B d S (plB B fs) (plO d fs)
  | [], S, _, _ => .inl ⟨rfl, rfl⟩
  | f :: fs, S, hd, hs => by
    refine .inr ⟨hs f.b (by simp [ctxB]), ?_⟩
    show 3 + f.d = 3 ∨ 3 + f.d = 4
    have := hd f (by simp)
    omega
/-! what has to stay, by what lies in memory -/
def NeedV (W : World) (v v' : Value) : Prop := (v = .pointer none ∧ v' = .pointer none) ∨ ∃ (b : Nat) (v0 v1 : Value) (ow : Int) (v3 v4 : Value), v = .pointer (some ⟨b, 0, none⟩) ∧ W.heap[b]? = some (.cells #[v0, v1, .int .i64 ow, v3, v4] 58 (0, 0)) ∧
  ((ow ≠ -1 ∧ v' = v) ∨ (ow = -1 ∧ v3 = .pointer none ∧ v' = v4) ∨ (ow = -1 ∧ v3 ≠ .pointer none ∧ v4 = .pointer none ∧ v' = v3) ∨ (ow = -1 ∧ v3 ≠ .pointer none ∧ v4 ≠ .pointer none ∧ v' = v))
theorem ptr_nil {t : Tr} : t.ptr = .pointer none ↔ t = .nil := by
  cases t with
  | nil => exact ⟨fun _ => rfl, fun _ => rfl⟩
  | node => exact ⟨fun h => (by cases h), fun h => (by cases h)⟩
theorem need_v {W : World} {base : Nat} {e : Tr} {v v' : Value} (h : TrAt W base e) (hv : v = e.ptr) (hn : NeedV W v v') : v' = (need e).ptr := by
  subst hv
  cases e with
  | nil =>
    rcases hn with ⟨_, h2⟩ | ⟨b, _, _, _, _, _, h2, _⟩
    · exact h2
    · cases h2
  | node b ad cp a n o l r =>
    rcases hn with ⟨h2, _⟩ | ⟨b2, v0, v1, ow, v3, v4, h2, h3, h4⟩
    · cases h2
    · have e2 : b = b2 := by injection h2 with h2; injection h2 with h2; injection h2 with h2
      subst e2
      have h5 := h.1.2.1
      rw [h5] at h3
      injection h3 with h3
      injection h3 with h3 _ _
      injection h3 with h3
      injection h3 with _ h3
      injection h3 with _ h3
      injection h3 with h6 h3
      injection h3 with h7 h3
      injection h3 with h8 _
      injection h6 with _ h6
      subst h6; subst h7; subst h8
      rcases h4 with ⟨h6, rfl⟩ | ⟨h6, h7, rfl⟩ | ⟨h6, h7, h8, rfl⟩ | ⟨h6, h7, h8, rfl⟩
      · simp [need, h6]
      · have := ptr_nil.1 h7
        subst this
        simp [need, h6]
      · have := ptr_nil.1 h8
        subst this
        have h9 : l ≠ .nil := fun e => h7 (ptr_nil.2 e)
        cases l with
        | nil => exact absurd rfl h9
        | node => simp [need, h6]
      · have h9 : l ≠ .nil := fun e => h7 (ptr_nil.2 e)
        have h10 : r ≠ .nil := fun e => h8 (ptr_nil.2 e)
        cases l with
        | nil => exact absurd rfl h9
        | node =>
          cases r with
          | nil => exact absurd rfl h10
          | node => simp [need, h6]
theorem needed_good (base B d : Nat) (S : List Nat) (v : Value) (w : World) (h : Safe w base B d S) (hv : GoodV S v) :
    Calls Try.prog 28 #[v] w fun x w' => ∃ v', x = .returned v' ∧ (GoodV S v' ∧ NeedV w v v') ∧ w' = w := by
  rcases hv with rfl | ⟨b, hb, rfl⟩
  · go_enter Try.func28, Try.ntmps28
    go_wp2_with fail
    go_ret
    exact ⟨_, rfl, ⟨.inl rfl, .inl ⟨rfl, rfl⟩⟩, rfl⟩
  · obtain ⟨v0, v1, ow, v3, v4, hn, h3, h4⟩ := h.node b hb
    have HN := Lib.hid hn
    have H3 := Lib.hid h3
    have H4 := Lib.hid h4
    have HB : Hid (b ∈ S) := Lib.hid hb
    have c2 := cell_of hn 2 rfl
    have c3 := cell_of hn 3 rfl
    have c4 := cell_of hn 4 rfl
    clear h hn hb
    by_cases ho : ow = -1
    · have h1 : (ow != -1) = false := bneq_i ho
      have HO := Lib.hid ho
      clear ho
      rcases h3 with rfl | ⟨b3, _, rfl⟩
      · clear h4
        go_enter Try.func28, Try.ntmps28
        go_wp2_with fail
        go_ret
        exact ⟨_, rfl, ⟨H4.out, .inr ⟨b, v0, v1, ow, _, v4, rfl, HN.out, .inr (.inl ⟨HO.out, rfl, rfl⟩)⟩⟩, rfl⟩
      · rcases h4 with rfl | ⟨b4, _, rfl⟩
        · go_enter Try.func28, Try.ntmps28
          go_wp2_with fail
          go_ret
          exact ⟨_, rfl, ⟨H3.out, .inr ⟨b, v0, v1, ow, _, _, rfl, HN.out, .inr (.inr (.inl ⟨HO.out, (fun e => by cases e), rfl, rfl⟩))⟩⟩, rfl⟩
        · go_enter Try.func28, Try.ntmps28
          go_wp2_with fail
          go_ret
          exact ⟨_, rfl, ⟨.inr ⟨b, HB.out, rfl⟩, .inr ⟨b, v0, v1, ow, _, _, rfl, HN.out, .inr (.inr (.inr ⟨HO.out, (fun e => by cases e), (fun e => by cases e), rfl⟩))⟩⟩, rfl⟩
    · have h1 : (ow != -1) = true := bnne_i ho
      have HO := Lib.hid ho
      clear ho h3 h4
      go_enter Try.func28, Try.ntmps28
      go_wp2_with fail
      go_ret
      exact ⟨_, rfl, ⟨.inr ⟨b, HB.out, rfl⟩, .inr ⟨b, v0, v1, ow, _, _, rfl, HN.out, .inl ⟨HO.out, rfl⟩⟩⟩, rfl⟩
/-! the trees, step by step -/
def prTr : List Fr → Tr → Nat → Tr
  | _, e, 0 => e
  | [], e, _ + 1 => e
  | f :: fs, e, k + 1 => prTr fs (plug f (need e)) k
theorem pr_zero (fs : List Fr) (e : Tr) : prTr fs e 0 = e := by cases fs <;> rfl
theorem pr_next : ∀ (fs : List Fr) (e : Tr) (k : Nat) (f : Fr), fs[k]? = some f → prTr fs e (k + 1) = plug f (need (prTr fs e k))
  | [], _, _, _, h => by simp at h
  | g :: fs, e, 0, f, h => by
    simp only [List.getElem?_cons_zero, Option.some.injEq] at h
    subst h
    show prTr fs (plug g (need e)) 0 = plug g (need e)
    exact pr_zero _ _
  | g :: fs, e, k + 1, f, h => pr_next fs (plug g (need e)) k f (by simpa using h)
theorem pr_rows : ∀ (fs : List Fr) (e : Tr) (k : Nat), k ≤ fs.length → (fill (fs.drop k) (prTr fs e k)).rows = (fill fs e).rows
  | fs, e, 0, _ => by rw [pr_zero]; rfl
  | [], _, _ + 1, h => by simp at h
  | f :: fs, e, k + 1, h => by
    refine (pr_rows fs (plug f (need e)) k (by simpa using h)).trans ?_
    show (fill (f :: fs) (need e)).rows = _
    exact fill_rows (need_rows e)
theorem pr_wf {s : Nat} : ∀ (fs : List Fr) (e : Tr) (k : Nat), (∀ f ∈ fs, f.d = 0 ∨ f.d = 1) → k ≤ fs.length → (fill fs e).Wf s → (fill (fs.drop k) (prTr fs e k)).Wf s
  | fs, e, 0, _, _, h => by rw [pr_zero]; exact h
  | [], _, _ + 1, _, h, _ => by simp at h
  | f :: fs, e, k + 1, hd, h, hw => by
    refine pr_wf fs (plug f (need e)) k (fun g hg => hd g (List.mem_cons_of_mem _ hg)) (by simpa using h) ?_
    show (fill (f :: fs) (need e)).Wf s
    exact fill_need_wf hd hw
theorem need_blks : ∀ {t : Tr}, ∀ b ∈ (need t).blks, b ∈ t.blks
  | .nil, b, hb => hb
  | .node k ad cp a n o l r, b, hb => by
    rcases need_cases k ad cp a n o l r with h | ⟨rfl, rfl, h⟩ | ⟨rfl, rfl, h⟩
    · rw [h] at hb; exact hb
    · rw [h] at hb; simp [Tr.blks, hb]
    · rw [h] at hb; simp [Tr.blks, hb]
theorem need_nodup : ∀ {t : Tr}, t.blks.Nodup → (need t).blks.Nodup
  | .nil, h => h
  | .node k ad cp a n o l r, hn => by
    rcases need_cases k ad cp a n o l r with h | ⟨rfl, rfl, h⟩ | ⟨rfl, rfl, h⟩
    · rw [h]; exact hn
    · rw [h]; simp [Tr.blks] at hn; exact hn.2
    · rw [h]; simp [Tr.blks] at hn; exact hn.2
theorem need_at {W : World} {base : Nat} : ∀ {t : Tr}, TrAt W base t → TrAt W base (need t)
  | .nil, h => h
  | .node k ad cp a n o l r, ht => by
    rcases need_cases k ad cp a n o l r with h | ⟨rfl, rfl, h⟩ | ⟨rfl, rfl, h⟩
    · rw [h]; exact ht
    · rw [h]; exact ht.2.2
    · rw [h]; exact ht.2.1
/-- one step back -/
theorem Tab.need {W : World} {base B d : Nat} {fs : List Fr} {e o : Tr} (h : Tab W base B d (fill fs e) o) (hd : ∀ f ∈ fs, f.d = 0 ∨ f.d = 1) : Tab (W.setCell ⟨plB B fs, plO d fs, none⟩ (need e).ptr) base B d (fill fs (need e)) o := by
  obtain ⟨p1, p2, p3, p4, p5⟩ := h.parts
  exact (Tab.put h hd (need_at (trAt_fill hd h.here)) (need_nodup p1) (fun x hx => p4 x (need_blks x hx))).1
end Go.Proofs.Ytlmmnjoincmgcaa

namespace Go.Proofs.Ytlmmnjoincmgcaa
set_option linter.unusedVariables false
set_option linter.unusedSimpArgs false
set_option maxRecDepth 100000
open Go.RowKit Go.Shelf
attribute [local go_sem] Oper.semAt_some
theorem del_miss {w : World} {base B s : Nat} {vs : List Rw} {d : Nat} {t o : Tr} (h : Pick w base B s vs d t o) {q : List UInt8} {m : Nat} (hq : q.length = s) (hm : ∀ z ∈ t.rows, ¬ SameK z q m) : delV vs q m = (vs, false) := by
  refine delV_none fun r hr => ?_
  cases hp : isP r q m with
  | false => rfl
  | true =>
    have hk := (isP_iff r q m).1 hp
    rcases (h.mem r.key).1 (List.mem_map_of_mem hr) with hz | hz
    · exact absurd hk (hm _ hz)
    · exact absurd (by rw [hk.1]; exact hq) (h.other hz)
theorem del_hit {w w' : World} {base B s : Nat} {vs : List Rw} {d : Nat} {t t' o : Tr} (h : Pick w base B s vs d t o) {fs : List Fr} {b cp m : Nat} {ad : Option Addr} {q : List UInt8} {o0 : Int} {l r : Tr} (hq : q.length = s) (hd : ∀ f ∈ fs, f.d = 0 ∨ f.d = 1)
    (hf : fill fs (.node b ad cp q m o0 l r) = t) (ho : o0 ≠ -1) (hw : t'.Wf s) (hr : t'.rows = (fill fs (.node b ad cp q m (-1) l r)).rows) (ht : Tab w' base B d t' o) : (delV vs q m).2 = true ∧ TT w' base B (delV vs q m).1 := by
  refine ⟨(del_was vs q m).2 ⟨(q, (m : Int), o0), (h.mem _).2 (.inl ?_), rfl, rfl⟩, h.back ht hw (del_srt h.srt q m) fun z => ?_⟩
  · rw [← hf]
    exact rows_mem.2 (.inl (by rw [rows_node, List.mem_append, ownR_mem]; exact .inl ⟨rfl, ho⟩))
  · have hwt := h.wf
    rw [← hf] at hwt
    rw [del_mem h.srt q m z, h.mem z, hr, node_rows hd hwt b ad cp (-1) z, hf]
    constructor
    · rintro ⟨hz | hz, hn⟩
      · exact .inl (.inl ⟨hz, hn⟩)
      · exact .inr hz
    · rintro ((⟨hz, hn⟩ | ⟨hz, _⟩) | hz)
      · exact ⟨.inl hz, hn⟩
      · exact absurd rfl hz
      · exact ⟨.inr hz, fun hk => h.other hz (by rw [hk.1]; exact hq)⟩
theorem del_results (W : World) (T : Array Value) (v : Value) (h : T.getD 4 undef = v) : (results Try.f12 T).run Try.prog W = .ok v W := by
  have e4 : T[4]?.getD undef = v := by simpa using h
  simp [results, Try.results12, go_sem, e4]
/-- what holds between the rounds of the way back -/
def DelI (W0 : World) (base B d : Nat) (S : List Nat) (fs : List Fr) (e o : Tr) (pre : List (Ix fs)) (W : World) : Prop :=
  Safe W base B d S ∧ (Chain pre → (pre.length ≤ fs.length → Tab W base B d (fill (fs.drop pre.length) (prTr fs e pre.length)) o) ∧ (pre.length = fs.length + 1 → Tab W base B d (need (prTr fs e fs.length)) o)) ∧ Kp base W0 W
theorem deli_own {W0 : World} {base B d N : Nat} {S : List Nat} {fs : List Fr} {e o : Tr} (hb : base ≤ W0.heap.size) (hN : base ≤ N) : OwnFrom N (DelI W0 base B d S fs e o) := by
  intro s A C row hs hg hr
  have hk : CellsK A C := ck_grown hg fun r e => (hr r e).2
  refine ⟨hs.1.ck hk, fun hc => ⟨fun h => ((hs.2.1 hc).1 h).ck hk, fun h => ((hs.2.1 hc).2 h).ck hk⟩, hs.2.2.ck ?_ hk⟩
  exact (Below.refl _ _).grown hg (Nat.le_trans hb hs.2.2.bel.size) (fun k e => Nat.le_trans hN (hr k e).1)
/-- one round -/
theorem deli_next {W0 W : World} {base B d : Nat} {S : List Nat} {fs : List Fr} {e o : Tr} {pre : List (Ix fs)} {k : Nat} (hk : k ≤ fs.length) (hd : ∀ f ∈ fs, f.d = 0 ∨ f.d = 1) (hd0 : d = 0 ∨ d = 1) (hS : ∀ b ∈ ctxB fs, b ∈ S) {v v' : Value} (h : DelI W0 base B d S fs e o pre W)
    (hc : W.cell? ⟨plB B (fs.drop k), plO d (fs.drop k), none⟩ = some v) (hg : GoodV S v') (hn : NeedV W v v') :
    DelI W0 base B d S fs e o (pre ++ [⟨k, hk⟩]) (W.setCell ⟨plB B (fs.drop k), plO d (fs.drop k), none⟩ v') ∧ Kp base W (W.setCell ⟨plB B (fs.drop k), plO d (fs.drop k), none⟩ v') := by
  obtain ⟨h1, h2, h3⟩ := h
  have hdk : ∀ f ∈ fs.drop k, f.d = 0 ∨ f.d = 1 := fun f hf => hd f (List.mem_of_mem_drop hf)
  have hpl : PlaceOk B d S (plB B (fs.drop k)) (plO d (fs.drop k)) := place_ok hd0 hdk fun b hb => hS b (by
    unfold ctxB at hb ⊢
    obtain ⟨f, hf, hb2⟩ := List.mem_flatMap.1 hb
    exact List.mem_flatMap.2 ⟨f, List.mem_of_mem_drop hf, hb2⟩)
  obtain ⟨_, cur, T, _, _, _, hge, hhp, hT⟩ := h1.get hpl
  have hkp : Kp base W (W.setCell ⟨plB B (fs.drop k), plO d (fs.drop k), none⟩ v') := Kp.set hge hhp hT
  refine ⟨⟨h1.set hpl hg, fun hch => ?_, h3.trans hkp⟩, hkp⟩
  obtain ⟨hch1, hk2⟩ := chain_snoc.1 hch
  simp only at hk2
  have htab := (h2 hch1).1 (by omega)
  rw [← hk2] at htab
  have hv : v = (prTr fs e k).ptr := by
    have := (Tab.at htab hdk).1
    rw [hc] at this
    exact Option.some.inj this
  have hv' := need_v (trAt_fill hdk htab.here) hv hn
  have htn := Tab.need htab hdk
  rw [← hv'] at htn
  have hln : (pre ++ [(⟨k, hk⟩ : Ix fs)]).length = k + 1 := by simp [hk2]
  rw [hln]
  refine ⟨fun h => ?_, fun h => ?_⟩
  · have hlt : k < fs.length := by omega
    have h4 : fs.drop k = fs[k] :: fs.drop (k + 1) := List.drop_eq_getElem_cons hlt
    rw [pr_next fs e k fs[k] (List.getElem?_eq_getElem hlt)]
    have h5 : fill (fs.drop k) (need (prTr fs e k)) = fill (fs.drop (k + 1)) (plug fs[k] (need (prTr fs e k))) := by rw [h4]; rfl
    rw [← h5]
    exact htn
  · obtain rfl : k = fs.length := by omega
    have h4 : fs.drop fs.length = [] := List.drop_length
    have h5 : fill (fs.drop fs.length) (need (prTr fs e fs.length)) = need (prTr fs e fs.length) := by rw [h4]; rfl
    rw [h5] at htn
    exact htn
end Go.Proofs.Ytlmmnjoincmgcaa

namespace Go.Proofs.Ytlmmnjoincmgcaa
set_option linter.unusedVariables false
set_option linter.unusedSimpArgs false
set_option maxRecDepth 100000
open Go.RowKit Go.Shelf
attribute [local go_sem] Oper.semAt_some
theorem good_ptr {S : List Nat} {v : Value} (h : GoodV S v) : ∃ p, v = .pointer p := by
  rcases h with rfl | ⟨b, _, rfl⟩
  · exact ⟨_, rfl⟩
  · exact ⟨_, rfl⟩
theorem pdel_no (v0 : Value) (hv0 : v0 = .pointer none ∨ ∃ B, v0 = .pointer (some ⟨B, 0, none⟩)) (ad : Option Addr) (cp : Nat) (adr : List UInt8) (bits : Int) (w : World) (ha : Bytes w (.slice ad adr.length cp) adr) (hal : adr.length ≤ 40) (hr : rightP adr.length bits = false) :
    Calls Try.prog 12 #[v0, .agg #[.slice ad adr.length cp, .int .i64 bits]] w fun e w' => e = .returned (.bool false) ∧ Below w.heap.size w w' := by
  obtain ⟨w1, hw1⟩ : ∃ w1, w1 = w.alloc (.cells #[.slice ad adr.length cp, .int .i64 bits] 29) := ⟨_, rfl⟩; have h1 : w1.heap[w.heap.size]? = some (.cells #[.slice ad adr.length cp, .int .i64 bits] 29 (0, 0)) := (by rw [hw1]; exact heap_alloc_new w _); have hb1 : Below w.heap.size w w1 := (by rw [hw1]; exact below_one _); have c0 := cell_of h1 0 rfl; have c1 := cell_of h1 1 rfl; have HB1 := Lib.hid hb1; have HA1 := Lib.hid (ha.below hb1)
  have HPL := Lib.hid (fun w h => aplain_no adr ad cp bits w h (by omega) hr)
  clear ha hr h1 hb1
  rcases hv0 with rfl | ⟨B, rfl⟩
  all_goals
    (refine calls_of_wp_marks Try.func12 rfl ?_; simp only [Try.ntmps12, List.size_toArray, List.length_cons, List.length_nil, Nat.reduceAdd, Nat.reduceSub, Array.replicate_succ, Array.replicate_zero, List.push_toArray, List.append_toArray, List.nil_append, List.cons_append])
    go_wp2_with fail
    rw [← hw1]
    clear hw1
    go_wp2_with (first | (go_at_call 20; ((with_reducible refine (HPL.out _ HA1.out).mono ?_); rintro e w2 ⟨rfl, hb⟩; have HB2 := Lib.hid (Below.next HB1.out hb); clear hb)) | fail)
    exact postM_ret (del_results _ _ _ rfl) rfl ⟨rfl, Below.next HB2.out (below_one _)⟩
theorem pdel_nil (ad : Option Addr) (cp : Nat) (adr : List UInt8) (bits : Int) (w : World) (ha : Bytes w (.slice ad adr.length cp) adr) (hal : adr.length ≤ 40) :
    Calls Try.prog 12 #[.pointer none, .agg #[.slice ad adr.length cp, .int .i64 bits]] w fun e w' => e = .returned (.bool false) ∧ Below w.heap.size w w' := by
  cases hr : rightP adr.length bits with
  | false => exact pdel_no _ (.inl rfl) ad cp adr bits w ha hal hr
  | true =>
    obtain ⟨w1, hw1⟩ : ∃ w1, w1 = w.alloc (.cells #[.slice ad adr.length cp, .int .i64 bits] 29) := ⟨_, rfl⟩; have h1 : w1.heap[w.heap.size]? = some (.cells #[.slice ad adr.length cp, .int .i64 bits] 29 (0, 0)) := (by rw [hw1]; exact heap_alloc_new w _); have hb1 : Below w.heap.size w w1 := (by rw [hw1]; exact below_one _); have c0 := cell_of h1 0 rfl; have c1 := cell_of h1 1 rfl; have HB1 := Lib.hid hb1; have HA1 := Lib.hid (ha.below hb1)
    have HPL := Lib.hid (fun w h => aplain_fresh adr ad cp bits w h (by omega) hr)
    clear ha hr h1 hb1
    (refine calls_of_wp_marks Try.func12 rfl ?_; simp only [Try.ntmps12, List.size_toArray, List.length_cons, List.length_nil, Nat.reduceAdd, Nat.reduceSub, Array.replicate_succ, Array.replicate_zero, List.push_toArray, List.append_toArray, List.nil_append, List.cons_append])
    go_wp2_with fail
    rw [← hw1]
    clear hw1
    go_wp2_with (first | (go_at_call 20; ((with_reducible refine (HPL.out _ HA1.out).mono ?_); rintro e w2 ⟨g, gc, rfl, _, _, _, _, _, hb⟩; have HB2 := Lib.hid (Below.next HB1.out hb); clear hb)) | fail)
    exact postM_ret (del_results _ _ _ rfl) rfl ⟨rfl, Below.next HB2.out (below_one _)⟩
set_option maxHeartbeats 4000000 in
theorem pdel_any (base B : Nat) (vs : List Rw) (ad : Option Addr) (cp : Nat) (adr : List UInt8) (bits : Int) (w : World) (h : TT w base B vs) (ha : Bytes w (.slice ad adr.length cp) adr) (hal : adr.length ≤ 40) (hr : rightP adr.length bits = true) :
    Calls Try.prog 12 #[.pointer (some ⟨B, 0, none⟩), .agg #[.slice ad adr.length cp, .int .i64 bits]] w fun e w' => e = .returned (.bool (delV vs (plainS adr bits.toNat) bits).2) ∧ TT w' base B (delV vs (plainS adr bits.toNat) bits).1 ∧ Keeps base w w' := by
  obtain ⟨hs4, hb0, hb8⟩ := right_len hr
  obtain ⟨m, rfl⟩ : ∃ m : Nat, bits = m := ⟨bits.toNat, by omega⟩
  obtain ⟨w1, hw1⟩ : ∃ w1, w1 = w.alloc (.cells #[.slice ad adr.length cp, .int .i64 m] 29) := ⟨_, rfl⟩; have h1 : w1.heap[w.heap.size]? = some (.cells #[.slice ad adr.length cp, .int .i64 m] 29 (0, 0)) := (by rw [hw1]; exact heap_alloc_new w _); have hb1 : Below w.heap.size w w1 := (by rw [hw1]; exact below_one _); have c0 := cell_of h1 0 rfl; have c1 := cell_of h1 1 rfl; have HB1 := Lib.hid hb1; have HA1 := Lib.hid (ha.below hb1)
  have hq : (plainS adr m).length = adr.length := plainS_len _ _
  have hpp : plainS (plainS adr m) m = plainS adr m := plain_plain adr m
  have HPL := Lib.hid (fun w h => aplain_fresh adr ad cp m w h (by omega) hr)
  unfold FreshQ at HPL
  rw [show ((m : Nat) : Int).toNat = m from Int.toNat_natCast m] at HPL ⊢
  generalize plainS adr m = q at *
  obtain ⟨d, t, o, hpk⟩ := h.pick (s := q.length) (by omega)
  have HPK := Lib.hid hpk
  obtain ⟨⟨fs, e⟩, hwy⟩ : ∃ z, z = wayF q m t [] := ⟨_, rfl⟩
  have hon : ∀ f ∈ fs, OnWay q m f := by
    have := way_on q m t [] (fun f hf => by simp at hf)
    rw [← hwy] at this
    exact this
  have hfl : fill fs e = t := by
    have := way_fill q m t []
    rw [← hwy] at this
    exact this
  have hend : Ends q m e := by
    have := way_end q m t []
    rw [← hwy] at this
    exact this
  have hwp : (wayF q m t []).1 = fs := by rw [← hwy]
  have hwf : (fill fs e).Wf q.length := by rw [hfl]; exact hpk.wf
  obtain ⟨hctx, hew, heu⟩ := (wf_fill (on_d hon)).1 hwf
  have hlen := ctx_len hctx hon
  have HWY : Hid (∀ W g gc, Tab W base B d t o → Bytes W (.slice (some ⟨g, 0, none⟩) q.length gc) q → Calls Try.prog 25 #[.pointer (some ⟨B, 0, none⟩), .agg #[.slice (some ⟨g, 0, none⟩) q.length gc, .int .i64 m]] W (WayRet W (places B d fs))) := Lib.hid (fun W g gc h1 h2 => by
    have := way_any base B d q.length t o q m (some ⟨g, 0, none⟩) gc W h1 hpk.wf hpk.ds h2 rfl (by omega)
    rw [hwp] at this
    exact this)
  have HFL := Lib.hid hfl
  have HON := Lib.hid (on_d hon)
  have HTB : Hid (∀ W, Below w.heap.size w W → Tab W base B d (fill fs e) o) := Lib.hid (fun W hb => by rw [hfl]; exact hpk.tab.below hb)
  have HMISS : Hid ((∀ b nad ncp o l r, e = .node b nad ncp q m o l r → o = -1) → delV vs q m = (vs, false)) := Lib.hid (fun hm => del_miss hpk rfl (by rw [← hfl]; exact miss_rows hon hend hwf hm))
  have HFIN : Hid (∀ w', Below w.heap.size w w' → TT w' base B vs ∧ Keeps base w w') := Lib.hid (fun w' hb => ⟨h.below hb, (Kp.below hb h.size).keeps⟩)
  have HHIT : Hid (∀ b nad ncp o0 l r, e = .node b nad ncp q m o0 l r → o0 ≠ -1 → ∀ w' t', t'.Wf q.length → t'.rows = (fill fs (.node b nad ncp q m (-1) l r)).rows → Tab w' base B d t' o → (delV vs q m).2 = true ∧ TT w' base B (delV vs q m).1) := Lib.hid (fun b nad ncp o0 l r he ho w' t' hw hr ht => del_hit hpk rfl (on_d hon) (by rw [← he]; exact hfl) ho hw hr ht)
  have HWN : Hid (∀ b nad ncp o0 l r, e = .node b nad ncp q m o0 l r → (fill fs (.node b nad ncp q m (-1) l r)).Wf q.length) := Lib.hid (fun b nad ncp o0 l r he => wf_own (on_d hon) (by rw [← he]; exact hwf) (.inl rfl))
  generalize delV vs q m = D at *
  obtain ⟨pl, hpl⟩ : ∃ pl, (places B d fs).length = pl := ⟨_, rfl⟩
  have hpl2 : pl = fs.length + 1 := by rw [← hpl]; exact places_len B d fs
  have hpw : IntKind.i64.wrap ((pl : Int) - 1) = (fs.length : Int) := by rw [wrap_s64 _ (by omega) (by omega)]; omega
  have hpw2 : wrap64 (fs.length : Int) = (fs.length : Int) := by unfold wrap64; omega
  have hpi : (fs.length : Int) < pl := by omega
  have hp0 : (0 : Int) ≤ fs.length := by omega
  have HLN : Hid (fs.length ≤ 200) := Lib.hid (by omega)
  unfold WayRet at HWY
  rw [hpl] at HWY
  obtain ⟨pe, hpe⟩ : ∃ pe, pe = e.ptr := ⟨_, rfl⟩
  have HPE := Lib.hid hpe
  have HQL : Hid ((q.length = 4 ∨ q.length = 16) ∧ m ≤ 8 * q.length) := Lib.hid (by omega)
  clear h ha hr h1 hb1 hq hb0 hb8 hwy hwp hpe hpl
  (refine calls_of_wp_marks Try.func12 rfl ?_; simp only [Try.ntmps12, List.size_toArray, List.length_cons, List.length_nil, Nat.reduceAdd, Nat.reduceSub, Array.replicate_succ, Array.replicate_zero, List.push_toArray, List.append_toArray, List.nil_append, List.cons_append])
  go_wp2_with fail
  rw [← hw1]
  clear hw1
  go_wp2_with (first | (go_at_call 20; ((with_reducible refine (HPL.out _ HA1.out).mono ?_); rintro e2 w2 ⟨g, gc, rfl, _, hby, hty, hc1, hc2, hb⟩; have HB2 := Lib.hid (Below.next HB1.out hb); have HBY := Lib.hid hby; clear hb hby hty hc1 hc2)) | (go_at_call 25; ((with_reducible refine (HWY.out (w2.alloc (.cells #[.slice (some ⟨g, 0, none⟩) q.length gc, .int .i64 m] 29)) g gc (HPK.out.tab.below (Below.next HB2.out (below_one _))) (HBY.out.below (below_one _))).mono ?_); rintro e3 w5 ⟨g5, gc5, rfl, hg1, hg2, hg3, hptr, hb5⟩; have hlast := ptrs_cell hptr (places_back B d fs 0 (Nat.zero_le _)); simp only [Nat.sub_zero, List.drop_zero] at hlast; have HPT := Lib.hid hptr; have HB5 := Lib.hid (Below.next (Below.next HB2.out (below_one (.cells #[.slice (some ⟨g, 0, none⟩) q.length gc, .int .i64 m] 29))) hb5); have HX5 := Lib.hid ((hb5.block _ (by simp)).trans (heap_alloc_new w2 (.cells #[.slice (some ⟨g, 0, none⟩) q.length gc, .int .i64 m] 29))); have HBY5 := Lib.hid ((HBY.out.below (below_one _)).below hb5); have HT5 := Lib.hid (HTB.out _ HB5.out); have hat := (Tab.at HT5.out HON.out).1; rw [← HPE.out] at hat; have x0 := cell_of HX5.out 0 rfl; have x1 := cell_of HX5.out 1 rfl; clear hb5 hptr hg1 hg2 hg3)) | fail)
  have HPT2 : Hid (∀ W, Below w5.heap.size w5 W → PtrsAt W g5 (places B d fs)) := Lib.hid (fun W hb => HPT.out.below hb)
  clear hlast hpw hpw2 hpi hp0
  cases e with
  | nil =>
    obtain rfl : pe = .pointer none := HPE.out
    obtain rfl := HMISS.out (fun _ _ _ _ _ _ h => by cases h)
    clear hat
    go_wp2_with fail
    refine wp_region_still_tail 15 (by kernel_rfl) (by kernel_rfl) ?_
    simp only [List.take_succ_cons, List.take_zero, List.drop_succ_cons, List.drop_zero]
    iterate 3 (with_reducible refine wpStill_go (by kernel_rfl) (fun K hK => ?_); go_simp; refine hK _ ?_; clear hK K)
    iterate 5 (with_reducible refine wpStill_no (by kernel_rfl) ?_; try simp only [Act.put, List.setIfInBounds_toArray, List.set_cons_zero, List.set_cons_succ])
    iterate 2 (with_reducible refine wpStill_go (by kernel_rfl) (fun K hK => ?_); go_simp; refine hK _ ?_; clear hK K)
    iterate 5 (with_reducible refine wpStill_no (by kernel_rfl) ?_; try simp only [Act.put, List.setIfInBounds_toArray, List.set_cons_zero, List.set_cons_succ])
    refine wpStill_nil ?_
    change wpList _ _ _ _ _ w5.drew
    go_wp2_with fail
    exact postM_ret (del_results _ _ _ rfl) rfl ⟨rfl, HFIN.out _ (Below.drew HB5.out)⟩
  | node b nad ncp a n1 o1 l r =>
    obtain rfl : pe = .pointer (some ⟨b, 0, none⟩) := HPE.out
    have hnd := trAt_fill HON.out HT5.out.here
    have hal2 : a.length = q.length := hew.1.1
    have hn8 : n1 ≤ 8 * q.length := hew.1.2.1
    have hap : plainS a n1 = a := hew.1.2.2.1
    have n0 := cell_of hnd.1.2.1 0 rfl
    have n2 := cell_of hnd.1.2.1 1 rfl
    have n3 := cell_of hnd.1.2.1 2 rfl
    have HN := Lib.hid hnd.1.2.1
    clear hat
    by_cases ho : o1 = -1
    · obtain rfl := HMISS.out (fun _ _ _ _ _ _ h => by injection h with _ _ _ _ _ h2 _ _; rw [← h2]; exact ho)
      have ho1 : (o1 == -1) = true := beq_i ho
      clear hnd hal2 hn8 hap ho
      go_wp2_with fail
      refine wp_region_still_tail 15 (by kernel_rfl) (by kernel_rfl) ?_
      simp only [List.take_succ_cons, List.take_zero, List.drop_succ_cons, List.drop_zero]
      iterate 10 (with_reducible refine wpStill_go (by kernel_rfl) (fun K hK => ?_); go_simp; refine hK _ ?_; clear hK K)
      iterate 5 (with_reducible refine wpStill_no (by kernel_rfl) ?_; try simp only [Act.put, List.setIfInBounds_toArray, List.set_cons_zero, List.set_cons_succ])
      refine wpStill_nil ?_
      change wpList _ _ _ _ _ w5.drew
      go_wp2_with fail
      exact postM_ret (del_results _ _ _ rfl) rfl ⟨rfl, HFIN.out _ (Below.drew HB5.out)⟩
    · have ho1 : (o1 == -1) = false := beqf ho
      have hql := HQL.out
      have hra : rightP a.length n1 = true := rightP_nat.2 ⟨by omega, by omega⟩
      have hrq : rightP q.length m = true := rightP_nat.2 ⟨by omega, by omega⟩
      have hwi := withinP_iff (a := q) (b := a) (m := m) (n := n1) hal2.symm hrq hra
      obtain ⟨x, hx⟩ : ∃ x, withinP q m a n1 = x := ⟨_, rfl⟩
      have HQ6 : Hid (Bytes w5.drew (.slice (some ⟨g, 0, none⟩) q.length gc) q) := Lib.hid (HBY5.out.below (Below.drew (Below.refl _ _)))
      have HA6 : Hid (Bytes w5.drew (.slice nad a.length ncp) a) := Lib.hid (hnd.1.2.2.1.below (Below.drew (Below.refl _ _)))
      have HWI : Hid (∀ w, Bytes w (.slice (some ⟨g, 0, none⟩) q.length gc) q → Bytes w (.slice nad a.length ncp) a → Calls Try.prog 26 #[.agg #[.slice (some ⟨g, 0, none⟩) q.length gc, .int .i64 m], .agg #[.slice nad a.length ncp, .int .i64 n1]] w (RightRet w x)) := Lib.hid (fun w h1 h2 => by rw [← hx]; exact awithin_all q a (some ⟨g, 0, none⟩) nad gc ncp m n1 w h1 h2 (by omega) (by omega))
      have hcase : (x = false ∧ D = (vs, false)) ∨ (x = true ∧ a = q ∧ n1 = m) := by
        cases x with
        | false =>
          left
          refine ⟨rfl, HMISS.out fun _ _ _ _ _ _ h => ?_⟩
          injection h with _ _ _ h2 h3 _ _ _
          subst h2; subst h3
          rw [hwi.2 ⟨Nat.le_refl _, Agr.refl _ _⟩] at hx
          cases hx
        | true =>
          right
          have h2 := hwi.1 hx
          exact ⟨rfl, ends_is hend h2.1 h2.2 hpp hap hal2.symm⟩
      clear hwi hra hrq hx hnd hal2 hn8 hap hql
      rcases hcase with ⟨rfl, rfl⟩ | ⟨rfl, he1, he2⟩
      · clear ho
        go_wp2_with fail
        refine wp_region_still_tail 15 (by kernel_rfl) (by kernel_rfl) ?_
        simp only [List.take_succ_cons, List.take_zero, List.drop_succ_cons, List.drop_zero]
        iterate 15 (with_reducible refine wpStill_go (by kernel_rfl) (fun K hK => ?_); go_simp; refine hK _ ?_; clear hK K)
        refine wpStill_nil ?_
        change wpList _ _ _ _ _ w5.drew
        go_wp2_with (first | (go_at_call 26; ((with_reducible refine (HWI.out _ HQ6.out HA6.out).mono ?_); rintro e4 w6 ⟨rfl, hb6⟩; have HB6 := Lib.hid hb6; have hn6 := (hb6.block b (heap_lt (w := w5.drew) HN.out)).trans HN.out; have n3 := cell_of hn6 2 rfl; have nf := free_of hn6 2; have HN6 := Lib.hid hn6; clear hb6 hn6)) | fail)
        exact postM_ret (del_results _ _ _ rfl) rfl ⟨rfl, HFIN.out _ (Below.next (Below.drew HB5.out) HB6.out)⟩
      · have hwn := HWN.out b nad ncp o1 l r (by rw [he1, he2])
        have HHIT2 := Lib.hid (fun w' t' h1 h2 h3 => HHIT.out b nad ncp o1 l r (by rw [he1, he2]) ho w' t' h1 h2 h3)
        have HWN2 := Lib.hid hwn
        have HE1 := Lib.hid he1
        have HE2 := Lib.hid he2
        clear hwn ho
        go_wp2_with fail
        refine wp_region_still_tail 15 (by kernel_rfl) (by kernel_rfl) ?_
        simp only [List.take_succ_cons, List.take_zero, List.drop_succ_cons, List.drop_zero]
        clear he1 he2
        iterate 15 (with_reducible refine wpStill_go (by kernel_rfl) (fun K hK => ?_); go_simp; refine hK _ ?_; clear hK K)
        refine wpStill_nil ?_
        change wpList _ _ _ _ _ w5.drew
        go_wp2_with (first | (go_at_call 26; ((with_reducible refine (HWI.out _ HQ6.out HA6.out).mono ?_); rintro e4 w6 ⟨rfl, hb6⟩; have HB6 := Lib.hid hb6; have hn6 := (hb6.block b (heap_lt (w := w5.drew) HN.out)).trans HN.out; have n3 := cell_of hn6 2 rfl; have nf := free_of hn6 2; have HN6 := Lib.hid hn6; clear hb6 hn6)) | (go_at_call 27; ((with_reducible refine (back_any _ _ _ _).mono ?_); rintro e5 w8 ⟨rfl, rfl⟩)) | fail)
        have hT6 := HT5.out.below (Below.next (Below.drew (Below.refl _ _)) HB6.out)
        have hown := Tab.own hT6 HON.out (-1)
        have hk07 : Kp base w (w6.setCell ⟨b, 2, none⟩ (.int .i64 (-1))) := (Kp.below (Below.next (Below.drew HB5.out) HB6.out) HPK.out.tab.size).trans hown.2
        have hpt6 := (HPT.out.below (Below.next (Below.drew (Below.refl _ _)) HB6.out)).kp hown.2
        have hs76 : (w6.setCell ⟨b, 2, none⟩ (.int .i64 (-1))).heap.size = w6.heap.size := by simp
        generalize w6.setCell ⟨b, 2, none⟩ (.int .i64 (-1)) = w7 at *
        obtain ⟨hT7, _⟩ := hown
        obtain ⟨e', he'⟩ : ∃ e', e' = Tr.node b nad ncp a n1 (-1) l r := ⟨_, rfl⟩
        rw [← he'] at hT7
        have eB := heap_alloc_new w7 (.cells #[.slice (some ⟨g5, 0, none⟩) (fs.length + 1) gc5] 64)
        have hb8 := below_one (w := w7) (.cells #[.slice (some ⟨g5, 0, none⟩) (fs.length + 1) gc5] 64)
        obtain ⟨W0, hW0⟩ : ∃ W0, w7.alloc (.cells #[.slice (some ⟨g5, 0, none⟩) (fs.length + 1) gc5] 64) = W0 := ⟨_, rfl⟩
        have hs8 : W0.heap.size = w7.heap.size + 1 := by rw [← hW0]; simp
        rw [hW0] at eB hb8 ⊢
        clear hW0
        rw [hs76] at eB hs8
        have hT0 := hT7.below hb8
        have hpt0 := hpt6.below hb8
        have hk0 : Kp base w W0 := hk07.next hb8 hT7.size
        have hg0 : g5 < W0.heap.size := by obtain ⟨cur, hc, _⟩ := hpt0; exact heap_lt hc
        have hI0 : DelI W0 base B d (fill fs e').blks fs e' o [] W0 := ⟨hT0.safe, fun _ => ⟨fun _ => by show Tab W0 base B d (fill (fs.drop 0) (prTr fs e' 0)) o; rw [pr_zero]; exact hT0, fun h => by simp at h⟩, Kp.refl _ _⟩
        have HSUB : Hid (∀ x ∈ ctxB fs, x ∈ (fill fs e').blks) := Lib.hid (fun x hx => (blks_fill fs e').mem_iff.2 (List.mem_append_right _ hx))
        have HBS : Hid (base ≤ W0.heap.size) := Lib.hid hT0.size
        have HD01 : Hid (d = 0 ∨ d = 1) := Lib.hid hT0.d01
        have HK : Hid _ := Lib.hid (back_stops Fence.wide (9 - 1) (openF_wide _) rfl (by decide) w6.heap.size g5 gc5 B d fs (by have := HLN.out; omega) W0 eB hpt0)
        have HBA : Hid (w6.heap.size < W0.heap.size) := Lib.hid (by omega)
        have HG0 := Lib.hid hg0
        have HEB := Lib.hid eB
        have HPW := Lib.hid hpt0
        have HK0 := Lib.hid hk0
        have HE' := Lib.hid he'
        clear hs76 hT6 hk07 hpt6 hT7 eB hb8 hs8 hT0 hpt0 hk0 hg0 he' n0 n2 n3 nf x0 x1
        refine wpIn_wide.1 (wpIn_rangeFunc_ownG (n := 9) rfl (by decide) (gf := 42) (lb := #[.pointer (some ⟨w6.heap.size, 0, none⟩)]) rfl trivial (enters_of Try.func42 (by kernel_rfl) rfl)
          HK.out kq_t (kq_b HBA.out HG0.out) (Below.refl _ _) (fun _ => rfl)
          (DelI W0 base B d (fill fs e').blks fs e' o) (fun _ _ _ => False) (deli_own HBS.out HBS.out) (fun _ _ _ _ _ h _ _ => h.elim) hI0 ?a1 ?assign ?body ?done ?stop)
        case assign =>
          intro lx x W K hK
          gi_wp2
          exact hK
        case body =>
          rintro lx pre ⟨k, hk⟩ W hI hpre
          have hdk : ∀ f ∈ fs.drop k, f.d = 0 ∨ f.d = 1 := fun f hf => HON.out f (List.mem_of_mem_drop hf)
          have hpl : PlaceOk B d (fill fs e').blks (plB B (fs.drop k)) (plO d (fs.drop k)) := place_ok HD01.out hdk fun x hx => HSUB.out x (by
            unfold ctxB at hx ⊢
            obtain ⟨f, hf, hx2⟩ := List.mem_flatMap.1 hx
            exact List.mem_flatMap.2 ⟨f, List.mem_of_mem_drop hf, hx2⟩)
          obtain ⟨v, cur, T, hgv, hcell, hfrz, _, _, _⟩ := hI.1.get hpl
          have HNG : Hid (CallsIn (Fence.wide.inRound lx) (9 - 1 - 1 - 1) Try.prog 28 #[v] W fun x w' => ∃ v', x = .returned v' ∧ (GoodV (fill fs e').blks v' ∧ NeedV W v v') ∧ w' = W) := Lib.hid (CallsIn.inRound lx (callsIn_wide.2 (needed_good base B d _ v W hI.1 hgv)))
          have HII := Lib.hid hI
          have HC := Lib.hid hcell
          clear hI hdk hpl hgv hpre
          gi_wp2_with (refine ⟨trivial, ?_⟩; gi_at_call 28; (with_reducible refine HNG.out.mono ?_); rintro e9 w9 ⟨v', rfl, hgn, rfl⟩; obtain ⟨p9, rfl⟩ := good_ptr hgn.1; have HGN := Lib.hid hgn; clear hgn)
          have hnx := deli_next hk HON.out HD01.out HSUB.out HII.out HC.out HGN.out.1 HGN.out.2
          have hk2 := HII.out.2.2
          have hba := hk2.blk _ _ _ _ HEB.out (by decide) (by decide)
          obtain ⟨cg, hcg, _⟩ := HPW.out
          have hgg := hk2.blk _ _ _ _ hcg (by decide) (by decide)
          exact ⟨(KeepsOthers.setCell _ _ _).from _, kq_kp hnx.2 hba hgg (by decide) (by decide) (by decide) (by decide), hnx.1⟩
        case done =>
          rintro D9 ys W hD9 ⟨hch, hln⟩ hI hK9
          have hck : CellsK W (W.putObj D9 (.deferred none)) := ck_grown (grownBy_putObj' W D9 (.deferred none)) (fun r e => by cases e; exact ⟨_, hK9, rfl⟩)
          have hbl : Below base W (W.putObj D9 (.deferred none)) := mark_below (Below.refl _ _) (Nat.le_trans HBS.out hD9) hK9
          have htab := ((hI.2.1 hch).2 hln).ck hck
          have hkk := (HK0.out.trans hI.2.2).ck hbl hck
          have hwn2 : (fill fs e').Wf q.length := by rw [HE'.out, HE1.out, HE2.out]; exact HWN2.out
          have hwl := pr_wf fs e' fs.length HON.out (Nat.le_refl _) hwn2
          have hrl := pr_rows fs e' fs.length (Nat.le_refl _)
          rw [show fs.drop fs.length = [] from List.drop_length] at hwl hrl
          have hres := HHIT2.out _ _ (need_wf hwl) ((need_rows _).trans (hrl.trans (by rw [HE'.out, HE1.out, HE2.out]))) htab
          obtain ⟨D1, D2⟩ := D
          obtain ⟨rfl, htt⟩ := hres
          have HTT := Lib.hid htt
          have HKK := Lib.hid hkk
          clear hI hck hbl htab hkk hwn2 hwl hrl htt hch hln
          go_wp2_with fail
          exact postM_mark hK9 rfl (del_results _ _ _ rfl) ⟨rfl, HTT.out, HKK.out.keeps⟩
        case stop =>
          rintro D9 c pre W hD9 hsp h _
          exact h.elim
end Go.Proofs.Ytlmmnjoincmgcaa

namespace Go.Proofs.Ytlmmnjoincmgcaa
set_option linter.unusedVariables false
set_option linter.unusedSimpArgs false
set_option maxRecDepth 100000
open Go.RowKit Go.Shelf
theorem keep_farP {a c : World} {k : Nat} {o : Obj} {row : Option Nat} (h : a.heap[k]? = some o) (hg : a.grownBy c row) (hrow : some k ≠ row) : c.heap[k]? = some o :=
  (hg.block k (heap_lt h) hrow).trans h
theorem own_neP {w : World} {B b : Nat} {e : TypeId} {size : Nat} {v : Value} {n : Nat} {xs : List Value} (h : w.ownsRow B e size v n xs) (hb : b < B) : some b ≠ v.ownBlock := by
  intro e
  have := h.lt b e.symm
  omega
theorem own_typP {w : World} {B j : Nat} {e : TypeId} {size : Nat} {v : Value} {n : Nat} {xs : List Value} (h : w.ownsRow B e size v n xs) (hj : v.ownBlock = some j) : ∃ cur, w.heap[j]? = some (.cells cur e (0, 0)) := by
  rcases h.2 with ⟨rfl, _⟩ | ⟨g, c, cur, rfl, _, hg, _⟩
  · cases hj
  · cases hj; exact ⟨cur, hg⟩
theorem bytes_heap {w w' : World} {a : Option Addr} {n cp : Nat} {l : List UInt8} (h : Bytes w (.slice a n cp) l) (he : ∀ b off x, a = some ⟨b, off, x⟩ → w'.heap[b]? = w.heap[b]?) : Bytes w' (.slice a n cp) l := by
  obtain ⟨a2, cp2, e, h2⟩ := h
  refine ⟨a2, cp2, e, h2.imp id ?_⟩
  rintro ⟨b, off, rfl, hc⟩
  injection e with e1
  exact ⟨b, off, rfl, fun i hi => (World.cell?_of_block (he b off none e1)).trans (hc i hi)⟩
theorem typ_heap {w w' : World} {a : Option Addr} {t : TypeId} (h : TypAt w a t) (he : ∀ b off x, a = some ⟨b, off, x⟩ → w'.heap[b]? = w.heap[b]?) : TypAt w' a t := by
  intro b off x e
  obtain ⟨cur, fz, hc⟩ := h b off x e
  exact ⟨cur, fz, (he b off x e).trans hc⟩
/-- addresses stay where a row of another type grows -/
theorem adr_grown {w w' : World} {rs : List Rw} {v : Value} {B n size : Nat} {e : TypeId} {xs : List Value} (h : AdrOk w rs) (ho : w.ownsRow B e size v n xs) (he : e ≠ 5) (hg : w.grownBy w' v.ownBlock) : AdrOk w' rs := by
  intro r hr
  have key : ∀ b off x, r.ad = some ⟨b, off, x⟩ → w'.heap[b]? = w.heap[b]? := by
    intro b off x e2
    obtain ⟨cur, fz, hc⟩ := (h r hr).2 b off x e2
    refine hg.block b (heap_lt hc) fun e3 => ?_
    obtain ⟨cur2, hc2⟩ := own_typP ho e3.symm
    rw [hc] at hc2
    injection hc2 with hc2
    injection hc2 with _ h4 _
    exact he h4.symm
  exact ⟨bytes_heap (h r hr).1 key, typ_heap (h r hr).2 key⟩
theorem adr_set {w : World} {rs : List Rw} {b i : Nat} {v : Value} {cur : Array Value} {T : TypeId} {fz : Nat × Nat} (h : AdrOk w rs) (hb : w.heap[b]? = some (.cells cur T fz)) (hT : T ≠ 5) : AdrOk (w.setCell ⟨b, i, none⟩ v) rs := by
  intro r hr
  have key : ∀ k off x, r.ad = some ⟨k, off, x⟩ → (w.setCell ⟨b, i, none⟩ v).heap[k]? = w.heap[k]? := by
    intro k off x e2
    obtain ⟨cur2, fz2, hc⟩ := (h r hr).2 k off x e2
    refine heap_other fun e3 => ?_
    subst e3
    rw [hc] at hb
    injection hb with hb
    injection hb with _ h4 _
    exact hT h4.symm
  exact ⟨bytes_heap (h r hr).1 key, typ_heap (h r hr).2 key⟩
/-- a list in a variable in block cB: rows of any size -/
def ListJ (tl te : TypeId) (size : Nat) (enc : List Rw → List Value) (w : World) (n0 cB : Nat) (rs : List Rw) (W : World) (v : Value) : Prop :=
  W.heap[cB]? = some (.cells #[v] tl (0, 0)) ∧ W.ownsRow (cB + 1) te size v rs.length (enc rs) ∧ AdrOk W rs ∧ Below n0 w W ∧ n0 ≤ cB
theorem listj_drew {tl te : TypeId} {size : Nat} {enc : List Rw → List Value} {w : World} {n0 cB : Nat} {rs : List Rw} {W : World} {v : Value} (h : ListJ tl te size enc w n0 cB rs W v) : ListJ tl te size enc w n0 cB rs W.drew v :=
  ⟨h.1, h.2.1.drew, h.2.2.1.below (Below.drew (Below.refl _ _)), Below.drew h.2.2.2.1, h.2.2.2.2⟩
/-- one more -/
theorem listj_app {tl te : TypeId} {size : Nat} {enc : List Rw → List Value} {w : World} {n0 cB : Nat} {rs : List Rw} {W w3 w4 : World} {v : Value} {g c : Nat} {o : Obj} {r : Rw} (h : ListJ tl te size enc w n0 cB rs W v) (hn : n0 ≤ W.heap.size) (hb : Below W.heap.size W w3)
    (h1 : te ≠ 5) (h2 : tl ≠ 5) (hr : Bytes w3 r.sl r.adr) (hrt : TypAt w3 r.ad 5) (ho3 : w3.ownsRow (cB + 1) te size v rs.length (enc rs))
    (hown : w4.ownsRow (cB + 1) te size (.slice (some ⟨g, 0, none⟩) (rs.length + 1) c) (rs.length + 1) (enc (rs ++ [r]))) (hg : (w3.alloc o).grownBy w4 v.ownBlock) :
    ListJ tl te size enc w n0 cB (rs ++ [r]) (w4.setCell ⟨cB, 0, none⟩ (.slice (some ⟨g, 0, none⟩) (rs.length + 1) c)) (.slice (some ⟨g, 0, none⟩) (rs.length + 1) c) := by
  obtain ⟨j1, j2, j3, j4, j5⟩ := h
  have hlt := heap_lt j1
  have hne : some cB ≠ v.ownBlock := own_neP j2 (by omega)
  have e1 : (w3.alloc o).heap[cB]? = some (.cells #[v] tl (0, 0)) := ((below_one o).block _ (by have := hb.size; omega)).trans ((hb.block _ hlt).trans j1)
  have e2 := keep_farP e1 hg hne
  have hge : cB + 1 ≤ g := (hown.lt g rfl).1
  have ho3a : (w3.alloc o).ownsRow (cB + 1) te size v rs.length (enc rs) := ho3.alloc _
  have hadr : AdrOk (w3.alloc o) (rs ++ [r]) := by
    intro x hx
    rcases List.mem_append.1 hx with hx | hx
    · exact ((j3.below hb).below (below_one o)) x hx
    · rw [List.mem_singleton.1 hx]
      exact ⟨hr.below (below_one o), hrt.below (below_one o)⟩
  have b1 : Below n0 w (w3.alloc o) := (j4.trans (hb.mono hn)).trans ((below_one o).mono (by have := hb.size; omega))
  have b2 : Below n0 w w4 := b1.grown hg (by have := hb.size; simp; omega) (fun k hk => by have := j2.lt k hk; omega)
  refine ⟨set_block (i := 0) (v := .slice (some ⟨g, 0, none⟩) (rs.length + 1) c) e2, ?_, adr_set (adr_grown hadr ho3a h1 hg) e2 h2, b2.setCell (by simpa using j5) _, j5⟩
  rw [List.length_append, List.length_singleton]
  exact hown.kept ⟨rfl, rfl, rfl, by simp, fun k _ hk => heap_other (fun e => hk (by rw [e]))⟩ (.inr (by
    show some g ≠ some cB
    intro e; cases e; omega))
theorem Try.infoRowP : (Try.prog.info? 72).map (fun i => (i.zero, i.size, i.bytes)) = some (some (.agg #[.slice none 0 0, .int .i64 0, .int .i64 0]), 3, 40) := by kernel_rfl
theorem Try.infoPfx : (Try.prog.info? 29).map (fun i => (i.zero, i.size, i.bytes)) = some (some (.agg #[.slice none 0 0, .int .i64 0]), 2, 32) := by kernel_rfl
def RowsJ (w : World) (n0 cB : Nat) (L : List Ky) (W : World) : Prop := ∃ rs v, rs.map Rw.key = L ∧ ListJ 46 72 3 cellsR w n0 cB rs W v ∧ n0 ≤ W.heap.size
set_option maxHeartbeats 8000000 in
theorem rowsf_any (w : World) (n0 cB : Nat) (L : List Ky) (ad : Option Addr) (cp : Nat) (a : List UInt8) (n o : Int) (W : World) (h : RowsJ w n0 cB L W) (ha : Bytes W (.slice ad a.length cp) a) (ha0 : 0 < a.length) (hal : a.length ≤ 100) (hL : L.length ≤ 1000) :
    Calls Try.prog 33 #[.agg #[.slice ad a.length cp, .int .i64 n], .int .i64 o, .pointer (some ⟨cB, 0, none⟩)] W fun e W' => (∃ v, e = .returned v) ∧ RowsJ w n0 cB (L ++ [(a, n, o)]) W' := by
  obtain ⟨rs, v, hrs, hj, hn0⟩ := h
  obtain ⟨i0, hi0, hz0, hz1, hz2⟩ := info_parts Try.infoRowP
  obtain ⟨w1, hw1⟩ : ∃ w1, w1 = W.alloc (.cells #[.slice ad a.length cp, .int .i64 n] 29) := ⟨_, rfl⟩
  have h1 : w1.heap[W.heap.size]? = some (.cells #[.slice ad a.length cp, .int .i64 n] 29 (0, 0)) := by rw [hw1]; exact heap_alloc_new W _
  have hb1 : Below W.heap.size W w1 := by rw [hw1]; exact below_one _
  have c0 := cell_of h1 0 rfl
  have c1 := cell_of h1 1 rfl
  have hx1 := (hb1.block _ (heap_lt hj.1)).trans hj.1
  have d0 : w1.cell? ⟨cB, 0, none⟩ = some v := cell_of hx1 0 rfl
  have HB1 := Lib.hid hb1
  have HP1 : Hid (w1.heap[cB]? = some (.cells #[v] 46 (0, 0)) ∧ w1.ownsRow (cB + 1) 72 3 v rs.length (cellsR rs)) := Lib.hid ⟨hx1, own_belowP hj.2.1 hb1⟩
  have HAD : Hid (Bytes w1.drew (.slice ad a.length cp) a) := Lib.hid (ha.below (Below.drew hb1))
  have HOW : Hid (∀ W, Bytes W (.slice ad a.length cp) a → Calls Try.prog 34 #[.agg #[.slice ad a.length cp, .int .i64 n]] W (FreshP W a n)) := Lib.hid (fun W h => own_any a ad cp n W h ha0 (by omega))
  have HLN : Hid (rs.length ≤ 1000) := Lib.hid (by have : (rs.map Rw.key).length = L.length := by rw [hrs]
                                                   rw [List.length_map] at this; omega)
  have HJ := Lib.hid hj
  have HRS := Lib.hid hrs
  have HN0 := Lib.hid hn0
  clear h1 hb1 hx1 hj hrs hn0 ha
  go_enter Try.func33, Try.ntmps33
  go_wp2_with fail
  rw [← hw1]
  clear hw1
  go_wp2_with fail
  go_region_law (first | (refine step_append_lies _ (by rfl) _ _ _ (by rfl) (cB + 1) 72 i0 _ 3 40 Try.underlying46 hi0 hz0 hz1 hz2 rfl (by omega) v rs.length (cellsR rs) (by rfl) (HO3.out.alloc _) ⟨w3.heap.size, 0, none⟩ 1 1 [.slice (some ⟨g, 0, none⟩) a.length c, .int .i64 n, .int .i64 o] (by rfl) (by rfl) (World.news_of_block (cs := #[.slice (some ⟨g, 0, none⟩) a.length c, .int .i64 n, .int .i64 o]) (t := 72) (fr := (0, 0)) (heap_alloc_new w3 _)) (by simp [Value.oneCell']) (by omega) (by have := HLN.out; unfold maxLen; omega) (by have := HLN.out; omega) (by have := heap_lt HX3.out; simp; omega) (w3.heap.size + 1) (by simp) ?_; intro g4 cp4 w4 hown4 hgrow4 hat4 hlt4; have hx4 := keep_farP (((below_one (w := w3) (.cells #[.slice (some ⟨g, 0, none⟩) a.length c, .int .i64 n, .int .i64 o] 72)).block _ (heap_lt HX3.out)).trans HX3.out) hgrow4 (own_neP HO3.out (by omega)); have c4 : w4.cell? ⟨cB, 0, none⟩ = some v := cell_of hx4 0 rfl; have g4f := free_of hx4 0; clear hx4) | (go_simp; ((with_reducible refine (HOW.out _ HAD.out).mono ?_); rintro e w3 ⟨g, c, rfl, hg, hby, hty, hc1, hc2, hb3⟩; have hx3 := (hb3.block _ (heap_lt (w := w1.drew) HP1.out.1)).trans HP1.out.1; have HX3 := Lib.hid hx3; have HB3 : Hid (Below W.heap.size W w3) := Lib.hid (Below.next (Below.drew HB1.out) hb3); have c3 : w3.cell? ⟨cB, 0, none⟩ = some v := cell_of hx3 0 rfl; have c3a : ∀ o, (w3.alloc o).cell? ⟨cB, 0, none⟩ = some v := fun o => cell_of (((below_one o).block _ (heap_lt hx3)).trans hx3) 0 rfl; have HO3 := Lib.hid (own_belowP HP1.out.2.drew hb3); have HBY := Lib.hid hby; have HTY := Lib.hid hty; clear hb3 hx3 hg hby hty hc1 hc2)))
  all_goals
    have hap := listj_app (r := ⟨some ⟨g, 0, none⟩, c, a, n, o⟩) HJ.out HN0.out HB3.out (by decide) (by decide) HBY.out HTY.out HO3.out (by rw [cellsR_app]; exact hown4) hgrow4
    have HAP := Lib.hid hap
    have HS4 : Hid (n0 ≤ w4.heap.size) := Lib.hid (by have := hgrow4.size; have := HB3.out.size; have := HN0.out; simp at *; omega)
    clear hap hown4 hgrow4 hi0 hz0 hz1 hz2
    go_wp2_with fail
    go_end0
    exact ⟨⟨_, rfl⟩, _, _, by rw [List.map_append, HRS.out]; rfl, HAP.out, by simpa using HS4.out⟩
end Go.Proofs.Ytlmmnjoincmgcaa

namespace Go.Proofs.Ytlmmnjoincmgcaa
set_option linter.unusedVariables false
set_option linter.unusedSimpArgs false
set_option maxRecDepth 100000
open Go.RowKit Go.Shelf
def cellsF (rs : List Rw) : List Value := rs.flatMap fun r => [r.sl, .int .i64 r.bits]
theorem cellsF_app (a b : List Rw) : cellsF (a ++ b) = cellsF a ++ cellsF b := by simp [cellsF]
theorem listj_below {tl te : TypeId} {size : Nat} {enc : List Rw → List Value} {w : World} {n0 cB : Nat} {rs : List Rw} {W W' : World} {v : Value} (h : ListJ tl te size enc w n0 cB rs W v) (hn : n0 ≤ W.heap.size) (hb : Below W.heap.size W W') : ListJ tl te size enc w n0 cB rs W' v :=
  ⟨(hb.block _ (heap_lt h.1)).trans h.1, own_belowP h.2.1 hb, h.2.2.1.below hb, h.2.2.2.1.trans (hb.mono hn), h.2.2.2.2⟩
def OfJ (w : World) (n0 oB cB : Nat) (own : Int) (L : List Ky) (W : World) : Prop := ∃ rs v, rs.map Rw.key = L.filter (fun z => z.2.2 == own) ∧ ListJ 48 29 2 cellsF w n0 cB rs W v ∧ n0 ≤ W.heap.size ∧ W.heap[oB]? = some (.cells #[.int .i64 own] 3 (0, 0)) ∧ oB < cB
set_option maxHeartbeats 8000000 in
theorem off_any (w : World) (n0 oB cB : Nat) (own : Int) (L : List Ky) (ad : Option Addr) (cp : Nat) (a : List UInt8) (n o : Int) (W : World) (h : OfJ w n0 oB cB own L W) (ha : Bytes W (.slice ad a.length cp) a) (ha0 : 0 < a.length) (hal : a.length ≤ 100) (hL : L.length ≤ 1000) :
    Calls Try.prog 35 #[.agg #[.slice ad a.length cp, .int .i64 n], .int .i64 o, .pointer (some ⟨oB, 0, none⟩), .pointer (some ⟨cB, 0, none⟩)] W fun e W' => (∃ v, e = .returned v) ∧ OfJ w n0 oB cB own (L ++ [(a, n, o)]) W' := by
  obtain ⟨rs, v, hrs, hj, hn0, hob, hoc⟩ := h
  obtain ⟨i0, hi0, hz0, hz1, hz2⟩ := info_parts Try.infoPfx
  obtain ⟨w1, hw1⟩ : ∃ w1, w1 = W.alloc (.cells #[.slice ad a.length cp, .int .i64 n] 29) := ⟨_, rfl⟩
  have h1 : w1.heap[W.heap.size]? = some (.cells #[.slice ad a.length cp, .int .i64 n] 29 (0, 0)) := by rw [hw1]; exact heap_alloc_new W _
  have hb1 : Below W.heap.size W w1 := by rw [hw1]; exact below_one _
  have c0 := cell_of h1 0 rfl
  have c1 := cell_of h1 1 rfl
  have hx1 := (hb1.block _ (heap_lt hj.1)).trans hj.1
  have d0 : w1.cell? ⟨cB, 0, none⟩ = some v := cell_of hx1 0 rfl
  have HB1 := Lib.hid hb1
  have HP1 : Hid (w1.heap[cB]? = some (.cells #[v] 48 (0, 0)) ∧ w1.ownsRow (cB + 1) 29 2 v rs.length (cellsF rs)) := Lib.hid ⟨hx1, own_belowP hj.2.1 hb1⟩
  have HAD : Hid (Bytes w1.drew (.slice ad a.length cp) a) := Lib.hid (ha.below (Below.drew hb1))
  have HOW : Hid (∀ W, Bytes W (.slice ad a.length cp) a → Calls Try.prog 34 #[.agg #[.slice ad a.length cp, .int .i64 n]] W (FreshP W a n)) := Lib.hid (fun W h => own_any a ad cp n W h ha0 (by omega))
  have HLN : Hid (rs.length ≤ 1000) := Lib.hid (by have : (rs.map Rw.key).length ≤ L.length := by rw [hrs]; exact List.length_filter_le _ _
                                                   rw [List.length_map] at this; omega)
  have HJ := Lib.hid hj
  have HRS := Lib.hid hrs
  have HN0 := Lib.hid hn0
  clear h1 hb1 hx1 hj hrs hn0 ha
  have HOB := Lib.hid hob
  have HOC := Lib.hid hoc
  have z0 : w1.cell? ⟨oB, 0, none⟩ = some (.int .i64 own) := cell_of ((HB1.out.block _ (heap_lt hob)).trans hob) 0 rfl
  have zA : ∀ ob, (W.alloc ob).cell? ⟨oB, 0, none⟩ = some (.int .i64 own) := fun ob => cell_of (((below_one ob).block _ (heap_lt hob)).trans hob) 0 rfl
  clear hob hoc
  by_cases ho : o = own
  · have ho1 : (o == own) = true := beq_i ho
    have HO := Lib.hid ho
    clear ho
    go_enter Try.func35, Try.ntmps35
    go_wp2_with fail
    rw [← hw1]
    clear hw1
    go_wp2_with fail
    go_region_law (first | (refine step_append_lies _ (by rfl) _ _ _ (by rfl) (cB + 1) 29 i0 _ 2 32 Try.underlying48 hi0 hz0 hz1 hz2 rfl (by omega) v rs.length (cellsF rs) (by rfl) (HO3.out.alloc _) ⟨w3.heap.size, 0, none⟩ 1 1 [.slice (some ⟨g, 0, none⟩) a.length c, .int .i64 n] (by rfl) (by rfl) (World.news_of_block (cs := #[.slice (some ⟨g, 0, none⟩) a.length c, .int .i64 n]) (t := 29) (fr := (0, 0)) (heap_alloc_new w3 _)) (by simp [Value.oneCell']) (by omega) (by have := HLN.out; unfold maxLen; omega) (by have := HLN.out; omega) (by have := heap_lt HX3.out; simp; omega) (w3.heap.size + 1) (by simp) ?_; intro g4 cp4 w4 hown4 hgrow4 hat4 hlt4; have hx4 := keep_farP (((below_one (w := w3) (.cells #[.slice (some ⟨g, 0, none⟩) a.length c, .int .i64 n] 29)).block _ (heap_lt HX3.out)).trans HX3.out) hgrow4 (own_neP HO3.out (by omega)); have c4 : w4.cell? ⟨cB, 0, none⟩ = some v := cell_of hx4 0 rfl; have g4f := free_of hx4 0; clear hx4) | (go_simp; ((with_reducible refine (HOW.out _ HAD.out).mono ?_); rintro e w3 ⟨g, c, rfl, hg, hby, hty, hc1, hc2, hb3⟩; have hx3 := (hb3.block _ (heap_lt (w := w1.drew) HP1.out.1)).trans HP1.out.1; have HX3 := Lib.hid hx3; have HB3 : Hid (Below W.heap.size W w3) := Lib.hid (Below.next (Below.drew HB1.out) hb3); have c3 : w3.cell? ⟨cB, 0, none⟩ = some v := cell_of hx3 0 rfl; have c3a : ∀ o, (w3.alloc o).cell? ⟨cB, 0, none⟩ = some v := fun o => cell_of (((below_one o).block _ (heap_lt hx3)).trans hx3) 0 rfl; have HO3 := Lib.hid (own_belowP HP1.out.2.drew hb3); have HBY := Lib.hid hby; have HTY := Lib.hid hty; clear hb3 hx3 hg hby hty hc1 hc2)))
    all_goals
      have hap := listj_app (r := ⟨some ⟨g, 0, none⟩, c, a, n, o⟩) HJ.out HN0.out HB3.out (by decide) (by decide) HBY.out HTY.out HO3.out (by rw [cellsF_app]; exact hown4) hgrow4
      have HAP := Lib.hid hap
      have HS4 : Hid (n0 ≤ w4.heap.size) := Lib.hid (by have := hgrow4.size; have := HB3.out.size; have := HN0.out; simp at *; omega)
      have hoe : (w4.setCell ⟨cB, 0, none⟩ (.slice (some ⟨g4, 0, none⟩) (rs.length + 1) cp4)).heap[oB]? = some (.cells #[.int .i64 own] 3 (0, 0)) := by
        have := HOC.out
        rw [heap_other (by omega)]
        exact keep_farP (((below_one _).block _ (by have := heap_lt HOB.out; have := HB3.out.size; omega)).trans ((HB3.out.block _ (heap_lt HOB.out)).trans HOB.out)) hgrow4 (own_neP HO3.out (by omega))
      have HOE := Lib.hid hoe
      clear hap hown4 hgrow4 hi0 hz0 hz1 hz2 hoe
      go_wp2_with fail
      go_end0
      exact ⟨⟨_, rfl⟩, _, _, by rw [List.map_append, HRS.out, List.filter_append]; simp [HO.out, Rw.key], HAP.out, by simpa using HS4.out, HOE.out, HOC.out⟩
  · have ho1 : (o == own) = false := bne_i ho
    have HO := Lib.hid ho
    clear ho
    go_enter Try.func35, Try.ntmps35
    go_wp2_with fail
    rw [← hw1]
    clear hw1
    go_wp2_with fail
    go_end0
    exact ⟨⟨_, rfl⟩, rs, v, by rw [List.filter_append, HRS.out]; simp [HO.out], listj_below HJ.out HN0.out HB1.out, Nat.le_trans HN0.out HB1.out.size, (HB1.out.block _ (heap_lt HOB.out)).trans HOB.out, HOC.out⟩
end Go.Proofs.Ytlmmnjoincmgcaa

namespace Go.Proofs.Ytlmmnjoincmgcaa
set_option linter.unusedVariables false
set_option linter.unusedSimpArgs false
set_option maxRecDepth 100000
open Go.RowKit Go.Shelf
theorem RowsJ.bel {w : World} {n0 cB : Nat} {L : List Ky} {W : World} (h : RowsJ w n0 cB L W) : Below n0 w W ∧ n0 ≤ W.heap.size := by
  obtain ⟨rs, v, _, h1, h2⟩ := h
  exact ⟨h1.2.2.2.1, h2⟩
theorem RowsJ.drew {w : World} {n0 cB : Nat} {L : List Ky} {W : World} (h : RowsJ w n0 cB L W) : RowsJ w n0 cB L W.drew := by
  obtain ⟨rs, v, h0, h1, h2⟩ := h
  exact ⟨rs, v, h0, listj_drew h1, h2⟩
theorem OfJ.bel {w : World} {n0 oB cB : Nat} {own : Int} {L : List Ky} {W : World} (h : OfJ w n0 oB cB own L W) : Below n0 w W ∧ n0 ≤ W.heap.size := by
  obtain ⟨rs, v, _, h1, h2, _⟩ := h
  exact ⟨h1.2.2.2.1, h2⟩
theorem OfJ.drew {w : World} {n0 oB cB : Nat} {own : Int} {L : List Ky} {W : World} (h : OfJ w n0 oB cB own L W) : OfJ w n0 oB cB own L W.drew := by
  obtain ⟨rs, v, h0, h1, h2⟩ := h
  exact ⟨rs, v, h0, listj_drew h1, h2⟩
theorem idx0 (v u : Value) (w : World) : (Instr.index 56 (.agg #[v, u]) (.int .i64 0)).run Try.prog w = .ok v w := by kernel_rfl
theorem idx1 (v u : Value) (w : World) : (Instr.index 56 (.agg #[v, u]) (.int .i64 1)).run Try.prog w = .ok u w := by kernel_rfl
theorem bytes_below {w W : World} {a : Option Addr} {n cp : Nat} {l : List UInt8} (h : Bytes w (.slice a n cp) l) (hb : Below w.heap.size w W) : Bytes W (.slice a n cp) l := h.below hb

set_option maxHeartbeats 2000000 in
theorem nwalkR (w : World) (base s cB : Nat) (hs : s = 4 ∨ s = 16) (t : Tr) (L : List Ky) (W : World) (ht : TrAt w base t) (hw : t.Wf s) (hL : L.length + t.rows.length ≤ 1000) (hj : RowsJ w w.heap.size cB L W) :
    Calls Try.prog 45 #[t.ptr, .func (.func 33) #[] #[.pointer (some ⟨cB, 0, none⟩)]] W fun e W' => (∃ v, e = .returned v) ∧ RowsJ w w.heap.size cB (L ++ t.rows) W' := by
  induction t generalizing L W with
  | nil =>
    have HJ := Lib.hid hj
    clear hj hL
    change Calls _ _ #[.pointer none, .func (.func 33) #[] #[.pointer (some ⟨cB, 0, none⟩)]] _ _
    go_enter Try.func45, Try.ntmps45
    go_wp2_with fail
    refine bodyPost_ret (results_none rfl _ _ _) rfl ⟨⟨_, rfl⟩, ?_⟩
    simpa [Tr.rows] using HJ.out
  | node b ad cp a n o l r ihl ihr =>
    have hal := hw.1.1
    have hn := (hj.bel.1.block b (heap_lt ht.1.2.1)).trans ht.1.2.1
    have n0 := cell_of hn 0 rfl
    have n1 := cell_of hn 1 rfl
    have n2 := cell_of hn 2 rfl
    have m3 := cell_of hn 3 rfl
    have m4 := cell_of hn 4 rfl
    have HN := Lib.hid ht.1.2.1
    have HJ := Lib.hid hj
    have HJD := Lib.hid hj.drew
    have HAD : Hid (Bytes W.drew (.slice ad a.length cp) a) := Lib.hid ((bytes_below (ht.1.2.2.1) hj.bel.1).below (Below.drew (Below.refl _ _)))
    have hrl : (Tr.node b ad cp a n o l r).rows = ownR a n o ++ (l.rows ++ r.rows) := rfl
    have HLL : Hid (L.length + (ownR a n o).length + l.rows.length + r.rows.length ≤ 1000) := Lib.hid (by rw [hrl] at hL; simp only [List.length_append] at hL; omega)
    have HIL : Hid (∀ L1 W1, L1 = L ++ ownR a n o → RowsJ w w.heap.size cB L1 W1 → Calls Try.prog 45 #[l.ptr, .func (.func 33) #[] #[.pointer (some ⟨cB, 0, none⟩)]] W1 fun e W' => (∃ v, e = .returned v) ∧ RowsJ w w.heap.size cB (L1 ++ l.rows) W') := Lib.hid (fun L1 W1 e h => ihl L1 W1 ht.2.1 hw.2.2.1 (by rw [e]; have := HLL.out; simp only [List.length_append]; omega) h)
    have HIR : Hid (∀ L1 W1, L1 = L ++ ownR a n o → RowsJ w w.heap.size cB (L1 ++ l.rows) W1 → Calls Try.prog 45 #[r.ptr, .func (.func 33) #[] #[.pointer (some ⟨cB, 0, none⟩)]] W1 fun e W' => (∃ v, e = .returned v) ∧ RowsJ w w.heap.size cB (L1 ++ l.rows ++ r.rows) W') := Lib.hid (fun L1 W1 e h => ihr (L1 ++ l.rows) W1 ht.2.2 hw.2.2.2 (by rw [e]; have := HLL.out; simp only [List.length_append]; omega) h)
    rw [hrl]
    have HAL := Lib.hid hal
    have ix0 := fun w => idx0 l.ptr r.ptr w
    have ix1 := fun w => idx1 l.ptr r.ptr w
    clear ht hw hL hj hn hrl ihl ihr hal
    change Calls _ _ #[.pointer (some ⟨b, 0, none⟩), .func (.func 33) #[] #[.pointer (some ⟨cB, 0, none⟩)]] _ _
    by_cases ho : o = -1
    · have ho1 : (o != -1) = false := bneq_i ho
      have HE : Hid (ownR a n o = []) := Lib.hid (by unfold ownR; rw [if_pos ho])
      rw [HE.out] at HIL HIR ⊢
      rw [List.nil_append]
      rw [List.append_nil] at HIL HIR
      clear ho HLL
      generalize l.ptr = vl at *
      generalize r.ptr = vr at *
      generalize l.rows = Ll at *
      generalize r.rows = Lr at *
      go_enter Try.func45, Try.ntmps45
      go_wp2_with fail
      go_loopw [27] (fun i wr => (i = .int .i64 0 ∧ RowsJ w w.heap.size cB L wr) ∨ (i = .int .i64 1 ∧ RowsJ w w.heap.size cB (L ++ Ll) wr) ∨ (i = .int .i64 2 ∧ RowsJ w w.heap.size cB (L ++ Ll ++ Lr) wr)) (fun i _ => (2 - intOf i).toNat)
      case atStart => exact .inl ⟨rfl, HJ.out⟩
      case round =>
        rcases hrel with ⟨rfl, hj⟩ | ⟨rfl, hj⟩ | ⟨rfl, hj⟩
        · have HC := Lib.hid (HIL.out L _ rfl hj)
          clear hj
          go_wp2_with (first | (go_at_call 45; ((with_reducible refine HC.out.mono ?_); rintro e2 W2 ⟨⟨v2, rfl⟩, hj2⟩; have HJ2 := Lib.hid hj2; clear hj2)) | fail)
          go_roundw
          case rel => exact .inr (.inl ⟨rfl, HJ2.out⟩)
          case measure => simp [intOf]
        · have HC := Lib.hid (HIR.out L _ rfl hj)
          clear hj
          go_wp2_with (first | (go_at_call 45; ((with_reducible refine HC.out.mono ?_); rintro e2 W2 ⟨⟨v2, rfl⟩, hj2⟩; have HJ2 := Lib.hid hj2; clear hj2)) | fail)
          go_roundw
          case rel => exact .inr (.inr ⟨rfl, HJ2.out⟩)
          case measure => simp [intOf]
        · have HJ3 := Lib.hid hj
          clear hj
          go_wp2_with fail
          go_end0
          exact ⟨⟨_, rfl⟩, by rw [← List.append_assoc]; exact HJ3.out⟩
    · have ho1 : (o != -1) = true := bnne_i ho
      have HE : Hid (ownR a n o = [(a, (n : Int), o)]) := Lib.hid (by unfold ownR; rw [if_neg ho])
      have HST : Hid (∀ W, RowsJ w w.heap.size cB L W → Bytes W (.slice ad a.length cp) a → Calls Try.prog 33 #[.agg #[.slice ad a.length cp, .int .i64 n], .int .i64 o, .pointer (some ⟨cB, 0, none⟩)] W fun e W' => (∃ v, e = .returned v) ∧ RowsJ w w.heap.size cB (L ++ [(a, (n : Int), o)]) W') := Lib.hid (fun W h1 h2 => rowsf_any w w.heap.size cB L ad cp a n o W h1 h2 (by have := HAL.out; omega) (by have := HAL.out; omega) (by have := HLL.out; omega))
      rw [HE.out] at HIL HIR ⊢
      clear ho HLL
      generalize hL1 : L ++ [(a, (n : Int), o)] = L1 at *
      have HIL := Lib.hid (fun W1 h => HIL.out L1 W1 rfl h)
      have HIR := Lib.hid (fun W1 h => HIR.out L1 W1 rfl h)
      generalize l.ptr = vl at *
      generalize r.ptr = vr at *
      generalize l.rows = Ll at *
      generalize r.rows = Lr at *
      rw [← List.append_assoc, hL1]
      clear hL1
      go_enter Try.func45, Try.ntmps45
      go_wp2_with fail
      refine wp_region_still_tail 9 (by kernel_rfl) (by kernel_rfl) ?_
      simp only [List.take_succ_cons, List.take_zero, List.drop_succ_cons, List.drop_zero]
      iterate 9 (with_reducible refine wpStill_go (by kernel_rfl) (fun K hK => ?_); go_simp; refine hK _ ?_; clear hK K)
      refine wpStill_nil ?_
      change wpList _ _ _ _ _ W.drew
      go_wp2_with (first | (go_at_call 33; ((with_reducible refine (HST.out _ HJD.out HAD.out).mono ?_); rintro e1 W1 ⟨⟨v1, rfl⟩, hj1⟩; have HJ1 := Lib.hid hj1; have hn1 := (hj1.bel.1.block b (heap_lt HN.out)).trans HN.out; have m3 := cell_of hn1 3 rfl; have m4 := cell_of hn1 4 rfl; clear hj1 hn1)) | fail)
      go_loopw [27] (fun i wr => (i = .int .i64 0 ∧ RowsJ w w.heap.size cB L1 wr) ∨ (i = .int .i64 1 ∧ RowsJ w w.heap.size cB (L1 ++ Ll) wr) ∨ (i = .int .i64 2 ∧ RowsJ w w.heap.size cB (L1 ++ Ll ++ Lr) wr)) (fun i _ => (2 - intOf i).toNat)
      case atStart => exact .inl ⟨rfl, HJ1.out⟩
      case round =>
        rcases hrel with ⟨rfl, hj⟩ | ⟨rfl, hj⟩ | ⟨rfl, hj⟩
        · have HC := Lib.hid (HIL.out _ hj)
          clear hj
          go_wp2_with (first | (go_at_call 45; ((with_reducible refine HC.out.mono ?_); rintro e2 W2 ⟨⟨v2, rfl⟩, hj2⟩; have HJ2 := Lib.hid hj2; clear hj2)) | fail)
          go_roundw
          case rel => exact .inr (.inl ⟨rfl, HJ2.out⟩)
          case measure => simp [intOf]
        · have HC := Lib.hid (HIR.out _ hj)
          clear hj
          go_wp2_with (first | (go_at_call 45; ((with_reducible refine HC.out.mono ?_); rintro e2 W2 ⟨⟨v2, rfl⟩, hj2⟩; have HJ2 := Lib.hid hj2; clear hj2)) | fail)
          go_roundw
          case rel => exact .inr (.inr ⟨rfl, HJ2.out⟩)
          case measure => simp [intOf]
        · have HJ3 := Lib.hid hj
          clear hj
          go_wp2_with fail
          go_end0
          exact ⟨⟨_, rfl⟩, by rw [← List.append_assoc]; exact HJ3.out⟩

set_option maxHeartbeats 2000000 in
theorem nwalkO (w : World) (base s oB cB : Nat) (own : Int) (hs : s = 4 ∨ s = 16) (t : Tr) (L : List Ky) (W : World) (ht : TrAt w base t) (hw : t.Wf s) (hL : L.length + t.rows.length ≤ 1000) (hj : OfJ w w.heap.size oB cB own L W) :
    Calls Try.prog 45 #[t.ptr, .func (.func 35) #[] #[.pointer (some ⟨oB, 0, none⟩), .pointer (some ⟨cB, 0, none⟩)]] W fun e W' => (∃ v, e = .returned v) ∧ OfJ w w.heap.size oB cB own (L ++ t.rows) W' := by
  induction t generalizing L W with
  | nil =>
    have HJ := Lib.hid hj
    clear hj hL
    change Calls _ _ #[.pointer none, .func (.func 35) #[] #[.pointer (some ⟨oB, 0, none⟩), .pointer (some ⟨cB, 0, none⟩)]] _ _
    go_enter Try.func45, Try.ntmps45
    go_wp2_with fail
    refine bodyPost_ret (results_none rfl _ _ _) rfl ⟨⟨_, rfl⟩, ?_⟩
    simpa [Tr.rows] using HJ.out
  | node b ad cp a n o l r ihl ihr =>
    have hal := hw.1.1
    have hn := (hj.bel.1.block b (heap_lt ht.1.2.1)).trans ht.1.2.1
    have n0 := cell_of hn 0 rfl
    have n1 := cell_of hn 1 rfl
    have n2 := cell_of hn 2 rfl
    have m3 := cell_of hn 3 rfl
    have m4 := cell_of hn 4 rfl
    have HN := Lib.hid ht.1.2.1
    have HJ := Lib.hid hj
    have HJD := Lib.hid hj.drew
    have HAD : Hid (Bytes W.drew (.slice ad a.length cp) a) := Lib.hid ((bytes_below (ht.1.2.2.1) hj.bel.1).below (Below.drew (Below.refl _ _)))
    have hrl : (Tr.node b ad cp a n o l r).rows = ownR a n o ++ (l.rows ++ r.rows) := rfl
    have HLL : Hid (L.length + (ownR a n o).length + l.rows.length + r.rows.length ≤ 1000) := Lib.hid (by rw [hrl] at hL; simp only [List.length_append] at hL; omega)
    have HIL : Hid (∀ L1 W1, L1 = L ++ ownR a n o → OfJ w w.heap.size oB cB own L1 W1 → Calls Try.prog 45 #[l.ptr, .func (.func 35) #[] #[.pointer (some ⟨oB, 0, none⟩), .pointer (some ⟨cB, 0, none⟩)]] W1 fun e W' => (∃ v, e = .returned v) ∧ OfJ w w.heap.size oB cB own (L1 ++ l.rows) W') := Lib.hid (fun L1 W1 e h => ihl L1 W1 ht.2.1 hw.2.2.1 (by rw [e]; have := HLL.out; simp only [List.length_append]; omega) h)
    have HIR : Hid (∀ L1 W1, L1 = L ++ ownR a n o → OfJ w w.heap.size oB cB own (L1 ++ l.rows) W1 → Calls Try.prog 45 #[r.ptr, .func (.func 35) #[] #[.pointer (some ⟨oB, 0, none⟩), .pointer (some ⟨cB, 0, none⟩)]] W1 fun e W' => (∃ v, e = .returned v) ∧ OfJ w w.heap.size oB cB own (L1 ++ l.rows ++ r.rows) W') := Lib.hid (fun L1 W1 e h => ihr (L1 ++ l.rows) W1 ht.2.2 hw.2.2.2 (by rw [e]; have := HLL.out; simp only [List.length_append]; omega) h)
    rw [hrl]
    have HAL := Lib.hid hal
    have ix0 := fun w => idx0 l.ptr r.ptr w
    have ix1 := fun w => idx1 l.ptr r.ptr w
    clear ht hw hL hj hn hrl ihl ihr hal
    change Calls _ _ #[.pointer (some ⟨b, 0, none⟩), .func (.func 35) #[] #[.pointer (some ⟨oB, 0, none⟩), .pointer (some ⟨cB, 0, none⟩)]] _ _
    by_cases ho : o = -1
    · have ho1 : (o != -1) = false := bneq_i ho
      have HE : Hid (ownR a n o = []) := Lib.hid (by unfold ownR; rw [if_pos ho])
      rw [HE.out] at HIL HIR ⊢
      rw [List.nil_append]
      rw [List.append_nil] at HIL HIR
      clear ho HLL
      generalize l.ptr = vl at *
      generalize r.ptr = vr at *
      generalize l.rows = Ll at *
      generalize r.rows = Lr at *
      go_enter Try.func45, Try.ntmps45
      go_wp2_with fail
      go_loopw [27] (fun i wr => (i = .int .i64 0 ∧ OfJ w w.heap.size oB cB own L wr) ∨ (i = .int .i64 1 ∧ OfJ w w.heap.size oB cB own (L ++ Ll) wr) ∨ (i = .int .i64 2 ∧ OfJ w w.heap.size oB cB own (L ++ Ll ++ Lr) wr)) (fun i _ => (2 - intOf i).toNat)
      case atStart => exact .inl ⟨rfl, HJ.out⟩
      case round =>
        rcases hrel with ⟨rfl, hj⟩ | ⟨rfl, hj⟩ | ⟨rfl, hj⟩
        · have HC := Lib.hid (HIL.out L _ rfl hj)
          clear hj
          go_wp2_with (first | (go_at_call 45; ((with_reducible refine HC.out.mono ?_); rintro e2 W2 ⟨⟨v2, rfl⟩, hj2⟩; have HJ2 := Lib.hid hj2; clear hj2)) | fail)
          go_roundw
          case rel => exact .inr (.inl ⟨rfl, HJ2.out⟩)
          case measure => simp [intOf]
        · have HC := Lib.hid (HIR.out L _ rfl hj)
          clear hj
          go_wp2_with (first | (go_at_call 45; ((with_reducible refine HC.out.mono ?_); rintro e2 W2 ⟨⟨v2, rfl⟩, hj2⟩; have HJ2 := Lib.hid hj2; clear hj2)) | fail)
          go_roundw
          case rel => exact .inr (.inr ⟨rfl, HJ2.out⟩)
          case measure => simp [intOf]
        · have HJ3 := Lib.hid hj
          clear hj
          go_wp2_with fail
          go_end0
          exact ⟨⟨_, rfl⟩, by rw [← List.append_assoc]; exact HJ3.out⟩
    · have ho1 : (o != -1) = true := bnne_i ho
      have HE : Hid (ownR a n o = [(a, (n : Int), o)]) := Lib.hid (by unfold ownR; rw [if_neg ho])
      have HST : Hid (∀ W, OfJ w w.heap.size oB cB own L W → Bytes W (.slice ad a.length cp) a → Calls Try.prog 35 #[.agg #[.slice ad a.length cp, .int .i64 n], .int .i64 o, .pointer (some ⟨oB, 0, none⟩), .pointer (some ⟨cB, 0, none⟩)] W fun e W' => (∃ v, e = .returned v) ∧ OfJ w w.heap.size oB cB own (L ++ [(a, (n : Int), o)]) W') := Lib.hid (fun W h1 h2 => off_any w w.heap.size oB cB own L ad cp a n o W h1 h2 (by have := HAL.out; omega) (by have := HAL.out; omega) (by have := HLL.out; omega))
      rw [HE.out] at HIL HIR ⊢
      clear ho HLL
      generalize hL1 : L ++ [(a, (n : Int), o)] = L1 at *
      have HIL := Lib.hid (fun W1 h => HIL.out L1 W1 rfl h)
      have HIR := Lib.hid (fun W1 h => HIR.out L1 W1 rfl h)
      generalize l.ptr = vl at *
      generalize r.ptr = vr at *
      generalize l.rows = Ll at *
      generalize r.rows = Lr at *
      rw [← List.append_assoc, hL1]
      clear hL1
      go_enter Try.func45, Try.ntmps45
      go_wp2_with fail
      refine wp_region_still_tail 9 (by kernel_rfl) (by kernel_rfl) ?_
      simp only [List.take_succ_cons, List.take_zero, List.drop_succ_cons, List.drop_zero]
      iterate 9 (with_reducible refine wpStill_go (by kernel_rfl) (fun K hK => ?_); go_simp; refine hK _ ?_; clear hK K)
      refine wpStill_nil ?_
      change wpList _ _ _ _ _ W.drew
      go_wp2_with (first | (go_at_call 35; ((with_reducible refine (HST.out _ HJD.out HAD.out).mono ?_); rintro e1 W1 ⟨⟨v1, rfl⟩, hj1⟩; have HJ1 := Lib.hid hj1; have hn1 := (hj1.bel.1.block b (heap_lt HN.out)).trans HN.out; have m3 := cell_of hn1 3 rfl; have m4 := cell_of hn1 4 rfl; clear hj1 hn1)) | fail)
      go_loopw [27] (fun i wr => (i = .int .i64 0 ∧ OfJ w w.heap.size oB cB own L1 wr) ∨ (i = .int .i64 1 ∧ OfJ w w.heap.size oB cB own (L1 ++ Ll) wr) ∨ (i = .int .i64 2 ∧ OfJ w w.heap.size oB cB own (L1 ++ Ll ++ Lr) wr)) (fun i _ => (2 - intOf i).toNat)
      case atStart => exact .inl ⟨rfl, HJ1.out⟩
      case round =>
        rcases hrel with ⟨rfl, hj⟩ | ⟨rfl, hj⟩ | ⟨rfl, hj⟩
        · have HC := Lib.hid (HIL.out _ hj)
          clear hj
          go_wp2_with (first | (go_at_call 45; ((with_reducible refine HC.out.mono ?_); rintro e2 W2 ⟨⟨v2, rfl⟩, hj2⟩; have HJ2 := Lib.hid hj2; clear hj2)) | fail)
          go_roundw
          case rel => exact .inr (.inl ⟨rfl, HJ2.out⟩)
          case measure => simp [intOf]
        · have HC := Lib.hid (HIR.out _ hj)
          clear hj
          go_wp2_with (first | (go_at_call 45; ((with_reducible refine HC.out.mono ?_); rintro e2 W2 ⟨⟨v2, rfl⟩, hj2⟩; have HJ2 := Lib.hid hj2; clear hj2)) | fail)
          go_roundw
          case rel => exact .inr (.inr ⟨rfl, HJ2.out⟩)
          case measure => simp [intOf]
        · have HJ3 := Lib.hid hj
          clear hj
          go_wp2_with fail
          go_end0
          exact ⟨⟨_, rfl⟩, by rw [← List.append_assoc]; exact HJ3.out⟩
end Go.Proofs.Ytlmmnjoincmgcaa
