/- Texts of this seat, merged: Term7, Term8. -/
import Derived.Test.YtjbmcjppaadkgaaGP2
namespace Go.Proofs.Ytjbmcjppaadkgaa
set_option linter.unusedVariables false
set_option linter.unusedSimpArgs false
set_option maxRecDepth 100000
open Go.RowKit

theorem str_le {a b : List UInt8} : (Op.bytesLess (strB a).toList (strB b).toList || (strB a).toList == (strB b).toList) = leL a b := by
  have e : ∀ l : List UInt8, (strB l).toList = l := fun l => by rw [toList_eq]; rfl
  rw [e, e]; rfl

def LRel (w : World) (b : Nat) (s : ByteArray) (m d f p : Nat) (pv : Value) (sh : Shape) (q g : Nat) (acc : List (List UInt8)) (pvr : Value) (wr : World) : Prop :=
  g ≤ f ∧ qLoop g sh acc (s.data.toList.drop q) = qList (qLoop f) sh (s.data.toList.drop p) ∧ p ≤ q ∧ q ≤ s.size ∧ s.size - q + 1 ≤ g ∧ acc.length ≤ q ∧ Rd wr b s q m d pvr ∧
    (w.alloc (.cells #[.bool sh.numbered, .int .u64 sh.low, .int .u64 sh.high, .bool sh.hex, .int .i64 sh.least, .int .i64 sh.most, .bool sh.ordered] 82)).grownBy wr (some b) ∧ Parts (d == 1) (w.heap.size + 1) wr pv pvr acc

theorem lit_eq (T : Array Value) (n : Nat) (h : T.size = n) : T = ((List.range n).map fun i => T.getD i undef).toArray := by
  subst h
  apply Array.ext
  · simp
  · intro i h1 h2
    simp [Array.getD, h1]

theorem own_slice {w : World} {R : Nat} {e : TypeId} {size : Nat} {v : Value} {n : Nat} {xs : List Value} (h : w.ownsRow R e size v n xs) (hn : 0 < n) : ∃ g cap, v = .slice (some ⟨g, 0, none⟩) n cap := by
  rcases h.2 with ⟨_, h2⟩ | ⟨g, cap, cur, h1, _⟩
  · omega
  · exact ⟨g, cap, h1⟩
theorem parts_app {w3 S : World} {d R b : Nat} {pv sv : Value} {acc : List (List UInt8)} {part : List UInt8} (hd : (d == 1) = true) (h : w3.ownsRow R 9 1 sv (acc.length + 1) (acc.map strV ++ [.string (strB part)])) (hb : b < R) (hS : w3.grownBy S (some b)) : Parts (d == 1) R S pv sv (acc ++ [part]) := by
  rw [hd]
  show S.ownsRow R 9 1 sv (acc ++ [part]).length ((acc ++ [part]).map strV)
  rw [List.length_append, List.map_append]
  exact World.ownsRow.kept h hS (.inr (own_ne h hb))
theorem keep_far {a c : World} {k : Nat} {o : Obj} {row : Option Nat} (h : a.heap[k]? = some o) (hg : a.grownBy c row) (hrow : some k ≠ row) : c.heap[k]? = some o :=
  (hg.block k (Array.getElem?_eq_some_iff.1 h).1 hrow).trans h
theorem keep_alloc {w : World} {k : Nat} {o : Obj} (h : w.heap[k]? = some o) (o' : Obj) : (w.alloc o').heap[k]? = some o :=
  (Below.heap_alloc w o' k (Array.getElem?_eq_some_iff.1 h).1).trans h
theorem rd_far {a c : World} {b : Nat} {s : ByteArray} {p m d : Nat} {pv : Value} {row : Option Nat} (h : Rd a b s p m d pv) (hg : a.grownBy c row) (hrow : some b ≠ row) : Rd c b s p m d pv := keep_far h hg hrow
theorem grown_far {a c e : World} {b : Nat} {row : Option Nat} (h : a.grownBy c (some b)) (hg : c.grownBy e row) (hrow : ∀ k, row = some k → a.heap.size ≤ k) : a.grownBy e (some b) :=
  ⟨hg.os.trans h.os, hg.tape.trans h.tape, hg.output.trans h.output, Nat.le_trans h.size hg.size, fun k hk hne => (hg.block k (Nat.lt_of_lt_of_le hk h.size) (fun e => by have := hrow k e.symm; omega)).trans (h.block k hk hne)⟩

theorem jump_panic {l : Nat} {J : Act → World → Prop} {Q : Exit → Act → World → Prop} {a : Act} {w : World} {ch : List PanicEntry} (h : Q (.panic ch) a w) : Exit.jump l J Q (.panic ch) a w := h

theorem LRel.parts {w : World} {b : Nat} {s : ByteArray} {m d f p : Nat} {pv : Value} {sh : Shape} {q g : Nat} {acc : List (List UInt8)} {pvr : Value} {wr : World} (h : LRel w b s m d f p pv sh q g acc pvr wr) : Parts (d == 1) (w.heap.size + 1) wr pv pvr acc := h.2.2.2.2.2.2.2.2
theorem Parts.drewN {z : Bool} {R : Nat} {w : World} {pv pv' : Value} {ps : List (List UInt8)} (h : Parts z R w pv pv' ps) (n : Nat) : Parts z R (w.drewN n) pv pv' ps := by
  cases z with
  | true => exact h
  | false => exact h
theorem Parts.other {d R : Nat} {w : World} {pv pv' : Value} {ps qs : List (List UInt8)} (h : Parts (d == 1) R w pv pv' ps) (hd : d ≠ 1) : Parts (d == 1) R w pv pv' qs := by
  rw [show (d == 1) = false by simpa using hd] at h ⊢
  exact h
theorem LRel.drewN {w : World} {b : Nat} {s : ByteArray} {m d f p : Nat} {pv : Value} {sh : Shape} {q g : Nat} {acc : List (List UInt8)} {pvr : Value} {wr : World} (h : LRel w b s m d f p pv sh q g acc pvr wr) (n : Nat) : LRel w b s m d f p pv sh q g acc pvr (wr.drewN n) := by
  obtain ⟨h1, h2, h3, h4, h5, h6, h7, h8, h9⟩ := h
  exact ⟨h1, h2, h3, h4, h5, h6, h7.drewN n, grown_trans h8 (grown_drewN _ _ _), h9.drewN n⟩

set_option maxHeartbeats 2000000 in
theorem list_any (f : Nat) (ih : ∀ g, g < f → TermIH g) (b m d p : Nat) (s : ByteArray) (pv : Value) (sh : Shape) (w : World) (hs : s.size ≤ 65536) (hdp : d ≤ p) (hp : p ≤ s.size) (hf : s.size - p + 1 ≤ f) (hd : 1 ≤ d)
    (h : Rd w b s p m d pv) (hm : w.heap[m]? = some (.map (esN 11) 11)) (hmb : m ≠ b) (hpv : d = 1 → pv = nilV) :
    Calls Try.prog 88 #[.pointer (some ⟨b, 0, none⟩), shapeV sh] w (LPost w b s m d pv (qList (qLoop f) sh (s.data.toList.drop p))) := by
  have hsm : s.size ≤ maxLen := by unfold maxLen; omega
  have hb := h.lt
  have hR1 : Rd (w.alloc (.cells #[.bool sh.numbered, .int .u64 sh.low, .int .u64 sh.high, .bool sh.hex, .int .i64 sh.least, .int .i64 sh.most, .bool sh.ordered] 82)) b s p m d pv := h.alloc _
  have H := Lib.hid hR1
  have HM := Lib.hid hm
  have HIH := Lib.hid ih
  have HPV := Lib.hid hpv
  have g0 := hR1.c0; have g1 := hR1.c1
  have hcase : (sh.least = 0 ∧ byteAt s p = 41) ∨ (sh.least = 0 ∧ byteAt s p ≠ 41) ∨ sh.least ≠ 0 := by omega
  clear h hm ih hpv hR1
  go_enter Try.func88, Try.ntmps88
  go_wp2
  refine wp_scope_goto 0 (fun n a' wr => ∃ (q : Nat) (acc : List (List UInt8)) (pvr : Value), a'.defers = [] ∧ a'.tmps.size = 80 ∧ a'.tmps.getD 0 undef = .pointer (some ⟨b, 0, none⟩) ∧ a'.tmps.getD 3 undef = .pointer (some ⟨w.heap.size, 0, none⟩) ∧ a'.tmps.getD 4 undef = .int .i64 acc.length ∧ a'.tmps.getD 5 undef = .string (strB (acc.getLast?.getD [])) ∧ LRel w b s m d f p pv sh q n acc pvr wr) rfl ?_ ?_
  · intro R hpass hout
    have hparts : Parts (d == 1) (w.heap.size + 1) (w.alloc (.cells #[.bool sh.numbered, .int .u64 sh.low, .int .u64 sh.high, .bool sh.hex, .int .i64 sh.least, .int .i64 sh.most, .bool sh.ordered] 82)) pv pv [] := by
      by_cases h1 : d = 1
      · rw [show (d == 1) = true by simpa using h1, HPV.out h1]; exact ⟨rfl, .inl ⟨rfl, rfl⟩⟩
      · rw [show (d == 1) = false by simpa using h1]; exact rfl
    have hstart : Hid (qList (qLoop f) sh (s.data.toList.drop p) = qLoop f sh [] (s.data.toList.drop p) → LRel w b s m d f p pv sh p f [] pv (w.alloc (.cells #[.bool sh.numbered, .int .u64 sh.low, .int .u64 sh.high, .bool sh.hex, .int .i64 sh.least, .int .i64 sh.most, .bool sh.ordered] 82))) :=
      Lib.hid fun hq => ⟨Nat.le_refl _, hq.symm, Nat.le_refl _, hp, hf, Nat.zero_le _, H.out, grown_refl _ _, hparts⟩
    have HPA := Lib.hid hparts
    clear hparts
    rcases hcase with ⟨hl, hc⟩ | ⟨hl, hc⟩ | hl
    · have hq : Hid (qList (qLoop f) sh (s.data.toList.drop p) = some ([], s.data.toList.drop p)) := Lib.hid (by
        unfold qList; rw [if_pos ⟨hl, (head_byte s p 41 (by decide)).2 hc⟩])
      have hl1 : ((sh.least : Int) == 0) = true := by simpa using hl
      have hc1 : (byteAt s p == 41) = true := by simpa using hc
      clear hl hc
      go_wp2_with (first | (go_at_call 79; ((with_reducible refine (next_any s p b _ hsm (by omega) (by assumption) (by assumption)).mono ?_); rintro e w' ⟨rfl, n1, rfl⟩)) | fail)
      refine nogoto_ret ?_
      refine bodyPost_ret (results_none rfl _ _ _) rfl ?_
      rw [hq.out]
      refine ⟨rfl, pv, ?_, grown_trans (World.grownBy_alloc _ _ _) (grown_drewN _ _ _), ?_⟩
      · rw [posOf_drop s p hp]; exact H.out.drewN n1
      · exact (HPA.out.base (by omega)).drewN n1
    · have hq : Hid (qList (qLoop f) sh (s.data.toList.drop p) = qLoop f sh [] (s.data.toList.drop p)) := Lib.hid (by
        unfold qList; rw [if_neg fun hh => hc ((head_byte s p 41 (by decide)).1 hh.2)])
      have hl1 : ((sh.least : Int) == 0) = true := by simpa using hl
      have hc1 : (byteAt s p == 41) = false := beqf hc
      clear hl hc
      go_wp2_with (first | (go_at_call 79; ((with_reducible refine (next_any s p b _ hsm (by omega) (by assumption) (by assumption)).mono ?_); rintro e w' ⟨rfl, n1, rfl⟩)) | fail)
      go_step3
      go_step
      go_step
      exact hpass _ _ _ ⟨p, [], pv, rfl, rfl, rfl, rfl, rfl, rfl, (hstart.out hq.out).drewN n1⟩
    · have hq : Hid (qList (qLoop f) sh (s.data.toList.drop p) = qLoop f sh [] (s.data.toList.drop p)) := Lib.hid (by
        unfold qList; rw [if_neg fun hh => hl hh.1])
      have hl1 : ((sh.least : Int) == 0) = false := beqf (by omega)
      clear hl
      go_wp2_with fail
      go_step3
      go_step
      go_step
      exact hpass _ _ _ ⟨p, [], pv, rfl, rfl, rfl, rfl, rfl, rfl, hstart.out hq.out⟩
  · intro n a' wr hrel J hJ
    obtain ⟨q, acc, pvr, hfd, hfs, hf0, hf3, hf4, hf5, hL⟩ := hrel
    obtain ⟨T, DD⟩ := a'
    obtain rfl : DD = [] := hfd
    obtain ⟨u, hu⟩ : ∃ u : Nat → Value, T = #[u 0, u 1, u 2, u 3, u 4, u 5, u 6, u 7, u 8, u 9, u 10, u 11, u 12, u 13, u 14, u 15, u 16, u 17, u 18, u 19, u 20, u 21, u 22, u 23, u 24, u 25, u 26, u 27, u 28, u 29, u 30, u 31, u 32, u 33, u 34, u 35, u 36, u 37, u 38, u 39, u 40, u 41, u 42, u 43, u 44, u 45, u 46, u 47, u 48, u 49, u 50, u 51, u 52, u 53, u 54, u 55, u 56, u 57, u 58, u 59, u 60, u 61, u 62, u 63, u 64, u 65, u 66, u 67, u 68, u 69, u 70, u 71, u 72, u 73, u 74, u 75, u 76, u 77, u 78, u 79] := ⟨fun i => T.getD i undef, lit_eq T 80 hfs⟩
    subst hu
    have he0 : u 0 = .pointer (some ⟨b, 0, none⟩) := hf0
    have he3 : u 3 = .pointer (some ⟨w.heap.size, 0, none⟩) := hf3
    have he4 : u 4 = .int .i64 acc.length := hf4
    have he5 : u 5 = .string (strB (acc.getLast?.getD [])) := hf5
    clear hfs hf0 hf3 hf4 hf5
    rw [he0, he3, he4, he5]
    clear he0 he3 he4 he5
    have HJ := Lib.hid hJ
    clear hJ
    obtain ⟨hgf, hqe, hpq, hqs, hqg, hacc, hR, hG, hP⟩ := hL
    obtain ⟨g, rfl⟩ : ∃ g', n = g' + 1 := ⟨n - 1, by omega⟩
    have hmlt : m < w.heap.size := (Array.getElem?_eq_some_iff.1 HM.out).1
    have hmr : wr.heap[m]? = some (.map (esN 11) 11) := by
      rw [hG.block m (by simp; omega) (by simpa using hmb), Below.heap_alloc w _ m hmlt]; exact HM.out
    have hT := HIH.out g (by omega) b m d q s pvr wr hs (by omega) hqs (by omega) hR hmr hmb (fun h => absurd h (by omega))
    have hbx := grown_box hG hb
    have g0 := hR.c0; have g1 := hR.c1
    have HR := Lib.hid hR; have HG := Lib.hid hG; have HP := Lib.hid hP; have HBX := Lib.hid hbx
    have HQE := Lib.hid hqe
    clear hR hG hP hbx hmr
    cases hx : qTermS (qLoop g) (s.data.toList.drop q) with
    | none =>
      rw [hx] at hT
      have HT := Lib.hid hT
      have hq0 : Hid (qList (qLoop f) sh (s.data.toList.drop p) = none) := Lib.hid (by rw [← hqe]; simp [qLoop, hx])
      clear hT hx hqe
      go_wp2_with (first | (go_at_call 71; ((with_reducible refine HT.out.mono ?_); rintro e w2 ⟨rfl, hG2⟩)) | fail)
      refine jump_panic ?_
      refine ⟨rfl, ?_⟩
      rw [hq0.out]
      exact ⟨rfl, grown_trans (grown_trans (World.grownBy_alloc _ _ _) HG.out) hG2⟩
    | some x =>
      obtain ⟨k, nn, ps, rest⟩ := x
      rw [hx] at hT
      have hT2 := hT.mono fun e w' h => TOk.deep hd h
      have HT := Lib.hid hT2
      have hsuf : rest <:+ s.data.toList.drop q ∧ rest.length < (s.data.toList.drop q).length := qTerm_suf hx
      obtain ⟨hq1, hq2, hq3⟩ := suf_pos (rest := rest) hqs hsuf.1
      have hrl := hsuf.1.length_le
      have hlt : q < posOf s rest := by have := hsuf.2; simp at this hrl; unfold posOf; omega
      have hpart : s.extract q (posOf s rest) = strB (partOf (s.data.toList.drop q) rest) := part_eq s q rest (by omega) hq2 (by simp at hrl; omega)
      have HX := Lib.hid hx
      have HQ3 := Lib.hid hq3
      clear hT hT2 hx hqe hsuf hrl hq3
      generalize posOf s rest = q2 at *
      have HUN : Hid (qLoop (g + 1) sh acc (s.data.toList.drop q) = if sh.ordered = true ∧ leL (acc.getLast?.getD []) (partOf (s.data.toList.drop q) rest) = false then none
          else if rest.head? = some 44 then qLoop g sh (acc ++ [partOf (s.data.toList.drop q) rest]) rest.tail
          else if sh.least ≤ acc.length + 1 ∧ acc.length + 1 ≤ sh.most then some (acc ++ [partOf (s.data.toList.drop q) rest], rest) else none) := Lib.hid (by
        rw [qLoop, HX.out]; rfl)
      generalize partOf (s.data.toList.drop q) rest = part at *
      have hcase : (sh.ordered = true ∧ leL (acc.getLast?.getD []) part = false) ∨ (sh.ordered = true ∧ leL (acc.getLast?.getD []) part = true) ∨ sh.ordered = false := by
        cases sh.ordered <;> cases leL (acc.getLast?.getD []) part <;> simp
      rcases hcase with ⟨ho, hle⟩ | hcase
      · have hq0 : Hid (qList (qLoop f) sh (s.data.toList.drop p) = none) := Lib.hid (by rw [← HQE.out, HUN.out, if_pos ⟨ho, hle⟩])
        rw [← str_le] at hle
        go_wp2_with (first | (go_at_call 71; ((with_reducible refine HT.out.mono ?_); rintro e w2 ⟨rfl, hR2, hG2⟩; have hbx2 := (hG2.block w.heap.size (by have h1 := HG.out.size; simp at h1; omega) (by simp; omega)).trans HBX.out; have k0 := hR2.c0; have k1 := hR2.c1; have k3 := hR2.c3; have k4 := hR2.c4; have f1 := hR2.f 1; have f4 := hR2.f 4; have x4 := cell_of hbx2 4 rfl; have x5 := cell_of hbx2 5 rfl; have x6 := cell_of hbx2 6 rfl; have HR2 := Lib.hid hR2; have HG2 := Lib.hid hG2; have HBX2 := Lib.hid hbx2; clear hR2 hG2 hbx2)) | fail)
        go_quiet (fail)
        go_wp2_with (first | (go_at_call 72; ((with_reducible refine (need_bad _).mono ?_); rintro e w' ⟨rfl, rfl⟩)) | fail)
        refine jump_panic ?_
        refine ⟨rfl, ?_⟩
        rw [hq0.out]
        exact ⟨rfl, grown_trans (grown_trans (World.grownBy_alloc _ _ _) HG.out) (grown_trans HG2.out (grown_drewN _ _ _))⟩
      · have hno : ¬ (sh.ordered = true ∧ leL (acc.getLast?.getD []) part = false) := by
          rintro ⟨h1, h2⟩
          rcases hcase with ⟨_, h3⟩ | h3
          · rw [h2] at h3; cases h3
          · rw [h1] at h3; cases h3
        have hnext : (byteAt s q2 = 44) ∨ (byteAt s q2 ≠ 44 ∧ sh.least ≤ acc.length + 1 ∧ acc.length + 1 ≤ sh.most) ∨ (byteAt s q2 ≠ 44 ∧ acc.length + 1 < sh.least) ∨ (byteAt s q2 ≠ 44 ∧ sh.least ≤ acc.length + 1 ∧ sh.most < acc.length + 1) := by omega
        have HUN2 : Hid (qList (qLoop f) sh (s.data.toList.drop p) = if rest.head? = some 44 then qLoop g sh (acc ++ [part]) rest.tail
            else if sh.least ≤ acc.length + 1 ∧ acc.length + 1 ≤ sh.most then some (acc ++ [part], rest) else none) := Lib.hid (by rw [← HQE.out, HUN.out, if_neg hno])
        have HHB : Hid (rest.head? = some 44 ↔ byteAt s q2 = 44) := Lib.hid (by rw [HQ3.out]; exact head_byte s q2 44 (by decide))
        have HTL : Hid (rest.tail = s.data.toList.drop (q2 + 1)) := Lib.hid (by rw [HQ3.out, List.tail_drop])
        have HPO : Hid (posOf s rest = q2) := Lib.hid (by rw [HQ3.out]; exact posOf_drop s q2 hq2)
        have hneb : ¬ w.heap.size = b := by omega
        have hneb' : ¬ b = w.heap.size := by omega
        clear HUN hno
        rw [← str_le] at hcase
        have hnext : (byteAt s q2 = 44) ∨ (byteAt s q2 ≠ 44 ∧ sh.least ≤ acc.length + 1 ∧ acc.length + 1 ≤ sh.most) ∨ (byteAt s q2 ≠ 44 ∧ acc.length + 1 < sh.least) ∨ (byteAt s q2 ≠ 44 ∧ sh.least ≤ acc.length + 1 ∧ sh.most < acc.length + 1 ∧ decide ((acc.length : Int) + 1 ≤ sh.most) = false) := by
          rcases hnext with h | h | h | ⟨h1, h2, h3⟩
          · exact .inl h
          · exact .inr (.inl h)
          · exact .inr (.inr (.inl h))
          · exact .inr (.inr (.inr ⟨h1, h2, h3, decide_eq_false (by omega)⟩))
        by_cases hd1 : d = 1
        · have hdt : ((d : Int) == 1) = true := by rw [hd1]; rfl
          have hdb : (d == 1) = true := by simpa using hd1
          have HO : Hid (wr.ownsRow (w.heap.size + 1) 9 1 pvr acc.length (acc.map strV)) := Lib.hid (by have h1 := HP.out; rw [hdb] at h1; exact h1)
          have HDB := Lib.hid hdb
          obtain ⟨i0, hi0, hz0, hz1, hz2⟩ := info_parts Try.infoStr
          clear hd1 hdb
          rcases hnext with hn | ⟨hn, hn1, hn2⟩ | ⟨hn, hn1⟩ | ⟨hn, hn1, hn2, hm1⟩
          · have HOUT : Hid (qLoop g sh (acc ++ [part]) (s.data.toList.drop (q2 + 1)) = qList (qLoop f) sh (s.data.toList.drop p)) := Lib.hid (by rw [HUN2.out, if_pos (HHB.out.2 hn), HTL.out])
            have hq2s := byte_in (by decide) hn
            have hn0 : (byteAt s q2 == 44) = true := by simpa using hn
            clear hn
            rcases hcase with ⟨ho, hle⟩ | ho
            all_goals
              go_wp2_with (first | (go_at_call 71; ((with_reducible refine HT.out.mono ?_); rintro e w2 ⟨rfl, hR2, hG2⟩; have hbx2 := (hG2.block w.heap.size (by have h1 := HG.out.size; simp at h1; omega) (by simp; omega)).trans HBX.out; have k0 := hR2.c0; have k1 := hR2.c1; have k3 := hR2.c3; have k4 := hR2.c4; have f1 := hR2.f 1; have f4 := hR2.f 4; have x4 := cell_of hbx2 4 rfl; have x5 := cell_of hbx2 5 rfl; have x6 := cell_of hbx2 6 rfl; have HR2 := Lib.hid hR2; have HG2 := Lib.hid hG2; have HBX2 := Lib.hid hbx2; clear hR2 hG2 hbx2)) | fail)
              go_quiet (fail)
              have HO2 : Hid (w2.ownsRow (w.heap.size + 1) 9 1 pvr acc.length (acc.map strV)) := Lib.hid (World.ownsRow.kept HO.out HG2.out (.inr (own_ne HO.out (by omega))))
              go_wp2_with (first | (go_at_call 72; ((with_reducible refine (need_ok _).mono ?_); rintro e w' ⟨rfl, rfl⟩)) | (at_builtin; (refine wpList_append_own _ rfl _ _ 33 rfl (w.heap.size + 1) 9 i0 _ 1 16 Try.underlying33 hi0 hz0 hz1 hz2 rfl (by decide) pvr acc.length (acc.map strV) rfl (World.ownsRow.alloc (w := w2.drewN nq) HO2.out _) ⟨w2.heap.size, 0, none⟩ 1 1 [.string (strB part)] rfl rfl (World.news_of_block (cs := #[.string (strB part)]) (t := 9) (fr := (0, 0)) (heap_alloc_new (w2.drewN nq) _)) (by simp [Value.oneCell']) (by unfold maxLen; omega) (by omega) (by have h1 := HG.out.size; have h2 := HG2.out.size; simp at h1 ⊢; omega) ?_); intro v' w3 hown3 hgrow3 _; obtain ⟨g3, cp3, rfl⟩ := own_slice hown3 (by omega); have hR3 := rd_far ((HR2.out.drewN nq).alloc _) hgrow3 (fun e => own_ne HO2.out (by omega) e.symm); have hbx3 := keep_far (keep_alloc (w := w2.drewN nq) HBX2.out _) hgrow3 (fun e => own_ne HO2.out (by omega) e.symm); have hR4 := hR3.set4 (.slice (some ⟨g3, 0, none⟩) (acc.length + 1) cp3); have hbx4 := (heap_set_other (v := .slice (some ⟨g3, 0, none⟩) (acc.length + 1) cp3) (i := 4) hneb).trans hbx3; have j1 := hR3.c1; have j4 := hR3.c4; have e1 := hR3.f 1; have e4 := hR3.f 4; have l0 := hR4.c0; have l1 := hR4.c1; have l2 := hR4.f 1; have y4 := cell_of hbx3 4 rfl; have y5 := cell_of hbx3 5 rfl; have z4 := cell_of hbx4 4 rfl; have z5 := cell_of hbx4 5 rfl; have HOWN3 := Lib.hid hown3; have HGROW3 := Lib.hid hgrow3; have HR4 := Lib.hid hR4; clear hown3 hgrow3 hR3 hR4 hbx3 hbx4) | (go_at_call 79; ((with_reducible refine (next_any s q2 b _ hsm hq2 HR4.out.c0 HR4.out.c1).mono ?_); rintro e w' ⟨rfl, n1, rfl⟩)) | fail)
              have HG3 : Hid ((w.alloc (.cells #[.bool sh.numbered, .int .u64 sh.low, .int .u64 sh.high, .bool sh.hex, .int .i64 sh.least, .int .i64 sh.most, .bool sh.ordered] 82)).grownBy (w3.setCell ⟨b, 4, none⟩ (.slice (some ⟨g3, 0, none⟩) (acc.length + 1) cp3)) (some b)) :=
                Lib.hid (grown_trans (grown_far (grown_trans (grown_trans HG.out HG2.out) (grown_trans (grown_drewN _ nq _) (World.grownBy_alloc _ _ _))) HGROW3.out (fun k hk => by have := (HO2.out.lt k hk).1; simp; omega)) (grown_set _ _ _ _))
              go_step3
              go_step
              refine jump_back (HJ.out g _ _ (by omega) ⟨q2 + 1, acc ++ [part], .slice (some ⟨g3, 0, none⟩) (acc.length + 1) cp3, rfl, rfl, rfl, rfl, congrArg (Value.int .i64) (by simp), congrArg Value.string (by simp), ?_⟩)
              exact ⟨by omega, HOUT.out, by omega, by omega, by omega, by simp; omega, (HR4.out.drewN n1).set1 (q2 + 1), grown_trans HG3.out (grown_trans (grown_drewN _ _ _) (grown_set _ _ _ _)),
                parts_app HDB.out HOWN3.out (by omega) (grown_trans (grown_set _ _ _ _) (grown_trans (grown_drewN _ n1 _) (grown_set _ _ _ _)))⟩
          · have HOUT : Hid (qList (qLoop f) sh (s.data.toList.drop p) = some (acc ++ [part], rest)) := Lib.hid (by rw [HUN2.out, if_neg (fun h => hn (HHB.out.1 h)), if_pos ⟨hn1, hn2⟩])
            have hm1 : decide ((acc.length : Int) + 1 ≤ sh.most) = true := decide_eq_true (by omega)
            have hn0 : (byteAt s q2 == 44) = false := beqf hn
            clear hn
            rcases hcase with ⟨ho, hle⟩ | ho
            all_goals
              go_wp2_with (first | (go_at_call 71; ((with_reducible refine HT.out.mono ?_); rintro e w2 ⟨rfl, hR2, hG2⟩; have hbx2 := (hG2.block w.heap.size (by have h1 := HG.out.size; simp at h1; omega) (by simp; omega)).trans HBX.out; have k0 := hR2.c0; have k1 := hR2.c1; have k3 := hR2.c3; have k4 := hR2.c4; have f1 := hR2.f 1; have f4 := hR2.f 4; have x4 := cell_of hbx2 4 rfl; have x5 := cell_of hbx2 5 rfl; have x6 := cell_of hbx2 6 rfl; have HR2 := Lib.hid hR2; have HG2 := Lib.hid hG2; have HBX2 := Lib.hid hbx2; clear hR2 hG2 hbx2)) | fail)
              go_quiet (fail)
              have HO2 : Hid (w2.ownsRow (w.heap.size + 1) 9 1 pvr acc.length (acc.map strV)) := Lib.hid (World.ownsRow.kept HO.out HG2.out (.inr (own_ne HO.out (by omega))))
              go_wp2_with (first | (go_at_call 72; ((with_reducible refine (need_ok _).mono ?_); rintro e w' ⟨rfl, rfl⟩)) | (at_builtin; (refine wpList_append_own _ rfl _ _ 33 rfl (w.heap.size + 1) 9 i0 _ 1 16 Try.underlying33 hi0 hz0 hz1 hz2 rfl (by decide) pvr acc.length (acc.map strV) rfl (World.ownsRow.alloc (w := w2.drewN nq) HO2.out _) ⟨w2.heap.size, 0, none⟩ 1 1 [.string (strB part)] rfl rfl (World.news_of_block (cs := #[.string (strB part)]) (t := 9) (fr := (0, 0)) (heap_alloc_new (w2.drewN nq) _)) (by simp [Value.oneCell']) (by unfold maxLen; omega) (by omega) (by have h1 := HG.out.size; have h2 := HG2.out.size; simp at h1 ⊢; omega) ?_); intro v' w3 hown3 hgrow3 _; obtain ⟨g3, cp3, rfl⟩ := own_slice hown3 (by omega); have hR3 := rd_far ((HR2.out.drewN nq).alloc _) hgrow3 (fun e => own_ne HO2.out (by omega) e.symm); have hbx3 := keep_far (keep_alloc (w := w2.drewN nq) HBX2.out _) hgrow3 (fun e => own_ne HO2.out (by omega) e.symm); have hR4 := hR3.set4 (.slice (some ⟨g3, 0, none⟩) (acc.length + 1) cp3); have hbx4 := (heap_set_other (v := .slice (some ⟨g3, 0, none⟩) (acc.length + 1) cp3) (i := 4) hneb).trans hbx3; have j1 := hR3.c1; have j4 := hR3.c4; have e1 := hR3.f 1; have e4 := hR3.f 4; have l0 := hR4.c0; have l1 := hR4.c1; have l2 := hR4.f 1; have y4 := cell_of hbx3 4 rfl; have y5 := cell_of hbx3 5 rfl; have z4 := cell_of hbx4 4 rfl; have z5 := cell_of hbx4 5 rfl; have HOWN3 := Lib.hid hown3; have HGROW3 := Lib.hid hgrow3; have HR4 := Lib.hid hR4; clear hown3 hgrow3 hR3 hR4 hbx3 hbx4) | (go_at_call 79; ((with_reducible refine (next_any s q2 b _ hsm hq2 HR4.out.c0 HR4.out.c1).mono ?_); rintro e w' ⟨rfl, n1, rfl⟩)) | fail)
              have HG3 : Hid ((w.alloc (.cells #[.bool sh.numbered, .int .u64 sh.low, .int .u64 sh.high, .bool sh.hex, .int .i64 sh.least, .int .i64 sh.most, .bool sh.ordered] 82)).grownBy (w3.setCell ⟨b, 4, none⟩ (.slice (some ⟨g3, 0, none⟩) (acc.length + 1) cp3)) (some b)) :=
                Lib.hid (grown_trans (grown_far (grown_trans (grown_trans HG.out HG2.out) (grown_trans (grown_drewN _ nq _) (World.grownBy_alloc _ _ _))) HGROW3.out (fun k hk => by have := (HO2.out.lt k hk).1; simp; omega)) (grown_set _ _ _ _))
              refine jump_normal ?_
              go_end0
              rw [HOUT.out]
              refine ⟨rfl, .slice (some ⟨g3, 0, none⟩) (acc.length + 1) cp3, ?_, ?_, ?_⟩
              · rw [HPO.out]; exact HR4.out.drewN n1
              · exact grown_trans (World.grownBy_alloc _ _ _) (grown_trans HG3.out (grown_drewN _ _ _))
              · exact (parts_app HDB.out HOWN3.out (by omega) (grown_trans (grown_set _ _ _ _) (grown_drewN _ n1 _))).base (by omega)
          all_goals
            have HOUT : Hid (qList (qLoop f) sh (s.data.toList.drop p) = none) := Lib.hid (by rw [HUN2.out, if_neg (fun h => hn (HHB.out.1 h)), if_neg (by omega)])
            have hn0 : (byteAt s q2 == 44) = false := beqf hn
            clear hn
            rcases hcase with ⟨ho, hle⟩ | ho
            all_goals
              go_wp2_with (first | (go_at_call 71; ((with_reducible refine HT.out.mono ?_); rintro e w2 ⟨rfl, hR2, hG2⟩; have hbx2 := (hG2.block w.heap.size (by have h1 := HG.out.size; simp at h1; omega) (by simp; omega)).trans HBX.out; have k0 := hR2.c0; have k1 := hR2.c1; have k3 := hR2.c3; have k4 := hR2.c4; have f1 := hR2.f 1; have f4 := hR2.f 4; have x4 := cell_of hbx2 4 rfl; have x5 := cell_of hbx2 5 rfl; have x6 := cell_of hbx2 6 rfl; have HR2 := Lib.hid hR2; have HG2 := Lib.hid hG2; have HBX2 := Lib.hid hbx2; clear hR2 hG2 hbx2)) | fail)
              go_quiet (fail)
              have HO2 : Hid (w2.ownsRow (w.heap.size + 1) 9 1 pvr acc.length (acc.map strV)) := Lib.hid (World.ownsRow.kept HO.out HG2.out (.inr (own_ne HO.out (by omega))))
              go_wp2_with (first | (go_at_call 72; ((with_reducible refine (need_ok _).mono ?_); rintro e w' ⟨rfl, rfl⟩)) | (go_at_call 72; ((with_reducible refine (need_bad _).mono ?_); rintro e w' ⟨rfl, rfl⟩)) | (at_builtin; (refine wpList_append_own _ rfl _ _ 33 rfl (w.heap.size + 1) 9 i0 _ 1 16 Try.underlying33 hi0 hz0 hz1 hz2 rfl (by decide) pvr acc.length (acc.map strV) rfl (World.ownsRow.alloc (w := w2.drewN nq) HO2.out _) ⟨w2.heap.size, 0, none⟩ 1 1 [.string (strB part)] rfl rfl (World.news_of_block (cs := #[.string (strB part)]) (t := 9) (fr := (0, 0)) (heap_alloc_new (w2.drewN nq) _)) (by simp [Value.oneCell']) (by unfold maxLen; omega) (by omega) (by have h1 := HG.out.size; have h2 := HG2.out.size; simp at h1 ⊢; omega) ?_); intro v' w3 hown3 hgrow3 _; obtain ⟨g3, cp3, rfl⟩ := own_slice hown3 (by omega); have hR3 := rd_far ((HR2.out.drewN nq).alloc _) hgrow3 (fun e => own_ne HO2.out (by omega) e.symm); have hbx3 := keep_far (keep_alloc (w := w2.drewN nq) HBX2.out _) hgrow3 (fun e => own_ne HO2.out (by omega) e.symm); have hR4 := hR3.set4 (.slice (some ⟨g3, 0, none⟩) (acc.length + 1) cp3); have hbx4 := (heap_set_other (v := .slice (some ⟨g3, 0, none⟩) (acc.length + 1) cp3) (i := 4) hneb).trans hbx3; have j1 := hR3.c1; have j4 := hR3.c4; have e1 := hR3.f 1; have e4 := hR3.f 4; have l0 := hR4.c0; have l1 := hR4.c1; have l2 := hR4.f 1; have y4 := cell_of hbx3 4 rfl; have y5 := cell_of hbx3 5 rfl; have z4 := cell_of hbx4 4 rfl; have z5 := cell_of hbx4 5 rfl; have HOWN3 := Lib.hid hown3; have HGROW3 := Lib.hid hgrow3; have HR4 := Lib.hid hR4; clear hown3 hgrow3 hR3 hR4 hbx3 hbx4) | (go_at_call 79; ((with_reducible refine (next_any s q2 b _ hsm hq2 HR4.out.c0 HR4.out.c1).mono ?_); rintro e w' ⟨rfl, n1, rfl⟩)) | fail)
              have HG3 : Hid ((w.alloc (.cells #[.bool sh.numbered, .int .u64 sh.low, .int .u64 sh.high, .bool sh.hex, .int .i64 sh.least, .int .i64 sh.most, .bool sh.ordered] 82)).grownBy (w3.setCell ⟨b, 4, none⟩ (.slice (some ⟨g3, 0, none⟩) (acc.length + 1) cp3)) (some b)) :=
                Lib.hid (grown_trans (grown_far (grown_trans (grown_trans HG.out HG2.out) (grown_trans (grown_drewN _ nq _) (World.grownBy_alloc _ _ _))) HGROW3.out (fun k hk => by have := (HO2.out.lt k hk).1; simp; omega)) (grown_set _ _ _ _))
              refine jump_panic ?_
              refine ⟨rfl, ?_⟩
              rw [HOUT.out]
              exact ⟨rfl, grown_trans (World.grownBy_alloc _ _ _) (grown_trans HG3.out (grown_drewN _ _ _))⟩
        · have hdf : ((d : Int) == 1) = false := beqf (by omega)
          have HP1 : Hid (Parts (d == 1) (w.heap.size + 1) wr pv pvr (acc ++ [part])) := Lib.hid (HP.out.other (by simpa using hd1))
          clear hd1
          rcases hnext with hn | ⟨hn, hn1, hn2⟩ | ⟨hn, hn1⟩ | ⟨hn, hn1, hn2, hm1⟩
          · have HOUT : Hid (qLoop g sh (acc ++ [part]) (s.data.toList.drop (q2 + 1)) = qList (qLoop f) sh (s.data.toList.drop p)) := Lib.hid (by rw [HUN2.out, if_pos (HHB.out.2 hn), HTL.out])
            have hq2s := byte_in (by decide) hn
            have hn0 : (byteAt s q2 == 44) = true := by simpa using hn
            clear hn
            rcases hcase with ⟨ho, hle⟩ | ho
            all_goals
              go_wp2_with (first | (go_at_call 71; ((with_reducible refine HT.out.mono ?_); rintro e w2 ⟨rfl, hR2, hG2⟩; have hbx2 := (hG2.block w.heap.size (by have h1 := HG.out.size; simp at h1; omega) (by simp; omega)).trans HBX.out; have k0 := hR2.c0; have k1 := hR2.c1; have k3 := hR2.c3; have k4 := hR2.c4; have f1 := hR2.f 1; have f4 := hR2.f 4; have x4 := cell_of hbx2 4 rfl; have x5 := cell_of hbx2 5 rfl; have x6 := cell_of hbx2 6 rfl; have HR2 := Lib.hid hR2; have HG2 := Lib.hid hG2; have HBX2 := Lib.hid hbx2; clear hR2 hG2 hbx2)) | fail)
              go_quiet (fail)
              go_wp2_with (first | (go_at_call 72; ((with_reducible refine (need_ok _).mono ?_); rintro e w' ⟨rfl, rfl⟩)) | (go_at_call 79; ((with_reducible refine (next_any s q2 b _ hsm hq2 (HR2.out.drewN nq).c0 (HR2.out.drewN nq).c1).mono ?_); rintro e w' ⟨rfl, n1, rfl⟩)) | fail)
              go_step3
              go_step
              refine jump_back (HJ.out g _ _ (by omega) ⟨q2 + 1, acc ++ [part], pvr, rfl, rfl, rfl, rfl, congrArg (Value.int .i64) (by simp), congrArg Value.string (by simp), ?_⟩)
              exact ⟨by omega, HOUT.out, by omega, by omega, by omega, by simp; omega, (HR2.out.drewN (nq + n1)).set1 (q2 + 1), grown_trans (grown_trans HG.out HG2.out) (grown_trans (grown_drewN _ _ _) (grown_set _ _ _ _)),
                HP1.out.kept (by omega) (grown_trans HG2.out (grown_trans (grown_drewN _ _ _) (grown_set _ _ _ _)))⟩
          · have HOUT : Hid (qList (qLoop f) sh (s.data.toList.drop p) = some (acc ++ [part], rest)) := Lib.hid (by rw [HUN2.out, if_neg (fun h => hn (HHB.out.1 h)), if_pos ⟨hn1, hn2⟩])
            have hm1 : decide ((acc.length : Int) + 1 ≤ sh.most) = true := decide_eq_true (by omega)
            have hn0 : (byteAt s q2 == 44) = false := beqf hn
            clear hn
            rcases hcase with ⟨ho, hle⟩ | ho
            all_goals
              go_wp2_with (first | (go_at_call 71; ((with_reducible refine HT.out.mono ?_); rintro e w2 ⟨rfl, hR2, hG2⟩; have hbx2 := (hG2.block w.heap.size (by have h1 := HG.out.size; simp at h1; omega) (by simp; omega)).trans HBX.out; have k0 := hR2.c0; have k1 := hR2.c1; have k3 := hR2.c3; have k4 := hR2.c4; have f1 := hR2.f 1; have f4 := hR2.f 4; have x4 := cell_of hbx2 4 rfl; have x5 := cell_of hbx2 5 rfl; have x6 := cell_of hbx2 6 rfl; have HR2 := Lib.hid hR2; have HG2 := Lib.hid hG2; have HBX2 := Lib.hid hbx2; clear hR2 hG2 hbx2)) | fail)
              go_quiet (fail)
              go_wp2_with (first | (go_at_call 72; ((with_reducible refine (need_ok _).mono ?_); rintro e w' ⟨rfl, rfl⟩)) | (go_at_call 79; ((with_reducible refine (next_any s q2 b _ hsm hq2 (HR2.out.drewN nq).c0 (HR2.out.drewN nq).c1).mono ?_); rintro e w' ⟨rfl, n1, rfl⟩)) | fail)
              refine jump_normal ?_
              go_end0
              rw [HOUT.out]
              refine ⟨rfl, pvr, ?_, ?_, ?_⟩
              · rw [HPO.out]; exact HR2.out.drewN (nq + n1)
              · exact grown_trans (grown_trans (World.grownBy_alloc _ _ _) HG.out) (grown_trans HG2.out (grown_drewN _ _ _))
              · exact (HP1.out.kept (by omega) (grown_trans HG2.out (grown_drewN _ _ _))).base (by omega)
          all_goals
            have HOUT : Hid (qList (qLoop f) sh (s.data.toList.drop p) = none) := Lib.hid (by rw [HUN2.out, if_neg (fun h => hn (HHB.out.1 h)), if_neg (by omega)])
            have hn0 : (byteAt s q2 == 44) = false := beqf hn
            clear hn
            rcases hcase with ⟨ho, hle⟩ | ho
            all_goals
              go_wp2_with (first | (go_at_call 71; ((with_reducible refine HT.out.mono ?_); rintro e w2 ⟨rfl, hR2, hG2⟩; have hbx2 := (hG2.block w.heap.size (by have h1 := HG.out.size; simp at h1; omega) (by simp; omega)).trans HBX.out; have k0 := hR2.c0; have k1 := hR2.c1; have k3 := hR2.c3; have k4 := hR2.c4; have f1 := hR2.f 1; have f4 := hR2.f 4; have x4 := cell_of hbx2 4 rfl; have x5 := cell_of hbx2 5 rfl; have x6 := cell_of hbx2 6 rfl; have HR2 := Lib.hid hR2; have HG2 := Lib.hid hG2; have HBX2 := Lib.hid hbx2; clear hR2 hG2 hbx2)) | fail)
              go_quiet (fail)
              go_wp2_with (first | (go_at_call 72; ((with_reducible refine (need_ok _).mono ?_); rintro e w' ⟨rfl, rfl⟩)) | (go_at_call 72; ((with_reducible refine (need_bad _).mono ?_); rintro e w' ⟨rfl, rfl⟩)) | (go_at_call 79; ((with_reducible refine (next_any s q2 b _ hsm hq2 (HR2.out.drewN nq).c0 (HR2.out.drewN nq).c1).mono ?_); rintro e w' ⟨rfl, n1, rfl⟩)) | fail)
              refine jump_panic ?_
              refine ⟨rfl, ?_⟩
              rw [HOUT.out]
              exact ⟨rfl, grown_trans (grown_trans (World.grownBy_alloc _ _ _) HG.out) (grown_trans HG2.out (grown_drewN _ _ _))⟩
end Go.Proofs.Ytjbmcjppaadkgaa

namespace Go.Proofs.Ytjbmcjppaadkgaa
set_option linter.unusedVariables false
set_option linter.unusedSimpArgs false
set_option maxRecDepth 100000
open Go.RowKit

def PassPost (w : World) (b : Nat) (s : ByteArray) (m d : Nat) (pv : Value) (o : Option (List UInt8)) (e : Ending) (w' : World) : Prop :=
  match o with
  | some r => e = .returned (.tuple #[]) ∧ Rd w' b s (posOf s r) m d pv ∧ w.grownBy w' (some b)
  | none => TBad w b e w'
def NumPost (w : World) (b : Nat) (s : ByteArray) (m d : Nat) (pv : Value) (o : Option (Nat × List UInt8)) (e : Ending) (w' : World) : Prop :=
  match o with
  | some x => e = .returned (.int .u64 x.1) ∧ Rd w' b s (posOf s x.2) m d pv ∧ w.grownBy w' (some b)
  | none => TBad w b e w'
def InPost (w : World) (b : Nat) (s : ByteArray) (m d : Nat) (pv : Value) (o : Option (Nat × List (List UInt8) × List UInt8)) (e : Ending) (w' : World) : Prop :=
  match o with
  | some x => e = .returned (.int .u64 x.1) ∧ ∃ pv', Rd w' b s (posOf s x.2.2) m d pv' ∧ w.grownBy w' (some b) ∧ Parts (d == 0) w.heap.size w' pv pv' x.2.1
  | none => TBad w b e w'

theorem pass_q (ci : Int) (c : UInt8) (hci : ((c.toNat : Nat) : Int) = ci) (hc0 : c ≠ 0) (s : ByteArray) (p m d b : Nat) (pv : Value) (w : World) (hs : s.size ≤ maxLen) (hp : p ≤ s.size) (h : Rd w b s p m d pv) :
    Calls Try.prog 87 #[.pointer (some ⟨b, 0, none⟩), .int .u8 ci] w (PassPost w b s m d pv (pass c (s.data.toList.drop p))) := by
  subst hci
  have hb := head_byte s p c hc0
  by_cases hc : byteAt s p = c.toNat
  · have hlt : p < s.size := byte_in (by intro e; exact hc0 (UInt8.toNat_inj.1 (by simp; omega))) hc
    have e : pass c (s.data.toList.drop p) = some (s.data.toList.drop (p + 1)) := by
      rw [pass_some]
      have h1 := hb.2 hc
      rw [drop_at s p hlt] at h1 ⊢
      simp at h1; rw [h1]
    rw [e]
    refine (pass_ok s p m d b pv _ w hs hlt hc h).mono fun e w' hh => ?_
    exact ⟨hh.1, by rw [posOf_drop s (p + 1) (by omega)]; exact hh.2.1, hh.2.2⟩
  · have e : pass c (s.data.toList.drop p) = none := by
      cases hx : pass c (s.data.toList.drop p) with
      | none => rfl
      | some r => rw [pass_some] at hx; exact absurd (hb.1 (by rw [hx]; rfl)) hc
    rw [e]
    exact pass_bad s p m d b pv _ w hs hp hc h

theorem number_q (sh : Shape) (s : ByteArray) (p m d b : Nat) (pv : Value) (w : World) (hs : s.size ≤ maxLen) (hp : p ≤ s.size) (h : Rd w b s p m d pv) :
    Calls Try.prog 82 #[.pointer (some ⟨b, 0, none⟩), shapeV sh] w (NumPost w b s m d pv (qNum sh (s.data.toList.drop p))) := by
  unfold qNum
  cases hn : sh.numbered with
  | false =>
    simp only [Bool.false_eq_true, if_false]
    refine (number_none sh hn s p m d b pv w h).mono fun e w' hh => ?_
    exact ⟨hh.1, by rw [posOf_drop s p hp]; exact hh.2.1, hh.2.2⟩
  | true =>
    simp only [if_true]
    cases hin : numIn sh.low sh.high ((s.data.toList.drop p).takeWhile isDig) with
    | true =>
      rw [if_pos rfl]
      refine (number_ok sh hn s p m d b pv w hs hp h hin).mono fun e w' hh => ?_
      refine ⟨?_, hh.2.1, hh.2.2⟩
      rw [hh.1]
      have := rdVal_bd ((s.data.toList.drop p).takeWhile isDig)
      exact ret_int (by show _ = (((rdVal _).toNat : Nat) : Int); omega)
    | false =>
      simp only [Bool.false_eq_true, if_false]
      exact number_bad sh hn s p m d b pv w hs hp h hin

def ListC (f : Nat) : Prop := ∀ (b m d p : Nat) (s : ByteArray) (pv : Value) (sh : Shape) (w : World), s.size ≤ 65536 → d ≤ p → p ≤ s.size → s.size - p + 1 ≤ f → 1 ≤ d →
  Rd w b s p m d pv → w.heap[m]? = some (.map (esN 11) 11) → m ≠ b → (d = 1 → pv = nilV) →
  Calls Try.prog 88 #[.pointer (some ⟨b, 0, none⟩), shapeV sh] w (LPost w b s m d pv (qList (qLoop f) sh (s.data.toList.drop p)))

theorem number_v (V : Value) (sh : Shape) (hV : V = shapeV sh) (s : ByteArray) (p m d b : Nat) (pv : Value) (w : World) (hs : s.size ≤ maxLen) (hp : p ≤ s.size) (h : Rd w b s p m d pv) :
    Calls Try.prog 82 #[.pointer (some ⟨b, 0, none⟩), V] w (NumPost w b s m d pv (qNum sh (s.data.toList.drop p))) := hV ▸ number_q sh s p m d b pv w hs hp h
theorem list_v {f : Nat} (hL : ListC f) (V : Value) (sh : Shape) (hV : V = shapeV sh) (b m d p : Nat) (s : ByteArray) (pv : Value) (w : World) (h1 : s.size ≤ 65536) (h2 : d ≤ p) (h3 : p ≤ s.size) (h4 : s.size - p + 1 ≤ f) (h5 : 1 ≤ d)
    (h6 : Rd w b s p m d pv) (h7 : w.heap[m]? = some (.map (esN 11) 11)) (h8 : m ≠ b) (h9 : d = 1 → pv = nilV) :
    Calls Try.prog 88 #[.pointer (some ⟨b, 0, none⟩), V] w (LPost w b s m d pv (qList (qLoop f) sh (s.data.toList.drop p))) := hV ▸ hL b m d p s pv sh w h1 h2 h3 h4 h5 h6 h7 h8 h9

theorem pass_suf {c : UInt8} {l r : List UInt8} (h : pass c l = some r) : r <:+ l := by
  rw [pass_some] at h; subst h; exact List.suffix_cons ..
theorem pass_len {c : UInt8} {l r : List UInt8} (h : pass c l = some r) : l.length = r.length + 1 := by
  rw [pass_some] at h; subst h; simp
theorem num_suf {sh : Shape} {l : List UInt8} {y : Nat × List UInt8} (hy : qNum sh l = some y) : y.2 <:+ l := by
  unfold qNum at hy
  split at hy
  · split at hy
    · cases hy; exact List.dropWhile_suffix _
    · cases hy
  · cases hy; exact List.suffix_refl _
theorem list_suf {f : Nat} {sh : Shape} {l : List UInt8} {y : List (List UInt8) × List UInt8} (hy : qList (qLoop f) sh l = some y) : y.2 <:+ l := by
  unfold qList at hy
  split at hy
  · cases hy; exact List.suffix_refl _
  · exact qLoop_suf _ _ _ _ _ hy


theorem Rd.up {w : World} {b : Nat} {s : ByteArray} {p m d : Nat} {pv : Value} (h : Rd w b s p m d pv) : Rd (w.setCell ⟨b, 3, none⟩ (.int .i64 ((d : Int) + 1))) b s p m (d + 1) pv := h.set3 (d + 1)
theorem Rd.down {w : World} {b : Nat} {s : ByteArray} {p m d : Nat} {pv : Value} (h : Rd w b s p m (d + 1) pv) : Rd (w.setCell ⟨b, 3, none⟩ (.int .i64 (d : Int))) b s p m d pv := h.set3 d
theorem Parts.shift {d R : Nat} {w : World} {pv pv' : Value} {ps : List (List UInt8)} (h : Parts (d + 1 == 1) R w pv pv' ps) : Parts (d == 0) R w pv pv' ps := by
  rw [show (d == 0) = (d + 1 == 1) by cases d <;> rfl]; exact h

theorem inside_any (f : Nat) (hL : ListC f) (b m d p : Nat) (s : ByteArray) (pv : Value) (sh : Shape) (w : World) (hs : s.size ≤ 65536) (hdp : d + 1 ≤ p) (hp : p ≤ s.size) (hf : s.size - p ≤ f)
    (h : Rd w b s p m d pv) (hm : w.heap[m]? = some (.map (esN 11) 11)) (hmb : m ≠ b) (hpv : d = 0 → pv = nilV) :
    Calls Try.prog 80 #[.pointer (some ⟨b, 0, none⟩), shapeV sh] w (InPost w b s m d pv (qIn (qLoop f) sh (s.data.toList.drop p))) := by
  have hsm : s.size ≤ maxLen := by unfold maxLen; omega
  have hb := h.lt
  have HR0 : Hid (Rd (w.alloc (.cells #[.bool sh.numbered, .int .u64 sh.low, .int .u64 sh.high, .bool sh.hex, .int .i64 sh.least, .int .i64 sh.most, .bool sh.ordered] 82)) b s p m d pv) := Lib.hid (h.alloc _)
  have HBX0 : Hid ((w.alloc (.cells #[.bool sh.numbered, .int .u64 sh.low, .int .u64 sh.high, .bool sh.hex, .int .i64 sh.least, .int .i64 sh.most, .bool sh.ordered] 82)).heap[w.heap.size]? = some (.cells #[.bool sh.numbered, .int .u64 sh.low, .int .u64 sh.high, .bool sh.hex, .int .i64 sh.least, .int .i64 sh.most, .bool sh.ordered] 82)) := Lib.hid (MapKept.heap_alloc w _).1
  have HM0 : Hid ((w.alloc (.cells #[.bool sh.numbered, .int .u64 sh.low, .int .u64 sh.high, .bool sh.hex, .int .i64 sh.least, .int .i64 sh.most, .bool sh.ordered] 82)).heap[m]? = some (.map (esN 11) 11)) := Lib.hid (keep_alloc hm _)
  have HL := Lib.hid hL
  have HPV := Lib.hid hpv
  clear h hm hL hpv
  cases h1 : pass 40 (s.data.toList.drop p) with
  | none =>
    have H1 := Lib.hid h1
    have HO : Hid (qIn (qLoop f) sh (s.data.toList.drop p) = none) := Lib.hid (by simp [qIn, h1])
    clear h1
    go_enter Try.func80, Try.ntmps80
    go_wp2_with (first | (go_at_call 87; ((with_reducible refine (pass_q 40 40 rfl (by decide) s p m d b pv _ hsm hp HR0.out).mono ?_); intro e wa hpost; rw [H1.out] at hpost; obtain ⟨rfl, hGa⟩ := hpost)) | fail)
    refine ⟨rfl, ?_⟩
    rw [HO.out]
    exact ⟨rfl, grown_trans (World.grownBy_alloc _ _ _) hGa⟩
  | some r1 =>
    have hu1 := suf_pos hp (pass_suf h1)
    have hl1 := pass_len h1
    have hp1 := hu1.2.1
    have hP1 : posOf s r1 = p + 1 := by simp at hl1; unfold posOf; omega
    have HE1 := Lib.hid hu1.2.2
    have H1 := Lib.hid h1
    cases h2 : qNum sh r1 with
    | none =>
      have H2 := Lib.hid h2
      have HO : Hid (qIn (qLoop f) sh (s.data.toList.drop p) = none) := Lib.hid (by simp [qIn, h1, h2])
      clear h1 h2 hu1 hl1 hP1
      go_enter Try.func80, Try.ntmps80
      go_wp2_with (first | (go_at_call 87; ((with_reducible refine (pass_q 40 40 rfl (by decide) s p m d b pv _ hsm hp HR0.out).mono ?_); intro e wa hpost; rw [H1.out] at hpost; obtain ⟨rfl, hRa, hGa⟩ := hpost; have hbx := keep_far HBX0.out hGa (by simp; omega); have HMa := Lib.hid (keep_far HM0.out hGa (by simpa using hmb)); have x0 := cell_of hbx 0 rfl; have x1 := cell_of hbx 1 rfl; have x2 := cell_of hbx 2 rfl; have x3 := cell_of hbx 3 rfl; have x4 := cell_of hbx 4 rfl; have x5 := cell_of hbx 5 rfl; have x6 := cell_of hbx 6 rfl; have HRa := Lib.hid hRa; have HGa := Lib.hid hGa; have HBXa := Lib.hid hbx; clear hRa hGa hbx)) | (go_at_call 82; ((with_reducible refine (number_v _ sh (by simp [shapeV, *]) s (posOf s r1) m d b pv _ hsm hp1 HRa.out).mono ?_); intro e wb hpost; rw [← HE1.out, H2.out] at hpost; obtain ⟨rfl, hGb⟩ := hpost)) | fail)
      refine ⟨rfl, ?_⟩
      rw [HO.out]
      exact ⟨rfl, grown_trans (World.grownBy_alloc _ _ _) (grown_trans HGa.out hGb)⟩
    | some y =>
      obtain ⟨n, r2⟩ := y
      have hu2 : posOf s r1 ≤ posOf s r2 ∧ posOf s r2 ≤ s.size ∧ r2 = s.data.toList.drop (posOf s r2) := suf_pos (rest := r2) hp1 (by rw [← hu1.2.2]; exact num_suf h2)
      have hp2 := hu2.2.1
      have hp12 := hu2.1
      have HE2 := Lib.hid hu2.2.2
      have H2 := Lib.hid h2
      have hneb : ¬ w.heap.size = b := by omega
      have hneb' : ¬ b = w.heap.size := by omega
      have hcomma : (sh.numbered = true ∧ qComma sh r2 = pass 44 r2) ∨ (sh.numbered = false ∧ qComma sh r2 = some r2) := by
        unfold qComma; cases sh.numbered <;> simp
      rcases hcomma with ⟨hn, hq⟩ | ⟨hn, hq⟩
      · rw [hn] at HR0 HBX0 HM0
        cases h3 : pass 44 r2 with
        | none =>
          have H3 := Lib.hid h3
          have HO : Hid (qIn (qLoop f) sh (s.data.toList.drop p) = none) := Lib.hid (by simp [qIn, h1, h2, hq, h3])
          clear h1 h2 h3 hu1 hu2 hl1 hP1 hq
          go_enter Try.func80, Try.ntmps80
          go_wp2_with (first | (go_at_call 87; ((with_reducible refine (pass_q 40 40 rfl (by decide) s p m d b pv _ hsm hp HR0.out).mono ?_); intro e wa hpost; rw [H1.out] at hpost; obtain ⟨rfl, hRa, hGa⟩ := hpost; have hbx := keep_far HBX0.out hGa (by simp; omega); have HMa := Lib.hid (keep_far HM0.out hGa (by simpa using hmb)); have x0 := cell_of hbx 0 rfl; have x1 := cell_of hbx 1 rfl; have x2 := cell_of hbx 2 rfl; have x3 := cell_of hbx 3 rfl; have x4 := cell_of hbx 4 rfl; have x5 := cell_of hbx 5 rfl; have x6 := cell_of hbx 6 rfl; have HRa := Lib.hid hRa; have HGa := Lib.hid hGa; have HBXa := Lib.hid hbx; clear hRa hGa hbx)) | (go_at_call 82; ((with_reducible refine (number_v _ sh (by simp [shapeV, *]) s (posOf s r1) m d b pv _ hsm hp1 HRa.out).mono ?_); intro e wb hpost; rw [← HE1.out, H2.out] at hpost; obtain ⟨rfl, hRb, hGb⟩ := hpost; have hbx := keep_far HBXa.out hGb (by simp; omega); have HMb := Lib.hid (keep_far HMa.out hGb (by simpa using hmb)); have x0 := cell_of hbx 0 rfl; have x1 := cell_of hbx 1 rfl; have x2 := cell_of hbx 2 rfl; have x3 := cell_of hbx 3 rfl; have x4 := cell_of hbx 4 rfl; have x5 := cell_of hbx 5 rfl; have x6 := cell_of hbx 6 rfl; have d3 := hRb.c3; have e3 := hRb.f 3; have HRb := Lib.hid hRb; have HGb := Lib.hid hGb; have HBXb := Lib.hid hbx; clear hRb hGb hbx)) | (go_at_call 87; ((with_reducible refine (pass_q 44 44 rfl (by decide) s (posOf s r2) m d b pv _ hsm hp2 HRb.out).mono ?_); intro e wc hpost; rw [← HE2.out, H3.out] at hpost; obtain ⟨rfl, hGc⟩ := hpost)) | fail)
          refine ⟨rfl, ?_⟩
          rw [HO.out]
          exact ⟨rfl, grown_trans (World.grownBy_alloc _ _ _) (grown_trans HGa.out (grown_trans HGb.out hGc))⟩
        | some r3 =>
          have hu3 : posOf s r2 ≤ posOf s r3 ∧ posOf s r3 ≤ s.size ∧ r3 = s.data.toList.drop (posOf s r3) := suf_pos (rest := r3) hp2 (by rw [← hu2.2.2]; exact pass_suf h3)
          have hp3 := hu3.2.1
          have HE3 := Lib.hid hu3.2.2
          have H3 := Lib.hid h3
          have hp3f : s.size - posOf s r3 + 1 ≤ f := by omega
          have hdp3 : d + 1 ≤ posOf s r3 := by omega
          cases h4 : qList (qLoop f) sh r3 with
          | none =>
            have H4 := Lib.hid h4
            have HO : Hid (qIn (qLoop f) sh (s.data.toList.drop p) = none) := Lib.hid (by simp [qIn, h1, h2, hq, h3, h4])
            clear h1 h2 h3 h4 hu1 hu2 hu3 hl1 hP1 hq
            go_enter Try.func80, Try.ntmps80
            go_wp2_with (first | (go_at_call 87; ((with_reducible refine (pass_q 40 40 rfl (by decide) s p m d b pv _ hsm hp HR0.out).mono ?_); intro e wa hpost; rw [H1.out] at hpost; obtain ⟨rfl, hRa, hGa⟩ := hpost; have hbx := keep_far HBX0.out hGa (by simp; omega); have HMa := Lib.hid (keep_far HM0.out hGa (by simpa using hmb)); have x0 := cell_of hbx 0 rfl; have x1 := cell_of hbx 1 rfl; have x2 := cell_of hbx 2 rfl; have x3 := cell_of hbx 3 rfl; have x4 := cell_of hbx 4 rfl; have x5 := cell_of hbx 5 rfl; have x6 := cell_of hbx 6 rfl; have HRa := Lib.hid hRa; have HGa := Lib.hid hGa; have HBXa := Lib.hid hbx; clear hRa hGa hbx)) | (go_at_call 82; ((with_reducible refine (number_v _ sh (by simp [shapeV, *]) s (posOf s r1) m d b pv _ hsm hp1 HRa.out).mono ?_); intro e wb hpost; rw [← HE1.out, H2.out] at hpost; obtain ⟨rfl, hRb, hGb⟩ := hpost; have hbx := keep_far HBXa.out hGb (by simp; omega); have HMb := Lib.hid (keep_far HMa.out hGb (by simpa using hmb)); have x0 := cell_of hbx 0 rfl; have x1 := cell_of hbx 1 rfl; have x2 := cell_of hbx 2 rfl; have x3 := cell_of hbx 3 rfl; have x4 := cell_of hbx 4 rfl; have x5 := cell_of hbx 5 rfl; have x6 := cell_of hbx 6 rfl; have d3 := hRb.c3; have e3 := hRb.f 3; have HRb := Lib.hid hRb; have HGb := Lib.hid hGb; have HBXb := Lib.hid hbx; clear hRb hGb hbx)) | (go_at_call 87; ((with_reducible refine (pass_q 44 44 rfl (by decide) s (posOf s r2) m d b pv _ hsm hp2 HRb.out).mono ?_); intro e wc hpost; rw [← HE2.out, H3.out] at hpost; obtain ⟨rfl, hRc, hGc⟩ := hpost; have hbx := keep_far HBXb.out hGc (by simp; omega); have HMc := Lib.hid (keep_far HMb.out hGc (by simpa using hmb)); have x0 := cell_of hbx 0 rfl; have x1 := cell_of hbx 1 rfl; have x2 := cell_of hbx 2 rfl; have x3 := cell_of hbx 3 rfl; have x4 := cell_of hbx 4 rfl; have x5 := cell_of hbx 5 rfl; have x6 := cell_of hbx 6 rfl; have d3 := hRc.c3; have e3 := hRc.f 3; have HRc := Lib.hid hRc; have HGc := Lib.hid hGc; have HBXc := Lib.hid hbx; clear hRc hGc hbx)) | (go_at_call 88; ((with_reducible refine (list_v HL.out _ sh (by simp [shapeV, *]) b m (d + 1) (posOf s r3) s pv _ hs hdp3 hp3 hp3f (by omega) HRc.out.up ((heap_set_other hmb).trans HMc.out) hmb (fun hd => HPV.out (by omega))).mono ?_); intro e wd hpost; rw [← HE3.out, H4.out] at hpost; obtain ⟨rfl, hGd⟩ := hpost)) | fail)
            refine ⟨rfl, ?_⟩
            rw [HO.out]
            exact ⟨rfl, grown_trans (World.grownBy_alloc _ _ _) (grown_trans HGa.out (grown_trans HGb.out (grown_trans HGc.out (grown_trans (grown_set _ _ _ _) hGd))))⟩
          | some z =>
            obtain ⟨ps, r4⟩ := z
            have hu4 : posOf s r3 ≤ posOf s r4 ∧ posOf s r4 ≤ s.size ∧ r4 = s.data.toList.drop (posOf s r4) := suf_pos (rest := r4) hp3 (by rw [← hu3.2.2]; exact list_suf h4)
            have hp4 := hu4.2.1
            have HE4 := Lib.hid hu4.2.2
            have H4 := Lib.hid h4
            cases h5 : pass 41 r4 with
            | none =>
              have H5 := Lib.hid h5
              have HO : Hid (qIn (qLoop f) sh (s.data.toList.drop p) = none) := Lib.hid (by simp [qIn, h1, h2, hq, h3, h4, h5])
              clear h1 h2 h3 h4 h5 hu1 hu2 hu3 hu4 hl1 hP1 hq
              go_enter Try.func80, Try.ntmps80
              go_wp2_with (first | (go_at_call 87; ((with_reducible refine (pass_q 40 40 rfl (by decide) s p m d b pv _ hsm hp HR0.out).mono ?_); intro e wa hpost; rw [H1.out] at hpost; obtain ⟨rfl, hRa, hGa⟩ := hpost; have hbx := keep_far HBX0.out hGa (by simp; omega); have HMa := Lib.hid (keep_far HM0.out hGa (by simpa using hmb)); have x0 := cell_of hbx 0 rfl; have x1 := cell_of hbx 1 rfl; have x2 := cell_of hbx 2 rfl; have x3 := cell_of hbx 3 rfl; have x4 := cell_of hbx 4 rfl; have x5 := cell_of hbx 5 rfl; have x6 := cell_of hbx 6 rfl; have HRa := Lib.hid hRa; have HGa := Lib.hid hGa; have HBXa := Lib.hid hbx; clear hRa hGa hbx)) | (go_at_call 82; ((with_reducible refine (number_v _ sh (by simp [shapeV, *]) s (posOf s r1) m d b pv _ hsm hp1 HRa.out).mono ?_); intro e wb hpost; rw [← HE1.out, H2.out] at hpost; obtain ⟨rfl, hRb, hGb⟩ := hpost; have hbx := keep_far HBXa.out hGb (by simp; omega); have HMb := Lib.hid (keep_far HMa.out hGb (by simpa using hmb)); have x0 := cell_of hbx 0 rfl; have x1 := cell_of hbx 1 rfl; have x2 := cell_of hbx 2 rfl; have x3 := cell_of hbx 3 rfl; have x4 := cell_of hbx 4 rfl; have x5 := cell_of hbx 5 rfl; have x6 := cell_of hbx 6 rfl; have d3 := hRb.c3; have e3 := hRb.f 3; have HRb := Lib.hid hRb; have HGb := Lib.hid hGb; have HBXb := Lib.hid hbx; clear hRb hGb hbx)) | (go_at_call 87; ((with_reducible refine (pass_q 44 44 rfl (by decide) s (posOf s r2) m d b pv _ hsm hp2 HRb.out).mono ?_); intro e wc hpost; rw [← HE2.out, H3.out] at hpost; obtain ⟨rfl, hRc, hGc⟩ := hpost; have hbx := keep_far HBXb.out hGc (by simp; omega); have HMc := Lib.hid (keep_far HMb.out hGc (by simpa using hmb)); have x0 := cell_of hbx 0 rfl; have x1 := cell_of hbx 1 rfl; have x2 := cell_of hbx 2 rfl; have x3 := cell_of hbx 3 rfl; have x4 := cell_of hbx 4 rfl; have x5 := cell_of hbx 5 rfl; have x6 := cell_of hbx 6 rfl; have d3 := hRc.c3; have e3 := hRc.f 3; have HRc := Lib.hid hRc; have HGc := Lib.hid hGc; have HBXc := Lib.hid hbx; clear hRc hGc hbx)) | (go_at_call 88; ((with_reducible refine (list_v HL.out _ sh (by simp [shapeV, *]) b m (d + 1) (posOf s r3) s pv _ hs hdp3 hp3 hp3f (by omega) HRc.out.up ((heap_set_other hmb).trans HMc.out) hmb (fun hd => HPV.out (by omega))).mono ?_); intro e wd hpost; rw [← HE3.out, H4.out] at hpost; obtain ⟨rfl, pv2, hRd, hGd, hPd⟩ := hpost; have d3 := hRd.c3; have e3 := hRd.f 3; have HRd := Lib.hid hRd; have HGd := Lib.hid hGd; have HPd := Lib.hid hPd; clear hRd hGd hPd)) | (go_at_call 87; ((with_reducible refine (pass_q 41 41 rfl (by decide) s (posOf s r4) m d b pv2 _ hsm hp4 HRd.out.down).mono ?_); intro e we hpost; rw [← HE4.out, H5.out] at hpost; obtain ⟨rfl, hGe⟩ := hpost)) | fail)
              refine ⟨rfl, ?_⟩
              rw [HO.out]
              exact ⟨rfl, grown_trans (World.grownBy_alloc _ _ _) (grown_trans HGa.out (grown_trans HGb.out (grown_trans HGc.out (grown_trans (grown_set _ _ _ _) (grown_trans HGd.out (grown_trans (grown_set _ _ _ _) hGe))))))⟩
            | some r5 =>
              have H5 := Lib.hid h5
              have HO : Hid (qIn (qLoop f) sh (s.data.toList.drop p) = some (n, ps, r5)) := Lib.hid (by simp [qIn, h1, h2, hq, h3, h4, h5])
              clear h1 h2 h3 h4 h5 hu1 hu2 hu3 hu4 hl1 hP1 hq
              go_enter Try.func80, Try.ntmps80
              go_wp2_with (first | (go_at_call 87; ((with_reducible refine (pass_q 40 40 rfl (by decide) s p m d b pv _ hsm hp HR0.out).mono ?_); intro e wa hpost; rw [H1.out] at hpost; obtain ⟨rfl, hRa, hGa⟩ := hpost; have hbx := keep_far HBX0.out hGa (by simp; omega); have HMa := Lib.hid (keep_far HM0.out hGa (by simpa using hmb)); have x0 := cell_of hbx 0 rfl; have x1 := cell_of hbx 1 rfl; have x2 := cell_of hbx 2 rfl; have x3 := cell_of hbx 3 rfl; have x4 := cell_of hbx 4 rfl; have x5 := cell_of hbx 5 rfl; have x6 := cell_of hbx 6 rfl; have HRa := Lib.hid hRa; have HGa := Lib.hid hGa; have HBXa := Lib.hid hbx; clear hRa hGa hbx)) | (go_at_call 82; ((with_reducible refine (number_v _ sh (by simp [shapeV, *]) s (posOf s r1) m d b pv _ hsm hp1 HRa.out).mono ?_); intro e wb hpost; rw [← HE1.out, H2.out] at hpost; obtain ⟨rfl, hRb, hGb⟩ := hpost; have hbx := keep_far HBXa.out hGb (by simp; omega); have HMb := Lib.hid (keep_far HMa.out hGb (by simpa using hmb)); have x0 := cell_of hbx 0 rfl; have x1 := cell_of hbx 1 rfl; have x2 := cell_of hbx 2 rfl; have x3 := cell_of hbx 3 rfl; have x4 := cell_of hbx 4 rfl; have x5 := cell_of hbx 5 rfl; have x6 := cell_of hbx 6 rfl; have d3 := hRb.c3; have e3 := hRb.f 3; have HRb := Lib.hid hRb; have HGb := Lib.hid hGb; have HBXb := Lib.hid hbx; clear hRb hGb hbx)) | (go_at_call 87; ((with_reducible refine (pass_q 44 44 rfl (by decide) s (posOf s r2) m d b pv _ hsm hp2 HRb.out).mono ?_); intro e wc hpost; rw [← HE2.out, H3.out] at hpost; obtain ⟨rfl, hRc, hGc⟩ := hpost; have hbx := keep_far HBXb.out hGc (by simp; omega); have HMc := Lib.hid (keep_far HMb.out hGc (by simpa using hmb)); have x0 := cell_of hbx 0 rfl; have x1 := cell_of hbx 1 rfl; have x2 := cell_of hbx 2 rfl; have x3 := cell_of hbx 3 rfl; have x4 := cell_of hbx 4 rfl; have x5 := cell_of hbx 5 rfl; have x6 := cell_of hbx 6 rfl; have d3 := hRc.c3; have e3 := hRc.f 3; have HRc := Lib.hid hRc; have HGc := Lib.hid hGc; have HBXc := Lib.hid hbx; clear hRc hGc hbx)) | (go_at_call 88; ((with_reducible refine (list_v HL.out _ sh (by simp [shapeV, *]) b m (d + 1) (posOf s r3) s pv _ hs hdp3 hp3 hp3f (by omega) HRc.out.up ((heap_set_other hmb).trans HMc.out) hmb (fun hd => HPV.out (by omega))).mono ?_); intro e wd hpost; rw [← HE3.out, H4.out] at hpost; obtain ⟨rfl, pv2, hRd, hGd, hPd⟩ := hpost; have d3 := hRd.c3; have e3 := hRd.f 3; have HRd := Lib.hid hRd; have HGd := Lib.hid hGd; have HPd := Lib.hid hPd; clear hRd hGd hPd)) | (go_at_call 87; ((with_reducible refine (pass_q 41 41 rfl (by decide) s (posOf s r4) m d b pv2 _ hsm hp4 HRd.out.down).mono ?_); intro e we hpost; rw [← HE4.out, H5.out] at hpost; obtain ⟨rfl, hRe, hGe⟩ := hpost; have HRe := Lib.hid hRe; have HGe := Lib.hid hGe; clear hRe hGe)) | fail)
              go_ret
              rw [HO.out]
              refine ⟨rfl, pv2, HRe.out, grown_trans (World.grownBy_alloc _ _ _) (grown_trans HGa.out (grown_trans HGb.out (grown_trans HGc.out (grown_trans (grown_set _ _ _ _) (grown_trans HGd.out (grown_trans (grown_set _ _ _ _) HGe.out)))))), ?_⟩
              have h1 := HGa.out.size; have h2 := HGb.out.size; have h3 := HGc.out.size
              simp at h1
              exact ((HPd.out.kept (by simp [World.setCell]; omega) (grown_trans (grown_set _ _ _ _) HGe.out)).base (by simp [World.setCell]; omega)).shift
      · rw [hn] at HR0 HBX0 HM0
        have hp3f : s.size - posOf s r2 + 1 ≤ f := by omega
        have hdp3 : d + 1 ≤ posOf s r2 := by omega
        cases h4 : qList (qLoop f) sh r2 with
        | none =>
          have H4 := Lib.hid h4
          have HO : Hid (qIn (qLoop f) sh (s.data.toList.drop p) = none) := Lib.hid (by simp [qIn, h1, h2, hq, h4])
          clear h1 h2 h4 hu1 hu2 hl1 hP1 hq
          go_enter Try.func80, Try.ntmps80
          go_wp2_with (first | (go_at_call 87; ((with_reducible refine (pass_q 40 40 rfl (by decide) s p m d b pv _ hsm hp HR0.out).mono ?_); intro e wa hpost; rw [H1.out] at hpost; obtain ⟨rfl, hRa, hGa⟩ := hpost; have hbx := keep_far HBX0.out hGa (by simp; omega); have HMa := Lib.hid (keep_far HM0.out hGa (by simpa using hmb)); have x0 := cell_of hbx 0 rfl; have x1 := cell_of hbx 1 rfl; have x2 := cell_of hbx 2 rfl; have x3 := cell_of hbx 3 rfl; have x4 := cell_of hbx 4 rfl; have x5 := cell_of hbx 5 rfl; have x6 := cell_of hbx 6 rfl; have HRa := Lib.hid hRa; have HGa := Lib.hid hGa; have HBXa := Lib.hid hbx; clear hRa hGa hbx)) | (go_at_call 82; ((with_reducible refine (number_v _ sh (by simp [shapeV, *]) s (posOf s r1) m d b pv _ hsm hp1 HRa.out).mono ?_); intro e wb hpost; rw [← HE1.out, H2.out] at hpost; obtain ⟨rfl, hRb, hGb⟩ := hpost; have hbx := keep_far HBXa.out hGb (by simp; omega); have HMb := Lib.hid (keep_far HMa.out hGb (by simpa using hmb)); have x0 := cell_of hbx 0 rfl; have x1 := cell_of hbx 1 rfl; have x2 := cell_of hbx 2 rfl; have x3 := cell_of hbx 3 rfl; have x4 := cell_of hbx 4 rfl; have x5 := cell_of hbx 5 rfl; have x6 := cell_of hbx 6 rfl; have d3 := hRb.c3; have e3 := hRb.f 3; have HRb := Lib.hid hRb; have HGb := Lib.hid hGb; have HBXb := Lib.hid hbx; clear hRb hGb hbx)) | (go_at_call 88; ((with_reducible refine (list_v HL.out _ sh (by simp [shapeV, *]) b m (d + 1) (posOf s r2) s pv _ hs hdp3 hp2 hp3f (by omega) HRb.out.up ((heap_set_other hmb).trans HMb.out) hmb (fun hd => HPV.out (by omega))).mono ?_); intro e wd hpost; rw [← HE2.out, H4.out] at hpost; obtain ⟨rfl, hGd⟩ := hpost)) | fail)
          refine ⟨rfl, ?_⟩
          rw [HO.out]
          exact ⟨rfl, grown_trans (World.grownBy_alloc _ _ _) (grown_trans HGa.out (grown_trans HGb.out (grown_trans (grown_set _ _ _ _) hGd)))⟩
        | some z =>
          obtain ⟨ps, r4⟩ := z
          have hu4 : posOf s r2 ≤ posOf s r4 ∧ posOf s r4 ≤ s.size ∧ r4 = s.data.toList.drop (posOf s r4) := suf_pos (rest := r4) hp2 (by rw [← hu2.2.2]; exact list_suf h4)
          have hp4 := hu4.2.1
          have HE4 := Lib.hid hu4.2.2
          have H4 := Lib.hid h4
          cases h5 : pass 41 r4 with
          | none =>
            have H5 := Lib.hid h5
            have HO : Hid (qIn (qLoop f) sh (s.data.toList.drop p) = none) := Lib.hid (by simp [qIn, h1, h2, hq, h4, h5])
            clear h1 h2 h4 h5 hu1 hu2 hu4 hl1 hP1 hq
            go_enter Try.func80, Try.ntmps80
            go_wp2_with (first | (go_at_call 87; ((with_reducible refine (pass_q 40 40 rfl (by decide) s p m d b pv _ hsm hp HR0.out).mono ?_); intro e wa hpost; rw [H1.out] at hpost; obtain ⟨rfl, hRa, hGa⟩ := hpost; have hbx := keep_far HBX0.out hGa (by simp; omega); have HMa := Lib.hid (keep_far HM0.out hGa (by simpa using hmb)); have x0 := cell_of hbx 0 rfl; have x1 := cell_of hbx 1 rfl; have x2 := cell_of hbx 2 rfl; have x3 := cell_of hbx 3 rfl; have x4 := cell_of hbx 4 rfl; have x5 := cell_of hbx 5 rfl; have x6 := cell_of hbx 6 rfl; have HRa := Lib.hid hRa; have HGa := Lib.hid hGa; have HBXa := Lib.hid hbx; clear hRa hGa hbx)) | (go_at_call 82; ((with_reducible refine (number_v _ sh (by simp [shapeV, *]) s (posOf s r1) m d b pv _ hsm hp1 HRa.out).mono ?_); intro e wb hpost; rw [← HE1.out, H2.out] at hpost; obtain ⟨rfl, hRb, hGb⟩ := hpost; have hbx := keep_far HBXa.out hGb (by simp; omega); have HMb := Lib.hid (keep_far HMa.out hGb (by simpa using hmb)); have x0 := cell_of hbx 0 rfl; have x1 := cell_of hbx 1 rfl; have x2 := cell_of hbx 2 rfl; have x3 := cell_of hbx 3 rfl; have x4 := cell_of hbx 4 rfl; have x5 := cell_of hbx 5 rfl; have x6 := cell_of hbx 6 rfl; have d3 := hRb.c3; have e3 := hRb.f 3; have HRb := Lib.hid hRb; have HGb := Lib.hid hGb; have HBXb := Lib.hid hbx; clear hRb hGb hbx)) | (go_at_call 88; ((with_reducible refine (list_v HL.out _ sh (by simp [shapeV, *]) b m (d + 1) (posOf s r2) s pv _ hs hdp3 hp2 hp3f (by omega) HRb.out.up ((heap_set_other hmb).trans HMb.out) hmb (fun hd => HPV.out (by omega))).mono ?_); intro e wd hpost; rw [← HE2.out, H4.out] at hpost; obtain ⟨rfl, pv2, hRd, hGd, hPd⟩ := hpost; have d3 := hRd.c3; have e3 := hRd.f 3; have HRd := Lib.hid hRd; have HGd := Lib.hid hGd; have HPd := Lib.hid hPd; clear hRd hGd hPd)) | (go_at_call 87; ((with_reducible refine (pass_q 41 41 rfl (by decide) s (posOf s r4) m d b pv2 _ hsm hp4 HRd.out.down).mono ?_); intro e we hpost; rw [← HE4.out, H5.out] at hpost; obtain ⟨rfl, hGe⟩ := hpost)) | fail)
            refine ⟨rfl, ?_⟩
            rw [HO.out]
            exact ⟨rfl, grown_trans (World.grownBy_alloc _ _ _) (grown_trans HGa.out (grown_trans HGb.out (grown_trans (grown_set _ _ _ _) (grown_trans HGd.out (grown_trans (grown_set _ _ _ _) hGe)))))⟩
          | some r5 =>
            have H5 := Lib.hid h5
            have HO : Hid (qIn (qLoop f) sh (s.data.toList.drop p) = some (n, ps, r5)) := Lib.hid (by simp [qIn, h1, h2, hq, h4, h5])
            clear h1 h2 h4 h5 hu1 hu2 hu4 hl1 hP1 hq
            go_enter Try.func80, Try.ntmps80
            go_wp2_with (first | (go_at_call 87; ((with_reducible refine (pass_q 40 40 rfl (by decide) s p m d b pv _ hsm hp HR0.out).mono ?_); intro e wa hpost; rw [H1.out] at hpost; obtain ⟨rfl, hRa, hGa⟩ := hpost; have hbx := keep_far HBX0.out hGa (by simp; omega); have HMa := Lib.hid (keep_far HM0.out hGa (by simpa using hmb)); have x0 := cell_of hbx 0 rfl; have x1 := cell_of hbx 1 rfl; have x2 := cell_of hbx 2 rfl; have x3 := cell_of hbx 3 rfl; have x4 := cell_of hbx 4 rfl; have x5 := cell_of hbx 5 rfl; have x6 := cell_of hbx 6 rfl; have HRa := Lib.hid hRa; have HGa := Lib.hid hGa; have HBXa := Lib.hid hbx; clear hRa hGa hbx)) | (go_at_call 82; ((with_reducible refine (number_v _ sh (by simp [shapeV, *]) s (posOf s r1) m d b pv _ hsm hp1 HRa.out).mono ?_); intro e wb hpost; rw [← HE1.out, H2.out] at hpost; obtain ⟨rfl, hRb, hGb⟩ := hpost; have hbx := keep_far HBXa.out hGb (by simp; omega); have HMb := Lib.hid (keep_far HMa.out hGb (by simpa using hmb)); have x0 := cell_of hbx 0 rfl; have x1 := cell_of hbx 1 rfl; have x2 := cell_of hbx 2 rfl; have x3 := cell_of hbx 3 rfl; have x4 := cell_of hbx 4 rfl; have x5 := cell_of hbx 5 rfl; have x6 := cell_of hbx 6 rfl; have d3 := hRb.c3; have e3 := hRb.f 3; have HRb := Lib.hid hRb; have HGb := Lib.hid hGb; have HBXb := Lib.hid hbx; clear hRb hGb hbx)) | (go_at_call 88; ((with_reducible refine (list_v HL.out _ sh (by simp [shapeV, *]) b m (d + 1) (posOf s r2) s pv _ hs hdp3 hp2 hp3f (by omega) HRb.out.up ((heap_set_other hmb).trans HMb.out) hmb (fun hd => HPV.out (by omega))).mono ?_); intro e wd hpost; rw [← HE2.out, H4.out] at hpost; obtain ⟨rfl, pv2, hRd, hGd, hPd⟩ := hpost; have d3 := hRd.c3; have e3 := hRd.f 3; have HRd := Lib.hid hRd; have HGd := Lib.hid hGd; have HPd := Lib.hid hPd; clear hRd hGd hPd)) | (go_at_call 87; ((with_reducible refine (pass_q 41 41 rfl (by decide) s (posOf s r4) m d b pv2 _ hsm hp4 HRd.out.down).mono ?_); intro e we hpost; rw [← HE4.out, H5.out] at hpost; obtain ⟨rfl, hRe, hGe⟩ := hpost; have HRe := Lib.hid hRe; have HGe := Lib.hid hGe; clear hRe hGe)) | fail)
            go_ret
            rw [HO.out]
            refine ⟨rfl, pv2, HRe.out, grown_trans (World.grownBy_alloc _ _ _) (grown_trans HGa.out (grown_trans HGb.out (grown_trans (grown_set _ _ _ _) (grown_trans HGd.out (grown_trans (grown_set _ _ _ _) HGe.out))))), ?_⟩
            have h1 := HGa.out.size; have h2 := HGb.out.size
            simp at h1
            exact ((HPd.out.kept (by simp [World.setCell]; omega) (grown_trans (grown_set _ _ _ _) HGe.out)).base (by simp [World.setCell]; omega)).shift
end Go.Proofs.Ytjbmcjppaadkgaa
