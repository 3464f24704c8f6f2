import Derived.Test.YtbaceiohcbhpaaaDoorNum8
namespace Go.Proofs.YtbaceiohcbhpaaaDoor
set_option linter.unusedVariables false
set_option linter.unusedSimpArgs false
set_option maxRecDepth 100000
open Go.RowKit
attribute [local go_sem ↓] Go.wp_at_zero Go.wp_at_succ

def HexRet (w : World) (l : List UInt8) (e : Ending) (w' : World) : Prop :=
  ∃ v, e = .returned (.tuple #[v, .int .i64 (hxCode l)]) ∧ Bytes w' v (hxBytes l) ∧ Below w.heap.size w w'

theorem bytes_nil (w : World) : Bytes w (.slice none 0 0) [] := ⟨none, 0, rfl, .inl rfl⟩

theorem bytes_own {w : World} {base : Nat} {v : Value} {n : Nat} {L : List UInt8} (h : w.ownsRow base 5 1 v n (cellsOf L)) : Bytes w v L := by
  have hl : n = L.length := by have := h.1; simp [cellsOf] at this; omega
  rcases h.2 with ⟨hv, hn⟩ | ⟨g, cap, cur, hv, _⟩
  · obtain rfl : L = [] := List.length_eq_zero_iff.mp (by omega)
    exact ⟨none, 0, hv, .inl rfl⟩
  · refine ⟨some ⟨g, 0, none⟩, cap, by rw [hv, hl], .inr ⟨g, 0, rfl, fun i hi => ?_⟩⟩
    have := h.cells (g := g) (by rw [hv]; rfl) i (Value.int .u8 (L.getD i 0).toNat) (by simp [cellsOf, List.getElem?_eq_getElem hi, List.getD])
    rw [add_at] at this
    exact this

theorem unhex_len : ∀ n (l : List UInt8), l.length = 2 * n → (unhex l).length = n := by
  intro n
  induction n with
  | zero => intro l h; have : l = [] := by simpa using h
            subst this; rfl
  | succ n ih =>
    intro l h
    match l, h with
    | a :: b :: l, h => simp only [unhex, List.length_cons]; rw [ih l (by simp at h; omega)]

theorem take_two (s : ByteArray) (k : Nat) (h : k + 1 < s.size) : s.data.toList.take (k + 2) = s.data.toList.take k ++ [s[k], s[k + 1]] := by
  rw [show k + 2 = k + 1 + 1 by omega, take_snoc s (k + 1) h, take_snoc s k (by omega)]; simp
theorem unhex_next (s : ByteArray) (k : Nat) (c d : UInt8) (h : k + 1 < s.size) (he : k % 2 = 0) (hc : s[k] = c) (hd : s[k + 1] = d) : unhex (s.data.toList.take (k + 2)) = unhex (s.data.toList.take k) ++ [two c d] := by
  rw [take_two s k h, hc, hd]
  exact unhex_snoc2 (k / 2) _ _ _ (by rw [List.length_take]; have : s.data.toList.length = s.size := by simp
                                      omega)

theorem or16 (a b : Int) (ha : 0 ≤ a) (ha2 : a < 16) (hb : 0 ≤ b) (hb2 : b < 16) : bits BinOp.or IntKind.u64 (a * 16) b = a * 16 + b := by
  have key : ∀ i j : Fin 16, bits BinOp.or IntKind.u64 ((i.val : Int) * 16) (j.val : Int) = (i.val : Int) * 16 + j.val := by decide +kernel
  have := key ⟨a.toNat, by omega⟩ ⟨b.toNat, by omega⟩
  rw [show ((⟨a.toNat, by omega⟩ : Fin 16).val : Int) = a by simp; omega, show ((⟨b.toNat, by omega⟩ : Fin 16).val : Int) = b by simp; omega] at this
  exact this
theorem wrap_u64 (a : Int) (h0 : 0 ≤ a) (h : a < 18446744073709551616) : IntKind.u64.wrap a = a := by
  simp only [IntKind.wrap, IntKind.bits, IntKind.signed]; simp; omega
theorem wrap_u8 (a : Int) (h0 : 0 ≤ a) (h : a < 256) : IntKind.u8.wrap a = a := by
  simp only [IntKind.wrap, IntKind.bits, IntKind.signed]; simp; omega
theorem wrap_i64 (a : Int) (h0 : 0 ≤ a) (h : a < 9223372036854775808) : IntKind.i64.wrap a = a := by
  simp only [IntKind.wrap, IntKind.bits, IntKind.signed]; simp; omega
theorem wrap_i32 (a : Int) (h0 : 0 ≤ a) (h : a < 2147483648) : IntKind.i32.wrap a = a := by
  simp only [IntKind.wrap, IntKind.bits, IntKind.signed]; simp; omega

theorem two_val (c d : UInt8) (hc : val c.toNat < 16) (hd : val d.toNat < 16) : ((two c d).toNat : Int) = val c.toNat * 16 + val d.toNat := by
  have b1 := val_bd c.toNat
  have b2 := val_bd d.toNat
  unfold two
  rw [toNat_ofNat (by omega)]; omega

theorem readhex_rel {L L2 : List UInt8} {b : UInt8} {x : Int} {w wr w1 : World} {o : Obj} {v v' : Value} {n : Nat} (hn : L2 = L ++ [b]) (hb : (b.toNat : Int) = x) (hB : Below w.heap.size w wr)
    (ho : ∀ g, v.ownBlock = some g → w.heap.size ≤ g)
    (h : w1.ownsRow w.heap.size 5 1 v' n (cellsOf L ++ [.int .u8 x])) (hg : (wr.alloc o).drew.grownBy w1 v.ownBlock) :
    w1.ownsRow w.heap.size 5 1 v' n (cellsOf L2) ∧ Below w.heap.size w w1 := by
  refine ⟨?_, ((hB.alloc hB.size o).drew).grown hg (by have := hB.size; show w.heap.size ≤ (wr.alloc o).heap.size; simp; omega) (fun g hg => ho g hg)⟩
  have e : cellsOf L2 = cellsOf L ++ [.int .u8 x] := by rw [hn, ← hb]; simp [cellsOf]
  rw [e]; exact h

theorem readhex_any (s : ByteArray) (hs : s.size ≤ 1000000) (w : World) :
    Calls Tryd.prog 37 #[.string s] w (HexRet w s.data.toList) := by
  obtain ⟨i0, hi0, hz0, hz1, hz2⟩ := info_parts Tryd.info5
  have hsm : s.size ≤ maxLen := by unfold maxLen; omega
  have hlen : s.data.toList.length = s.size := by simp
  go_enter Tryd.func37, Tryd.ntmps37
  go_wp2_with fail
  refine wp_scope_goto 0 (fun n a' w' => ∃ (v : Value) (k : Nat), ∃ (u1 u6 u7 u8 u9 u10 u11 u12 u13 u14 u15 u16 u17 u18 u19 u20 u21 u22 u23 u24 u25 u26 u27 u28 u29 u30 u31 u32 u33 u34 u35 u36 : Value), a' = { tmps := #[.string s, u1, .slice none 0 0, .int .i64 0, v, .int .i64 k, u6, u7, u8, u9, u10, u11, u12, u13, u14, u15, u16, u17, u18, u19, u20, u21, u22, u23, u24, u25, u26, u27, u28, u29, u30, u31, u32, u33, u34, u35, u36], defers := [] } ∧ k ≤ s.size ∧ n = s.size - k ∧ k % 2 = 0 ∧ s.size % 2 = 0 ∧ digs s.data.toList 16 = true ∧ w'.ownsRow w.heap.size 5 1 v (k / 2) (cellsOf (unhex (s.data.toList.take k))) ∧ Below w.heap.size w w') rfl ?_ ?_
  · intro R hpass hout
    cases hd : digs s.data.toList 16 with
    | false =>
      have HC : Hid (hxCode s.data.toList = 3 ∧ hxBytes s.data.toList = []) := Lib.hid (by simp [hxCode, hxBytes, hd])
      go_wp2_with (first | (go_at_call 40; (with_reducible refine (digits_any s 16 hsm _).mono ?_); rintro e w' ⟨rfl, rfl⟩) | fail)
      refine nogoto_ret ?_
      go_ret2
      exact ⟨_, by rw [HC.out.1]; rfl, by rw [HC.out.2]; exact bytes_nil _, Below.refl _ _⟩
    | true =>
      by_cases h2 : s.size % 2 = 1
      · have HC : Hid (hxCode s.data.toList = 4 ∧ hxBytes s.data.toList = []) := Lib.hid (by simp [hxCode, hxBytes, hd, hlen, h2])
        have hr : (s.size : Int) % 2 = 1 := by omega
        go_wp2_with (first | (go_at_call 40; (with_reducible refine (digits_any s 16 hsm _).mono ?_); rintro e w' ⟨rfl, rfl⟩) | fail)
        refine nogoto_ret ?_
        go_ret2
        exact ⟨_, by rw [HC.out.1]; rfl, by rw [HC.out.2]; exact bytes_nil _, Below.refl _ _⟩
      · have HD := Lib.hid hd
        have H2 := Lib.hid (show s.size % 2 = 0 by omega)
        have hr : ((s.size : Int) % 2 == 1) = false := beqf (by omega)
        go_wp2_with (first | (go_at_call 40; (with_reducible refine (digits_any s 16 hsm _).mono ?_); rintro e w' ⟨rfl, rfl⟩) | fail)
        go_step3
        go_step
        go_step
        exact hpass _ _ _ ⟨_, 0, _, _, _, _, _, _, _, _, _, _, _, _, _, _, _, _, _, _, _, _, _, _, _, _, _, _, _, _, _, _, _, _, rfl, by omega, rfl, rfl, H2.out, HD.out, World.ownsRow_nil _ _ _ _, Below.refl _ _⟩
  · intro n a' wr hrel J hJ
    obtain ⟨v, k, u1, u6, u7, u8, u9, u10, u11, u12, u13, u14, u15, u16, u17, u18, u19, u20, u21, u22, u23, u24, u25, u26, u27, u28, u29, u30, u31, u32, u33, u34, u35, u36, rfl, hk, rfl, hke, hse, hd, hown, hbel⟩ := hrel
    have HE := Lib.hid (And.intro hke hse)
    have HD := Lib.hid hd
    have HO := Lib.hid hown
    have HB := Lib.hid hbel
    by_cases hlt : k < s.size
    · have hlt1 : k + 1 < s.size := by omega
      have hbw : wr.heap.size ≥ w.heap.size := hbel.size
      obtain ⟨c, hc⟩ : ∃ c, s[k] = c := ⟨_, rfl⟩
      obtain ⟨d, hdd⟩ : ∃ d, s[k + 1] = d := ⟨_, rfl⟩
      have hcb : c.toNat < 256 := UInt8.toNat_lt _
      have hdb : d.toNat < 256 := UInt8.toNat_lt _
      have hv1 := val_bd c.toNat
      have hv2 := val_bd d.toNat
      have hv3 : val c.toNat < 16 := digs_mem hd (by rw [← hc]; exact mem_of s k hlt)
      have hv4 : val d.toNat < 16 := digs_mem hd (by rw [← hdd]; exact mem_of s (k + 1) hlt1)
      have HN := Lib.hid (unhex_next s k c d hlt1 hke hc hdd)
      have HT := Lib.hid (two_val c d hv3 hv4)
      have HCs : Hid (_ ∧ _) := Lib.hid ⟨value_any c.toNat (by omega) (by omega), value_any d.toNat (by omega) (by omega)⟩
      clear hown hbel hd hke hse
      have hk0 : (0 : Int) ≤ (k : Int) := Int.natCast_nonneg _
      have hk1 : (k : Int) < (s.size : Int) := by omega
      have hk2 : (0 : Int) ≤ (k : Int) + 1 := by omega
      have hk3 : (k : Int) + 1 < (s.size : Int) := by omega
      have hw1 := wrap_i64 ((k : Int) + 1) (by omega) (by omega)
      have hw2 := wrap_i32 (c.toNat : Int) (by omega) (by omega)
      have hw3 := wrap_i32 (d.toNat : Int) (by omega) (by omega)
      have hw4 := wrap_u64 (val c.toNat * 16) (by omega) (by omega)
      have hw5 := or16 (val c.toNat) (val d.toNat) hv1.1 hv3 hv2.1 hv4
      have hw6 := wrap_u8 (val c.toNat * 16 + val d.toNat) (by omega) (by omega)
      have ht1 : ∀ h, s[((k : Int) + 1).toNat]'h = d := fun h => by simp only [show ((k : Int) + 1).toNat = k + 1 by omega]; exact hdd
      go_wp2_with fail
      go_region_held3 (fun _ => True) (trivial)
        (first | (go_at_call 41; first | ((with_reducible refine (HCs.out.1 _).mono ?_); rintro e w' ⟨rfl, rfl⟩) | ((with_reducible refine (HCs.out.2 _).mono ?_); rintro e w' ⟨rfl, rfl⟩)) | (refine step_append_lies _ (by rfl) _ _ _ (by rfl) w.heap.size 5 i0 _ 1 1 Tryd.underlying23 hi0 hz0 hz1 hz2 rfl (by omega) v (k / 2) _ (by rfl) ((HO.out.alloc _).drew) ⟨wr.heap.size, 0, none⟩ 1 1 [.int .u8 (val c.toNat * 16 + val d.toNat)] (by rfl) (by rfl) (World.news_of_block (cs := #[.int .u8 (val c.toNat * 16 + val d.toNat)]) (t := 5) (fr := (0, 0)) (heap_alloc_new wr _)) (by simp [Value.oneCell']) (by omega) (by unfold maxLen; omega) (by omega) (by have := HB.out.size; simp; omega) (wr.heap.size + 1) (by simp) ?_; intro gg cp w1 hown1 hgrow hat hlt2))
      all_goals
        have R := readhex_rel HN.out HT.out HB.out (fun g hg => (HO.out.lt g hg).1) hown1 hgrow
        clear hown1 hgrow
        go_wp2_with fail
        first | go_step3 | skip
        have e2 : (k + 2) / 2 = k / 2 + 1 := by omega
        exact jump_back (hJ (s.size - (k + 2)) _ _ (by omega) ⟨_, k + 2, _, _, _, _, _, _, _, _, _, _, _, _, _, _, _, _, _, _, _, _, _, _, _, _, _, _, _, _, _, _, _, _, rfl, by omega, rfl, by have := HE.out.1; omega, HE.out.2, HD.out, by rw [e2]; exact R.1, R.2⟩)
    · have hkl : s.size ≤ k := by omega
      have HV := Lib.hid (bytes_own (by rw [take_all s k hkl] at hown; exact hown))
      have HC : Hid (hxCode s.data.toList = 0 ∧ hxBytes s.data.toList = unhex s.data.toList) := Lib.hid (by simp [hxCode, hxBytes, hd, hlen, hse])
      clear hown hbel hd hke hse
      go_wp2_with fail
      refine jump_ret ?_
      go_ret2
      exact ⟨_, by rw [HC.out.1]; rfl, by rw [HC.out.2]; exact HV.out, HB.out⟩
end Go.Proofs.YtbaceiohcbhpaaaDoor
