import Derived.Test.YtbaceiohcbhpaaaDoorAddrMath
import Derived.Laws.AppendOwnNone
import Derived.Test.YtbaceiohcbhpaaaDoorNum10
namespace Go.Proofs.YtbaceiohcbhpaaaDoor
set_option linter.unusedVariables false
set_option linter.unusedSimpArgs false
set_option maxRecDepth 100000
open Go.RowKit
attribute [local go_sem ↓] Go.wp_at_zero Go.wp_at_succ

/-- a slice that is nil has no room -/
def NilOk (v : Value) : Prop := ∀ n cap, v = .slice none n cap → cap = 0
theorem nilok_nil : NilOk (.slice none 0 0) := fun n cap h => by cases h; rfl
theorem nilok_own {w : World} {B : Nat} {v : Value} {e : TypeId} {n : Nat} {xs : List Value} (h : w.ownsRow B e 1 v n xs) : NilOk v := by
  intro m cap hv
  rcases h.2 with ⟨h1, _⟩ | ⟨g, c, cur, h1, _⟩
  · rw [h1] at hv; cases hv; rfl
  · rw [h1] at hv; cases hv
def HexRet2 (w : World) (l : List UInt8) (e : Ending) (w' : World) : Prop :=
  ∃ v, e = .returned (.tuple #[v, .int .i64 (hxCode l)]) ∧ Bytes w' v (hxBytes l) ∧ Below w.heap.size w w' ∧ NilOk v
theorem rreadhex2_any (s : ByteArray) (hs : s.size ≤ 1000000) (w : World) :
    Calls Tryd.prog 21 #[.string s] w (HexRet2 w s.data.toList) := by
  obtain ⟨i0, hi0, hz0, hz1, hz2⟩ := info_parts Tryd.info5
  have hlen : s.data.toList.length = s.size := by simp
  have HL := Lib.hid hlen
  clear hlen
  go_enter Tryd.func21, Tryd.ntmps21
  go_wp2_with fail
  go_loop [4] (fun i => ∃ k : Nat, i = .int .i64 k ∧ k ≤ s.size ∧ digs (s.data.toList.take k) 16 = true) (fun i => s.size - (intOf i).toNat)
  case atStart => exact ⟨0, rfl, by omega, rfl⟩
  case round =>
    obtain ⟨k, rfl, hk, hd⟩ := hrel
    have HD := Lib.hid hd
    clear hd
    by_cases hlt : k < s.size
    · have hb : (s[k]).toNat < 256 := UInt8.toNat_lt _
      have hv := val_bd (s[k]).toNat
      by_cases hx : val (s[k]).toNat = 16
      · have HX := Lib.hid hx
        have HC : Hid (hxCode s.data.toList = 3 ∧ hxBytes s.data.toList = []) := Lib.hid (by
          have := digs_no (mem_of s k hlt) (show 16 ≤ val (s[k]).toNat by omega)
          simp [hxCode, hxBytes, this])
        have hxb : (val (s[k]).toNat == 16) = true := by simpa using hx
        clear hx
        go_wp2_with (go_at_call 38; (with_reducible refine (rvalue_any _ (by omega) (by omega) _).mono ?_); rintro e w' ⟨rfl, rfl⟩)
        go_ret2
        exact ⟨_, by rw [HC.out.1]; rfl, by rw [HC.out.2]; exact bytes_nil _, Below.refl _ _, nilok_nil⟩
      · have HN := Lib.hid (digs16_next s k hlt HD.out (by omega))
        have hxb : (val (s[k]).toNat == 16) = false := beqf hx
        clear hx
        go_wp2_with (go_at_call 38; (with_reducible refine (rvalue_any _ (by omega) (by omega) _).mono ?_); rintro e w' ⟨rfl, rfl⟩)
        go_round
        case rel => exact ⟨k + 1, by go_num, by omega, HN.out⟩
        case measure => simp [intOf]; omega
    · have hd := HD.out
      rw [take_all s k (by omega)] at hd
      by_cases h2 : s.size % 2 = 1
      · have HC : Hid (hxCode s.data.toList = 4 ∧ hxBytes s.data.toList = []) := Lib.hid (by simp [hxCode, hxBytes, hd, HL.out, h2])
        have hr : (s.size : Int) % 2 = 1 := by omega
        clear hd
        go_wp2_with fail
        go_ret2
        exact ⟨_, by rw [HC.out.1]; rfl, by rw [HC.out.2]; exact bytes_nil _, Below.refl _ _, nilok_nil⟩
      · have HD2 := Lib.hid hd
        have hr : ((s.size : Int) % 2 == 1) = false := beqf (by omega)
        clear hd
        go_wp2_with fail
        go_loopw [5, 6] (fun v i wr => ∃ m : Nat, i = .int .i64 m ∧ m ≤ s.size ∧ m % 2 = 0 ∧ wr.ownsRow w.heap.size 5 1 v (m / 2) (cellsOf (unhex (s.data.toList.take m))) ∧ Below w.heap.size w wr) (fun _ i _ => s.size - (intOf i).toNat)
        case atStart => exact ⟨0, rfl, by omega, rfl, World.ownsRow_made w #[] 0 (Nat.le_refl _) (by decide) rfl, (Below.refl _ _).alloc (Nat.le_refl _) _⟩
        case round =>
          obtain ⟨m, rfl, hm, hme, hown, hbel⟩ := hrel
          have HE := Lib.hid hme
          have HO := Lib.hid hown
          have HB := Lib.hid hbel
          have hbw : wr.heap.size ≥ w.heap.size := hbel.size
          by_cases hlm : m < s.size
          · have hm1 : m + 1 < s.size := by omega
            obtain ⟨c, hc⟩ : ∃ c, s[m] = c := ⟨_, rfl⟩
            obtain ⟨d, hdd⟩ : ∃ d, s[m + 1] = d := ⟨_, rfl⟩
            have hcb : c.toNat < 256 := UInt8.toNat_lt _
            have hdb : d.toNat < 256 := UInt8.toNat_lt _
            have hv1 := val_bd c.toNat
            have hv2 := val_bd d.toNat
            have hv3 : val c.toNat < 16 := digs_mem HD2.out (by rw [← hc]; exact mem_of s m hlm)
            have hv4 : val d.toNat < 16 := digs_mem HD2.out (by rw [← hdd]; exact mem_of s (m + 1) hm1)
            have HN := Lib.hid (unhex_next s m c d hm1 hme hc hdd)
            have HT := Lib.hid (two_val c d hv3 hv4)
            have HCs : Hid (_ ∧ _) := Lib.hid ⟨rvalue_any c.toNat (by omega) (by omega), rvalue_any d.toNat (by omega) (by omega)⟩
            clear hown hbel hme
            have hk0 : (0 : Int) ≤ (m : Int) := Int.natCast_nonneg _
            have hk1 : (m : Int) < (s.size : Int) := by omega
            have hk2 : (0 : Int) ≤ (m : Int) + 1 := by omega
            have hk3 : (m : Int) + 1 < (s.size : Int) := by omega
            have hw1 := wrap_i64 ((m : Int) + 1) (by omega) (by omega)
            have hw4 := wrap_u8 (16 * val c.toNat) (by omega) (by omega)
            have hw6 := wrap_u8 (16 * val c.toNat + val d.toNat) (by omega) (by omega)
            have ht1 : ∀ h, s[((m : Int) + 1).toNat]'h = d := fun h => by simp only [show ((m : Int) + 1).toNat = m + 1 by omega]; exact hdd
            go_wp2_with fail
            go_region_held3 (fun _ => True) (trivial)
              (first | (go_at_call 38; first | ((with_reducible refine (HCs.out.1 _).mono ?_); rintro e w' ⟨rfl, rfl⟩) | ((with_reducible refine (HCs.out.2 _).mono ?_); rintro e w' ⟨rfl, rfl⟩)) | (refine step_append_lies _ (by rfl) _ _ _ (by rfl) w.heap.size 5 i0 _ 1 1 Tryd.underlying23 hi0 hz0 hz1 hz2 rfl (by omega) u5 (m / 2) _ (by rfl) ((HO.out.alloc _).drew) ⟨wr.heap.size, 0, none⟩ 1 1 [.int .u8 (16 * val c.toNat + val d.toNat)] (by rfl) (by rfl) (World.news_of_block (cs := #[.int .u8 (16 * val c.toNat + val d.toNat)]) (t := 5) (fr := (0, 0)) (heap_alloc_new wr _)) (by simp [Value.oneCell']) (by omega) (by unfold maxLen; omega) (by omega) (by have := HB.out.size; simp; omega) (wr.heap.size + 1) (by simp) ?_; intro gg cp w1 hown1 hgrow hat hlt2))
            all_goals
              have R := readhex_rel HN.out (by rw [HT.out, Int.mul_comm]) HB.out (fun g hg => (HO.out.lt g hg).1) hown1 hgrow
              clear hown1 hgrow
              go_wp2_with fail
              go_roundw
              case rel => exact ⟨m + 2, by go_num, by omega, by have := HE.out; omega, by rw [show (m + 2) / 2 = m / 2 + 1 by omega]; exact R.1, R.2⟩
              case measure => simp [intOf]; omega
          · have HNO := Lib.hid (nilok_own hown)
            have HV := Lib.hid (bytes_own (by rw [take_all s m (by omega)] at hown; exact hown))
            have HC : Hid (hxCode s.data.toList = 0 ∧ hxBytes s.data.toList = unhex s.data.toList) := Lib.hid (by have h1 := HL.out; have h2 := HD2.out; have h3 : s.size % 2 = 0 := (by omega); simp [hxCode, hxBytes, h1, h2, h3])
            clear hown hbel hme
            go_wp2_with fail
            go_ret2
            exact ⟨_, by rw [HC.out.1]; rfl, by rw [HC.out.2]; exact HV.out, HB.out, HNO.out⟩
theorem bytes_news {w : World} {b off : Nat} {l : List UInt8} (h : ∀ i, i < l.length → w.cell? ⟨b, off + i, none⟩ = some (.int .u8 (l.getD i 0).toNat)) : ∀ j u, (cellsOf l)[j]? = some u → w.cell? ((⟨b, off, none⟩ : Addr).add j) = some u := by
  intro j u hu
  rw [add_at]
  unfold cellsOf at hu
  rw [List.getElem?_map] at hu
  cases hj : l[j]? with
  | none => rw [hj] at hu; cases hu
  | some y =>
    rw [hj] at hu
    cases hu
    have hlt : j < l.length := (List.getElem?_eq_some_iff.1 hj).1
    rw [h j hlt]
    simp [List.getD, hj]
theorem wpList_append_bytes {w : World} {ops : Array Oper} {rest : List Oper} {o : Oper} {a : Act} {Q : Exit → Act → World → Prop} (hgd : o.guard = none) (s x : Operand)
    (ho : o.op = .call { callee := .builtin .append, args := #[s, x], argTypes := #[23, 23] })
    (base : Nat) (v : Value) (n : Nat) (xs : List Value) (hs : a.eval s = v) (hown : w.ownsRow base 5 1 v n xs)
    (sv : Value) (l : List UInt8) (hx : a.eval x = sv) (hsrc : Bytes w sv l) (hno : NilOk sv) (h63 : n + l.length ≤ 8796093022208) (hbase : base ≤ w.heap.size)
    (h : ∀ v' w', w'.ownsRow base 5 1 v' (n + l.length) (xs ++ cellsOf l) → w.grownBy w' v.ownBlock → wpList Tryd.prog ops Q rest (a.put o.dst v') w') : wpList Tryd.prog ops Q (o :: rest) a w := by
  obtain ⟨i0, hi0, hz0, hz1, hz2⟩ := info_parts Tryd.info5
  obtain ⟨ad, cap, rfl, hc⟩ := hsrc
  rcases hc with rfl | ⟨b, off, rfl, hc⟩
  · cases ad with
    | none =>
      obtain rfl := hno _ _ rfl
      refine wpList_append_own_none hgd s x 23 ho base 5 i0 1 Tryd.underlying23 hi0 v n xs hs hown hx ?_
      exact h v w (by simpa [cellsOf] using hown) ⟨rfl, rfl, rfl, Nat.le_refl _, fun _ _ _ => rfl⟩
    | some ad =>
      refine wpList_append_own w hgd s x 23 ho base 5 i0 _ 1 1 Tryd.underlying23 hi0 hz0 hz1 hz2 rfl (by decide) v n xs hs hown ad 0 cap [] hx rfl (fun j u hu => by cases hu) (fun u hu => by cases hu) (by unfold maxLen; simp at h63; omega) (by simp at h63; omega) hbase ?_
      intro v' w' h1 h2 _
      exact h v' w' (by simpa [cellsOf] using h1) h2
  · refine wpList_append_own w hgd s x 23 ho base 5 i0 _ 1 1 Tryd.underlying23 hi0 hz0 hz1 hz2 rfl (by decide) v n xs hs hown ⟨b, off, none⟩ l.length cap (cellsOf l) hx (by simp [cellsOf]) (bytes_news hc) (fun u hu => by obtain ⟨y, _, rfl⟩ := List.mem_map.1 hu; rfl) (by unfold maxLen; omega) (by omega) hbase ?_
    intro v' w' h1 h2 _
    exact h v' w' h1 h2
end Go.Proofs.YtbaceiohcbhpaaaDoor
