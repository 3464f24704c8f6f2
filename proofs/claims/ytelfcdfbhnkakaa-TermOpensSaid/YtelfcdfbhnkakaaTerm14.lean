import Derived.Test.YtelfcdfbhnkakaaTerm13
import Derived.Laws.AppendOwnNone
namespace Go.Proofs.Ytelfcdfbhnkakaa
set_option linter.unusedVariables false
set_option linter.unusedSimpArgs false
set_option maxRecDepth 100000
open Go.RowKit

def signOf (k : Nat) : UInt8 := ([48, 97, 110, 120, 112, 100, 104, 107, 109, 115, 108] : List UInt8).getD (k - 1) 0
def itemsOf (k n : Nat) (b : List UInt8) : List (List UInt8) := if numb k then [decs n] else if k = 4 then [hexOf b] else []
def joined (k n : Nat) (b : List UInt8) (l : List (List UInt8)) : List UInt8 := Lib.join (itemsOf k n b ++ l) [44]
def wText (k n : Nat) (b : List UInt8) (l : List (List UInt8)) : List UInt8 := signOf k :: (if 5 ≤ k then 40 :: (joined k n b l ++ [41]) else joined k n b l)

theorem strs_news {w : World} {b off : Nat} {l : List (List UInt8)} (h : ∀ i, i < l.length → w.cell? ⟨b, off + i, none⟩ = some (strV (l.getD i []))) : ∀ j u, (l.map strV)[j]? = some u → w.cell? ((⟨b, off, none⟩ : Addr).add j) = some u := by
  intro j u hu
  rw [add_at]
  rw [List.getElem?_map] at hu
  cases hj : l[j]? with
  | none => rw [hj] at hu; cases hu
  | some y =>
    rw [hj] at hu
    cases hu
    have hlt : j < l.length := (List.getElem?_eq_some_iff.1 hj).1
    rw [h j hlt]
    simp [List.getD, hj]

theorem wpList_append_strs {w : World} {ops : Array Oper} {rest : List Oper} {o : Oper} {a : Act} {Q : Exit → Act → World → Prop} (hgd : o.guard = none) (s x : Operand)
    (ho : o.op = .call { callee := .builtin .append, args := #[s, x], argTypes := #[25, 25] })
    (base : Nat) (v : Value) (n : Nat) (xs : List Value) (hs : a.eval s = v) (hown : w.ownsRow base 9 1 v n xs)
    (sv : Value) (l : List (List UInt8)) (hx : a.eval x = sv) (hsrc : Strs w sv l) (h63 : n + l.length ≤ 8796093022208) (hbase : base ≤ w.heap.size)
    (h : ∀ v' w', w'.ownsRow base 9 1 v' (n + l.length) (xs ++ l.map strV) → w.grownBy w' v.ownBlock → wpList Try.prog ops Q rest (a.put o.dst v') w') : wpList Try.prog ops Q (o :: rest) a w := by
  obtain ⟨i0, hi0, hz0, hz1, hz2⟩ := info_parts Try.infoStr
  obtain ⟨ad, cap, rfl, hn, hc⟩ := hsrc
  rcases hc with rfl | ⟨b, off, rfl, hc⟩
  · cases ad with
    | none =>
      obtain rfl := hn rfl
      refine wpList_append_own_none hgd s x 25 ho base 9 i0 1 Try.underlying25 hi0 v n xs hs hown hx ?_
      exact h v w (by simpa using hown) (grown_refl _ _)
    | some ad =>
      refine wpList_append_own w hgd s x 25 ho base 9 i0 _ 1 16 Try.underlying25 hi0 hz0 hz1 hz2 rfl (by decide) v n xs hs hown ad 0 cap [] hx rfl (fun j u hu => by cases hu) (fun u hu => by cases hu) (by unfold maxLen; simp at h63; omega) (by simp at h63; omega) hbase ?_
      intro v' w' h1 h2 _
      exact h v' w' (by simpa using h1) h2
  · refine wpList_append_own w hgd s x 25 ho base 9 i0 _ 1 16 Try.underlying25 hi0 hz0 hz1 hz2 rfl (by decide) v n xs hs hown ⟨b, off, none⟩ l.length cap (l.map strV) hx (by simp) (strs_news hc) (fun u hu => by obtain ⟨y, _, rfl⟩ := List.mem_map.1 hu; rfl) (by unfold maxLen; omega) (by omega) hbase ?_
    intro v' w' h1 h2 _
    exact h v' w' h1 h2

theorem shape_facts {k : Nat} {sh : Shape} (h : shapeOf k = some sh) : sh.numbered = numb k ∧ (sh.hex = true ↔ k = 4) ∧ (0 < sh.most ↔ 5 ≤ k) ∧ 1 ≤ k ∧ k ≤ 11 := by
  rcases shape_cases h with rfl | rfl | rfl | rfl | rfl | rfl | rfl | rfl | rfl | rfl | rfl
  all_goals (simp only [shapeOf, Option.some.injEq] at h; subst h; decide)
theorem sign_slice {k : Nat} (h1 : 1 ≤ k) (h2 : k ≤ 11) (w : World) : (Instr.slice 9 (.string ⟨#[48, 97, 110, 120, 112, 100, 104, 107, 109, 115, 108]⟩) (some (.int .i64 ((k : Int) - 1))) (some (.int .i64 k)) none).run Try.prog w = .ok (.string (strB [signOf k])) w := by
  rcases (show k = 1 ∨ k = 2 ∨ k = 3 ∨ k = 4 ∨ k = 5 ∨ k = 6 ∨ k = 7 ∨ k = 8 ∨ k = 9 ∨ k = 10 ∨ k = 11 by omega) with rfl | rfl | rfl | rfl | rfl | rfl | rfl | rfl | rfl | rfl | rfl <;> kernel_rfl

theorem strB_app (a b : List UInt8) : strB a ++ strB b = strB (a ++ b) := by
  apply ByteArray.ext
  rw [ByteArray.data_append]
  simp [strB]
theorem join_len : ∀ (l : List (List UInt8)), (Lib.join l [44]).length ≤ total l := by
  intro l
  cases l with
  | nil => simp [Lib.join_nil, total]
  | cons x r =>
    rw [Lib.join_cons]
    have : ∀ r : List (List UInt8), (Lib.joinTail [44] r).length = (r.map List.length).sum + r.length := by
      intro r
      induction r with
      | nil => rfl
      | cons y r ih =>
        have e : Lib.joinTail [44] (y :: r) = ([44] ++ y) ++ Lib.joinTail [44] r := by simp [Lib.joinTail]
        rw [e, List.length_append, ih]
        simp; omega
    rw [List.length_append, this]
    simp [total]; omega

theorem text_paren (k n : Nat) (b : List UInt8) (l : List (List UInt8)) (h : 5 ≤ k) : strB [signOf k] ++ (((⟨#[40]⟩ : ByteArray) ++ strB (joined k n b l)) ++ ⟨#[41]⟩) = strB (wText k n b l) := by
  rw [show (⟨#[40]⟩ : ByteArray) = strB [40] from rfl, show (⟨#[41]⟩ : ByteArray) = strB [41] from rfl, strB_app, strB_app, strB_app]
  unfold wText
  rw [if_pos h]
  rfl
theorem text_bare (k n : Nat) (b : List UInt8) (l : List (List UInt8)) (h : ¬ 5 ≤ k) : strB [signOf k] ++ strB (joined k n b l) = strB (wText k n b l) := by
  rw [strB_app]
  unfold wText
  rw [if_neg h]
  rfl
theorem strB_size1 : (⟨#[40]⟩ : ByteArray).size = 1 := rfl
theorem strB_size2 : (⟨#[41]⟩ : ByteArray).size = 1 := rfl

theorem write_neither (k n : Nat) (sh : Shape) (hs : shapeOf k = some sh) (vb vl : Value) (b : List UInt8) (l : List (List UInt8)) (w : World) (hb : Bytes w vb b) (hl : Strs w vl l) (ht : total l ≤ 65536) (hn : numb k = false) (h4 : k ≠ 4) :
    Calls Try.prog 31 #[.int .i64 k, shapeV sh, .int .u64 n, vb, vl] w fun e w' => e = .returned (.string (strB (wText k n b l))) ∧ Below w.heap.size w w' := by
  obtain ⟨f1, f2, f3, f4, f5⟩ := shape_facts hs
  have hnn : sh.numbered = false := by rw [f1, hn]
  have hhx : sh.hex = false := by cases hx : sh.hex; rfl; exact absurd (f2.1 hx) h4
  have hitems : itemsOf k n b = [] := by unfold itemsOf; rw [if_neg (by rw [hn]; decide), if_neg h4]
  have HJ : Hid (joined k n b l = Lib.join l [44]) := Lib.hid (by unfold joined; rw [hitems]; rfl)
  have hHL : Strs (w.alloc (.cells #[.bool false, .int .u64 sh.low, .int .u64 sh.high, .bool false, .int .i64 sh.least, .int .i64 sh.most, .bool sh.ordered] 58)) vl l := hl.below ((Below.refl _ _).alloc (Nat.le_refl _) _)
  have HL1 := Lib.hid hHL
  have hjl := join_len l
  have hll : l.length ≤ 65536 := by unfold total at ht; omega
  have hsl := sign_slice f4 f5
  have hjs := strB_size (Lib.join l [44])
  have hp := strB_size1
  have hp2 := strB_size2
  have hs1 := strB_size [signOf k]
  simp only [List.length_singleton] at hs1
  have hJ : ∀ (w : World) (B : Nat) (v : Value), w.ownsRow B 9 1 v l.length (l.map strV) → Calls Try.prog 48 #[v, .string ⟨#[44]⟩] w fun e w' => e = .returned (.string (strB (Lib.join l [44]))) ∧ Below w.heap.size w w' := fun w B v h => join_own h (by omega) (by omega)
  have HJOIN := Lib.hid hJ
  clear hJ
  generalize Lib.join l [44] = j at *
  have hjb : j.length ≤ 65536 := by omega
  have F3 := Lib.hid f3
  clear hl hHL hitems f1 f2 f3 hb hn h4 hs ht
  by_cases hk : 5 ≤ k
  · have hmo : 0 < sh.most := F3.out.2 hk
    have HT := Lib.hid (text_paren k n b l hk)
    clear hk
    go_enter Try.func31, Try.ntmps31
    go_wp2_with (first | (at_builtin; (refine wpList_append_strs rfl _ _ rfl w.heap.size (.slice none 0 0) 0 [] rfl (World.ownsRow_nil _ _ _ _) _ l rfl HL1.out (by omega) (by simp) ?_); intro v' w2 hown hgrow; have hown2 : w2.ownsRow w.heap.size 9 1 v' l.length (l.map strV) := (by simpa using hown); have hb2 : Below w.heap.size w w2 := ((Below.refl _ _).alloc (Nat.le_refl _) _).grown hgrow (by simp) (fun k hk => by cases hk); have hbx := keep_far (heap_alloc_new w _) hgrow (by simp [Value.ownBlock]); have HBX := Lib.hid hbx; have HOWN := Lib.hid hown2; have HB2 := Lib.hid hb2; clear hown hown2 hgrow hb2 hbx) | (go_at_call 48; ((with_reducible refine (HJOIN.out _ _ _ HOWN.out).mono ?_); rintro e w3 ⟨rfl, hb3⟩; have hbx3 := (hb3.block _ (Array.getElem?_eq_some_iff.1 HBX.out).1).trans HBX.out; have x5 := cell_of hbx3 5 rfl; have HB3 := Lib.hid hb3; clear hb3 hbx3)) | fail)
    go_ret
    exact ⟨ret_str (by have h := HT.out; rw [HJ.out] at h; exact h), HB2.out.trans (HB3.out.mono HB2.out.size)⟩
  · have hmo : ¬ 0 < sh.most := fun h => hk (F3.out.1 h)
    have HT := Lib.hid (text_bare k n b l hk)
    clear hk
    go_enter Try.func31, Try.ntmps31
    go_wp2_with (first | (at_builtin; (refine wpList_append_strs rfl _ _ rfl w.heap.size (.slice none 0 0) 0 [] rfl (World.ownsRow_nil _ _ _ _) _ l rfl HL1.out (by omega) (by simp) ?_); intro v' w2 hown hgrow; have hown2 : w2.ownsRow w.heap.size 9 1 v' l.length (l.map strV) := (by simpa using hown); have hb2 : Below w.heap.size w w2 := ((Below.refl _ _).alloc (Nat.le_refl _) _).grown hgrow (by simp) (fun k hk => by cases hk); have hbx := keep_far (heap_alloc_new w _) hgrow (by simp [Value.ownBlock]); have HBX := Lib.hid hbx; have HOWN := Lib.hid hown2; have HB2 := Lib.hid hb2; clear hown hown2 hgrow hb2 hbx) | (go_at_call 48; ((with_reducible refine (HJOIN.out _ _ _ HOWN.out).mono ?_); rintro e w3 ⟨rfl, hb3⟩; have hbx3 := (hb3.block _ (Array.getElem?_eq_some_iff.1 HBX.out).1).trans HBX.out; have x5 := cell_of hbx3 5 rfl; have HB3 := Lib.hid hb3; clear hb3 hbx3)) | fail)
    go_ret
    exact ⟨ret_str (by have h := HT.out; rw [HJ.out] at h; exact h), HB2.out.trans (HB3.out.mono HB2.out.size)⟩
end Go.Proofs.Ytelfcdfbhnkakaa
