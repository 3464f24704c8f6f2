/- The program's Print and PrintPrefix, by contract. -/
import Derived.Test.YtbaceiohcbhpaaaDoorAddrP5
namespace Go.Proofs.YtbaceiohcbhpaaaDoor
set_option linter.unusedVariables false
set_option linter.unusedSimpArgs false
set_option maxRecDepth 100000
open Go.RowKit Go.Shelf
attribute [local go_sem] Oper.semAt_some

def shortL (a : List UInt8) : List (List UInt8) := a.map fun c => decs c.toNat
theorem shortL_next {a : List UInt8} {k : Nat} (hk : k < a.length) : shortL (a.take (k + 1)) = shortL (a.take k) ++ [decs (a.getD k 0).toNat] := by
  rw [List.take_succ_eq_append_getElem hk]
  unfold shortL
  rw [List.map_append]
  simp [List.getD, List.getElem?_eq_getElem hk]
theorem shortL_len (a : List UInt8) : (shortL a).length = a.length := by simp [shortL]
theorem print_short {a : List UInt8} (h : a.length = 4) : printC a = (Lib.join (shortL a) [46], 0) := by
  match a, h with
  | [x0, x1, x2, x3], _ => 
    unfold printC
    rw [if_pos (by simp), print4]; rfl
theorem join_len (L : List (List UInt8)) (c : UInt8) (m : Nat) (h : ∀ x ∈ L, x.length ≤ m) : (Lib.join L [c]).length ≤ L.length * (m + 1) := by
  induction L with
  | nil => simp [Lib.join]
  | cons x l ih =>
    have h1 := h x (by simp)
    have h2 := ih fun y hy => h y (by simp [hy])
    rw [Lib.join_cons]
    cases l with
    | nil => simp [Lib.joinTail]; omega
    | cons y t =>
      rw [Lib.join_cons] at h2
      simp [Lib.joinTail] at h2 ⊢
      rw [Nat.add_mul]
      omega
theorem decs_u8 (c : UInt8) : (decs c.toNat).length ≤ 20 := by
  have h := UInt8.toNat_lt c
  exact decs_top c.toNat (by unfold top; omega)
set_option maxHeartbeats 8000000 in
theorem aprint_short (a : List UInt8) (ad : Option Addr) (cp : Nat) (w : World) (ha : Bytes w (.slice ad a.length cp) a) (hl : a.length = 4) :
    Calls Tryd.prog 12 #[.slice ad a.length cp] w (StrCode w (printC a)) := by
  obtain ⟨b, off, rfl, hca⟩ := bytes_cell ha (by omega)
  obtain ⟨i0, hi0, hz0, hz1, hz2⟩ := info_parts Tryd.infoStr4
  have HCA := Lib.hid hca
  have e4 : ((a.length : Int) == 4) = true := beq_i (by omega)
  have hali : (a.length : Int) ≤ 1000 := by omega
  have HPC := Lib.hid (print_short hl)
  have HL := Lib.hid hl
  clear ha hca hl
  go_enter Tryd.func12, Tryd.ntmps12
  go_wp2_with fail
  go_loopw [15] (fun i wr => ∃ (k : Nat) (v : Value), i = .int .i64 k ∧ k ≤ a.length ∧ PS 0 w wr v (shortL (a.take k))) (fun i _ => a.length - (intOf i).toNat)
  case atStart => exact ⟨0, .slice none 0 0, rfl, by omega, heap_alloc_new w _, World.ownsRow_nil _ _ _ _, below_one _⟩
  case round =>
    obtain ⟨k, v, rfl, hk, hps⟩ := hrel
    have d0 : wr.cell? ⟨w.heap.size, 0, none⟩ = some v := cell_of hps.1 0 rfl
    have HSZ : Hid (w.heap.size + 1 ≤ wr.heap.size) := Lib.hid (Array.getElem?_eq_some_iff.1 hps.1).1
    have HPS := Lib.hid hps
    by_cases hlt : k < a.length
    · have ca := (hps.2.2.cell (p := ⟨b, off + k, none⟩) (World.block_lt_of_cell? w _ (HCA.out k hlt))).trans (HCA.out k hlt)
      have HN := Lib.hid (shortL_next hlt)
      obtain ⟨x, hx⟩ : ∃ x, (a.getD k 0).toNat = x := ⟨_, rfl⟩
      have hxl : x < 256 := by rw [← hx]; exact UInt8.toNat_lt _
      rw [hx] at ca HN
      obtain ⟨part, hpart⟩ : ∃ p, decs x = p := ⟨_, rfl⟩
      have HPR : Hid (∀ w, Calls Tryd.prog 26 #[.int .u64 x] w fun e w' => e = .returned (.string (strB part)) ∧ Below w.heap.size w w') := Lib.hid (fun w => by rw [← hpart]; exact print_any x (by unfold top; omega) w)
      rw [hpart] at HN
      have HLN : Hid ((shortL (a.take k)).length ≤ 4) := Lib.hid (by have := HL.out; rw [shortL_len, List.length_take]; omega)
      have hk0 : (0 : Int) ≤ k := by omega
      have hk1 : (k : Int) < a.length := by omega
      have hw1 := wrap_u64 (x : Int) (by omega) (by omega)
      clear hps hx hpart
      go_wp2_with fail
      go_region_law (first | (refine step_append_lies _ (by rfl) _ _ _ (by rfl) (w.heap.size + 1 + 0) 9 i0 _ 1 16 Tryd.underlying51 hi0 hz0 hz1 hz2 rfl (by omega) v (shortL (a.take k)).length ((shortL (a.take k)).map strV4) (by rfl) (HO3.out.alloc _) ⟨w3.heap.size, 0, none⟩ 1 1 [.string (strB part)] (by rfl) (by rfl) (World.news_of_block (cs := #[.string (strB part)]) (t := 9) (fr := (0, 0)) (heap_alloc_new w3 _)) (by simp [Value.oneCell']) (by omega) (by have := HLN.out; unfold maxLen; omega) (by have := HLN.out; omega) (by have := HB3.out.size; have := HSZ.out; simp; omega) (w3.heap.size + 1) (by simp) ?_; intro g4 cp4 w4 hown4 hgrow4 hat4 hlt4; have hx4 := keep_far4 (((below_one (w := w3) (.cells #[.string (strB part)] 9)).block _ (Array.getElem?_eq_some_iff.1 HX3.out).1).trans HX3.out) hgrow4 (own_ne4 HPS.out.2.1 (by omega)); have c4 : w4.cell? ⟨w.heap.size, 0, none⟩ = some v := cell_of hx4 0 rfl; have g4f := free_of hx4 0; clear hx4) | (go_simp; ((with_reducible refine (HPR.out _).mono ?_); rintro e w3 ⟨rfl, hb3⟩; have hx3 := (hb3.block _ (Array.getElem?_eq_some_iff.1 HPS.out.1).1).trans HPS.out.1; have HX3 := Lib.hid hx3; have HB3 : Hid (Below wr.heap.size wr w3) := Lib.hid ((Below.refl wr.heap.size wr).drew.trans hb3); have c3 : w3.cell? ⟨w.heap.size, 0, none⟩ = some v := cell_of hx3 0 rfl; have c3a : ∀ o, (w3.alloc o).cell? ⟨w.heap.size, 0, none⟩ = some v := fun o => cell_of (((below_one o).block _ (Array.getElem?_eq_some_iff.1 hx3).1).trans hx3) 0 rfl; have HO3 := Lib.hid (own_below4 HPS.out.2.1.drew hb3); clear hb3 hx3)))
      all_goals
        have HP := Lib.hid (ps_app HPS.out HB3.out hown4 hgrow4)
        clear hown4 hgrow4 hi0 hz0 hz1 hz2
        go_wp2_with fail
        go_roundw
        case rel => exact ⟨k + 1, _, by go_num, by omega, by rw [HN.out]; exact HP.out⟩
        case measure => simp [intOf]; omega
    · have HKE : Hid (shortL (a.take k) = shortL a) := Lib.hid (by rw [List.take_of_length_le (by omega)])
      have HJ : Hid (Calls Tryd.prog 27 #[v, .string ⟨#[46]⟩] wr fun e w' => e = .returned (.string (strB (Lib.join (shortL a) [46]))) ∧ Below wr.heap.size wr w') := Lib.hid (by
        have h2 := hps.2.1
        rw [HKE.out] at h2
        have := HL.out
        refine join_own4 46 h2 (by rw [shortL_len]; omega) ?_
        have := join_len (shortL a) 46 20 (fun x hx => by
          obtain ⟨c, _, rfl⟩ := List.mem_map.1 hx
          exact decs_u8 c)
        rw [shortL_len, HL.out] at this
        omega)
      clear hps
      go_wp2_with (first | (go_at_call 27; ((with_reducible refine HJ.out.mono ?_); rintro e w3 ⟨rfl, hb3⟩)) | fail)
      go_ret2
      exact ⟨by rw [HPC.out]; rfl, HPS.out.2.2.trans (hb3.mono HPS.out.2.2.size)⟩
def hexL (l : List (UInt8 × UInt8)) : List (List UInt8) := l.map fun x => hexOf [x.1, x.2]
theorem hexL_app (l : List (UInt8 × UInt8)) (x : UInt8 × UInt8) : hexL (l ++ [x]) = hexL l ++ [hexOf [x.1, x.2]] := by simp [hexL]
theorem hexL_len (l : List (UInt8 × UInt8)) : (hexL l).length = l.length := by simp [hexL]
theorem print_long {a : List UInt8} (h : a.length = 16) : printC a = (Lib.join (hexL (twoL a)) [58], 0) := by
  match a, h with
  | [x0, x1, x2, x3, x4, x5, x6, x7, x8, x9, xa, xb, xc, xd, xe, xf], _ =>
    unfold printC
    rw [if_pos (by simp), print16]
    simp [hexL, twoL, List.range, List.range.loop]
theorem print_none {a : List UInt8} (h4 : a.length ≠ 4) (h16 : a.length ≠ 16) : printC a = ([], 3) := by
  unfold printC
  rw [if_neg (by omega)]
theorem print_results (W : World) (T : Array Value) (v0 v1 : Value) (h2 : T.getD 2 undef = v0) (h3 : T.getD 3 undef = v1) :
    (results Tryd.f12 T).run Tryd.prog W = .ok (.tuple #[v0, v1]) W := by
  have e2 : T[2]?.getD undef = v0 := by simpa using h2
  have e3 : T[3]?.getD undef = v1 := by simpa using h3
  simp [results, Tryd.results12, go_sem, e2, e3]
theorem bytes_lit2 (w : World) (x y : UInt8) : Bytes (w.alloc (.cells #[.int .u8 x.toNat, .int .u8 y.toNat] 5)) (.slice (some ⟨w.heap.size, 0, none⟩) 2 2) [x, y] := by
  have h := heap_alloc_new w (.cells #[.int .u8 x.toNat, .int .u8 y.toNat] 5)
  refine ⟨_, _, rfl, .inr ⟨_, 0, rfl, fun i hi => ?_⟩⟩
  rw [Nat.zero_add]
  match i, hi with
  | 0, _ => exact cell_of h 0 rfl
  | 1, _ => exact cell_of h 1 rfl
theorem aprint_none (a : List UInt8) (ad : Option Addr) (cp : Nat) (w : World) (hal : a.length ≤ 1000) (h4 : a.length ≠ 4) (h16 : a.length ≠ 16) :
    Calls Tryd.prog 12 #[.slice ad a.length cp] w (StrCode w (printC a)) := by
  have e4 : ((a.length : Int) == 4) = false := bne_i (by omega)
  have e16 : ((a.length : Int) == 16) = false := bne_i (by omega)
  have HPC := Lib.hid (print_none h4 h16)
  clear h4 h16
  (refine calls_of_wp_marks Tryd.func12 rfl ?_; simp only [Tryd.ntmps12, List.size_toArray, List.length_cons, List.length_nil, Nat.reduceAdd, Nat.reduceSub, Array.replicate_succ, Array.replicate_zero, List.push_toArray, List.append_toArray, List.nil_append, List.cons_append])
  go_wp2_with fail
  exact postM_ret (print_results _ _ _ _ rfl rfl) rfl ⟨by rw [HPC.out]; rfl, below_one _⟩
set_option maxHeartbeats 8000000 in
theorem aprint_long (a : List UInt8) (ad : Option Addr) (cp : Nat) (w : World) (ha : Bytes w (.slice ad a.length cp) a) (hl : a.length = 16) :
    Calls Tryd.prog 12 #[.slice ad a.length cp] w (StrCode w (printC a)) := by
  obtain ⟨b, off, rfl, hca⟩ := bytes_cell ha (by omega)
  obtain ⟨i0, hi0, hz0, hz1, hz2⟩ := info_parts Tryd.infoStr4
  have HCA := Lib.hid hca
  have e4 : ((a.length : Int) == 4) = false := bne_i (by omega)
  have e16 : ((a.length : Int) == 16) = true := beq_i (by omega)
  have hali : (a.length : Int) ≤ 1000 := by omega
  have HPC := Lib.hid (print_long hl)
  have HL := Lib.hid hl
  clear ha hca hl
  (refine calls_of_wp_marks Tryd.func12 rfl ?_; simp only [Tryd.ntmps12, List.size_toArray, List.length_cons, List.length_nil, Nat.reduceAdd, Nat.reduceSub, Array.replicate_succ, Array.replicate_zero, List.push_toArray, List.append_toArray, List.nil_append, List.cons_append])
  go_wp2_with (first | (go_at_call 28; ((with_reducible refine (twos_any _ _ _ _).mono ?_); rintro e w3 ⟨rfl, rfl⟩)) | fail)
  have eP := heap_alloc_new w (.cells #[.slice none 0 0] 51)
  have eA := heap_alloc_new (w.alloc (.cells #[.slice none 0 0] 51)) (.cells #[.slice (some ⟨b, off, none⟩) a.length cp] 23)
  have hb1 := below_one (w := w.alloc (.cells #[.slice none 0 0] 51)) (.cells #[.slice (some ⟨b, off, none⟩) a.length cp] 23)
  simp only [World.size_alloc] at eA hb1
  have fP := (hb1.block w.heap.size (by omega)).trans eP
  have hB0 : Below w.heap.size w ((w.alloc (.cells #[.slice none 0 0] 51)).alloc (.cells #[.slice (some ⟨b, off, none⟩) a.length cp] 23)) := (below_one _).trans (hb1.mono (by omega))
  have hs0 : ((w.alloc (.cells #[.slice none 0 0] 51)).alloc (.cells #[.slice (some ⟨b, off, none⟩) a.length cp] 23)).heap.size = w.heap.size + 2 := by simp
  obtain ⟨W0, hW0⟩ : ∃ W0, (w.alloc (.cells #[.slice none 0 0] 51)).alloc (.cells #[.slice (some ⟨b, off, none⟩) a.length cp] 23) = W0 := ⟨_, rfl⟩
  rw [hW0] at eA fP hB0 hs0 ⊢
  clear hb1 eP
  have HK : Hid _ := Lib.hid (twos_stops Fence.wide (9 - 1) (openF_wide _) rfl (by decide) (w.heap.size + 1) w.heap.size b off cp a (by have := HL.out; omega) W0 (by omega) (by omega) (cell_of eA 0 rfl)
    ⟨World.block_lt_of_cell? w _ (HCA.out 0 (by have := HL.out; omega)), fun i hi => (hB0.cell (p := ⟨b, off + i, none⟩) (World.block_lt_of_cell? w _ (HCA.out i hi))).trans (HCA.out i hi)⟩)
  refine wpIn_wide.1 (wpIn_rangeFunc_ownG (n := 9) rfl (by decide) (gf := 46) (lb := #[.pointer (some ⟨w.heap.size + 1, 0, none⟩)]) rfl trivial (enters_of Tryd.func46 (by kernel_rfl) rfl)
    HK.out kpB_t (kpB_b (by omega) (by omega) (by omega)) (Below.refl _ _) (fun _ => rfl)
    (fun pre W => ∃ v, PS 1 w W v (hexL pre) ∧ w.heap.size + 2 ≤ W.heap.size)
    (fun c pre W => False)
    (ps_own hexL (by omega) _)
    (fun c s A B row hs _ _ => hs)
    ⟨_, ⟨fP, World.ownsRow_nil _ _ _ _, hB0⟩, by omega⟩ ?a1 ?assign ?body ?done ?stop)
  case assign =>
    intro l x W K hK
    gi_wp2
    exact hK
  case body =>
    rintro l pre x W ⟨v, hps, hsz⟩ hpre
    have d0 : W.cell? ⟨w.heap.size, 0, none⟩ = some v := cell_of hps.1 0 rfl
    have d0a : ∀ o, (W.alloc o).cell? ⟨w.heap.size, 0, none⟩ = some v := fun o => cell_of (((below_one (w := W) o).block _ (Array.getElem?_eq_some_iff.1 hps.1).1).trans hps.1) 0 rfl
    have hmx : Tryd.prog.follows .mixedOrders = true := by kernel_rfl
    obtain ⟨part, hpart⟩ : ∃ p, hexOf [x.1, x.2] = p := ⟨_, rfl⟩
    have HHX : Hid (∀ m W v, Bytes W v [x.1, x.2] → CallsIn (Fence.wide.inRound l) m Tryd.prog 29 #[v] W fun e w' => e = .returned (.string (strB part)) ∧ Below W.heap.size W w') := Lib.hid (fun m W v h => CallsIn.inRound l (callsIn_wide.2 (by rw [← hpart]; exact hex_any v _ W h (by simp))))
    have HN : Hid (hexL (pre ++ [x]) = hexL pre ++ [part]) := Lib.hid (by rw [hexL_app, hpart])
    have HB2 : Hid (Bytes (W.alloc (.cells #[.int .u8 x.1.toNat, .int .u8 x.2.toNat] 5)).drew (.slice (some ⟨W.heap.size, 0, none⟩) 2 2) [x.1, x.2]) := Lib.hid (bytes_lit2 W _ _)
    have HPS := Lib.hid hps
    have HSZ := Lib.hid hsz
    have HPL : Hid (pre.length < 8) := Lib.hid (by have := HL.out; omega)
    clear hpart hps hsz hpre
    gi_wp2
    refine wpIn_region_any (by kernel_rfl) ?_
    change wpAnyIn _ _ _ _ _ _ _ _ _ (World.drew _)
    refine wpAnyIn_ready (rs := [0, 1, 2]) (by kernel_rfl) (by simp) ?_
    refine AllReadyIn.cons rfl (fun K hK => ?_) ?_
    · go_simp
      refine hK _ _ ?_
      clear hK K
      refine wpAnyIn_ready (rs := [1, 2]) (by kernel_rfl) (by simp) ?_
      refine AllReadyIn.cons rfl (fun K hK => ?_) ?_
      · go_simp
        refine hK _ _ ?_
        clear hK K
        refine wpAnyIn_ready (rs := [2]) (by kernel_rfl) (by simp) ?_
        refine AllReadyIn.cons rfl (fun K hK => ?_) ?_
        · go_simp
          refine hK _ _ ?_
          clear hK K
          refine wpAnyIn_ready (rs := [3]) (by kernel_rfl) (by simp) ?_
          refine AllReadyIn.cons rfl (fun K hK => ?_) ?_
          · go_simp
            refine hK _ _ ?_
            clear hK K
            refine wpAnyIn_ready (rs := [4]) (by kernel_rfl) (by simp) ?_
            refine AllReadyIn.cons rfl (fun K hK => ?_) ?_
            · go_simp
              refine ⟨trivial, (HHX.out _ _ _ HB2.out).mono ?_⟩
              rintro e w3 ⟨rfl, hb3⟩
              have hbW : Below W.heap.size W w3 := ((below_one (w := W) _).drew).trans (hb3.mono (by simp))
              have hx3 := (hbW.block _ (Array.getElem?_eq_some_iff.1 HPS.out.1).1).trans HPS.out.1
              have HO3 := Lib.hid (own_below4 HPS.out.2.1 hbW)
              have c3 : w3.cell? ⟨w.heap.size, 0, none⟩ = some v := cell_of hx3 0 rfl
              have c3a : ∀ o, (w3.alloc o).cell? ⟨w.heap.size, 0, none⟩ = some v := fun o => cell_of (((below_one o).block _ (Array.getElem?_eq_some_iff.1 hx3).1).trans hx3) 0 rfl
              have HX3 := Lib.hid hx3
              have HBW := Lib.hid hbW
              clear hb3 hbW hx3
              refine hK _ _ ?_
              clear hK K
              refine wpAnyIn_ready (rs := [5]) (by kernel_rfl) (by simp) ?_
              refine AllReadyIn.cons rfl (fun K hK => ?_) ?_
              · go_simp
                refine hK _ _ ?_
                clear hK K
                refine wpAnyIn_ready (rs := [6]) (by kernel_rfl) (by simp) ?_
                refine AllReadyIn.cons rfl (fun K hK => ?_) ?_
                · refine stepIn_append_lies (openF_round l _) (by rfl) _ _ _ (by rfl) (w.heap.size + 1 + 1) 9 i0 _ 1 16 Tryd.underlying51 hi0 hz0 hz1 hz2 rfl (by omega) v (hexL pre).length ((hexL pre).map strV4) (by rfl) (HO3.out.alloc _) ⟨w3.heap.size, 0, none⟩ 1 1 [.string (strB part)] (by rfl) (by rfl) (World.news_of_block (cs := #[.string (strB part)]) (t := 9) (fr := (0, 0)) (heap_alloc_new w3 _)) (by simp [Value.oneCell']) (by omega) (by have := HPL.out; rw [hexL_len]; unfold maxLen; omega) (by have := HPL.out; rw [hexL_len]; omega) (by have := HBW.out.size; have := HSZ.out; simp; omega) (w3.heap.size + 1) (by simp) ?_
                  intro g4 cp4 w4 hown4 hgrow4 hat4 hlt4
                  have hx4 := keep_far4 (((below_one (w := w3) (.cells #[.string (strB part)] 9)).block _ (Array.getElem?_eq_some_iff.1 HX3.out).1).trans HX3.out) hgrow4 (own_ne4 HPS.out.2.1 (by omega))
                  have c4 : w4.cell? ⟨w.heap.size, 0, none⟩ = some v := cell_of hx4 0 rfl
                  have g4f := free_of hx4 0
                  have HOW := Lib.hid hown4
                  have HGR := Lib.hid hgrow4
                  clear hx4 hown4 hgrow4 hat4 hlt4
                  refine hK _ _ ?_
                  clear hK K
                  refine wpAnyIn_ready (rs := [7]) (by kernel_rfl) (by simp) ?_
                  refine AllReadyIn.cons rfl (fun K hK => ?_) ?_
                  · go_simp
                    refine hK _ _ ?_
                    clear hK K
                    refine wpAnyIn_done (by kernel_rfl) ?_ _
                    have HP := Lib.hid (ps_app (m := 1) HPS.out HBW.out HOW.out HGR.out)
                    have HQ := Lib.hid (ps_round (u := .slice (some ⟨g4, 0, none⟩) ((hexL pre).length + 1) cp4) HPS.out HSZ.out HBW.out (HO3.out.alloc _) HGR.out)
                    gi_wp2
                    exact ⟨HQ.out.1.from _, HQ.out.2, _, by rw [HN.out]; exact HP.out, Nat.le_trans HSZ.out HQ.out.1.size⟩
                  exact AllReadyIn.nil
                exact AllReadyIn.nil
              exact AllReadyIn.nil
            exact AllReadyIn.nil
          exact AllReadyIn.nil
        exact AllReadyIn.nil
      refine AllReadyIn.cons rfl (fun K hK => ?_) ?_
      · go_simp
        refine hK _ _ ?_
        clear hK K
        refine wpAnyIn_ready (rs := [1]) (by kernel_rfl) (by simp) ?_
        refine AllReadyIn.cons rfl (fun K hK => ?_) ?_
        · go_simp
          refine hK _ _ ?_
          clear hK K
          refine wpAnyIn_ready (rs := [3]) (by kernel_rfl) (by simp) ?_
          refine AllReadyIn.cons rfl (fun K hK => ?_) ?_
          · go_simp
            refine hK _ _ ?_
            clear hK K
            refine wpAnyIn_ready (rs := [4]) (by kernel_rfl) (by simp) ?_
            refine AllReadyIn.cons rfl (fun K hK => ?_) ?_
            · go_simp
              refine ⟨trivial, (HHX.out _ _ _ HB2.out).mono ?_⟩
              rintro e w3 ⟨rfl, hb3⟩
              have hbW : Below W.heap.size W w3 := ((below_one (w := W) _).drew).trans (hb3.mono (by simp))
              have hx3 := (hbW.block _ (Array.getElem?_eq_some_iff.1 HPS.out.1).1).trans HPS.out.1
              have HO3 := Lib.hid (own_below4 HPS.out.2.1 hbW)
              have c3 : w3.cell? ⟨w.heap.size, 0, none⟩ = some v := cell_of hx3 0 rfl
              have c3a : ∀ o, (w3.alloc o).cell? ⟨w.heap.size, 0, none⟩ = some v := fun o => cell_of (((below_one o).block _ (Array.getElem?_eq_some_iff.1 hx3).1).trans hx3) 0 rfl
              have HX3 := Lib.hid hx3
              have HBW := Lib.hid hbW
              clear hb3 hbW hx3
              refine hK _ _ ?_
              clear hK K
              refine wpAnyIn_ready (rs := [5]) (by kernel_rfl) (by simp) ?_
              refine AllReadyIn.cons rfl (fun K hK => ?_) ?_
              · go_simp
                refine hK _ _ ?_
                clear hK K
                refine wpAnyIn_ready (rs := [6]) (by kernel_rfl) (by simp) ?_
                refine AllReadyIn.cons rfl (fun K hK => ?_) ?_
                · refine stepIn_append_lies (openF_round l _) (by rfl) _ _ _ (by rfl) (w.heap.size + 1 + 1) 9 i0 _ 1 16 Tryd.underlying51 hi0 hz0 hz1 hz2 rfl (by omega) v (hexL pre).length ((hexL pre).map strV4) (by rfl) (HO3.out.alloc _) ⟨w3.heap.size, 0, none⟩ 1 1 [.string (strB part)] (by rfl) (by rfl) (World.news_of_block (cs := #[.string (strB part)]) (t := 9) (fr := (0, 0)) (heap_alloc_new w3 _)) (by simp [Value.oneCell']) (by omega) (by have := HPL.out; rw [hexL_len]; unfold maxLen; omega) (by have := HPL.out; rw [hexL_len]; omega) (by have := HBW.out.size; have := HSZ.out; simp; omega) (w3.heap.size + 1) (by simp) ?_
                  intro g4 cp4 w4 hown4 hgrow4 hat4 hlt4
                  have hx4 := keep_far4 (((below_one (w := w3) (.cells #[.string (strB part)] 9)).block _ (Array.getElem?_eq_some_iff.1 HX3.out).1).trans HX3.out) hgrow4 (own_ne4 HPS.out.2.1 (by omega))
                  have c4 : w4.cell? ⟨w.heap.size, 0, none⟩ = some v := cell_of hx4 0 rfl
                  have g4f := free_of hx4 0
                  have HOW := Lib.hid hown4
                  have HGR := Lib.hid hgrow4
                  clear hx4 hown4 hgrow4 hat4 hlt4
                  refine hK _ _ ?_
                  clear hK K
                  refine wpAnyIn_ready (rs := [7]) (by kernel_rfl) (by simp) ?_
                  refine AllReadyIn.cons rfl (fun K hK => ?_) ?_
                  · go_simp
                    refine hK _ _ ?_
                    clear hK K
                    refine wpAnyIn_done (by kernel_rfl) ?_ _
                    have HP := Lib.hid (ps_app (m := 1) HPS.out HBW.out HOW.out HGR.out)
                    have HQ := Lib.hid (ps_round (u := .slice (some ⟨g4, 0, none⟩) ((hexL pre).length + 1) cp4) HPS.out HSZ.out HBW.out (HO3.out.alloc _) HGR.out)
                    gi_wp2
                    exact ⟨HQ.out.1.from _, HQ.out.2, _, by rw [HN.out]; exact HP.out, Nat.le_trans HSZ.out HQ.out.1.size⟩
                  exact AllReadyIn.nil
                exact AllReadyIn.nil
              exact AllReadyIn.nil
            exact AllReadyIn.nil
          exact AllReadyIn.nil
        exact AllReadyIn.nil
      exact AllReadyIn.nil
    refine AllReadyIn.cons rfl (fun K hK => ?_) ?_
    · go_simp
      refine hK _ _ ?_
      clear hK K
      refine wpAnyIn_ready (rs := [0, 2]) (by kernel_rfl) (by simp) ?_
      refine AllReadyIn.cons rfl (fun K hK => ?_) ?_
      · go_simp
        refine hK _ _ ?_
        clear hK K
        refine wpAnyIn_ready (rs := [2]) (by kernel_rfl) (by simp) ?_
        refine AllReadyIn.cons rfl (fun K hK => ?_) ?_
        · go_simp
          refine hK _ _ ?_
          clear hK K
          refine wpAnyIn_ready (rs := [3]) (by kernel_rfl) (by simp) ?_
          refine AllReadyIn.cons rfl (fun K hK => ?_) ?_
          · go_simp
            refine hK _ _ ?_
            clear hK K
            refine wpAnyIn_ready (rs := [4]) (by kernel_rfl) (by simp) ?_
            refine AllReadyIn.cons rfl (fun K hK => ?_) ?_
            · go_simp
              refine ⟨trivial, (HHX.out _ _ _ HB2.out).mono ?_⟩
              rintro e w3 ⟨rfl, hb3⟩
              have hbW : Below W.heap.size W w3 := ((below_one (w := W) _).drew).trans (hb3.mono (by simp))
              have hx3 := (hbW.block _ (Array.getElem?_eq_some_iff.1 HPS.out.1).1).trans HPS.out.1
              have HO3 := Lib.hid (own_below4 HPS.out.2.1 hbW)
              have c3 : w3.cell? ⟨w.heap.size, 0, none⟩ = some v := cell_of hx3 0 rfl
              have c3a : ∀ o, (w3.alloc o).cell? ⟨w.heap.size, 0, none⟩ = some v := fun o => cell_of (((below_one o).block _ (Array.getElem?_eq_some_iff.1 hx3).1).trans hx3) 0 rfl
              have HX3 := Lib.hid hx3
              have HBW := Lib.hid hbW
              clear hb3 hbW hx3
              refine hK _ _ ?_
              clear hK K
              refine wpAnyIn_ready (rs := [5]) (by kernel_rfl) (by simp) ?_
              refine AllReadyIn.cons rfl (fun K hK => ?_) ?_
              · go_simp
                refine hK _ _ ?_
                clear hK K
                refine wpAnyIn_ready (rs := [6]) (by kernel_rfl) (by simp) ?_
                refine AllReadyIn.cons rfl (fun K hK => ?_) ?_
                · refine stepIn_append_lies (openF_round l _) (by rfl) _ _ _ (by rfl) (w.heap.size + 1 + 1) 9 i0 _ 1 16 Tryd.underlying51 hi0 hz0 hz1 hz2 rfl (by omega) v (hexL pre).length ((hexL pre).map strV4) (by rfl) (HO3.out.alloc _) ⟨w3.heap.size, 0, none⟩ 1 1 [.string (strB part)] (by rfl) (by rfl) (World.news_of_block (cs := #[.string (strB part)]) (t := 9) (fr := (0, 0)) (heap_alloc_new w3 _)) (by simp [Value.oneCell']) (by omega) (by have := HPL.out; rw [hexL_len]; unfold maxLen; omega) (by have := HPL.out; rw [hexL_len]; omega) (by have := HBW.out.size; have := HSZ.out; simp; omega) (w3.heap.size + 1) (by simp) ?_
                  intro g4 cp4 w4 hown4 hgrow4 hat4 hlt4
                  have hx4 := keep_far4 (((below_one (w := w3) (.cells #[.string (strB part)] 9)).block _ (Array.getElem?_eq_some_iff.1 HX3.out).1).trans HX3.out) hgrow4 (own_ne4 HPS.out.2.1 (by omega))
                  have c4 : w4.cell? ⟨w.heap.size, 0, none⟩ = some v := cell_of hx4 0 rfl
                  have g4f := free_of hx4 0
                  have HOW := Lib.hid hown4
                  have HGR := Lib.hid hgrow4
                  clear hx4 hown4 hgrow4 hat4 hlt4
                  refine hK _ _ ?_
                  clear hK K
                  refine wpAnyIn_ready (rs := [7]) (by kernel_rfl) (by simp) ?_
                  refine AllReadyIn.cons rfl (fun K hK => ?_) ?_
                  · go_simp
                    refine hK _ _ ?_
                    clear hK K
                    refine wpAnyIn_done (by kernel_rfl) ?_ _
                    have HP := Lib.hid (ps_app (m := 1) HPS.out HBW.out HOW.out HGR.out)
                    have HQ := Lib.hid (ps_round (u := .slice (some ⟨g4, 0, none⟩) ((hexL pre).length + 1) cp4) HPS.out HSZ.out HBW.out (HO3.out.alloc _) HGR.out)
                    gi_wp2
                    exact ⟨HQ.out.1.from _, HQ.out.2, _, by rw [HN.out]; exact HP.out, Nat.le_trans HSZ.out HQ.out.1.size⟩
                  exact AllReadyIn.nil
                exact AllReadyIn.nil
              exact AllReadyIn.nil
            exact AllReadyIn.nil
          exact AllReadyIn.nil
        exact AllReadyIn.nil
      refine AllReadyIn.cons rfl (fun K hK => ?_) ?_
      · go_simp
        refine hK _ _ ?_
        clear hK K
        refine wpAnyIn_ready (rs := [0, 3]) (by kernel_rfl) (by simp) ?_
        refine AllReadyIn.cons rfl (fun K hK => ?_) ?_
        · go_simp
          refine hK _ _ ?_
          clear hK K
          refine wpAnyIn_ready (rs := [3]) (by kernel_rfl) (by simp) ?_
          refine AllReadyIn.cons rfl (fun K hK => ?_) ?_
          · go_simp
            refine hK _ _ ?_
            clear hK K
            refine wpAnyIn_ready (rs := [4]) (by kernel_rfl) (by simp) ?_
            refine AllReadyIn.cons rfl (fun K hK => ?_) ?_
            · go_simp
              refine ⟨trivial, (HHX.out _ _ _ HB2.out).mono ?_⟩
              rintro e w3 ⟨rfl, hb3⟩
              have hbW : Below W.heap.size W w3 := ((below_one (w := W) _).drew).trans (hb3.mono (by simp))
              have hx3 := (hbW.block _ (Array.getElem?_eq_some_iff.1 HPS.out.1).1).trans HPS.out.1
              have HO3 := Lib.hid (own_below4 HPS.out.2.1 hbW)
              have c3 : w3.cell? ⟨w.heap.size, 0, none⟩ = some v := cell_of hx3 0 rfl
              have c3a : ∀ o, (w3.alloc o).cell? ⟨w.heap.size, 0, none⟩ = some v := fun o => cell_of (((below_one o).block _ (Array.getElem?_eq_some_iff.1 hx3).1).trans hx3) 0 rfl
              have HX3 := Lib.hid hx3
              have HBW := Lib.hid hbW
              clear hb3 hbW hx3
              refine hK _ _ ?_
              clear hK K
              refine wpAnyIn_ready (rs := [5]) (by kernel_rfl) (by simp) ?_
              refine AllReadyIn.cons rfl (fun K hK => ?_) ?_
              · go_simp
                refine hK _ _ ?_
                clear hK K
                refine wpAnyIn_ready (rs := [6]) (by kernel_rfl) (by simp) ?_
                refine AllReadyIn.cons rfl (fun K hK => ?_) ?_
                · refine stepIn_append_lies (openF_round l _) (by rfl) _ _ _ (by rfl) (w.heap.size + 1 + 1) 9 i0 _ 1 16 Tryd.underlying51 hi0 hz0 hz1 hz2 rfl (by omega) v (hexL pre).length ((hexL pre).map strV4) (by rfl) (HO3.out.alloc _) ⟨w3.heap.size, 0, none⟩ 1 1 [.string (strB part)] (by rfl) (by rfl) (World.news_of_block (cs := #[.string (strB part)]) (t := 9) (fr := (0, 0)) (heap_alloc_new w3 _)) (by simp [Value.oneCell']) (by omega) (by have := HPL.out; rw [hexL_len]; unfold maxLen; omega) (by have := HPL.out; rw [hexL_len]; omega) (by have := HBW.out.size; have := HSZ.out; simp; omega) (w3.heap.size + 1) (by simp) ?_
                  intro g4 cp4 w4 hown4 hgrow4 hat4 hlt4
                  have hx4 := keep_far4 (((below_one (w := w3) (.cells #[.string (strB part)] 9)).block _ (Array.getElem?_eq_some_iff.1 HX3.out).1).trans HX3.out) hgrow4 (own_ne4 HPS.out.2.1 (by omega))
                  have c4 : w4.cell? ⟨w.heap.size, 0, none⟩ = some v := cell_of hx4 0 rfl
                  have g4f := free_of hx4 0
                  have HOW := Lib.hid hown4
                  have HGR := Lib.hid hgrow4
                  clear hx4 hown4 hgrow4 hat4 hlt4
                  refine hK _ _ ?_
                  clear hK K
                  refine wpAnyIn_ready (rs := [7]) (by kernel_rfl) (by simp) ?_
                  refine AllReadyIn.cons rfl (fun K hK => ?_) ?_
                  · go_simp
                    refine hK _ _ ?_
                    clear hK K
                    refine wpAnyIn_done (by kernel_rfl) ?_ _
                    have HP := Lib.hid (ps_app (m := 1) HPS.out HBW.out HOW.out HGR.out)
                    have HQ := Lib.hid (ps_round (u := .slice (some ⟨g4, 0, none⟩) ((hexL pre).length + 1) cp4) HPS.out HSZ.out HBW.out (HO3.out.alloc _) HGR.out)
                    gi_wp2
                    exact ⟨HQ.out.1.from _, HQ.out.2, _, by rw [HN.out]; exact HP.out, Nat.le_trans HSZ.out HQ.out.1.size⟩
                  exact AllReadyIn.nil
                exact AllReadyIn.nil
              exact AllReadyIn.nil
            exact AllReadyIn.nil
          exact AllReadyIn.nil
        refine AllReadyIn.cons rfl (fun K hK => ?_) ?_
        · go_simp
          refine hK _ _ ?_
          clear hK K
          refine wpAnyIn_ready (rs := [0, 4]) (by kernel_rfl) (by simp) ?_
          refine AllReadyIn.cons rfl (fun K hK => ?_) ?_
          · go_simp
            refine hK _ _ ?_
            clear hK K
            refine wpAnyIn_ready (rs := [4]) (by kernel_rfl) (by simp) ?_
            refine AllReadyIn.cons rfl (fun K hK => ?_) ?_
            · go_simp
              refine ⟨trivial, (HHX.out _ _ _ HB2.out).mono ?_⟩
              rintro e w3 ⟨rfl, hb3⟩
              have hbW : Below W.heap.size W w3 := ((below_one (w := W) _).drew).trans (hb3.mono (by simp))
              have hx3 := (hbW.block _ (Array.getElem?_eq_some_iff.1 HPS.out.1).1).trans HPS.out.1
              have HO3 := Lib.hid (own_below4 HPS.out.2.1 hbW)
              have c3 : w3.cell? ⟨w.heap.size, 0, none⟩ = some v := cell_of hx3 0 rfl
              have c3a : ∀ o, (w3.alloc o).cell? ⟨w.heap.size, 0, none⟩ = some v := fun o => cell_of (((below_one o).block _ (Array.getElem?_eq_some_iff.1 hx3).1).trans hx3) 0 rfl
              have HX3 := Lib.hid hx3
              have HBW := Lib.hid hbW
              clear hb3 hbW hx3
              refine hK _ _ ?_
              clear hK K
              refine wpAnyIn_ready (rs := [5]) (by kernel_rfl) (by simp) ?_
              refine AllReadyIn.cons rfl (fun K hK => ?_) ?_
              · go_simp
                refine hK _ _ ?_
                clear hK K
                refine wpAnyIn_ready (rs := [6]) (by kernel_rfl) (by simp) ?_
                refine AllReadyIn.cons rfl (fun K hK => ?_) ?_
                · refine stepIn_append_lies (openF_round l _) (by rfl) _ _ _ (by rfl) (w.heap.size + 1 + 1) 9 i0 _ 1 16 Tryd.underlying51 hi0 hz0 hz1 hz2 rfl (by omega) v (hexL pre).length ((hexL pre).map strV4) (by rfl) (HO3.out.alloc _) ⟨w3.heap.size, 0, none⟩ 1 1 [.string (strB part)] (by rfl) (by rfl) (World.news_of_block (cs := #[.string (strB part)]) (t := 9) (fr := (0, 0)) (heap_alloc_new w3 _)) (by simp [Value.oneCell']) (by omega) (by have := HPL.out; rw [hexL_len]; unfold maxLen; omega) (by have := HPL.out; rw [hexL_len]; omega) (by have := HBW.out.size; have := HSZ.out; simp; omega) (w3.heap.size + 1) (by simp) ?_
                  intro g4 cp4 w4 hown4 hgrow4 hat4 hlt4
                  have hx4 := keep_far4 (((below_one (w := w3) (.cells #[.string (strB part)] 9)).block _ (Array.getElem?_eq_some_iff.1 HX3.out).1).trans HX3.out) hgrow4 (own_ne4 HPS.out.2.1 (by omega))
                  have c4 : w4.cell? ⟨w.heap.size, 0, none⟩ = some v := cell_of hx4 0 rfl
                  have g4f := free_of hx4 0
                  have HOW := Lib.hid hown4
                  have HGR := Lib.hid hgrow4
                  clear hx4 hown4 hgrow4 hat4 hlt4
                  refine hK _ _ ?_
                  clear hK K
                  refine wpAnyIn_ready (rs := [7]) (by kernel_rfl) (by simp) ?_
                  refine AllReadyIn.cons rfl (fun K hK => ?_) ?_
                  · go_simp
                    refine hK _ _ ?_
                    clear hK K
                    refine wpAnyIn_done (by kernel_rfl) ?_ _
                    have HP := Lib.hid (ps_app (m := 1) HPS.out HBW.out HOW.out HGR.out)
                    have HQ := Lib.hid (ps_round (u := .slice (some ⟨g4, 0, none⟩) ((hexL pre).length + 1) cp4) HPS.out HSZ.out HBW.out (HO3.out.alloc _) HGR.out)
                    gi_wp2
                    exact ⟨HQ.out.1.from _, HQ.out.2, _, by rw [HN.out]; exact HP.out, Nat.le_trans HSZ.out HQ.out.1.size⟩
                  exact AllReadyIn.nil
                exact AllReadyIn.nil
              exact AllReadyIn.nil
            exact AllReadyIn.nil
          refine AllReadyIn.cons rfl (fun K hK => ?_) ?_
          · go_simp
            refine ⟨trivial, (HHX.out _ _ _ HB2.out).mono ?_⟩
            rintro e w3 ⟨rfl, hb3⟩
            have hbW : Below W.heap.size W w3 := ((below_one (w := W) _).drew).trans (hb3.mono (by simp))
            have hx3 := (hbW.block _ (Array.getElem?_eq_some_iff.1 HPS.out.1).1).trans HPS.out.1
            have HO3 := Lib.hid (own_below4 HPS.out.2.1 hbW)
            have c3 : w3.cell? ⟨w.heap.size, 0, none⟩ = some v := cell_of hx3 0 rfl
            have c3a : ∀ o, (w3.alloc o).cell? ⟨w.heap.size, 0, none⟩ = some v := fun o => cell_of (((below_one o).block _ (Array.getElem?_eq_some_iff.1 hx3).1).trans hx3) 0 rfl
            have HX3 := Lib.hid hx3
            have HBW := Lib.hid hbW
            clear hb3 hbW hx3
            refine hK _ _ ?_
            clear hK K
            refine wpAnyIn_ready (rs := [0, 5]) (by kernel_rfl) (by simp) ?_
            refine AllReadyIn.cons rfl (fun K hK => ?_) ?_
            · go_simp
              refine hK _ _ ?_
              clear hK K
              refine wpAnyIn_ready (rs := [5]) (by kernel_rfl) (by simp) ?_
              refine AllReadyIn.cons rfl (fun K hK => ?_) ?_
              · go_simp
                refine hK _ _ ?_
                clear hK K
                refine wpAnyIn_ready (rs := [6]) (by kernel_rfl) (by simp) ?_
                refine AllReadyIn.cons rfl (fun K hK => ?_) ?_
                · refine stepIn_append_lies (openF_round l _) (by rfl) _ _ _ (by rfl) (w.heap.size + 1 + 1) 9 i0 _ 1 16 Tryd.underlying51 hi0 hz0 hz1 hz2 rfl (by omega) v (hexL pre).length ((hexL pre).map strV4) (by rfl) (HO3.out.alloc _) ⟨w3.heap.size, 0, none⟩ 1 1 [.string (strB part)] (by rfl) (by rfl) (World.news_of_block (cs := #[.string (strB part)]) (t := 9) (fr := (0, 0)) (heap_alloc_new w3 _)) (by simp [Value.oneCell']) (by omega) (by have := HPL.out; rw [hexL_len]; unfold maxLen; omega) (by have := HPL.out; rw [hexL_len]; omega) (by have := HBW.out.size; have := HSZ.out; simp; omega) (w3.heap.size + 1) (by simp) ?_
                  intro g4 cp4 w4 hown4 hgrow4 hat4 hlt4
                  have hx4 := keep_far4 (((below_one (w := w3) (.cells #[.string (strB part)] 9)).block _ (Array.getElem?_eq_some_iff.1 HX3.out).1).trans HX3.out) hgrow4 (own_ne4 HPS.out.2.1 (by omega))
                  have c4 : w4.cell? ⟨w.heap.size, 0, none⟩ = some v := cell_of hx4 0 rfl
                  have g4f := free_of hx4 0
                  have HOW := Lib.hid hown4
                  have HGR := Lib.hid hgrow4
                  clear hx4 hown4 hgrow4 hat4 hlt4
                  refine hK _ _ ?_
                  clear hK K
                  refine wpAnyIn_ready (rs := [7]) (by kernel_rfl) (by simp) ?_
                  refine AllReadyIn.cons rfl (fun K hK => ?_) ?_
                  · go_simp
                    refine hK _ _ ?_
                    clear hK K
                    refine wpAnyIn_done (by kernel_rfl) ?_ _
                    have HP := Lib.hid (ps_app (m := 1) HPS.out HBW.out HOW.out HGR.out)
                    have HQ := Lib.hid (ps_round (u := .slice (some ⟨g4, 0, none⟩) ((hexL pre).length + 1) cp4) HPS.out HSZ.out HBW.out (HO3.out.alloc _) HGR.out)
                    gi_wp2
                    exact ⟨HQ.out.1.from _, HQ.out.2, _, by rw [HN.out]; exact HP.out, Nat.le_trans HSZ.out HQ.out.1.size⟩
                  exact AllReadyIn.nil
                exact AllReadyIn.nil
              exact AllReadyIn.nil
            refine AllReadyIn.cons rfl (fun K hK => ?_) ?_
            · go_simp
              refine hK _ _ ?_
              clear hK K
              refine wpAnyIn_ready (rs := [0]) (by kernel_rfl) (by simp) ?_
              refine AllReadyIn.cons rfl (fun K hK => ?_) ?_
              · go_simp
                refine hK _ _ ?_
                clear hK K
                refine wpAnyIn_ready (rs := [6]) (by kernel_rfl) (by simp) ?_
                refine AllReadyIn.cons rfl (fun K hK => ?_) ?_
                · refine stepIn_append_lies (openF_round l _) (by rfl) _ _ _ (by rfl) (w.heap.size + 1 + 1) 9 i0 _ 1 16 Tryd.underlying51 hi0 hz0 hz1 hz2 rfl (by omega) v (hexL pre).length ((hexL pre).map strV4) (by rfl) (HO3.out.alloc _) ⟨w3.heap.size, 0, none⟩ 1 1 [.string (strB part)] (by rfl) (by rfl) (World.news_of_block (cs := #[.string (strB part)]) (t := 9) (fr := (0, 0)) (heap_alloc_new w3 _)) (by simp [Value.oneCell']) (by omega) (by have := HPL.out; rw [hexL_len]; unfold maxLen; omega) (by have := HPL.out; rw [hexL_len]; omega) (by have := HBW.out.size; have := HSZ.out; simp; omega) (w3.heap.size + 1) (by simp) ?_
                  intro g4 cp4 w4 hown4 hgrow4 hat4 hlt4
                  have hx4 := keep_far4 (((below_one (w := w3) (.cells #[.string (strB part)] 9)).block _ (Array.getElem?_eq_some_iff.1 HX3.out).1).trans HX3.out) hgrow4 (own_ne4 HPS.out.2.1 (by omega))
                  have c4 : w4.cell? ⟨w.heap.size, 0, none⟩ = some v := cell_of hx4 0 rfl
                  have g4f := free_of hx4 0
                  have HOW := Lib.hid hown4
                  have HGR := Lib.hid hgrow4
                  clear hx4 hown4 hgrow4 hat4 hlt4
                  refine hK _ _ ?_
                  clear hK K
                  refine wpAnyIn_ready (rs := [7]) (by kernel_rfl) (by simp) ?_
                  refine AllReadyIn.cons rfl (fun K hK => ?_) ?_
                  · go_simp
                    refine hK _ _ ?_
                    clear hK K
                    refine wpAnyIn_done (by kernel_rfl) ?_ _
                    have HP := Lib.hid (ps_app (m := 1) HPS.out HBW.out HOW.out HGR.out)
                    have HQ := Lib.hid (ps_round (u := .slice (some ⟨g4, 0, none⟩) ((hexL pre).length + 1) cp4) HPS.out HSZ.out HBW.out (HO3.out.alloc _) HGR.out)
                    gi_wp2
                    exact ⟨HQ.out.1.from _, HQ.out.2, _, by rw [HN.out]; exact HP.out, Nat.le_trans HSZ.out HQ.out.1.size⟩
                  exact AllReadyIn.nil
                exact AllReadyIn.nil
              exact AllReadyIn.nil
            exact AllReadyIn.nil
          exact AllReadyIn.nil
        exact AllReadyIn.nil
      exact AllReadyIn.nil
    refine AllReadyIn.cons rfl (fun K hK => ?_) ?_
    · go_simp
      refine hK _ _ ?_
      clear hK K
      refine wpAnyIn_ready (rs := [0, 1]) (by kernel_rfl) (by simp) ?_
      refine AllReadyIn.cons rfl (fun K hK => ?_) ?_
      · go_simp
        refine hK _ _ ?_
        clear hK K
        refine wpAnyIn_ready (rs := [1]) (by kernel_rfl) (by simp) ?_
        refine AllReadyIn.cons rfl (fun K hK => ?_) ?_
        · go_simp
          refine hK _ _ ?_
          clear hK K
          refine wpAnyIn_ready (rs := [3]) (by kernel_rfl) (by simp) ?_
          refine AllReadyIn.cons rfl (fun K hK => ?_) ?_
          · go_simp
            refine hK _ _ ?_
            clear hK K
            refine wpAnyIn_ready (rs := [4]) (by kernel_rfl) (by simp) ?_
            refine AllReadyIn.cons rfl (fun K hK => ?_) ?_
            · go_simp
              refine ⟨trivial, (HHX.out _ _ _ HB2.out).mono ?_⟩
              rintro e w3 ⟨rfl, hb3⟩
              have hbW : Below W.heap.size W w3 := ((below_one (w := W) _).drew).trans (hb3.mono (by simp))
              have hx3 := (hbW.block _ (Array.getElem?_eq_some_iff.1 HPS.out.1).1).trans HPS.out.1
              have HO3 := Lib.hid (own_below4 HPS.out.2.1 hbW)
              have c3 : w3.cell? ⟨w.heap.size, 0, none⟩ = some v := cell_of hx3 0 rfl
              have c3a : ∀ o, (w3.alloc o).cell? ⟨w.heap.size, 0, none⟩ = some v := fun o => cell_of (((below_one o).block _ (Array.getElem?_eq_some_iff.1 hx3).1).trans hx3) 0 rfl
              have HX3 := Lib.hid hx3
              have HBW := Lib.hid hbW
              clear hb3 hbW hx3
              refine hK _ _ ?_
              clear hK K
              refine wpAnyIn_ready (rs := [5]) (by kernel_rfl) (by simp) ?_
              refine AllReadyIn.cons rfl (fun K hK => ?_) ?_
              · go_simp
                refine hK _ _ ?_
                clear hK K
                refine wpAnyIn_ready (rs := [6]) (by kernel_rfl) (by simp) ?_
                refine AllReadyIn.cons rfl (fun K hK => ?_) ?_
                · refine stepIn_append_lies (openF_round l _) (by rfl) _ _ _ (by rfl) (w.heap.size + 1 + 1) 9 i0 _ 1 16 Tryd.underlying51 hi0 hz0 hz1 hz2 rfl (by omega) v (hexL pre).length ((hexL pre).map strV4) (by rfl) (HO3.out.alloc _) ⟨w3.heap.size, 0, none⟩ 1 1 [.string (strB part)] (by rfl) (by rfl) (World.news_of_block (cs := #[.string (strB part)]) (t := 9) (fr := (0, 0)) (heap_alloc_new w3 _)) (by simp [Value.oneCell']) (by omega) (by have := HPL.out; rw [hexL_len]; unfold maxLen; omega) (by have := HPL.out; rw [hexL_len]; omega) (by have := HBW.out.size; have := HSZ.out; simp; omega) (w3.heap.size + 1) (by simp) ?_
                  intro g4 cp4 w4 hown4 hgrow4 hat4 hlt4
                  have hx4 := keep_far4 (((below_one (w := w3) (.cells #[.string (strB part)] 9)).block _ (Array.getElem?_eq_some_iff.1 HX3.out).1).trans HX3.out) hgrow4 (own_ne4 HPS.out.2.1 (by omega))
                  have c4 : w4.cell? ⟨w.heap.size, 0, none⟩ = some v := cell_of hx4 0 rfl
                  have g4f := free_of hx4 0
                  have HOW := Lib.hid hown4
                  have HGR := Lib.hid hgrow4
                  clear hx4 hown4 hgrow4 hat4 hlt4
                  refine hK _ _ ?_
                  clear hK K
                  refine wpAnyIn_ready (rs := [7]) (by kernel_rfl) (by simp) ?_
                  refine AllReadyIn.cons rfl (fun K hK => ?_) ?_
                  · go_simp
                    refine hK _ _ ?_
                    clear hK K
                    refine wpAnyIn_done (by kernel_rfl) ?_ _
                    have HP := Lib.hid (ps_app (m := 1) HPS.out HBW.out HOW.out HGR.out)
                    have HQ := Lib.hid (ps_round (u := .slice (some ⟨g4, 0, none⟩) ((hexL pre).length + 1) cp4) HPS.out HSZ.out HBW.out (HO3.out.alloc _) HGR.out)
                    gi_wp2
                    exact ⟨HQ.out.1.from _, HQ.out.2, _, by rw [HN.out]; exact HP.out, Nat.le_trans HSZ.out HQ.out.1.size⟩
                  exact AllReadyIn.nil
                exact AllReadyIn.nil
              exact AllReadyIn.nil
            exact AllReadyIn.nil
          exact AllReadyIn.nil
        exact AllReadyIn.nil
      refine AllReadyIn.cons rfl (fun K hK => ?_) ?_
      · go_simp
        refine hK _ _ ?_
        clear hK K
        refine wpAnyIn_ready (rs := [0, 3]) (by kernel_rfl) (by simp) ?_
        refine AllReadyIn.cons rfl (fun K hK => ?_) ?_
        · go_simp
          refine hK _ _ ?_
          clear hK K
          refine wpAnyIn_ready (rs := [3]) (by kernel_rfl) (by simp) ?_
          refine AllReadyIn.cons rfl (fun K hK => ?_) ?_
          · go_simp
            refine hK _ _ ?_
            clear hK K
            refine wpAnyIn_ready (rs := [4]) (by kernel_rfl) (by simp) ?_
            refine AllReadyIn.cons rfl (fun K hK => ?_) ?_
            · go_simp
              refine ⟨trivial, (HHX.out _ _ _ HB2.out).mono ?_⟩
              rintro e w3 ⟨rfl, hb3⟩
              have hbW : Below W.heap.size W w3 := ((below_one (w := W) _).drew).trans (hb3.mono (by simp))
              have hx3 := (hbW.block _ (Array.getElem?_eq_some_iff.1 HPS.out.1).1).trans HPS.out.1
              have HO3 := Lib.hid (own_below4 HPS.out.2.1 hbW)
              have c3 : w3.cell? ⟨w.heap.size, 0, none⟩ = some v := cell_of hx3 0 rfl
              have c3a : ∀ o, (w3.alloc o).cell? ⟨w.heap.size, 0, none⟩ = some v := fun o => cell_of (((below_one o).block _ (Array.getElem?_eq_some_iff.1 hx3).1).trans hx3) 0 rfl
              have HX3 := Lib.hid hx3
              have HBW := Lib.hid hbW
              clear hb3 hbW hx3
              refine hK _ _ ?_
              clear hK K
              refine wpAnyIn_ready (rs := [5]) (by kernel_rfl) (by simp) ?_
              refine AllReadyIn.cons rfl (fun K hK => ?_) ?_
              · go_simp
                refine hK _ _ ?_
                clear hK K
                refine wpAnyIn_ready (rs := [6]) (by kernel_rfl) (by simp) ?_
                refine AllReadyIn.cons rfl (fun K hK => ?_) ?_
                · refine stepIn_append_lies (openF_round l _) (by rfl) _ _ _ (by rfl) (w.heap.size + 1 + 1) 9 i0 _ 1 16 Tryd.underlying51 hi0 hz0 hz1 hz2 rfl (by omega) v (hexL pre).length ((hexL pre).map strV4) (by rfl) (HO3.out.alloc _) ⟨w3.heap.size, 0, none⟩ 1 1 [.string (strB part)] (by rfl) (by rfl) (World.news_of_block (cs := #[.string (strB part)]) (t := 9) (fr := (0, 0)) (heap_alloc_new w3 _)) (by simp [Value.oneCell']) (by omega) (by have := HPL.out; rw [hexL_len]; unfold maxLen; omega) (by have := HPL.out; rw [hexL_len]; omega) (by have := HBW.out.size; have := HSZ.out; simp; omega) (w3.heap.size + 1) (by simp) ?_
                  intro g4 cp4 w4 hown4 hgrow4 hat4 hlt4
                  have hx4 := keep_far4 (((below_one (w := w3) (.cells #[.string (strB part)] 9)).block _ (Array.getElem?_eq_some_iff.1 HX3.out).1).trans HX3.out) hgrow4 (own_ne4 HPS.out.2.1 (by omega))
                  have c4 : w4.cell? ⟨w.heap.size, 0, none⟩ = some v := cell_of hx4 0 rfl
                  have g4f := free_of hx4 0
                  have HOW := Lib.hid hown4
                  have HGR := Lib.hid hgrow4
                  clear hx4 hown4 hgrow4 hat4 hlt4
                  refine hK _ _ ?_
                  clear hK K
                  refine wpAnyIn_ready (rs := [7]) (by kernel_rfl) (by simp) ?_
                  refine AllReadyIn.cons rfl (fun K hK => ?_) ?_
                  · go_simp
                    refine hK _ _ ?_
                    clear hK K
                    refine wpAnyIn_done (by kernel_rfl) ?_ _
                    have HP := Lib.hid (ps_app (m := 1) HPS.out HBW.out HOW.out HGR.out)
                    have HQ := Lib.hid (ps_round (u := .slice (some ⟨g4, 0, none⟩) ((hexL pre).length + 1) cp4) HPS.out HSZ.out HBW.out (HO3.out.alloc _) HGR.out)
                    gi_wp2
                    exact ⟨HQ.out.1.from _, HQ.out.2, _, by rw [HN.out]; exact HP.out, Nat.le_trans HSZ.out HQ.out.1.size⟩
                  exact AllReadyIn.nil
                exact AllReadyIn.nil
              exact AllReadyIn.nil
            exact AllReadyIn.nil
          exact AllReadyIn.nil
        refine AllReadyIn.cons rfl (fun K hK => ?_) ?_
        · go_simp
          refine hK _ _ ?_
          clear hK K
          refine wpAnyIn_ready (rs := [0, 4]) (by kernel_rfl) (by simp) ?_
          refine AllReadyIn.cons rfl (fun K hK => ?_) ?_
          · go_simp
            refine hK _ _ ?_
            clear hK K
            refine wpAnyIn_ready (rs := [4]) (by kernel_rfl) (by simp) ?_
            refine AllReadyIn.cons rfl (fun K hK => ?_) ?_
            · go_simp
              refine ⟨trivial, (HHX.out _ _ _ HB2.out).mono ?_⟩
              rintro e w3 ⟨rfl, hb3⟩
              have hbW : Below W.heap.size W w3 := ((below_one (w := W) _).drew).trans (hb3.mono (by simp))
              have hx3 := (hbW.block _ (Array.getElem?_eq_some_iff.1 HPS.out.1).1).trans HPS.out.1
              have HO3 := Lib.hid (own_below4 HPS.out.2.1 hbW)
              have c3 : w3.cell? ⟨w.heap.size, 0, none⟩ = some v := cell_of hx3 0 rfl
              have c3a : ∀ o, (w3.alloc o).cell? ⟨w.heap.size, 0, none⟩ = some v := fun o => cell_of (((below_one o).block _ (Array.getElem?_eq_some_iff.1 hx3).1).trans hx3) 0 rfl
              have HX3 := Lib.hid hx3
              have HBW := Lib.hid hbW
              clear hb3 hbW hx3
              refine hK _ _ ?_
              clear hK K
              refine wpAnyIn_ready (rs := [5]) (by kernel_rfl) (by simp) ?_
              refine AllReadyIn.cons rfl (fun K hK => ?_) ?_
              · go_simp
                refine hK _ _ ?_
                clear hK K
                refine wpAnyIn_ready (rs := [6]) (by kernel_rfl) (by simp) ?_
                refine AllReadyIn.cons rfl (fun K hK => ?_) ?_
                · refine stepIn_append_lies (openF_round l _) (by rfl) _ _ _ (by rfl) (w.heap.size + 1 + 1) 9 i0 _ 1 16 Tryd.underlying51 hi0 hz0 hz1 hz2 rfl (by omega) v (hexL pre).length ((hexL pre).map strV4) (by rfl) (HO3.out.alloc _) ⟨w3.heap.size, 0, none⟩ 1 1 [.string (strB part)] (by rfl) (by rfl) (World.news_of_block (cs := #[.string (strB part)]) (t := 9) (fr := (0, 0)) (heap_alloc_new w3 _)) (by simp [Value.oneCell']) (by omega) (by have := HPL.out; rw [hexL_len]; unfold maxLen; omega) (by have := HPL.out; rw [hexL_len]; omega) (by have := HBW.out.size; have := HSZ.out; simp; omega) (w3.heap.size + 1) (by simp) ?_
                  intro g4 cp4 w4 hown4 hgrow4 hat4 hlt4
                  have hx4 := keep_far4 (((below_one (w := w3) (.cells #[.string (strB part)] 9)).block _ (Array.getElem?_eq_some_iff.1 HX3.out).1).trans HX3.out) hgrow4 (own_ne4 HPS.out.2.1 (by omega))
                  have c4 : w4.cell? ⟨w.heap.size, 0, none⟩ = some v := cell_of hx4 0 rfl
                  have g4f := free_of hx4 0
                  have HOW := Lib.hid hown4
                  have HGR := Lib.hid hgrow4
                  clear hx4 hown4 hgrow4 hat4 hlt4
                  refine hK _ _ ?_
                  clear hK K
                  refine wpAnyIn_ready (rs := [7]) (by kernel_rfl) (by simp) ?_
                  refine AllReadyIn.cons rfl (fun K hK => ?_) ?_
                  · go_simp
                    refine hK _ _ ?_
                    clear hK K
                    refine wpAnyIn_done (by kernel_rfl) ?_ _
                    have HP := Lib.hid (ps_app (m := 1) HPS.out HBW.out HOW.out HGR.out)
                    have HQ := Lib.hid (ps_round (u := .slice (some ⟨g4, 0, none⟩) ((hexL pre).length + 1) cp4) HPS.out HSZ.out HBW.out (HO3.out.alloc _) HGR.out)
                    gi_wp2
                    exact ⟨HQ.out.1.from _, HQ.out.2, _, by rw [HN.out]; exact HP.out, Nat.le_trans HSZ.out HQ.out.1.size⟩
                  exact AllReadyIn.nil
                exact AllReadyIn.nil
              exact AllReadyIn.nil
            exact AllReadyIn.nil
          refine AllReadyIn.cons rfl (fun K hK => ?_) ?_
          · go_simp
            refine ⟨trivial, (HHX.out _ _ _ HB2.out).mono ?_⟩
            rintro e w3 ⟨rfl, hb3⟩
            have hbW : Below W.heap.size W w3 := ((below_one (w := W) _).drew).trans (hb3.mono (by simp))
            have hx3 := (hbW.block _ (Array.getElem?_eq_some_iff.1 HPS.out.1).1).trans HPS.out.1
            have HO3 := Lib.hid (own_below4 HPS.out.2.1 hbW)
            have c3 : w3.cell? ⟨w.heap.size, 0, none⟩ = some v := cell_of hx3 0 rfl
            have c3a : ∀ o, (w3.alloc o).cell? ⟨w.heap.size, 0, none⟩ = some v := fun o => cell_of (((below_one o).block _ (Array.getElem?_eq_some_iff.1 hx3).1).trans hx3) 0 rfl
            have HX3 := Lib.hid hx3
            have HBW := Lib.hid hbW
            clear hb3 hbW hx3
            refine hK _ _ ?_
            clear hK K
            refine wpAnyIn_ready (rs := [0, 5]) (by kernel_rfl) (by simp) ?_
            refine AllReadyIn.cons rfl (fun K hK => ?_) ?_
            · go_simp
              refine hK _ _ ?_
              clear hK K
              refine wpAnyIn_ready (rs := [5]) (by kernel_rfl) (by simp) ?_
              refine AllReadyIn.cons rfl (fun K hK => ?_) ?_
              · go_simp
                refine hK _ _ ?_
                clear hK K
                refine wpAnyIn_ready (rs := [6]) (by kernel_rfl) (by simp) ?_
                refine AllReadyIn.cons rfl (fun K hK => ?_) ?_
                · refine stepIn_append_lies (openF_round l _) (by rfl) _ _ _ (by rfl) (w.heap.size + 1 + 1) 9 i0 _ 1 16 Tryd.underlying51 hi0 hz0 hz1 hz2 rfl (by omega) v (hexL pre).length ((hexL pre).map strV4) (by rfl) (HO3.out.alloc _) ⟨w3.heap.size, 0, none⟩ 1 1 [.string (strB part)] (by rfl) (by rfl) (World.news_of_block (cs := #[.string (strB part)]) (t := 9) (fr := (0, 0)) (heap_alloc_new w3 _)) (by simp [Value.oneCell']) (by omega) (by have := HPL.out; rw [hexL_len]; unfold maxLen; omega) (by have := HPL.out; rw [hexL_len]; omega) (by have := HBW.out.size; have := HSZ.out; simp; omega) (w3.heap.size + 1) (by simp) ?_
                  intro g4 cp4 w4 hown4 hgrow4 hat4 hlt4
                  have hx4 := keep_far4 (((below_one (w := w3) (.cells #[.string (strB part)] 9)).block _ (Array.getElem?_eq_some_iff.1 HX3.out).1).trans HX3.out) hgrow4 (own_ne4 HPS.out.2.1 (by omega))
                  have c4 : w4.cell? ⟨w.heap.size, 0, none⟩ = some v := cell_of hx4 0 rfl
                  have g4f := free_of hx4 0
                  have HOW := Lib.hid hown4
                  have HGR := Lib.hid hgrow4
                  clear hx4 hown4 hgrow4 hat4 hlt4
                  refine hK _ _ ?_
                  clear hK K
                  refine wpAnyIn_ready (rs := [7]) (by kernel_rfl) (by simp) ?_
                  refine AllReadyIn.cons rfl (fun K hK => ?_) ?_
                  · go_simp
                    refine hK _ _ ?_
                    clear hK K
                    refine wpAnyIn_done (by kernel_rfl) ?_ _
                    have HP := Lib.hid (ps_app (m := 1) HPS.out HBW.out HOW.out HGR.out)
                    have HQ := Lib.hid (ps_round (u := .slice (some ⟨g4, 0, none⟩) ((hexL pre).length + 1) cp4) HPS.out HSZ.out HBW.out (HO3.out.alloc _) HGR.out)
                    gi_wp2
                    exact ⟨HQ.out.1.from _, HQ.out.2, _, by rw [HN.out]; exact HP.out, Nat.le_trans HSZ.out HQ.out.1.size⟩
                  exact AllReadyIn.nil
                exact AllReadyIn.nil
              exact AllReadyIn.nil
            refine AllReadyIn.cons rfl (fun K hK => ?_) ?_
            · go_simp
              refine hK _ _ ?_
              clear hK K
              refine wpAnyIn_ready (rs := [0]) (by kernel_rfl) (by simp) ?_
              refine AllReadyIn.cons rfl (fun K hK => ?_) ?_
              · go_simp
                refine hK _ _ ?_
                clear hK K
                refine wpAnyIn_ready (rs := [6]) (by kernel_rfl) (by simp) ?_
                refine AllReadyIn.cons rfl (fun K hK => ?_) ?_
                · refine stepIn_append_lies (openF_round l _) (by rfl) _ _ _ (by rfl) (w.heap.size + 1 + 1) 9 i0 _ 1 16 Tryd.underlying51 hi0 hz0 hz1 hz2 rfl (by omega) v (hexL pre).length ((hexL pre).map strV4) (by rfl) (HO3.out.alloc _) ⟨w3.heap.size, 0, none⟩ 1 1 [.string (strB part)] (by rfl) (by rfl) (World.news_of_block (cs := #[.string (strB part)]) (t := 9) (fr := (0, 0)) (heap_alloc_new w3 _)) (by simp [Value.oneCell']) (by omega) (by have := HPL.out; rw [hexL_len]; unfold maxLen; omega) (by have := HPL.out; rw [hexL_len]; omega) (by have := HBW.out.size; have := HSZ.out; simp; omega) (w3.heap.size + 1) (by simp) ?_
                  intro g4 cp4 w4 hown4 hgrow4 hat4 hlt4
                  have hx4 := keep_far4 (((below_one (w := w3) (.cells #[.string (strB part)] 9)).block _ (Array.getElem?_eq_some_iff.1 HX3.out).1).trans HX3.out) hgrow4 (own_ne4 HPS.out.2.1 (by omega))
                  have c4 : w4.cell? ⟨w.heap.size, 0, none⟩ = some v := cell_of hx4 0 rfl
                  have g4f := free_of hx4 0
                  have HOW := Lib.hid hown4
                  have HGR := Lib.hid hgrow4
                  clear hx4 hown4 hgrow4 hat4 hlt4
                  refine hK _ _ ?_
                  clear hK K
                  refine wpAnyIn_ready (rs := [7]) (by kernel_rfl) (by simp) ?_
                  refine AllReadyIn.cons rfl (fun K hK => ?_) ?_
                  · go_simp
                    refine hK _ _ ?_
                    clear hK K
                    refine wpAnyIn_done (by kernel_rfl) ?_ _
                    have HP := Lib.hid (ps_app (m := 1) HPS.out HBW.out HOW.out HGR.out)
                    have HQ := Lib.hid (ps_round (u := .slice (some ⟨g4, 0, none⟩) ((hexL pre).length + 1) cp4) HPS.out HSZ.out HBW.out (HO3.out.alloc _) HGR.out)
                    gi_wp2
                    exact ⟨HQ.out.1.from _, HQ.out.2, _, by rw [HN.out]; exact HP.out, Nat.le_trans HSZ.out HQ.out.1.size⟩
                  exact AllReadyIn.nil
                exact AllReadyIn.nil
              exact AllReadyIn.nil
            exact AllReadyIn.nil
          exact AllReadyIn.nil
        exact AllReadyIn.nil
      exact AllReadyIn.nil
    exact AllReadyIn.nil
  case done =>
    rintro D xs W hD rfl ⟨v, hps, hsz⟩ hK
    have d0 : W.cell? ⟨w.heap.size, 0, none⟩ = some v := cell_of hps.1 0 rfl
    have HJ : Hid (Calls Tryd.prog 27 #[v, .string ⟨#[58]⟩] W fun e w' => e = .returned (.string (strB (Lib.join (hexL (twoL a)) [58]))) ∧ Below W.heap.size W w') := Lib.hid (by
      have hlen : (hexL (twoL a)).length = 8 := by rw [hexL_len, twoL_len, HL.out]
      refine join_own4 58 hps.2.1 (by omega) ?_
      have := join_len (hexL (twoL a)) 58 4 (fun x hx => by
        obtain ⟨c, _, rfl⟩ := List.mem_map.1 hx
        rw [hexOf_length]; simp)
      omega)
    have HPS := Lib.hid hps
    clear hps
    go_wp2_with (first | (go_at_call 27; ((with_reducible refine HJ.out.mono ?_); rintro e w3 ⟨rfl, hb3⟩)) | fail)
    have hK3 := (hb3.block D (Array.getElem?_eq_some_iff.1 hK).1).trans hK
    exact postM_mark hK3 rfl (print_results _ _ _ _ rfl rfl) ⟨by rw [HPC.out]; rfl, mark_below (HPS.out.2.2.trans (hb3.mono HPS.out.2.2.size)) (by omega) hK3⟩
  case stop =>
    rintro D c pre W hD _ h
    exact h.elim
end Go.Proofs.YtbaceiohcbhpaaaDoor
