import Derived.Test.YteiadbiopcidmaaTerm3
namespace Go.Proofs.Yteiadbiopcidmaa
set_option linter.unusedVariables false
set_option linter.unusedSimpArgs false
set_option maxRecDepth 100000
open Go.RowKit

abbrev shapeV (sh : Shape) : Value := .agg #[.bool sh.numbered, .int .u64 sh.low, .int .u64 sh.high, .bool sh.hex, .int .i64 sh.least, .int .i64 sh.most, .bool sh.ordered]

theorem read_list (l : List UInt8) (hs : l.length ≤ maxLen) (w : World) :
    Calls Try.prog 60 #[.string ⟨l.toArray⟩] w fun e w' => e = .returned (.tuple #[.int .u64 (rdVal l), .int .i64 (rdCode l)]) ∧ w = w' :=
  read_any ⟨l.toArray⟩ (by simpa [ByteArray.size] using hs) w
theorem rdVal_bd (l : List UInt8) : 0 ≤ rdVal l ∧ rdVal l ≤ 18446744073709551615 := by
  unfold rdVal
  split
  · omega
  · split
    · omega
    · rename_i h; unfold top at h; omega
theorem digs_run_le (P : UInt8 → Bool) (s : ByteArray) (p : Nat) : ((s.data.toList.drop p).takeWhile P).length ≤ s.size - p := by
  have := (List.takeWhile_sublist P (l := s.data.toList.drop p)).length_le
  simpa using this

/-- where a rest stands -/
def posOf (s : ByteArray) (rest : List UInt8) : Nat := s.size - rest.length
theorem suf_pos {s : ByteArray} {p : Nat} {rest : List UInt8} (hp : p ≤ s.size) (h : rest <:+ s.data.toList.drop p) : p ≤ posOf s rest ∧ posOf s rest ≤ s.size ∧ rest = s.data.toList.drop (posOf s rest) := by
  obtain ⟨x, hx⟩ := h
  have hl := congrArg List.length hx
  simp at hl
  unfold posOf
  refine ⟨by omega, by omega, ?_⟩
  have : s.data.toList.drop (s.size - rest.length) = (s.data.toList.drop p).drop x.length := by
    rw [List.drop_drop]; congr 1; omega
  rw [this, ← hx, List.drop_left]
theorem posOf_drop (s : ByteArray) (p : Nat) (hp : p ≤ s.size) : posOf s (s.data.toList.drop p) = p := by
  unfold posOf; simp; omega
theorem posOf_dropWhile (P : UInt8 → Bool) (s : ByteArray) (p : Nat) (hp : p ≤ s.size) : p + ((s.data.toList.drop p).takeWhile P).length = posOf s ((s.data.toList.drop p).dropWhile P) := by
  have h := congrArg List.length (List.takeWhile_append_dropWhile (p := P) (l := s.data.toList.drop p))
  simp only [List.length_append, List.length_drop, Array.length_toList, ByteArray.size_data] at h
  unfold posOf; omega

theorem grown_box {w w1 : World} {b : Nat} {C : Array Value} {T : TypeId} (hG : (w.alloc (.cells C T)).grownBy w1 (some b)) (hb : b < w.heap.size) : w1.heap[w.heap.size]? = some (.cells C T (0, 0)) := by
  rw [hG.block w.heap.size (by simp) (by simp; omega)]
  exact (MapKept.heap_alloc w _).1

theorem number_none (sh : Shape) (hn : sh.numbered = false) (s : ByteArray) (p m d b : Nat) (pv : Value) (w : World) (h : Rd w b s p m d pv) :
    Calls Try.prog 50 #[.pointer (some ⟨b, 0, none⟩), shapeV sh] w fun e w' => e = .returned (.int .u64 0) ∧ Rd w' b s p m d pv ∧ w.grownBy w' (some b) := by
  have H := Lib.hid h
  clear h
  go_enter Try.func50, Try.ntmps50
  go_wp2
  go_ret
  exact ⟨rfl, H.out.alloc _, World.grownBy_alloc _ _ _⟩

theorem number_ok (sh : Shape) (hn : sh.numbered = true) (s : ByteArray) (p m d b : Nat) (pv : Value) (w : World) (hs : s.size ≤ maxLen) (hp : p ≤ s.size) (h : Rd w b s p m d pv)
    (hin : numIn sh.low sh.high ((s.data.toList.drop p).takeWhile isDig) = true) :
    Calls Try.prog 50 #[.pointer (some ⟨b, 0, none⟩), shapeV sh] w fun e w' => e = .returned (.int .u64 (rdVal ((s.data.toList.drop p).takeWhile isDig))) ∧ Rd w' b s (posOf s ((s.data.toList.drop p).dropWhile isDig)) m d pv ∧ w.grownBy w' (some b) := by
  have hsm := hs
  unfold maxLen at hs
  have hl := digs_run_le isDig s p
  simp only [numIn, decide_eq_true_eq] at hin
  obtain ⟨hc, h1, h2⟩ := hin
  have H := Lib.hid h
  have hb := h.lt
  have hc1 : (rdCode ((s.data.toList.drop p).takeWhile isDig) == 0) = true := by simpa using hc
  clear h hc
  go_enter Try.func50, Try.ntmps50
  go_wp2_with (first | (go_at_call 49; ((with_reducible refine (run_any _ isDig isDig_set rfl s p m d b pv _ hsm (by omega) (H.out.alloc _)).mono ?_); rintro e w1 ⟨rfl, hR1, hG1⟩; have HR1 := Lib.hid hR1; have HG1 := Lib.hid hG1; have hbx := grown_box hG1 hb; have hx1 := cell_of hbx 1 rfl; have hx2 := cell_of hbx 2 rfl; clear hR1 hG1 hbx)) | (go_at_call 60; ((with_reducible refine (read_list _ (by unfold maxLen; omega) _).mono ?_); rintro e w' ⟨rfl, rfl⟩)) | (go_at_call 30; ((with_reducible refine (need_ok _).mono ?_); rintro e w' ⟨rfl, rfl⟩)) | fail)
  go_ret
  exact ⟨rfl, by have := HR1.out; rw [posOf_dropWhile isDig s p (by omega)] at this; exact this, grown_trans (World.grownBy_alloc _ _ _) HG1.out⟩

theorem number_bad (sh : Shape) (hn : sh.numbered = true) (s : ByteArray) (p m d b : Nat) (pv : Value) (w : World) (hs : s.size ≤ maxLen) (hp : p ≤ s.size) (h : Rd w b s p m d pv)
    (hin : numIn sh.low sh.high ((s.data.toList.drop p).takeWhile isDig) = false) :
    Calls Try.prog 50 #[.pointer (some ⟨b, 0, none⟩), shapeV sh] w fun e w' => e = .panicked faultC ∧ w.grownBy w' (some b) := by
  have hsm := hs
  unfold maxLen at hs
  have hl := digs_run_le isDig s p
  have hcase : (rdCode ((s.data.toList.drop p).takeWhile isDig) ≠ 0) ∨ (rdCode ((s.data.toList.drop p).takeWhile isDig) = 0 ∧ rdVal ((s.data.toList.drop p).takeWhile isDig) < sh.low) ∨
      (rdCode ((s.data.toList.drop p).takeWhile isDig) = 0 ∧ sh.low ≤ rdVal ((s.data.toList.drop p).takeWhile isDig) ∧ (sh.high : Int) < rdVal ((s.data.toList.drop p).takeWhile isDig)) := by
    simp only [numIn, decide_eq_false_iff_not] at hin
    omega
  have H := Lib.hid h
  have hb := h.lt
  clear h hin
  rcases hcase with hc | ⟨hc, h1⟩ | ⟨hc, h1, h2⟩
  · have hc1 : (rdCode ((s.data.toList.drop p).takeWhile isDig) == 0) = false := beqf hc
    clear hc
    go_enter Try.func50, Try.ntmps50
    go_wp2_with (first | (go_at_call 49; ((with_reducible refine (run_any _ isDig isDig_set rfl s p m d b pv _ hsm (by omega) (H.out.alloc _)).mono ?_); rintro e w1 ⟨rfl, hR1, hG1⟩; have HR1 := Lib.hid hR1; have HG1 := Lib.hid hG1; have hbx := grown_box hG1 hb; have hx1 := cell_of hbx 1 rfl; have hx2 := cell_of hbx 2 rfl; clear hR1 hG1 hbx)) | (go_at_call 60; ((with_reducible refine (read_list _ (by unfold maxLen; omega) _).mono ?_); rintro e w' ⟨rfl, rfl⟩)) | (go_at_call 30; ((with_reducible refine (need_bad _).mono ?_); rintro e w' ⟨rfl, rfl⟩)) | fail)
    exact ⟨rfl, rfl, grown_trans (World.grownBy_alloc _ _ _) HG1.out⟩
  · have hc1 : (rdCode ((s.data.toList.drop p).takeWhile isDig) == 0) = true := by simpa using hc
    have hc2 : decide ((sh.low : Int) ≤ rdVal ((s.data.toList.drop p).takeWhile isDig)) = false := by simpa using h1
    clear hc h1
    go_enter Try.func50, Try.ntmps50
    go_wp2_with (first | (go_at_call 49; ((with_reducible refine (run_any _ isDig isDig_set rfl s p m d b pv _ hsm (by omega) (H.out.alloc _)).mono ?_); rintro e w1 ⟨rfl, hR1, hG1⟩; have HR1 := Lib.hid hR1; have HG1 := Lib.hid hG1; have hbx := grown_box hG1 hb; have hx1 := cell_of hbx 1 rfl; have hx2 := cell_of hbx 2 rfl; clear hR1 hG1 hbx)) | (go_at_call 60; ((with_reducible refine (read_list _ (by unfold maxLen; omega) _).mono ?_); rintro e w' ⟨rfl, rfl⟩)) | (go_at_call 30; ((with_reducible refine (need_bad _).mono ?_); rintro e w' ⟨rfl, rfl⟩)) | fail)
    exact ⟨rfl, rfl, grown_trans (World.grownBy_alloc _ _ _) HG1.out⟩
  · have hc1 : (rdCode ((s.data.toList.drop p).takeWhile isDig) == 0) = true := by simpa using hc
    have hc2 : decide (rdVal ((s.data.toList.drop p).takeWhile isDig) ≤ (sh.high : Int)) = false := by simpa using h2
    clear hc h2
    go_enter Try.func50, Try.ntmps50
    go_wp2_with (first | (go_at_call 49; ((with_reducible refine (run_any _ isDig isDig_set rfl s p m d b pv _ hsm (by omega) (H.out.alloc _)).mono ?_); rintro e w1 ⟨rfl, hR1, hG1⟩; have HR1 := Lib.hid hR1; have HG1 := Lib.hid hG1; have hbx := grown_box hG1 hb; have hx1 := cell_of hbx 1 rfl; have hx2 := cell_of hbx 2 rfl; clear hR1 hG1 hbx)) | (go_at_call 60; ((with_reducible refine (read_list _ (by unfold maxLen; omega) _).mono ?_); rintro e w' ⟨rfl, rfl⟩)) | (go_at_call 30; ((with_reducible refine (need_bad _).mono ?_); rintro e w' ⟨rfl, rfl⟩)) | fail)
    exact ⟨rfl, rfl, grown_trans (World.grownBy_alloc _ _ _) HG1.out⟩
end Go.Proofs.Yteiadbiopcidmaa
