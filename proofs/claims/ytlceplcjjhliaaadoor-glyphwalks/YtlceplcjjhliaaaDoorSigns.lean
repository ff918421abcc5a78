/- The document's example of layer 1, as each statement asks it first: it holds. -/
import Derived.Test.YtlceplcjjhliaaaDoorCallsD
namespace Go.Proofs.PlatenGlyph
open Go.RowKit Go.Shelf
set_option linter.unusedVariables false

theorem hidden {p : Prop} (h : p) : Hid p := h

def ex (j : Nat) : Nat := [97, 9, 98, 195, 169].getD j 0
theorem ex_lt (j : Nat) : ex j < 256 := by
  unfold ex
  match j with
  | 0 => decide
  | 1 => decide
  | 2 => decide
  | 3 => decide
  | 4 => decide
  | j + 5 => simp
theorem ex_wide : wide ex 3 0 8 = 9 := by decide
theorem ex_next : szAt ex 5 3 = 2 := by decide
theorem ex_prev : lastAt ex 5 = 2 := by decide
theorem ex_floor : flo ex 5 4 = 3 := by decide
theorem ex_cnt : cnt ex 5 = 4 := by decide

theorem ex_bytes {u : World} {b : Nat} (n : Nat) (hn : n ≤ 5) (hc : Cells u b 0 5 ex) : IsBytes u (.slice (some ⟨b, 0, none⟩) n 5) n ex :=
  ⟨ex_lt, by omega, Or.inr ⟨b, 0, 5, rfl, hn, hc.head hn⟩⟩

theorem s_wide (u : World) (b : Nat) (hT : Lib.Utf8Tabs 0 1 u) (hc : Cells u b 0 5 ex) :
    Calls Tryd.prog 28 #[.slice (some ⟨b, 0, none⟩) 3 5, .int .i64 0, .int .i64 8] u fun e w' => e = .returned (.int .i64 9) ∧ Below u.heap.size u w' := by
  have := wide_any (.slice (some ⟨b, 0, none⟩) 3 5) ex 3 0 8 u (by omega) hT (ex_bytes 3 (by omega) hc) (by omega) (by omega) (by omega)
  rw [ex_wide] at this
  exact this
theorem s_next (u : World) (b : Nat) (hT : Lib.Utf8Tabs 0 1 u) (hc : Cells u b 0 5 ex) :
    Calls Tryd.prog 15 #[.slice (some ⟨b, 0, none⟩) 5 5, .int .i64 3] u fun e w' => e = .returned (.int .i64 2) ∧ Below u.heap.size u w' :=
  next_any (.slice (some ⟨b, 0, none⟩) 5 5) ex 5 3 u hT (ex_bytes 5 (by omega) hc)
theorem s_prev (u : World) (b : Nat) (hT : Lib.Utf8Tabs 0 1 u) (hc : Cells u b 0 5 ex) :
    Calls Tryd.prog 17 #[.slice (some ⟨b, 0, none⟩) 5 5, .int .i64 5] u fun e w' => e = .returned (.int .i64 2) ∧ Below u.heap.size u w' :=
  prev_any (.slice (some ⟨b, 0, none⟩) 5 5) ex 5 5 u hT (ex_bytes 5 (by omega) hc)
theorem s_floor (u : World) (b : Nat) (hT : Lib.Utf8Tabs 0 1 u) (hc : Cells u b 0 5 ex) :
    Calls Tryd.prog 19 #[.slice (some ⟨b, 0, none⟩) 5 5, .int .i64 4] u fun e w' => e = .returned (.int .i64 3) ∧ Below u.heap.size u w' :=
  floor_any (.slice (some ⟨b, 0, none⟩) 5 5) ex 5 4 u hT (ex_bytes 5 (by omega) hc)
theorem s_count (u : World) (b : Nat) (hc : Cells u b 0 5 ex) :
    Calls Tryd.prog 21 #[.slice (some ⟨b, 0, none⟩) 5 5] u fun e w' => e = .returned (.int .i64 4) ∧ Below u.heap.size u w' :=
  count_any (.slice (some ⟨b, 0, none⟩) 5 5) ex 5 u (ex_bytes 5 (by omega) hc)

theorem ex_cells (w : World) : Cells (w.alloc (.cells #[.int .u8 97, .int .u8 9, .int .u8 98, .int .u8 195, .int .u8 169] 5)) w.heap.size 0 5 ex := by
  intro j hj
  match j, hj with
  | 0, _ => simp [ex]
  | 1, _ => simp [ex]
  | 2, _ => simp [ex]
  | 3, _ => simp [ex]
  | 4, _ => simp [ex]

set_option maxHeartbeats 400000 in
theorem signs_any (w : World) (hT : Lib.Utf8Tabs 0 1 w) :
    Calls Tryd.prog 14 #[] w fun e w' => e = .returned (.bool true) ∧ Below w.heap.size w w' := by
  have hc0 := ex_cells w
  have hb0 : Below w.heap.size w (w.alloc (.cells #[.int .u8 97, .int .u8 9, .int .u8 98, .int .u8 195, .int .u8 169] 5)) := (Below.refl _ _).alloc (Nat.le_refl _) _
  have hT0 := tabs_below hT hb0
  have c1 := s_wide _ _ hT0 hc0
  have Hc0 := hidden hc0
  have Hb0 := hidden hb0
  have HT0 := hidden hT0
  clear hc0 hb0 hT0 hT
  go_enter Tryd.func14, Tryd.ntmps14
  go_wp2_with fail
  refine c1.mono ?_
  rintro e w1 ⟨rfl, hb1⟩
  have hc1 := Hc0.out.below hb1
  have hT1 := tabs_below HT0.out hb1
  have hz1 := hb1.size
  have c2 := s_next _ _ hT1 hc1
  have Hc1 := hidden hc1
  have Hb1 := hidden hb1
  have HT1 := hidden hT1
  clear hc1 hb1 hT1 c1
  go_wp2_with fail
  refine c2.mono ?_
  rintro e w2 ⟨rfl, hb2⟩
  have hc2 := Hc1.out.below hb2
  have hT2 := tabs_below HT1.out hb2
  have hz2 := hb2.size
  have c3 := s_prev _ _ hT2 hc2
  have Hc2 := hidden hc2
  have Hb2 := hidden hb2
  have HT2 := hidden hT2
  clear hc2 hb2 hT2 c2
  go_wp2_with fail
  refine c3.mono ?_
  rintro e w3 ⟨rfl, hb3⟩
  have hc3 := Hc2.out.below hb3
  have hT3 := tabs_below HT2.out hb3
  have hz3 := hb3.size
  have c4 := s_floor _ _ hT3 hc3
  have Hc3 := hidden hc3
  have Hb3 := hidden hb3
  have HT3 := hidden hT3
  clear hc3 hb3 hT3 c3
  go_wp2_with fail
  refine c4.mono ?_
  rintro e w4 ⟨rfl, hb4⟩
  have hc4 := Hc3.out.below hb4
  have hz4 := hb4.size
  have c5 := s_count _ _ hc4
  have Hb4 := hidden hb4
  clear hc4 hb4 c4
  go_wp2_with fail
  refine c5.mono ?_
  rintro e w5 ⟨rfl, hb5⟩
  have hs1 : w.heap.size ≤ w1.heap.size := Nat.le_trans Hb0.out.size hz1
  have Hfin : Hid (Below w.heap.size w w5) :=
    ((((Hb0.out.trans (Hb1.out.mono Hb0.out.size)).trans (Hb2.out.mono hs1)).trans (Hb3.out.mono (Nat.le_trans hs1 hz2))).trans (Hb4.out.mono (Nat.le_trans (Nat.le_trans hs1 hz2) hz3))).trans (hb5.mono (Nat.le_trans (Nat.le_trans (Nat.le_trans hs1 hz2) hz3) hz4))
  clear hb5
  go_wp2
  go_ret
  exact ⟨rfl, Hfin.out⟩
end Go.Proofs.PlatenGlyph
