/- The document's example of layer 3, as each statement asks it first: it holds. -/
import Derived.Test.YtjdjacnlobjmgaaDoorLnF
namespace Go.Proofs.PlatenLines
open Go.RowKit Go.Shelf Go.Proofs.PlatenGlyph
set_option linter.unusedVariables false

def ex (j : Nat) : Nat := [97, 10, 9, 98].getD j 0
theorem ex_lt (j : Nat) : ex j < 256 := by
  unfold ex
  match j with
  | 0 => decide
  | 1 => decide
  | 2 => decide
  | 3 => decide
  | j + 4 => simp
theorem ex_cells (w : World) : Cells (w.alloc (.cells #[.int .u8 97, .int .u8 10, .int .u8 9, .int .u8 98] 5)) w.heap.size 0 4 ex := by
  intro j hj
  match j, hj with
  | 0, _ => simp [ex]
  | 1, _ => simp [ex]
  | 2, _ => simp [ex]
  | 3, _ => simp [ex]
theorem ex_row {u : World} {b : Nat} (hc : Cells u b 0 4 ex) : IsRow u (.slice (some ⟨b, 0, none⟩) 4 4) 4 ex :=
  ⟨ex_lt, by omega, Or.inr ⟨b, 0, 4, rfl, by omega, hc⟩⟩
theorem ex_at : sAt ex 4 1 = 2 := by decide
theorem ex_n : sN ex 4 1 = 2 := by decide
theorem ex_has : has ex 4 1 = true := by decide
theorem ex_of : lc ex (clamp 4 2) = 1 := by decide
theorem ex_col : colAt ex 4 3 8 = 8 := by decide
theorem ex_ind (k : Nat) (h : IsInd (byt ⟨#[9, 98]⟩) (ByteArray.size ⟨#[9, 98]⟩) k) : k = 1 :=
  isInd_eq h ⟨by decide, by decide, by decide⟩

theorem x_span (u : World) (b : Nat) (hc : Cells u b 0 4 ex) :
    Calls Tryd.prog 17 #[.slice (some ⟨b, 0, none⟩) 4 4, .int .i64 1] u fun e w' => e = .returned (.tuple #[.agg #[.int .i64 2, .int .i64 2], .bool true]) ∧ Below u.heap.size u w' := by
  have := span_any (.slice (some ⟨b, 0, none⟩) 4 4) 4 ex 1 u (by omega) (ex_row hc) (by omega)
  rw [ex_at, ex_n, ex_has] at this
  exact this
theorem x_of (u : World) (b : Nat) (hc : Cells u b 0 4 ex) :
    Calls Tryd.prog 14 #[.slice (some ⟨b, 0, none⟩) 4 4, .int .i64 2] u fun e w' => e = .returned (.int .i64 1) ∧ Below u.heap.size u w' := by
  have := of_any (.slice (some ⟨b, 0, none⟩) 4 4) 4 ex 2 u (by omega) (ex_row hc)
  rw [ex_of] at this
  exact this
theorem x_col (u : World) (b : Nat) (hc : Cells u b 0 4 ex) (hT : Lib.Utf8Tabs 1 2 u) :
    Calls Tryd.prog 25 #[.slice (some ⟨b, 0, none⟩) 4 4, .int .i64 3, .int .i64 8] u fun e w' => e = .returned (.int .i64 8) ∧ Below u.heap.size u w' := by
  have := column_any (.slice (some ⟨b, 0, none⟩) 4 4) 4 ex 3 8 8 u (by omega) (ex_row hc) (by omega) (by omega) hT
  rw [ex_col] at this
  exact this
theorem x_ind (u : World) : Calls Tryd.prog 22 #[.string ⟨#[9, 98]⟩] u fun e w' => e = .returned (.int .i64 1) ∧ w' = u :=
  (indent_any ⟨#[9, 98]⟩ u (by decide)).mono fun e w' ⟨k, he, hk, hw⟩ => ⟨by rw [he, ex_ind k hk]; rfl, hw⟩

set_option maxHeartbeats 1000000 in
theorem rows_any (w : World) (hT : Lib.Utf8Tabs 1 2 w) :
    Calls Tryd.prog 11 #[] w fun e w' => e = .returned (.bool true) ∧ Below w.heap.size w w' := by
  have hb0 : Below w.heap.size w (w.alloc (.cells #[.int .u8 97, .int .u8 10, .int .u8 9, .int .u8 98] 5)) := (Below.refl _ _).alloc (Nat.le_refl _) _
  have hc0 := ex_cells w
  have c1 := x_span _ _ hc0
  have HC := hidden hc0
  have HB := hidden hb0
  have HT := hidden hT
  clear hb0 hc0 hT
  go_enter Tryd.func11, Tryd.ntmps11
  go_wp2_with fail
  refine c1.mono ?_
  rintro e w1 ⟨rfl, hb1⟩
  have hz : w.heap.size + 1 ≤ w1.heap.size := by have := hb1.size; simp at this; omega
  have HB1 := hidden (HB.out.trans (hb1.mono HB.out.size))
  have HC1 := hidden (HC.out.below hb1)
  clear hb1 c1
  have hbs : Below w1.heap.size w1 (w1.alloc (.cells #[.int .i64 2, .int .i64 2] 32)) := (Below.refl _ _).alloc (Nat.le_refl _) _
  have c2 := count_none none (w1.alloc (.cells #[.int .i64 2, .int .i64 2] 32))
  have HC2 := hidden (HC1.out.below hbs)
  have HB2 := hidden (HB1.out.trans (hbs.mono HB1.out.size))
  clear hbs
  go_wp2_with fail
  refine c2.mono ?_
  rintro e w2 ⟨rfl, hb2⟩
  have hz2 : w1.heap.size + 1 ≤ w2.heap.size := by have := hb2.size; simp at this; omega
  obtain ⟨hcc, hff⟩ := bcell hb2
  have h0 : w2.cell? ⟨w1.heap.size, 0, none⟩ = some (.int .i64 2) := by rw [hcc _ _ (by simp)]; simp
  have h1 : w2.cell? ⟨w1.heap.size, 1, none⟩ = some (.int .i64 2) := by rw [hcc _ _ (by simp)]; simp
  have HC3 := hidden (HC2.out.below hb2)
  have HB3 := hidden (HB2.out.trans (hb2.mono HB2.out.size))
  have c3 := x_of _ _ HC3.out
  clear hb2 hcc hff c2
  go_wp2_with fail
  refine c3.mono ?_
  rintro e w3 ⟨rfl, hb3⟩
  have HC4 := hidden (HC3.out.below hb3)
  have HB4 := hidden (HB3.out.trans (hb3.mono HB3.out.size))
  have c4 := x_ind w3
  have c5 := x_col w3 _ HC4.out (tabs_below HT.out HB4.out)
  clear hb3 c3
  go_wp2_with fail
  refine c4.mono ?_
  rintro e w4 ⟨rfl, rfl⟩
  go_wp2_with fail
  refine c5.mono ?_
  rintro e w5 ⟨rfl, hb5⟩
  have HB5 := hidden (HB4.out.trans (hb5.mono HB4.out.size))
  clear hb5
  go_wp2
  go_ret
  exact ⟨rfl, HB5.out⟩
end Go.Proofs.PlatenLines
