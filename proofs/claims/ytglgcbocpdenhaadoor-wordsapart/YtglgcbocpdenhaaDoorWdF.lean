/- The document's example of layer 5, as each statement asks it first: it holds. -/
import Derived.Test.YtglgcbocpdenhaaDoorWdE
namespace Go.Proofs.PlatenWords
open Go.RowKit Go.Shelf Go.Proofs.PlatenGlyph
set_option linter.unusedVariables false

def ex (j : Nat) : Nat := [97, 98, 32, 45].getD j 0
theorem ex_lt (j : Nat) : ex j < 256 := by
  unfold ex
  match j with
  | 0 => decide
  | 1 => decide
  | 2 => decide
  | 3 => decide
  | j + 4 => simp
theorem ex_cells (w : World) : Cells (w.alloc (.cells #[.int .u8 97, .int .u8 98, .int .u8 32, .int .u8 45] 5)) w.heap.size 0 4 ex := by
  intro j hj
  match j, hj with
  | 0, _ => simp [ex]
  | 1, _ => simp [ex]
  | 2, _ => simp [ex]
  | 3, _ => simp [ex]
theorem ex_bytes {u : World} {b : Nat} (hc : Cells u b 0 4 ex) : IsBytes u (.slice (some ⟨b, 0, none⟩) 4 4) 4 ex :=
  ⟨ex_lt, by omega, Or.inr ⟨b, 0, 4, rfl, by omega, hc⟩⟩
theorem ex_rns : rns ex 4 4 = [(0, 2), (2, 1), (3, 1)] := by decide
theorem ex_last (r : Nat) (ok : Bool) (h : Ls ex 4 0 r ok) : r = 1 ∧ ok = true := by
  refine Ls.eq h (Or.inl ⟨2, ⟨by decide, by decide, by decide, by decide, fun j h1 h2 h3 => ?_⟩, by decide, rfl⟩)
  have : j = 1 := by omega
  subst this
  revert h3; decide
theorem x_runs (u : World) (b : Nat) (hc : Cells u b 0 4 ex) :
    Calls Tryd.prog 14 #[.slice (some ⟨b, 0, none⟩) 4 4] u fun e w' => ∃ g cap, e = .returned (.slice (some ⟨g, 0, none⟩) 3 cap) ∧ 3 ≤ cap ∧ w'.cell? ⟨g, 2, none⟩ = some (.int .i64 2) ∧ w'.cell? ⟨g, 5, none⟩ = some (.int .i64 1) ∧ Below u.heap.size u w' := by
  refine (runs_any _ 4 ex u ex_lt (by omega) (Row.of (ex_bytes hc))).mono fun e w' ⟨l, he, hs, hb⟩ => ?_
  rw [ex_rns] at hs
  obtain ⟨a, cap, rfl, hs⟩ := hs
  obtain ⟨g, rfl, hcap, hcell⟩ := hs (by decide)
  exact ⟨g, cap, he, hcap, (hcell 1 (by decide)).1, (hcell 2 (by decide)).2, hb⟩
theorem x_last (u : World) (b : Nat) (hc : Cells u b 0 4 ex) (hT : Lib.Utf8Tabs 0 1 u) :
    Calls Tryd.prog 23 #[.slice (some ⟨b, 0, none⟩) 4 4, .int .i64 0] u fun e w' => e = .returned (.tuple #[.int .i64 1, .bool true]) ∧ Below u.heap.size u w' := by
  refine (last_any _ 4 ex 0 u (by omega) (ex_bytes hc) hT (by omega)).mono fun e w' ⟨⟨r, ok, he, hl⟩, hb⟩ => ?_
  obtain ⟨rfl, rfl⟩ := ex_last r ok hl
  exact ⟨he, hb⟩
theorem x_class (u : World) : Calls Tryd.prog 12 #[.int .u8 95] u fun e w' => e = .returned (.int .u8 2) ∧ w' = u := class_any 95 u (by decide)
theorem x_class2 (u : World) : Calls Tryd.prog 12 #[.int .u8 45] u fun e w' => e = .returned (.int .u8 3) ∧ w' = u := class_any 45 u (by decide)

set_option maxHeartbeats 1000000 in
theorem ex_any (w : World) (hT : Lib.Utf8Tabs 0 1 w) :
    Calls Tryd.prog 11 #[] w fun e w' => e = .returned (.bool true) ∧ Below w.heap.size w w' := by
  have hb0 : Below w.heap.size w (w.alloc (.cells #[.int .u8 97, .int .u8 98, .int .u8 32, .int .u8 45] 5)) := (Below.refl _ _).alloc (Nat.le_refl _) _
  have hc0 := ex_cells w
  have c1 := x_runs _ _ hc0
  have HC := hidden hc0
  have HB := hidden hb0
  have HT := hidden hT
  clear hb0 hc0 hT
  go_enter Tryd.func11, Tryd.ntmps11
  go_wp2_with fail
  refine c1.mono ?_
  rintro e w1 ⟨g, cap, rfl, hcap, g1, g2, hb1⟩
  have HB1 := hidden (HB.out.trans (hb1.mono HB.out.size))
  have HC1 := hidden (HC.out.below hb1)
  have c2 := x_last w1 _ HC1.out (tabs_below HT.out HB1.out)
  clear hb1 c1
  have G1 := hidden g1
  have G2 := hidden g2
  clear g1 g2
  go_wp2_with fail
  refine c2.mono ?_
  rintro e w2 ⟨rfl, hb2⟩
  have HB2 := hidden (HB1.out.trans (hb2.mono HB1.out.size))
  have g1 : w2.cell? ⟨g, 2, none⟩ = some (.int .i64 2) := by rw [hb2.cell (p := ⟨g, 2, none⟩) (World.block_lt_of_cell? _ _ G1.out)]; exact G1.out
  have g2 : w2.cell? ⟨g, 5, none⟩ = some (.int .i64 1) := by rw [hb2.cell (p := ⟨g, 5, none⟩) (World.block_lt_of_cell? _ _ G2.out)]; exact G2.out
  have c3 := x_class w2
  have c4 := x_class2 w2
  clear hb2 c2
  go_wp2_with fail
  refine c3.mono ?_
  rintro e w3 ⟨rfl, rfl⟩
  go_wp2_with fail
  refine c4.mono ?_
  rintro e w4 ⟨rfl, rfl⟩
  go_wp2
  go_ret
  exact ⟨rfl, HB2.out⟩
end Go.Proofs.PlatenWords
