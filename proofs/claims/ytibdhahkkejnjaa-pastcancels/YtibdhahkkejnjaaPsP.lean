/- The document's example: moves. -/
import Derived.Test.YtibdhahkkejnjaaPsO
namespace Go.Proofs.PlatenPiece
open Go Go.RowKit
set_option linter.unusedVariables false
set_option maxRecDepth 100000

theorem tx_new {B : Nat} {w : World} {T : Nat} {pv q : Value} {l : List Nat} (h : Tab B w T pv [⟨q, l, 0⟩] l.length 0) (hl : l.length ≤ 65536) (hB : B ≤ w.heap.size) : Tx B w T l 0 (PlatenPiece.Own T pv [⟨q, l, 0⟩]) := by
  refine ⟨pv, [⟨q, l, 0⟩], 0, rfl, ?_, by simp [flat], by simpa [lenSum] using hl, by simp, by omega, ?_, hB⟩
  · simpa [lenSum] using h
  · intro p hp
    simp only [List.mem_singleton] at hp
    subst hp
    simp
def e0 : Ed := ⟨1, ⟨#[98]⟩, ⟨#[99, 100]⟩, by decide, by decide⟩
theorem e0_fits : fitsL [97, 98] e0 := by
  unfold fitsL e0
  refine ⟨by decide, by decide, by decide⟩
theorem e0_app : appL [97, 98] e0 = [97, 99, 100] := by decide
theorem e0_back : ([e0].reverse.map Ed.back).foldl appL [97, 99, 100] = [97, 98] := by decide

set_option maxHeartbeats 4000000 in
theorem moves_any (w : World) : Calls Try.prog 24 #[] w fun e w' => e = .returned (.bool true) ∧ Below w.heap.size w w' := by
  have hb0 : Below w.heap.size w (w.alloc (.cells #[.int .u8 97, .int .u8 98] 5)) := (Below.refl _ _).alloc (Nat.le_refl _) _
  have c1 := new_some (.slice (some ⟨w.heap.size, 0, none⟩) 2 2) [97, 98] (w.alloc (.cells #[.int .u8 97, .int .u8 98] 5)) (src_new w [97, 98] 2) (by decide) (by decide)
  have hs0 : (w.alloc (.cells #[.int .u8 97, .int .u8 98] 5)).heap.size = w.heap.size + 1 := by simp
  rw [hs0] at c1
  have C1 := hidden c1
  have HB0 := hidden hb0
  clear c1 hb0 hs0
  go_enter Try.func24, Try.ntmps24
  go_wp2_with fail
  refine C1.out.mono ?_
  rintro e w1 ⟨rfl, ⟨pv, q, hT⟩, hg1⟩
  have HB1 := hidden (HB0.out.trans ((below_of_grown hg1).mono HB0.out.size))
  have hz1 : w.heap.size + 1 ≤ w1.heap.size := by have := hg1.size; simp at this; omega
  have hX1 := tx_new hT (by decide) hz1
  have C2 := hidden (past_new hX1 hz1)
  clear C1 hT hg1 HB0
  go_wp2_with fail
  refine C2.out.mono ?_
  rintro e w2 ⟨rfl, h2, hg2⟩
  have HB2 := hidden (HB1.out.trans ((below_of_grown hg2).mono HB1.out.size))
  have H2 := hidden h2
  clear C2 h2 hg2 hX1 HB1
  go_wp2_with fail
  refine (move_ex _).mono ?_
  rintro e w3 ⟨rfl, hb3⟩
  have HB3 := hidden (HB2.out.trans (hb3.mono HB2.out.size))
  have H3 := hidden (H2.out.grown (grown_of_below hb3))
  clear H2 HB2 hb3
  go_wp2_with fail
  have C4 := hidden (do_yes H3.out (by decide) (by decide) (by decide) e0 e0_fits (by decide) (by unfold e0; intro h; exact absurd (congrArg ByteArray.size h) (by decide)))
  refine C4.out.mono ?_
  rintro e w4 ⟨rfl, O4, ov4, h4, hK4, hX4⟩
  rw [e0_app] at h4
  have HB4 : Hid (Below w.heap.size w w4) := HB3.out.trans (hK4.below HB3.out.size (fun k hk => by have := (H3.out.own k hk).1; omega))
  have H4 := hidden h4
  have C5 := hidden (tx_bytes h4.tx (by decide))
  clear C4 h4 hK4 hX4 H3 HB3
  go_wp2_with fail
  refine C5.out.mono ?_
  rintro e w5 ⟨rfl, hh5, hg5⟩
  have hcv := conv_back w4.heap.size 3 [97, 99, 100] (by decide) w5 hh5
  simp only [List.length_cons, List.length_nil, Nat.zero_add, Nat.reduceAdd, List.map_cons, List.map_nil] at hcv
  have HB5 := hidden (HB4.out.trans ((below_of_grown hg5).mono HB4.out.size))
  have H5 := hidden (H4.out.grown hg5)
  clear C5 hh5 hg5 HB4 H4
  go_wp2_with fail
  refine (Undo_of (X := HOwn w1.heap.size O4 ov4 (.slice none 0 0) (.slice none 0 0) [] []) (d0 := []) (t := (ov4, [e0])) ((close_some H5.out (by simp) (by simp) (by simp)).mono (fun q w' ⟨hv, dv', hp, hk, hx⟩ => ⟨hv, _, dv', hp, hk, hx⟩)) (by simp) (by simp) (by simp)).mono ?_
  rintro e w6 ⟨vo, O6, ov6, dv6, uv6, rfl, hr6, h6, hK6, hX6⟩
  have h6' : HP (w.heap.size + 1) w6 w1.heap.size (w.heap.size + 1) [97, 98] (0 + 2 + 2) O6 ov6 dv6 uv6 [] [] [(ov4, [e0])] := by
    rw [← e0_back]; exact h6
  have HB6 : Hid (Below w.heap.size w w6) := HB5.out.trans (hK6.below HB5.out.size (fun k hk => by have := (H5.out.own k hk).1; omega))
  have hvo : ∃ g cap, vo = .slice (some ⟨g, 0, none⟩) 1 cap := by
    rcases hr6.2 with ⟨_, e⟩ | ⟨g, cap, cur, e, _⟩
    · simp at e
    · exact ⟨g, cap, e⟩
  obtain ⟨g, cap, rfl⟩ := hvo
  have hcs := hr6.cells (g := g) rfl
  have r0 : w6.cell? ⟨g, 0, none⟩ = some (.int .i64 1) := by have := hcs 0 (.int .i64 1) rfl; rwa [Addr.add_lit] at this
  have r1 : w6.cell? ⟨g, 1, none⟩ = some (.string ⟨#[99, 100]⟩) := by have := hcs 1 (.string ⟨#[99, 100]⟩) rfl; rwa [Addr.add_lit] at this
  have r2 : w6.cell? ⟨g, 2, none⟩ = some (.string ⟨#[98]⟩) := by have := hcs 2 (.string ⟨#[98]⟩) rfl; rwa [Addr.add_lit] at this
  have C7 := hidden (tx_bytes h6'.tx (by decide))
  clear hr6 h6 h6' hK6 hX6 H5 HB5 hcs hcv
  go_wp2_with fail
  refine C7.out.mono ?_
  rintro e w7 ⟨rfl, hh7, hg7⟩
  have hcv := conv_back w6.heap.size 2 [97, 98] (by decide) w7 hh7
  simp only [List.length_cons, List.length_nil, Nat.zero_add, Nat.reduceAdd, List.map_cons, List.map_nil] at hcv
  have HB7 := hidden (HB6.out.trans ((below_of_grown hg7).mono HB6.out.size))
  clear C7 hh7 hg7 HB6 r0 r1 r2
  go_wp2_with fail
  go_ret
  exact ⟨rfl, HB7.out⟩
end Go.Proofs.PlatenPiece
