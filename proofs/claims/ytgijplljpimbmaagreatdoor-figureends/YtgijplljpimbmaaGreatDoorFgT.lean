/- The example of the layer's statements holds. -/
import Derived.Test.YtgijplljpimbmaaGreatDoorFgS
namespace Go.Proofs.PlatenFigure
open Go.RowKit
set_option linter.unusedVariables false

theorem t_less1 : lessB 9223372036854775808 0 = true := by decide +kernel
theorem t_less2 : lessB 0 9223372036854775808 = false := by decide +kernel
theorem t_len : flen (L ⟨#[49, 101, 43, 120]⟩) = 1 := by decide

set_option maxRecDepth 20000 in
set_option maxHeartbeats 2000000 in
theorem reads_any (w : World) (hL : Lay w) :
    Calls Tryz.prog 12 #[] w fun e w' => e = .returned (.bool true) ∧ Below w.heap.size w w' := by
  have c1 := figread_ex w hL
  have c2 := fun w2 => copysign_ex w2
  have c3 := fun w2 => less_any 9223372036854775808 0 w2 (by decide) (by decide)
  have c4 := fun w2 => less_any 0 9223372036854775808 w2 (by decide) (by decide)
  rw [t_less1] at c3
  rw [t_less2] at c4
  have c5 := fun w2 => len_any ⟨#[49, 101, 43, 120]⟩ w2 (by decide)
  rw [t_len] at c5
  have c6 := fun (w2 : World) (h : Lay w2) => show_ex w2 h
  have o1 : FloatKind.f64.format.order 13851102128954671104 13851102128954671104 = some .eq := by decide +kernel
  have HL := hidden hL
  clear hL
  change Calls Tryz.prog 15 #[.string ⟨#[45, 50, 46, 53, 101, 49]⟩] w _ at c1
  go_enter Tryz.func12, Tryz.ntmps12
  go_wp2_with fail
  refine c1.mono ?_
  rintro e w1 ⟨rfl, hb1⟩
  have HB1 := hidden hb1
  clear hb1 c1
  go_wp2_with fail
  refine (c2 _).mono ?_
  rintro e w2 ⟨rfl, rfl⟩
  go_wp2_with fail
  refine (c3 _).mono ?_
  rintro e w2 ⟨rfl, rfl⟩
  go_wp2_with fail
  refine (c4 _).mono ?_
  rintro e w2 ⟨rfl, rfl⟩
  go_wp2_with fail
  refine (c5 _).mono ?_
  rintro e w3 ⟨rfl, hb3⟩
  have HB3 := hidden (HB1.out.trans (hb3.mono HB1.out.size))
  have c7 := c6 w3 (HL.out.below HB3.out)
  clear hb3 c6
  go_wp2_with fail
  refine c7.mono ?_
  rintro e w4 ⟨rfl, hb4⟩
  have HB4 := hidden (HB3.out.trans (hb4.mono HB3.out.size))
  clear hb4 c7
  go_wp2_with fail
  go_ret
  exact ⟨rfl, HB4.out⟩
end Go.Proofs.PlatenFigure
