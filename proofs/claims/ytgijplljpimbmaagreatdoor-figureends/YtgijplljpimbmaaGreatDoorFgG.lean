/- What strconv's shortest digits of 0.5 come to. -/
import Derived.Test.YtgijplljpimbmaaGreatDoorFgF
namespace Go.Proofs.PlatenFigure
open Go.RowKit Go.Shelf
set_option linter.unusedVariables false

theorem ex_hi : pHi 365 = 12800000000000000000 ∧ pLo 365 = 0 := by decide +kernel
theorem ex_u1 : usc 9223372036854775296 12800000000000000000 0 5 = 199999999999999989 := by decide +kernel
theorem ex_u2 : usc 9223372036854776832 12800000000000000000 0 5 = 200000000000000023 := by decide +kernel

set_option maxRecDepth 20000 in
set_option maxHeartbeats 4000000 in
theorem short_ex (w : World) (hw : 11 ≤ w.heap.size) (hP : P10 w) :
    Calls Tryz.prog 84 #[.int .u64 9223372036854775808, .int .i64 (-64)] w fun e w' => e = .returned (.tuple #[.int .u64 5000000000000000, .int .i64 (-16)]) ∧ Below w.heap.size w w' := by
  have c1 := skewed_any (-53) w (by omega) (by omega)
  rw [show ((-53 : Int) * 631305 - 261663) / 2097152 = -17 by decide] at c1
  have c2 := fun w2 => log2_any 17 w2 (by omega) (by omega)
  rw [show ((17 : Int) * 108853) / 32768 = 56 by decide] at c2
  have c3 := prescale_any (-64) 17 56 365 w .nilIface .nilIface .nilIface (by omega) (by omega) (by omega) (by omega) (by omega) (by omega) hw hP
  rw [ex_hi.1, ex_hi.2] at c3
  change Calls _ _ _ _ (fun e' w' => _ ∧ w' = w.alloc (.cells #[.int .u64 (12800000000000000000 : Int), .int .u64 (0 : Int), .int .i64 (5 : Int)] 134)) at c3
  have HB := hidden (show Below w.heap.size w (w.alloc (.cells #[.int .u64 (12800000000000000000 : Int), .int .u64 (0 : Int), .int .i64 (5 : Int)] 134)) from (Below.refl _ _).alloc (Nat.le_refl _) _)
  have c4 := fun n => uscale_any 9223372036854775296 12800000000000000000 0 5 w.heap.size ((w.alloc (.cells #[.int .u64 (12800000000000000000 : Int), .int .u64 (0 : Int), .int .i64 (5 : Int)] 134)).drewN n) (by decide) (by decide) (by decide) (by decide) (by simp) (by simp) (by simp)
  have c5 := fun n => uscale_any 9223372036854776832 12800000000000000000 0 5 w.heap.size ((w.alloc (.cells #[.int .u64 (12800000000000000000 : Int), .int .u64 (0 : Int), .int .i64 (5 : Int)] 134)).drewN n) (by decide) (by decide) (by decide) (by decide) (by simp) (by simp) (by simp)
  rw [ex_u1] at c4
  rw [ex_u2] at c5
  have c6 := fun w2 => nudge_any 199999999999999989 0 w2 (by decide) (by omega) (by omega) (by omega)
  have c7 := fun w2 => ceil_any 199999999999999989 w2 (by decide)
  have c8 := fun w2 => nudge_any 200000000000000023 0 w2 (by decide) (by omega) (by omega) (by omega)
  have c9 := fun w2 => floor_any 200000000000000023 w2 (by decide)
  clear hP hw
  go_enter Tryz.func84, Tryz.ntmps84
  go_wp2_with fail
  refine c1.mono ?_
  rintro e w' ⟨rfl, rfl⟩
  have b1 : bits .and .i64 4503599627370496 1 = 0 := by decide
  go_wp2_with fail
  refine (c2 _).mono ?_
  rintro e w2 ⟨rfl, rfl⟩
  go_wp2_with fail
  refine c3.mono ?_
  rintro e w2 ⟨rfl, rfl⟩
  go_wp2_with fail
  refine (c4 0).mono ?_
  rintro e w2 ⟨rfl, n1, rfl⟩
  go_wp2_with fail
  refine (c6 _).mono ?_
  rintro e w2 ⟨rfl, rfl⟩
  go_wp2_with fail
  refine (c7 _).mono ?_
  rintro e w2 ⟨rfl, rfl⟩
  go_wp2_with fail
  refine (c5 _).mono ?_
  rintro e w2 ⟨rfl, n2, rfl⟩
  go_wp2_with fail
  refine (c8 _).mono ?_
  rintro e w2 ⟨rfl, rfl⟩
  go_wp2_with fail
  refine (c9 _).mono ?_
  rintro e w2 ⟨rfl, rfl⟩
  go_wp2
  go_ret2
  exact ⟨rfl, HB.out.os, HB.out.tape, HB.out.output, HB.out.size, HB.out.block⟩
end Go.Proofs.PlatenFigure
