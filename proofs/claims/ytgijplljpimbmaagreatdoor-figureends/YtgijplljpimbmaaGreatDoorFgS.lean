/- What figure.Read of the example's text, and the example, come to. -/
import Derived.Test.YtgijplljpimbmaaGreatDoorFgQ
namespace Go.Proofs.PlatenFigure
open Go.RowKit
set_option linter.unusedVariables false

def exS : ByteArray := ⟨#[45, 50, 46, 53, 101, 49]⟩
theorem ex_num : Num (L exS) 1 4 5 true false := by
  refine ⟨.inr ⟨rfl, .inr ⟨rfl, rfl⟩⟩, by decide, by decide, ?_, by decide, ?_, .inr ⟨by decide, by decide, .inl rfl, ?_, .inl ⟨rfl, rfl⟩⟩⟩
  · intro i h1 h2
    have : i = 1 ∨ i = 2 ∨ i = 3 := by omega
    rcases this with rfl | rfl | rfl <;> decide
  · intro k h1 h2
    have : k = 0 ∨ k = 1 ∨ k = 2 := by omega
    rcases this with rfl | rfl | rfl
    · rfl
    · rfl
    · exact absurd h2 (by decide)
  · intro i h1 h2
    have h3 : i < 6 := h2
    obtain rfl : i = 5 := by omega
    decide
theorem ex_m : (rdM (L exS) 1 4).m = 25 ∧ (rdM (L exS) 1 4).tr = false := ⟨rfl, rfl⟩
theorem ex_p : rdP (L exS) 1 4 5 false = 0 := by decide

set_option maxRecDepth 20000 in
set_option maxHeartbeats 2000000 in
theorem atof_ex (w : World) (hL : Lay w) :
    Calls Tryz.prog 68 #[.string exS] w fun e w' => e = .returned (.tuple #[.float .f64 13851102128954671104, .int .i64 6, .nilIface]) ∧ w' = w := by
  have c1 := special_num exS 1 4 5 true false w (by decide) ex_num
  have c2 := read_any exS 1 4 5 true false w (by decide) ex_num
  rw [ex_m.1, ex_m.2, ex_p, show exS.size = 6 from rfl] at c2
  have c3 := bool2u_any true w
  have c4 := exact_ex w hL
  have ho := hL.opt
  clear hL
  generalize exS = s at *
  go_enter Tryz.func68, Tryz.ntmps68
  go_wp2_with fail
  refine c1.mono ?_
  rintro e w' ⟨rfl, rfl⟩
  go_wp2_with fail
  refine c2.mono ?_
  rintro e w' ⟨rfl, rfl⟩
  go_wp2_with fail
  refine c3.mono ?_
  rintro e w' ⟨rfl, rfl⟩
  go_wp2_with fail
  refine c4.mono ?_
  rintro e w' ⟨rfl, rfl⟩
  go_wp2_with fail
  go_ret3
  exact ⟨rfl, rfl⟩
set_option maxRecDepth 20000 in
theorem prefixf_ex (w : World) (hL : Lay w) :
    Calls Tryz.prog 56 #[.string exS, .int .i64 64] w fun e w' => e = .returned (.tuple #[.float .f64 13851102128954671104, .int .i64 6, .nilIface]) ∧ w' = w := by
  have c1 := atof_ex w hL
  clear hL
  generalize exS = s at *
  go_enter Tryz.func56, Tryz.ntmps56
  go_wp2_with fail
  refine c1.mono ?_
  rintro e w' ⟨rfl, rfl⟩
  go_wp2_with fail
  go_ret3
  exact ⟨rfl, rfl⟩
set_option maxRecDepth 20000 in
theorem iparse_ex (w : World) (hL : Lay w) :
    Calls Tryz.prog 50 #[.string exS, .int .i64 64] w fun e w' => e = .returned (.tuple #[.float .f64 13851102128954671104, .nilIface]) ∧ w' = w := by
  have c1 := prefixf_ex w hL
  have hz : exS.size = 6 := rfl
  clear hL
  generalize exS = s at *
  go_enter Tryz.func50, Tryz.ntmps50
  go_wp2_with fail
  refine c1.mono ?_
  rintro e w' ⟨rfl, rfl⟩
  go_wp2_with fail
  go_ret2
  exact ⟨rfl, rfl⟩
set_option maxRecDepth 20000 in
theorem parse_ex (w : World) (hL : Lay w) :
    Calls Tryz.prog 39 #[.string exS, .int .i64 64] w fun e w' => e = .returned (.tuple #[.float .f64 13851102128954671104, .nilIface]) ∧ w' = w := by
  have c1 := iparse_ex w hL
  clear hL
  generalize exS = s at *
  go_enter Tryz.func39, Tryz.ntmps39
  go_wp2_with fail
  refine c1.mono ?_
  rintro e w' ⟨rfl, rfl⟩
  go_wp2_with fail
  go_ret2
  exact ⟨rfl, rfl⟩
theorem ex_len : flen (L exS) = 6 := by decide
set_option maxRecDepth 20000 in
theorem figread_ex (w : World) (hL : Lay w) :
    Calls Tryz.prog 15 #[.string exS] w fun e w' => e = .returned (.tuple #[.float .f64 13851102128954671104, .bool true]) ∧ Below w.heap.size w w' := by
  have c1 := len_any exS w (by decide)
  rw [ex_len] at c1
  have c2 := fun w2 => Tryz.strings_HasSuffix exS ⟨#[110, 97, 110]⟩ w2 (by decide)
  rw [show Lib.hasSuffix exS.data.toList ((⟨#[110, 97, 110]⟩ : ByteArray).data.toList) = false by decide] at c2
  have c3 := fun (w2 : World) (h : Lay w2) => parse_ex w2 h
  have hz : exS.size = 6 := rfl
  have hne : ¬ exS = ByteArray.empty := fun e => absurd (congrArg ByteArray.size e) (by decide)
  have hne3 : exS.toList.isEmpty = false := by decide +kernel
  have HL := hidden hL
  clear hL
  generalize exS = s at *
  go_enter Tryz.func15, Tryz.ntmps15
  go_wp2_with fail
  refine c1.mono ?_
  rintro e w' ⟨rfl, hb⟩
  have HB := hidden hb
  have c3 := c3 w' (HL.out.below hb)
  clear hb
  go_wp2_with fail
  refine (c2 _).mono ?_
  rintro e w2 ⟨rfl, rfl⟩
  go_wp2_with fail
  refine c3.mono ?_
  rintro e w2 ⟨rfl, rfl⟩
  go_wp2_with fail
  go_ret2
  exact ⟨rfl, HB.out⟩
end Go.Proofs.PlatenFigure
