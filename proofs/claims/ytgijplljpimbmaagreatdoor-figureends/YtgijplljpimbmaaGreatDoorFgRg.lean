/- strconv.ParseFloat answers what atof64 answers without an error. -/
import Derived.Test.YtgijplljpimbmaaGreatDoorKG
namespace Go.Proofs.PlatenFigure
open Go.RowKit
set_option linter.unusedVariables false
set_option linter.unusedSimpArgs false

/-- atof64 answers x for the whole text, without an error. -/
def AF (s : ByteArray) (x : Nat) : Prop := ∀ w, Lay w → Calls Tryz.prog 68 #[.string s] w fun e w' => e = .returned (.tuple #[.float .f64 x, .int .i64 s.size, .nilIface]) ∧ Below w.heap.size w w'
set_option maxRecDepth 20000 in
theorem prefixf_any (s : ByteArray) (x : Nat) (h : AF s x) (w : World) (hL : Lay w) :
    Calls Tryz.prog 56 #[.string s, .int .i64 64] w fun e w' => e = .returned (.tuple #[.float .f64 x, .int .i64 s.size, .nilIface]) ∧ Below w.heap.size w w' := by
  have c1 := h w hL
  clear hL h
  go_enter Tryz.func56, Tryz.ntmps56
  go_wp2_with fail
  refine c1.mono ?_
  rintro e w' ⟨rfl, hb⟩
  have HB := hidden hb
  clear hb
  go_wp2_with fail
  go_ret3
  exact ⟨rfl, HB.out⟩
set_option maxRecDepth 20000 in
theorem iparse_any (s : ByteArray) (x : Nat) (h : AF s x) (w : World) (hL : Lay w) :
    Calls Tryz.prog 50 #[.string s, .int .i64 64] w fun e w' => e = .returned (.tuple #[.float .f64 x, .nilIface]) ∧ Below w.heap.size w w' := by
  have c1 := prefixf_any s x h w hL
  clear hL h
  go_enter Tryz.func50, Tryz.ntmps50
  go_wp2_with fail
  refine c1.mono ?_
  rintro e w' ⟨rfl, hb⟩
  have HB := hidden hb
  clear hb
  go_wp2_with fail
  go_ret2
  exact ⟨rfl, HB.out⟩
set_option maxRecDepth 20000 in
theorem parse_any (s : ByteArray) (x : Nat) (h : AF s x) : PF s x := by
  intro w hL
  have c1 := iparse_any s x h w hL
  clear hL h
  go_enter Tryz.func39, Tryz.ntmps39
  go_wp2_with fail
  refine c1.mono ?_
  rintro e w' ⟨rfl, hb⟩
  have HB := hidden hb
  clear hb
  go_wp2_with fail
  go_ret2
  exact ⟨⟨_, rfl⟩, HB.out⟩
end Go.Proofs.PlatenFigure
