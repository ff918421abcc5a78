/- What math.IsNaN, Signbit, Copysign, figure.Less, Same and the document's come to. -/
import Derived.Test.YtgijplljpimbmaaGreatDoorFgM
import Derived.WalkKit
import Derived.WalkLawsBesides
import Derived.Below
import Derived.Carry
import Derived.Laws.IdiomStrings
import Derived.Deep.QuietTactic
import Derived.BigQuiet
import Derived.Laws.Externs
namespace Go.Proofs.PlatenFigure
open Go.RowKit
set_option linter.unusedVariables false

theorem hidden {p : Prop} (h : p) : Hid p := h

theorem isnan_any (a : Nat) (w : World) :
    Calls Tryz.prog 40 #[.float .f64 a] w fun e w' => e = .returned (.bool (nanW a)) ∧ w' = w := by
  have h := ord_self a
  have e : (FloatKind.f64.format.order a a != some .eq) = nanW a := by
    change (!(ord a a == some .eq)) = nanW a
    rw [h, Bool.not_not]
  go_enter Tryz.func40, Tryz.ntmps40
  go_wp2
  go_ret
  exact ⟨rfl, rfl⟩

theorem fbits (a : Nat) (w : World) : (callFunc 17 #[.float .f64 a]).run Tryz.prog w = .ok (.value (.int .u64 a)) w := by
  rw [run_callFunc_extern (e := Extern.MathFloatBits.float64bits) Tryz.func17 (by kernel_rfl) (by kernel_rfl) (by kernel_rfl) (by rfl)]
  rfl
theorem ffrom (n : Int) (w : World) : (callFunc 21 #[.int .u64 n]).run Tryz.prog w = .ok (.value (.float .f64 n.toNat)) w := by
  rw [run_callFunc_extern (e := Extern.MathFloatBits.float64frombits) Tryz.func21 (by kernel_rfl) (by kernel_rfl) (by kernel_rfl) (by rfl)]
  rfl
theorem sbits (a : Nat) (w : World) : (callFunc 72 #[.float .f64 a]).run Tryz.prog w = .ok (.value (.int .u64 a)) w := by
  rw [run_callFunc_extern (e := Extern.MathFloatBits.float64bits) Tryz.func72 (by kernel_rfl) (by kernel_rfl) (by kernel_rfl) (by rfl)]
  rfl
theorem sfrom (n : Int) (w : World) : (callFunc 98 #[.int .u64 n]).run Tryz.prog w = .ok (.value (.float .f64 n.toNat)) w := by
  rw [run_callFunc_extern (e := Extern.MathFloatBits.float64frombits) Tryz.func98 (by kernel_rfl) (by kernel_rfl) (by kernel_rfl) (by rfl)]
  rfl

set_option maxRecDepth 20000 in
theorem signbit_any (a : Nat) (w : World) (ha : a < 2 ^ 64) :
    Calls Tryz.prog 43 #[.float .f64 a] w fun e w' => e = .returned (.bool (negW a)) ∧ w' = w := by
  have h1 := fbits a w
  have e : decide (wrap64 (a : Int) < 0) = negW a := by
    unfold negW wrap64
    rw [Bool.eq_iff_iff]
    simp
    omega
  go_enter Tryz.func43, Tryz.ntmps43
  go_wp2
  go_ret
  exact ⟨by show _ = _; rw [← e]; rfl, rfl⟩

set_option maxRecDepth 20000 in
theorem less_any (a b : Nat) (w : World) (ha : a < 2 ^ 64) (hb : b < 2 ^ 64) :
    Calls Tryz.prog 24 #[.float .f64 a, .float .f64 b] w fun e w' => e = .returned (.bool (lessB a b)) ∧ w' = w := by
  have ca := isnan_any a w
  have cb := isnan_any b w
  have sa := signbit_any a w ha
  have sb := signbit_any b w hb
  have HX : Hid (lessB a b = if nanW a then false else if nanW b then true else if ord a b == some .eq then negW a && !negW b else ord a b == some .lt) := rfl
  have o1 : FloatKind.f64.format.order a b = ord a b := rfl
  clear ha hb
  generalize lessB a b = x at *
  generalize ord a b = o at *
  generalize nanW a = na at *
  generalize nanW b = nb at *
  generalize negW a = ga at *
  generalize negW b = gb at *
  cases na
  · cases nb
    · cases hq : (o == some .eq)
      · have HY := hidden hq
        go_enter Tryz.func24, Tryz.ntmps24
        go_wp2_with fail
        refine ca.mono ?_
        rintro e w1 ⟨rfl, rfl⟩
        go_wp2_with fail
        refine cb.mono ?_
        rintro e w1 ⟨rfl, rfl⟩
        go_wp2
        go_ret
        exact ⟨by have := HX.out; simp [hq] at this; rw [this]; rfl, rfl⟩
      · have HY := hidden hq
        cases ga
        · go_enter Tryz.func24, Tryz.ntmps24
          go_wp2_with fail
          refine ca.mono ?_
          rintro e w1 ⟨rfl, rfl⟩
          go_wp2_with fail
          refine cb.mono ?_
          rintro e w1 ⟨rfl, rfl⟩
          go_wp2_with fail
          refine sa.mono ?_
          rintro e w1 ⟨rfl, rfl⟩
          go_wp2
          go_ret
          exact ⟨by have := HX.out; simp [hq] at this; rw [this]; rfl, rfl⟩
        · go_enter Tryz.func24, Tryz.ntmps24
          go_wp2_with fail
          refine ca.mono ?_
          rintro e w1 ⟨rfl, rfl⟩
          go_wp2_with fail
          refine cb.mono ?_
          rintro e w1 ⟨rfl, rfl⟩
          go_wp2_with fail
          refine sa.mono ?_
          rintro e w1 ⟨rfl, rfl⟩
          go_wp2_with fail
          refine sb.mono ?_
          rintro e w1 ⟨rfl, rfl⟩
          go_wp2
          go_ret
          exact ⟨by have := HX.out; simp [hq] at this; rw [this]; rfl, rfl⟩
    · go_enter Tryz.func24, Tryz.ntmps24
      go_wp2_with fail
      refine ca.mono ?_
      rintro e w1 ⟨rfl, rfl⟩
      go_wp2_with fail
      refine cb.mono ?_
      rintro e w1 ⟨rfl, rfl⟩
      go_wp2
      go_ret
      exact ⟨by have := HX.out; simp at this; rw [this]; rfl, rfl⟩
  · go_enter Tryz.func24, Tryz.ntmps24
    go_wp2_with fail
    refine ca.mono ?_
    rintro e w1 ⟨rfl, rfl⟩
    go_wp2
    go_ret
    exact ⟨by have := HX.out; simp at this; rw [this]; rfl, rfl⟩
end Go.Proofs.PlatenFigure
