/- What the document's Less and Same, figure.Same, math.Copysign come to. -/
import Derived.Test.YtgijplljpimbmaaGreatDoorFgA
namespace Go.Proofs.PlatenFigure
open Go.RowKit
set_option linter.unusedVariables false

set_option maxRecDepth 20000 in
theorem rless_any (a b : Nat) (w : World) (ha : a < 2 ^ 64) (hb : b < 2 ^ 64) :
    Calls Tryz.prog 25 #[.float .f64 a, .float .f64 b] w fun e w' => e = .returned (.bool (rlessB a b)) ∧ w' = w := by
  have sa := signbit_any a w ha
  have sb := signbit_any b w hb
  have HX : Hid (rlessB a b = if nanW a then false else if nanW b then true else if ord a 0 == some .eq && ord b 0 == some .eq then negW a && !negW b else ord a b == some .lt) := rfl
  have o1 : FloatKind.f64.format.order a b = ord a b := rfl
  have o2 : FloatKind.f64.format.order a 0 = ord a 0 := rfl
  have o3 : FloatKind.f64.format.order b 0 = ord b 0 := rfl
  have ea : (FloatKind.f64.format.order a a != some .eq) = nanW a := by
    change (!(ord a a == some .eq)) = nanW a
    rw [ord_self a, Bool.not_not]
  have eb : (FloatKind.f64.format.order b b != some .eq) = nanW b := by
    change (!(ord b b == some .eq)) = nanW b
    rw [ord_self b, Bool.not_not]
  clear ha hb
  generalize rlessB a b = x at *
  generalize ord a b = o at *
  generalize ord a 0 = p at *
  generalize ord b 0 = q at *
  generalize nanW a = na at *
  generalize nanW b = nb at *
  generalize negW a = ga at *
  generalize negW b = gb at *
  cases na
  · cases nb
    · cases hp : (p == some .eq)
      · go_enter Tryz.func25, Tryz.ntmps25
        go_wp2
        go_ret
        exact ⟨by have := HX.out; simp [*] at this; rw [this]; rfl, rfl⟩
      · cases hq : (q == some .eq)
        · go_enter Tryz.func25, Tryz.ntmps25
          go_wp2
          go_ret
          exact ⟨by have := HX.out; simp [*] at this; rw [this]; rfl, rfl⟩
        · cases ga
          · go_enter Tryz.func25, Tryz.ntmps25
            go_wp2_with fail
            refine sa.mono ?_
            rintro e w1 ⟨rfl, rfl⟩
            go_wp2
            go_ret
            exact ⟨by have := HX.out; simp [*] at this; rw [this]; rfl, rfl⟩
          · go_enter Tryz.func25, Tryz.ntmps25
            go_wp2_with fail
            refine sa.mono ?_
            rintro e w1 ⟨rfl, rfl⟩
            go_wp2_with fail
            refine sb.mono ?_
            rintro e w1 ⟨rfl, rfl⟩
            go_wp2
            go_ret
            exact ⟨by have := HX.out; simp [*] at this; rw [this]; rfl, rfl⟩
    · go_enter Tryz.func25, Tryz.ntmps25
      go_wp2
      go_ret
      exact ⟨by have := HX.out; simp [*] at this; rw [this]; rfl, rfl⟩
  · go_enter Tryz.func25, Tryz.ntmps25
    go_wp2
    go_ret
    exact ⟨by have := HX.out; simp [*] at this; rw [this]; rfl, rfl⟩

def sameB (a b : Nat) : Bool := !lessB a b && !lessB b a
def rsameB (a b : Nat) : Bool := !rlessB a b && !rlessB b a
theorem same_any (a b : Nat) (w : World) (ha : a < 2 ^ 64) (hb : b < 2 ^ 64) :
    Calls Tryz.prog 26 #[.float .f64 a, .float .f64 b] w fun e w' => e = .returned (.bool (sameB a b)) ∧ w' = w := by
  have c1 := less_any a b w ha hb
  have c2 := less_any b a w hb ha
  have HX : Hid (sameB a b = (!lessB a b && !lessB b a)) := rfl
  clear ha hb
  generalize sameB a b = x at *
  generalize lessB a b = l1 at *
  generalize lessB b a = l2 at *
  cases l1
  · go_enter Tryz.func26, Tryz.ntmps26
    go_wp2_with fail
    refine c1.mono ?_
    rintro e w1 ⟨rfl, rfl⟩
    go_wp2_with fail
    refine c2.mono ?_
    rintro e w1 ⟨rfl, rfl⟩
    go_wp2
    go_ret
    exact ⟨by have := HX.out; simp at this; rw [this]; rfl, rfl⟩
  · go_enter Tryz.func26, Tryz.ntmps26
    go_wp2_with fail
    refine c1.mono ?_
    rintro e w1 ⟨rfl, rfl⟩
    go_wp2
    go_ret
    exact ⟨by have := HX.out; simp at this; rw [this]; rfl, rfl⟩
theorem rsame_any (a b : Nat) (w : World) (ha : a < 2 ^ 64) (hb : b < 2 ^ 64) :
    Calls Tryz.prog 18 #[.float .f64 a, .float .f64 b] w fun e w' => e = .returned (.bool (rsameB a b)) ∧ w' = w := by
  have c1 := rless_any a b w ha hb
  have c2 := rless_any b a w hb ha
  have HX : Hid (rsameB a b = (!rlessB a b && !rlessB b a)) := rfl
  clear ha hb
  generalize rsameB a b = x at *
  generalize rlessB a b = l1 at *
  generalize rlessB b a = l2 at *
  cases l1
  · go_enter Tryz.func18, Tryz.ntmps18
    go_wp2_with fail
    refine c1.mono ?_
    rintro e w1 ⟨rfl, rfl⟩
    go_wp2_with fail
    refine c2.mono ?_
    rintro e w1 ⟨rfl, rfl⟩
    go_wp2
    go_ret
    exact ⟨by have := HX.out; simp at this; rw [this]; rfl, rfl⟩
  · go_enter Tryz.func18, Tryz.ntmps18
    go_wp2_with fail
    refine c1.mono ?_
    rintro e w1 ⟨rfl, rfl⟩
    go_wp2
    go_ret
    exact ⟨by have := HX.out; simp at this; rw [this]; rfl, rfl⟩
theorem same_key {T : Nat} (hT : Top T) {a b : Nat} (ha : a < 2 ^ 64) (hb : b < 2 ^ 64) : sameB a b = decide (key T a = key T b) ∧ rsameB a b = decide (key T a = key T b) := by
  unfold sameB rsameB
  rw [(less_key hT ha hb).1, (less_key hT ha hb).2, (less_key hT hb ha).1, (less_key hT hb ha).2]
  constructor <;> rw [Bool.eq_iff_iff] <;> simp <;> omega

set_option maxRecDepth 20000 in
theorem copysign_ex (w : World) :
    Calls Tryz.prog 30 #[.float .f64 0, .float .f64 13830554455654793216] w fun e w' => e = .returned (.float .f64 9223372036854775808) ∧ w' = w := by
  have h1 := fbits 0 w
  have h2 := fbits 13830554455654793216 w
  have h3 := ffrom 9223372036854775808 w
  have b1 : bits .andNot .u64 0 9223372036854775808 = 0 := by decide
  have b2 : bits .and .u64 13830554455654793216 9223372036854775808 = 9223372036854775808 := by decide
  have b3 : bits .or .u64 0 9223372036854775808 = 9223372036854775808 := by decide
  go_enter Tryz.func30, Tryz.ntmps30
  go_wp2
  go_ret
  exact ⟨rfl, rfl⟩
end Go.Proofs.PlatenFigure
