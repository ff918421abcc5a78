/- What strconv.special, and ParseFloat, come to at an infinity's text. -/
import Derived.Test.YtgijplljpimbmaaGreatDoorFgRg
namespace Go.Proofs.PlatenFigure
open Go.RowKit
set_option linter.unusedVariables false
set_option maxRecDepth 20000

def infS : ByteArray := ⟨#[105, 110, 102]⟩
set_option maxHeartbeats 4000000 in
theorem cpl_inf (w : World) :
    Calls Tryz.prog 122 #[.string infS, .string ⟨#[105, 110, 102, 105, 110, 105, 116, 121]⟩] w fun e w' => e = .returned (.int .i64 3) ∧ w' = w := by
  have g0 : ((⟨#[105, 110, 102]⟩ : ByteArray)[0]'(by decide)).toNat = 105 := rfl
  have g1 : ((⟨#[105, 110, 102]⟩ : ByteArray)[1]'(by decide)).toNat = 110 := rfl
  have g2 : ((⟨#[105, 110, 102]⟩ : ByteArray)[2]'(by decide)).toNat = 102 := rfl
  have e0 : ((⟨#[105, 110, 102, 105, 110, 105, 116, 121]⟩ : ByteArray)[0]'(by decide)).toNat = 105 := rfl
  have e1 : ((⟨#[105, 110, 102, 105, 110, 105, 116, 121]⟩ : ByteArray)[1]'(by decide)).toNat = 110 := rfl
  have e2 : ((⟨#[105, 110, 102, 105, 110, 105, 116, 121]⟩ : ByteArray)[2]'(by decide)).toNat = 102 := rfl
  have hm : min (8 : Int) 3 = 3 := by decide
  unfold infS
  go_enter Tryz.func122, Tryz.ntmps122
  go_wp2_with fail
  go_loop [6] (fun i => i = .int .i64 0 ∨ i = .int .i64 1 ∨ i = .int .i64 2 ∨ i = .int .i64 3) (fun i => 3 - (intOf i).toNat)
  case atStart => exact Or.inl rfl
  case round =>
    rcases hrel with rfl | rfl | rfl | rfl
    · go_wp2_with fail
      go_round
      case rel => exact Or.inr (Or.inl rfl)
      case measure => simp [intOf]
    · go_wp2_with fail
      go_round
      case rel => exact Or.inr (Or.inr (Or.inl rfl))
      case measure => simp [intOf]
    · go_wp2_with fail
      go_round
      case rel => exact Or.inr (Or.inr (Or.inr rfl))
      case measure => simp [intOf]
    · go_wp2_with fail
      go_ret
      exact ⟨rfl, rfl⟩
end Go.Proofs.PlatenFigure
