/- What strconv's text of the digits 5, at the point, comes to. -/
import Derived.Test.YtgijplljpimbmaaGreatDoorFgH
import Derived.Test.YtgijplljpimbmaaGreatDoorFgG
namespace Go.Proofs.PlatenFigure
open Go.RowKit Go.Shelf
set_option linter.unusedVariables false

theorem one_cell (w : World) (c : Nat) (T : TypeId) : ∀ j, j < 1 → (w.alloc (.cells #[.int .u8 (c : Nat)] T)).cell? ((⟨w.heap.size, 0, none⟩ : Addr).add j) = some (.int .u8 (([c] : List Nat).getD j 0 : Nat)) := by
  intro j hj
  obtain rfl : j = 0 := by omega
  simp [Addr.add]

set_option maxRecDepth 20000 in
set_option maxHeartbeats 8000000 in
theorem efg_ex (base B : Nat) (v : Value) (w : World) (hO : Out base B w w v []) (h0 : w.cell? ⟨B, 0, none⟩ = some (.int .u8 53)) :
    Calls Tryz.prog 75 #[v, .bool false, .slice (some ⟨B, 0, none⟩) 32 32, .int .i64 0, .int .i64 1, .int .i64 1, .int .u8 103, .bool true] w fun e w' => ∃ v', e = .returned v' ∧ Out base B w w' v' [48, 46, 53] := by
  have HO := hidden hO
  have m1 : max (1 : Int) 0 = 1 := by decide
  have m2 : min (1 : Int) 0 = 0 := by decide
  have m3 : max (0 : Int) 1 = 1 := by decide
  have m4 : min (1 : Int) 1 = 1 := by decide
  have m5 : max (0 : Int) 0 = 0 := by decide
  clear hO
  go_enter Tryz.func75, Tryz.ntmps75
  go_wp2_with (at_builtin; refine app_any rfl _ _ rfl rfl (HO.out.alloc _) ⟨_, 0, none⟩ 1 1 [48] rfl rfl (by decide) (one_cell _ 48 5) (by decide) (by decide) ?_)
  intro v1 w1 hO1
  have HO1 := hidden hO1
  clear hO1
  go_wp2_with (at_builtin; refine app_any rfl _ _ rfl rfl (HO1.out.alloc _) ⟨_, 0, none⟩ 1 1 [46] rfl rfl (by decide) (one_cell _ 46 5) (by decide) (by decide) ?_)
  intro v2 w2 hO2
  have HO2 := hidden hO2
  clear hO2
  go_wp2_with fail
  go_loopw [0, 240] (fun x i wr => x = v2 ∧ i = .int .i64 0 ∧ wr = w2) (fun _ _ _ => 0)
  case atStart => exact ⟨rfl, rfl, rfl⟩
  case round =>
  obtain ⟨rfl, rfl, rfl⟩ := hrel
  go_wp2_with fail
  go_loopw [0, 247, 30] (fun x i z wr => ∃ (k : Nat) (l : List Nat), i = .int .i64 k ∧ k ≤ 1 ∧ Out base B w wr x l ∧ (k = 0 → l = [48, 46]) ∧ (k = 1 → l = [48, 46, 53])) (fun _ i _ _ => 1 - (intOf i).toNat)
  case atStart => exact ⟨0, _, rfl, by decide, HO2.out, fun _ => rfl, fun h => by cases h⟩
  case round =>
  obtain ⟨k, l, rfl, hk, hO3, e0, e1⟩ := hrel
  have HO3 := hidden hO3
  have hcell := (HO3.out.cell 0).trans h0
  by_cases hz : k = 0
  · subst hz
    obtain rfl := e0 rfl
    clear e0 e1 hO3
    go_wp2_with (at_builtin; refine app_any rfl _ _ rfl rfl (HO3.out.alloc _) ⟨_, 0, none⟩ 1 1 [53] rfl rfl (by decide) (one_cell _ 53 5) (by decide) (by decide) ?_)
    intro v4 w4 hO4
    have HO4 := hidden hO4
    clear hO4
    go_wp2_with fail
    go_roundw
    case rel => exact ⟨1, _, rfl, by decide, HO4.out, fun h => by (cases h), fun _ => rfl⟩
    case measure => simp [intOf]
  · obtain rfl : k = 1 := by omega
    obtain rfl := e1 rfl
    clear e0 e1 hO3 hz
    go_wp2_with fail
    go_loopw [0, 261] (fun y i wq => y = u0 ∧ i = .int .i64 0 ∧ wq = wr) (fun _ _ _ => 0)
    case atStart => exact ⟨rfl, rfl, rfl⟩
    case round =>
    obtain ⟨rfl, rfl, rfl⟩ := hrel
    go_wp2
    go_ret
    exact ⟨_, rfl, HO3.out⟩
end Go.Proofs.PlatenFigure
