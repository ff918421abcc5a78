/- What digit, ends, number of the document's machine come to. -/
import Derived.Test.YtapghnmeiahgoaaJsJ
namespace Go.Proofs.PlatenJson
open Go Go.RowKit
set_option linter.unusedVariables false
set_option maxRecDepth 100000

set_option maxHeartbeats 1000000 in
theorem digit_any (c : Nat) (w : World) (hc : c < 256) : Calls Try.prog 38 #[.int .u8 (c : Nat)] w fun e w' => e = .returned (.bool (isD c)) ∧ w' = w := by
  have Hs : Hid (isD c = (decide (48 ≤ c) && decide (c ≤ 57))) := rfl
  by_cases h1 : 48 ≤ c
  · have z1 : (48 : Int) ≤ (c : Int) := by omega
    go_enter Try.func38, Try.ntmps38
    go_wp2
    go_ret
    exact ⟨by rw [Hs.out]; simp [h1]; omega, rfl⟩
  · have z1 : ¬ ((48 : Int) ≤ (c : Int)) := by omega
    go_enter Try.func38, Try.ntmps38
    go_wp2
    go_ret
    exact ⟨by rw [Hs.out]; simp [h1], rfl⟩
set_option maxHeartbeats 1000000 in
theorem ends_any (s : Nat) (w : World) : Calls Try.prog 18 #[.int .u8 (s : Nat)] w fun e w' => e = .returned (.bool (ends s)) ∧ w' = w := by
  have Hs : Hid (ends s = (decide (s = 10) || decide (s = 11) || decide (s = 13) || decide (s = 16))) := rfl
  by_cases h0 : s = 10
  · have z0 : ((s : Int) == 10) = true := by simp; omega
    go_enter Try.func18, Try.ntmps18
    go_wp2
    go_ret
    exact ⟨by rw [Hs.out]; simp [h0], rfl⟩
  have z0 : ((s : Int) == 10) = false := by simp; omega
  by_cases h1 : s = 11
  · have z1 : ((s : Int) == 11) = true := by simp; omega
    go_enter Try.func18, Try.ntmps18
    go_wp2
    go_ret
    exact ⟨by rw [Hs.out]; simp [h1], rfl⟩
  have z1 : ((s : Int) == 11) = false := by simp; omega
  by_cases h2 : s = 13
  · have z2 : ((s : Int) == 13) = true := by simp; omega
    go_enter Try.func18, Try.ntmps18
    go_wp2
    go_ret
    exact ⟨by rw [Hs.out]; simp [h2], rfl⟩
  have z2 : ((s : Int) == 13) = false := by simp; omega
  by_cases h3 : s = 16
  · have z3 : ((s : Int) == 16) = true := by simp; omega
    go_enter Try.func18, Try.ntmps18
    go_wp2
    go_ret
    exact ⟨by rw [Hs.out]; simp [h3], rfl⟩
  have z3 : ((s : Int) == 16) = false := by simp; omega
  go_enter Try.func18, Try.ntmps18
  go_wp2
  go_ret
  exact ⟨by rw [Hs.out]; simp [h0, h1, h2, h3], rfl⟩

/-- A pair of a state and a Bool. -/
abbrev NbV (p : Nat × Bool) : Value := .tuple #[.int .u8 (p.1 : Nat), .bool p.2]
set_option maxHeartbeats 1000000 in
theorem numb9 (c : Nat) (w : World) (hc : c < 256) : Calls Try.prog 27 #[.int .u8 9, .int .u8 (c : Nat)] w fun e w' => e = .returned (NbV (numb 9 c)) ∧ w' = w := by
  have cd := digit_any c w hc
  by_cases h48 : c = 48
  · have e1 : Hid (numb 9 c = (10, true)) := by subst h48; rfl
    have z : ((c : Int) == 48) = true := by simp; omega
    go_enter Try.func27, Try.ntmps27
    go_wp2
    go_ret2
    exact ⟨by rw [e1.out]; rfl, rfl⟩
  have z48 : ((c : Int) == 48) = false := by simp; omega
  have e1 : Hid (numb 9 c = (11, isD c)) := by unfold Hid; simp [numb, h48]
  go_enter Try.func27, Try.ntmps27
  go_wp2_with fail
  refine cd.mono ?_
  rintro e w1 ⟨rfl, rfl⟩
  go_wp2
  go_ret2
  exact ⟨by rw [e1.out]; rfl, rfl⟩
set_option maxHeartbeats 1000000 in
theorem numb10 (c : Nat) (w : World) (hc : c < 256) : Calls Try.prog 27 #[.int .u8 10, .int .u8 (c : Nat)] w fun e w' => e = .returned (NbV (numb 10 c)) ∧ w' = w := by
  have cd := digit_any c w hc
  by_cases h46 : c = 46
  · have e1 : Hid (numb 10 c = (12, true)) := by subst h46; rfl
    have z : ((c : Int) == 46) = true := by simp; omega
    go_enter Try.func27, Try.ntmps27
    go_wp2
    go_ret2
    exact ⟨by rw [e1.out]; rfl, rfl⟩
  have z46 : ((c : Int) == 46) = false := by simp; omega
  by_cases h101 : c = 101
  · have e1 : Hid (numb 10 c = (14, true)) := by subst h101; rfl
    have z : ((c : Int) == 101) = true := by simp; omega
    go_enter Try.func27, Try.ntmps27
    go_wp2
    go_ret2
    exact ⟨by rw [e1.out]; rfl, rfl⟩
  have z101 : ((c : Int) == 101) = false := by simp; omega
  by_cases h69 : c = 69
  · have e1 : Hid (numb 10 c = (14, true)) := by subst h69; rfl
    have z : ((c : Int) == 69) = true := by simp; omega
    go_enter Try.func27, Try.ntmps27
    go_wp2
    go_ret2
    exact ⟨by rw [e1.out]; rfl, rfl⟩
  have z69 : ((c : Int) == 69) = false := by simp; omega
  have e1 : Hid (numb 10 c = (11, false)) := by unfold Hid; simp [numb, h46, h101, h69]
  go_enter Try.func27, Try.ntmps27
  go_wp2
  go_ret2
  exact ⟨by rw [e1.out]; rfl, rfl⟩
set_option maxHeartbeats 1000000 in
theorem numb11 (c : Nat) (w : World) (hc : c < 256) : Calls Try.prog 27 #[.int .u8 11, .int .u8 (c : Nat)] w fun e w' => e = .returned (NbV (numb 11 c)) ∧ w' = w := by
  have cd := digit_any c w hc
  by_cases h46 : c = 46
  · have e1 : Hid (numb 11 c = (12, true)) := by subst h46; rfl
    have z : ((c : Int) == 46) = true := by simp; omega
    go_enter Try.func27, Try.ntmps27
    go_wp2
    go_ret2
    exact ⟨by rw [e1.out]; rfl, rfl⟩
  have z46 : ((c : Int) == 46) = false := by simp; omega
  by_cases h101 : c = 101
  · have e1 : Hid (numb 11 c = (14, true)) := by subst h101; rfl
    have z : ((c : Int) == 101) = true := by simp; omega
    go_enter Try.func27, Try.ntmps27
    go_wp2
    go_ret2
    exact ⟨by rw [e1.out]; rfl, rfl⟩
  have z101 : ((c : Int) == 101) = false := by simp; omega
  by_cases h69 : c = 69
  · have e1 : Hid (numb 11 c = (14, true)) := by subst h69; rfl
    have z : ((c : Int) == 69) = true := by simp; omega
    go_enter Try.func27, Try.ntmps27
    go_wp2
    go_ret2
    exact ⟨by rw [e1.out]; rfl, rfl⟩
  have z69 : ((c : Int) == 69) = false := by simp; omega
  have e1 : Hid (numb 11 c = (11, isD c)) := by unfold Hid; simp [numb, h46, h101, h69]
  go_enter Try.func27, Try.ntmps27
  go_wp2_with fail
  refine cd.mono ?_
  rintro e w1 ⟨rfl, rfl⟩
  go_wp2
  go_ret2
  exact ⟨by rw [e1.out]; rfl, rfl⟩
set_option maxHeartbeats 1000000 in
theorem numb12 (c : Nat) (w : World) (hc : c < 256) : Calls Try.prog 27 #[.int .u8 12, .int .u8 (c : Nat)] w fun e w' => e = .returned (NbV (numb 12 c)) ∧ w' = w := by
  have cd := digit_any c w hc
  have e1 : Hid (numb 12 c = (13, isD c)) := by unfold Hid; simp [numb]
  go_enter Try.func27, Try.ntmps27
  go_wp2_with fail
  refine cd.mono ?_
  rintro e w1 ⟨rfl, rfl⟩
  go_wp2
  go_ret2
  exact ⟨by rw [e1.out]; rfl, rfl⟩
set_option maxHeartbeats 1000000 in
theorem numb13 (c : Nat) (w : World) (hc : c < 256) : Calls Try.prog 27 #[.int .u8 13, .int .u8 (c : Nat)] w fun e w' => e = .returned (NbV (numb 13 c)) ∧ w' = w := by
  have cd := digit_any c w hc
  by_cases h101 : c = 101
  · have e1 : Hid (numb 13 c = (14, true)) := by subst h101; rfl
    have z : ((c : Int) == 101) = true := by simp; omega
    go_enter Try.func27, Try.ntmps27
    go_wp2
    go_ret2
    exact ⟨by rw [e1.out]; rfl, rfl⟩
  have z101 : ((c : Int) == 101) = false := by simp; omega
  by_cases h69 : c = 69
  · have e1 : Hid (numb 13 c = (14, true)) := by subst h69; rfl
    have z : ((c : Int) == 69) = true := by simp; omega
    go_enter Try.func27, Try.ntmps27
    go_wp2
    go_ret2
    exact ⟨by rw [e1.out]; rfl, rfl⟩
  have z69 : ((c : Int) == 69) = false := by simp; omega
  have e1 : Hid (numb 13 c = (13, isD c)) := by unfold Hid; simp [numb, h101, h69]
  go_enter Try.func27, Try.ntmps27
  go_wp2_with fail
  refine cd.mono ?_
  rintro e w1 ⟨rfl, rfl⟩
  go_wp2
  go_ret2
  exact ⟨by rw [e1.out]; rfl, rfl⟩
set_option maxHeartbeats 1000000 in
theorem numb14 (c : Nat) (w : World) (hc : c < 256) : Calls Try.prog 27 #[.int .u8 14, .int .u8 (c : Nat)] w fun e w' => e = .returned (NbV (numb 14 c)) ∧ w' = w := by
  have cd := digit_any c w hc
  by_cases h43 : c = 43
  · have e1 : Hid (numb 14 c = (15, true)) := by subst h43; rfl
    have z : ((c : Int) == 43) = true := by simp; omega
    go_enter Try.func27, Try.ntmps27
    go_wp2
    go_ret2
    exact ⟨by rw [e1.out]; rfl, rfl⟩
  have z43 : ((c : Int) == 43) = false := by simp; omega
  by_cases h45 : c = 45
  · have e1 : Hid (numb 14 c = (15, true)) := by subst h45; rfl
    have z : ((c : Int) == 45) = true := by simp; omega
    go_enter Try.func27, Try.ntmps27
    go_wp2
    go_ret2
    exact ⟨by rw [e1.out]; rfl, rfl⟩
  have z45 : ((c : Int) == 45) = false := by simp; omega
  have e1 : Hid (numb 14 c = (16, isD c)) := by unfold Hid; simp [numb, h43, h45]
  go_enter Try.func27, Try.ntmps27
  go_wp2_with fail
  refine cd.mono ?_
  rintro e w1 ⟨rfl, rfl⟩
  go_wp2
  go_ret2
  exact ⟨by rw [e1.out]; rfl, rfl⟩
set_option maxHeartbeats 1000000 in
theorem numb15 (c : Nat) (w : World) (hc : c < 256) : Calls Try.prog 27 #[.int .u8 15, .int .u8 (c : Nat)] w fun e w' => e = .returned (NbV (numb 15 c)) ∧ w' = w := by
  have cd := digit_any c w hc
  have e1 : Hid (numb 15 c = (16, isD c)) := by unfold Hid; simp [numb]
  go_enter Try.func27, Try.ntmps27
  go_wp2_with fail
  refine cd.mono ?_
  rintro e w1 ⟨rfl, rfl⟩
  go_wp2
  go_ret2
  exact ⟨by rw [e1.out]; rfl, rfl⟩
set_option maxHeartbeats 1000000 in
theorem numb16 (c : Nat) (w : World) (hc : c < 256) : Calls Try.prog 27 #[.int .u8 16, .int .u8 (c : Nat)] w fun e w' => e = .returned (NbV (numb 16 c)) ∧ w' = w := by
  have cd := digit_any c w hc
  have e1 : Hid (numb 16 c = (16, isD c)) := by unfold Hid; simp [numb]
  go_enter Try.func27, Try.ntmps27
  go_wp2_with fail
  refine cd.mono ?_
  rintro e w1 ⟨rfl, rfl⟩
  go_wp2
  go_ret2
  exact ⟨by rw [e1.out]; rfl, rfl⟩
set_option maxHeartbeats 1000000 in
theorem numb_else (s c : Nat) (w : World) (hs : s ≤ 8 ∨ s = 17) : Calls Try.prog 27 #[.int .u8 (s : Nat), .int .u8 (c : Nat)] w fun e w' => e = .returned (NbV (numb s c)) ∧ w' = w := by
  have e1 : Hid (numb s c = (0, false)) := by
    have : s = 0 ∨ s = 1 ∨ s = 2 ∨ s = 3 ∨ s = 4 ∨ s = 5 ∨ s = 6 ∨ s = 7 ∨ s = 8 ∨ s = 17 := by omega
    rcases this with rfl | rfl | rfl | rfl | rfl | rfl | rfl | rfl | rfl | rfl <;> rfl
  have z9 : ((s : Int) == 9) = false := by simp; omega
  have z10 : ((s : Int) == 10) = false := by simp; omega
  have z11 : ((s : Int) == 11) = false := by simp; omega
  have z12 : ((s : Int) == 12) = false := by simp; omega
  have z13 : ((s : Int) == 13) = false := by simp; omega
  have z14 : ((s : Int) == 14) = false := by simp; omega
  have z15 : ((s : Int) == 15) = false := by simp; omega
  have z16 : ((s : Int) == 16) = false := by simp; omega
  clear hs
  go_enter Try.func27, Try.ntmps27
  go_wp2
  go_ret2
  exact ⟨by rw [e1.out]; rfl, rfl⟩
theorem number_ref (s c : Nat) (w : World) (hs : s ≤ 17) (hc : c < 256) : Calls Try.prog 27 #[.int .u8 (s : Nat), .int .u8 (c : Nat)] w fun e w' => e = .returned (NbV (numb s c)) ∧ w' = w := by
  have : s = 9 ∨ s = 10 ∨ s = 11 ∨ s = 12 ∨ s = 13 ∨ s = 14 ∨ s = 15 ∨ s = 16 ∨ s ≤ 8 ∨ s = 17 := by omega
  rcases this with rfl | rfl | rfl | rfl | rfl | rfl | rfl | rfl | h | h
  · exact numb9 c w hc
  · exact numb10 c w hc
  · exact numb11 c w hc
  · exact numb12 c w hc
  · exact numb13 c w hc
  · exact numb14 c w hc
  · exact numb15 c w hc
  · exact numb16 c w hc
  · exact numb_else s c w (Or.inl h)
  · exact numb_else s c w (Or.inr h)
end Go.Proofs.PlatenJson
