/- What words.Class, inWord, bound, begins, ends and the document's Class come to. -/
import Derived.Test.YtglgcbocpdenhaaDoorWdM
import Derived.Test.YtglgcbocpdenhaaDoorCallsF
import Derived.Deep.QuietTactic
import Derived.BigQuiet
namespace Go.Proofs.PlatenWords
open Go.RowKit Go.Shelf Go.Proofs.PlatenGlyph
set_option linter.unusedVariables false

set_option maxRecDepth 20000 in
set_option maxHeartbeats 4000000 in
theorem class_any (c : Nat) (w : World) (hc : c < 256) :
    Calls Tryd.prog 12 #[.int .u8 c] w fun e w' => e = .returned (.int .u8 (cls c : Nat)) ∧ w' = w := by
  have cb := blank_any c w hc
  by_cases b0 : c = 32 ∨ c = 9
  · have HX : Hid (cls c = 0) := by unfold Hid cls; rw [if_pos b0]
    rw [show blankB c = true by unfold blankB; simpa using b0] at cb
    clear b0
    go_enter Tryd.func12, Tryd.ntmps12
    go_wp2_with fail
    refine cb.mono ?_
    rintro e w' ⟨rfl, rfl⟩
    go_wp2
    go_ret
    exact ⟨by rw [HX.out]; rfl, rfl⟩
  rw [show blankB c = false by unfold blankB; simpa using b0] at cb
  by_cases b1 : c = 10
  · have HX : Hid (cls c = 1) := by unfold Hid cls; rw [if_neg b0, if_pos b1]
    have e10 : ((c : Int) == 10) = true := by simp; omega
    clear b0 b1
    go_enter Tryd.func12, Tryd.ntmps12
    go_wp2_with fail
    refine cb.mono ?_
    rintro e w' ⟨rfl, rfl⟩
    go_wp2
    go_ret
    exact ⟨by rw [HX.out]; rfl, rfl⟩
  have e10 : ((c : Int) == 10) = false := by simp; omega
  have HC : Hid (cls c = if (97 ≤ c ∧ c ≤ 122) ∨ (65 ≤ c ∧ c ≤ 90) ∨ (48 ≤ c ∧ c ≤ 57) ∨ c = 95 ∨ 128 ≤ c then 2 else 3) := by unfold Hid cls; rw [if_neg b0, if_neg b1]
  clear b0 b1
  by_cases qa : 128 ≤ c
  · have HX : Hid (cls c = 2) := by unfold Hid; rw [HC.out, if_pos (by omega)]
    have g128 : (128 : Int) ≤ (c : Int) := by omega
    have g48 : (48 : Int) ≤ (c : Int) := by omega
    have g65 : (65 : Int) ≤ (c : Int) := by omega
    have g97 : (97 : Int) ≤ (c : Int) := by omega
    have l57 : ¬ ((c : Int) ≤ (57 : Int)) := by omega
    have l90 : ¬ ((c : Int) ≤ (90 : Int)) := by omega
    have l122 : ¬ ((c : Int) ≤ (122 : Int)) := by omega
    have e95 : ((c : Int) == 95) = false := by simp; omega
    clear qa HC
    go_enter Tryd.func12, Tryd.ntmps12
    go_wp2_with fail
    refine cb.mono ?_
    rintro e w' ⟨rfl, rfl⟩
    go_wp2
    go_ret
    exact ⟨by rw [HX.out]; rfl, rfl⟩
  by_cases qb : c = 95
  · have HX : Hid (cls c = 2) := by unfold Hid; rw [HC.out, if_pos (by omega)]
    have g128 : ¬ ((128 : Int) ≤ (c : Int)) := by omega
    have g48 : (48 : Int) ≤ (c : Int) := by omega
    have g65 : (65 : Int) ≤ (c : Int) := by omega
    have g97 : ¬ ((97 : Int) ≤ (c : Int)) := by omega
    have l57 : ¬ ((c : Int) ≤ (57 : Int)) := by omega
    have l90 : ¬ ((c : Int) ≤ (90 : Int)) := by omega
    have l122 : (c : Int) ≤ (122 : Int) := by omega
    have e95 : ((c : Int) == 95) = true := by simp; omega
    clear qb HC qa
    go_enter Tryd.func12, Tryd.ntmps12
    go_wp2_with fail
    refine cb.mono ?_
    rintro e w' ⟨rfl, rfl⟩
    go_wp2
    go_ret
    exact ⟨by rw [HX.out]; rfl, rfl⟩
  by_cases qc : 48 ≤ c ∧ c ≤ 57
  · have HX : Hid (cls c = 2) := by unfold Hid; rw [HC.out, if_pos (by omega)]
    have g128 : ¬ ((128 : Int) ≤ (c : Int)) := by omega
    have g48 : (48 : Int) ≤ (c : Int) := by omega
    have g65 : ¬ ((65 : Int) ≤ (c : Int)) := by omega
    have g97 : ¬ ((97 : Int) ≤ (c : Int)) := by omega
    have l57 : (c : Int) ≤ (57 : Int) := by omega
    have l90 : (c : Int) ≤ (90 : Int) := by omega
    have l122 : (c : Int) ≤ (122 : Int) := by omega
    have e95 : ((c : Int) == 95) = false := by simp; omega
    clear qc HC qa qb
    go_enter Tryd.func12, Tryd.ntmps12
    go_wp2_with fail
    refine cb.mono ?_
    rintro e w' ⟨rfl, rfl⟩
    go_wp2
    go_ret
    exact ⟨by rw [HX.out]; rfl, rfl⟩
  by_cases qd : 65 ≤ c ∧ c ≤ 90
  · have HX : Hid (cls c = 2) := by unfold Hid; rw [HC.out, if_pos (by omega)]
    have g128 : ¬ ((128 : Int) ≤ (c : Int)) := by omega
    have g48 : (48 : Int) ≤ (c : Int) := by omega
    have g65 : (65 : Int) ≤ (c : Int) := by omega
    have g97 : ¬ ((97 : Int) ≤ (c : Int)) := by omega
    have l57 : ¬ ((c : Int) ≤ (57 : Int)) := by omega
    have l90 : (c : Int) ≤ (90 : Int) := by omega
    have l122 : (c : Int) ≤ (122 : Int) := by omega
    have e95 : ((c : Int) == 95) = false := by simp; omega
    clear qd HC qa qb qc
    go_enter Tryd.func12, Tryd.ntmps12
    go_wp2_with fail
    refine cb.mono ?_
    rintro e w' ⟨rfl, rfl⟩
    go_wp2
    go_ret
    exact ⟨by rw [HX.out]; rfl, rfl⟩
  by_cases qe : 97 ≤ c ∧ c ≤ 122
  · have HX : Hid (cls c = 2) := by unfold Hid; rw [HC.out, if_pos (by omega)]
    have g128 : ¬ ((128 : Int) ≤ (c : Int)) := by omega
    have g48 : (48 : Int) ≤ (c : Int) := by omega
    have g65 : (65 : Int) ≤ (c : Int) := by omega
    have g97 : (97 : Int) ≤ (c : Int) := by omega
    have l57 : ¬ ((c : Int) ≤ (57 : Int)) := by omega
    have l90 : ¬ ((c : Int) ≤ (90 : Int)) := by omega
    have l122 : (c : Int) ≤ (122 : Int) := by omega
    have e95 : ((c : Int) == 95) = false := by simp; omega
    clear qe HC qa qb qc qd
    go_enter Tryd.func12, Tryd.ntmps12
    go_wp2_with fail
    refine cb.mono ?_
    rintro e w' ⟨rfl, rfl⟩
    go_wp2
    go_ret
    exact ⟨by rw [HX.out]; rfl, rfl⟩
  by_cases qf : c ≤ 47
  · have HX : Hid (cls c = 3) := by unfold Hid; rw [HC.out, if_neg (by omega)]
    have g128 : ¬ ((128 : Int) ≤ (c : Int)) := by omega
    have g48 : ¬ ((48 : Int) ≤ (c : Int)) := by omega
    have g65 : ¬ ((65 : Int) ≤ (c : Int)) := by omega
    have g97 : ¬ ((97 : Int) ≤ (c : Int)) := by omega
    have l57 : (c : Int) ≤ (57 : Int) := by omega
    have l90 : (c : Int) ≤ (90 : Int) := by omega
    have l122 : (c : Int) ≤ (122 : Int) := by omega
    have e95 : ((c : Int) == 95) = false := by simp; omega
    clear qf HC qa qb qc qd qe
    go_enter Tryd.func12, Tryd.ntmps12
    go_wp2_with fail
    refine cb.mono ?_
    rintro e w' ⟨rfl, rfl⟩
    go_wp2
    go_ret
    exact ⟨by rw [HX.out]; rfl, rfl⟩
  by_cases qg : 58 ≤ c ∧ c ≤ 64
  · have HX : Hid (cls c = 3) := by unfold Hid; rw [HC.out, if_neg (by omega)]
    have g128 : ¬ ((128 : Int) ≤ (c : Int)) := by omega
    have g48 : (48 : Int) ≤ (c : Int) := by omega
    have g65 : ¬ ((65 : Int) ≤ (c : Int)) := by omega
    have g97 : ¬ ((97 : Int) ≤ (c : Int)) := by omega
    have l57 : ¬ ((c : Int) ≤ (57 : Int)) := by omega
    have l90 : (c : Int) ≤ (90 : Int) := by omega
    have l122 : (c : Int) ≤ (122 : Int) := by omega
    have e95 : ((c : Int) == 95) = false := by simp; omega
    clear qg HC qa qb qc qd qe qf
    go_enter Tryd.func12, Tryd.ntmps12
    go_wp2_with fail
    refine cb.mono ?_
    rintro e w' ⟨rfl, rfl⟩
    go_wp2
    go_ret
    exact ⟨by rw [HX.out]; rfl, rfl⟩
  by_cases qh : 91 ≤ c ∧ c ≤ 94
  · have HX : Hid (cls c = 3) := by unfold Hid; rw [HC.out, if_neg (by omega)]
    have g128 : ¬ ((128 : Int) ≤ (c : Int)) := by omega
    have g48 : (48 : Int) ≤ (c : Int) := by omega
    have g65 : (65 : Int) ≤ (c : Int) := by omega
    have g97 : ¬ ((97 : Int) ≤ (c : Int)) := by omega
    have l57 : ¬ ((c : Int) ≤ (57 : Int)) := by omega
    have l90 : ¬ ((c : Int) ≤ (90 : Int)) := by omega
    have l122 : (c : Int) ≤ (122 : Int) := by omega
    have e95 : ((c : Int) == 95) = false := by simp; omega
    clear qh HC qa qb qc qd qe qf qg
    go_enter Tryd.func12, Tryd.ntmps12
    go_wp2_with fail
    refine cb.mono ?_
    rintro e w' ⟨rfl, rfl⟩
    go_wp2
    go_ret
    exact ⟨by rw [HX.out]; rfl, rfl⟩
  by_cases qi : c = 96
  · have HX : Hid (cls c = 3) := by unfold Hid; rw [HC.out, if_neg (by omega)]
    have g128 : ¬ ((128 : Int) ≤ (c : Int)) := by omega
    have g48 : (48 : Int) ≤ (c : Int) := by omega
    have g65 : (65 : Int) ≤ (c : Int) := by omega
    have g97 : ¬ ((97 : Int) ≤ (c : Int)) := by omega
    have l57 : ¬ ((c : Int) ≤ (57 : Int)) := by omega
    have l90 : ¬ ((c : Int) ≤ (90 : Int)) := by omega
    have l122 : (c : Int) ≤ (122 : Int) := by omega
    have e95 : ((c : Int) == 95) = false := by simp; omega
    clear qi HC qa qb qc qd qe qf qg qh
    go_enter Tryd.func12, Tryd.ntmps12
    go_wp2_with fail
    refine cb.mono ?_
    rintro e w' ⟨rfl, rfl⟩
    go_wp2
    go_ret
    exact ⟨by rw [HX.out]; rfl, rfl⟩
  by_cases qj : 123 ≤ c ∧ c ≤ 127
  · have HX : Hid (cls c = 3) := by unfold Hid; rw [HC.out, if_neg (by omega)]
    have g128 : ¬ ((128 : Int) ≤ (c : Int)) := by omega
    have g48 : (48 : Int) ≤ (c : Int) := by omega
    have g65 : (65 : Int) ≤ (c : Int) := by omega
    have g97 : (97 : Int) ≤ (c : Int) := by omega
    have l57 : ¬ ((c : Int) ≤ (57 : Int)) := by omega
    have l90 : ¬ ((c : Int) ≤ (90 : Int)) := by omega
    have l122 : ¬ ((c : Int) ≤ (122 : Int)) := by omega
    have e95 : ((c : Int) == 95) = false := by simp; omega
    clear qj HC qa qb qc qd qe qf qg qh qi
    go_enter Tryd.func12, Tryd.ntmps12
    go_wp2_with fail
    refine cb.mono ?_
    rintro e w' ⟨rfl, rfl⟩
    go_wp2
    go_ret
    exact ⟨by rw [HX.out]; rfl, rfl⟩
  omega

set_option maxRecDepth 20000 in
set_option maxHeartbeats 4000000 in
theorem rclass_any (c : Nat) (w : World) (hc : c < 256) :
    Calls Tryd.prog 13 #[.int .u8 c] w fun e w' => e = .returned (.int .u8 (cls c : Nat)) ∧ w' = w := by
  have cb := rblank_any c w hc
  by_cases b0 : c = 32 ∨ c = 9
  · have HX : Hid (cls c = 0) := by unfold Hid cls; rw [if_pos b0]
    rw [show blankB c = true by unfold blankB; simpa using b0] at cb
    clear b0
    go_enter Tryd.func13, Tryd.ntmps13
    go_wp2_with fail
    refine cb.mono ?_
    rintro e w' ⟨rfl, rfl⟩
    go_wp2
    go_ret
    exact ⟨by rw [HX.out]; rfl, rfl⟩
  rw [show blankB c = false by unfold blankB; simpa using b0] at cb
  by_cases b1 : c = 10
  · have HX : Hid (cls c = 1) := by unfold Hid cls; rw [if_neg b0, if_pos b1]
    have e10 : ((c : Int) == 10) = true := by simp; omega
    clear b0 b1
    go_enter Tryd.func13, Tryd.ntmps13
    go_wp2_with fail
    refine cb.mono ?_
    rintro e w' ⟨rfl, rfl⟩
    go_wp2
    go_ret
    exact ⟨by rw [HX.out]; rfl, rfl⟩
  have e10 : ((c : Int) == 10) = false := by simp; omega
  have HC : Hid (cls c = if (97 ≤ c ∧ c ≤ 122) ∨ (65 ≤ c ∧ c ≤ 90) ∨ (48 ≤ c ∧ c ≤ 57) ∨ c = 95 ∨ 128 ≤ c then 2 else 3) := by unfold Hid cls; rw [if_neg b0, if_neg b1]
  clear b0 b1
  by_cases qa : 128 ≤ c
  · have HX : Hid (cls c = 2) := by unfold Hid; rw [HC.out, if_pos (by omega)]
    have g128 : (128 : Int) ≤ (c : Int) := by omega
    have g48 : (48 : Int) ≤ (c : Int) := by omega
    have g65 : (65 : Int) ≤ (c : Int) := by omega
    have g97 : (97 : Int) ≤ (c : Int) := by omega
    have l57 : ¬ ((c : Int) ≤ (57 : Int)) := by omega
    have l90 : ¬ ((c : Int) ≤ (90 : Int)) := by omega
    have l122 : ¬ ((c : Int) ≤ (122 : Int)) := by omega
    have e95 : ((c : Int) == 95) = false := by simp; omega
    clear qa HC
    go_enter Tryd.func13, Tryd.ntmps13
    go_wp2_with fail
    refine cb.mono ?_
    rintro e w' ⟨rfl, rfl⟩
    go_wp2
    go_ret
    exact ⟨by rw [HX.out]; rfl, rfl⟩
  by_cases qb : c = 95
  · have HX : Hid (cls c = 2) := by unfold Hid; rw [HC.out, if_pos (by omega)]
    have g128 : ¬ ((128 : Int) ≤ (c : Int)) := by omega
    have g48 : (48 : Int) ≤ (c : Int) := by omega
    have g65 : (65 : Int) ≤ (c : Int) := by omega
    have g97 : ¬ ((97 : Int) ≤ (c : Int)) := by omega
    have l57 : ¬ ((c : Int) ≤ (57 : Int)) := by omega
    have l90 : ¬ ((c : Int) ≤ (90 : Int)) := by omega
    have l122 : (c : Int) ≤ (122 : Int) := by omega
    have e95 : ((c : Int) == 95) = true := by simp; omega
    clear qb HC qa
    go_enter Tryd.func13, Tryd.ntmps13
    go_wp2_with fail
    refine cb.mono ?_
    rintro e w' ⟨rfl, rfl⟩
    go_wp2
    go_ret
    exact ⟨by rw [HX.out]; rfl, rfl⟩
  by_cases qc : 48 ≤ c ∧ c ≤ 57
  · have HX : Hid (cls c = 2) := by unfold Hid; rw [HC.out, if_pos (by omega)]
    have g128 : ¬ ((128 : Int) ≤ (c : Int)) := by omega
    have g48 : (48 : Int) ≤ (c : Int) := by omega
    have g65 : ¬ ((65 : Int) ≤ (c : Int)) := by omega
    have g97 : ¬ ((97 : Int) ≤ (c : Int)) := by omega
    have l57 : (c : Int) ≤ (57 : Int) := by omega
    have l90 : (c : Int) ≤ (90 : Int) := by omega
    have l122 : (c : Int) ≤ (122 : Int) := by omega
    have e95 : ((c : Int) == 95) = false := by simp; omega
    clear qc HC qa qb
    go_enter Tryd.func13, Tryd.ntmps13
    go_wp2_with fail
    refine cb.mono ?_
    rintro e w' ⟨rfl, rfl⟩
    go_wp2
    go_ret
    exact ⟨by rw [HX.out]; rfl, rfl⟩
  by_cases qd : 65 ≤ c ∧ c ≤ 90
  · have HX : Hid (cls c = 2) := by unfold Hid; rw [HC.out, if_pos (by omega)]
    have g128 : ¬ ((128 : Int) ≤ (c : Int)) := by omega
    have g48 : (48 : Int) ≤ (c : Int) := by omega
    have g65 : (65 : Int) ≤ (c : Int) := by omega
    have g97 : ¬ ((97 : Int) ≤ (c : Int)) := by omega
    have l57 : ¬ ((c : Int) ≤ (57 : Int)) := by omega
    have l90 : (c : Int) ≤ (90 : Int) := by omega
    have l122 : (c : Int) ≤ (122 : Int) := by omega
    have e95 : ((c : Int) == 95) = false := by simp; omega
    clear qd HC qa qb qc
    go_enter Tryd.func13, Tryd.ntmps13
    go_wp2_with fail
    refine cb.mono ?_
    rintro e w' ⟨rfl, rfl⟩
    go_wp2
    go_ret
    exact ⟨by rw [HX.out]; rfl, rfl⟩
  by_cases qe : 97 ≤ c ∧ c ≤ 122
  · have HX : Hid (cls c = 2) := by unfold Hid; rw [HC.out, if_pos (by omega)]
    have g128 : ¬ ((128 : Int) ≤ (c : Int)) := by omega
    have g48 : (48 : Int) ≤ (c : Int) := by omega
    have g65 : (65 : Int) ≤ (c : Int) := by omega
    have g97 : (97 : Int) ≤ (c : Int) := by omega
    have l57 : ¬ ((c : Int) ≤ (57 : Int)) := by omega
    have l90 : ¬ ((c : Int) ≤ (90 : Int)) := by omega
    have l122 : (c : Int) ≤ (122 : Int) := by omega
    have e95 : ((c : Int) == 95) = false := by simp; omega
    clear qe HC qa qb qc qd
    go_enter Tryd.func13, Tryd.ntmps13
    go_wp2_with fail
    refine cb.mono ?_
    rintro e w' ⟨rfl, rfl⟩
    go_wp2
    go_ret
    exact ⟨by rw [HX.out]; rfl, rfl⟩
  by_cases qf : c ≤ 47
  · have HX : Hid (cls c = 3) := by unfold Hid; rw [HC.out, if_neg (by omega)]
    have g128 : ¬ ((128 : Int) ≤ (c : Int)) := by omega
    have g48 : ¬ ((48 : Int) ≤ (c : Int)) := by omega
    have g65 : ¬ ((65 : Int) ≤ (c : Int)) := by omega
    have g97 : ¬ ((97 : Int) ≤ (c : Int)) := by omega
    have l57 : (c : Int) ≤ (57 : Int) := by omega
    have l90 : (c : Int) ≤ (90 : Int) := by omega
    have l122 : (c : Int) ≤ (122 : Int) := by omega
    have e95 : ((c : Int) == 95) = false := by simp; omega
    clear qf HC qa qb qc qd qe
    go_enter Tryd.func13, Tryd.ntmps13
    go_wp2_with fail
    refine cb.mono ?_
    rintro e w' ⟨rfl, rfl⟩
    go_wp2
    go_ret
    exact ⟨by rw [HX.out]; rfl, rfl⟩
  by_cases qg : 58 ≤ c ∧ c ≤ 64
  · have HX : Hid (cls c = 3) := by unfold Hid; rw [HC.out, if_neg (by omega)]
    have g128 : ¬ ((128 : Int) ≤ (c : Int)) := by omega
    have g48 : (48 : Int) ≤ (c : Int) := by omega
    have g65 : ¬ ((65 : Int) ≤ (c : Int)) := by omega
    have g97 : ¬ ((97 : Int) ≤ (c : Int)) := by omega
    have l57 : ¬ ((c : Int) ≤ (57 : Int)) := by omega
    have l90 : (c : Int) ≤ (90 : Int) := by omega
    have l122 : (c : Int) ≤ (122 : Int) := by omega
    have e95 : ((c : Int) == 95) = false := by simp; omega
    clear qg HC qa qb qc qd qe qf
    go_enter Tryd.func13, Tryd.ntmps13
    go_wp2_with fail
    refine cb.mono ?_
    rintro e w' ⟨rfl, rfl⟩
    go_wp2
    go_ret
    exact ⟨by rw [HX.out]; rfl, rfl⟩
  by_cases qh : 91 ≤ c ∧ c ≤ 94
  · have HX : Hid (cls c = 3) := by unfold Hid; rw [HC.out, if_neg (by omega)]
    have g128 : ¬ ((128 : Int) ≤ (c : Int)) := by omega
    have g48 : (48 : Int) ≤ (c : Int) := by omega
    have g65 : (65 : Int) ≤ (c : Int) := by omega
    have g97 : ¬ ((97 : Int) ≤ (c : Int)) := by omega
    have l57 : ¬ ((c : Int) ≤ (57 : Int)) := by omega
    have l90 : ¬ ((c : Int) ≤ (90 : Int)) := by omega
    have l122 : (c : Int) ≤ (122 : Int) := by omega
    have e95 : ((c : Int) == 95) = false := by simp; omega
    clear qh HC qa qb qc qd qe qf qg
    go_enter Tryd.func13, Tryd.ntmps13
    go_wp2_with fail
    refine cb.mono ?_
    rintro e w' ⟨rfl, rfl⟩
    go_wp2
    go_ret
    exact ⟨by rw [HX.out]; rfl, rfl⟩
  by_cases qi : c = 96
  · have HX : Hid (cls c = 3) := by unfold Hid; rw [HC.out, if_neg (by omega)]
    have g128 : ¬ ((128 : Int) ≤ (c : Int)) := by omega
    have g48 : (48 : Int) ≤ (c : Int) := by omega
    have g65 : (65 : Int) ≤ (c : Int) := by omega
    have g97 : ¬ ((97 : Int) ≤ (c : Int)) := by omega
    have l57 : ¬ ((c : Int) ≤ (57 : Int)) := by omega
    have l90 : ¬ ((c : Int) ≤ (90 : Int)) := by omega
    have l122 : (c : Int) ≤ (122 : Int) := by omega
    have e95 : ((c : Int) == 95) = false := by simp; omega
    clear qi HC qa qb qc qd qe qf qg qh
    go_enter Tryd.func13, Tryd.ntmps13
    go_wp2_with fail
    refine cb.mono ?_
    rintro e w' ⟨rfl, rfl⟩
    go_wp2
    go_ret
    exact ⟨by rw [HX.out]; rfl, rfl⟩
  by_cases qj : 123 ≤ c ∧ c ≤ 127
  · have HX : Hid (cls c = 3) := by unfold Hid; rw [HC.out, if_neg (by omega)]
    have g128 : ¬ ((128 : Int) ≤ (c : Int)) := by omega
    have g48 : (48 : Int) ≤ (c : Int) := by omega
    have g65 : (65 : Int) ≤ (c : Int) := by omega
    have g97 : (97 : Int) ≤ (c : Int) := by omega
    have l57 : ¬ ((c : Int) ≤ (57 : Int)) := by omega
    have l90 : ¬ ((c : Int) ≤ (90 : Int)) := by omega
    have l122 : ¬ ((c : Int) ≤ (122 : Int)) := by omega
    have e95 : ((c : Int) == 95) = false := by simp; omega
    clear qj HC qa qb qc qd qe qf qg qh qi
    go_enter Tryd.func13, Tryd.ntmps13
    go_wp2_with fail
    refine cb.mono ?_
    rintro e w' ⟨rfl, rfl⟩
    go_wp2
    go_ret
    exact ⟨by rw [HX.out]; rfl, rfl⟩
  omega


set_option maxHeartbeats 1000000 in
theorem inword_any (c : Nat) (w : World) (hc : c < 256) :
    Calls Tryd.prog 28 #[.int .u8 c] w fun e w' => e = .returned (.bool (sld c)) ∧ w' = w := by
  have cc := class_any c w hc
  have hl := cls_le c
  have e : sld c = (((cls c : Nat) : Int) == 2 || ((cls c : Nat) : Int) == 3) := by
    unfold sld; rw [Bool.eq_iff_iff]; simp; omega
  rw [e]
  clear e
  generalize cls c = x at *
  by_cases h2 : x = 2
  · subst h2
    go_enter Tryd.func28, Tryd.ntmps28
    go_wp2_with fail
    refine cc.mono ?_
    rintro e w' ⟨rfl, rfl⟩
    go_wp2
    go_ret
    exact ⟨rfl, rfl⟩
  · have hb : ((x : Int) == 2) = false := by simp; omega
    rw [hb, Bool.false_or]
    go_enter Tryd.func28, Tryd.ntmps28
    go_wp2_with fail
    refine cc.mono ?_
    rintro e w' ⟨rfl, rfl⟩
    go_wp2
    go_ret
    exact ⟨rfl, rfl⟩
theorem below_dN {B : Nat} {a w : World} (h : Below B a w) (n : Nat) : Below B a (w.drewN n) := h.trans ⟨rfl, rfl, rfl, Nat.le_refl _, fun _ _ => rfl⟩

/-- A row of n bytes. -/
def Row (w : World) (v : Value) (n : Nat) (f : Nat → Nat) : Prop :=
  ∃ a cap, v = .slice a n cap ∧ (0 < n → ∃ b off, a = some ⟨b, off, none⟩ ∧ n ≤ cap ∧ Cells w b off n f)
theorem Row.of {w : World} {v : Value} {n : Nat} {f : Nat → Nat} (h : IsBytes w v n f) : Row w v n f := by
  obtain ⟨_, _, h⟩ := h
  rcases h with ⟨a, cap, rfl, rfl⟩ | ⟨b, off, cap, rfl, hc, hr⟩
  · exact ⟨a, cap, rfl, fun h => absurd h (Nat.lt_irrefl _)⟩
  · exact ⟨_, cap, rfl, fun _ => ⟨b, off, rfl, hc, hr⟩⟩

set_option maxHeartbeats 1000000 in
theorem bound_edge (a : Option Addr) (n cap i : Nat) (w : World) (hn : n ≤ 1000000) (hi : i ≤ n) (h : i = 0 ∨ i = n) :
    Calls Tryd.prog 27 #[.slice a n cap, .int .i64 i] w fun e w' => e = .returned (.bool true) ∧ Below w.heap.size w w' := by
  by_cases h0 : i = 0
  · subst h0
    clear h
    go_enter Tryd.func27, Tryd.ntmps27
    go_wp2_with fail
    go_quiet (fail)
    go_wp2
    go_ret
    exact ⟨rfl, below_dN (Below.refl _ _) nq⟩
  · have hb0 : ((i : Int) == 0) = false := by simp; omega
    have hin : i = n := by omega
    subst hin
    clear h h0
    go_enter Tryd.func27, Tryd.ntmps27
    go_wp2_with fail
    go_quiet (fail)
    go_wp2
    go_ret
    exact ⟨rfl, below_dN (Below.refl _ _) nq⟩
set_option maxHeartbeats 1000000 in
theorem bound_in (f : Nat → Nat) (b off n cap i : Nat) (w : World) (hf : ∀ j, f j < 256) (hn : n ≤ 1000000) (hcap : n ≤ cap) (hc : Cells w b off n f) (h0 : 0 < i) (hi : i < n) :
    Calls Tryd.prog 27 #[.slice (some ⟨b, off, none⟩) n cap, .int .i64 i] w fun e w' => e = .returned (.bool (bnd f n i)) ∧ Below w.heap.size w w' := by
  obtain ⟨k, rfl⟩ : ∃ k, i = k + 1 := ⟨i - 1, by omega⟩
  have e : bnd f n (k + 1) = (((cls (f k) : Nat) : Int) != ((cls (f (k + 1)) : Nat) : Int)) := by
    rw [Bool.eq_iff_iff, bnd_iff, Nat.add_sub_cancel]
    simp
    omega
  rw [e]
  clear e
  have g0 := hc k (by omega)
  have g1 := hc (k + 1) hi
  have hb0 : (((k + 1 : Nat) : Int) == 0) = false := by simp; omega
  have hb1 : (((k + 1 : Nat) : Int) == (n : Int)) = false := by simp; omega
  have hs : ((k + 1 : Nat) : Int) - 1 = (k : Int) := by omega
  have x0 := hf k
  have x1 := hf (k + 1)
  have c0 := class_any (f k) w x0
  have c1 := class_any (f (k + 1)) w x1
  clear hc hf
  generalize f k = y0 at *
  generalize f (k + 1) = y1 at *
  generalize hk1 : k + 1 = k1 at *
  have l0 := cls_le y0
  have l1 := cls_le y1
  go_enter Tryd.func27, Tryd.ntmps27
  go_wp2_with fail
  go_quiet ((go_at_call 12; exact Calls.quiet_of_same (class_any _ _ (by assumption))))
  go_wp2
  go_ret
  exact ⟨rfl, below_dN (Below.refl _ _) nq⟩
theorem bound_any (v : Value) (f : Nat → Nat) (n i : Nat) (w : World) (hf : ∀ j, f j < 256) (hn : n ≤ 1000000) (h : Row w v n f) (hi : i ≤ n) :
    Calls Tryd.prog 27 #[v, .int .i64 i] w fun e w' => e = .returned (.bool (bnd f n i)) ∧ Below w.heap.size w w' := by
  obtain ⟨a, cap, rfl, h⟩ := h
  by_cases he : i = 0 ∨ i = n
  · rw [show bnd f n i = true by rw [bnd_iff]; omega]
    exact bound_edge a n cap i w hn hi he
  · obtain ⟨b, off, rfl, hcap, hc⟩ := h (by omega)
    exact bound_in f b off n cap i w hf hn hcap hc (by omega) (by omega)
end Go.Proofs.PlatenWords
