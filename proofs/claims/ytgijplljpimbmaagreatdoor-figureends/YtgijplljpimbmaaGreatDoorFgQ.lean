/- What strconv.special, and float64's exact numbers, come to at a number's text. -/
import Derived.Test.YtgijplljpimbmaaGreatDoorFgP
import Derived.Test.YtgijplljpimbmaaGreatDoorFgN
namespace Go.Proofs.PlatenFigure
open Go.RowKit
set_option linter.unusedVariables false

set_option maxHeartbeats 2000000 in
theorem cpl_zero (t : ByteArray) (w : World) (hs : t.size ≤ 1000) (hpos : 0 < t.size) (hd : dg ((L t).getD 0 0) = true) :
    Calls Tryz.prog 122 #[.string t, .string ⟨#[105, 110, 102, 105, 110, 105, 116, 121]⟩] w fun e w' => e = .returned (.int .i64 0) ∧ w' = w := by
  have hg := get_L t 0 hpos
  simp only [dg, decide_eq_true_eq] at hd
  obtain ⟨h1, h2⟩ := hd
  generalize (L t).getD 0 0 = c at *
  have hnq : (((c.toNat : Nat) : Int) != 105) = true := by simp; omega
  have e0 : ((⟨#[105, 110, 102, 105, 110, 105, 116, 121]⟩ : ByteArray)[0]'(by decide)).toNat = 105 := rfl
  have hm : (1 : Int) ≤ min 8 (t.size : Int) := by omega
  generalize hmm : min (8 : Int) (t.size : Int) = m at *
  have hm2 : m ≤ 8 := by omega
  go_enter Tryz.func122, Tryz.ntmps122
  go_wp2_with fail
  go_loop [6] (fun i => i = .int .i64 0) (fun _ => 0)
  case atStart => rfl
  case round =>
  obtain rfl := hrel
  go_wp2_with fail
  go_ret
  exact ⟨rfl, rfl⟩

set_option maxRecDepth 20000 in
set_option maxHeartbeats 2000000 in
theorem special_num (s : ByteArray) (i0 pm pe : Nat) (neg eneg : Bool) (w : World) (hs : s.size ≤ 1000) (hN : Num (L s) i0 pm pe neg eneg) :
    Calls Tryz.prog 88 #[.string s] w fun e w' => e = .returned (.tuple #[.float .f64 0, .int .i64 0, .bool false]) ∧ w' = w := by
  have hpos : 0 < s.size := by have := hN.lt; have := hN.le; rw [len_L] at this; omega
  have hne : ¬ s = ByteArray.empty := by
    intro e
    rw [e] at hpos
    exact absurd hpos (by decide)
  have hz : ((s.size : Int) == 0) = false := by simp; omega
  have hg0 := get_L s 0 hpos
  have hsg := hN.sg
  have hfirst := hN.first
  have hlen : i0 < s.size := by have := hN.lt; have := hN.le; rw [len_L] at this; omega
  clear hN
  rcases hsg with ⟨rfl, rfl, h48⟩ | ⟨rfl, hc⟩
  · simp only [dg, decide_eq_true_eq] at hfirst
    obtain ⟨h1, h2⟩ := hfirst
    generalize (L s).getD 0 0 = c at *
    go_enter Tryz.func88, Tryz.ntmps88
    go_wp2_with fail
    go_ret3
    exact ⟨rfl, rfl⟩
  · have cc := cpl_zero (s.extract 1 s.size) w (by rw [size_from s 1 (by omega)]; omega) (by rw [size_from s 1 (by omega)]; omega) (by
      rw [L_from, List.getD_eq_getElem?_getD, List.getElem?_drop]
      rw [List.getD_eq_getElem?_getD] at hfirst
      exact hfirst)
    clear hfirst
    have h43 : 43 ≤ ((L s).getD 0 0).toNat ∧ ((L s).getD 0 0).toNat ≤ 45 := by rcases hc with ⟨_, h⟩ | ⟨_, h⟩ <;> omega
    have hc2 : ((L s).getD 0 0).toNat = 43 ∨ ((L s).getD 0 0).toNat = 45 := by rcases hc with ⟨_, h⟩ | ⟨_, h⟩ <;> omega
    clear hc
    generalize (L s).getD 0 0 = c at *
    rcases hc2 with hc | hc
    · go_enter Tryz.func88, Tryz.ntmps88
      go_wp2_with fail
      refine cc.mono ?_
      rintro e w' ⟨rfl, rfl⟩
      go_wp2_with fail
      go_ret3
      exact ⟨rfl, rfl⟩
    · go_enter Tryz.func88, Tryz.ntmps88
      go_wp2_with fail
      refine cc.mono ?_
      rintro e w' ⟨rfl, rfl⟩
      go_wp2_with fail
      go_ret3
      exact ⟨rfl, rfl⟩
set_option maxRecDepth 20000 in
theorem exact_ex (w : World) (hL : Lay w) :
    Calls Tryz.prog 99 #[.int .u64 25, .int .i64 0, .bool true] w fun e w' => e = .returned (.tuple #[.float .f64 13851102128954671104, .bool true]) ∧ w' = w := by
  have hb := hL.mb
  clear hL
  have h0 := run_neg (floatOfInt .f64 25) w
  rw [show floatOfInt .f64 25 = 4627730092099895296 by decide +kernel] at h0
  rw [show negF 4627730092099895296 = 13851102128954671104 by decide +kernel] at h0
  have h1 : floatOfInt .f64 25 = 4627730092099895296 := by decide +kernel
  go_enter Tryz.func99, Tryz.ntmps99
  go_wp2_with fail
  go_ret2
  exact ⟨rfl, rfl⟩
end Go.Proofs.PlatenFigure
