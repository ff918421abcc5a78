/- What strconv.atof64exact comes to. -/
import Derived.Test.YtgijplljpimbmaaGreatDoorFgXb
namespace Go.Proofs.PlatenFigure
open Go.RowKit
set_option linter.unusedVariables false
set_option maxRecDepth 20000

theorem hidden' {p : Prop} (h : p) : Hid p := h
def gtB (x : Nat) : Bool := FloatKind.f64.format.order x 4831355200913801216 == some .gt
def ltB (x : Nat) : Bool := FloatKind.f64.format.order x 14054727237768577024 == some .lt
def sgF (m : Nat) (neg : Bool) : Nat := if neg then negF (floatOfInt .f64 m) else floatOfInt .f64 m
/-- The exact answer, where there is one. -/
def xact (m : Nat) (p : Int) (neg : Bool) : Option Nat :=
  if 4503599627370496 ≤ m then none
  else if p = 0 then some (sgF m neg)
  else if 0 < p ∧ p ≤ 37 then
    (let f1 := if 22 < p then mulF (sgF m neg) (t10.getD (p - 22).toNat 0) else sgF m neg
     if gtB f1 = true ∨ ltB f1 = true then none else some (mulF f1 (t10.getD (min p 22).toNat 0)))
  else if p < 0 ∧ -22 ≤ p then some (divF (sgF m neg) (t10.getD (-p).toNat 0))
  else none
theorem sg_fw (m : Nat) (neg : Bool) : Fw (sgF m neg) := by
  unfold sgF
  split
  · exact neg_fin (int_fin _)
  · exact int_fin _
def XP (o : Option Nat) (w : World) (e : Ending) (w' : World) : Prop :=
  w' = w ∧ ((∃ r, o = some r ∧ Fw r ∧ e = .returned (.tuple #[.float .f64 r, .bool true])) ∨ (o = none ∧ ∃ r, e = .returned (.tuple #[.float .f64 r, .bool false])))
set_option maxHeartbeats 2000000 in
theorem xact_big (m : Nat) (p : Int) (neg : Bool) (w : World) (hL : Lay w) (hm : m < 18446744073709551616) (hb : 4503599627370496 ≤ m) :
    Calls Tryz.prog 99 #[.int .u64 (m : Nat), .int .i64 p, .bool neg] w (XP (xact m p neg) w) := by
  have hmb := hL.mb
  have HO : Hid (xact m p neg = none) := by unfold Hid xact; rw [if_pos hb]
  clear hL
  have zb : (((m : Int) / 4503599627370496) != 0) = true := by rw [bne_iff_ne]; omega
  go_enter Tryz.func99, Tryz.ntmps99
  go_wp2_with fail
  go_ret2
  exact ⟨rfl, Or.inr ⟨HO.out, _, rfl⟩⟩
set_option maxHeartbeats 4000000 in
theorem xact_zero (m : Nat)  (neg : Bool) (w : World) (hL : Lay w) (hm : m < 4503599627370496) :
    Calls Tryz.prog 99 #[.int .u64 (m : Nat), .int .i64 0, .bool neg] w (XP (xact m 0 neg) w) := by
  have hmb := hL.mb
  have hF := sg_fw m neg
  obtain ⟨b, off, cap, hcap, h9, hc⟩ := hL.tabs.f10
  clear hL
  have zb : (((m : Int) / 4503599627370496) != 0) = false := by
    have : (m : Int) / 4503599627370496 = 0 := by omega
    rw [this]; rfl
  have hs : sgF m neg = if neg then negF (floatOfInt .f64 (m : Int)) else floatOfInt .f64 (m : Int) := rfl
  have HO : Hid (xact m 0 neg = some (sgF m neg)) := by unfold Hid xact; rw [if_neg (by omega), if_pos rfl]
  cases neg with
  | false =>
    simp only [Bool.false_eq_true, if_false] at hs
    generalize sgF m false = F at *
    have HS := hidden' hs
    have HF := hidden' hF
    clear hF hc
    go_enter Tryz.func99, Tryz.ntmps99
    go_wp2_with fail
    go_ret2
    exact ⟨rfl, Or.inl ⟨F, HO.out, HF.out, by simp [HS.out]⟩⟩
  | true =>
    simp only [if_true] at hs
    have hn := run_neg (floatOfInt .f64 (m : Int)) w
    rw [← hs] at hn
    generalize sgF m true = F at *
    have HS := hidden' hs
    have HF := hidden' hF
    clear hF hc
    go_enter Tryz.func99, Tryz.ntmps99
    go_wp2_with fail
    go_ret2
    exact ⟨rfl, Or.inl ⟨F, HO.out, HF.out, by simp [HS.out]⟩⟩
set_option maxHeartbeats 4000000 in
theorem xact_neg (m : Nat) (k : Nat) (hk : 0 < k) (hk2 : k ≤ 22) (neg : Bool) (w : World) (hL : Lay w) (hm : m < 4503599627370496) :
    Calls Tryz.prog 99 #[.int .u64 (m : Nat), .int .i64 (-(k : Int)), .bool neg] w (XP (xact m (-(k : Int)) neg) w) := by
  have hmb := hL.mb
  have hF := sg_fw m neg
  obtain ⟨b, off, cap, hcap, h9, hc⟩ := hL.tabs.f10
  clear hL
  have zb : (((m : Int) / 4503599627370496) != 0) = false := by
    have : (m : Int) / 4503599627370496 = 0 := by omega
    rw [this]; rfl
  have hs : sgF m neg = if neg then negF (floatOfInt .f64 (m : Int)) else floatOfInt .f64 (m : Int) := rfl
  have HO : Hid (xact m (-(k : Int)) neg = some (divF (sgF m neg) (t10.getD k 0))) := by
    unfold Hid xact; rw [if_neg (by omega), if_neg (by omega), if_neg (by omega), if_pos (by omega)]
    rw [show (-(-(k : Int))).toNat = k by omega]
  have g0 := hc k (by omega)
  have hd := div_fin hF (t10_nz k (by omega))
  have z0 : (-(k : Int) == 0) = false := by simp; omega
  have z1 : ¬ ((0 : Int) < -(k : Int)) := by omega
  have z2 : -(k : Int) < 0 := by omega
  have z3 : (-22 : Int) ≤ -(k : Int) := by omega
  have z4 : (0 : Int) ≤ (k : Int) := by omega
  have z5 : (k : Int) < 23 := by omega
  have hr := run_float_arith (P := Tryz.prog) (w := w) .quo 25 .f64 _ _ _ hd.1
  have hw := hd.2
  clear hd hc
  generalize t10.getD k 0 = y at *
  cases neg with
  | false =>
    simp only [Bool.false_eq_true, if_false] at hs
    generalize sgF m false = F at *
    generalize divF F y = R at *
    rw [hs] at hr
    have HS := hidden' hs
    have HW := hidden' hw
    clear hF hw
    go_enter Tryz.func99, Tryz.ntmps99
    go_wp2_with fail
    go_ret2
    exact ⟨rfl, Or.inl ⟨R, HO.out, HW.out, rfl⟩⟩
  | true =>
    simp only [if_true] at hs
    have hn := run_neg (floatOfInt .f64 (m : Int)) w
    rw [← hs] at hn
    generalize sgF m true = F at *
    generalize divF F y = R at *
    rw [hs] at hr
    have HS := hidden' hs
    have HW := hidden' hw
    clear hF hw
    go_enter Tryz.func99, Tryz.ntmps99
    go_wp2_with fail
    go_ret2
    exact ⟨rfl, Or.inl ⟨R, HO.out, HW.out, rfl⟩⟩
set_option maxHeartbeats 4000000 in
theorem xact_pos (m : Nat) (k : Nat) (hk : 0 < k) (hk2 : k ≤ 22) (neg : Bool) (w : World) (hL : Lay w) (hm : m < 4503599627370496) :
    Calls Tryz.prog 99 #[.int .u64 (m : Nat), .int .i64 (k : Int), .bool neg] w (XP (xact m (k : Int) neg) w) := by
  have hmb := hL.mb
  have hF := sg_fw m neg
  obtain ⟨b, off, cap, hcap, h9, hc⟩ := hL.tabs.f10
  clear hL
  have zb : (((m : Int) / 4503599627370496) != 0) = false := by
    have : (m : Int) / 4503599627370496 = 0 := by omega
    rw [this]; rfl
  have hs : sgF m neg = if neg then negF (floatOfInt .f64 (m : Int)) else floatOfInt .f64 (m : Int) := rfl
  have HO : Hid (xact m (k : Int) neg = if gtB (sgF m neg) = true ∨ ltB (sgF m neg) = true then none else some (mulF (sgF m neg) (t10.getD k 0))) := by
    unfold Hid xact; rw [if_neg (by omega), if_neg (by omega), if_pos (by omega)]
    simp only
    rw [if_neg (show ¬ (22 : Int) < (k : Int) by omega), show (min (k : Int) 22).toNat = k by omega]
  have g0 := hc k (by omega)
  have hd := mul_fin hF (t10_nz k (by omega))
  have z0 : ((k : Int) == 0) = false := by simp; omega
  have z1 : (0 : Int) < (k : Int) := by omega
  have z2 : (k : Int) ≤ 37 := by omega
  have z3 : ¬ (22 : Int) < (k : Int) := by omega
  have z5 : (k : Int) < 23 := by omega
  have hr := run_float_arith (P := Tryz.prog) (w := w) .mul 25 .f64 _ _ _ hd.1
  have hw := hd.2
  have hgt : gtB (sgF m neg) = (FloatKind.f64.format.order (sgF m neg) 4831355200913801216 == some .gt) := rfl
  have hlt : ltB (sgF m neg) = (FloatKind.f64.format.order (sgF m neg) 14054727237768577024 == some .lt) := rfl
  clear hd hc
  generalize t10.getD k 0 = y at *
  generalize gtB (sgF m neg) = G at *
  generalize ltB (sgF m neg) = L at *
  cases neg with
  | false =>
    simp only [Bool.false_eq_true, if_false] at hs
    generalize sgF m false = F at *
    generalize mulF F y = R at *
    rw [hs] at hr
    rw [hs] at hgt
    rw [hs] at hlt
    have HW := hidden' hw
    clear hF hw
    cases G with
    | true =>
      have hG := hgt.symm
      clear hgt hlt
      go_enter Tryz.func99, Tryz.ntmps99
      go_wp2_with fail
      go_ret2
      exact ⟨rfl, Or.inr ⟨by rw [HO.out]; simp, _, rfl⟩⟩
    | false =>
      cases L with
      | true =>
        have hG := hgt.symm
        have hL := hlt.symm
        clear hgt hlt
        go_enter Tryz.func99, Tryz.ntmps99
        go_wp2_with fail
        go_ret2
        exact ⟨rfl, Or.inr ⟨by rw [HO.out]; simp, _, rfl⟩⟩
      | false =>
        have hG := hgt.symm
        have hL := hlt.symm
        clear hgt hlt
        go_enter Tryz.func99, Tryz.ntmps99
        go_wp2_with fail
        go_ret2
        exact ⟨rfl, Or.inl ⟨R, by rw [HO.out]; simp, HW.out, rfl⟩⟩
  | true =>
    simp only [if_true] at hs
    have hn := run_neg (floatOfInt .f64 (m : Int)) w
    rw [← hs] at hn
    generalize sgF m true = F at *
    generalize mulF F y = R at *
    rw [hs] at hr
    rw [hs] at hgt
    rw [hs] at hlt
    have HW := hidden' hw
    clear hF hw
    cases G with
    | true =>
      have hG := hgt.symm
      clear hgt hlt
      go_enter Tryz.func99, Tryz.ntmps99
      go_wp2_with fail
      go_ret2
      exact ⟨rfl, Or.inr ⟨by rw [HO.out]; simp, _, rfl⟩⟩
    | false =>
      cases L with
      | true =>
        have hG := hgt.symm
        have hL := hlt.symm
        clear hgt hlt
        go_enter Tryz.func99, Tryz.ntmps99
        go_wp2_with fail
        go_ret2
        exact ⟨rfl, Or.inr ⟨by rw [HO.out]; simp, _, rfl⟩⟩
      | false =>
        have hG := hgt.symm
        have hL := hlt.symm
        clear hgt hlt
        go_enter Tryz.func99, Tryz.ntmps99
        go_wp2_with fail
        go_ret2
        exact ⟨rfl, Or.inl ⟨R, by rw [HO.out]; simp, HW.out, rfl⟩⟩
set_option maxHeartbeats 4000000 in
theorem xact_gr (m : Nat) (k : Nat) (hk : 0 < k) (hk2 : k ≤ 15) (neg : Bool) (w : World) (hL : Lay w) (hm : m < 4503599627370496) :
    Calls Tryz.prog 99 #[.int .u64 (m : Nat), .int .i64 ((k : Int) + 22), .bool neg] w (XP (xact m ((k : Int) + 22) neg) w) := by
  have hmb := hL.mb
  have hF := sg_fw m neg
  obtain ⟨b, off, cap, hcap, h9, hc⟩ := hL.tabs.f10
  clear hL
  have zb : (((m : Int) / 4503599627370496) != 0) = false := by
    have : (m : Int) / 4503599627370496 = 0 := by omega
    rw [this]; rfl
  have hs : sgF m neg = if neg then negF (floatOfInt .f64 (m : Int)) else floatOfInt .f64 (m : Int) := rfl
  have hd1 := mul_fin hF (t10_nz k (by omega))
  have HO : Hid (xact m ((k : Int) + 22) neg = if gtB (mulF (sgF m neg) (t10.getD k 0)) = true ∨ ltB (mulF (sgF m neg) (t10.getD k 0)) = true then none else some (mulF (mulF (sgF m neg) (t10.getD k 0)) (t10.getD 22 0))) := by
    unfold Hid xact; rw [if_neg (by omega), if_neg (by omega), if_pos (by omega)]
    simp only
    rw [if_pos (show (22 : Int) < (k : Int) + 22 by omega), show (min ((k : Int) + 22) 22).toNat = 22 by omega, show ((k : Int) + 22 - 22).toNat = k by omega]
  have g0 := hc k (by omega)
  have g22 := hc 22 (by omega)
  have hd := mul_fin hd1.2 (t10_nz 22 (by omega))
  have z0 : ((k : Int) + 22 == 0) = false := by simp; omega
  have z1 : (0 : Int) < (k : Int) + 22 := by omega
  have z2 : (k : Int) + 22 ≤ 37 := by omega
  have z3 : (22 : Int) < (k : Int) + 22 := by omega
  have z6 : (k : Int) + 22 - 22 = (k : Int) := by omega
  have z7 : 0 < (k : Int) := by omega
  have z8 : (k : Int) ≤ 15 := by omega
  have z5 : (k : Int) < 23 := by omega
  have hr1 := run_float_arith (P := Tryz.prog) (w := w) .mul 25 .f64 _ _ _ hd1.1
  have hr := run_float_arith (P := Tryz.prog) (w := w) .mul 25 .f64 _ _ _ hd.1
  have hw := hd.2
  clear hd hd1 hc
  generalize t10.getD k 0 = y at *
  generalize t10.getD 22 0 = y2 at *
  cases neg with
  | false =>
    simp only [Bool.false_eq_true, if_false] at hs
    generalize sgF m false = F at *
    generalize mulF F y = R1 at *
    rw [hs] at hr1
    have hgt : gtB R1 = (FloatKind.f64.format.order R1 4831355200913801216 == some .gt) := rfl
    have hlt : ltB R1 = (FloatKind.f64.format.order R1 14054727237768577024 == some .lt) := rfl
    generalize gtB R1 = G at *
    generalize ltB R1 = L at *
    have HW := hidden' hw
    generalize mulF R1 y2 = R at *
    clear hF hw
    cases G with
    | true =>
      have hG := hgt.symm
      clear hgt hlt
      go_enter Tryz.func99, Tryz.ntmps99
      go_wp2_with fail
      go_ret2
      exact ⟨rfl, Or.inr ⟨by rw [HO.out]; simp, _, rfl⟩⟩
    | false =>
      cases L with
      | true =>
        have hG := hgt.symm
        have hL := hlt.symm
        clear hgt hlt
        go_enter Tryz.func99, Tryz.ntmps99
        go_wp2_with fail
        go_ret2
        exact ⟨rfl, Or.inr ⟨by rw [HO.out]; simp, _, rfl⟩⟩
      | false =>
        have hG := hgt.symm
        have hL := hlt.symm
        clear hgt hlt
        go_enter Tryz.func99, Tryz.ntmps99
        go_wp2_with fail
        go_ret2
        exact ⟨rfl, Or.inl ⟨R, by rw [HO.out]; simp, HW.out, rfl⟩⟩
  | true =>
    simp only [if_true] at hs
    have hn := run_neg (floatOfInt .f64 (m : Int)) w
    rw [← hs] at hn
    generalize sgF m true = F at *
    generalize mulF F y = R1 at *
    rw [hs] at hr1
    have hgt : gtB R1 = (FloatKind.f64.format.order R1 4831355200913801216 == some .gt) := rfl
    have hlt : ltB R1 = (FloatKind.f64.format.order R1 14054727237768577024 == some .lt) := rfl
    generalize gtB R1 = G at *
    generalize ltB R1 = L at *
    have HW := hidden' hw
    generalize mulF R1 y2 = R at *
    clear hF hw
    cases G with
    | true =>
      have hG := hgt.symm
      clear hgt hlt
      go_enter Tryz.func99, Tryz.ntmps99
      go_wp2_with fail
      go_ret2
      exact ⟨rfl, Or.inr ⟨by rw [HO.out]; simp, _, rfl⟩⟩
    | false =>
      cases L with
      | true =>
        have hG := hgt.symm
        have hL := hlt.symm
        clear hgt hlt
        go_enter Tryz.func99, Tryz.ntmps99
        go_wp2_with fail
        go_ret2
        exact ⟨rfl, Or.inr ⟨by rw [HO.out]; simp, _, rfl⟩⟩
      | false =>
        have hG := hgt.symm
        have hL := hlt.symm
        clear hgt hlt
        go_enter Tryz.func99, Tryz.ntmps99
        go_wp2_with fail
        go_ret2
        exact ⟨rfl, Or.inl ⟨R, by rw [HO.out]; simp, HW.out, rfl⟩⟩
set_option maxHeartbeats 4000000 in
theorem xact_far (m : Nat) (p : Int) (neg : Bool) (w : World) (hL : Lay w) (hm : m < 4503599627370496) (hp : 37 < p ∨ p < -22) :
    Calls Tryz.prog 99 #[.int .u64 (m : Nat), .int .i64 p, .bool neg] w (XP (xact m p neg) w) := by
  have hmb := hL.mb
  have HO : Hid (xact m p neg = none) := by
    unfold Hid xact; rw [if_neg (by omega), if_neg (by omega), if_neg (by omega), if_neg (by omega)]
  clear hL
  have zb : (((m : Int) / 4503599627370496) != 0) = false := by
    have : (m : Int) / 4503599627370496 = 0 := by omega
    rw [this]; rfl
  have hn := run_neg (floatOfInt .f64 (m : Int)) w
  have z0 : (p == 0) = false := by simp; omega
  rcases hp with hp | hp
  · have z1 : (0 : Int) < p := by omega
    have z2 : ¬ p ≤ 37 := by omega
    have z3 : ¬ p < 0 := by omega
    cases neg
    all_goals
      have hn2 := hn
      go_enter Tryz.func99, Tryz.ntmps99
      go_wp2_with fail
      go_ret2
      exact ⟨rfl, Or.inr ⟨HO.out, _, rfl⟩⟩
  · have z1 : ¬ (0 : Int) < p := by omega
    have z2 : p < 0 := by omega
    have z3 : ¬ -22 ≤ p := by omega
    cases neg
    all_goals
      have hn2 := hn
      go_enter Tryz.func99, Tryz.ntmps99
      go_wp2_with fail
      go_ret2
      exact ⟨rfl, Or.inr ⟨HO.out, _, rfl⟩⟩
theorem xact_any (m : Nat) (p : Int) (neg : Bool) (w : World) (hL : Lay w) (hm : m < 18446744073709551616) :
    Calls Tryz.prog 99 #[.int .u64 (m : Nat), .int .i64 p, .bool neg] w (XP (xact m p neg) w) := by
  by_cases hb : 4503599627370496 ≤ m
  · exact xact_big m p neg w hL hm hb
  have hm2 : m < 4503599627370496 := by omega
  by_cases h0 : p = 0
  · subst h0; exact xact_zero m neg w hL hm2
  by_cases h1 : 37 < p ∨ p < -22
  · exact xact_far m p neg w hL hm2 h1
  by_cases h2 : p < 0
  · have := xact_neg m (-p).toNat (by omega) (by omega) neg w hL hm2
    rw [show (-(((-p).toNat : Nat) : Int)) = p by omega] at this
    exact this
  by_cases h3 : p ≤ 22
  · have := xact_pos m p.toNat (by omega) (by omega) neg w hL hm2
    rw [show ((p.toNat : Nat) : Int) = p by omega] at this
    exact this
  · have := xact_gr m (p - 22).toNat (by omega) (by omega) neg w hL hm2
    rw [show (((p - 22).toNat : Nat) : Int) + 22 = p by omega] at this
    exact this
end Go.Proofs.PlatenFigure
