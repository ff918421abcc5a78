/- Products and quotients of float64's numbers with powers of ten are numbers. -/
import Derived.Test.YtgijplljpimbmaaGreatDoorFgN
import Derived.Test.YtgijplljpimbmaaGreatDoorFgF
namespace Go.Proofs.PlatenFigure
open Go.RowKit Ieee
set_option linter.unusedVariables false

theorem read_word (s : Bool) (r : Nat) (h : r ≤ 2047 * 2 ^ 52) : (Ieee.double.read (Ieee.double.word s r)).isNaN = false := by
  have e : Ieee.double.word s r % 2 ^ 63 = r := by
    unfold Format.word
    rw [sign_weight]
    split <;> omega
  unfold Format.read
  simp only [sign_weight, binade_is, inf_rung]
  rw [e]
  split
  · rfl
  · split
    · rfl
    · split
      · rfl
      · omega
theorem write_ok (d : Datum) (h : d.isNaN = false) : (Ieee.double.read (Ieee.double.write d)).isNaN = false := by
  cases d with
  | nan s t => simp [Datum.isNaN] at h
  | infinity s => exact read_word s _ (by rw [inf_rung]; exact Nat.le_refl _)
  | number s m i =>
    show (Ieee.double.read (Ieee.double.nearest s m i)).isNaN = false
    unfold Format.nearest
    split
    · exact read_word s 0 (by omega)
    · exact read_word s _ (by rw [inf_rung]; exact Nat.min_le_right _ _)
/-- A word of a number, or of an infinity. -/
def Fw (x : Nat) : Prop := x < 18446744073709551616 ∧ (Ieee.double.read x).isNaN = false
theorem write_fin (d : Datum) (h : d.isNaN = false) : Fw (Ieee.double.write d) := by
  refine ⟨?_, write_ok d h⟩
  have := Ieee.double.write_lt d
  have e : 2 ^ Ieee.double.width = 18446744073709551616 := by decide
  omega
def mulF (x y : Nat) : Nat := (floatBits .mul .f64 x y).getD 0
def divF (x y : Nat) : Nat := (floatBits .quo .f64 x y).getD 0
/-- A number that isn't nought. -/
def Nz (y : Nat) : Prop := ∃ s m i, Ieee.double.read y = .number s m i ∧ m ≠ 0
theorem mul_fin {x y : Nat} (hx : Fw x) (hy : Nz y) : floatBits .mul .f64 x y = some (mulF x y) ∧ Fw (mulF x y) := by
  obtain ⟨s, m, i, hr, hm⟩ := hy
  have key : ∃ d, (Ieee.double.read x).product (Ieee.double.read y) = some d ∧ d.isNaN = false := by
    rw [hr]
    have := hx.2
    cases h : Ieee.double.read x with
    | nan a b => rw [h] at this; simp [Datum.isNaN] at this
    | infinity a => exact ⟨.infinity (a ^^ s), by simp [Datum.product, hm], rfl⟩
    | number a b c => exact ⟨_, rfl, rfl⟩
  obtain ⟨d, hd, hn⟩ := key
  have e : floatBits .mul .f64 x y = some (Ieee.double.write d) := by
    show ((Ieee.double.read x).product (Ieee.double.read y)).map Ieee.double.write = _
    rw [hd]; rfl
  unfold mulF
  rw [e]
  exact ⟨rfl, write_fin d hn⟩
theorem div_fin {x y : Nat} (hx : Fw x) (hy : Nz y) : floatBits .quo .f64 x y = some (divF x y) ∧ Fw (divF x y) := by
  obtain ⟨s, m, i, hr, hm⟩ := hy
  have key : ∃ d, (Ieee.double.read x).quotient 54 (Ieee.double.read y) = some d ∧ d.isNaN = false := by
    rw [hr]
    have := hx.2
    cases h : Ieee.double.read x with
    | nan a b => rw [h] at this; simp [Datum.isNaN] at this
    | infinity a => exact ⟨.infinity (a ^^ s), rfl, rfl⟩
    | number a b c => exact ⟨_, by simp only [Datum.quotient, if_neg hm]; rfl, rfl⟩
  obtain ⟨d, hd, hn⟩ := key
  have e : floatBits .quo .f64 x y = some (Ieee.double.write d) := by
    show ((Ieee.double.read x).quotient 54 (Ieee.double.read y)).map Ieee.double.write = _
    rw [hd]; rfl
  unfold divF
  rw [e]
  exact ⟨rfl, write_fin d hn⟩
theorem int_fin (n : Int) : Fw (floatOfInt .f64 n) := write_fin (.number (decide (n < 0)) n.natAbs 0) rfl
theorem t10_nz : ∀ i, i < 23 → Nz (t10.getD i 0) := by
  have key : ∀ i : Fin 23, ((match Ieee.double.read (t10.getD i.val 0) with | .number _ m _ => decide (m ≠ 0) | _ => false) = true) := by decide +kernel
  intro i hi
  have := key ⟨i, hi⟩
  simp only at this
  split at this
  · rename_i s m j h
    exact ⟨_, _, _, h, by simpa using this⟩
  · cases this
theorem neg_fin {x : Nat} (h : Fw x) : Fw (negF x) := by
  obtain ⟨h1, h2⟩ := h
  have hx : negF x < 18446744073709551616 := by
    unfold negF
    exact Nat.xor_lt_two_pow (n := 64) h1 (by decide)
  refine ⟨hx, ?_⟩
  have e : negF x % 2 ^ 63 = x % 2 ^ 63 := by
    unfold negF
    rw [Nat.xor_mod_two_pow]
    simp
  unfold Format.read at h2 ⊢
  simp only [sign_weight, binade_is, inf_rung] at h2 ⊢
  rw [e]
  generalize x % 2 ^ 63 = r at *
  split at h2
  · rename_i q
    rw [if_pos q]; rfl
  · rename_i q
    rw [if_neg q]
    split at h2
    · rename_i q
      rw [if_pos q]; rfl
    · rename_i q
      rw [if_neg q]
      split at h2
      · rename_i q
        rw [if_pos q]; rfl
      · simp [Datum.isNaN] at h2
end Go.Proofs.PlatenFigure

/- What strconv.atof64exact comes to. -/
namespace Go.Proofs.PlatenFigure
open Go.RowKit
set_option linter.unusedVariables false
set_option maxRecDepth 20000

theorem hidden' {p : Prop} (h : p) : Hid p := h
def gtB (x : Nat) : Bool := FloatKind.f64.format.order x 4831355200913801216 == some .gt
def ltB (x : Nat) : Bool := FloatKind.f64.format.order x 14054727237768577024 == some .lt
def sgF (m : Nat) (neg : Bool) : Nat := if neg then negF (floatOfInt .f64 m) else floatOfInt .f64 m
/-- The exact answer, where there is one. -/
def xact (m : Nat) (p : Int) (neg : Bool) : Option Nat :=
  if 4503599627370496 ≤ m then none
  else if p = 0 then some (sgF m neg)
  else if 0 < p ∧ p ≤ 37 then
    (let f1 := if 22 < p then mulF (sgF m neg) (t10.getD (p - 22).toNat 0) else sgF m neg
     if gtB f1 = true ∨ ltB f1 = true then none else some (mulF f1 (t10.getD (min p 22).toNat 0)))
  else if p < 0 ∧ -22 ≤ p then some (divF (sgF m neg) (t10.getD (-p).toNat 0))
  else none
theorem sg_fw (m : Nat) (neg : Bool) : Fw (sgF m neg) := by
  unfold sgF
  split
  · exact neg_fin (int_fin _)
  · exact int_fin _
def XP (o : Option Nat) (w : World) (e : Ending) (w' : World) : Prop :=
  w' = w ∧ ((∃ r, o = some r ∧ Fw r ∧ e = .returned (.tuple #[.float .f64 r, .bool true])) ∨ (o = none ∧ ∃ r, e = .returned (.tuple #[.float .f64 r, .bool false])))
set_option maxHeartbeats 2000000 in
theorem xact_big (m : Nat) (p : Int) (neg : Bool) (w : World) (hL : Lay w) (hm : m < 18446744073709551616) (hb : 4503599627370496 ≤ m) :
    Calls Tryz.prog 99 #[.int .u64 (m : Nat), .int .i64 p, .bool neg] w (XP (xact m p neg) w) := by
  have hmb := hL.mb
  have HO : Hid (xact m p neg = none) := by unfold Hid xact; rw [if_pos hb]
  clear hL
  have zb : (((m : Int) / 4503599627370496) != 0) = true := by rw [bne_iff_ne]; omega
  go_enter Tryz.func99, Tryz.ntmps99
  go_wp2_with fail
  go_ret2
  exact ⟨rfl, Or.inr ⟨HO.out, _, rfl⟩⟩
set_option maxHeartbeats 4000000 in
theorem xact_zero (m : Nat)  (neg : Bool) (w : World) (hL : Lay w) (hm : m < 4503599627370496) :
    Calls Tryz.prog 99 #[.int .u64 (m : Nat), .int .i64 0, .bool neg] w (XP (xact m 0 neg) w) := by
  have hmb := hL.mb
  have hF := sg_fw m neg
  obtain ⟨b, off, cap, hcap, h9, hc⟩ := hL.tabs.f10
  clear hL
  have zb : (((m : Int) / 4503599627370496) != 0) = false := by
    have : (m : Int) / 4503599627370496 = 0 := by omega
    rw [this]; rfl
  have hs : sgF m neg = if neg then negF (floatOfInt .f64 (m : Int)) else floatOfInt .f64 (m : Int) := rfl
  have HO : Hid (xact m 0 neg = some (sgF m neg)) := by unfold Hid xact; rw [if_neg (by omega), if_pos rfl]
  cases neg with
  | false =>
    simp only [Bool.false_eq_true, if_false] at hs
    generalize sgF m false = F at *
    have HS := hidden' hs
    have HF := hidden' hF
    clear hF hc
    go_enter Tryz.func99, Tryz.ntmps99
    go_wp2_with fail
    go_ret2
    exact ⟨rfl, Or.inl ⟨F, HO.out, HF.out, by simp [HS.out]⟩⟩
  | true =>
    simp only [if_true] at hs
    have hn := run_neg (floatOfInt .f64 (m : Int)) w
    rw [← hs] at hn
    generalize sgF m true = F at *
    have HS := hidden' hs
    have HF := hidden' hF
    clear hF hc
    go_enter Tryz.func99, Tryz.ntmps99
    go_wp2_with fail
    go_ret2
    exact ⟨rfl, Or.inl ⟨F, HO.out, HF.out, by simp [HS.out]⟩⟩
set_option maxHeartbeats 4000000 in
theorem xact_neg (m : Nat) (k : Nat) (hk : 0 < k) (hk2 : k ≤ 22) (neg : Bool) (w : World) (hL : Lay w) (hm : m < 4503599627370496) :
    Calls Tryz.prog 99 #[.int .u64 (m : Nat), .int .i64 (-(k : Int)), .bool neg] w (XP (xact m (-(k : Int)) neg) w) := by
  have hmb := hL.mb
  have hF := sg_fw m neg
  obtain ⟨b, off, cap, hcap, h9, hc⟩ := hL.tabs.f10
  clear hL
  have zb : (((m : Int) / 4503599627370496) != 0) = false := by
    have : (m : Int) / 4503599627370496 = 0 := by omega
    rw [this]; rfl
  have hs : sgF m neg = if neg then negF (floatOfInt .f64 (m : Int)) else floatOfInt .f64 (m : Int) := rfl
  have HO : Hid (xact m (-(k : Int)) neg = some (divF (sgF m neg) (t10.getD k 0))) := by
    unfold Hid xact; rw [if_neg (by omega), if_neg (by omega), if_neg (by omega), if_pos (by omega)]
    rw [show (-(-(k : Int))).toNat = k by omega]
  have g0 := hc k (by omega)
  have hd := div_fin hF (t10_nz k (by omega))
  have z0 : (-(k : Int) == 0) = false := by simp; omega
  have z1 : ¬ ((0 : Int) < -(k : Int)) := by omega
  have z2 : -(k : Int) < 0 := by omega
  have z3 : (-22 : Int) ≤ -(k : Int) := by omega
  have z4 : (0 : Int) ≤ (k : Int) := by omega
  have z5 : (k : Int) < 23 := by omega
  have hr := run_float_arith (P := Tryz.prog) (w := w) .quo 25 .f64 _ _ _ hd.1
  have hw := hd.2
  clear hd hc
  generalize t10.getD k 0 = y at *
  cases neg with
  | false =>
    simp only [Bool.false_eq_true, if_false] at hs
    generalize sgF m false = F at *
    generalize divF F y = R at *
    rw [hs] at hr
    have HS := hidden' hs
    have HW := hidden' hw
    clear hF hw
    go_enter Tryz.func99, Tryz.ntmps99
    go_wp2_with fail
    go_ret2
    exact ⟨rfl, Or.inl ⟨R, HO.out, HW.out, rfl⟩⟩
  | true =>
    simp only [if_true] at hs
    have hn := run_neg (floatOfInt .f64 (m : Int)) w
    rw [← hs] at hn
    generalize sgF m true = F at *
    generalize divF F y = R at *
    rw [hs] at hr
    have HS := hidden' hs
    have HW := hidden' hw
    clear hF hw
    go_enter Tryz.func99, Tryz.ntmps99
    go_wp2_with fail
    go_ret2
    exact ⟨rfl, Or.inl ⟨R, HO.out, HW.out, rfl⟩⟩
set_option maxHeartbeats 4000000 in
theorem xact_pos (m : Nat) (k : Nat) (hk : 0 < k) (hk2 : k ≤ 22) (neg : Bool) (w : World) (hL : Lay w) (hm : m < 4503599627370496) :
    Calls Tryz.prog 99 #[.int .u64 (m : Nat), .int .i64 (k : Int), .bool neg] w (XP (xact m (k : Int) neg) w) := by
  have hmb := hL.mb
  have hF := sg_fw m neg
  obtain ⟨b, off, cap, hcap, h9, hc⟩ := hL.tabs.f10
  clear hL
  have zb : (((m : Int) / 4503599627370496) != 0) = false := by
    have : (m : Int) / 4503599627370496 = 0 := by omega
    rw [this]; rfl
  have hs : sgF m neg = if neg then negF (floatOfInt .f64 (m : Int)) else floatOfInt .f64 (m : Int) := rfl
  have HO : Hid (xact m (k : Int) neg = if gtB (sgF m neg) = true ∨ ltB (sgF m neg) = true then none else some (mulF (sgF m neg) (t10.getD k 0))) := by
    unfold Hid xact; rw [if_neg (by omega), if_neg (by omega), if_pos (by omega)]
    simp only
    rw [if_neg (show ¬ (22 : Int) < (k : Int) by omega), show (min (k : Int) 22).toNat = k by omega]
  have g0 := hc k (by omega)
  have hd := mul_fin hF (t10_nz k (by omega))
  have z0 : ((k : Int) == 0) = false := by simp; omega
  have z1 : (0 : Int) < (k : Int) := by omega
  have z2 : (k : Int) ≤ 37 := by omega
  have z3 : ¬ (22 : Int) < (k : Int) := by omega
  have z5 : (k : Int) < 23 := by omega
  have hr := run_float_arith (P := Tryz.prog) (w := w) .mul 25 .f64 _ _ _ hd.1
  have hw := hd.2
  have hgt : gtB (sgF m neg) = (FloatKind.f64.format.order (sgF m neg) 4831355200913801216 == some .gt) := rfl
  have hlt : ltB (sgF m neg) = (FloatKind.f64.format.order (sgF m neg) 14054727237768577024 == some .lt) := rfl
  clear hd hc
  generalize t10.getD k 0 = y at *
  generalize gtB (sgF m neg) = G at *
  generalize ltB (sgF m neg) = L at *
  cases neg with
  | false =>
    simp only [Bool.false_eq_true, if_false] at hs
    generalize sgF m false = F at *
    generalize mulF F y = R at *
    rw [hs] at hr
    rw [hs] at hgt
    rw [hs] at hlt
    have HW := hidden' hw
    clear hF hw
    cases G with
    | true =>
      have hG := hgt.symm
      clear hgt hlt
      go_enter Tryz.func99, Tryz.ntmps99
      go_wp2_with fail
      go_ret2
      exact ⟨rfl, Or.inr ⟨by rw [HO.out]; simp, _, rfl⟩⟩
    | false =>
      cases L with
      | true =>
        have hG := hgt.symm
        have hL := hlt.symm
        clear hgt hlt
        go_enter Tryz.func99, Tryz.ntmps99
        go_wp2_with fail
        go_ret2
        exact ⟨rfl, Or.inr ⟨by rw [HO.out]; simp, _, rfl⟩⟩
      | false =>
        have hG := hgt.symm
        have hL := hlt.symm
        clear hgt hlt
        go_enter Tryz.func99, Tryz.ntmps99
        go_wp2_with fail
        go_ret2
        exact ⟨rfl, Or.inl ⟨R, by rw [HO.out]; simp, HW.out, rfl⟩⟩
  | true =>
    simp only [if_true] at hs
    have hn := run_neg (floatOfInt .f64 (m : Int)) w
    rw [← hs] at hn
    generalize sgF m true = F at *
    generalize mulF F y = R at *
    rw [hs] at hr
    rw [hs] at hgt
    rw [hs] at hlt
    have HW := hidden' hw
    clear hF hw
    cases G with
    | true =>
      have hG := hgt.symm
      clear hgt hlt
      go_enter Tryz.func99, Tryz.ntmps99
      go_wp2_with fail
      go_ret2
      exact ⟨rfl, Or.inr ⟨by rw [HO.out]; simp, _, rfl⟩⟩
    | false =>
      cases L with
      | true =>
        have hG := hgt.symm
        have hL := hlt.symm
        clear hgt hlt
        go_enter Tryz.func99, Tryz.ntmps99
        go_wp2_with fail
        go_ret2
        exact ⟨rfl, Or.inr ⟨by rw [HO.out]; simp, _, rfl⟩⟩
      | false =>
        have hG := hgt.symm
        have hL := hlt.symm
        clear hgt hlt
        go_enter Tryz.func99, Tryz.ntmps99
        go_wp2_with fail
        go_ret2
        exact ⟨rfl, Or.inl ⟨R, by rw [HO.out]; simp, HW.out, rfl⟩⟩
set_option maxHeartbeats 4000000 in
theorem xact_gr (m : Nat) (k : Nat) (hk : 0 < k) (hk2 : k ≤ 15) (neg : Bool) (w : World) (hL : Lay w) (hm : m < 4503599627370496) :
    Calls Tryz.prog 99 #[.int .u64 (m : Nat), .int .i64 ((k : Int) + 22), .bool neg] w (XP (xact m ((k : Int) + 22) neg) w) := by
  have hmb := hL.mb
  have hF := sg_fw m neg
  obtain ⟨b, off, cap, hcap, h9, hc⟩ := hL.tabs.f10
  clear hL
  have zb : (((m : Int) / 4503599627370496) != 0) = false := by
    have : (m : Int) / 4503599627370496 = 0 := by omega
    rw [this]; rfl
  have hs : sgF m neg = if neg then negF (floatOfInt .f64 (m : Int)) else floatOfInt .f64 (m : Int) := rfl
  have hd1 := mul_fin hF (t10_nz k (by omega))
  have HO : Hid (xact m ((k : Int) + 22) neg = if gtB (mulF (sgF m neg) (t10.getD k 0)) = true ∨ ltB (mulF (sgF m neg) (t10.getD k 0)) = true then none else some (mulF (mulF (sgF m neg) (t10.getD k 0)) (t10.getD 22 0))) := by
    unfold Hid xact; rw [if_neg (by omega), if_neg (by omega), if_pos (by omega)]
    simp only
    rw [if_pos (show (22 : Int) < (k : Int) + 22 by omega), show (min ((k : Int) + 22) 22).toNat = 22 by omega, show ((k : Int) + 22 - 22).toNat = k by omega]
  have g0 := hc k (by omega)
  have g22 := hc 22 (by omega)
  have hd := mul_fin hd1.2 (t10_nz 22 (by omega))
  have z0 : ((k : Int) + 22 == 0) = false := by simp; omega
  have z1 : (0 : Int) < (k : Int) + 22 := by omega
  have z2 : (k : Int) + 22 ≤ 37 := by omega
  have z3 : (22 : Int) < (k : Int) + 22 := by omega
  have z6 : (k : Int) + 22 - 22 = (k : Int) := by omega
  have z7 : 0 < (k : Int) := by omega
  have z8 : (k : Int) ≤ 15 := by omega
  have z5 : (k : Int) < 23 := by omega
  have hr1 := run_float_arith (P := Tryz.prog) (w := w) .mul 25 .f64 _ _ _ hd1.1
  have hr := run_float_arith (P := Tryz.prog) (w := w) .mul 25 .f64 _ _ _ hd.1
  have hw := hd.2
  clear hd hd1 hc
  generalize t10.getD k 0 = y at *
  generalize t10.getD 22 0 = y2 at *
  cases neg with
  | false =>
    simp only [Bool.false_eq_true, if_false] at hs
    generalize sgF m false = F at *
    generalize mulF F y = R1 at *
    rw [hs] at hr1
    have hgt : gtB R1 = (FloatKind.f64.format.order R1 4831355200913801216 == some .gt) := rfl
    have hlt : ltB R1 = (FloatKind.f64.format.order R1 14054727237768577024 == some .lt) := rfl
    generalize gtB R1 = G at *
    generalize ltB R1 = L at *
    have HW := hidden' hw
    generalize mulF R1 y2 = R at *
    clear hF hw
    cases G with
    | true =>
      have hG := hgt.symm
      clear hgt hlt
      go_enter Tryz.func99, Tryz.ntmps99
      go_wp2_with fail
      go_ret2
      exact ⟨rfl, Or.inr ⟨by rw [HO.out]; simp, _, rfl⟩⟩
    | false =>
      cases L with
      | true =>
        have hG := hgt.symm
        have hL := hlt.symm
        clear hgt hlt
        go_enter Tryz.func99, Tryz.ntmps99
        go_wp2_with fail
        go_ret2
        exact ⟨rfl, Or.inr ⟨by rw [HO.out]; simp, _, rfl⟩⟩
      | false =>
        have hG := hgt.symm
        have hL := hlt.symm
        clear hgt hlt
        go_enter Tryz.func99, Tryz.ntmps99
        go_wp2_with fail
        go_ret2
        exact ⟨rfl, Or.inl ⟨R, by rw [HO.out]; simp, HW.out, rfl⟩⟩
  | true =>
    simp only [if_true] at hs
    have hn := run_neg (floatOfInt .f64 (m : Int)) w
    rw [← hs] at hn
    generalize sgF m true = F at *
    generalize mulF F y = R1 at *
    rw [hs] at hr1
    have hgt : gtB R1 = (FloatKind.f64.format.order R1 4831355200913801216 == some .gt) := rfl
    have hlt : ltB R1 = (FloatKind.f64.format.order R1 14054727237768577024 == some .lt) := rfl
    generalize gtB R1 = G at *
    generalize ltB R1 = L at *
    have HW := hidden' hw
    generalize mulF R1 y2 = R at *
    clear hF hw
    cases G with
    | true =>
      have hG := hgt.symm
      clear hgt hlt
      go_enter Tryz.func99, Tryz.ntmps99
      go_wp2_with fail
      go_ret2
      exact ⟨rfl, Or.inr ⟨by rw [HO.out]; simp, _, rfl⟩⟩
    | false =>
      cases L with
      | true =>
        have hG := hgt.symm
        have hL := hlt.symm
        clear hgt hlt
        go_enter Tryz.func99, Tryz.ntmps99
        go_wp2_with fail
        go_ret2
        exact ⟨rfl, Or.inr ⟨by rw [HO.out]; simp, _, rfl⟩⟩
      | false =>
        have hG := hgt.symm
        have hL := hlt.symm
        clear hgt hlt
        go_enter Tryz.func99, Tryz.ntmps99
        go_wp2_with fail
        go_ret2
        exact ⟨rfl, Or.inl ⟨R, by rw [HO.out]; simp, HW.out, rfl⟩⟩
set_option maxHeartbeats 4000000 in
theorem xact_far (m : Nat) (p : Int) (neg : Bool) (w : World) (hL : Lay w) (hm : m < 4503599627370496) (hp : 37 < p ∨ p < -22) :
    Calls Tryz.prog 99 #[.int .u64 (m : Nat), .int .i64 p, .bool neg] w (XP (xact m p neg) w) := by
  have hmb := hL.mb
  have HO : Hid (xact m p neg = none) := by
    unfold Hid xact; rw [if_neg (by omega), if_neg (by omega), if_neg (by omega), if_neg (by omega)]
  clear hL
  have zb : (((m : Int) / 4503599627370496) != 0) = false := by
    have : (m : Int) / 4503599627370496 = 0 := by omega
    rw [this]; rfl
  have hn := run_neg (floatOfInt .f64 (m : Int)) w
  have z0 : (p == 0) = false := by simp; omega
  rcases hp with hp | hp
  · have z1 : (0 : Int) < p := by omega
    have z2 : ¬ p ≤ 37 := by omega
    have z3 : ¬ p < 0 := by omega
    cases neg
    all_goals
      have hn2 := hn
      go_enter Tryz.func99, Tryz.ntmps99
      go_wp2_with fail
      go_ret2
      exact ⟨rfl, Or.inr ⟨HO.out, _, rfl⟩⟩
  · have z1 : ¬ (0 : Int) < p := by omega
    have z2 : p < 0 := by omega
    have z3 : ¬ -22 ≤ p := by omega
    cases neg
    all_goals
      have hn2 := hn
      go_enter Tryz.func99, Tryz.ntmps99
      go_wp2_with fail
      go_ret2
      exact ⟨rfl, Or.inr ⟨HO.out, _, rfl⟩⟩
theorem xact_any (m : Nat) (p : Int) (neg : Bool) (w : World) (hL : Lay w) (hm : m < 18446744073709551616) :
    Calls Tryz.prog 99 #[.int .u64 (m : Nat), .int .i64 p, .bool neg] w (XP (xact m p neg) w) := by
  by_cases hb : 4503599627370496 ≤ m
  · exact xact_big m p neg w hL hm hb
  have hm2 : m < 4503599627370496 := by omega
  by_cases h0 : p = 0
  · subst h0; exact xact_zero m neg w hL hm2
  by_cases h1 : 37 < p ∨ p < -22
  · exact xact_far m p neg w hL hm2 h1
  by_cases h2 : p < 0
  · have := xact_neg m (-p).toNat (by omega) (by omega) neg w hL hm2
    rw [show (-(((-p).toNat : Nat) : Int)) = p by omega] at this
    exact this
  by_cases h3 : p ≤ 22
  · have := xact_pos m p.toNat (by omega) (by omega) neg w hL hm2
    rw [show ((p.toNat : Nat) : Int) = p by omega] at this
    exact this
  · have := xact_gr m (p - 22).toNat (by omega) (by omega) neg w hL hm2
    rw [show (((p - 22).toNat : Nat) : Int) + 22 = p by omega] at this
    exact this
end Go.Proofs.PlatenFigure

/- What strconv.pack64 and strconv.parseFloat64 come to. -/
namespace Go.Proofs.PlatenFigure
open Go.RowKit
set_option linter.unusedVariables false
set_option maxRecDepth 20000

theorem bits_andnot_nat (x y : Nat) (hx : x < 2 ^ 64) (hy : y < 2 ^ 64) : bits .andNot .u64 x y = ((x &&& (2 ^ 64 - 1 - y) : Nat) : Int) := by
  have h : x &&& (2 ^ 64 - 1 - y) < 2 ^ 64 := Nat.lt_of_le_of_lt Nat.and_le_left hx
  show IntKind.u64.wrap ((BitVec.ofInt 64 (x : Int) &&& ~~~ BitVec.ofInt 64 (y : Int)).toNat : Int) = _
  rw [BitVec.ofInt_natCast, BitVec.ofInt_natCast, BitVec.toNat_and, BitVec.toNat_not, BitVec.toNat_ofNat, BitVec.toNat_ofNat, Nat.mod_eq_of_lt hx, Nat.mod_eq_of_lt hy, IntKind.wrap_u64]
  omega
/-- The word of m * 2 ^ e; is it too great? -/
def pkF (m : Nat) (e : Int) : Nat × Bool :=
  if m &&& 4503599627370496 = 0 then (m, false)
  else if 972 ≤ e then ((m &&& 9223372036854775808) ||| 9218868437227405312, true)
  else ((m &&& 18442240474082181119) ||| ((1075 + e).toNat * 4503599627370496), false)
theorem pk_lt (m : Nat) (e : Int) (hm : m < 18446744073709551616) (he : e ≤ 2000) : (pkF m e).1 < 18446744073709551616 := by
  unfold pkF
  split
  · exact hm
  · split
    · exact Nat.or_lt_two_pow (n := 64) (Nat.lt_of_le_of_lt Nat.and_le_left hm) (by decide)
    · exact Nat.or_lt_two_pow (n := 64) (Nat.lt_of_le_of_lt Nat.and_le_left hm) (by omega)
def erV (b : Bool) : Value := if b then .iface 64 (.int .i64 1) else .nilIface
def PkP (p : Nat × Bool) (w : World) (e : Ending) (w' : World) : Prop := w' = w ∧ e = .returned (.tuple #[.float .f64 p.1, erV p.2])
set_option maxHeartbeats 2000000 in
theorem pack_any (m : Nat) (e : Int) (w : World) (hm : m < 18446744073709551616) (h1 : -1075 < e) (h2 : e ≤ 1100) :
    Calls Tryz.prog 128 #[.int .u64 (m : Nat), .int .i64 e] w (PkP (pkF m e) w) := by
  have b1 : bits .and .u64 (m : Int) 4503599627370496 = ((m &&& 4503599627370496 : Nat) : Int) := bits_and_nat m 4503599627370496 hm (by decide)
  by_cases q : m &&& 4503599627370496 = 0
  · have HO : Hid (pkF m e = (m, false)) := by unfold Hid pkF; rw [if_pos q]
    have hs := sfrom (m : Int) w
    rw [q] at b1
    clear q
    go_enter Tryz.func128, Tryz.ntmps128
    go_wp2_with fail
    go_ret2
    exact ⟨rfl, by rw [HO.out]; rfl⟩
  · have z : (((m &&& 4503599627370496 : Nat) : Int) == 0) = false := by simp; omega
    by_cases q2 : 972 ≤ e
    · have HO : Hid (pkF m e = ((m &&& 9223372036854775808) ||| 9218868437227405312, true)) := by unfold Hid pkF; rw [if_neg q, if_pos q2]
      have l1 : m &&& 9223372036854775808 < 2 ^ 64 := Nat.lt_of_le_of_lt Nat.and_le_left hm
      have b2 : bits .and .u64 (m : Int) 9223372036854775808 = ((m &&& 9223372036854775808 : Nat) : Int) := bits_and_nat m 9223372036854775808 hm (by decide)
      have b3 : bits .or .u64 ((m &&& 9223372036854775808 : Nat) : Int) 9218868437227405312 = (((m &&& 9223372036854775808) ||| 9218868437227405312 : Nat) : Int) := bits_or_nat _ 9218868437227405312 l1 (by decide)
      have hs := sfrom (((m &&& 9223372036854775808) ||| 9218868437227405312 : Nat) : Int) w
      clear q l1
      generalize m &&& 4503599627370496 = A at *
      generalize m &&& 9223372036854775808 = B at *
      generalize B ||| 9218868437227405312 = C at *
      go_enter Tryz.func128, Tryz.ntmps128
      go_wp2_with fail
      go_ret2
      exact ⟨rfl, by rw [HO.out]; rfl⟩
    · have HO : Hid (pkF m e = ((m &&& 18442240474082181119) ||| ((1075 + e).toNat * 4503599627370496), false)) := by unfold Hid pkF; rw [if_neg q, if_neg q2]
      have l1 : m &&& 18442240474082181119 < 2 ^ 64 := Nat.lt_of_le_of_lt Nat.and_le_left hm
      obtain ⟨t, ht⟩ : ∃ t : Nat, t = (1075 + e).toNat := ⟨_, rfl⟩
      rw [← ht] at HO
      have hte : 1075 + e = (t : Int) := by omega
      have ht2 : t < 2047 := by omega
      have b2 : bits .andNot .u64 (m : Int) 4503599627370496 = ((m &&& 18442240474082181119 : Nat) : Int) := bits_andnot_nat m 4503599627370496 hm (by decide)
      have b3 : bits .or .u64 ((m &&& 18442240474082181119 : Nat) : Int) ((t * 4503599627370496 : Nat) : Int) = (((m &&& 18442240474082181119) ||| (t * 4503599627370496) : Nat) : Int) := bits_or_nat _ _ l1 (by omega)
      rw [show ((t * 4503599627370496 : Nat) : Int) = (t : Int) * 4503599627370496 by omega] at b3
      have hs := sfrom (((m &&& 18442240474082181119) ||| (t * 4503599627370496) : Nat) : Int) w
      have z2 : ¬ (972 : Int) ≤ e := q2
      clear q l1 ht
      generalize m &&& 4503599627370496 = A at *
      generalize m &&& 18442240474082181119 = B at *
      generalize B ||| (t * 4503599627370496) = C at *
      go_enter Tryz.func128, Tryz.ntmps128
      go_wp2_with fail
      go_ret2
      exact ⟨rfl, by rw [HO.out]; rfl⟩
end Go.Proofs.PlatenFigure

/- What strconv.parseFloat64 comes to. -/
namespace Go.Proofs.PlatenFigure
open Go.RowKit
set_option linter.unusedVariables false
set_option maxRecDepth 20000

theorem bl_all : ∀ (f d : Nat), d < 2 ^ f → f ≤ 64 → Lib.bitLen d ≤ f ∧ d < 2 ^ Lib.bitLen d
  | 0, d, h, hf => by
    obtain rfl : d = 0 := by simpa using h
    decide
  | f + 1, d, h, hf => by
    by_cases h0 : d = 0
    · subst h0; exact ⟨by show Lib.bitLen 0 ≤ _; rw [show Lib.bitLen 0 = 0 from rfl]; omega, by decide⟩
    · have h64 : d < 2 ^ 64 := Nat.lt_of_lt_of_le h (Nat.pow_le_pow_right (by decide) hf)
      rw [Lib.bitLen_half d h0 h64]
      have ih := bl_all f (d / 2) (by rw [Nat.div_lt_iff_lt_mul (by decide), ← Nat.pow_succ]; exact h) (by omega)
      refine ⟨by omega, ?_⟩
      rw [Nat.add_comm, Nat.pow_succ]
      have := ih.2
      omega
theorem bl_pos {d : Nat} (h0 : 0 < d) (h : d < 2 ^ 64) : 1 ≤ Lib.bitLen d ∧ Lib.bitLen d ≤ 64 ∧ d * 2 ^ (64 - Lib.bitLen d) < 18446744073709551616 := by
  have := bl_all 64 d h (by decide)
  have h1 := Lib.bitLen_half d (by omega) h
  refine ⟨by omega, this.1, ?_⟩
  have h2 : d * 2 ^ (64 - Lib.bitLen d) < 2 ^ Lib.bitLen d * 2 ^ (64 - Lib.bitLen d) := Nat.mul_lt_mul_of_pos_right this.2 (Nat.two_pow_pos _)
  rw [← Nat.pow_add, show Lib.bitLen d + (64 - Lib.bitLen d) = 64 by omega] at h2
  exact h2
theorem usc_lt (x ph pl s : Nat) (hx : x < 18446744073709551616) (hh : ph < 18446744073709551616) (hs : 8 ≤ s) : usc x ph pl s < 2 ^ 56 := by
  have bH : x * ph / 18446744073709551616 < 18446744073709551616 := by
    rw [Nat.div_lt_iff_lt_mul (by decide)]; exact Nat.mul_lt_mul'' hx hh
  have key : ∀ G, G < 18446744073709551616 → G / 2 ^ s < 2 ^ 56 := fun G hG => by
    rw [Nat.div_lt_iff_lt_mul (Nat.two_pow_pos _), ← Nat.pow_add]
    exact Nat.lt_of_lt_of_le hG (Nat.pow_le_pow_right (n := 2) (by decide) (show 64 ≤ 56 + s by omega))
  unfold usc uscT
  split
  · refine Nat.or_lt_two_pow (key _ (Nat.mod_lt _ (by decide))) ?_
    split <;> decide
  · exact Nat.or_lt_two_pow (key _ bH) (by decide)
/-- The places of the number that is rounded, and how far it is shifted. -/
def pfE (d : Nat) (p : Int) : Int := min 1074 (53 - (Lib.bitLen d : Int) - p * 108853 / 32768)
def pfS (d : Nat) (p : Int) : Int := -(pfE d p - (64 - (Lib.bitLen d : Int)) + p * 108853 / 32768 + 3)
def pfU (d : Nat) (p : Int) : Nat := usc (d * 2 ^ (64 - Lib.bitLen d)) (pHi (p + 348).toNat) (pLo (p + 348).toNat) (pfS d p).toNat
def pfR (u : Nat) : Nat × Nat :=
  if 36028797018963966 ≤ u then (((u / 2 ||| u % 2) + 1 + (u / 2 ||| u % 2) / 4 % 2) / 4, 1) else ((u + 1 + u / 4 % 2) / 4, 0)
def pfF (d : Nat) (p : Int) (sign : Nat) : Nat × Bool :=
  if 64 ≤ pfS d p then (sign, false) else pkF (sign ||| (pfR (pfU d p)).1) (-(pfE d p - (pfR (pfU d p)).2))
theorem pfR_le {u : Nat} (h : u < 2 ^ 56) : (pfR u).1 ≤ 9007199254740992 := by
  unfold pfR
  split
  · have : u / 2 ||| u % 2 < 2 ^ 55 := Nat.or_lt_two_pow (by omega) (by omega)
    simp only
    omega
  · simp only
    omega
theorem or_mod (u : Nat) : u ||| u % 2 = u := by
  apply Nat.eq_of_testBit_eq
  intro i
  rw [Nat.testBit_or]
  have : (u % 2).testBit i = (decide (i < 1) && u.testBit i) := by
    have := Nat.testBit_mod_two_pow u 1 i
    simpa using this
  rw [this]
  cases u.testBit i <;> simp
def PfP (p : Nat × Bool) (w : World) (e : Ending) (w' : World) : Prop := e = .returned (.tuple #[.float .f64 p.1, erV p.2]) ∧ Below w.heap.size w w'
set_option maxHeartbeats 4000000 in
theorem parse64_any (d : Nat) (p : Int) (sg : Nat) (w : World) (hL : Lay w) (h0 : 0 < d) (hd : d < 18446744073709551616) (h1 : -345 ≤ p) (h2 : p ≤ 310) (hs : sg < 18446744073709551616) :
    Calls Tryz.prog 100 #[.int .u64 (d : Nat), .int .i64 p, .int .u64 (sg : Nat)] w (PfP (pfF d p sg) w) := by
  obtain ⟨b1, b2, b3⟩ := bl_pos h0 hd
  have c1 := fun w2 => Tryz.bits_Len64 (d : Int) w2 (by omega) (by omega)
  rw [Int.toNat_natCast] at c1
  have c2 := fun w2 => log2_any p w2 (by omega) (by omega)
  have HE : Hid (pfE d p = min 1074 (53 - (Lib.bitLen d : Int) - p * 108853 / 32768)) := rfl
  have HS : Hid (pfS d p = -(pfE d p - (64 - (Lib.bitLen d : Int)) + p * 108853 / 32768 + 3)) := rfl
  have hlp1 : -1147 ≤ p * 108853 / 32768 := by omega
  have hlp2 : p * 108853 / 32768 ≤ 1029 := by omega
  have hw := hL.hw
  have hP := hL.p10
  clear hL
  have HF : Hid (pfF d p sg = if 64 ≤ pfS d p then (sg, false) else pkF (sg ||| (pfR (pfU d p)).1) (-(pfE d p - (pfR (pfU d p)).2))) := rfl
  have HU : Hid (pfU d p = usc (d * 2 ^ (64 - Lib.bitLen d)) (pHi (p + 348).toNat) (pLo (p + 348).toNat) (pfS d p).toNat) := rfl
  generalize pfF d p sg = O at *
  generalize pfU d p = U at *
  generalize pfE d p = E at *
  generalize pfS d p = S at *
  generalize p * 108853 / 32768 = lp at *
  generalize Lib.bitLen d = B at *
  have hE1 : -1040 ≤ E ∧ E ≤ 1074 := by have := HE.out; omega
  have hS8 : 8 ≤ S := by have := HS.out; have := HE.out; omega
  have c3 := prescale_any (E - (64 - (B : Int))) p lp (p + 348).toNat w .nilIface .nilIface .nilIface (by omega) (by omega) (by omega) (by omega) (by omega) (by omega) hw hP
  rw [show -(E - (64 - (B : Int)) + lp + 3) = S from HS.out.symm] at c3
  obtain ⟨fh, fl⟩ := p_fit (p + 348).toNat
  have hmin : min 1074 (53 - (B : Int) - lp) = E := HE.out.symm
  have HX : Hid (d * 2 ^ (64 - B) < 18446744073709551616) := b3
  clear HE HS hP b3
  generalize pHi (p + 348).toNat = ph at *
  generalize pLo (p + 348).toNat = pl at *
  by_cases q : 64 ≤ S
  · have HO : Hid (O = (sg, false)) := by rw [HF.out, if_pos q]; exact rfl
    have hsf := sfrom (sg : Int) (w.alloc (.cells #[.int .u64 (ph : Nat), .int .u64 (pl : Nat), .int .i64 S] 134))
    have bo : bits .or .u64 (sg : Int) 0 = (sg : Int) := by
      have := bits_or_nat sg 0 hs (by decide)
      rwa [Nat.or_zero] at this
    have HB := hidden' (show Below w.heap.size w (w.alloc (.cells #[.int .u64 (ph : Nat), .int .u64 (pl : Nat), .int .i64 S] 134)) from (Below.refl _ _).alloc (Nat.le_refl _) _)
    clear HF HU hs
    go_enter Tryz.func100, Tryz.ntmps100
    go_wp2_with fail
    refine (c1 _).mono ?_
    rintro e w' ⟨rfl, rfl⟩
    go_wp2_with fail
    refine (c2 _).mono ?_
    rintro e w' ⟨rfl, rfl⟩
    go_wp2_with fail
    refine c3.mono ?_
    rintro e w' ⟨rfl, rfl⟩
    go_wp2_with fail
    go_ret2
    rw [HO.out]
    exact ⟨rfl, HB.out⟩
  · have hs64 : S < 64 := by omega
    obtain ⟨sN, hsN⟩ : ∃ sN : Nat, S = (sN : Int) := ⟨S.toNat, by omega⟩
    subst hsN
    have hsn : sN < 64 := by omega
    have hU2 : U = usc (d * 2 ^ (64 - B)) ph pl sN := by have := HU.out; rwa [Int.toNat_natCast] at this
    have HU56 : Hid (U < 2 ^ 56) := by unfold Hid; rw [hU2]; exact usc_lt _ _ _ _ HX.out fh (by omega)
    have W0 : (w.alloc (.cells #[.int .u64 (ph : Nat), .int .u64 (pl : Nat), .int .i64 (sN : Int)] 134)).cell? ⟨w.heap.size, 0, none⟩ = some (.int .u64 (ph : Nat)) := by simp
    have W1 : (w.alloc (.cells #[.int .u64 (ph : Nat), .int .u64 (pl : Nat), .int .i64 (sN : Int)] 134)).cell? ⟨w.heap.size, 1, none⟩ = some (.int .u64 (pl : Nat)) := by simp
    have W2 : (w.alloc (.cells #[.int .u64 (ph : Nat), .int .u64 (pl : Nat), .int .i64 (sN : Int)] 134)).cell? ⟨w.heap.size, 2, none⟩ = some (.int .i64 (sN : Int)) := by simp
    have c4 := uscale_any (d * 2 ^ (64 - B)) ph pl sN w.heap.size _ HX.out fh fl hsn W0 W1 W2
    rw [← hU2] at c4
    have nsh : ((64 : Int) - (B : Int)).toNat = 64 - B := by omega
    have esh : IntKind.u64.wrap ((d : Int) * 2 ^ (64 - B)) = ((d * 2 ^ (64 - B) : Nat) : Int) := by
      have e : (d : Int) * 2 ^ (64 - B) = ((d * 2 ^ (64 - B) : Nat) : Int) := by push_cast; rfl
      rw [e, IntKind.wrap_u64]
      have := HX.out
      omega
    have HB := hidden' (show Below w.heap.size w (w.alloc (.cells #[.int .u64 (ph : Nat), .int .u64 (pl : Nat), .int .i64 (sN : Int)] 134)) from (Below.refl _ _).alloc (Nat.le_refl _) _)
    have c5 := fun w2 => unmin_any 9007199254740992 w2 (by decide) (by decide)
    change ∀ w2, Calls Tryz.prog 112 #[.int .u64 9007199254740992] w2 (fun e w' => e = .returned (.int .u64 36028797018963966) ∧ w' = w2) at c5
    have c6 := fun b w2 => Tryz.internal_strconv_bool2_int b w2
    have q' : ¬ (64 : Int) ≤ (sN : Int) := q
    clear HX hU2 HU q hs64
    generalize d * 2 ^ (64 - B) = X at *
    have hFq := HF.out
    rw [if_neg q'] at hFq
    clear HF
    have u56 := HU56.out
    by_cases qu : 36028797018963966 ≤ U
    · have hR : pfR U = (((U / 2 ||| U % 2) + 1 + (U / 2 ||| U % 2) / 4 % 2) / 4, 1) := by unfold pfR; rw [if_pos qu]
      have hle := pfR_le u56
      rw [hR] at hFq hle
      simp only at hFq hle
      have hV : U / 2 ||| U % 2 < 2 ^ 55 := Nat.or_lt_two_pow (by omega) (by omega)
      have ba : bits .and .u64 (U : Int) 1 = ((U % 2 : Nat) : Int) := bits_and_one U (by omega)
      have bo : bits .or .u64 ((U / 2 : Nat) : Int) ((U % 2 : Nat) : Int) = ((U / 2 ||| U % 2 : Nat) : Int) := bits_or_nat _ _ (by omega) (by omega)
      have qz : (36028797018963966 : Int) ≤ (U : Int) := by omega
      have eh : (U : Int) / 2 = ((U / 2 : Nat) : Int) := by omega
      have em : (U : Int) % 2 = ((U % 2 : Nat) : Int) := by omega
      generalize U / 2 = Uh at *
      generalize U % 2 = Um at *
      generalize Uh ||| Um = V at *
      have c7 := fun w2 => round_any V w2 (by omega)
      generalize (V + 1 + V / 4 % 2) / 4 = R at *
      have bs : bits .or .u64 (sg : Int) (R : Int) = ((sg ||| R : Nat) : Int) := bits_or_nat sg R hs (by omega)
      have hsr : sg ||| R < 18446744073709551616 := Nat.or_lt_two_pow (n := 64) hs (by omega)
      generalize sg ||| R = M at *
      have en : -(E - ((1 : Nat) : Int)) = -(E - 1) := by omega
      rw [en] at hFq
      have c8 := fun w2 => pack_any M (-(E - 1)) w2 hsr (by omega) (by omega)
      rw [← hFq] at c8
      clear hFq hR qu u56
      go_enter Tryz.func100, Tryz.ntmps100
      go_wp2_with fail
      refine (c1 _).mono ?_
      rintro e w' ⟨rfl, rfl⟩
      go_wp2_with fail
      refine (c2 _).mono ?_
      rintro e w' ⟨rfl, rfl⟩
      go_wp2_with fail
      refine c3.mono ?_
      rintro e w' ⟨rfl, rfl⟩
      go_wp2_with fail
      refine c4.mono ?_
      rintro e w' ⟨rfl, nq, rfl⟩
      go_wp2_with fail
      refine (c5 _).mono ?_
      rintro e w' ⟨rfl, rfl⟩
      go_wp2_with fail
      refine (c6 _ _).mono ?_
      rintro e w' ⟨rfl, rfl⟩
      go_wp2_with fail
      refine (c7 _).mono ?_
      rintro e w' ⟨rfl, rfl⟩
      go_wp2_with fail
      refine (c8 _).mono ?_
      rintro e w' ⟨rfl, rfl⟩
      go_wp2_with fail
      go_ret2
      exact ⟨rfl, below_drewN HB.out _⟩
    · have hR : pfR U = ((U + 1 + U / 4 % 2) / 4, 0) := by unfold pfR; rw [if_neg qu]
      have hle := pfR_le u56
      rw [hR] at hFq hle
      simp only at hFq hle
      have ba : bits .and .u64 (U : Int) 1 = ((U % 2 : Nat) : Int) := bits_and_one U (by omega)
      have bo : bits .or .u64 (U : Int) ((U % 2 : Nat) : Int) = (U : Int) := by
        have := bits_or_nat U (U % 2) (by omega) (by omega)
        rwa [or_mod] at this
      have qz : decide ((36028797018963966 : Int) ≤ (U : Int)) = false := by simp; omega
      have u56' := hidden' u56
      have qu' := hidden' qu
      have em : (U : Int) % 2 = ((U % 2 : Nat) : Int) := by omega
      have c7 := fun w2 => round_any U w2 (by omega)
      generalize U % 2 = Um at *
      generalize (U + 1 + U / 4 % 2) / 4 = R at *
      have bs : bits .or .u64 (sg : Int) (R : Int) = ((sg ||| R : Nat) : Int) := bits_or_nat sg R hs (by omega)
      have hsr : sg ||| R < 18446744073709551616 := Nat.or_lt_two_pow (n := 64) hs (by omega)
      generalize sg ||| R = M at *
      have en : -(E - ((0 : Nat) : Int)) = -E := by omega
      rw [en] at hFq
      have c8 := fun w2 => pack_any M (-E) w2 hsr (by omega) (by omega)
      rw [← hFq] at c8
      clear hFq hR qu u56
      go_enter Tryz.func100, Tryz.ntmps100
      go_wp2_with fail
      refine (c1 _).mono ?_
      rintro e w' ⟨rfl, rfl⟩
      go_wp2_with fail
      refine (c2 _).mono ?_
      rintro e w' ⟨rfl, rfl⟩
      go_wp2_with fail
      refine c3.mono ?_
      rintro e w' ⟨rfl, rfl⟩
      go_wp2_with fail
      refine c4.mono ?_
      rintro e w' ⟨rfl, nq, rfl⟩
      go_wp2_with fail
      refine (c5 _).mono ?_
      rintro e w' ⟨rfl, rfl⟩
      go_wp2_with fail
      refine (c6 _ _).mono ?_
      rintro e w' ⟨rfl, rfl⟩
      go_wp2_with fail
      refine (c7 _).mono ?_
      rintro e w' ⟨rfl, rfl⟩
      go_wp2_with fail
      refine (c8 _).mono ?_
      rintro e w' ⟨rfl, rfl⟩
      go_wp2_with fail
      go_ret2
      exact ⟨rfl, below_drewN HB.out _⟩
end Go.Proofs.PlatenFigure
