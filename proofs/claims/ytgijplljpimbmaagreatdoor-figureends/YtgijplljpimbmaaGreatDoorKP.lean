/- What strconv.ParseFloat comes to, where atof64 answers, with or without an error of the range; infinities. -/
import Derived.Test.YtgijplljpimbmaaGreatDoorFgXh
import Derived.Test.YtgijplljpimbmaaGreatDoorFgXg
import Derived.Test.YtgijplljpimbmaaGreatDoorFgXf
namespace Go.Proofs.PlatenFigure
open Go.RowKit
set_option linter.unusedVariables false
set_option linter.unusedSimpArgs false
set_option maxRecDepth 20000

theorem af_of {s : ByteArray} {x : Nat} (h : AFe s x false) : AF s x := h
theorem prefixf_er (s : ByteArray) (x : Nat) (h : AFe s x true) (w : World) (hL : Lay w) :
    Calls Tryz.prog 56 #[.string s, .int .i64 64] w fun e w' => e = .returned (.tuple #[.float .f64 x, .int .i64 s.size, .iface 64 (.int .i64 1)]) ∧ Below w.heap.size w w' := by
  have c1 := h w hL
  rw [show erV true = .iface 64 (.int .i64 1) from rfl] at c1
  clear hL h
  go_enter Tryz.func56, Tryz.ntmps56
  go_wp2_with fail
  refine c1.mono ?_
  rintro e w' ⟨rfl, hb⟩
  have HB := hidden hb
  clear hb
  go_wp2_with fail
  go_ret3
  exact ⟨rfl, HB.out⟩
theorem iparse_er (s : ByteArray) (x : Nat) (h : AFe s x true) (w : World) (hL : Lay w) :
    Calls Tryz.prog 50 #[.string s, .int .i64 64] w fun e w' => e = .returned (.tuple #[.float .f64 x, .iface 64 (.int .i64 1)]) ∧ Below w.heap.size w w' := by
  have c1 := prefixf_er s x h w hL
  clear hL h
  go_enter Tryz.func50, Tryz.ntmps50
  go_wp2_with fail
  refine c1.mono ?_
  rintro e w' ⟨rfl, hb⟩
  have HB := hidden hb
  clear hb
  go_wp2_with fail
  go_ret2
  exact ⟨rfl, HB.out⟩
theorem parse_er (s : ByteArray) (x : Nat) (hs : s.size ≤ 1000) (h : AFe s x true) : PF s x := by
  intro w hL
  have c1 := iparse_er s x h w hL
  obtain ⟨te, pe, he⟩ := hL.tabs.er
  clear hL h
  go_enter Tryz.func39, Tryz.ntmps39
  go_wp2_with fail
  refine c1.mono ?_
  rintro e w' ⟨rfl, hb⟩
  have he' := (hb.cell (World.block_lt_of_cell? _ _ he)).trans he
  have c2 := Tryz.strconv_toError_range ⟨#[80, 97, 114, 115, 101, 70, 108, 111, 97, 116]⟩ s 0 64 _ w' (by omega) he' (Or.inr ⟨te, pe, rfl⟩)
  have HB := hidden hb
  clear hb he' he c1
  go_wp2_with fail
  refine c2.mono ?_
  rintro e w2 ⟨N, rfl, _, _, hb2⟩
  have HB2 := hidden (HB.out.trans (hb2.mono HB.out.size))
  clear hb2 c2
  go_wp2_with fail
  go_ret2
  exact ⟨⟨_, rfl⟩, HB2.out⟩
theorem pf_of (s : ByteArray) (x : Nat) (b : Bool) (hs : s.size ≤ 1000) (h : AFe s x b) : PF s x := by
  cases b with
  | false => exact parse_any s x (af_of h)
  | true => exact parse_er s x hs h

/-! Infinities. -/
theorem inf_pos (w : World) : Calls Tryz.prog 123 #[.int .i64 1] w fun e w' => e = .returned (.float .f64 9218868437227405312) ∧ w' = w := by
  have s0 := sfrom 9218868437227405312 w
  go_enter Tryz.func123, Tryz.ntmps123
  go_wp2_with fail
  go_ret
  exact ⟨rfl, rfl⟩
theorem inf_neg (w : World) : Calls Tryz.prog 123 #[.int .i64 (-1)] w fun e w' => e = .returned (.float .f64 18442240474082181120) ∧ w' = w := by
  have s1 := sfrom 18442240474082181120 w
  go_enter Tryz.func123, Tryz.ntmps123
  go_wp2_with fail
  go_ret
  exact ⟨rfl, rfl⟩
def infP : ByteArray := ⟨#[43, 105, 110, 102]⟩
def infM : ByteArray := ⟨#[45, 105, 110, 102]⟩
/-- special takes all of it. -/
def Sp (s : ByteArray) (x : Nat) : Prop := ∀ w, Calls Tryz.prog 88 #[.string s] w fun e w' => e = .returned (.tuple #[.float .f64 x, .int .i64 s.size, .bool true]) ∧ w' = w
set_option maxHeartbeats 2000000 in
theorem sp_inf : Sp infS 9218868437227405312 := by
  intro w
  have c1 := cpl_inf w
  have c2 := inf_pos w
  have e0 : ((⟨#[105, 110, 102]⟩ : ByteArray)[0]'(by decide)).toNat = 105 := rfl
  unfold infS at *
  go_enter Tryz.func88, Tryz.ntmps88
  go_wp2_with fail
  refine c1.mono ?_
  rintro e w' ⟨rfl, rfl⟩
  go_wp2_with fail
  refine c2.mono ?_
  rintro e w' ⟨rfl, rfl⟩
  go_wp2_with fail
  go_ret3
  exact ⟨rfl, rfl⟩
set_option maxHeartbeats 2000000 in
theorem sp_infP : Sp infP 9218868437227405312 := by
  intro w
  have c1 := cpl_inf w
  have c2 := inf_pos w
  have e0 : ((⟨#[43, 105, 110, 102]⟩ : ByteArray)[0]'(by decide)).toNat = 43 := rfl
  have e1 : ((⟨#[43, 105, 110, 102]⟩ : ByteArray).extract 1 4) = infS := by decide
  unfold infP
  go_enter Tryz.func88, Tryz.ntmps88
  go_wp2_with fail
  refine c1.mono ?_
  rintro e w' ⟨rfl, rfl⟩
  go_wp2_with fail
  refine c2.mono ?_
  rintro e w' ⟨rfl, rfl⟩
  go_wp2_with fail
  go_ret3
  exact ⟨rfl, rfl⟩
set_option maxHeartbeats 2000000 in
theorem sp_infM : Sp infM 18442240474082181120 := by
  intro w
  have c1 := cpl_inf w
  have c2 := inf_neg w
  have e0 : ((⟨#[45, 105, 110, 102]⟩ : ByteArray)[0]'(by decide)).toNat = 45 := rfl
  have e1 : ((⟨#[45, 105, 110, 102]⟩ : ByteArray).extract 1 4) = infS := by decide
  unfold infM
  go_enter Tryz.func88, Tryz.ntmps88
  go_wp2_with fail
  refine c1.mono ?_
  rintro e w' ⟨rfl, rfl⟩
  go_wp2_with fail
  refine c2.mono ?_
  rintro e w' ⟨rfl, rfl⟩
  go_wp2_with fail
  go_ret3
  exact ⟨rfl, rfl⟩
theorem at_sp (s : ByteArray) (x : Nat) (h : Sp s x) : AFe s x false := by
  intro w hL
  have c1 := h w
  clear hL h
  go_enter Tryz.func68, Tryz.ntmps68
  go_wp2_with fail
  refine c1.mono ?_
  rintro e w' ⟨rfl, rfl⟩
  go_wp2_with fail
  go_ret3
  exact ⟨rfl, Below.refl _ _⟩
end Go.Proofs.PlatenFigure

/- A sign ahead turns just the last bit of what is read about. -/
namespace Go.Proofs.PlatenFigure
open Go.RowKit Ieee
set_option linter.unusedVariables false
set_option linter.unusedSimpArgs false

theorem tb63 (i : Nat) : (9223372036854775808 : Nat).testBit i = decide (i = 63) := by
  have := Nat.testBit_two_pow (n := 63) (m := i)
  rw [show (2 : Nat) ^ 63 = 9223372036854775808 from rfl] at this
  rw [this]
  exact decide_eq_decide.2 eq_comm
theorem low63 {x : Nat} (h : x < 9223372036854775808) : x.testBit 63 = false := Nat.testBit_lt_two_pow h
theorem or_xor {x : Nat} (h : x < 9223372036854775808) : 9223372036854775808 ||| x = x ^^^ 9223372036854775808 := by
  apply Nat.eq_of_testBit_eq
  intro i
  rw [Nat.testBit_or, Nat.testBit_xor, tb63]
  by_cases q : i = 63
  · subst q; rw [low63 h]; rfl
  · simp [q]
theorem or_add {x : Nat} (h : x < 9223372036854775808) : 9223372036854775808 ||| x = 9223372036854775808 + x := by
  have := Nat.two_pow_add_eq_or_of_lt (i := 63) h 1
  rw [Nat.mul_one] at this
  exact this.symm
theorem neg_low {x : Nat} (h : x < 9223372036854775808) : negF x = 9223372036854775808 + x := by
  unfold negF; rw [← or_xor h, or_add h]
theorem neg_neg' (x : Nat) : negF (negF x) = x := by
  unfold negF; rw [Nat.xor_assoc, Nat.xor_self, Nat.xor_zero]
theorem xor_neg (x : Nat) : x ^^^ negF x = 9223372036854775808 := by
  unfold negF; rw [← Nat.xor_assoc, Nat.xor_self, Nat.zero_xor]
theorem read_opp (x : Nat) (hx : x < 18446744073709551616) : Ieee.double.read (negF x) = (Ieee.double.read x).opposite := by
  have e1 : negF x % 2 ^ 63 = x % 2 ^ 63 := by
    unfold negF; rw [Nat.xor_mod_two_pow]; simp
  have e2 : (negF x / 2 ^ 63 % 2 == 1) = !(x / 2 ^ 63 % 2 == 1) := by
    rcases Nat.lt_or_ge x 9223372036854775808 with h | h
    · rw [neg_low h]
      rw [show (9223372036854775808 + x) / 2 ^ 63 % 2 = 1 by omega, show x / 2 ^ 63 % 2 = 0 by omega]
      rfl
    · have : negF x = x - 9223372036854775808 := by
        have h2 := neg_low (x := x - 9223372036854775808) (by omega)
        rw [show 9223372036854775808 + (x - 9223372036854775808) = x by omega] at h2
        have h3 := congrArg negF h2
        rw [neg_neg'] at h3
        exact h3.symm
      rw [this]
      rw [show (x - 9223372036854775808) / 2 ^ 63 % 2 = 0 by omega, show x / 2 ^ 63 % 2 = 1 by omega]
      rfl
  unfold Format.read
  simp only [sign_weight, binade_is, inf_rung]
  rw [e1, e2]
  generalize x % 2 ^ 63 = r
  split
  · rfl
  · split
    · rfl
    · split <;> rfl
theorem word_neg (s : Bool) (r : Nat) (h : r < 9223372036854775808) : Ieee.double.word (!s) r = negF (Ieee.double.word s r) := by
  unfold Format.word
  rw [sign_weight]
  cases s
  · simp only [Bool.not_false, if_true, Bool.false_eq_true, if_false]
    rw [neg_low h]
  · simp only [Bool.not_true, if_true, Bool.false_eq_true, if_false]
    rw [show (2 : Nat) ^ 63 + r = negF r from (neg_low h).symm, neg_neg']
theorem write_neg (d : Datum) (h : d.isNaN = false) : Ieee.double.write d.opposite = negF (Ieee.double.write d) := by
  cases d with
  | nan s t => simp [Datum.isNaN] at h
  | infinity s => exact word_neg s _ (by rw [inf_rung]; decide)
  | number s m i =>
    show Ieee.double.nearest (!s) m i = negF (Ieee.double.nearest s m i)
    unfold Format.nearest
    split
    · exact word_neg s 0 (by decide)
    · exact word_neg s _ (Nat.lt_of_le_of_lt (Nat.min_le_right _ _) (by rw [inf_rung]; decide))
theorem mul_neg {x y : Nat} (hx : Fw x) (hy : Nz y) : mulF (negF x) y = negF (mulF x y) := by
  have h1 := (mul_fin hx hy).1
  have h2 := (mul_fin (neg_fin hx) hy).1
  obtain ⟨s, m, i, hr, hm⟩ := hy
  have e1 : floatBits .mul .f64 x y = ((Ieee.double.read x).product (Ieee.double.read y)).map Ieee.double.write := rfl
  have e2 : floatBits .mul .f64 (negF x) y = ((Ieee.double.read (negF x)).product (Ieee.double.read y)).map Ieee.double.write := rfl
  rw [read_opp x hx.1] at e2
  rw [hr] at e1 e2
  have hn := hx.2
  cases hd : Ieee.double.read x with
  | nan a b => rw [hd] at hn; simp [Datum.isNaN] at hn
  | infinity a =>
    rw [hd] at e1 e2
    simp only [Datum.opposite, Datum.product, hm, if_false, Option.map_some] at e1 e2
    rw [h1] at e1
    rw [h2] at e2
    rw [Option.some.inj e1, Option.some.inj e2, show ((!a) ^^ s) = !(a ^^ s) by cases a <;> cases s <;> rfl]
    exact write_neg (.infinity (a ^^ s)) rfl
  | number a b c =>
    rw [hd] at e1 e2
    simp only [Datum.opposite, Datum.product, Option.map_some] at e1 e2
    rw [h1] at e1
    rw [h2] at e2
    rw [Option.some.inj e1, Option.some.inj e2, show ((!a) ^^ s) = !(a ^^ s) by cases a <;> cases s <;> rfl]
    exact write_neg (.number (a ^^ s) _ _) rfl
theorem div_neg {x y : Nat} (hx : Fw x) (hy : Nz y) : divF (negF x) y = negF (divF x y) := by
  have h1 := (div_fin hx hy).1
  have h2 := (div_fin (neg_fin hx) hy).1
  obtain ⟨s, m, i, hr, hm⟩ := hy
  have e1 : floatBits .quo .f64 x y = ((Ieee.double.read x).quotient 54 (Ieee.double.read y)).map Ieee.double.write := rfl
  have e2 : floatBits .quo .f64 (negF x) y = ((Ieee.double.read (negF x)).quotient 54 (Ieee.double.read y)).map Ieee.double.write := rfl
  rw [read_opp x hx.1] at e2
  rw [hr] at e1 e2
  have hn := hx.2
  cases hd : Ieee.double.read x with
  | nan a b => rw [hd] at hn; simp [Datum.isNaN] at hn
  | infinity a =>
    rw [hd] at e1 e2
    simp only [Datum.opposite, Datum.quotient, Option.map_some] at e1 e2
    rw [h1] at e1
    rw [h2] at e2
    rw [Option.some.inj e1, Option.some.inj e2, show ((!a) ^^ s) = !(a ^^ s) by cases a <;> cases s <;> rfl]
    exact write_neg (.infinity (a ^^ s)) rfl
  | number a b c =>
    rw [hd] at e1 e2
    simp only [Datum.opposite, Datum.quotient, if_neg hm, Option.map_some] at e1 e2
    rw [h1] at e1
    rw [h2] at e2
    rw [Option.some.inj e1, Option.some.inj e2, show ((!a) ^^ s) = !(a ^^ s) by cases a <;> cases s <;> rfl]
    exact write_neg (.number (a ^^ s) _ _) rfl
theorem cmp_gt (a b : Int) : (compare a b = .gt) ↔ b < a := by
  show compareOfLessAndEq a b = .gt ↔ b < a
  unfold compareOfLessAndEq
  split
  · simp; omega
  · split
    · simp; omega
    · simp; omega
theorem signed_neg (s : Bool) (m u : Nat) : signed (!s) m u = -signed s m u := by
  unfold signed; cases s <;> simp
theorem gt_neg (x : Nat) (hx : Fw x) : gtB (negF x) = ltB x ∧ ltB (negF x) = gtB x := by
  have r1 : Ieee.double.read 4831355200913801216 = .number false 8000000000000000 (-3) := by decide +kernel
  have r2 : Ieee.double.read 14054727237768577024 = .number true 8000000000000000 (-3) := by decide +kernel
  have key : ∀ d : Datum, d.isNaN = false → ((d.opposite.order (.number false 8000000000000000 (-3)) == some .gt) = (d.order (.number true 8000000000000000 (-3)) == some .lt)) ∧
      ((d.opposite.order (.number true 8000000000000000 (-3)) == some .lt) = (d.order (.number false 8000000000000000 (-3)) == some .gt)) := by
    intro d hd
    cases d with
    | nan a b => simp [Datum.isNaN] at hd
    | infinity a => cases a <;> exact ⟨rfl, rfl⟩
    | number a b c =>
      simp only [Datum.opposite, Datum.order]
      rw [signed_neg, show (true : Bool) = !false from rfl, signed_neg false]
      generalize signed a b (c - min c (-3)).toNat = u
      generalize signed false 8000000000000000 (-3 - min c (-3)).toNat = v
      constructor
      · rw [Bool.eq_iff_iff]
        simp only [beq_iff_eq, Option.some.injEq, cmp_gt, cmp_lt]
        omega
      · rw [Bool.eq_iff_iff]
        simp only [beq_iff_eq, Option.some.injEq, cmp_gt, cmp_lt]
        omega
  have k := key (Ieee.double.read x) hx.2
  constructor
  · show ((Ieee.double.read (negF x)).order (Ieee.double.read 4831355200913801216) == some .gt) = ((Ieee.double.read x).order (Ieee.double.read 14054727237768577024) == some .lt)
    rw [read_opp x hx.1, r1, r2]
    exact k.1
  · show ((Ieee.double.read (negF x)).order (Ieee.double.read 14054727237768577024) == some .lt) = ((Ieee.double.read x).order (Ieee.double.read 4831355200913801216) == some .gt)
    rw [read_opp x hx.1, r1, r2]
    exact k.2
theorem xact_sign (m : Nat) (p : Int) : xact m p true = (xact m p false).map negF := by
  have hF := sg_fw m false
  have hs : sgF m true = negF (sgF m false) := by simp only [sgF, if_true, Bool.false_eq_true, if_false]
  unfold xact
  rw [hs]
  generalize sgF m false = F at *
  by_cases q0 : 4503599627370496 ≤ m
  · rw [if_pos q0, if_pos q0, Option.map_none]
  rw [if_neg q0, if_neg q0]
  by_cases q1 : p = 0
  · rw [if_pos q1, if_pos q1, Option.map_some]
  rw [if_neg q1, if_neg q1]
  by_cases q2 : 0 < p ∧ p ≤ 37
  · rw [if_pos q2, if_pos q2]
    simp only
    have hf1 : (if 22 < p then mulF (negF F) (t10.getD (p - 22).toNat 0) else negF F) = negF (if 22 < p then mulF F (t10.getD (p - 22).toNat 0) else F) := by
      split
      · exact mul_neg hF (t10_nz _ (by omega))
      · rfl
    have hw : Fw (if 22 < p then mulF F (t10.getD (p - 22).toNat 0) else F) := by
      split
      · exact (mul_fin hF (t10_nz _ (by omega))).2
      · exact hF
    rw [hf1]
    generalize (if 22 < p then mulF F (t10.getD (p - 22).toNat 0) else F) = f1 at *
    rw [(gt_neg f1 hw).1, (gt_neg f1 hw).2]
    by_cases q3 : gtB f1 = true ∨ ltB f1 = true
    · rw [if_pos (q3.symm), if_pos q3, Option.map_none]
    · rw [if_neg (fun e => q3 e.symm), if_neg q3, mul_neg hw (t10_nz _ (by omega)), Option.map_some]
  rw [if_neg q2, if_neg q2]
  by_cases q3 : p < 0 ∧ -22 ≤ p
  · rw [if_pos q3, if_pos q3, div_neg hF (t10_nz _ (by omega)), Option.map_some]
  · rw [if_neg q3, if_neg q3, Option.map_none]
theorem pk_sign (r : Nat) (e : Int) (hr : r ≤ 9007199254740992) (he : e ≤ 2000) : (pkF (9223372036854775808 ||| r) e).1 = 9223372036854775808 ||| (pkF r e).1 ∧ (pkF r e).1 < 9223372036854775808 := by
  have a1 : (9223372036854775808 ||| r) &&& 4503599627370496 = r &&& 4503599627370496 := by
    rw [Nat.and_or_distrib_right, show 9223372036854775808 &&& 4503599627370496 = 0 by decide, Nat.zero_or]
  have a2 : (9223372036854775808 ||| r) &&& 9223372036854775808 = 9223372036854775808 ∧ r &&& 9223372036854775808 = 0 := by
    have h0 : r &&& 9223372036854775808 = 0 := by
      apply Nat.eq_of_testBit_eq
      intro i
      rw [Nat.testBit_and, tb63, Nat.zero_testBit]
      by_cases q : i = 63
      · subst q; rw [low63 (by omega)]; rfl
      · simp [q]
    refine ⟨?_, h0⟩
    rw [Nat.and_or_distrib_right, h0, Nat.and_self, Nat.or_zero]
  have a3 : (9223372036854775808 ||| r) &&& 18442240474082181119 = 9223372036854775808 ||| (r &&& 18442240474082181119) := by
    rw [Nat.and_or_distrib_right, show 9223372036854775808 &&& 18442240474082181119 = 9223372036854775808 by decide]
  unfold pkF
  rw [a1]
  split
  · exact ⟨rfl, by simp only; omega⟩
  · split
    · rw [a2.1, a2.2, Nat.zero_or]
      exact ⟨rfl, by decide⟩
    · rw [a3, Nat.or_assoc]
      refine ⟨rfl, Nat.or_lt_two_pow (n := 63) (Nat.lt_of_le_of_lt Nat.and_le_left (by omega)) ?_⟩
      rename_i h
      omega
theorem pf_sign (d : Nat) (p : Int) (h0 : 0 < d) (hd : d < 18446744073709551616) (h1 : -345 ≤ p) (h2 : p ≤ 310) : (pfF d p 0).1 ^^^ (pfF d p 9223372036854775808).1 = 9223372036854775808 := by
  unfold pfF
  split
  · rfl
  · rename_i hS
    obtain ⟨b1, b2, b3⟩ := bl_pos h0 hd
    have hS8 : 8 ≤ (pfS d p).toNat := by
      unfold pfS pfE at *
      generalize p * 108853 / 32768 = lp at *
      omega
    have hu := usc_lt (d * 2 ^ (64 - Lib.bitLen d)) (pHi (p + 348).toNat) (pLo (p + 348).toNat) (pfS d p).toNat b3 (p_fit _).1 hS8
    have hr := pfR_le (u := pfU d p) hu
    have hE : -(pfE d p - ((pfR (pfU d p)).2 : Int)) ≤ 2000 := by
      have hlp : -1147 ≤ p * 108853 / 32768 ∧ p * 108853 / 32768 ≤ 1029 := by omega
      have hR : (pfR (pfU d p)).2 ≤ 1 := by unfold pfR; split <;> simp
      unfold pfE
      omega
    obtain ⟨k1, k2⟩ := pk_sign _ _ hr hE
    rw [k1, Nat.zero_or, or_xor k2]
    exact xor_neg _
theorem at_sign (m : Nat) (p : Int) (hm : m < 10000000000000000000) : ∃ x b y c, atF m p false false = some (x, b) ∧ atF m p true false = some (y, c) ∧ x ^^^ y = 9223372036854775808 := by
  unfold atF
  split
  · exact ⟨_, _, _, _, rfl, rfl, by decide⟩
  split
  · exact ⟨_, _, _, _, rfl, rfl, by decide⟩
  split
  · exact ⟨_, _, _, _, rfl, rfl, by decide⟩
  rw [if_pos rfl, if_pos rfl, xact_sign]
  cases hx : xact m p false with
  | some r => exact ⟨_, _, _, _, rfl, rfl, xor_neg r⟩
  | none =>
    refine ⟨(pfF m p 0).1, (pfF m p 0).2, (pfF m p 9223372036854775808).1, (pfF m p 9223372036854775808).2, rfl, rfl, pf_sign m p (by omega) (by omega) (by omega) (by omega)⟩
end Go.Proofs.PlatenFigure
