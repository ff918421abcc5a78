/- What strconv.atof64 comes to where its fast ways answer. -/
import Derived.Test.YtgijplljpimbmaaGreatDoorKO
import Derived.Test.YtgijplljpimbmaaGreatDoorFgRg
namespace Go.Proofs.PlatenFigure
open Go.RowKit
set_option linter.unusedVariables false
set_option linter.unusedSimpArgs false
set_option maxRecDepth 20000

def sgW (neg : Bool) : Nat := if neg then 9223372036854775808 else 0
def eqF (x y : Nat) : Bool := FloatKind.f64.format.order x y == some .eq
/-- What the fast ways answer, where one does; is it too great? -/
def atF (m : Nat) (p : Int) (neg tr : Bool) : Option (Nat × Bool) :=
  if m = 0 then some (sgW neg, false)
  else if 310 < p then some (sgW neg ||| 9218868437227405312, true)
  else if p < -345 then some (sgW neg, false)
  else if tr = false then
    (match xact m p neg with
     | some r => some (r, false)
     | none => some (pfF m p (sgW neg)))
  else if eqF (pfF m p (sgW neg)).1 (pfF (m + 1) p (sgW neg)).1 = true then some (pfF m p (sgW neg)) else none
/-- atof64 answers x for the whole text; is it too great? -/
def AFe (s : ByteArray) (x : Nat) (b : Bool) : Prop := ∀ w, Lay w → Calls Tryz.prog 68 #[.string s] w fun e w' => e = .returned (.tuple #[.float .f64 x, .int .i64 s.size, erV b]) ∧ Below w.heap.size w w'
/-- special takes nothing of it. -/
def NoSp (s : ByteArray) : Prop := ∀ w, Calls Tryz.prog 88 #[.string s] w fun e w' => e = .returned (.tuple #[.float .f64 0, .int .i64 0, .bool false]) ∧ w' = w
/-- readFloat takes all of it. -/
def RdF (s : ByteArray) (m : Nat) (p : Int) (neg tr : Bool) : Prop := ∀ w, Calls Tryz.prog 89 #[.string s] w fun e w' => e = .returned (.tuple #[.int .u64 (m : Nat), .int .i64 p, .bool neg, .bool tr, .bool false, .int .i64 (s.size : Nat), .bool true]) ∧ w' = w
theorem or_zero (sg : Nat) (h : sg < 18446744073709551616) : bits .or .u64 (sg : Int) 0 = (sg : Int) := by
  have := bits_or_nat sg 0 h (by decide)
  rwa [Nat.or_zero] at this

set_option maxHeartbeats 4000000 in
theorem at_zero (s : ByteArray) (m : Nat) (p : Int) (neg tr : Bool) (hs : s.size ≤ 100) (hm : m < 10000000000000000000) (h1 : NoSp s) (h2 : RdF s m p neg tr) (h : m = 0) : AFe s (sgW neg) false := by
  intro w hL
  have c1 := h1 w
  have c2 := h2 w
  have c3 := bool2u_any neg w
  have ho := hL.opt
  have HL := hidden' hL
  clear hL h1 h2
  subst h
  have s0 := sfrom 0 w
  have s1 := sfrom 9223372036854775808 w
  have o1 : bits .or .u64 9223372036854775808 0 = 9223372036854775808 := or_zero 9223372036854775808 (by decide)
  have o0 : bits .or .u64 0 0 = 0 := or_zero 0 (by decide)
  cases neg
  all_goals
    simp only [sgW, Bool.false_eq_true, if_false, if_true] at *
    go_enter Tryz.func68, Tryz.ntmps68
    go_wp2_with fail
    refine c1.mono ?_
    rintro e w' ⟨rfl, rfl⟩
    go_wp2_with fail
    refine c2.mono ?_
    rintro e w' ⟨rfl, rfl⟩
    go_wp2_with fail
    refine c3.mono ?_
    rintro e w' ⟨rfl, rfl⟩
    go_wp2_with fail
    go_ret3
    exact ⟨rfl, Below.refl _ _⟩

set_option maxHeartbeats 4000000 in
theorem at_great (s : ByteArray) (m : Nat) (p : Int) (neg tr : Bool) (hs : s.size ≤ 100) (hm : m < 10000000000000000000) (h1 : NoSp s) (h2 : RdF s m p neg tr) (h : m ≠ 0) (hp : 310 < p) : AFe s (sgW neg ||| 9218868437227405312) true := by
  intro w hL
  have c1 := h1 w
  have c2 := h2 w
  have c3 := bool2u_any neg w
  have ho := hL.opt
  have HL := hidden' hL
  clear hL h1 h2
  have zm : ((m : Int) == 0) = false := by simp; omega
  have s0 := sfrom 9218868437227405312 w
  have s1 := sfrom 18442240474082181120 w
  have o1 : bits .or .u64 9223372036854775808 9218868437227405312 = 18442240474082181120 := by decide
  have o0 : bits .or .u64 0 9218868437227405312 = 9218868437227405312 := by decide
  cases neg
  all_goals
    simp only [sgW, Bool.false_eq_true, if_false, if_true] at *
    go_enter Tryz.func68, Tryz.ntmps68
    go_wp2_with fail
    refine c1.mono ?_
    rintro e w' ⟨rfl, rfl⟩
    go_wp2_with fail
    refine c2.mono ?_
    rintro e w' ⟨rfl, rfl⟩
    go_wp2_with fail
    refine c3.mono ?_
    rintro e w' ⟨rfl, rfl⟩
    go_wp2_with fail
    go_ret3
    exact ⟨rfl, Below.refl _ _⟩

set_option maxHeartbeats 4000000 in
theorem at_small (s : ByteArray) (m : Nat) (p : Int) (neg tr : Bool) (hs : s.size ≤ 100) (hm : m < 10000000000000000000) (h1 : NoSp s) (h2 : RdF s m p neg tr) (h : m ≠ 0) (hp : p < -345) : AFe s (sgW neg) false := by
  intro w hL
  have c1 := h1 w
  have c2 := h2 w
  have c3 := bool2u_any neg w
  have ho := hL.opt
  have HL := hidden' hL
  clear hL h1 h2
  have zm : ((m : Int) == 0) = false := by simp; omega
  have hp2 : ¬ (310 : Int) < p := by omega
  have s0 := sfrom 0 w
  have s1 := sfrom 9223372036854775808 w
  have o1 : bits .or .u64 9223372036854775808 0 = 9223372036854775808 := or_zero 9223372036854775808 (by decide)
  have o0 : bits .or .u64 0 0 = 0 := or_zero 0 (by decide)
  cases neg
  all_goals
    simp only [sgW, Bool.false_eq_true, if_false, if_true] at *
    go_enter Tryz.func68, Tryz.ntmps68
    go_wp2_with fail
    refine c1.mono ?_
    rintro e w' ⟨rfl, rfl⟩
    go_wp2_with fail
    refine c2.mono ?_
    rintro e w' ⟨rfl, rfl⟩
    go_wp2_with fail
    refine c3.mono ?_
    rintro e w' ⟨rfl, rfl⟩
    go_wp2_with fail
    go_ret3
    exact ⟨rfl, Below.refl _ _⟩

set_option maxHeartbeats 4000000 in
theorem at_exact (s : ByteArray) (m : Nat) (p : Int) (neg tr : Bool) (hs : s.size ≤ 100) (hm : m < 10000000000000000000) (h1 : NoSp s) (h2 : RdF s m p neg tr) (h : m ≠ 0) (hp : p ≤ 310) (hp2 : -345 ≤ p) (htr : tr = false) (x : Nat) (hx : xact m p neg = some x) : AFe s x false := by
  intro w hL
  have c1 := h1 w
  have c2 := h2 w
  have c3 := bool2u_any neg w
  have ho := hL.opt
  have HL := hidden' hL
  clear hL h1 h2
  have zm : ((m : Int) == 0) = false := by simp; omega
  have hp3 : ¬ (310 : Int) < p := by omega
  have hp4 : ¬ p < -345 := by omega
  subst htr
  have c4 := xact_any m p neg w HL.out (by omega)
  rw [hx] at c4
  clear hx
  cases neg
  all_goals
    simp only [sgW, Bool.false_eq_true, if_false, if_true] at *
    go_enter Tryz.func68, Tryz.ntmps68
    go_wp2_with fail
    refine c1.mono ?_
    rintro e w' ⟨rfl, rfl⟩
    go_wp2_with fail
    refine c2.mono ?_
    rintro e w' ⟨rfl, rfl⟩
    go_wp2_with fail
    refine c3.mono ?_
    rintro e w' ⟨rfl, rfl⟩
    go_wp2_with fail
    refine c4.mono ?_
    rintro e w' ⟨rfl, hh⟩
    rcases hh with ⟨r, hr, _, rfl⟩ | ⟨hr, _⟩
    · obtain rfl := Option.some.inj hr
      go_wp2_with fail
      go_ret3
      exact ⟨rfl, Below.refl _ _⟩
    · cases hr

set_option maxHeartbeats 4000000 in
theorem at_parse (s : ByteArray) (m : Nat) (p : Int) (neg tr : Bool) (hs : s.size ≤ 100) (hm : m < 10000000000000000000) (h1 : NoSp s) (h2 : RdF s m p neg tr) (h : m ≠ 0) (hp : p ≤ 310) (hp2 : -345 ≤ p) (htr : tr = false) (hx : xact m p neg = none) : AFe s (pfF m p (sgW neg)).1 (pfF m p (sgW neg)).2 := by
  intro w hL
  have c1 := h1 w
  have c2 := h2 w
  have c3 := bool2u_any neg w
  have ho := hL.opt
  have HL := hidden' hL
  clear hL h1 h2
  have zm : ((m : Int) == 0) = false := by simp; omega
  have hp3 : ¬ (310 : Int) < p := by omega
  have hp4 : ¬ p < -345 := by omega
  subst htr
  have c4 := xact_any m p neg w HL.out (by omega)
  rw [hx] at c4
  have c5 := parse64_any m p (sgW neg) w HL.out (by omega) (by omega) hp2 hp (by cases neg <;> decide)
  clear hx
  cases neg
  all_goals
    simp only [sgW, Bool.false_eq_true, if_false, if_true] at *
    go_enter Tryz.func68, Tryz.ntmps68
    go_wp2_with fail
    refine c1.mono ?_
    rintro e w' ⟨rfl, rfl⟩
    go_wp2_with fail
    refine c2.mono ?_
    rintro e w' ⟨rfl, rfl⟩
    go_wp2_with fail
    refine c3.mono ?_
    rintro e w' ⟨rfl, rfl⟩
    go_wp2_with fail
    refine c4.mono ?_
    rintro e w' ⟨rfl, hh⟩
    rcases hh with ⟨r, hr, _, rfl⟩ | ⟨hr, r, rfl⟩
    · cases hr
    · go_wp2_with fail
      refine c5.mono ?_
      rintro e w5 ⟨rfl, hb⟩
      have HB := hidden' hb
      clear hb c4 c5
      go_wp2_with fail
      go_ret3
      exact ⟨rfl, HB.out⟩

set_option maxHeartbeats 4000000 in
theorem at_cut (s : ByteArray) (m : Nat) (p : Int) (neg tr : Bool) (hs : s.size ≤ 100) (hm : m < 10000000000000000000) (h1 : NoSp s) (h2 : RdF s m p neg tr) (h : m ≠ 0) (hp : p ≤ 310) (hp2 : -345 ≤ p) (htr : tr = true) (hx : eqF (pfF m p (sgW neg)).1 (pfF (m + 1) p (sgW neg)).1 = true) : AFe s (pfF m p (sgW neg)).1 (pfF m p (sgW neg)).2 := by
  intro w hL
  have c1 := h1 w
  have c2 := h2 w
  have c3 := bool2u_any neg w
  have ho := hL.opt
  have HL := hidden' hL
  clear hL h1 h2
  have zm : ((m : Int) == 0) = false := by simp; omega
  have hp3 : ¬ (310 : Int) < p := by omega
  have hp4 : ¬ p < -345 := by omega
  subst htr
  have c5 := parse64_any m p (sgW neg) w HL.out (by omega) (by omega) hp2 hp (by cases neg <;> decide)
  have c6 := fun (w2 : World) (h : Lay w2) => parse64_any (m + 1) p (sgW neg) w2 h (by omega) (by omega) hp2 hp (by cases neg <;> decide)
  have hx2 : (FloatKind.f64.format.order (pfF m p (sgW neg)).1 (pfF (m + 1) p (sgW neg)).1 == some .eq) = true := hx
  have hw1 : IntKind.u64.wrap ((m : Int) + 1) = ((m + 1 : Nat) : Int) := by rw [IntKind.wrap_u64]; omega
  clear hx
  unfold PfP at c5 c6
  generalize (pfF (m + 1) p (sgW neg)).1 = x2 at *
  generalize (pfF (m + 1) p (sgW neg)).2 = b2 at *
  generalize (pfF m p (sgW neg)).1 = x at *
  generalize (pfF m p (sgW neg)).2 = b at *
  generalize m + 1 = m1 at *
  cases neg
  all_goals
    simp only [sgW, Bool.false_eq_true, if_false, if_true] at *
    go_enter Tryz.func68, Tryz.ntmps68
    go_wp2_with fail
    refine c1.mono ?_
    rintro e w' ⟨rfl, rfl⟩
    go_wp2_with fail
    refine c2.mono ?_
    rintro e w' ⟨rfl, rfl⟩
    go_wp2_with fail
    refine c3.mono ?_
    rintro e w' ⟨rfl, rfl⟩
    go_wp2_with fail
    refine c5.mono ?_
    rintro e w5 ⟨rfl, hb⟩
    have HB := hidden' hb
    have c6 := c6 w5 (HL.out.below hb)
    clear hb c5
    go_wp2_with fail
    refine c6.mono ?_
    rintro e w6 ⟨rfl, hb⟩
    have HB2 := hidden' (HB.out.trans (hb.mono HB.out.size))
    clear hb c6
    go_wp2_with fail
    go_ret3
    exact ⟨rfl, HB2.out⟩

theorem at_any (s : ByteArray) (m : Nat) (p : Int) (neg tr : Bool) (hs : s.size ≤ 100) (hm : m < 10000000000000000000) (h1 : NoSp s) (h2 : RdF s m p neg tr) (x : Nat) (b : Bool) (h : atF m p neg tr = some (x, b)) : AFe s x b := by
  unfold atF at h
  split at h
  · rename_i q
    injection h with h; injection h with h3 h4; subst h3 h4
    exact at_zero s m p neg tr hs hm h1 h2 q
  rename_i q0
  split at h
  · rename_i q
    injection h with h; injection h with h3 h4; subst h3 h4
    exact at_great s m p neg tr hs hm h1 h2 q0 q
  rename_i q1
  split at h
  · rename_i q
    injection h with h; injection h with h3 h4; subst h3 h4
    exact at_small s m p neg tr hs hm h1 h2 q0 q
  rename_i q2
  split at h
  · rename_i q
    split at h
    · rename_i r hr
      injection h with h; injection h with h3 h4; subst h3 h4
      exact at_exact s m p neg tr hs hm h1 h2 q0 (by omega) (by omega) q r hr
    · rename_i hr
      have h := Option.some.inj h
      rw [show x = (pfF m p (sgW neg)).1 by rw [h], show b = (pfF m p (sgW neg)).2 by rw [h]]
      exact at_parse s m p neg tr hs hm h1 h2 q0 (by omega) (by omega) q hr
  · rename_i q
    split at h
    · rename_i hr
      have h := Option.some.inj h
      rw [show x = (pfF m p (sgW neg)).1 by rw [h], show b = (pfF m p (sgW neg)).2 by rw [h]]
      exact at_cut s m p neg tr hs hm h1 h2 q0 (by omega) (by omega) (by simpa using q) hr
    · cases h
theorem at_lt (m : Nat) (p : Int) (neg tr : Bool) (x : Nat) (b : Bool) (hm : m < 10000000000000000000) (h : atF m p neg tr = some (x, b)) : x < 18446744073709551616 := by
  have hsg : sgW neg < 18446744073709551616 := by cases neg <;> decide
  have key : ∀ d, d < 18446744073709551616 → 0 < d → -345 ≤ p → p ≤ 310 → (pfF d p (sgW neg)).1 < 18446744073709551616 := fun d hd h0 h1 h2 => by
    unfold pfF
    split
    · exact hsg
    · rename_i hS
      obtain ⟨b1, b2, b3⟩ := bl_pos h0 hd
      have hS8 : 8 ≤ (pfS d p).toNat := by
        unfold pfS pfE at *
        generalize p * 108853 / 32768 = lp at *
        omega
      have hu := usc_lt (d * 2 ^ (64 - Lib.bitLen d)) (pHi (p + 348).toNat) (pLo (p + 348).toNat) (pfS d p).toNat b3 (p_fit _).1 hS8
      have := pfR_le (u := pfU d p) hu
      refine pk_lt _ _ (Nat.or_lt_two_pow (n := 64) hsg (by omega)) ?_
      have hlp : -1147 ≤ p * 108853 / 32768 ∧ p * 108853 / 32768 ≤ 1029 := by omega
      have hR : (pfR (pfU d p)).2 ≤ 1 := by unfold pfR; split <;> simp
      unfold pfE
      omega
  unfold atF at h
  split at h
  · injection h with h; injection h with h3 h4; subst h3; exact hsg
  rename_i q0
  split at h
  · injection h with h; injection h with h3 h4; subst h3; exact Nat.or_lt_two_pow (n := 64) hsg (by decide)
  split at h
  · injection h with h; injection h with h3 h4; subst h3; exact hsg
  rename_i q1 q2
  split at h
  · split at h
    · rename_i r hr
      injection h with h; injection h with h3 h4; subst h3
      have hF := sg_fw m neg
      unfold xact at hr
      split at hr
      · cases hr
      split at hr
      · injection hr with hr; rw [← hr]; exact hF.1
      split at hr
      · simp only at hr
        have hF1 : Fw (if 22 < p then mulF (sgF m neg) (t10.getD (p - 22).toNat 0) else sgF m neg) := by
          split
          · exact (mul_fin hF (t10_nz _ (by omega))).2
          · exact hF
        generalize (if 22 < p then mulF (sgF m neg) (t10.getD (p - 22).toNat 0) else sgF m neg) = f1 at *
        split at hr
        · cases hr
        · injection hr with hr; rw [← hr]
          exact (mul_fin hF1 (t10_nz _ (by omega))).2.1
      split at hr
      · injection hr with hr; rw [← hr]
        exact (div_fin hF (t10_nz _ (by omega))).2.1
      · cases hr
    · have h := Option.some.inj h
      rw [show x = (pfF m p (sgW neg)).1 by rw [h]]
      exact key m (by omega) (by omega) (by omega) (by omega)
  · split at h
    · have h := Option.some.inj h
      rw [show x = (pfF m p (sgW neg)).1 by rw [h]]
      exact key m (by omega) (by omega) (by omega) (by omega)
    · cases h
end Go.Proofs.PlatenFigure
