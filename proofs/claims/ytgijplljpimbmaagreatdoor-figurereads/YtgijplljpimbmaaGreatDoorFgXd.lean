/- What strconv.pack64 and strconv.parseFloat64 come to. -/
import Derived.Test.YtgijplljpimbmaaGreatDoorFgXc
import Derived.Test.YtgijplljpimbmaaGreatDoorFgF
namespace Go.Proofs.PlatenFigure
open Go.RowKit
set_option linter.unusedVariables false
set_option maxRecDepth 20000

theorem bits_andnot_nat (x y : Nat) (hx : x < 2 ^ 64) (hy : y < 2 ^ 64) : bits .andNot .u64 x y = ((x &&& (2 ^ 64 - 1 - y) : Nat) : Int) := by
  have h : x &&& (2 ^ 64 - 1 - y) < 2 ^ 64 := Nat.lt_of_le_of_lt Nat.and_le_left hx
  show IntKind.u64.wrap ((BitVec.ofInt 64 (x : Int) &&& ~~~ BitVec.ofInt 64 (y : Int)).toNat : Int) = _
  rw [BitVec.ofInt_natCast, BitVec.ofInt_natCast, BitVec.toNat_and, BitVec.toNat_not, BitVec.toNat_ofNat, BitVec.toNat_ofNat, Nat.mod_eq_of_lt hx, Nat.mod_eq_of_lt hy, IntKind.wrap_u64]
  omega
/-- The word of m * 2 ^ e; is it too great? -/
def pkF (m : Nat) (e : Int) : Nat × Bool :=
  if m &&& 4503599627370496 = 0 then (m, false)
  else if 972 ≤ e then ((m &&& 9223372036854775808) ||| 9218868437227405312, true)
  else ((m &&& 18442240474082181119) ||| ((1075 + e).toNat * 4503599627370496), false)
theorem pk_lt (m : Nat) (e : Int) (hm : m < 18446744073709551616) (he : e ≤ 2000) : (pkF m e).1 < 18446744073709551616 := by
  unfold pkF
  split
  · exact hm
  · split
    · exact Nat.or_lt_two_pow (n := 64) (Nat.lt_of_le_of_lt Nat.and_le_left hm) (by decide)
    · exact Nat.or_lt_two_pow (n := 64) (Nat.lt_of_le_of_lt Nat.and_le_left hm) (by omega)
def erV (b : Bool) : Value := if b then .iface 64 (.int .i64 1) else .nilIface
def PkP (p : Nat × Bool) (w : World) (e : Ending) (w' : World) : Prop := w' = w ∧ e = .returned (.tuple #[.float .f64 p.1, erV p.2])
set_option maxHeartbeats 2000000 in
theorem pack_any (m : Nat) (e : Int) (w : World) (hm : m < 18446744073709551616) (h1 : -1075 < e) (h2 : e ≤ 1100) :
    Calls Tryz.prog 128 #[.int .u64 (m : Nat), .int .i64 e] w (PkP (pkF m e) w) := by
  have b1 : bits .and .u64 (m : Int) 4503599627370496 = ((m &&& 4503599627370496 : Nat) : Int) := bits_and_nat m 4503599627370496 hm (by decide)
  by_cases q : m &&& 4503599627370496 = 0
  · have HO : Hid (pkF m e = (m, false)) := by unfold Hid pkF; rw [if_pos q]
    have hs := sfrom (m : Int) w
    rw [q] at b1
    clear q
    go_enter Tryz.func128, Tryz.ntmps128
    go_wp2_with fail
    go_ret2
    exact ⟨rfl, by rw [HO.out]; rfl⟩
  · have z : (((m &&& 4503599627370496 : Nat) : Int) == 0) = false := by simp; omega
    by_cases q2 : 972 ≤ e
    · have HO : Hid (pkF m e = ((m &&& 9223372036854775808) ||| 9218868437227405312, true)) := by unfold Hid pkF; rw [if_neg q, if_pos q2]
      have l1 : m &&& 9223372036854775808 < 2 ^ 64 := Nat.lt_of_le_of_lt Nat.and_le_left hm
      have b2 : bits .and .u64 (m : Int) 9223372036854775808 = ((m &&& 9223372036854775808 : Nat) : Int) := bits_and_nat m 9223372036854775808 hm (by decide)
      have b3 : bits .or .u64 ((m &&& 9223372036854775808 : Nat) : Int) 9218868437227405312 = (((m &&& 9223372036854775808) ||| 9218868437227405312 : Nat) : Int) := bits_or_nat _ 9218868437227405312 l1 (by decide)
      have hs := sfrom (((m &&& 9223372036854775808) ||| 9218868437227405312 : Nat) : Int) w
      clear q l1
      generalize m &&& 4503599627370496 = A at *
      generalize m &&& 9223372036854775808 = B at *
      generalize B ||| 9218868437227405312 = C at *
      go_enter Tryz.func128, Tryz.ntmps128
      go_wp2_with fail
      go_ret2
      exact ⟨rfl, by rw [HO.out]; rfl⟩
    · have HO : Hid (pkF m e = ((m &&& 18442240474082181119) ||| ((1075 + e).toNat * 4503599627370496), false)) := by unfold Hid pkF; rw [if_neg q, if_neg q2]
      have l1 : m &&& 18442240474082181119 < 2 ^ 64 := Nat.lt_of_le_of_lt Nat.and_le_left hm
      obtain ⟨t, ht⟩ : ∃ t : Nat, t = (1075 + e).toNat := ⟨_, rfl⟩
      rw [← ht] at HO
      have hte : 1075 + e = (t : Int) := by omega
      have ht2 : t < 2047 := by omega
      have b2 : bits .andNot .u64 (m : Int) 4503599627370496 = ((m &&& 18442240474082181119 : Nat) : Int) := bits_andnot_nat m 4503599627370496 hm (by decide)
      have b3 : bits .or .u64 ((m &&& 18442240474082181119 : Nat) : Int) ((t * 4503599627370496 : Nat) : Int) = (((m &&& 18442240474082181119) ||| (t * 4503599627370496) : Nat) : Int) := bits_or_nat _ _ l1 (by omega)
      rw [show ((t * 4503599627370496 : Nat) : Int) = (t : Int) * 4503599627370496 by omega] at b3
      have hs := sfrom (((m &&& 18442240474082181119) ||| (t * 4503599627370496) : Nat) : Int) w
      have z2 : ¬ (972 : Int) ≤ e := q2
      clear q l1 ht
      generalize m &&& 4503599627370496 = A at *
      generalize m &&& 18442240474082181119 = B at *
      generalize B ||| (t * 4503599627370496) = C at *
      go_enter Tryz.func128, Tryz.ntmps128
      go_wp2_with fail
      go_ret2
      exact ⟨rfl, by rw [HO.out]; rfl⟩
end Go.Proofs.PlatenFigure
