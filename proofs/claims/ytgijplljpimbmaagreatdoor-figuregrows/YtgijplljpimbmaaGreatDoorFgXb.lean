/- Products and quotients of float64's numbers with powers of ten are numbers. -/
import Derived.Test.YtgijplljpimbmaaGreatDoorFgN
namespace Go.Proofs.PlatenFigure
open Go.RowKit Ieee
set_option linter.unusedVariables false

theorem read_word (s : Bool) (r : Nat) (h : r ≤ 2047 * 2 ^ 52) : (Ieee.double.read (Ieee.double.word s r)).isNaN = false := by
  have e : Ieee.double.word s r % 2 ^ 63 = r := by
    unfold Format.word
    rw [sign_weight]
    split <;> omega
  unfold Format.read
  simp only [sign_weight, binade_is, inf_rung]
  rw [e]
  split
  · rfl
  · split
    · rfl
    · split
      · rfl
      · omega
theorem write_ok (d : Datum) (h : d.isNaN = false) : (Ieee.double.read (Ieee.double.write d)).isNaN = false := by
  cases d with
  | nan s t => simp [Datum.isNaN] at h
  | infinity s => exact read_word s _ (by rw [inf_rung]; exact Nat.le_refl _)
  | number s m i =>
    show (Ieee.double.read (Ieee.double.nearest s m i)).isNaN = false
    unfold Format.nearest
    split
    · exact read_word s 0 (by omega)
    · exact read_word s _ (by rw [inf_rung]; exact Nat.min_le_right _ _)
/-- A word of a number, or of an infinity. -/
def Fw (x : Nat) : Prop := x < 18446744073709551616 ∧ (Ieee.double.read x).isNaN = false
theorem write_fin (d : Datum) (h : d.isNaN = false) : Fw (Ieee.double.write d) := by
  refine ⟨?_, write_ok d h⟩
  have := Ieee.double.write_lt d
  have e : 2 ^ Ieee.double.width = 18446744073709551616 := by decide
  omega
def mulF (x y : Nat) : Nat := (floatBits .mul .f64 x y).getD 0
def divF (x y : Nat) : Nat := (floatBits .quo .f64 x y).getD 0
/-- A number that isn't nought. -/
def Nz (y : Nat) : Prop := ∃ s m i, Ieee.double.read y = .number s m i ∧ m ≠ 0
theorem mul_fin {x y : Nat} (hx : Fw x) (hy : Nz y) : floatBits .mul .f64 x y = some (mulF x y) ∧ Fw (mulF x y) := by
  obtain ⟨s, m, i, hr, hm⟩ := hy
  have key : ∃ d, (Ieee.double.read x).product (Ieee.double.read y) = some d ∧ d.isNaN = false := by
    rw [hr]
    have := hx.2
    cases h : Ieee.double.read x with
    | nan a b => rw [h] at this; simp [Datum.isNaN] at this
    | infinity a => exact ⟨.infinity (a ^^ s), by simp [Datum.product, hm], rfl⟩
    | number a b c => exact ⟨_, rfl, rfl⟩
  obtain ⟨d, hd, hn⟩ := key
  have e : floatBits .mul .f64 x y = some (Ieee.double.write d) := by
    show ((Ieee.double.read x).product (Ieee.double.read y)).map Ieee.double.write = _
    rw [hd]; rfl
  unfold mulF
  rw [e]
  exact ⟨rfl, write_fin d hn⟩
theorem div_fin {x y : Nat} (hx : Fw x) (hy : Nz y) : floatBits .quo .f64 x y = some (divF x y) ∧ Fw (divF x y) := by
  obtain ⟨s, m, i, hr, hm⟩ := hy
  have key : ∃ d, (Ieee.double.read x).quotient 54 (Ieee.double.read y) = some d ∧ d.isNaN = false := by
    rw [hr]
    have := hx.2
    cases h : Ieee.double.read x with
    | nan a b => rw [h] at this; simp [Datum.isNaN] at this
    | infinity a => exact ⟨.infinity (a ^^ s), rfl, rfl⟩
    | number a b c => exact ⟨_, by simp only [Datum.quotient, if_neg hm]; rfl, rfl⟩
  obtain ⟨d, hd, hn⟩ := key
  have e : floatBits .quo .f64 x y = some (Ieee.double.write d) := by
    show ((Ieee.double.read x).quotient 54 (Ieee.double.read y)).map Ieee.double.write = _
    rw [hd]; rfl
  unfold divF
  rw [e]
  exact ⟨rfl, write_fin d hn⟩
theorem int_fin (n : Int) : Fw (floatOfInt .f64 n) := write_fin (.number (decide (n < 0)) n.natAbs 0) rfl
theorem t10_nz : ∀ i, i < 23 → Nz (t10.getD i 0) := by
  have key : ∀ i : Fin 23, ((match Ieee.double.read (t10.getD i.val 0) with | .number _ m _ => decide (m ≠ 0) | _ => false) = true) := by decide +kernel
  intro i hi
  have := key ⟨i, hi⟩
  simp only at this
  split at this
  · rename_i s m j h
    exact ⟨_, _, _, h, by simpa using this⟩
  · cases this
theorem neg_fin {x : Nat} (h : Fw x) : Fw (negF x) := by
  obtain ⟨h1, h2⟩ := h
  have hx : negF x < 18446744073709551616 := by
    unfold negF
    exact Nat.xor_lt_two_pow (n := 64) h1 (by decide)
  refine ⟨hx, ?_⟩
  have e : negF x % 2 ^ 63 = x % 2 ^ 63 := by
    unfold negF
    rw [Nat.xor_mod_two_pow]
    simp
  unfold Format.read at h2 ⊢
  simp only [sign_weight, binade_is, inf_rung] at h2 ⊢
  rw [e]
  generalize x % 2 ^ 63 = r at *
  split at h2
  · rename_i q
    rw [if_pos q]; rfl
  · rename_i q
    rw [if_neg q]
    split at h2
    · rename_i q
      rw [if_pos q]; rfl
    · rename_i q
      rw [if_neg q]
      split at h2
      · rename_i q
        rw [if_pos q]; rfl
      · simp [Datum.isNaN] at h2
end Go.Proofs.PlatenFigure
