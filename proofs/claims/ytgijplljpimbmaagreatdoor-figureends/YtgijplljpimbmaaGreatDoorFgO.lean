/- Plain mathematics of what strconv.readFloat gathers, digit by digit. -/
import Derived.Test.YtgijplljpimbmaaGreatDoorFgE
namespace Go.Proofs.PlatenFigure
open Go.RowKit
set_option linter.unusedVariables false

/-- What is gathered of a mantissa: its digits as a number, how many there are, how many of them are in the number, where the point is; was one cut off, was there a point, a digit? -/
structure R where
  m : Nat
  nd : Nat
  nm : Nat
  dp : Int
  tr : Bool
  dot : Bool
  dig : Bool
def stepR (r : R) (c : UInt8) : R :=
  if c.toNat = 46 then { r with dot := true, dp := r.nd }
  else if c.toNat = 48 ∧ r.nd = 0 then { r with dig := true, dp := r.dp - 1 }
  else if r.nm < 19 then { r with dig := true, nd := r.nd + 1, m := r.m * 10 + (c.toNat - 48), nm := r.nm + 1 }
  else { r with dig := true, nd := r.nd + 1, tr := r.tr || decide (c.toNat ≠ 48) }
def foldR (l : List UInt8) (i0 : Nat) : Nat → R
  | 0 => ⟨0, 0, 0, 0, false, false, false⟩
  | k + 1 => stepR (foldR l i0 k) (l.getD (i0 + k) 0)
def mc (c : UInt8) : Bool := decide (c.toNat = 46 ∨ 48 ≤ c.toNat ∧ c.toNat ≤ 57)
structure OkR (r : R) (k : Nat) : Prop where
  nm : r.nm ≤ 19
  m : r.m < 10 ^ r.nm
  nd : r.nd ≤ k
  lo : -(k : Int) ≤ r.dp
  hi : r.dp ≤ k
  nn : r.nm ≤ r.nd
theorem okR (l : List UInt8) (i0 : Nat) : ∀ k, (∀ j, j < k → mc (l.getD (i0 + j) 0) = true) → OkR (foldR l i0 k) k
  | 0, _ => show OkR ⟨0, 0, 0, 0, false, false, false⟩ 0 from ⟨by decide, by decide, by decide, by decide, by decide, by decide⟩
  | k + 1, h => by
    have ih := okR l i0 k (fun j hj => h j (by omega))
    have hc := h k (by omega)
    show OkR (stepR (foldR l i0 k) (l.getD (i0 + k) 0)) (k + 1)
    generalize l.getD (i0 + k) 0 = c at *
    generalize foldR l i0 k = r at *
    obtain ⟨h1, h2, h3, h4, h5, h6⟩ := ih
    simp only [mc, decide_eq_true_eq] at hc
    unfold stepR
    split
    · exact ⟨h1, h2, by show r.nd ≤ _; omega, by show _ ≤ (r.nd : Int); omega, by show (r.nd : Int) ≤ _; omega, h6⟩
    · split
      · exact ⟨h1, h2, by show r.nd ≤ _; omega, by show _ ≤ r.dp - 1; omega, by show r.dp - 1 ≤ _; omega, h6⟩
      · split
        · rename_i h7 h8 h9
          refine ⟨by show r.nm + 1 ≤ 19; omega, ?_, by show r.nd + 1 ≤ _; omega, by show _ ≤ r.dp; omega, by show r.dp ≤ _; omega, by show r.nm + 1 ≤ r.nd + 1; omega⟩
          show r.m * 10 + (c.toNat - 48) < 10 ^ (r.nm + 1)
          rw [Nat.pow_succ]
          omega
        · exact ⟨h1, h2, by show r.nd + 1 ≤ _; omega, by show _ ≤ r.dp; omega, by show r.dp ≤ _; omega, by show r.nm ≤ r.nd + 1; omega⟩
theorem OkR.small {r : R} {k : Nat} (h : OkR r k) : r.m < 10000000000000000000 := by
  have h1 := h.m
  have h2 : 10 ^ r.nm ≤ 10 ^ 19 := Nat.pow_le_pow_right (by decide) h.nm
  omega
theorem OkR.small2 {r : R} {k : Nat} (h : OkR r k) (hn : r.nm < 19) : r.m < 1000000000000000000 := by
  have h1 := h.m
  have h2 : 10 ^ r.nm ≤ 10 ^ 18 := Nat.pow_le_pow_right (by decide) (by omega)
  omega
/-- The exponent's digits as a number: no further than what is far too much. -/
def stepE (e : Nat) (c : UInt8) : Nat := if e < 10000 then e * 10 + (c.toNat - 48) else e
def foldE (l : List UInt8) (i0 : Nat) : Nat → Nat
  | 0 => 0
  | k + 1 => stepE (foldE l i0 k) (l.getD (i0 + k) 0)
theorem foldE_lt (l : List UInt8) (i0 : Nat) : ∀ k, (∀ j, j < k → dg (l.getD (i0 + j) 0) = true) → foldE l i0 k < 100009
  | 0, _ => show (0 : Nat) < 100009 by decide
  | k + 1, h => by
    have ih := foldE_lt l i0 k (fun j hj => h j (by omega))
    have hc := h k (by omega)
    simp only [dg, decide_eq_true_eq] at hc
    show stepE _ _ < _
    unfold stepE
    split <;> omega
end Go.Proofs.PlatenFigure
