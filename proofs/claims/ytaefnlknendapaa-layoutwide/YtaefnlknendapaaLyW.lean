/- As much as may be, and one more. -/
import Derived.Test.YtaefnlknendapaaLyM
namespace Go.Proofs.PlatenLayout
set_option linter.unusedVariables false

/-- Texts alone, whatever is counted of them. -/
def T (ts : List (List Nat × Nat)) : List It := ts.map fun t => ⟨1, t.1, t.2, 0, 0, false, false⟩
def cat (ts : List (List Nat × Nat)) : List Nat := ts.flatMap (·.1)
theorem lay_T (w : Int) : ∀ (ts : List (List Nat × Nat)) (s : Ly), s.p.length ≤ most → lay w (T ts) s = if (s.p ++ cat ts).length ≤ most then some (s.p ++ cat ts) else none
  | [], s, h => by
    have : s.p ++ cat [] = s.p := by simp [cat]
    rw [this, if_pos h]
    rfl
  | t :: ts, s, h => by
    have e : (stepL w s ⟨1, t.1, t.2, 0, 0, false, false⟩ (T ts)).p = s.p ++ t.1 := by simp [stepL]
    have hc : s.p ++ cat (t :: ts) = s.p ++ t.1 ++ cat ts := by simp [cat]
    rw [hc]
    show lay w (⟨1, t.1, t.2, 0, 0, false, false⟩ :: T ts) s = _
    unfold lay
    rw [e]
    by_cases hl : most < (s.p ++ t.1).length
    · rw [if_pos hl, if_neg (by rw [List.length_append]; omega)]
    · rw [if_neg hl, lay_T w ts _ (by rw [e]; omega), e]
theorem sum_T (ts : List (List Nat × Nat)) : sum (T ts) = (ts.map (·.2)).sum := by
  induction ts with
  | nil => rfl
  | cons t ts ih =>
    show t.2 + sum (T ts) = _
    rw [ih]
    simp
theorem brk_T (ts : List (List Nat × Nat)) (d : Nat) : brk (T ts) d = (ts.map (·.2)).sum := by
  induction ts with
  | nil => rfl
  | cons t ts ih =>
    show t.2 + brk (T ts) d = _
    rw [ih]
    simp
def bgIt (off : Int) (whole : Bool) : It := ⟨3, [], 0, 0, off, false, whole⟩
def brIt (n : Int) : It := ⟨2, [], 0, n, 0, false, false⟩
def enI : It := ⟨4, [], 0, 0, 0, false, false⟩
/-- Blanks in a group that fits, then texts. -/
theorem much_blanks (w : Int) (k : Nat) (ts : List (List Nat × Nat)) (hk : k ≤ most) (hw : ((k + (ts.map (·.2)).sum : Nat) : Int) ≤ w) :
    lay w (bgIt 0 false :: brIt (k : Nat) :: enI :: T ts) s0 = if (sp k ++ cat ts).length ≤ most then some (sp k ++ cat ts) else none := by
  have hz : size (bgIt 0 false :: brIt (k : Nat) :: enI :: T ts) = k + (ts.map (·.2)).sum := by
    have : size (bgIt 0 false :: brIt (k : Nat) :: enI :: T ts) = k + brk (T ts) 0 := by simp [size, grp, bgIt, brIt, enI, It.own]
    rw [this, brk_T]
  have e1 : stepL w s0 (bgIt 0 false) (brIt (k : Nat) :: enI :: T ts) = ⟨[], 0, ⟨true, false, 0⟩, [s0.g]⟩ := by
    simp only [stepL, hz]
    simp [bgIt, s0]
    omega
  have e2 : stepL w ⟨[], 0, ⟨true, false, 0⟩, [s0.g]⟩ (brIt (k : Nat)) (enI :: T ts) = ⟨sp k, (k : Nat), ⟨true, false, 0⟩, [s0.g]⟩ := by
    simp [stepL, brIt]
  have e3 : stepL w ⟨sp k, (k : Nat), ⟨true, false, 0⟩, [s0.g]⟩ enI (T ts) = ⟨sp k, (k : Nat), s0.g, []⟩ := by
    simp [stepL, enI]
  have hl : (sp k).length = k := by simp [sp]
  unfold lay
  rw [e1, if_neg (by show ¬ most < 0; omega)]
  unfold lay
  rw [e2, if_neg (by show ¬ most < (sp k).length; omega)]
  unfold lay
  rw [e3, if_neg (by show ¬ most < (sp k).length; omega)]
  exact lay_T w ts _ (by show (sp k).length ≤ most; omega)
/-- A line that stands far in, then texts. -/
theorem much_far (w : Int) (k : Nat) (b : Int) (ts : List (List Nat × Nat)) (hk : k + 1 ≤ most) (hb : w < b) :
    lay w (bgIt (k : Nat) true :: (⟨1, [], 0, 0, 0, false, false⟩ : It) :: brIt b :: enI :: T ts) s0 = if ([10] ++ sp k ++ cat ts).length ≤ most then some ([10] ++ sp k ++ cat ts) else none := by
  have hz : ¬ (((size (bgIt (k : Nat) true :: (⟨1, [], 0, 0, 0, false, false⟩ : It) :: brIt b :: enI :: T ts) : Nat) : Int) ≤ w) := by
    have : size (bgIt (k : Nat) true :: (⟨1, [], 0, 0, 0, false, false⟩ : It) :: brIt b :: enI :: T ts) = b.toNat + brk (T ts) 0 := by simp [size, grp, bgIt, brIt, enI, It.own]
    rw [this]
    omega
  have e1 : stepL w s0 (bgIt (k : Nat) true) ((⟨1, [], 0, 0, 0, false, false⟩ : It) :: brIt b :: enI :: T ts) = ⟨[], 0, ⟨false, true, (k : Nat)⟩, [s0.g]⟩ := by
    have hd : decide (((size (bgIt (k : Nat) true :: (⟨1, [], 0, 0, 0, false, false⟩ : It) :: brIt b :: enI :: T ts) : Nat) : Int) ≤ w - s0.col) = false := by
      rw [decide_eq_false]
      have : s0.col = 0 := rfl
      omega
    have : stepL w s0 (bgIt (k : Nat) true) ((⟨1, [], 0, 0, 0, false, false⟩ : It) :: brIt b :: enI :: T ts) = { s0 with g := ⟨decide (((size (bgIt (k : Nat) true :: (⟨1, [], 0, 0, 0, false, false⟩ : It) :: brIt b :: enI :: T ts) : Nat) : Int) ≤ w - s0.col), true, 0 + (k : Nat)⟩, gs := s0.g :: s0.gs } := rfl
    rw [this, hd]
    simp [s0]
  have e2 : stepL w ⟨[], 0, ⟨false, true, (k : Nat)⟩, [s0.g]⟩ ⟨1, [], 0, 0, 0, false, false⟩ (brIt b :: enI :: T ts) = ⟨[], 0, ⟨false, true, (k : Nat)⟩, [s0.g]⟩ := by
    simp [stepL, size, It.own]
  have e3 : stepL w ⟨[], 0, ⟨false, true, (k : Nat)⟩, [s0.g]⟩ (brIt b) (enI :: T ts) = ⟨[10] ++ sp k, (k : Nat), ⟨false, true, (k : Nat)⟩, [s0.g]⟩ := by
    simp [stepL, brIt]
  have e4 : stepL w ⟨[10] ++ sp k, (k : Nat), ⟨false, true, (k : Nat)⟩, [s0.g]⟩ enI (T ts) = ⟨[10] ++ sp k, (k : Nat), s0.g, []⟩ := by
    simp [stepL, enI]
  have hl : ([10] ++ sp k).length = k + 1 := by simp [sp]
  unfold lay
  rw [e1, if_neg (by show ¬ most < 0; omega)]
  unfold lay
  rw [e2, if_neg (by show ¬ most < 0; omega)]
  unfold lay
  rw [e3, if_neg (by show ¬ most < ([10] ++ sp k).length; omega)]
  unfold lay
  rw [e4, if_neg (by show ¬ most < ([10] ++ sp k).length; omega)]
  exact lay_T w ts _ (by show ([10] ++ sp k).length ≤ most; omega)
end Go.Proofs.PlatenLayout
