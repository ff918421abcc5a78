/- What glyph.Step, glyph.Blank and the document's Step, Blank come to. -/
import Derived.Test.YtjdjacnlobjmgaaDoorCallsB
namespace Go.Proofs.PlatenGlyph
open Go.RowKit Go.Shelf Go.Lib
set_option linter.unusedVariables false

/-- The column behind a sign that begins with c, at a column. -/
def stp (col c tab : Nat) : Nat := if c = 9 then col + (tab - col % tab) else col + 1

theorem stp_tab (col tab : Nat) (h : 1 ≤ tab) : col + (tab - col % tab) = (col / tab + 1) * tab := by
  have h1 := Nat.div_add_mod col tab
  have h2 := Nat.mod_lt col (show tab > 0 by omega)
  rw [Nat.add_mul, Nat.mul_comm (col / tab) tab]
  omega

theorem stp_lt (col c tab : Nat) (h : 1 ≤ tab) : col < stp col c tab ∧ stp col c tab ≤ col + tab := by
  have h2 := Nat.mod_lt col (show tab > 0 by omega)
  unfold stp; split <;> omega

set_option maxHeartbeats 400000 in
theorem reach_any (col tab : Nat) (w : World) (hc : col ≤ 1000000000) (h1 : 1 ≤ tab) (ht : tab ≤ 1000000000) :
    Calls Tryd.prog 58 #[.int .i64 col, .int .i64 tab] w fun e w' => e = .returned (.int .i64 (tab - col % tab : Nat)) ∧ w' = w := by
  have h2 := Nat.mod_lt col (show tab > 0 by omega)
  have e : (((tab - col % tab : Nat) : Nat) : Int) = (tab : Int) - (col : Int) % (tab : Int) := by omega
  have hm : max (tab : Int) 1 = tab := by omega
  rw [e]
  clear e
  have b1 : 0 ≤ (col : Int) % (tab : Int) := by omega
  have b2 : (col : Int) % (tab : Int) < (tab : Int) := by omega
  clear h2
  go_enter Tryd.func58, Tryd.ntmps58
  go_wp2
  go_ret
  exact ⟨rfl, rfl⟩

set_option maxHeartbeats 400000 in
theorem step_any (col c tab : Nat) (w : World) (hc : col ≤ 1000000000) (hcc : c < 256) (h1 : 1 ≤ tab) (ht : tab ≤ 1000000000) :
    Calls Tryd.prog 46 #[.int .i64 col, .int .u8 c, .int .i64 tab] w fun e w' => e = .returned (.int .i64 (stp col c tab)) ∧ w' = w := by
  have h2 := Nat.mod_lt col (show tab > 0 by omega)
  by_cases h9 : c = 9
  · subst h9
    have cr := reach_any col tab w hc h1 ht
    have e : ((stp col 9 tab : Nat) : Int) = (col : Int) + ((tab - col % tab : Nat) : Int) := by unfold stp; simp
    rw [e]
    obtain ⟨x, hx⟩ : ∃ x, tab - col % tab = x := ⟨_, rfl⟩
    rw [hx] at cr ⊢
    have hxb : x ≤ 1000000000 := by omega
    clear e h2 hx
    go_enter Tryd.func46, Tryd.ntmps46
    go_wp2_with fail
    refine cr.mono ?_
    rintro e w' ⟨rfl, rfl⟩
    go_wp2
    go_ret
    exact ⟨rfl, rfl⟩
  · have hb : ((c : Int) == 9) = false := by simp; omega
    have e : ((stp col c tab : Nat) : Int) = (col : Int) + 1 := by unfold stp; simp [h9]
    rw [e]
    clear e h2
    go_enter Tryd.func46, Tryd.ntmps46
    go_wp2
    go_ret
    exact ⟨rfl, rfl⟩

set_option maxHeartbeats 400000 in
theorem rstep_any (col c tab : Nat) (w : World) (hc : col ≤ 1000000000) (hcc : c < 256) (h1 : 1 ≤ tab) (ht : tab ≤ 1000000) :
    Calls Tryd.prog 48 #[.int .i64 col, .int .u8 c, .int .i64 tab] w fun e w' => e = .returned (.int .i64 (stp col c tab)) ∧ w' = w := by
  by_cases h9 : c = 9
  · subst h9
    have e : ((stp col 9 tab : Nat) : Int) = ((col : Int) / (tab : Int) + 1) * (tab : Int) := by
      unfold stp; rw [if_pos rfl, stp_tab col tab h1]; simp
    have hle : col / tab ≤ col := Nat.div_le_self _ _
    have hm : (col / tab + 1) * tab ≤ 1001000000 := by
      have := Nat.div_add_mod col tab
      have h3 : tab * (col / tab) = (col / tab) * tab := Nat.mul_comm _ _
      rw [Nat.add_mul]; omega
    have hmz : ((col : Int) / (tab : Int) + 1) * (tab : Int) ≤ 1001000000 := by
      have : (((col / tab + 1) * tab : Nat) : Int) ≤ 1001000000 := by omega
      simpa using this
    have hm0 : 0 ≤ ((col : Int) / (tab : Int) + 1) * (tab : Int) := by
      have : (0 : Int) ≤ (((col / tab + 1) * tab : Nat) : Int) := Int.natCast_nonneg _
      simpa using this
    have hq : (col : Int) / (tab : Int) ≤ 1000000000 := by
      have : ((col / tab : Nat) : Int) ≤ 1000000000 := by omega
      simpa using this
    have hq0 : 0 ≤ (col : Int) / (tab : Int) := by
      have : (0 : Int) ≤ ((col / tab : Nat) : Int) := Int.natCast_nonneg _
      simpa using this
    have ht0 : ¬ ((tab : Int) = 0) := by omega
    rw [e]
    clear e hm hle
    go_enter Tryd.func48, Tryd.ntmps48
    go_wp2
    go_ret
    exact ⟨rfl, rfl⟩
  · have hb : ((c : Int) != 9) = true := by simp; omega
    have e : ((stp col c tab : Nat) : Int) = (col : Int) + 1 := by unfold stp; simp [h9]
    rw [e]
    clear e
    go_enter Tryd.func48, Tryd.ntmps48
    go_wp2
    go_ret
    exact ⟨rfl, rfl⟩

def blankB (c : Nat) : Bool := decide (c = 32 ∨ c = 9)

set_option maxHeartbeats 400000 in
theorem blank_any (c : Nat) (w : World) (hc : c < 256) :
    Calls Tryd.prog 33 #[.int .u8 c] w fun e w' => e = .returned (.bool (blankB c)) ∧ w' = w := by
  by_cases h : c = 32
  · subst h
    go_enter Tryd.func33, Tryd.ntmps33
    go_wp2
    go_ret
    exact ⟨rfl, rfl⟩
  · have hb : ((c : Int) == 32) = false := by simp; omega
    have e : blankB c = ((c : Int) == 9) := by
      unfold blankB; rw [Bool.eq_iff_iff]; simp; omega
    rw [e]
    go_enter Tryd.func33, Tryd.ntmps33
    go_wp2
    go_ret
    exact ⟨rfl, rfl⟩

set_option maxHeartbeats 400000 in
theorem rblank_any (c : Nat) (w : World) (hc : c < 256) :
    Calls Tryd.prog 34 #[.int .u8 c] w fun e w' => e = .returned (.bool (blankB c)) ∧ w' = w := by
  by_cases h : c = 32
  · subst h
    go_enter Tryd.func34, Tryd.ntmps34
    go_wp2
    go_ret
    exact ⟨rfl, rfl⟩
  · have hb : ((c : Int) == 32) = false := by simp; omega
    have e : blankB c = ((c : Int) == 9) := by
      unfold blankB; rw [Bool.eq_iff_iff]; simp; omega
    rw [e]
    go_enter Tryd.func34, Tryd.ntmps34
    go_wp2
    go_ret
    exact ⟨rfl, rfl⟩
end Go.Proofs.PlatenGlyph
