/- What glyph.Step, glyph.Blank and the document's Step, Blank come to. -/
import Derived.Test.YtglgcbocpdenhaaDoorCallsB
namespace Go.Proofs.PlatenGlyph
open Go.RowKit Go.Shelf Go.Lib
set_option linter.unusedVariables false

/-- The column behind a sign that begins with c, at a column. -/
def stp (col c tab : Nat) : Nat := if c = 9 then col + (tab - col % tab) else col + 1

theorem stp_tab (col tab : Nat) (h : 1 ≤ tab) : col + (tab - col % tab) = (col / tab + 1) * tab := by
  have h1 := Nat.div_add_mod col tab
  have h2 := Nat.mod_lt col (show tab > 0 by omega)
  rw [Nat.add_mul, Nat.mul_comm (col / tab) tab]
  omega

theorem stp_lt (col c tab : Nat) (h : 1 ≤ tab) : col < stp col c tab ∧ stp col c tab ≤ col + tab := by
  have h2 := Nat.mod_lt col (show tab > 0 by omega)
  unfold stp; split <;> omega

theorem hidden {p : Prop} (h : p) : Hid p := h

def blankB (c : Nat) : Bool := decide (c = 32 ∨ c = 9)

set_option maxHeartbeats 400000 in
theorem blank_any (c : Nat) (w : World) (hc : c < 256) :
    Calls Tryd.prog 25 #[.int .u8 c] w fun e w' => e = .returned (.bool (blankB c)) ∧ w' = w := by
  by_cases h : c = 32
  · subst h
    go_enter Tryd.func25, Tryd.ntmps25
    go_wp2
    go_ret
    exact ⟨rfl, rfl⟩
  · have hb : ((c : Int) == 32) = false := by simp; omega
    have e : blankB c = ((c : Int) == 9) := by
      unfold blankB; rw [Bool.eq_iff_iff]; simp; omega
    rw [e]
    go_enter Tryd.func25, Tryd.ntmps25
    go_wp2
    go_ret
    exact ⟨rfl, rfl⟩

set_option maxHeartbeats 400000 in
theorem rblank_any (c : Nat) (w : World) (hc : c < 256) :
    Calls Tryd.prog 26 #[.int .u8 c] w fun e w' => e = .returned (.bool (blankB c)) ∧ w' = w := by
  by_cases h : c = 32
  · subst h
    go_enter Tryd.func26, Tryd.ntmps26
    go_wp2
    go_ret
    exact ⟨rfl, rfl⟩
  · have hb : ((c : Int) == 32) = false := by simp; omega
    have e : blankB c = ((c : Int) == 9) := by
      unfold blankB; rw [Bool.eq_iff_iff]; simp; omega
    rw [e]
    go_enter Tryd.func26, Tryd.ntmps26
    go_wp2
    go_ret
    exact ⟨rfl, rfl⟩
end Go.Proofs.PlatenGlyph
