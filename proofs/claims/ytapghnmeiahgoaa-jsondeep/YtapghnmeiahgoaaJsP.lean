/- What inside of the document's machine comes to. -/
import Derived.Test.YtapghnmeiahgoaaJsO
namespace Go.Proofs.PlatenJson
open Go Go.RowKit
set_option linter.unusedVariables false
set_option maxRecDepth 100000
section
variable {B K : Nat} {w0 w : World}
set_option maxHeartbeats 4000000 in
theorem inside6 {sv lv : Value} {S : List Nat} {fr : Nat} {nm : Bool} {left : List Nat} {cnt : Nat} {T : List Tk} (h : MS B K w0 w sv lv 6 S fr nm (strOf left) cnt T) (c i : Nat) (hc : c < 256) (hi : i ≤ 100000) (hf : fr ≤ i) (hT : T.length ≤ 1000000) :
    Calls Try.prog 28 #[.pointer (some ⟨K, 0, none⟩), .int .u8 (c : Nat), .int .i64 (i : Nat)] w (Does B K w0 (inside ⟨6, S, fr, nm, left, cnt, T⟩ c i)) := by
  have c0 := h.c0
  have f0 := h.free 0
  have H := hidden h
  have hi1 : ((i + 1 : Nat) : Int) = (i : Int) + 1 := by omega
  by_cases h32 : c < 32
  · have z32 : (c : Int) < 32 := by omega
    have e1 : Hid (inside ⟨6, S, fr, nm, left, cnt, T⟩ c i = (5, ⟨6, S, fr, nm, left, cnt, T⟩)) := by unfold Hid; simp [inside, h32]
    clear h h32
    go_enter Try.func28, Try.ntmps28
    go_wp2_with fail
    go_ret
    rw [e1.out]
    exact ⟨rfl, _, _, H.out⟩
  have z32 : ¬ ((c : Int) < 32) := by omega
  by_cases h34 : c = 34
  · have z34 : ((c : Int) == 34) = true := by simp; omega
    have e1 : Hid (inside ⟨6, S, fr, nm, left, cnt, T⟩ c i = (0, atom ⟨6, S, fr, nm, left, cnt, T⟩ (i + 1))) := by unfold Hid; simp [inside, h34]
    have ca := atom_any (M := ⟨6, S, fr, nm, left, cnt, T⟩) ⟨_, _, h⟩ (i + 1) (by simp only; omega) (by omega) hT
    rw [hi1] at ca
    clear h h34 h32
    go_enter Try.func28, Try.ntmps28
    go_wp2_with fail
    refine ca.mono ?_
    rintro e w2 ⟨rfl, h2⟩
    have H2 := hidden h2
    clear ca h2
    go_wp2_with fail
    go_ret
    rw [e1.out]
    exact ⟨rfl, H2.out⟩
  have z34 : ((c : Int) == 34) = false := by simp; omega
  by_cases h92 : c = 92
  · have z92 : ((c : Int) == 92) = true := by simp; omega
    have e1 : Hid (inside ⟨6, S, fr, nm, left, cnt, T⟩ c i = (0, ⟨7, S, fr, nm, left, cnt, T⟩)) := by unfold Hid; simp [inside, h92]
    have H2 := hidden (h.state 7)
    clear h h34 h32 h92
    go_enter Try.func28, Try.ntmps28
    go_wp2_with fail
    go_ret
    rw [e1.out]
    exact ⟨rfl, _, _, H2.out⟩
  have z92 : ((c : Int) == 92) = false := by simp; omega
  have e1 : Hid (inside ⟨6, S, fr, nm, left, cnt, T⟩ c i = (0, ⟨6, S, fr, nm, left, cnt, T⟩)) := by unfold Hid; simp [inside, h32, h34, h92]
  clear h h34 h32 h92
  go_enter Try.func28, Try.ntmps28
  go_wp2_with fail
  go_ret
  rw [e1.out]
  exact ⟨rfl, _, _, H.out⟩
set_option maxHeartbeats 4000000 in
theorem inside7 {sv lv : Value} {S : List Nat} {fr : Nat} {nm : Bool} {left : List Nat} {cnt : Nat} {T : List Tk} (h : MS B K w0 w sv lv 7 S fr nm (strOf left) cnt T) (c i : Nat) (hc : c < 256) (hi : i ≤ 100000) :
    Calls Try.prog 28 #[.pointer (some ⟨K, 0, none⟩), .int .u8 (c : Nat), .int .i64 (i : Nat)] w (Does B K w0 (inside ⟨7, S, fr, nm, left, cnt, T⟩ c i)) := by
  have c0 := h.c0
  have f0 := h.free 0
  have H := hidden h
  have c5 := h.c5
  have f5 := h.free 5
  by_cases h117 : c = 117
  · have z117 : ((c : Int) == 117) = true := by simp; omega
    have e1 : Hid (inside ⟨7, S, fr, nm, left, cnt, T⟩ c i = (0, ⟨8, S, fr, nm, left, 4, T⟩)) := by unfold Hid; simp [inside, h117]
    have H2 := hidden ((h.state 8).count 4)
    clear h h117
    go_enter Try.func28, Try.ntmps28
    go_wp2_with fail
    go_ret
    rw [e1.out]
    exact ⟨rfl, _, _, H2.out⟩
  have z117 : ((c : Int) == 117) = false := by simp; omega
  have H2 := hidden (h.state 6)
  by_cases h34 : c = 34
  · have z34 : ((c : Int) == 34) = true := by simp; omega
    have e1 : Hid (inside ⟨7, S, fr, nm, left, cnt, T⟩ c i = (0, ⟨6, S, fr, nm, left, cnt, T⟩)) := by unfold Hid; subst h34; simp [inside, isE]
    clear h h117 h34 
    go_enter Try.func28, Try.ntmps28
    go_wp2_with fail
    go_ret
    rw [e1.out]
    exact ⟨rfl, _, _, H2.out⟩
  have z34 : ((c : Int) == 34) = false := by simp; omega
  by_cases h92 : c = 92
  · have z92 : ((c : Int) == 92) = true := by simp; omega
    have e1 : Hid (inside ⟨7, S, fr, nm, left, cnt, T⟩ c i = (0, ⟨6, S, fr, nm, left, cnt, T⟩)) := by unfold Hid; subst h92; simp [inside, isE]
    clear h h117 h92 h34
    go_enter Try.func28, Try.ntmps28
    go_wp2_with fail
    go_ret
    rw [e1.out]
    exact ⟨rfl, _, _, H2.out⟩
  have z92 : ((c : Int) == 92) = false := by simp; omega
  by_cases h47 : c = 47
  · have z47 : ((c : Int) == 47) = true := by simp; omega
    have e1 : Hid (inside ⟨7, S, fr, nm, left, cnt, T⟩ c i = (0, ⟨6, S, fr, nm, left, cnt, T⟩)) := by unfold Hid; subst h47; simp [inside, isE]
    clear h h117 h47 h34 h92
    go_enter Try.func28, Try.ntmps28
    go_wp2_with fail
    go_ret
    rw [e1.out]
    exact ⟨rfl, _, _, H2.out⟩
  have z47 : ((c : Int) == 47) = false := by simp; omega
  by_cases h98 : c = 98
  · have z98 : ((c : Int) == 98) = true := by simp; omega
    have e1 : Hid (inside ⟨7, S, fr, nm, left, cnt, T⟩ c i = (0, ⟨6, S, fr, nm, left, cnt, T⟩)) := by unfold Hid; subst h98; simp [inside, isE]
    clear h h117 h98 h34 h92 h47
    go_enter Try.func28, Try.ntmps28
    go_wp2_with fail
    go_ret
    rw [e1.out]
    exact ⟨rfl, _, _, H2.out⟩
  have z98 : ((c : Int) == 98) = false := by simp; omega
  by_cases h102 : c = 102
  · have z102 : ((c : Int) == 102) = true := by simp; omega
    have e1 : Hid (inside ⟨7, S, fr, nm, left, cnt, T⟩ c i = (0, ⟨6, S, fr, nm, left, cnt, T⟩)) := by unfold Hid; subst h102; simp [inside, isE]
    clear h h117 h102 h34 h92 h47 h98
    go_enter Try.func28, Try.ntmps28
    go_wp2_with fail
    go_ret
    rw [e1.out]
    exact ⟨rfl, _, _, H2.out⟩
  have z102 : ((c : Int) == 102) = false := by simp; omega
  by_cases h110 : c = 110
  · have z110 : ((c : Int) == 110) = true := by simp; omega
    have e1 : Hid (inside ⟨7, S, fr, nm, left, cnt, T⟩ c i = (0, ⟨6, S, fr, nm, left, cnt, T⟩)) := by unfold Hid; subst h110; simp [inside, isE]
    clear h h117 h110 h34 h92 h47 h98 h102
    go_enter Try.func28, Try.ntmps28
    go_wp2_with fail
    go_ret
    rw [e1.out]
    exact ⟨rfl, _, _, H2.out⟩
  have z110 : ((c : Int) == 110) = false := by simp; omega
  by_cases h114 : c = 114
  · have z114 : ((c : Int) == 114) = true := by simp; omega
    have e1 : Hid (inside ⟨7, S, fr, nm, left, cnt, T⟩ c i = (0, ⟨6, S, fr, nm, left, cnt, T⟩)) := by unfold Hid; subst h114; simp [inside, isE]
    clear h h117 h114 h34 h92 h47 h98 h102 h110
    go_enter Try.func28, Try.ntmps28
    go_wp2_with fail
    go_ret
    rw [e1.out]
    exact ⟨rfl, _, _, H2.out⟩
  have z114 : ((c : Int) == 114) = false := by simp; omega
  by_cases h116 : c = 116
  · have z116 : ((c : Int) == 116) = true := by simp; omega
    have e1 : Hid (inside ⟨7, S, fr, nm, left, cnt, T⟩ c i = (0, ⟨6, S, fr, nm, left, cnt, T⟩)) := by unfold Hid; subst h116; simp [inside, isE]
    clear h h117 h116 h34 h92 h47 h98 h102 h110 h114
    go_enter Try.func28, Try.ntmps28
    go_wp2_with fail
    go_ret
    rw [e1.out]
    exact ⟨rfl, _, _, H2.out⟩
  have z116 : ((c : Int) == 116) = false := by simp; omega
  have e1 : Hid (inside ⟨7, S, fr, nm, left, cnt, T⟩ c i = (5, ⟨6, S, fr, nm, left, cnt, T⟩)) := by unfold Hid; simp [inside, isE, h117, h34, h92, h47, h98, h102, h110, h114, h116]
  clear h h117 h34 h92 h47 h98 h102 h110 h114 h116
  go_enter Try.func28, Try.ntmps28
  go_wp2_with fail
  go_ret
  rw [e1.out]
  exact ⟨rfl, _, _, H2.out⟩
set_option maxHeartbeats 4000000 in
theorem inside8 {sv lv : Value} {S : List Nat} {fr : Nat} {nm : Bool} {left : List Nat} {cnt : Nat} {T : List Tk} (h : MS B K w0 w sv lv 8 S fr nm (strOf left) cnt T) (c i : Nat) (hc : c < 256) (hi : i ≤ 100000) (h1 : 1 ≤ cnt) (h4 : cnt ≤ 4) :
    Calls Try.prog 28 #[.pointer (some ⟨K, 0, none⟩), .int .u8 (c : Nat), .int .i64 (i : Nat)] w (Does B K w0 (inside ⟨8, S, fr, nm, left, cnt, T⟩ c i)) := by
  have c0 := h.c0
  have f0 := h.free 0
  have H := hidden h
  have cd := digit_any c w hc
  by_cases hD : isD c = true
  · have hH : isH c = true := by simp [isH, hD]
    rw [hD] at cd
    clear hD
    have c5 := h.c5
    have f5 := h.free 5
    have hc1 : ((cnt : Int) - 1) = ((cnt - 1 : Nat) : Int) := by omega
    have H2 : Hid (MS B K w0 (w.setCell ⟨K, 5, none⟩ (.int .i64 ((cnt : Int) - 1))) sv lv 8 S fr nm (strOf left) (cnt - 1) T) := by
      have := h.count (cnt - 1)
      rw [← hc1] at this
      exact this
    by_cases hz : cnt - 1 = 0
    · have zz : ((cnt : Int) - 1 == 0) = true := by simp; omega
      have e1 : Hid (inside ⟨8, S, fr, nm, left, cnt, T⟩ c i = (0, ⟨6, S, fr, nm, left, cnt - 1, T⟩)) := by unfold Hid; simp [inside, hH, hz]
      have H3 := hidden (H2.out.state 6)
      clear h hz hc1 hH
      go_enter Try.func28, Try.ntmps28
      go_wp2_with fail
      refine cd.mono ?_
      rintro e w2 ⟨rfl, rfl⟩
      go_wp2_with fail
      go_ret
      rw [e1.out]
      exact ⟨rfl, _, _, H3.out⟩
    · have zz : ((cnt : Int) - 1 == 0) = false := by simp; omega
      have e1 : Hid (inside ⟨8, S, fr, nm, left, cnt, T⟩ c i = (0, ⟨8, S, fr, nm, left, cnt - 1, T⟩)) := by unfold Hid; simp [inside, hH, hz]
      clear h hz hc1 hH
      go_enter Try.func28, Try.ntmps28
      go_wp2_with fail
      refine cd.mono ?_
      rintro e w2 ⟨rfl, rfl⟩
      go_wp2_with fail
      go_ret
      rw [e1.out]
      exact ⟨rfl, _, _, H2.out⟩
  have hD' : isD c = false := by simpa using hD
  rw [hD'] at cd
  by_cases q1 : 97 ≤ c ∧ c ≤ 102
  · have hH : isH c = true := by simp [isH, q1]
    have z1 : ¬ ((c : Int) < 97) := by omega
    have z2 : ¬ ((102 : Int) < (c : Int)) := by omega
    clear hD hD' q1
    have c5 := h.c5
    have f5 := h.free 5
    have hc1 : ((cnt : Int) - 1) = ((cnt - 1 : Nat) : Int) := by omega
    have H2 : Hid (MS B K w0 (w.setCell ⟨K, 5, none⟩ (.int .i64 ((cnt : Int) - 1))) sv lv 8 S fr nm (strOf left) (cnt - 1) T) := by
      have := h.count (cnt - 1)
      rw [← hc1] at this
      exact this
    by_cases hz : cnt - 1 = 0
    · have zz : ((cnt : Int) - 1 == 0) = true := by simp; omega
      have e1 : Hid (inside ⟨8, S, fr, nm, left, cnt, T⟩ c i = (0, ⟨6, S, fr, nm, left, cnt - 1, T⟩)) := by unfold Hid; simp [inside, hH, hz]
      have H3 := hidden (H2.out.state 6)
      clear h hz hc1 hH
      go_enter Try.func28, Try.ntmps28
      go_wp2_with fail
      refine cd.mono ?_
      rintro e w2 ⟨rfl, rfl⟩
      go_wp2_with fail
      go_ret
      rw [e1.out]
      exact ⟨rfl, _, _, H3.out⟩
    · have zz : ((cnt : Int) - 1 == 0) = false := by simp; omega
      have e1 : Hid (inside ⟨8, S, fr, nm, left, cnt, T⟩ c i = (0, ⟨8, S, fr, nm, left, cnt - 1, T⟩)) := by unfold Hid; simp [inside, hH, hz]
      clear h hz hc1 hH
      go_enter Try.func28, Try.ntmps28
      go_wp2_with fail
      refine cd.mono ?_
      rintro e w2 ⟨rfl, rfl⟩
      go_wp2_with fail
      go_ret
      rw [e1.out]
      exact ⟨rfl, _, _, H2.out⟩
  by_cases q2 : 65 ≤ c ∧ c ≤ 70
  · have hH : isH c = true := by simp [isH, q2]
    have z1 : (c : Int) < 97 := by omega
    have z3 : ¬ ((c : Int) < 65) := by omega
    have z4 : ¬ ((70 : Int) < (c : Int)) := by omega
    clear hD hD' q1 q2
    have c5 := h.c5
    have f5 := h.free 5
    have hc1 : ((cnt : Int) - 1) = ((cnt - 1 : Nat) : Int) := by omega
    have H2 : Hid (MS B K w0 (w.setCell ⟨K, 5, none⟩ (.int .i64 ((cnt : Int) - 1))) sv lv 8 S fr nm (strOf left) (cnt - 1) T) := by
      have := h.count (cnt - 1)
      rw [← hc1] at this
      exact this
    by_cases hz : cnt - 1 = 0
    · have zz : ((cnt : Int) - 1 == 0) = true := by simp; omega
      have e1 : Hid (inside ⟨8, S, fr, nm, left, cnt, T⟩ c i = (0, ⟨6, S, fr, nm, left, cnt - 1, T⟩)) := by unfold Hid; simp [inside, hH, hz]
      have H3 := hidden (H2.out.state 6)
      clear h hz hc1 hH
      go_enter Try.func28, Try.ntmps28
      go_wp2_with fail
      refine cd.mono ?_
      rintro e w2 ⟨rfl, rfl⟩
      go_wp2_with fail
      go_ret
      rw [e1.out]
      exact ⟨rfl, _, _, H3.out⟩
    · have zz : ((cnt : Int) - 1 == 0) = false := by simp; omega
      have e1 : Hid (inside ⟨8, S, fr, nm, left, cnt, T⟩ c i = (0, ⟨8, S, fr, nm, left, cnt - 1, T⟩)) := by unfold Hid; simp [inside, hH, hz]
      clear h hz hc1 hH
      go_enter Try.func28, Try.ntmps28
      go_wp2_with fail
      refine cd.mono ?_
      rintro e w2 ⟨rfl, rfl⟩
      go_wp2_with fail
      go_ret
      rw [e1.out]
      exact ⟨rfl, _, _, H2.out⟩
  have e1 : Hid (inside ⟨8, S, fr, nm, left, cnt, T⟩ c i = (5, ⟨8, S, fr, nm, left, cnt, T⟩)) := by
    have hH : isH c = false := by
      simp only [isH, hD', Bool.false_or, Bool.or_eq_false_iff, Bool.and_eq_false_iff, decide_eq_false_iff_not]
      exact ⟨by omega, by omega⟩
    unfold Hid; simp [inside, hH]
  clear h hD hD'
  by_cases p1 : c < 97
  · have z1 : (c : Int) < 97 := by omega
    by_cases p3 : c < 65
    · have z3 : (c : Int) < 65 := by omega
      clear p1 p3 q1 q2
      go_enter Try.func28, Try.ntmps28
      go_wp2_with fail
      refine cd.mono ?_
      rintro e w2 ⟨rfl, rfl⟩
      go_wp2_with fail
      go_ret
      rw [e1.out]
      exact ⟨rfl, _, _, H.out⟩
    · have z3 : ¬ ((c : Int) < 65) := by omega
      have z4 : (70 : Int) < (c : Int) := by omega
      clear p1 p3 q1 q2
      go_enter Try.func28, Try.ntmps28
      go_wp2_with fail
      refine cd.mono ?_
      rintro e w2 ⟨rfl, rfl⟩
      go_wp2_with fail
      go_ret
      rw [e1.out]
      exact ⟨rfl, _, _, H.out⟩
  · have z1 : ¬ ((c : Int) < 97) := by omega
    have z2 : (102 : Int) < (c : Int) := by omega
    have z3 : ¬ ((c : Int) < 65) := by omega
    have z4 : (70 : Int) < (c : Int) := by omega
    clear p1 q1 q2
    go_enter Try.func28, Try.ntmps28
    go_wp2_with fail
    refine cd.mono ?_
    rintro e w2 ⟨rfl, rfl⟩
    go_wp2_with fail
    go_ret
    rw [e1.out]
    exact ⟨rfl, _, _, H.out⟩
end
end Go.Proofs.PlatenJson
