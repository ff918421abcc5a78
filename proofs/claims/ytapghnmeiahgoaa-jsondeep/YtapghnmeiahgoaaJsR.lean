/- What feed of the document's machine comes to. -/
import Derived.Test.YtapghnmeiahgoaaJsQ
namespace Go.Proofs.PlatenJson
open Go Go.RowKit
set_option linter.unusedVariables false
set_option maxRecDepth 100000

/-- What holds of the machine ahead of byte i. -/
structure Iv (M : Mc) (i : Nat) : Prop where
  s : M.st ≤ 17
  S : M.stack.length ≤ 512
  fr : M.fr ≤ i
  l : M.l.length ≤ 2 * i
  h : M.st = 8 → 1 ≤ M.cnt ∧ M.cnt ≤ 4
  w : M.st = 17 → ∃ b r, M.left = b :: r ∧ ∀ x ∈ M.left, x < 256
section
variable {B K : Nat} {w0 w : World}
set_option maxHeartbeats 8000000 in
theorem feed0 {sv lv : Value} {S : List Nat} {fr : Nat} {nm : Bool} {left : List Nat} {cnt : Nat} {T : List Tk} (h : MS B K w0 w sv lv 0 S fr nm (strOf left) cnt T) (c i : Nat) (hc : c < 256) (hi : i < 100000) (hv : Iv ⟨0, S, fr, nm, left, cnt, T⟩ i) :
    Calls Try.prog 17 #[.pointer (some ⟨K, 0, none⟩), .int .u8 (c : Nat), .int .i64 (i : Nat)] w (Does B K w0 (feed ⟨0, S, fr, nm, left, cnt, T⟩ c i)) := by
  have c0 := h.c0
  have f0 := h.free 0
  have hm : MM B K w0 w ⟨0, S, fr, nm, left, cnt, T⟩ := ⟨_, _, h⟩
  have hvS := hv.S
  have hvl := hv.l
  have hvf := hv.fr
  simp only at hvS hvl hvf
  have ce : Calls Try.prog 18 #[.int .u8 0] w fun e w' => e = .returned (.bool false) ∧ w' = w := ends_any 0 w
  have cn : Calls Try.prog 27 #[.int .u8 0, .int .u8 (c : Nat)] w fun e w' => e = .returned (.tuple #[.int .u8 0, .bool false]) ∧ w' = w := by
    have := number_ref 0 c w (by decide) hc
    have e0 : numb 0 c = (0, false) := rfl
    rw [e0] at this
    exact this
  have HM := hidden hm
  have HMs := hidden h
  clear h hm hv
  by_cases b32 : c = 32
  · have z32 : ((c : Int) == 32) = true := by simp; omega
    have e1 : Hid (feed ⟨0, S, fr, nm, left, cnt, T⟩ c i = (0, ⟨0, S, fr, nm, left, cnt, T⟩)) := by unfold Hid; subst b32; simp [feed, numb, ends, feedA, isB]
    clear b32  
    go_enter Try.func17, Try.ntmps17
    go_wp2_with fail
    refine cn.mono ?_
    rintro e w1 ⟨rfl, rfl⟩
    go_wp2_with fail
    refine ce.mono ?_
    rintro e w1 ⟨rfl, rfl⟩
    go_wp2_with fail
    go_ret
    rw [e1.out]
    exact ⟨rfl, HM.out⟩
  have z32 : ((c : Int) == 32) = false := by simp; omega
  by_cases b9 : c = 9
  · have z9 : ((c : Int) == 9) = true := by simp; omega
    have e1 : Hid (feed ⟨0, S, fr, nm, left, cnt, T⟩ c i = (0, ⟨0, S, fr, nm, left, cnt, T⟩)) := by unfold Hid; subst b9; simp [feed, numb, ends, feedA, isB]
    clear b9  b32
    go_enter Try.func17, Try.ntmps17
    go_wp2_with fail
    refine cn.mono ?_
    rintro e w1 ⟨rfl, rfl⟩
    go_wp2_with fail
    refine ce.mono ?_
    rintro e w1 ⟨rfl, rfl⟩
    go_wp2_with fail
    go_ret
    rw [e1.out]
    exact ⟨rfl, HM.out⟩
  have z9 : ((c : Int) == 9) = false := by simp; omega
  by_cases b10 : c = 10
  · have z10 : ((c : Int) == 10) = true := by simp; omega
    have e1 : Hid (feed ⟨0, S, fr, nm, left, cnt, T⟩ c i = (0, ⟨0, S, fr, nm, left, cnt, T⟩)) := by unfold Hid; subst b10; simp [feed, numb, ends, feedA, isB]
    clear b10  b32 b9
    go_enter Try.func17, Try.ntmps17
    go_wp2_with fail
    refine cn.mono ?_
    rintro e w1 ⟨rfl, rfl⟩
    go_wp2_with fail
    refine ce.mono ?_
    rintro e w1 ⟨rfl, rfl⟩
    go_wp2_with fail
    go_ret
    rw [e1.out]
    exact ⟨rfl, HM.out⟩
  have z10 : ((c : Int) == 10) = false := by simp; omega
  by_cases b13 : c = 13
  · have z13 : ((c : Int) == 13) = true := by simp; omega
    have e1 : Hid (feed ⟨0, S, fr, nm, left, cnt, T⟩ c i = (0, ⟨0, S, fr, nm, left, cnt, T⟩)) := by unfold Hid; subst b13; simp [feed, numb, ends, feedA, isB]
    clear b13  b32 b9 b10
    go_enter Try.func17, Try.ntmps17
    go_wp2_with fail
    refine cn.mono ?_
    rintro e w1 ⟨rfl, rfl⟩
    go_wp2_with fail
    refine ce.mono ?_
    rintro e w1 ⟨rfl, rfl⟩
    go_wp2_with fail
    go_ret
    rw [e1.out]
    exact ⟨rfl, HM.out⟩
  have z13 : ((c : Int) == 13) = false := by simp; omega
  have hB : isB c = false := by simp [isB, b32, b9, b10, b13]
  clear b32 b9 b10 b13
  have e1 : Hid (feed ⟨0, S, fr, nm, left, cnt, T⟩ c i = begin' ⟨0, S, fr, nm, left, cnt, T⟩ c i) := by unfold Hid; simp [feed, numb, ends, feedA, hB]
  have cl := begin_any HM.out c i hc (by simp only; omega) (by simp only; omega)
  generalize begin' ⟨0, S, fr, nm, left, cnt, T⟩ c i = p at *
  clear hB
  go_enter Try.func17, Try.ntmps17
  go_wp2_with fail
  refine cn.mono ?_
  rintro e w1 ⟨rfl, rfl⟩
  go_wp2_with fail
  refine ce.mono ?_
  rintro e w1 ⟨rfl, rfl⟩
  go_wp2_with fail
  refine cl.mono ?_
  rintro e w4 ⟨rfl, h4⟩
  have H4 := hidden h4
  clear cl h4
  go_wp2_with fail
  go_ret
  rw [e1.out]
  exact ⟨rfl, H4.out⟩

set_option maxHeartbeats 8000000 in
theorem feed1 {sv lv : Value} {S : List Nat} {fr : Nat} {nm : Bool} {left : List Nat} {cnt : Nat} {T : List Tk} (h : MS B K w0 w sv lv 1 S fr nm (strOf left) cnt T) (c i : Nat) (hc : c < 256) (hi : i < 100000) (hv : Iv ⟨1, S, fr, nm, left, cnt, T⟩ i) :
    Calls Try.prog 17 #[.pointer (some ⟨K, 0, none⟩), .int .u8 (c : Nat), .int .i64 (i : Nat)] w (Does B K w0 (feed ⟨1, S, fr, nm, left, cnt, T⟩ c i)) := by
  have c0 := h.c0
  have f0 := h.free 0
  have hm : MM B K w0 w ⟨1, S, fr, nm, left, cnt, T⟩ := ⟨_, _, h⟩
  have hvS := hv.S
  have hvl := hv.l
  have hvf := hv.fr
  simp only at hvS hvl hvf
  have ce : Calls Try.prog 18 #[.int .u8 1] w fun e w' => e = .returned (.bool false) ∧ w' = w := ends_any 1 w
  have cn : Calls Try.prog 27 #[.int .u8 1, .int .u8 (c : Nat)] w fun e w' => e = .returned (.tuple #[.int .u8 0, .bool false]) ∧ w' = w := by
    have := number_ref 1 c w (by decide) hc
    have e0 : numb 1 c = (0, false) := rfl
    rw [e0] at this
    exact this
  have HM := hidden hm
  have HMs := hidden h
  clear h hm hv
  by_cases b32 : c = 32
  · have z32 : ((c : Int) == 32) = true := by simp; omega
    have e1 : Hid (feed ⟨1, S, fr, nm, left, cnt, T⟩ c i = (0, ⟨1, S, fr, nm, left, cnt, T⟩)) := by unfold Hid; subst b32; simp [feed, numb, ends, feedA, isB]
    clear b32  
    go_enter Try.func17, Try.ntmps17
    go_wp2_with fail
    refine cn.mono ?_
    rintro e w1 ⟨rfl, rfl⟩
    go_wp2_with fail
    refine ce.mono ?_
    rintro e w1 ⟨rfl, rfl⟩
    go_wp2_with fail
    go_ret
    rw [e1.out]
    exact ⟨rfl, HM.out⟩
  have z32 : ((c : Int) == 32) = false := by simp; omega
  by_cases b9 : c = 9
  · have z9 : ((c : Int) == 9) = true := by simp; omega
    have e1 : Hid (feed ⟨1, S, fr, nm, left, cnt, T⟩ c i = (0, ⟨1, S, fr, nm, left, cnt, T⟩)) := by unfold Hid; subst b9; simp [feed, numb, ends, feedA, isB]
    clear b9  b32
    go_enter Try.func17, Try.ntmps17
    go_wp2_with fail
    refine cn.mono ?_
    rintro e w1 ⟨rfl, rfl⟩
    go_wp2_with fail
    refine ce.mono ?_
    rintro e w1 ⟨rfl, rfl⟩
    go_wp2_with fail
    go_ret
    rw [e1.out]
    exact ⟨rfl, HM.out⟩
  have z9 : ((c : Int) == 9) = false := by simp; omega
  by_cases b10 : c = 10
  · have z10 : ((c : Int) == 10) = true := by simp; omega
    have e1 : Hid (feed ⟨1, S, fr, nm, left, cnt, T⟩ c i = (0, ⟨1, S, fr, nm, left, cnt, T⟩)) := by unfold Hid; subst b10; simp [feed, numb, ends, feedA, isB]
    clear b10  b32 b9
    go_enter Try.func17, Try.ntmps17
    go_wp2_with fail
    refine cn.mono ?_
    rintro e w1 ⟨rfl, rfl⟩
    go_wp2_with fail
    refine ce.mono ?_
    rintro e w1 ⟨rfl, rfl⟩
    go_wp2_with fail
    go_ret
    rw [e1.out]
    exact ⟨rfl, HM.out⟩
  have z10 : ((c : Int) == 10) = false := by simp; omega
  by_cases b13 : c = 13
  · have z13 : ((c : Int) == 13) = true := by simp; omega
    have e1 : Hid (feed ⟨1, S, fr, nm, left, cnt, T⟩ c i = (0, ⟨1, S, fr, nm, left, cnt, T⟩)) := by unfold Hid; subst b13; simp [feed, numb, ends, feedA, isB]
    clear b13  b32 b9 b10
    go_enter Try.func17, Try.ntmps17
    go_wp2_with fail
    refine cn.mono ?_
    rintro e w1 ⟨rfl, rfl⟩
    go_wp2_with fail
    refine ce.mono ?_
    rintro e w1 ⟨rfl, rfl⟩
    go_wp2_with fail
    go_ret
    rw [e1.out]
    exact ⟨rfl, HM.out⟩
  have z13 : ((c : Int) == 13) = false := by simp; omega
  have hB : isB c = false := by simp [isB, b32, b9, b10, b13]
  clear b32 b9 b10 b13
  by_cases h93 : c = 93
  · have z93 : ((c : Int) == 93) = true := by simp; omega
    have e1 : Hid (feed ⟨1, S, fr, nm, left, cnt, T⟩ c i = next ⟨1, S, fr, nm, left, cnt, T⟩ c i) := by unfold Hid; simp [feed, numb, ends, feedA, h93, isB]
    have cl := next_any HM.out c i (by simp only; omega) (by simp only; omega)
    generalize next ⟨1, S, fr, nm, left, cnt, T⟩ c i = p at *
    clear hB h93
    go_enter Try.func17, Try.ntmps17
    go_wp2_with fail
    refine cn.mono ?_
    rintro e w1 ⟨rfl, rfl⟩
    go_wp2_with fail
    refine ce.mono ?_
    rintro e w1 ⟨rfl, rfl⟩
    go_wp2_with fail
    refine cl.mono ?_
    rintro e w4 ⟨rfl, h4⟩
    have H4 := hidden h4
    clear cl h4
    go_wp2_with fail
    go_ret
    rw [e1.out]
    exact ⟨rfl, H4.out⟩
  have z93 : ((c : Int) == 93) = false := by simp; omega
  have e1 : Hid (feed ⟨1, S, fr, nm, left, cnt, T⟩ c i = begin' ⟨1, S, fr, nm, left, cnt, T⟩ c i) := by unfold Hid; simp [feed, numb, ends, feedA, hB, h93]
  have cl := begin_any HM.out c i hc (by simp only; omega) (by simp only; omega)
  generalize begin' ⟨1, S, fr, nm, left, cnt, T⟩ c i = p at *
  clear hB h93
  go_enter Try.func17, Try.ntmps17
  go_wp2_with fail
  refine cn.mono ?_
  rintro e w1 ⟨rfl, rfl⟩
  go_wp2_with fail
  refine ce.mono ?_
  rintro e w1 ⟨rfl, rfl⟩
  go_wp2_with fail
  refine cl.mono ?_
  rintro e w4 ⟨rfl, h4⟩
  have H4 := hidden h4
  clear cl h4
  go_wp2_with fail
  go_ret
  rw [e1.out]
  exact ⟨rfl, H4.out⟩

set_option maxHeartbeats 8000000 in
theorem feed2 {sv lv : Value} {S : List Nat} {fr : Nat} {nm : Bool} {left : List Nat} {cnt : Nat} {T : List Tk} (h : MS B K w0 w sv lv 2 S fr nm (strOf left) cnt T) (c i : Nat) (hc : c < 256) (hi : i < 100000) (hv : Iv ⟨2, S, fr, nm, left, cnt, T⟩ i) :
    Calls Try.prog 17 #[.pointer (some ⟨K, 0, none⟩), .int .u8 (c : Nat), .int .i64 (i : Nat)] w (Does B K w0 (feed ⟨2, S, fr, nm, left, cnt, T⟩ c i)) := by
  have c0 := h.c0
  have f0 := h.free 0
  have hm : MM B K w0 w ⟨2, S, fr, nm, left, cnt, T⟩ := ⟨_, _, h⟩
  have hvS := hv.S
  have hvl := hv.l
  have hvf := hv.fr
  simp only at hvS hvl hvf
  have ce : Calls Try.prog 18 #[.int .u8 2] w fun e w' => e = .returned (.bool false) ∧ w' = w := ends_any 2 w
  have cn : Calls Try.prog 27 #[.int .u8 2, .int .u8 (c : Nat)] w fun e w' => e = .returned (.tuple #[.int .u8 0, .bool false]) ∧ w' = w := by
    have := number_ref 2 c w (by decide) hc
    have e0 : numb 2 c = (0, false) := rfl
    rw [e0] at this
    exact this
  have HM := hidden hm
  have HMs := hidden h
  clear h hm hv
  by_cases b32 : c = 32
  · have z32 : ((c : Int) == 32) = true := by simp; omega
    have e1 : Hid (feed ⟨2, S, fr, nm, left, cnt, T⟩ c i = (0, ⟨2, S, fr, nm, left, cnt, T⟩)) := by unfold Hid; subst b32; simp [feed, numb, ends, feedA, isB]
    clear b32  
    go_enter Try.func17, Try.ntmps17
    go_wp2_with fail
    refine cn.mono ?_
    rintro e w1 ⟨rfl, rfl⟩
    go_wp2_with fail
    refine ce.mono ?_
    rintro e w1 ⟨rfl, rfl⟩
    go_wp2_with fail
    go_ret
    rw [e1.out]
    exact ⟨rfl, HM.out⟩
  have z32 : ((c : Int) == 32) = false := by simp; omega
  by_cases b9 : c = 9
  · have z9 : ((c : Int) == 9) = true := by simp; omega
    have e1 : Hid (feed ⟨2, S, fr, nm, left, cnt, T⟩ c i = (0, ⟨2, S, fr, nm, left, cnt, T⟩)) := by unfold Hid; subst b9; simp [feed, numb, ends, feedA, isB]
    clear b9  b32
    go_enter Try.func17, Try.ntmps17
    go_wp2_with fail
    refine cn.mono ?_
    rintro e w1 ⟨rfl, rfl⟩
    go_wp2_with fail
    refine ce.mono ?_
    rintro e w1 ⟨rfl, rfl⟩
    go_wp2_with fail
    go_ret
    rw [e1.out]
    exact ⟨rfl, HM.out⟩
  have z9 : ((c : Int) == 9) = false := by simp; omega
  by_cases b10 : c = 10
  · have z10 : ((c : Int) == 10) = true := by simp; omega
    have e1 : Hid (feed ⟨2, S, fr, nm, left, cnt, T⟩ c i = (0, ⟨2, S, fr, nm, left, cnt, T⟩)) := by unfold Hid; subst b10; simp [feed, numb, ends, feedA, isB]
    clear b10  b32 b9
    go_enter Try.func17, Try.ntmps17
    go_wp2_with fail
    refine cn.mono ?_
    rintro e w1 ⟨rfl, rfl⟩
    go_wp2_with fail
    refine ce.mono ?_
    rintro e w1 ⟨rfl, rfl⟩
    go_wp2_with fail
    go_ret
    rw [e1.out]
    exact ⟨rfl, HM.out⟩
  have z10 : ((c : Int) == 10) = false := by simp; omega
  by_cases b13 : c = 13
  · have z13 : ((c : Int) == 13) = true := by simp; omega
    have e1 : Hid (feed ⟨2, S, fr, nm, left, cnt, T⟩ c i = (0, ⟨2, S, fr, nm, left, cnt, T⟩)) := by unfold Hid; subst b13; simp [feed, numb, ends, feedA, isB]
    clear b13  b32 b9 b10
    go_enter Try.func17, Try.ntmps17
    go_wp2_with fail
    refine cn.mono ?_
    rintro e w1 ⟨rfl, rfl⟩
    go_wp2_with fail
    refine ce.mono ?_
    rintro e w1 ⟨rfl, rfl⟩
    go_wp2_with fail
    go_ret
    rw [e1.out]
    exact ⟨rfl, HM.out⟩
  have z13 : ((c : Int) == 13) = false := by simp; omega
  have hB : isB c = false := by simp [isB, b32, b9, b10, b13]
  clear b32 b9 b10 b13
  by_cases h125 : c = 125
  · have z125 : ((c : Int) == 125) = true := by simp; omega
    have e1 : Hid (feed ⟨2, S, fr, nm, left, cnt, T⟩ c i = next ⟨2, S, fr, nm, left, cnt, T⟩ c i) := by unfold Hid; simp [feed, numb, ends, feedA, h125, isB]
    have cl := next_any HM.out c i (by simp only; omega) (by simp only; omega)
    generalize next ⟨2, S, fr, nm, left, cnt, T⟩ c i = p at *
    clear hB h125
    go_enter Try.func17, Try.ntmps17
    go_wp2_with fail
    refine cn.mono ?_
    rintro e w1 ⟨rfl, rfl⟩
    go_wp2_with fail
    refine ce.mono ?_
    rintro e w1 ⟨rfl, rfl⟩
    go_wp2_with fail
    refine cl.mono ?_
    rintro e w4 ⟨rfl, h4⟩
    have H4 := hidden h4
    clear cl h4
    go_wp2_with fail
    go_ret
    rw [e1.out]
    exact ⟨rfl, H4.out⟩
  have z125 : ((c : Int) == 125) = false := by simp; omega
  by_cases h34 : c = 34
  · have z34 : ((c : Int) != 34) = false := by simp; omega
    have e1 : Hid (feed ⟨2, S, fr, nm, left, cnt, T⟩ c i = (0, ⟨6, S, i, true, left, cnt, T⟩)) := by unfold Hid; simp [feed, numb, ends, feedA, h34, isB]
    have H6 := hidden (((HMs.out.from' i).state 6).name true)
    have c2 := HMs.out.c2
    have f2 := HMs.out.free 2
    have c3 := HMs.out.c3
    have f3 := HMs.out.free 3
    clear hB h34 h125
    go_enter Try.func17, Try.ntmps17
    go_wp2_with fail
    refine cn.mono ?_
    rintro e w1 ⟨rfl, rfl⟩
    go_wp2_with fail
    refine ce.mono ?_
    rintro e w1 ⟨rfl, rfl⟩
    go_wp2_with fail
    go_ret
    rw [e1.out]
    exact ⟨rfl, _, _, H6.out⟩
  have z34 : ((c : Int) != 34) = true := by rw [bne_iff_ne]; omega
  have e1 : Hid (feed ⟨2, S, fr, nm, left, cnt, T⟩ c i = (5, ⟨2, S, fr, nm, left, cnt, T⟩)) := by unfold Hid; simp [feed, numb, ends, feedA, hB, h34, h125]
  clear hB h34 h125
  go_enter Try.func17, Try.ntmps17
  go_wp2_with fail
  refine cn.mono ?_
  rintro e w1 ⟨rfl, rfl⟩
  go_wp2_with fail
  refine ce.mono ?_
  rintro e w1 ⟨rfl, rfl⟩
  go_wp2_with fail
  go_ret
  rw [e1.out]
  exact ⟨rfl, HM.out⟩

set_option maxHeartbeats 8000000 in
theorem feed3 {sv lv : Value} {S : List Nat} {fr : Nat} {nm : Bool} {left : List Nat} {cnt : Nat} {T : List Tk} (h : MS B K w0 w sv lv 3 S fr nm (strOf left) cnt T) (c i : Nat) (hc : c < 256) (hi : i < 100000) (hv : Iv ⟨3, S, fr, nm, left, cnt, T⟩ i) :
    Calls Try.prog 17 #[.pointer (some ⟨K, 0, none⟩), .int .u8 (c : Nat), .int .i64 (i : Nat)] w (Does B K w0 (feed ⟨3, S, fr, nm, left, cnt, T⟩ c i)) := by
  have c0 := h.c0
  have f0 := h.free 0
  have hm : MM B K w0 w ⟨3, S, fr, nm, left, cnt, T⟩ := ⟨_, _, h⟩
  have hvS := hv.S
  have hvl := hv.l
  have hvf := hv.fr
  simp only at hvS hvl hvf
  have ce : Calls Try.prog 18 #[.int .u8 3] w fun e w' => e = .returned (.bool false) ∧ w' = w := ends_any 3 w
  have cn : Calls Try.prog 27 #[.int .u8 3, .int .u8 (c : Nat)] w fun e w' => e = .returned (.tuple #[.int .u8 0, .bool false]) ∧ w' = w := by
    have := number_ref 3 c w (by decide) hc
    have e0 : numb 3 c = (0, false) := rfl
    rw [e0] at this
    exact this
  have HM := hidden hm
  have HMs := hidden h
  clear h hm hv
  by_cases b32 : c = 32
  · have z32 : ((c : Int) == 32) = true := by simp; omega
    have e1 : Hid (feed ⟨3, S, fr, nm, left, cnt, T⟩ c i = (0, ⟨3, S, fr, nm, left, cnt, T⟩)) := by unfold Hid; subst b32; simp [feed, numb, ends, feedA, isB]
    clear b32  
    go_enter Try.func17, Try.ntmps17
    go_wp2_with fail
    refine cn.mono ?_
    rintro e w1 ⟨rfl, rfl⟩
    go_wp2_with fail
    refine ce.mono ?_
    rintro e w1 ⟨rfl, rfl⟩
    go_wp2_with fail
    go_ret
    rw [e1.out]
    exact ⟨rfl, HM.out⟩
  have z32 : ((c : Int) == 32) = false := by simp; omega
  by_cases b9 : c = 9
  · have z9 : ((c : Int) == 9) = true := by simp; omega
    have e1 : Hid (feed ⟨3, S, fr, nm, left, cnt, T⟩ c i = (0, ⟨3, S, fr, nm, left, cnt, T⟩)) := by unfold Hid; subst b9; simp [feed, numb, ends, feedA, isB]
    clear b9  b32
    go_enter Try.func17, Try.ntmps17
    go_wp2_with fail
    refine cn.mono ?_
    rintro e w1 ⟨rfl, rfl⟩
    go_wp2_with fail
    refine ce.mono ?_
    rintro e w1 ⟨rfl, rfl⟩
    go_wp2_with fail
    go_ret
    rw [e1.out]
    exact ⟨rfl, HM.out⟩
  have z9 : ((c : Int) == 9) = false := by simp; omega
  by_cases b10 : c = 10
  · have z10 : ((c : Int) == 10) = true := by simp; omega
    have e1 : Hid (feed ⟨3, S, fr, nm, left, cnt, T⟩ c i = (0, ⟨3, S, fr, nm, left, cnt, T⟩)) := by unfold Hid; subst b10; simp [feed, numb, ends, feedA, isB]
    clear b10  b32 b9
    go_enter Try.func17, Try.ntmps17
    go_wp2_with fail
    refine cn.mono ?_
    rintro e w1 ⟨rfl, rfl⟩
    go_wp2_with fail
    refine ce.mono ?_
    rintro e w1 ⟨rfl, rfl⟩
    go_wp2_with fail
    go_ret
    rw [e1.out]
    exact ⟨rfl, HM.out⟩
  have z10 : ((c : Int) == 10) = false := by simp; omega
  by_cases b13 : c = 13
  · have z13 : ((c : Int) == 13) = true := by simp; omega
    have e1 : Hid (feed ⟨3, S, fr, nm, left, cnt, T⟩ c i = (0, ⟨3, S, fr, nm, left, cnt, T⟩)) := by unfold Hid; subst b13; simp [feed, numb, ends, feedA, isB]
    clear b13  b32 b9 b10
    go_enter Try.func17, Try.ntmps17
    go_wp2_with fail
    refine cn.mono ?_
    rintro e w1 ⟨rfl, rfl⟩
    go_wp2_with fail
    refine ce.mono ?_
    rintro e w1 ⟨rfl, rfl⟩
    go_wp2_with fail
    go_ret
    rw [e1.out]
    exact ⟨rfl, HM.out⟩
  have z13 : ((c : Int) == 13) = false := by simp; omega
  have hB : isB c = false := by simp [isB, b32, b9, b10, b13]
  clear b32 b9 b10 b13
  have h125 : c = c := rfl
  cases z125 : ((c : Int) == 125) with
  | true =>
    by_cases h34 : c = 34
    · have z34 : ((c : Int) != 34) = false := by simp; omega
      have e1 : Hid (feed ⟨3, S, fr, nm, left, cnt, T⟩ c i = (0, ⟨6, S, i, true, left, cnt, T⟩)) := by unfold Hid; simp [feed, numb, ends, feedA, h34, isB]
      have H6 := hidden (((HMs.out.from' i).state 6).name true)
      have c2 := HMs.out.c2
      have f2 := HMs.out.free 2
      have c3 := HMs.out.c3
      have f3 := HMs.out.free 3
      clear hB h34 h125
      go_enter Try.func17, Try.ntmps17
      go_wp2_with fail
      refine cn.mono ?_
      rintro e w1 ⟨rfl, rfl⟩
      go_wp2_with fail
      refine ce.mono ?_
      rintro e w1 ⟨rfl, rfl⟩
      go_wp2_with fail
      go_ret
      rw [e1.out]
      exact ⟨rfl, _, _, H6.out⟩
    have z34 : ((c : Int) != 34) = true := by rw [bne_iff_ne]; omega
    have e1 : Hid (feed ⟨3, S, fr, nm, left, cnt, T⟩ c i = (5, ⟨3, S, fr, nm, left, cnt, T⟩)) := by unfold Hid; simp [feed, numb, ends, feedA, hB, h34]
    clear hB h34 h125
    go_enter Try.func17, Try.ntmps17
    go_wp2_with fail
    refine cn.mono ?_
    rintro e w1 ⟨rfl, rfl⟩
    go_wp2_with fail
    refine ce.mono ?_
    rintro e w1 ⟨rfl, rfl⟩
    go_wp2_with fail
    go_ret
    rw [e1.out]
    exact ⟨rfl, HM.out⟩
  | false =>
    by_cases h34 : c = 34
    · have z34 : ((c : Int) != 34) = false := by simp; omega
      have e1 : Hid (feed ⟨3, S, fr, nm, left, cnt, T⟩ c i = (0, ⟨6, S, i, true, left, cnt, T⟩)) := by unfold Hid; simp [feed, numb, ends, feedA, h34, isB]
      have H6 := hidden (((HMs.out.from' i).state 6).name true)
      have c2 := HMs.out.c2
      have f2 := HMs.out.free 2
      have c3 := HMs.out.c3
      have f3 := HMs.out.free 3
      clear hB h34 h125
      go_enter Try.func17, Try.ntmps17
      go_wp2_with fail
      refine cn.mono ?_
      rintro e w1 ⟨rfl, rfl⟩
      go_wp2_with fail
      refine ce.mono ?_
      rintro e w1 ⟨rfl, rfl⟩
      go_wp2_with fail
      go_ret
      rw [e1.out]
      exact ⟨rfl, _, _, H6.out⟩
    have z34 : ((c : Int) != 34) = true := by rw [bne_iff_ne]; omega
    have e1 : Hid (feed ⟨3, S, fr, nm, left, cnt, T⟩ c i = (5, ⟨3, S, fr, nm, left, cnt, T⟩)) := by unfold Hid; simp [feed, numb, ends, feedA, hB, h34]
    clear hB h34 h125
    go_enter Try.func17, Try.ntmps17
    go_wp2_with fail
    refine cn.mono ?_
    rintro e w1 ⟨rfl, rfl⟩
    go_wp2_with fail
    refine ce.mono ?_
    rintro e w1 ⟨rfl, rfl⟩
    go_wp2_with fail
    go_ret
    rw [e1.out]
    exact ⟨rfl, HM.out⟩

set_option maxHeartbeats 8000000 in
theorem feed4 {sv lv : Value} {S : List Nat} {fr : Nat} {nm : Bool} {left : List Nat} {cnt : Nat} {T : List Tk} (h : MS B K w0 w sv lv 4 S fr nm (strOf left) cnt T) (c i : Nat) (hc : c < 256) (hi : i < 100000) (hv : Iv ⟨4, S, fr, nm, left, cnt, T⟩ i) :
    Calls Try.prog 17 #[.pointer (some ⟨K, 0, none⟩), .int .u8 (c : Nat), .int .i64 (i : Nat)] w (Does B K w0 (feed ⟨4, S, fr, nm, left, cnt, T⟩ c i)) := by
  have c0 := h.c0
  have f0 := h.free 0
  have hm : MM B K w0 w ⟨4, S, fr, nm, left, cnt, T⟩ := ⟨_, _, h⟩
  have hvS := hv.S
  have hvl := hv.l
  have hvf := hv.fr
  simp only at hvS hvl hvf
  have ce : Calls Try.prog 18 #[.int .u8 4] w fun e w' => e = .returned (.bool false) ∧ w' = w := ends_any 4 w
  have cn : Calls Try.prog 27 #[.int .u8 4, .int .u8 (c : Nat)] w fun e w' => e = .returned (.tuple #[.int .u8 0, .bool false]) ∧ w' = w := by
    have := number_ref 4 c w (by decide) hc
    have e0 : numb 4 c = (0, false) := rfl
    rw [e0] at this
    exact this
  have HM := hidden hm
  have HMs := hidden h
  clear h hm hv
  by_cases b32 : c = 32
  · have z32 : ((c : Int) == 32) = true := by simp; omega
    have e1 : Hid (feed ⟨4, S, fr, nm, left, cnt, T⟩ c i = (0, ⟨4, S, fr, nm, left, cnt, T⟩)) := by unfold Hid; subst b32; simp [feed, numb, ends, feedA, isB]
    clear b32  
    go_enter Try.func17, Try.ntmps17
    go_wp2_with fail
    refine cn.mono ?_
    rintro e w1 ⟨rfl, rfl⟩
    go_wp2_with fail
    refine ce.mono ?_
    rintro e w1 ⟨rfl, rfl⟩
    go_wp2_with fail
    go_ret
    rw [e1.out]
    exact ⟨rfl, HM.out⟩
  have z32 : ((c : Int) == 32) = false := by simp; omega
  by_cases b9 : c = 9
  · have z9 : ((c : Int) == 9) = true := by simp; omega
    have e1 : Hid (feed ⟨4, S, fr, nm, left, cnt, T⟩ c i = (0, ⟨4, S, fr, nm, left, cnt, T⟩)) := by unfold Hid; subst b9; simp [feed, numb, ends, feedA, isB]
    clear b9  b32
    go_enter Try.func17, Try.ntmps17
    go_wp2_with fail
    refine cn.mono ?_
    rintro e w1 ⟨rfl, rfl⟩
    go_wp2_with fail
    refine ce.mono ?_
    rintro e w1 ⟨rfl, rfl⟩
    go_wp2_with fail
    go_ret
    rw [e1.out]
    exact ⟨rfl, HM.out⟩
  have z9 : ((c : Int) == 9) = false := by simp; omega
  by_cases b10 : c = 10
  · have z10 : ((c : Int) == 10) = true := by simp; omega
    have e1 : Hid (feed ⟨4, S, fr, nm, left, cnt, T⟩ c i = (0, ⟨4, S, fr, nm, left, cnt, T⟩)) := by unfold Hid; subst b10; simp [feed, numb, ends, feedA, isB]
    clear b10  b32 b9
    go_enter Try.func17, Try.ntmps17
    go_wp2_with fail
    refine cn.mono ?_
    rintro e w1 ⟨rfl, rfl⟩
    go_wp2_with fail
    refine ce.mono ?_
    rintro e w1 ⟨rfl, rfl⟩
    go_wp2_with fail
    go_ret
    rw [e1.out]
    exact ⟨rfl, HM.out⟩
  have z10 : ((c : Int) == 10) = false := by simp; omega
  by_cases b13 : c = 13
  · have z13 : ((c : Int) == 13) = true := by simp; omega
    have e1 : Hid (feed ⟨4, S, fr, nm, left, cnt, T⟩ c i = (0, ⟨4, S, fr, nm, left, cnt, T⟩)) := by unfold Hid; subst b13; simp [feed, numb, ends, feedA, isB]
    clear b13  b32 b9 b10
    go_enter Try.func17, Try.ntmps17
    go_wp2_with fail
    refine cn.mono ?_
    rintro e w1 ⟨rfl, rfl⟩
    go_wp2_with fail
    refine ce.mono ?_
    rintro e w1 ⟨rfl, rfl⟩
    go_wp2_with fail
    go_ret
    rw [e1.out]
    exact ⟨rfl, HM.out⟩
  have z13 : ((c : Int) == 13) = false := by simp; omega
  have hB : isB c = false := by simp [isB, b32, b9, b10, b13]
  clear b32 b9 b10 b13
  by_cases h58 : c = 58
  · have z58 : ((c : Int) != 58) = false := by simp; omega
    have e1 : Hid (feed ⟨4, S, fr, nm, left, cnt, T⟩ c i = (0, one ⟨4, S, fr, nm, left, cnt, T⟩ 4 i 0)) := by unfold Hid; simp [feed, numb, ends, feedA, h58, isB]
    have cl := one_any HM.out 4 i 0 (by simp only; omega)
    clear hB h58
    go_enter Try.func17, Try.ntmps17
    go_wp2_with fail
    refine cn.mono ?_
    rintro e w1 ⟨rfl, rfl⟩
    go_wp2_with fail
    refine ce.mono ?_
    rintro e w1 ⟨rfl, rfl⟩
    go_wp2_with fail
    refine cl.mono ?_
    rintro e w4 ⟨rfl, h4⟩
    have H4 := hidden h4
    clear cl h4
    go_wp2_with fail
    go_ret
    rw [e1.out]
    exact ⟨rfl, H4.out⟩
  have z58 : ((c : Int) != 58) = true := by rw [bne_iff_ne]; omega
  have e1 : Hid (feed ⟨4, S, fr, nm, left, cnt, T⟩ c i = (5, ⟨4, S, fr, nm, left, cnt, T⟩)) := by unfold Hid; simp [feed, numb, ends, feedA, hB, h58]
  clear hB h58
  go_enter Try.func17, Try.ntmps17
  go_wp2_with fail
  refine cn.mono ?_
  rintro e w1 ⟨rfl, rfl⟩
  go_wp2_with fail
  refine ce.mono ?_
  rintro e w1 ⟨rfl, rfl⟩
  go_wp2_with fail
  go_ret
  rw [e1.out]
  exact ⟨rfl, HM.out⟩

set_option maxHeartbeats 8000000 in
theorem feed5 {sv lv : Value} {S : List Nat} {fr : Nat} {nm : Bool} {left : List Nat} {cnt : Nat} {T : List Tk} (h : MS B K w0 w sv lv 5 S fr nm (strOf left) cnt T) (c i : Nat) (hc : c < 256) (hi : i < 100000) (hv : Iv ⟨5, S, fr, nm, left, cnt, T⟩ i) :
    Calls Try.prog 17 #[.pointer (some ⟨K, 0, none⟩), .int .u8 (c : Nat), .int .i64 (i : Nat)] w (Does B K w0 (feed ⟨5, S, fr, nm, left, cnt, T⟩ c i)) := by
  have c0 := h.c0
  have f0 := h.free 0
  have hm : MM B K w0 w ⟨5, S, fr, nm, left, cnt, T⟩ := ⟨_, _, h⟩
  have hvS := hv.S
  have hvl := hv.l
  have hvf := hv.fr
  simp only at hvS hvl hvf
  have ce : Calls Try.prog 18 #[.int .u8 5] w fun e w' => e = .returned (.bool false) ∧ w' = w := ends_any 5 w
  have cn : Calls Try.prog 27 #[.int .u8 5, .int .u8 (c : Nat)] w fun e w' => e = .returned (.tuple #[.int .u8 0, .bool false]) ∧ w' = w := by
    have := number_ref 5 c w (by decide) hc
    have e0 : numb 5 c = (0, false) := rfl
    rw [e0] at this
    exact this
  have HM := hidden hm
  have HMs := hidden h
  clear h hm hv
  by_cases b32 : c = 32
  · have z32 : ((c : Int) == 32) = true := by simp; omega
    have e1 : Hid (feed ⟨5, S, fr, nm, left, cnt, T⟩ c i = (0, ⟨5, S, fr, nm, left, cnt, T⟩)) := by unfold Hid; subst b32; simp [feed, numb, ends, feedA, isB]
    clear b32  
    go_enter Try.func17, Try.ntmps17
    go_wp2_with fail
    refine cn.mono ?_
    rintro e w1 ⟨rfl, rfl⟩
    go_wp2_with fail
    refine ce.mono ?_
    rintro e w1 ⟨rfl, rfl⟩
    go_wp2_with fail
    go_ret
    rw [e1.out]
    exact ⟨rfl, HM.out⟩
  have z32 : ((c : Int) == 32) = false := by simp; omega
  by_cases b9 : c = 9
  · have z9 : ((c : Int) == 9) = true := by simp; omega
    have e1 : Hid (feed ⟨5, S, fr, nm, left, cnt, T⟩ c i = (0, ⟨5, S, fr, nm, left, cnt, T⟩)) := by unfold Hid; subst b9; simp [feed, numb, ends, feedA, isB]
    clear b9  b32
    go_enter Try.func17, Try.ntmps17
    go_wp2_with fail
    refine cn.mono ?_
    rintro e w1 ⟨rfl, rfl⟩
    go_wp2_with fail
    refine ce.mono ?_
    rintro e w1 ⟨rfl, rfl⟩
    go_wp2_with fail
    go_ret
    rw [e1.out]
    exact ⟨rfl, HM.out⟩
  have z9 : ((c : Int) == 9) = false := by simp; omega
  by_cases b10 : c = 10
  · have z10 : ((c : Int) == 10) = true := by simp; omega
    have e1 : Hid (feed ⟨5, S, fr, nm, left, cnt, T⟩ c i = (0, ⟨5, S, fr, nm, left, cnt, T⟩)) := by unfold Hid; subst b10; simp [feed, numb, ends, feedA, isB]
    clear b10  b32 b9
    go_enter Try.func17, Try.ntmps17
    go_wp2_with fail
    refine cn.mono ?_
    rintro e w1 ⟨rfl, rfl⟩
    go_wp2_with fail
    refine ce.mono ?_
    rintro e w1 ⟨rfl, rfl⟩
    go_wp2_with fail
    go_ret
    rw [e1.out]
    exact ⟨rfl, HM.out⟩
  have z10 : ((c : Int) == 10) = false := by simp; omega
  by_cases b13 : c = 13
  · have z13 : ((c : Int) == 13) = true := by simp; omega
    have e1 : Hid (feed ⟨5, S, fr, nm, left, cnt, T⟩ c i = (0, ⟨5, S, fr, nm, left, cnt, T⟩)) := by unfold Hid; subst b13; simp [feed, numb, ends, feedA, isB]
    clear b13  b32 b9 b10
    go_enter Try.func17, Try.ntmps17
    go_wp2_with fail
    refine cn.mono ?_
    rintro e w1 ⟨rfl, rfl⟩
    go_wp2_with fail
    refine ce.mono ?_
    rintro e w1 ⟨rfl, rfl⟩
    go_wp2_with fail
    go_ret
    rw [e1.out]
    exact ⟨rfl, HM.out⟩
  have z13 : ((c : Int) == 13) = false := by simp; omega
  have hB : isB c = false := by simp [isB, b32, b9, b10, b13]
  clear b32 b9 b10 b13
  have e1 : Hid (feed ⟨5, S, fr, nm, left, cnt, T⟩ c i = next ⟨5, S, fr, nm, left, cnt, T⟩ c i) := by unfold Hid; simp [feed, numb, ends, feedA, hB]
  have cl := next_any HM.out c i (by simp only; omega) (by simp only; omega)
  generalize next ⟨5, S, fr, nm, left, cnt, T⟩ c i = p at *
  clear hB
  go_enter Try.func17, Try.ntmps17
  go_wp2_with fail
  refine cn.mono ?_
  rintro e w1 ⟨rfl, rfl⟩
  go_wp2_with fail
  refine ce.mono ?_
  rintro e w1 ⟨rfl, rfl⟩
  go_wp2_with fail
  refine cl.mono ?_
  rintro e w4 ⟨rfl, h4⟩
  have H4 := hidden h4
  clear cl h4
  go_wp2_with fail
  go_ret
  rw [e1.out]
  exact ⟨rfl, H4.out⟩

set_option maxHeartbeats 8000000 in
theorem feed6 {sv lv : Value} {S : List Nat} {fr : Nat} {nm : Bool} {left : List Nat} {cnt : Nat} {T : List Tk} (h : MS B K w0 w sv lv 6 S fr nm (strOf left) cnt T) (c i : Nat) (hc : c < 256) (hi : i < 100000) (hv : Iv ⟨6, S, fr, nm, left, cnt, T⟩ i) :
    Calls Try.prog 17 #[.pointer (some ⟨K, 0, none⟩), .int .u8 (c : Nat), .int .i64 (i : Nat)] w (Does B K w0 (feed ⟨6, S, fr, nm, left, cnt, T⟩ c i)) := by
  have c0 := h.c0
  have f0 := h.free 0
  have hm : MM B K w0 w ⟨6, S, fr, nm, left, cnt, T⟩ := ⟨_, _, h⟩
  have hvS := hv.S
  have hvl := hv.l
  have hvf := hv.fr
  simp only at hvS hvl hvf
  have ce : Calls Try.prog 18 #[.int .u8 6] w fun e w' => e = .returned (.bool false) ∧ w' = w := ends_any 6 w
  have cn : Calls Try.prog 27 #[.int .u8 6, .int .u8 (c : Nat)] w fun e w' => e = .returned (.tuple #[.int .u8 0, .bool false]) ∧ w' = w := by
    have := number_ref 6 c w (by decide) hc
    have e0 : numb 6 c = (0, false) := rfl
    rw [e0] at this
    exact this
  have cl := inside6 h c i hc (by omega) hvf (by omega)
  have e1 : Hid (feed ⟨6, S, fr, nm, left, cnt, T⟩ c i = inside ⟨6, S, fr, nm, left, cnt, T⟩ c i) := by unfold Hid; simp [feed, numb, ends, feedA]
  generalize inside ⟨6, S, fr, nm, left, cnt, T⟩ c i = p at *
  clear h hm hv
  go_enter Try.func17, Try.ntmps17
  go_wp2_with fail
  refine cn.mono ?_
  rintro e w1 ⟨rfl, rfl⟩
  go_wp2_with fail
  refine ce.mono ?_
  rintro e w1 ⟨rfl, rfl⟩
  go_wp2_with fail
  refine cl.mono ?_
  rintro e w4 ⟨rfl, h4⟩
  have H4 := hidden h4
  clear cl h4
  go_wp2_with fail
  go_ret
  rw [e1.out]
  exact ⟨rfl, H4.out⟩

set_option maxHeartbeats 8000000 in
theorem feed7 {sv lv : Value} {S : List Nat} {fr : Nat} {nm : Bool} {left : List Nat} {cnt : Nat} {T : List Tk} (h : MS B K w0 w sv lv 7 S fr nm (strOf left) cnt T) (c i : Nat) (hc : c < 256) (hi : i < 100000) (hv : Iv ⟨7, S, fr, nm, left, cnt, T⟩ i) :
    Calls Try.prog 17 #[.pointer (some ⟨K, 0, none⟩), .int .u8 (c : Nat), .int .i64 (i : Nat)] w (Does B K w0 (feed ⟨7, S, fr, nm, left, cnt, T⟩ c i)) := by
  have c0 := h.c0
  have f0 := h.free 0
  have hm : MM B K w0 w ⟨7, S, fr, nm, left, cnt, T⟩ := ⟨_, _, h⟩
  have hvS := hv.S
  have hvl := hv.l
  have hvf := hv.fr
  simp only at hvS hvl hvf
  have ce : Calls Try.prog 18 #[.int .u8 7] w fun e w' => e = .returned (.bool false) ∧ w' = w := ends_any 7 w
  have cn : Calls Try.prog 27 #[.int .u8 7, .int .u8 (c : Nat)] w fun e w' => e = .returned (.tuple #[.int .u8 0, .bool false]) ∧ w' = w := by
    have := number_ref 7 c w (by decide) hc
    have e0 : numb 7 c = (0, false) := rfl
    rw [e0] at this
    exact this
  have cl := inside7 h c i hc (by omega)
  have e1 : Hid (feed ⟨7, S, fr, nm, left, cnt, T⟩ c i = inside ⟨7, S, fr, nm, left, cnt, T⟩ c i) := by unfold Hid; simp [feed, numb, ends, feedA]
  generalize inside ⟨7, S, fr, nm, left, cnt, T⟩ c i = p at *
  clear h hm hv
  go_enter Try.func17, Try.ntmps17
  go_wp2_with fail
  refine cn.mono ?_
  rintro e w1 ⟨rfl, rfl⟩
  go_wp2_with fail
  refine ce.mono ?_
  rintro e w1 ⟨rfl, rfl⟩
  go_wp2_with fail
  refine cl.mono ?_
  rintro e w4 ⟨rfl, h4⟩
  have H4 := hidden h4
  clear cl h4
  go_wp2_with fail
  go_ret
  rw [e1.out]
  exact ⟨rfl, H4.out⟩

set_option maxHeartbeats 8000000 in
theorem feed8 {sv lv : Value} {S : List Nat} {fr : Nat} {nm : Bool} {left : List Nat} {cnt : Nat} {T : List Tk} (h : MS B K w0 w sv lv 8 S fr nm (strOf left) cnt T) (c i : Nat) (hc : c < 256) (hi : i < 100000) (hv : Iv ⟨8, S, fr, nm, left, cnt, T⟩ i) :
    Calls Try.prog 17 #[.pointer (some ⟨K, 0, none⟩), .int .u8 (c : Nat), .int .i64 (i : Nat)] w (Does B K w0 (feed ⟨8, S, fr, nm, left, cnt, T⟩ c i)) := by
  have c0 := h.c0
  have f0 := h.free 0
  have hm : MM B K w0 w ⟨8, S, fr, nm, left, cnt, T⟩ := ⟨_, _, h⟩
  have hvS := hv.S
  have hvl := hv.l
  have hvf := hv.fr
  simp only at hvS hvl hvf
  have ce : Calls Try.prog 18 #[.int .u8 8] w fun e w' => e = .returned (.bool false) ∧ w' = w := ends_any 8 w
  have cn : Calls Try.prog 27 #[.int .u8 8, .int .u8 (c : Nat)] w fun e w' => e = .returned (.tuple #[.int .u8 0, .bool false]) ∧ w' = w := by
    have := number_ref 8 c w (by decide) hc
    have e0 : numb 8 c = (0, false) := rfl
    rw [e0] at this
    exact this
  have cl := inside8 h c i hc (by omega) (hv.h rfl).1 (hv.h rfl).2
  have e1 : Hid (feed ⟨8, S, fr, nm, left, cnt, T⟩ c i = inside ⟨8, S, fr, nm, left, cnt, T⟩ c i) := by unfold Hid; simp [feed, numb, ends, feedA]
  generalize inside ⟨8, S, fr, nm, left, cnt, T⟩ c i = p at *
  clear h hm hv
  go_enter Try.func17, Try.ntmps17
  go_wp2_with fail
  refine cn.mono ?_
  rintro e w1 ⟨rfl, rfl⟩
  go_wp2_with fail
  refine ce.mono ?_
  rintro e w1 ⟨rfl, rfl⟩
  go_wp2_with fail
  refine cl.mono ?_
  rintro e w4 ⟨rfl, h4⟩
  have H4 := hidden h4
  clear cl h4
  go_wp2_with fail
  go_ret
  rw [e1.out]
  exact ⟨rfl, H4.out⟩

set_option maxHeartbeats 8000000 in
theorem feed17 {sv lv : Value} {S : List Nat} {fr : Nat} {nm : Bool} {left : List Nat} {cnt : Nat} {T : List Tk} (h : MS B K w0 w sv lv 17 S fr nm (strOf left) cnt T) (c i : Nat) (hc : c < 256) (hi : i < 100000) (hv : Iv ⟨17, S, fr, nm, left, cnt, T⟩ i) :
    Calls Try.prog 17 #[.pointer (some ⟨K, 0, none⟩), .int .u8 (c : Nat), .int .i64 (i : Nat)] w (Does B K w0 (feed ⟨17, S, fr, nm, left, cnt, T⟩ c i)) := by
  have c0 := h.c0
  have f0 := h.free 0
  have hm : MM B K w0 w ⟨17, S, fr, nm, left, cnt, T⟩ := ⟨_, _, h⟩
  have hvS := hv.S
  have hvl := hv.l
  have hvf := hv.fr
  simp only at hvS hvl hvf
  have ce : Calls Try.prog 18 #[.int .u8 17] w fun e w' => e = .returned (.bool false) ∧ w' = w := ends_any 17 w
  have cn : Calls Try.prog 27 #[.int .u8 17, .int .u8 (c : Nat)] w fun e w' => e = .returned (.tuple #[.int .u8 0, .bool false]) ∧ w' = w := by
    have := number_ref 17 c w (by decide) hc
    have e0 : numb 17 c = (0, false) := rfl
    rw [e0] at this
    exact this
  obtain ⟨b, r, hl, hx⟩ := hv.w rfl
  simp only at hl hx
  subst hl
  have cl := inside17 h c i hc (by omega) hvf (by omega) (hx b (List.mem_cons_self ..))
  have e1 : Hid (feed ⟨17, S, fr, nm, b :: r, cnt, T⟩ c i = inside ⟨17, S, fr, nm, b :: r, cnt, T⟩ c i) := by unfold Hid; simp [feed, numb, ends, feedA]
  generalize inside ⟨17, S, fr, nm, b :: r, cnt, T⟩ c i = p at *
  clear h hm hv hx
  go_enter Try.func17, Try.ntmps17
  go_wp2_with fail
  refine cn.mono ?_
  rintro e w1 ⟨rfl, rfl⟩
  go_wp2_with fail
  refine ce.mono ?_
  rintro e w1 ⟨rfl, rfl⟩
  go_wp2_with fail
  refine cl.mono ?_
  rintro e w4 ⟨rfl, h4⟩
  have H4 := hidden h4
  clear cl h4
  go_wp2_with fail
  go_ret
  rw [e1.out]
  exact ⟨rfl, H4.out⟩

set_option maxHeartbeats 8000000 in
theorem feed9 {sv lv : Value} {S : List Nat} {fr : Nat} {nm : Bool} {left : List Nat} {cnt : Nat} {T : List Tk} (h : MS B K w0 w sv lv 9 S fr nm (strOf left) cnt T) (c i : Nat) (hc : c < 256) (hi : i < 100000) (hv : Iv ⟨9, S, fr, nm, left, cnt, T⟩ i) :
    Calls Try.prog 17 #[.pointer (some ⟨K, 0, none⟩), .int .u8 (c : Nat), .int .i64 (i : Nat)] w (Does B K w0 (feed ⟨9, S, fr, nm, left, cnt, T⟩ c i)) := by
  have c0 := h.c0
  have f0 := h.free 0
  have hm : MM B K w0 w ⟨9, S, fr, nm, left, cnt, T⟩ := ⟨_, _, h⟩
  have hvS := hv.S
  have hvl := hv.l
  have hvf := hv.fr
  simp only at hvS hvl hvf
  have ce : Calls Try.prog 18 #[.int .u8 9] w fun e w' => e = .returned (.bool false) ∧ w' = w := ends_any 9 w
  have cn := number_ref 9 c w (by decide) hc
  rcases hnb : numb 9 c with ⟨s', ok⟩
  rw [hnb] at cn
  have HM := hidden hm
  cases ok with
  | true =>
    have e1 : Hid (feed ⟨9, S, fr, nm, left, cnt, T⟩ c i = (0, ⟨s', S, fr, nm, left, cnt, T⟩)) := by unfold Hid; simp [feed, hnb]
    have H6 := hidden (h.state s')
    clear h hm hv hnb
    replace cn : Calls Try.prog 27 #[.int .u8 9, .int .u8 (c : Nat)] w fun e w' => e = .returned (.tuple #[.int .u8 (s' : Nat), .bool true]) ∧ w' = w := cn
    go_enter Try.func17, Try.ntmps17
    go_wp2_with fail
    refine cn.mono ?_
    rintro e w1 ⟨rfl, rfl⟩
    go_wp2_with fail
    go_ret
    rw [e1.out]
    exact ⟨rfl, _, _, H6.out⟩
  | false =>
    have e1 : Hid (feed ⟨9, S, fr, nm, left, cnt, T⟩ c i = (5, ⟨9, S, fr, nm, left, cnt, T⟩)) := by unfold Hid; simp [feed, hnb, ends, feedA]
    clear h hm hv hnb
    replace cn : Calls Try.prog 27 #[.int .u8 9, .int .u8 (c : Nat)] w fun e w' => e = .returned (.tuple #[.int .u8 (s' : Nat), .bool false]) ∧ w' = w := cn
    go_enter Try.func17, Try.ntmps17
    go_wp2_with fail
    refine cn.mono ?_
    rintro e w1 ⟨rfl, rfl⟩
    go_wp2_with fail
    refine ce.mono ?_
    rintro e w1 ⟨rfl, rfl⟩
    go_wp2_with fail
    go_ret
    rw [e1.out]
    exact ⟨rfl, HM.out⟩

set_option maxHeartbeats 8000000 in
theorem feed12 {sv lv : Value} {S : List Nat} {fr : Nat} {nm : Bool} {left : List Nat} {cnt : Nat} {T : List Tk} (h : MS B K w0 w sv lv 12 S fr nm (strOf left) cnt T) (c i : Nat) (hc : c < 256) (hi : i < 100000) (hv : Iv ⟨12, S, fr, nm, left, cnt, T⟩ i) :
    Calls Try.prog 17 #[.pointer (some ⟨K, 0, none⟩), .int .u8 (c : Nat), .int .i64 (i : Nat)] w (Does B K w0 (feed ⟨12, S, fr, nm, left, cnt, T⟩ c i)) := by
  have c0 := h.c0
  have f0 := h.free 0
  have hm : MM B K w0 w ⟨12, S, fr, nm, left, cnt, T⟩ := ⟨_, _, h⟩
  have hvS := hv.S
  have hvl := hv.l
  have hvf := hv.fr
  simp only at hvS hvl hvf
  have ce : Calls Try.prog 18 #[.int .u8 12] w fun e w' => e = .returned (.bool false) ∧ w' = w := ends_any 12 w
  have cn := number_ref 12 c w (by decide) hc
  rcases hnb : numb 12 c with ⟨s', ok⟩
  rw [hnb] at cn
  have HM := hidden hm
  cases ok with
  | true =>
    have e1 : Hid (feed ⟨12, S, fr, nm, left, cnt, T⟩ c i = (0, ⟨s', S, fr, nm, left, cnt, T⟩)) := by unfold Hid; simp [feed, hnb]
    have H6 := hidden (h.state s')
    clear h hm hv hnb
    replace cn : Calls Try.prog 27 #[.int .u8 12, .int .u8 (c : Nat)] w fun e w' => e = .returned (.tuple #[.int .u8 (s' : Nat), .bool true]) ∧ w' = w := cn
    go_enter Try.func17, Try.ntmps17
    go_wp2_with fail
    refine cn.mono ?_
    rintro e w1 ⟨rfl, rfl⟩
    go_wp2_with fail
    go_ret
    rw [e1.out]
    exact ⟨rfl, _, _, H6.out⟩
  | false =>
    have e1 : Hid (feed ⟨12, S, fr, nm, left, cnt, T⟩ c i = (5, ⟨12, S, fr, nm, left, cnt, T⟩)) := by unfold Hid; simp [feed, hnb, ends, feedA]
    clear h hm hv hnb
    replace cn : Calls Try.prog 27 #[.int .u8 12, .int .u8 (c : Nat)] w fun e w' => e = .returned (.tuple #[.int .u8 (s' : Nat), .bool false]) ∧ w' = w := cn
    go_enter Try.func17, Try.ntmps17
    go_wp2_with fail
    refine cn.mono ?_
    rintro e w1 ⟨rfl, rfl⟩
    go_wp2_with fail
    refine ce.mono ?_
    rintro e w1 ⟨rfl, rfl⟩
    go_wp2_with fail
    go_ret
    rw [e1.out]
    exact ⟨rfl, HM.out⟩

set_option maxHeartbeats 8000000 in
theorem feed14 {sv lv : Value} {S : List Nat} {fr : Nat} {nm : Bool} {left : List Nat} {cnt : Nat} {T : List Tk} (h : MS B K w0 w sv lv 14 S fr nm (strOf left) cnt T) (c i : Nat) (hc : c < 256) (hi : i < 100000) (hv : Iv ⟨14, S, fr, nm, left, cnt, T⟩ i) :
    Calls Try.prog 17 #[.pointer (some ⟨K, 0, none⟩), .int .u8 (c : Nat), .int .i64 (i : Nat)] w (Does B K w0 (feed ⟨14, S, fr, nm, left, cnt, T⟩ c i)) := by
  have c0 := h.c0
  have f0 := h.free 0
  have hm : MM B K w0 w ⟨14, S, fr, nm, left, cnt, T⟩ := ⟨_, _, h⟩
  have hvS := hv.S
  have hvl := hv.l
  have hvf := hv.fr
  simp only at hvS hvl hvf
  have ce : Calls Try.prog 18 #[.int .u8 14] w fun e w' => e = .returned (.bool false) ∧ w' = w := ends_any 14 w
  have cn := number_ref 14 c w (by decide) hc
  rcases hnb : numb 14 c with ⟨s', ok⟩
  rw [hnb] at cn
  have HM := hidden hm
  cases ok with
  | true =>
    have e1 : Hid (feed ⟨14, S, fr, nm, left, cnt, T⟩ c i = (0, ⟨s', S, fr, nm, left, cnt, T⟩)) := by unfold Hid; simp [feed, hnb]
    have H6 := hidden (h.state s')
    clear h hm hv hnb
    replace cn : Calls Try.prog 27 #[.int .u8 14, .int .u8 (c : Nat)] w fun e w' => e = .returned (.tuple #[.int .u8 (s' : Nat), .bool true]) ∧ w' = w := cn
    go_enter Try.func17, Try.ntmps17
    go_wp2_with fail
    refine cn.mono ?_
    rintro e w1 ⟨rfl, rfl⟩
    go_wp2_with fail
    go_ret
    rw [e1.out]
    exact ⟨rfl, _, _, H6.out⟩
  | false =>
    have e1 : Hid (feed ⟨14, S, fr, nm, left, cnt, T⟩ c i = (5, ⟨14, S, fr, nm, left, cnt, T⟩)) := by unfold Hid; simp [feed, hnb, ends, feedA]
    clear h hm hv hnb
    replace cn : Calls Try.prog 27 #[.int .u8 14, .int .u8 (c : Nat)] w fun e w' => e = .returned (.tuple #[.int .u8 (s' : Nat), .bool false]) ∧ w' = w := cn
    go_enter Try.func17, Try.ntmps17
    go_wp2_with fail
    refine cn.mono ?_
    rintro e w1 ⟨rfl, rfl⟩
    go_wp2_with fail
    refine ce.mono ?_
    rintro e w1 ⟨rfl, rfl⟩
    go_wp2_with fail
    go_ret
    rw [e1.out]
    exact ⟨rfl, HM.out⟩

set_option maxHeartbeats 8000000 in
theorem feed15 {sv lv : Value} {S : List Nat} {fr : Nat} {nm : Bool} {left : List Nat} {cnt : Nat} {T : List Tk} (h : MS B K w0 w sv lv 15 S fr nm (strOf left) cnt T) (c i : Nat) (hc : c < 256) (hi : i < 100000) (hv : Iv ⟨15, S, fr, nm, left, cnt, T⟩ i) :
    Calls Try.prog 17 #[.pointer (some ⟨K, 0, none⟩), .int .u8 (c : Nat), .int .i64 (i : Nat)] w (Does B K w0 (feed ⟨15, S, fr, nm, left, cnt, T⟩ c i)) := by
  have c0 := h.c0
  have f0 := h.free 0
  have hm : MM B K w0 w ⟨15, S, fr, nm, left, cnt, T⟩ := ⟨_, _, h⟩
  have hvS := hv.S
  have hvl := hv.l
  have hvf := hv.fr
  simp only at hvS hvl hvf
  have ce : Calls Try.prog 18 #[.int .u8 15] w fun e w' => e = .returned (.bool false) ∧ w' = w := ends_any 15 w
  have cn := number_ref 15 c w (by decide) hc
  rcases hnb : numb 15 c with ⟨s', ok⟩
  rw [hnb] at cn
  have HM := hidden hm
  cases ok with
  | true =>
    have e1 : Hid (feed ⟨15, S, fr, nm, left, cnt, T⟩ c i = (0, ⟨s', S, fr, nm, left, cnt, T⟩)) := by unfold Hid; simp [feed, hnb]
    have H6 := hidden (h.state s')
    clear h hm hv hnb
    replace cn : Calls Try.prog 27 #[.int .u8 15, .int .u8 (c : Nat)] w fun e w' => e = .returned (.tuple #[.int .u8 (s' : Nat), .bool true]) ∧ w' = w := cn
    go_enter Try.func17, Try.ntmps17
    go_wp2_with fail
    refine cn.mono ?_
    rintro e w1 ⟨rfl, rfl⟩
    go_wp2_with fail
    go_ret
    rw [e1.out]
    exact ⟨rfl, _, _, H6.out⟩
  | false =>
    have e1 : Hid (feed ⟨15, S, fr, nm, left, cnt, T⟩ c i = (5, ⟨15, S, fr, nm, left, cnt, T⟩)) := by unfold Hid; simp [feed, hnb, ends, feedA]
    clear h hm hv hnb
    replace cn : Calls Try.prog 27 #[.int .u8 15, .int .u8 (c : Nat)] w fun e w' => e = .returned (.tuple #[.int .u8 (s' : Nat), .bool false]) ∧ w' = w := cn
    go_enter Try.func17, Try.ntmps17
    go_wp2_with fail
    refine cn.mono ?_
    rintro e w1 ⟨rfl, rfl⟩
    go_wp2_with fail
    refine ce.mono ?_
    rintro e w1 ⟨rfl, rfl⟩
    go_wp2_with fail
    go_ret
    rw [e1.out]
    exact ⟨rfl, HM.out⟩

set_option maxHeartbeats 8000000 in
theorem feedE4 {sv lv : Value} {st : Nat} {S : List Nat} {fr : Nat} {left : List Nat} {cnt : Nat} {T : List Tk} (h : MS B K w0 w sv lv st S fr true (strOf left) cnt T) (hst : ends st = true) (c i : Nat) (hc : c < 256) (hi : i < 100000) (hv : Iv ⟨st, S, fr, true, left, cnt, T⟩ i) :
    Calls Try.prog 17 #[.pointer (some ⟨K, 0, none⟩), .int .u8 (c : Nat), .int .i64 (i : Nat)] w (Does B K w0 (feed ⟨st, S, fr, true, left, cnt, T⟩ c i)) := by
  have c0 := h.c0
  have f0 := h.free 0
  have hm : MM B K w0 w ⟨st, S, fr, true, left, cnt, T⟩ := ⟨_, _, h⟩
  have hvS := hv.S
  have hvl := hv.l
  have hvf := hv.fr
  simp only at hvS hvl hvf
  have cn := number_ref st c w hv.s hc
  have ce := ends_any st w
  rw [hst] at ce
  have ca := atom_any hm i hvf (by omega) (by simp only; omega)
  have hT4 : (T ++ [(5, fr, i - fr)]).length ≤ 1000000 := by simp; omega
  have hS4 := hvS
  rcases hnb : numb st c with ⟨s', ok⟩
  rw [hnb] at cn
  cases ok with
  | true =>
    have e1 : Hid (feed ⟨st, S, fr, true, left, cnt, T⟩ c i = (0, ⟨s', S, fr, true, left, cnt, T⟩)) := by unfold Hid; simp [feed, hnb]
    have H6 := hidden (h.state s')
    clear h hm hv hnb ca ce hst
    replace cn : Calls Try.prog 27 #[.int .u8 (st : Nat), .int .u8 (c : Nat)] w fun e w' => e = .returned (.tuple #[.int .u8 (s' : Nat), .bool true]) ∧ w' = w := cn
    go_enter Try.func17, Try.ntmps17
    go_wp2_with fail
    refine cn.mono ?_
    rintro e w1 ⟨rfl, rfl⟩
    go_wp2_with fail
    go_ret
    rw [e1.out]
    exact ⟨rfl, _, _, H6.out⟩
  | false =>
    have eF : Hid (feed ⟨st, S, fr, true, left, cnt, T⟩ c i = feedA ⟨4, S, fr, false, left, cnt, T ++ [(5, fr, i - fr)]⟩ c i) := by unfold Hid; simp [feed, hnb, hst, atom]
    replace cn : Calls Try.prog 27 #[.int .u8 (st : Nat), .int .u8 (c : Nat)] w fun e w' => e = .returned (.tuple #[.int .u8 (s' : Nat), .bool false]) ∧ w' = w := cn
    replace ca : Calls Try.prog 19 #[.pointer (some ⟨K, 0, none⟩), .int .i64 (i : Nat)] w fun e w' => e = .returned (.tuple #[]) ∧ MM B K w0 w' ⟨4, S, fr, false, left, cnt, T ++ [(5, fr, i - fr)]⟩ := ca
    clear h hm hv hnb hst
    go_enter Try.func17, Try.ntmps17
    go_wp2_with fail
    refine cn.mono ?_
    rintro e w1 ⟨rfl, rfl⟩
    go_wp2_with fail
    refine ce.mono ?_
    rintro e w1 ⟨rfl, rfl⟩
    go_wp2_with fail
    refine ca.mono ?_
    rintro e w3 ⟨rfl, h3⟩
    clear ca ce cn c0 f0
    have HM := hidden h3
    obtain ⟨sv3, lv3, h3⟩ := h3
    have c0 := h3.c0
    have f0 := h3.free 0
    clear h3
    by_cases b32 : c = 32
    · have z32 : ((c : Int) == 32) = true := by simp; omega
      have e1 : Hid (feed ⟨st, S, fr, true, left, cnt, T⟩ c i = (0, ⟨4, S, fr, false, left, cnt, T ++ [(5, fr, i - fr)]⟩)) := by unfold Hid; rw [eF.out]; subst b32; simp [feedA, isB]
      clear b32  
      go_wp2_with fail
      go_ret
      rw [e1.out]
      exact ⟨rfl, HM.out⟩
    have z32 : ((c : Int) == 32) = false := by simp; omega
    by_cases b9 : c = 9
    · have z9 : ((c : Int) == 9) = true := by simp; omega
      have e1 : Hid (feed ⟨st, S, fr, true, left, cnt, T⟩ c i = (0, ⟨4, S, fr, false, left, cnt, T ++ [(5, fr, i - fr)]⟩)) := by unfold Hid; rw [eF.out]; subst b9; simp [feedA, isB]
      clear b9  b32
      go_wp2_with fail
      go_ret
      rw [e1.out]
      exact ⟨rfl, HM.out⟩
    have z9 : ((c : Int) == 9) = false := by simp; omega
    by_cases b10 : c = 10
    · have z10 : ((c : Int) == 10) = true := by simp; omega
      have e1 : Hid (feed ⟨st, S, fr, true, left, cnt, T⟩ c i = (0, ⟨4, S, fr, false, left, cnt, T ++ [(5, fr, i - fr)]⟩)) := by unfold Hid; rw [eF.out]; subst b10; simp [feedA, isB]
      clear b10  b32 b9
      go_wp2_with fail
      go_ret
      rw [e1.out]
      exact ⟨rfl, HM.out⟩
    have z10 : ((c : Int) == 10) = false := by simp; omega
    by_cases b13 : c = 13
    · have z13 : ((c : Int) == 13) = true := by simp; omega
      have e1 : Hid (feed ⟨st, S, fr, true, left, cnt, T⟩ c i = (0, ⟨4, S, fr, false, left, cnt, T ++ [(5, fr, i - fr)]⟩)) := by unfold Hid; rw [eF.out]; subst b13; simp [feedA, isB]
      clear b13  b32 b9 b10
      go_wp2_with fail
      go_ret
      rw [e1.out]
      exact ⟨rfl, HM.out⟩
    have z13 : ((c : Int) == 13) = false := by simp; omega
    have hB : isB c = false := by simp [isB, b32, b9, b10, b13]
    clear b32 b9 b10 b13
    by_cases h58 : c = 58
    · have z58 : ((c : Int) != 58) = false := by simp; omega
      have e1 : Hid (feed ⟨st, S, fr, true, left, cnt, T⟩ c i = (0, one ⟨4, S, fr, false, left, cnt, T ++ [(5, fr, i - fr)]⟩ 4 i 0)) := by unfold Hid; rw [eF.out]; simp [feedA, h58, isB]
      have cl := one_any HM.out 4 i 0 hT4
      clear hB h58
      go_wp2_with fail
      refine cl.mono ?_
      rintro e w4 ⟨rfl, h4⟩
      have H4 := hidden h4
      clear cl h4
      go_wp2_with fail
      go_ret
      rw [e1.out]
      exact ⟨rfl, H4.out⟩
    have z58 : ((c : Int) != 58) = true := by rw [bne_iff_ne]; omega
    have e1 : Hid (feed ⟨st, S, fr, true, left, cnt, T⟩ c i = (5, ⟨4, S, fr, false, left, cnt, T ++ [(5, fr, i - fr)]⟩)) := by unfold Hid; rw [eF.out]; simp [feedA, hB, h58]
    clear hB h58
    go_wp2_with fail
    go_ret
    rw [e1.out]
    exact ⟨rfl, HM.out⟩
set_option maxHeartbeats 8000000 in
theorem feedE5 {sv lv : Value} {st : Nat} {S : List Nat} {fr : Nat} {left : List Nat} {cnt : Nat} {T : List Tk} (h : MS B K w0 w sv lv st S fr false (strOf left) cnt T) (hst : ends st = true) (c i : Nat) (hc : c < 256) (hi : i < 100000) (hv : Iv ⟨st, S, fr, false, left, cnt, T⟩ i) :
    Calls Try.prog 17 #[.pointer (some ⟨K, 0, none⟩), .int .u8 (c : Nat), .int .i64 (i : Nat)] w (Does B K w0 (feed ⟨st, S, fr, false, left, cnt, T⟩ c i)) := by
  have c0 := h.c0
  have f0 := h.free 0
  have hm : MM B K w0 w ⟨st, S, fr, false, left, cnt, T⟩ := ⟨_, _, h⟩
  have hvS := hv.S
  have hvl := hv.l
  have hvf := hv.fr
  simp only at hvS hvl hvf
  have cn := number_ref st c w hv.s hc
  have ce := ends_any st w
  rw [hst] at ce
  have ca := atom_any hm i hvf (by omega) (by simp only; omega)
  have hT4 : (T ++ [(5, fr, i - fr)]).length ≤ 1000000 := by simp; omega
  have hS4 := hvS
  rcases hnb : numb st c with ⟨s', ok⟩
  rw [hnb] at cn
  cases ok with
  | true =>
    have e1 : Hid (feed ⟨st, S, fr, false, left, cnt, T⟩ c i = (0, ⟨s', S, fr, false, left, cnt, T⟩)) := by unfold Hid; simp [feed, hnb]
    have H6 := hidden (h.state s')
    clear h hm hv hnb ca ce hst
    replace cn : Calls Try.prog 27 #[.int .u8 (st : Nat), .int .u8 (c : Nat)] w fun e w' => e = .returned (.tuple #[.int .u8 (s' : Nat), .bool true]) ∧ w' = w := cn
    go_enter Try.func17, Try.ntmps17
    go_wp2_with fail
    refine cn.mono ?_
    rintro e w1 ⟨rfl, rfl⟩
    go_wp2_with fail
    go_ret
    rw [e1.out]
    exact ⟨rfl, _, _, H6.out⟩
  | false =>
    have eF : Hid (feed ⟨st, S, fr, false, left, cnt, T⟩ c i = feedA ⟨5, S, fr, false, left, cnt, T ++ [(5, fr, i - fr)]⟩ c i) := by unfold Hid; simp [feed, hnb, hst, atom]
    replace cn : Calls Try.prog 27 #[.int .u8 (st : Nat), .int .u8 (c : Nat)] w fun e w' => e = .returned (.tuple #[.int .u8 (s' : Nat), .bool false]) ∧ w' = w := cn
    replace ca : Calls Try.prog 19 #[.pointer (some ⟨K, 0, none⟩), .int .i64 (i : Nat)] w fun e w' => e = .returned (.tuple #[]) ∧ MM B K w0 w' ⟨5, S, fr, false, left, cnt, T ++ [(5, fr, i - fr)]⟩ := ca
    clear h hm hv hnb hst
    go_enter Try.func17, Try.ntmps17
    go_wp2_with fail
    refine cn.mono ?_
    rintro e w1 ⟨rfl, rfl⟩
    go_wp2_with fail
    refine ce.mono ?_
    rintro e w1 ⟨rfl, rfl⟩
    go_wp2_with fail
    refine ca.mono ?_
    rintro e w3 ⟨rfl, h3⟩
    clear ca ce cn c0 f0
    have HM := hidden h3
    obtain ⟨sv3, lv3, h3⟩ := h3
    have c0 := h3.c0
    have f0 := h3.free 0
    clear h3
    by_cases b32 : c = 32
    · have z32 : ((c : Int) == 32) = true := by simp; omega
      have e1 : Hid (feed ⟨st, S, fr, false, left, cnt, T⟩ c i = (0, ⟨5, S, fr, false, left, cnt, T ++ [(5, fr, i - fr)]⟩)) := by unfold Hid; rw [eF.out]; subst b32; simp [feedA, isB]
      clear b32  
      go_wp2_with fail
      go_ret
      rw [e1.out]
      exact ⟨rfl, HM.out⟩
    have z32 : ((c : Int) == 32) = false := by simp; omega
    by_cases b9 : c = 9
    · have z9 : ((c : Int) == 9) = true := by simp; omega
      have e1 : Hid (feed ⟨st, S, fr, false, left, cnt, T⟩ c i = (0, ⟨5, S, fr, false, left, cnt, T ++ [(5, fr, i - fr)]⟩)) := by unfold Hid; rw [eF.out]; subst b9; simp [feedA, isB]
      clear b9  b32
      go_wp2_with fail
      go_ret
      rw [e1.out]
      exact ⟨rfl, HM.out⟩
    have z9 : ((c : Int) == 9) = false := by simp; omega
    by_cases b10 : c = 10
    · have z10 : ((c : Int) == 10) = true := by simp; omega
      have e1 : Hid (feed ⟨st, S, fr, false, left, cnt, T⟩ c i = (0, ⟨5, S, fr, false, left, cnt, T ++ [(5, fr, i - fr)]⟩)) := by unfold Hid; rw [eF.out]; subst b10; simp [feedA, isB]
      clear b10  b32 b9
      go_wp2_with fail
      go_ret
      rw [e1.out]
      exact ⟨rfl, HM.out⟩
    have z10 : ((c : Int) == 10) = false := by simp; omega
    by_cases b13 : c = 13
    · have z13 : ((c : Int) == 13) = true := by simp; omega
      have e1 : Hid (feed ⟨st, S, fr, false, left, cnt, T⟩ c i = (0, ⟨5, S, fr, false, left, cnt, T ++ [(5, fr, i - fr)]⟩)) := by unfold Hid; rw [eF.out]; subst b13; simp [feedA, isB]
      clear b13  b32 b9 b10
      go_wp2_with fail
      go_ret
      rw [e1.out]
      exact ⟨rfl, HM.out⟩
    have z13 : ((c : Int) == 13) = false := by simp; omega
    have hB : isB c = false := by simp [isB, b32, b9, b10, b13]
    clear b32 b9 b10 b13
    have e1 : Hid (feed ⟨st, S, fr, false, left, cnt, T⟩ c i = next ⟨5, S, fr, false, left, cnt, T ++ [(5, fr, i - fr)]⟩ c i) := by unfold Hid; rw [eF.out]; simp [feedA, hB]
    have cl := next_any HM.out c i hS4 hT4
    generalize next ⟨5, S, fr, false, left, cnt, T ++ [(5, fr, i - fr)]⟩ c i = p at *
    clear hB
    go_wp2_with fail
    refine cl.mono ?_
    rintro e w4 ⟨rfl, h4⟩
    have H4 := hidden h4
    clear cl h4
    go_wp2_with fail
    go_ret
    rw [e1.out]
    exact ⟨rfl, H4.out⟩
end
end Go.Proofs.PlatenJson
