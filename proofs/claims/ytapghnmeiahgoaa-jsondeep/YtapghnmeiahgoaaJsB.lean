/- What sees, take, need, ahead of the reader come to. -/
import Derived.Test.YtapghnmeiahgoaaJsA
import Derived.Deep.QuietTactic
import Derived.BigQuiet
namespace Go.Proofs.PlatenJson
open Go Go.RowKit
set_option linter.unusedVariables false
set_option maxRecDepth 100000
variable {B R n : Nat} {w0 : World} {v : Value} {f : Nat → Nat} {w : World} {i d : Nat} {T : List Tk}

/-- Is the next byte one of some? -/
def see (f : Nat → Nat) (n i : Nat) (s : ByteArray) : Bool := decide (i < n) && has s (f i)

set_option maxHeartbeats 1000000 in
theorem sees_any (h : Rd B R n w0 v f w i d T) (s : ByteArray) :
    Calls Try.prog 32 #[.pointer (some ⟨R, 0, none⟩), .string s] w fun e w' => e = .returned (.bool (see f n i s)) ∧ Rd B R n w0 v f w' i d T := by
  obtain ⟨tv, h⟩ := h
  have c0 := h.c0
  have c1 := h.c1
  have H := hidden h
  by_cases hi : i < n
  · obtain ⟨b, off, cap, rfl, hcap, g⟩ := h.byte hi
    have hlz : (i : Int) < (n : Int) := by omega
    have Hs : Hid (see f n i s = decide (0 ≤ Lib.indexByte s.data.toList ((f i : Nat) : Int).toNat.toUInt8)) := by
      unfold see has Hid; simp [hi]
    clear h
    go_enter Try.func32, Try.ntmps32
    go_wp2_with fail
    go_quiet ((go_at_call 39; exact Calls.quiet_of_same (idx_any _ _ _)))
    go_wp2
    go_ret
    exact ⟨by rw [Hs.out]; simp, _, H.out.drewN _⟩
  · obtain ⟨a, cap, rfl⟩ := h.val
    have hlz : ¬ ((i : Int) < (n : Int)) := by omega
    have Hs : Hid (see f n i s = false) := by
      unfold see Hid; simp [hi]
    clear h
    go_enter Try.func32, Try.ntmps32
    go_wp2_with fail
    go_quiet (fail)
    go_wp2
    go_ret
    exact ⟨by rw [Hs.out]; simp, _, H.out.drewN _⟩

set_option maxHeartbeats 1000000 in
theorem take_yes (h : Rd B R n w0 v f w i d T) (s : ByteArray) (hs : see f n i s = true) :
    Calls Try.prog 20 #[.pointer (some ⟨R, 0, none⟩), .string s] w fun e w' => e = .returned (.bool true) ∧ Rd B R n w0 v f w' (i + 1) d T := by
  have cs := sees_any h s
  rw [hs] at cs
  have hi : i < n := by unfold see at hs; simp at hs; exact hs.1
  have Hi := hidden hi
  have hn := h.choose_spec.hn
  have hb : i ≤ 100000 := by omega
  clear h hs hn hi
  go_enter Try.func20, Try.ntmps20
  go_wp2_with fail
  refine cs.mono ?_
  rintro e w' ⟨rfl, tv, h⟩
  have c1 := h.c1
  have fr := h.free 1
  have H := hidden h
  clear h cs
  go_wp2
  go_ret
  refine ⟨rfl, tv, ?_⟩
  have := H.out.at' (i' := i + 1) Hi.out (Nat.le_succ _)
  simpa using this
set_option maxHeartbeats 1000000 in
theorem take_no (h : Rd B R n w0 v f w i d T) (s : ByteArray) (hs : see f n i s = false) :
    Calls Try.prog 20 #[.pointer (some ⟨R, 0, none⟩), .string s] w fun e w' => e = .returned (.bool false) ∧ Rd B R n w0 v f w' i d T := by
  have cs := sees_any h s
  rw [hs] at cs
  clear h hs
  go_enter Try.func20, Try.ntmps20
  go_wp2_with fail
  refine cs.mono ?_
  rintro e w' ⟨rfl, h⟩
  have H := hidden h
  clear h cs
  go_wp2
  go_ret
  exact ⟨rfl, H.out⟩
/-- The panic of an error. -/
abbrev Boom (x : Int) : Ending := .panicked [{ v := .iface 25 (.int .i64 x), recovered := false }]
set_option maxHeartbeats 1000000 in
theorem need_yes (h : Rd B R n w0 v f w i d T) (s : ByteArray) (hs : see f n i s = true) :
    Calls Try.prog 34 #[.pointer (some ⟨R, 0, none⟩), .string s] w fun e w' => e = .returned (.tuple #[]) ∧ Rd B R n w0 v f w' (i + 1) d T := by
  have cs := take_yes h s hs
  clear h hs
  go_enter Try.func34, Try.ntmps34
  go_wp2_with fail
  refine cs.mono ?_
  rintro e w' ⟨rfl, h⟩
  have H := hidden h
  clear h cs
  go_wp2
  go_end0
  exact ⟨rfl, H.out⟩
set_option maxHeartbeats 1000000 in
theorem need_no (h : Rd B R n w0 v f w i d T) (s : ByteArray) (hs : see f n i s = false) :
    Calls Try.prog 34 #[.pointer (some ⟨R, 0, none⟩), .string s] w fun e w' => e = Boom 5 ∧ Rd B R n w0 v f w' i d T := by
  have cs := take_no h s hs
  clear h hs
  go_enter Try.func34, Try.ntmps34
  go_wp2_with fail
  refine cs.mono ?_
  rintro e w' ⟨rfl, h⟩
  have H := hidden h
  clear h cs
  go_wp2
  exact ⟨rfl, rfl, H.out⟩
/-- The next byte, or 0. -/
def ahd (f : Nat → Nat) (n i : Nat) : Nat := if i = n then 0 else f i
set_option maxHeartbeats 1000000 in
theorem ahead_any (h : Rd B R n w0 v f w i d T) :
    Calls Try.prog 21 #[.pointer (some ⟨R, 0, none⟩)] w fun e w' => e = .returned (.int .u8 (ahd f n i : Nat)) ∧ Rd B R n w0 v f w' i d T := by
  obtain ⟨tv, h⟩ := h
  have c0 := h.c0
  have c1 := h.c1
  have H := hidden h
  by_cases hi : i < n
  · obtain ⟨b, off, cap, rfl, hcap, g⟩ := h.byte hi
    have hlz : ((i : Int) == (n : Int)) = false := by simp; omega
    have hlt : (i : Int) < (n : Int) := by omega
    have Hs : Hid (ahd f n i = f i) := by unfold ahd Hid; rw [if_neg (by omega)]
    clear h
    go_enter Try.func21, Try.ntmps21
    go_wp2_with fail
    go_quiet (fail)
    go_wp2_with fail
    go_quiet (fail)
    go_wp2
    go_ret
    exact ⟨by rw [Hs.out]; simp, _, (H.out.drewN _).drewN _⟩
  · obtain ⟨a, cap, rfl⟩ := h.val
    have hlz : ((i : Int) == (n : Int)) = true := by have := h.hi; simp; omega
    have Hs : Hid (ahd f n i = 0) := by have := h.hi; unfold ahd Hid; rw [if_pos (by omega)]
    clear h
    go_enter Try.func21, Try.ntmps21
    go_wp2_with fail
    go_quiet (fail)
    go_wp2
    go_ret
    exact ⟨by rw [Hs.out]; simp, _, H.out.drewN _⟩
end Go.Proofs.PlatenJson
