/- What sees, take, fail, need, skip, within of the reader come to. -/
import Derived.Test.YtpcfbdnckmfelaaSxA
import Derived.Deep.QuietTactic
import Derived.BigQuiet
namespace Go.Proofs.PlatenSexp
open Go Go.RowKit
set_option linter.unusedVariables false
set_option maxRecDepth 100000
variable {B R n : Nat} {w0 : World} {v : Value} {f : Nat → Nat} {w : World} {i d : Nat} {T : List Tk}

/-- Is the next byte one of some? -/
def see (f : Nat → Nat) (n i : Nat) (s : ByteArray) : Bool := decide (i < n) && has s (f i)

set_option maxHeartbeats 1000000 in
theorem sees_q {tv : Value} (h : RS B R n w0 v f w tv i d T) (s : ByteArray) :
    Calls Try.prog 23 #[.pointer (some ⟨R, 0, none⟩), .string s] w fun e w' => e = .returned (.bool (see f n i s)) ∧ ∃ m, w' = w.drewN m := by
  have c0 := h.c0
  have c1 := h.c1
  by_cases hi : i < n
  · obtain ⟨b, off, cap, rfl, hcap, g⟩ := h.byte hi
    have hlz : (i : Int) < (n : Int) := by omega
    have Hs : Hid (see f n i s = decide (0 ≤ Lib.indexByte s.data.toList ((f i : Nat) : Int).toNat.toUInt8)) := by
      unfold see has Hid; simp [hi]
    clear h
    go_enter Try.func23, Try.ntmps23
    go_wp2_with fail
    go_quiet ((go_at_call 30; exact Calls.quiet_of_same (idx_any _ _ _)))
    go_wp2
    go_ret
    exact ⟨by rw [Hs.out]; simp, _, rfl⟩
  · obtain ⟨a, cap, rfl⟩ := h.val
    have hlz : ¬ ((i : Int) < (n : Int)) := by omega
    have Hs : Hid (see f n i s = false) := by
      unfold see Hid; simp [hi]
    clear h
    go_enter Try.func23, Try.ntmps23
    go_wp2_with fail
    go_quiet (fail)
    go_wp2
    go_ret
    exact ⟨by rw [Hs.out]; simp, _, rfl⟩

theorem sees_any (h : Rd B R n w0 v f w i d T) (s : ByteArray) :
    Calls Try.prog 23 #[.pointer (some ⟨R, 0, none⟩), .string s] w fun e w' => e = .returned (.bool (see f n i s)) ∧ Rd B R n w0 v f w' i d T := by
  obtain ⟨tv, h⟩ := h
  refine (sees_q h s).mono ?_
  rintro e w' ⟨rfl, m, rfl⟩
  exact ⟨rfl, _, h.drewN _⟩

set_option maxHeartbeats 1000000 in
theorem take_yes (h : Rd B R n w0 v f w i d T) (s : ByteArray) (hs : see f n i s = true) :
    Calls Try.prog 22 #[.pointer (some ⟨R, 0, none⟩), .string s] w fun e w' => e = .returned (.bool true) ∧ Rd B R n w0 v f w' (i + 1) d T := by
  have cs := sees_any h s
  rw [hs] at cs
  have hi : i < n := by unfold see at hs; simp at hs; exact hs.1
  have Hi := hidden hi
  have hn := h.choose_spec.hn
  have hb : i ≤ 100000 := by omega
  clear h hs hn hi
  go_enter Try.func22, Try.ntmps22
  go_wp2_with fail
  refine cs.mono ?_
  rintro e w' ⟨rfl, tv, h⟩
  have c1 := h.c1
  have fr := h.free 1
  have H := hidden h
  clear h cs
  go_wp2
  go_ret
  refine ⟨rfl, tv, ?_⟩
  have := H.out.at' (i' := i + 1) Hi.out (Nat.le_succ _)
  simpa using this
set_option maxHeartbeats 1000000 in
theorem take_no (h : Rd B R n w0 v f w i d T) (s : ByteArray) (hs : see f n i s = false) :
    Calls Try.prog 22 #[.pointer (some ⟨R, 0, none⟩), .string s] w fun e w' => e = .returned (.bool false) ∧ Rd B R n w0 v f w' i d T := by
  have cs := sees_any h s
  rw [hs] at cs
  clear h hs
  go_enter Try.func22, Try.ntmps22
  go_wp2_with fail
  refine cs.mono ?_
  rintro e w' ⟨rfl, h⟩
  have H := hidden h
  clear h cs
  go_wp2
  go_ret
  exact ⟨rfl, H.out⟩
/-- The panic of an error at a byte. -/
abbrev Boom (i : Nat) (x : Int) : Ending := .panicked [{ v := .iface 37 (.agg #[.int .i64 (i : Nat), .int .i64 x]), recovered := false }]
set_option maxHeartbeats 1000000 in
theorem fail_any (h : Rd B R n w0 v f w i d T) (x : Int) :
    Calls Try.prog 18 #[.pointer (some ⟨R, 0, none⟩), .int .i64 x] w fun e w' => e = Boom i x ∧ Rd B R n w0 v f w' i d T := by
  obtain ⟨tv, h⟩ := h
  have c1 := h.c1
  have H := hidden h
  clear h
  go_enter Try.func18, Try.ntmps18
  go_wp2
  exact ⟨rfl, rfl, _, H.out⟩
set_option maxHeartbeats 1000000 in
theorem need_yes (h : Rd B R n w0 v f w i d T) (s : ByteArray) (hs : see f n i s = true) :
    Calls Try.prog 31 #[.pointer (some ⟨R, 0, none⟩), .string s] w fun e w' => e = .returned (.tuple #[]) ∧ Rd B R n w0 v f w' (i + 1) d T := by
  have cs := take_yes h s hs
  clear h hs
  go_enter Try.func31, Try.ntmps31
  go_wp2_with fail
  refine cs.mono ?_
  rintro e w' ⟨rfl, h⟩
  have H := hidden h
  clear h cs
  go_wp2
  go_end0
  exact ⟨rfl, H.out⟩
set_option maxHeartbeats 1000000 in
theorem need_no (h : Rd B R n w0 v f w i d T) (s : ByteArray) (hs : see f n i s = false) :
    Calls Try.prog 31 #[.pointer (some ⟨R, 0, none⟩), .string s] w fun e w' => e = Boom i 5 ∧ Rd B R n w0 v f w' i d T := by
  have cs := take_no h s hs
  clear h hs
  go_enter Try.func31, Try.ntmps31
  go_wp2_with fail
  refine cs.mono ?_
  rintro e w' ⟨rfl, h⟩
  have cf := fail_any h 5
  clear h cs
  go_wp2_with fail
  refine cf.mono ?_
  rintro e w' ⟨rfl, h⟩
  have H := hidden h
  clear h cf
  go_wp2
  exact ⟨rfl, rfl, H.out⟩
set_option maxHeartbeats 1000000 in
theorem skip_yes (h : Rd B R n w0 v f w i d T) (hi : i < n) :
    Calls Try.prog 34 #[.pointer (some ⟨R, 0, none⟩)] w fun e w' => e = .returned (.tuple #[]) ∧ Rd B R n w0 v f w' (i + 1) d T := by
  obtain ⟨tv, h⟩ := h
  have c0 := h.c0
  have c1 := h.c1
  have fr := h.free 1
  have hn := h.hn
  have H := hidden h
  have Hi := hidden hi
  obtain ⟨a, cap, rfl⟩ := h.val
  have hlz : ((i : Int) == (n : Int)) = false := by simp; omega
  have hb : i ≤ 100000 := by omega
  clear h hi hn
  go_enter Try.func34, Try.ntmps34
  go_wp2_with fail
  go_quiet (fail)
  go_wp2
  go_end0
  refine ⟨rfl, tv, ?_⟩
  have := (H.out.drewN nq).at' (i' := i + 1) Hi.out (Nat.le_succ _)
  simpa using this
set_option maxHeartbeats 1000000 in
theorem skip_no (h : Rd B R n w0 v f w i d T) (hi : ¬ i < n) :
    Calls Try.prog 34 #[.pointer (some ⟨R, 0, none⟩)] w fun e w' => e = Boom i 5 ∧ Rd B R n w0 v f w' i d T := by
  obtain ⟨tv, h⟩ := h
  have c0 := h.c0
  have c1 := h.c1
  have hh := h.hi
  have H := hidden h
  obtain ⟨a, cap, rfl⟩ := h.val
  have hlz : ((i : Int) == (n : Int)) = true := by simp; omega
  clear h hi hh
  go_enter Try.func34, Try.ntmps34
  go_wp2_with fail
  go_quiet (fail)
  have cf := fail_any ⟨tv, H.out.drewN nq⟩ 5
  clear H
  go_wp2_with fail
  refine cf.mono ?_
  rintro e w' ⟨rfl, h⟩
  have H := hidden h
  clear h cf
  go_wp2
  exact ⟨rfl, rfl, H.out⟩
/-- Does the next byte go on with an atom? -/
def wth (f : Nat → Nat) (n i : Nat) : Bool := decide (i < n) && isP (f i)
set_option maxHeartbeats 2000000 in
theorem within_any (h : Rd B R n w0 v f w i d T) :
    Calls Try.prog 35 #[.pointer (some ⟨R, 0, none⟩)] w fun e w' => e = .returned (.bool (wth f n i)) ∧ Rd B R n w0 v f w' i d T := by
  obtain ⟨tv, h⟩ := h
  have c0 := h.c0
  have c1 := h.c1
  have hw := has_part (f i) (h.hf i)
  have H := hidden h
  by_cases hi : i < n
  · have cs := fun q => sees_q (h.drewN q) ⟨#[40, 41, 34, 39, 96, 44, 59, 127]⟩
    obtain ⟨b, off, cap, rfl, hcap, g⟩ := h.byte hi
    have hlz : (i : Int) < (n : Int) := by omega
    by_cases h32 : 32 < f i
    · have h3z : (32 : Int) < (f i : Nat) := by omega
      have Hs : Hid (wth f n i = !see f n i ⟨#[40, 41, 34, 39, 96, 44, 59, 127]⟩) := by
        unfold wth see Hid; rw [← hw]; simp [hi, h32]
      clear h hw h32
      go_enter Try.func35, Try.ntmps35
      go_wp2_with fail
      go_quiet ((go_at_call 23; exact Calls.quiet_of (cs _)))
      go_wp2
      go_ret
      exact ⟨by rw [Hs.out]; simp, _, H.out.drewN _⟩
    · have H3 : Hid (decide ((32 : Int) < ((f i : Nat) : Int)) = false) := by unfold Hid; simp; omega
      have Hs : Hid (wth f n i = false) := by
        unfold wth Hid; rw [← hw]; simp [h32]
      clear h hw h32
      go_enter Try.func35, Try.ntmps35
      go_wp2_with fail
      have h3z := H3.out
      go_quiet (fail)
      go_wp2
      go_ret
      exact ⟨by rw [Hs.out]; simp, _, H.out.drewN _⟩
  · obtain ⟨a, cap, rfl⟩ := h.val
    have hlz : ¬ ((i : Int) < (n : Int)) := by omega
    have Hs : Hid (wth f n i = false) := by
      unfold wth Hid; simp [hi]
    clear h hw
    go_enter Try.func35, Try.ntmps35
    go_wp2_with fail
    go_quiet (fail)
    go_wp2
    go_ret
    exact ⟨by rw [Hs.out]; simp, _, H.out.drewN _⟩
end Go.Proofs.PlatenSexp
