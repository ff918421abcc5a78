/- What Slice comes to where there aren't so many bytes, and of nothing; what Bytes comes to. -/
import Derived.Test.YtibdhahkkejnjaaTabJ
namespace Go.Proofs.PlatenPiece
open Go Go.RowKit
set_option linter.unusedVariables false

set_option maxHeartbeats 1000000 in
theorem slice_no (t : Value) (s a n : Int) (w : World) (hlen : Calls Try.prog 20 #[t] w fun e w' => e = .returned (.int .i64 s) ∧ w' = w) (hs0 : 0 ≤ s) (hs : s ≤ 1000000) (hno : ¬ (0 ≤ a ∧ a ≤ s ∧ 0 ≤ n ∧ n ≤ s - a)) :
    Calls Try.prog 48 #[t, .int .i64 a, .int .i64 n] w fun e w' => e = .returned (.tuple #[.slice none 0 0, .bool false]) ∧ w' = w := by
  have c1 := has_of t s a n w hlen hs0 hs
  rw [decide_eq_false hno] at c1
  clear hlen hno
  go_enter Try.func48, Try.ntmps48
  go_wp2_with fail
  refine c1.mono ?_
  rintro e w0 ⟨rfl, rfl⟩
  clear c1
  go_wp2
  go_ret2
  exact ⟨rfl, rfl⟩

set_option maxHeartbeats 1000000 in
theorem slice_nil (w : World) :
    Calls Try.prog 48 #[.pointer none, .int .i64 0, .int .i64 0] w fun e w' => e = .returned (.tuple #[.slice (some ⟨w.heap.size, 0, none⟩) 0 0, .bool true]) ∧ w.grownBy w' none := by
  obtain ⟨i0, hi, hz0, hz1, hz2⟩ := info_parts info5
  have c1 := has_of (.pointer none) 0 0 0 w (len_nil w) (by omega) (by omega)
  rw [show decide ((0 : Int) ≤ 0 ∧ (0 : Int) ≤ 0 ∧ (0 : Int) ≤ 0 ∧ (0 : Int) ≤ 0 - 0) = true by decide] at c1
  go_enter Try.func48, Try.ntmps48
  go_wp2_with fail
  refine c1.mono ?_
  rintro e w0 ⟨rfl, rfl⟩
  clear c1
  go_wp2_with (at_make; refine wpList_make_full _ rfl _ _ 22 rfl w0.heap.size 5 i0 (.int .u8 0) 1 Try.underlying22 hi hz0 hz1 _ _ _ _ 0 rfl rfl rfl rfl ?c1 ?c2 ?c3 ?_)
  case c1 => omega
  case c2 => unfold maxLen; omega
  case c3 => exact Nat.le_refl _
  intro w1 hown hgr
  have Hgr := hidden hgr
  clear hown hgr
  go_wp2
  go_ret2
  exact ⟨rfl, Hgr.out⟩

set_option maxHeartbeats 1000000 in
theorem bytes_tab (B T : Nat) (pv : Value) (ps : List Pc) (s a0 : Int) (w : World) (h : Tab B w T pv ps s a0) (hN : ps.length ≤ 100000) (hs : s = lenSum ps) (hS : lenSum ps ≤ 65536) :
    Calls Try.prog 22 #[.pointer (some ⟨T, 0, none⟩)] w fun e w' => e = .returned (.slice (some ⟨w.heap.size, 0, none⟩) (lenSum ps) (lenSum ps)) ∧
      w'.heap[w.heap.size]? = some (.cells (bytesV (flat ps)).toArray 5 (0, 0)) ∧ w.grownBy w' none := by
  have c1 := len_tab B T pv ps s a0 w h
  have c2 := slice_tab B T pv ps s a0 0 (lenSum ps) w h hN hs hS (by omega)
  rw [List.drop_zero, List.take_of_length_le (by rw [flat_len]; exact Nat.le_refl _)] at c2
  rw [hs] at c1
  clear h
  generalize lenSum ps = n at *
  go_enter Try.func22, Try.ntmps22
  go_wp2_with fail
  refine c1.mono ?_
  rintro e w0 ⟨rfl, rfl⟩
  go_wp2_with fail
  refine c2.mono ?_
  rintro e w1 ⟨rfl, h1, h2⟩
  have H1 := hidden h1
  have H2 := hidden h2
  clear h1 h2 c1 c2
  go_wp2
  go_ret
  exact ⟨rfl, H1.out, H2.out⟩
set_option maxHeartbeats 1000000 in
theorem bytes_nil (w : World) :
    Calls Try.prog 22 #[.pointer none] w fun e w' => e = .returned (.slice (some ⟨w.heap.size, 0, none⟩) 0 0) ∧ w.grownBy w' none := by
  have c1 := len_nil w
  have c2 := slice_nil w
  go_enter Try.func22, Try.ntmps22
  go_wp2_with fail
  refine c1.mono ?_
  rintro e w0 ⟨rfl, rfl⟩
  go_wp2_with fail
  refine c2.mono ?_
  rintro e w1 ⟨rfl, h2⟩
  have H2 := hidden h2
  clear h2 c1 c2
  go_wp2
  go_ret
  exact ⟨rfl, H2.out⟩
end Go.Proofs.PlatenPiece
