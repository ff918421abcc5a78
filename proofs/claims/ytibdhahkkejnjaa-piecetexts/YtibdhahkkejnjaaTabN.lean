/- Inserts that are refused, or of nothing; a row of zeros that is made. -/
import Derived.Test.YtibdhahkkejnjaaTabM
namespace Go.Proofs.PlatenPiece
open Go Go.RowKit
set_option linter.unusedVariables false
set_option maxRecDepth 100000

set_option maxHeartbeats 2000000 in
theorem insert_long (B T : Nat) (pv : Value) (ps : List Pc) (s a0 i : Int) (va : Option Addr) (n vc : Nat) (w : World) (h : Tab B w T pv ps s a0) (hs0 : 0 ≤ s) (hs : s ≤ 65536) (hi : 0 ≤ i ∧ i ≤ s) (hn : n ≤ 1000000) (hl : 65536 - s < n) :
    Calls Try.prog 43 #[.pointer (some ⟨T, 0, none⟩), .int .i64 i, .slice va n vc] w fun e w' => e = .returned (.int .i64 4) ∧ w' = w := by
  have hh := has_of _ s i 0 w (len_tab B T pv ps s a0 w h) hs0 (by omega)
  rw [show decide (0 ≤ i ∧ i ≤ s ∧ 0 ≤ (0 : Int) ∧ 0 ≤ s - i) = true from decide_eq_true (by omega)] at hh
  have Hh := hidden hh
  have h1 := h.c1
  clear hh h
  go_enter Try.func43, Try.ntmps43
  go_wp2_with fail
  refine Hh.out.mono ?_
  rintro e w' ⟨rfl, rfl⟩
  go_wp2
  go_ret
  exact ⟨rfl, rfl⟩
set_option maxHeartbeats 2000000 in
theorem insert_zero (B T : Nat) (pv : Value) (ps : List Pc) (s a0 i : Int) (va : Option Addr) (vc : Nat) (w : World) (h : Tab B w T pv ps s a0) (hs0 : 0 ≤ s) (hs : s ≤ 65536) (hi : 0 ≤ i ∧ i ≤ s) :
    Calls Try.prog 43 #[.pointer (some ⟨T, 0, none⟩), .int .i64 i, .slice va 0 vc] w fun e w' => e = .returned (.int .i64 0) ∧ w' = w := by
  have hh := has_of _ s i 0 w (len_tab B T pv ps s a0 w h) hs0 (by omega)
  rw [show decide (0 ≤ i ∧ i ≤ s ∧ 0 ≤ (0 : Int) ∧ 0 ≤ s - i) = true from decide_eq_true (by omega)] at hh
  have Hh := hidden hh
  have h1 := h.c1
  have h2 : ¬ (0 > 65536 - s) := by omega
  clear hh h
  go_enter Try.func43, Try.ntmps43
  go_wp2_with fail
  refine Hh.out.mono ?_
  rintro e w' ⟨rfl, rfl⟩
  go_wp2
  go_ret
  exact ⟨rfl, rfl⟩

theorem made_bytes (n : Nat) : (madeCells #[.int .u8 0] n).toList = bytesV (List.replicate n 0) := by
  have h : (madeCells #[.int .u8 0] n).toList = (List.range n).map fun x => Value.int .u8 0 := by
    unfold madeCells
    simp [Nat.mod_one]
  rw [h, List.map_const', List.length_range]
  unfold bytesV
  rw [List.map_replicate]
  rfl
theorem made_src {w : World} {B g n : Nat} (h : w.ownsRow B 5 1 (.slice (some ⟨g, 0, none⟩) n n) n (madeCells #[.int .u8 0] n).toList) : Src w (.slice (some ⟨g, 0, none⟩) n n) (List.replicate n 0) := by
  refine Or.inr ⟨_, _, by rw [List.length_replicate], fun j u hj => ?_⟩
  rw [← made_bytes] at hj
  exact h.cells (g := g) rfl j u hj
end Go.Proofs.PlatenPiece
