/- What the document's Fill, and Same at two texts of the same bytes come to. -/
import Derived.Test.YtjdjacnlobjmgaaDoorCallsK
namespace Go.Proofs.PlatenGlyph
open Go.RowKit Go.Shelf
set_option linter.unusedVariables false

set_option maxHeartbeats 1000000 in
theorem same_rows (b off cap b' off' cap' n : Nat) (f : Nat → Nat) (w : World) (hn : n ≤ 100000) (hf : ∀ j, f j < 256) (hc : Cells w b off n f) (hc' : Cells w b' off' n f) :
    Calls Tryd.prog 21 #[.slice (some ⟨b, off, none⟩) n cap, .slice (some ⟨b', off', none⟩) n cap'] w fun e w' => e = .returned (.bool true) ∧ Below w.heap.size w w' := by
  go_enter Tryd.func21, Tryd.ntmps21
  go_wp2
  go_loopw [5] (fun i wr => ∃ k : Nat, k ≤ n ∧ i = .int .i64 k ∧ Below w.heap.size w wr) (fun i _ => n - (intOf i).toNat)
  case atStart => exact ⟨0, Nat.zero_le _, rfl, Below.refl _ _⟩
  case round =>
    obtain ⟨k, hk, rfl, hb⟩ := hrel
    by_cases hlt : k < n
    · have g1 := hc.below hb k hlt
      have g2 := hc'.below hb k hlt
      have hx := hf k
      have hkz : (k : Int) < (n : Int) := by omega
      clear hc hc' hf
      generalize f k = x at *
      go_wp2
      go_quiet (fail)
      go_wp2
      go_roundw
      case rel => exact ⟨k + 1, by omega, by go_num, by first | exact hb | exact hb.drew | exact ⟨hb.os, hb.tape, hb.output, hb.size, hb.block⟩⟩
      case measure => simp [intOf]; omega
    · have hz : ¬ ((k : Int) < (n : Int)) := by omega
      clear hc hc'
      go_wp2
      go_ret
      exact ⟨rfl, hb⟩
end Go.Proofs.PlatenGlyph
