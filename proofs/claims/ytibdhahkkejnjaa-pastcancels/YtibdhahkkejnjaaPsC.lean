/- What past.Back and past.Move come to. -/
import Derived.Test.YtibdhahkkejnjaaPsB
namespace Go.Proofs.PlatenPiece
open Go Go.RowKit
set_option linter.unusedVariables false
set_option maxRecDepth 100000

set_option maxHeartbeats 2000000 in
theorem ed_back (at' : Int) (o n : ByteArray) (w : World) :
    Calls Try.prog 30 #[.agg #[.int .i64 at', .string o, .string n]] w fun e w' => e = .returned (.agg #[.int .i64 at', .string n, .string o]) ∧ Below w.heap.size w w' := by
  go_enter Try.func30, Try.ntmps30
  go_wp2_with fail
  refine bodyPost_ret (results_cell_row rfl _ _ (w.heap.size + 1) 57 #[.int .i64 at', .string n, .string o] (0, 0) _ rfl (by rw [show w.heap.size + 1 = (w.alloc (.cells #[.int .i64 at', .string o, .string n] 57)).heap.size by simp]; exact heap_alloc_new _ _) Try.underlying57 rfl size57e) rfl ⟨rfl, ((Below.refl _ _).alloc (Nat.le_refl _) _).alloc (by simp) _⟩

set_option maxHeartbeats 2000000 in
theorem move_ex (w : World) :
    Calls Try.prog 51 #[.int .i64 5, .agg #[.int .i64 2, .string ⟨#[]⟩, .string ⟨#[120, 121, 122]⟩]] w fun e w' => e = .returned (.int .i64 8) ∧ Below w.heap.size w w' := by
  go_enter Try.func51, Try.ntmps51
  go_wp2_with fail
  go_ret
  exact ⟨rfl, (Below.refl _ _).alloc (Nat.le_refl _) _⟩
end Go.Proofs.PlatenPiece
