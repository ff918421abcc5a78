/- What the reader's deferred function comes to. -/
import Derived.Test.YtpcfbdnckmfelaaSxE
import Derived.Tactics
import Derived.Tactics2
import Derived.Defers
import Derived.Recover
import Derived.Laws.Pointers
namespace Go.Proofs.PlatenSexp
open Go Go.RowKit
set_option linter.unusedVariables false
set_option maxRecDepth 100000

set_option maxHeartbeats 2000000 in
theorem catch_panicking (A E : Nat) (i x : Int) (older : List PanicEntry) (w : World)
    (hA : w.cell? ⟨A, 0, none⟩ = some (.int .i64 0)) (hE : w.cell? ⟨E, 0, none⟩ = some (.int .i64 0)) (fA : w.frozen? ⟨A, 0, none⟩ = false) (fE : w.frozen? ⟨E, 0, none⟩ = false) (hne : A ≠ E) :
    CallsD Try.prog 15 #[.pointer (some ⟨A, 0, none⟩), .pointer (some ⟨E, 0, none⟩)] (.panicking ({ v := .iface 37 (.agg #[.int .i64 i, .int .i64 x]), recovered := false } :: older)) w fun e u' w' =>
      e = .returned (.tuple #[]) ∧ u' = .panicking ({ v := .iface 37 (.agg #[.int .i64 i, .int .i64 x]), recovered := true } :: older) ∧ w' = (((w.setCell ⟨A, 0, none⟩ (.int .i64 i)).setCell ⟨E, 0, none⟩ (.int .i64 x)).alloc (.cells #[.int .i64 i, .int .i64 x] 37)).drew := by
  have hta : ∀ u : World, (Instr.typeAssert (.iface 37 (.agg #[.int .i64 i, .int .i64 x])) 20 37 true).run Try.prog u = .ok (.tuple #[.agg #[.int .i64 i, .int .i64 x], .bool true]) u := fun u => by
    simp [Instr.typeAssert, run_underlying Try.underlying37, go_sem, Result.andThen]
  refine callsD_of_wpS Try.func15 rfl fun c₀ cs hu => ?_
  apply wpS_seq
  apply wpS_region
  simp [wpOpsS, go_sem, recoverD, hu, Try.ntmps15, Exit.thenS]
  apply wpS_seq
  apply wpS_region
  simp [wpOpsS, go_sem, Exit.thenS, hta]
  apply wpS_seq
  apply wpS_region
  simp [wpOpsS, go_sem, Exit.thenS]
  refine wpS_cond (t := true) (by simp [Act.eval, Array.replicate]) ?_
  simp only [if_true]
  refine wpS_of_wp ?_
  have lA := World.block_lt_of_cell? _ _ hA
  have lE := World.block_lt_of_cell? _ _ hE
  simp only at lA lE
  have hA2 : ∀ o, (w.alloc o).cell? ⟨A, 0, none⟩ = some (.int .i64 0) := fun o => (World.cell?_of_block (w := w) (Below.heap_alloc w o A lA)).trans hA
  have hE2 : ∀ o, (w.alloc o).cell? ⟨E, 0, none⟩ = some (.int .i64 0) := fun o => (World.cell?_of_block (w := w) (Below.heap_alloc w o E lE)).trans hE
  have fA2 : ∀ o, (w.alloc o).frozen? ⟨A, 0, none⟩ = false := fun o => (World.frozen?_of_block (w := w) (Below.heap_alloc w o A lA)).trans fA
  have fE2 : ∀ o, (w.alloc o).frozen? ⟨E, 0, none⟩ = false := fun o => (World.frozen?_of_block (w := w) (Below.heap_alloc w o E lE)).trans fE
  have n0 : (w.alloc (Obj.cells #[Value.int IntKind.i64 i, Value.int IntKind.i64 x] 37)).cell? ⟨w.heap.size, 0, none⟩ = some (.int .i64 i) := by simp
  have n1 : (w.alloc (Obj.cells #[Value.int IntKind.i64 i, Value.int IntKind.i64 x] 37)).cell? ⟨w.heap.size, 1, none⟩ = some (.int .i64 x) := by simp
  have z1 : A ≠ w.heap.size := by omega
  have z2 : E ≠ w.heap.size := by omega
  simp only [Array.replicate, List.replicate, List.setIfInBounds_toArray, List.set_cons_zero, List.set_cons_succ, List.append_toArray, List.cons_append, List.nil_append]
  go_region
  all_goals simp [bodyPostS, results, Try.results15]

set_option maxHeartbeats 1000000 in
theorem catch_idle (a b : Value) (w : World) :
    CallsD Try.prog 15 #[a, b] .returning w fun e u' w' => e = .returned (.tuple #[]) ∧ u' = .returning ∧ w' = w.alloc (.cells #[.int .i64 0, .int .i64 0] 37) := by
  have hta : ∀ u : World, (Instr.typeAssert .nilIface 20 37 true).run Try.prog u = .ok (.tuple #[.agg #[.int .i64 0, .int .i64 0], .bool false]) u := fun u => by
    simp [Instr.typeAssert, run_underlying Try.underlying37, go_sem, Result.andThen]
  refine callsD_of_wpS Try.func15 rfl fun c₀ cs hu => ?_
  apply wpS_seq
  apply wpS_region
  simp [wpOpsS, go_sem, recoverD, hu, Try.ntmps15, Exit.thenS]
  apply wpS_seq
  apply wpS_region
  simp [wpOpsS, go_sem, Exit.thenS, hta]
  apply wpS_seq
  apply wpS_region
  simp [wpOpsS, go_sem, Exit.thenS]
  refine wpS_cond (t := false) (by simp [Act.eval, Array.replicate]) ?_
  simp only [Bool.false_eq_true, if_false]
  apply wpS_seq
  apply wpS_region
  simp [wpOpsS, go_sem, Exit.thenS]
  refine wpS_cond (t := false) (by simp [Act.eval, Array.replicate]) ?_
  simp only [Bool.false_eq_true, if_false]
  refine wpS_of_wp (wp_skip ?_)
  cases c₀
  simp_all [bodyPostS, results, Try.results15]
end Go.Proofs.PlatenSexp
