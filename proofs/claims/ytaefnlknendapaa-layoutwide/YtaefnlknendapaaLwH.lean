/- Blocks of one call that later appends leave alone. -/
import Derived.Test.YtaefnlknendapaaLwG
namespace Go.Proofs.PlatenLayout
open Go Go.RowKit Go.Shelf
set_option linter.unusedVariables false
set_option maxRecDepth 100000

def Mid (K : Nat) (w2 wr : World) : Prop := w2.heap.size ≤ wr.heap.size ∧ ∀ q, K ≤ q → q < w2.heap.size → wr.heap[q]? = w2.heap[q]?
def Far (K : Nat) (w2 : World) (v : Value) : Prop := ∀ q, v.ownBlock = some q → q < K ∨ w2.heap.size ≤ q
theorem Mid.refl (K : Nat) (w : World) : Mid K w w := ⟨Nat.le_refl _, fun _ _ _ => rfl⟩
theorem Mid.grown {K : Nat} {w2 wr w7 : World} {r : Option Nat} (h : Mid K w2 wr) (hg : wr.grownBy w7 r) (hr : ∀ q, r = some q → q < K ∨ w2.heap.size ≤ q) : Mid K w2 w7 := by
  refine ⟨Nat.le_trans h.1 hg.size, fun q h1 h2 => ?_⟩
  rw [hg.block q (Nat.lt_of_lt_of_le h2 h.1) (fun e => by have := hr q e.symm; omega)]
  exact h.2 q h1 h2
theorem Mid.alloc {K : Nat} {w2 wr : World} (h : Mid K w2 wr) (o : Obj) : Mid K w2 (wr.alloc o) := h.grown (grownBy_alloc wr o) (by simp)
theorem Mid.drew {K : Nat} {w2 wr : World} (h : Mid K w2 wr) : Mid K w2 wr.drew := h
theorem Mid.below {K B : Nat} {w2 wr w7 : World} (h : Mid K w2 wr) (hb : Below B wr w7) (hB : wr.heap.size ≤ B) : Mid K w2 w7 := by
  refine ⟨Nat.le_trans h.1 hb.size, fun q h1 h2 => ?_⟩
  rw [hb.block q (by have := h.1; omega)]
  exact h.2 q h1 h2
theorem Mid.items {K : Nat} {w2 wr : World} {v : Value} {l : List It} (h : Mid K w2 wr) (hr : w2.ownsRow K 38 6 v l.length (rowI l)) : IsItems wr v l :=
  isItems_of (row_same hr (fun q hq => h.2 q (hr.lt q hq).1 (hr.lt q hq).2))
theorem Far.next {K : Nat} {w2 wr : World} {v v' : Value} (h : Far K w2 v) (hs : w2.heap.size ≤ wr.heap.size) (e : v'.ownBlock = v.ownBlock ∨ v'.ownBlock = some wr.heap.size) : Far K w2 v' := by
  intro q hq
  rcases e with e | e
  · exact h q (by rw [← e]; exact hq)
  · rw [e] at hq
    injection hq with hq
    omega
/-- A row of signs, counted by Starts. -/
theorem starts_call {q : List Nat} {m : Nat} (h : Sg q m) (hq : ∀ c ∈ q, c < 256) (hl : q.length ≤ 65536) (w : World) (cap : Nat) (hb : PlatenGlyph.IsBytes w (.slice (some ⟨w.heap.size - 1, 0, none⟩) q.length cap) q.length (fun j => q.getD j 0)) : True := trivial
end Go.Proofs.PlatenLayout
