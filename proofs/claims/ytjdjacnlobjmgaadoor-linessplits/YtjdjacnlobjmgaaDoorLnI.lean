/- A string made into bytes, and bytes made into a string, at this program. -/
import Derived.Test.YtjdjacnlobjmgaaDoorLnG
import Derived.Laws.IdiomStrings
namespace Go.Proofs.PlatenLines
open Go.RowKit Go.Shelf Go.Proofs.PlatenGlyph
set_option linter.unusedVariables false

theorem conv_bytes (s : ByteArray) (w : World) :
    ∃ W cap, (convert 9 22 (.string s)).run Tryd.prog w = .ok (.slice (some ⟨w.heap.size, 0, none⟩) s.size cap) W ∧ s.size ≤ cap ∧ Cells W w.heap.size 0 s.size (byt s) ∧ Below w.heap.size w W := by
  refine ⟨_, _, run_bytes_of_string w 9 22 5 s Tryd.underlying9 Tryd.underlying22 Tryd.underlying5, ?_, ?_, ?_⟩
  · exact grownCap_ge w s.size 0 5
  · intro j hj
    rw [Nat.zero_add]
    have h : ∀ o, (w.drew.alloc o).heap[w.heap.size]? = some o := fun o => by
      show (w.heap.push o)[w.heap.size]? = _
      simp
    unfold World.cell?
    rw [h]
    simp [bytesRow, byt, Array.getElem?_append, hj]
  · exact ((Below.refl _ _).drew).alloc (Nat.le_refl _) _
end Go.Proofs.PlatenLines
