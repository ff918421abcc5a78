/- How many bytes pieces have together. -/
import Derived.Test.YtibdhahkkejnjaaTabA
namespace Go.Proofs.PlatenPiece
open Go Go.RowKit
set_option linter.unusedVariables false

def lenSum : List Pc → Nat
  | [] => 0
  | p :: ps => p.l.length + lenSum ps
theorem lenSum_app (ps qs : List Pc) : lenSum (ps ++ qs) = lenSum ps + lenSum qs := by
  induction ps with
  | nil => simp [lenSum]
  | cons p ps ih => simp only [List.cons_append, lenSum, ih]; omega
theorem lenSum_take (ps : List Pc) (i : Nat) : lenSum (ps.take i) + lenSum (ps.drop i) = lenSum ps := by rw [← lenSum_app, List.take_append_drop]
theorem lenSum_succ {ps : List Pc} {i : Nat} {p : Pc} (h : ps[i]? = some p) : lenSum (ps.take (i + 1)) = lenSum (ps.take i) + p.l.length := by
  rw [List.take_add_one, h, lenSum_app]
  simp [lenSum]

theorem lenSum_mem {p : Pc} : ∀ {ps : List Pc}, p ∈ ps → p.l.length ≤ lenSum ps
  | [], h => by simp at h
  | x :: ps, h => by
    rcases List.mem_cons.1 h with rfl | h
    · simp only [lenSum]; omega
    · have := lenSum_mem h
      simp only [lenSum]; omega

end Go.Proofs.PlatenPiece
