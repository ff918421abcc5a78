/- An append of a whole row of items. -/
import Derived.Test.YtaefnlknendapaaLwI
namespace Go.Proofs.PlatenLayout
open Go Go.RowKit Go.Shelf
set_option linter.unusedVariables false
set_option maxRecDepth 100000

theorem rowI_one6 (l : List It) : ∀ u ∈ rowI l, u.oneCell' = true := by
  intro u hu
  obtain ⟨x, _, h⟩ := List.mem_flatMap.1 hu
  simp only [itC, List.mem_cons, List.not_mem_nil, or_false] at h
  rcases h with rfl | rfl | rfl | rfl | rfl | rfl <;> rfl
theorem run_append_row {W : World} {base B : Nat} {u v : Value} {l : List It} {xs : List Value} {n : Nat} (hown : W.ownsRow base 38 6 u n xs) (hr : W.ownsRow B 38 6 v l.length (rowI l)) (hb : base ≤ W.heap.size) (hn : n + l.length ≤ 10000) :
    ∃ v' w', (Builtin.append_ #[24, 24] 24 #[u, v]).run Try.prog W = .ok v' w' ∧ w'.ownsRow base 38 6 v' (n + l.length) (xs ++ rowI l) ∧ W.grownBy w' u.ownBlock := by
  obtain ⟨i38, hi38, hz38, hy38, hb38⟩ := info_parts info38
  have hc := fun g => hr.cells (g := g)
  rcases hr.2 with ⟨rfl, h0⟩ | ⟨g, cap, cur, rfl, _⟩
  · have e : rowI l = [] := by rw [List.eq_nil_of_length_eq_zero h0]; rfl
    rw [h0, e, List.append_nil]
    exact ⟨u, W, run_append_owned_none (P := Try.prog) W base 24 24 38 i38 6 Try.underlying24 hi38 u n xs hown, hown, World.grownBy.refl _ _⟩
  · obtain ⟨v', w', h1, h2, h3, _⟩ := run_append_own (P := Try.prog) W base 24 24 38 i38 (.agg #[.int .u8 0, .string ByteArray.empty, .int .i64 0, .int .i64 0, .bool false, .bool false]) 6 48 Try.underlying24 hi38 hz38 hy38 hb38 rfl (by decide) u n xs hown ⟨g, 0, none⟩ l.length cap (rowI l) (rowI_len l) (hc g rfl) (rowI_one6 l) (by unfold maxLen; omega) (by omega) hb
    exact ⟨v', w', h1, h2, h3⟩
end Go.Proofs.PlatenLayout
