/- A history behind an edit more; behind Close. -/
import Derived.Test.YtibdhahkkejnjaaPsG
namespace Go.Proofs.PlatenPiece
open Go Go.RowKit
set_option linter.unusedVariables false
set_option maxRecDepth 100000

theorem ty_ne {w : World} {a b : Nat} {x y : Array Value} {s t : TypeId} (ha : w.heap[a]? = some (.cells x s (0, 0))) (hb : w.heap[b]? = some (.cells y t (0, 0))) (hst : s ≠ t) : a ≠ b := by
  rintro rfl
  rw [ha] at hb
  simp only [Option.some.injEq, Obj.cells.injEq] at hb
  exact hst hb.2.1
theorem row_ne {B B' : Nat} {w : World} {s t : TypeId} {m n p q : Nat} {u v : Value} {xs ys : List Value} (hu : w.ownsRow B s m u n xs) (hv : w.ownsRow B' t p v q ys) (hst : s ≠ t) {k : Nat} (hk : u.ownBlock = some k) : v.ownBlock ≠ some k := by
  intro e
  obtain ⟨x, hx⟩ := row_ty hu hk
  obtain ⟨y, hy⟩ := row_ty hv e
  exact ty_ne hx hy hst rfl
theorem row_head {B : Nat} {w : World} {s t : TypeId} {m n k : Nat} {u : Value} {xs : List Value} {x : Array Value} (hu : w.ownsRow B s m u n xs) (hk : w.heap[k]? = some (.cells x t (0, 0))) (hst : s ≠ t) : u.ownBlock ≠ some k := by
  intro e
  obtain ⟨y, hy⟩ := row_ty hu e
  exact ty_ne hy hk hst rfl

section
variable {B : Nat} {w w3 : World} {H T : Nat} {l : List Nat} {c : Nat} {O : Nat → Prop} {ov dv uv : Value} {op : List Ed} {dn ud : List (Value × List Ed)}

theorem HP.push (h : HP B w H T l c O ov dv uv op dn ud) {v' : Value} {e : Ed} (hr : w3.ownsRow B 57 3 v' (op.length + 1) (rowE op ++ e.row)) (hg : w.grownBy w3 ov.ownBlock) (hw : v'.ownBlock = ov.ownBlock ∨ v'.ownBlock = some w.heap.size) :
    HP B ((w3.setCell ⟨H, 1, none⟩ v').setCell ⟨H, 3, none⟩ (.slice none 0 0)) H T l c O v' dv (.slice none 0 0) (op ++ [e]) dn [] ∧ Kept (HOwn H O ov dv uv dn ud) w ((w3.setCell ⟨H, 1, none⟩ v').setCell ⟨H, 3, none⟩ (.slice none 0 0)) ∧ (∀ k, k < w.heap.size → HOwn H O v' dv (.slice none 0 0) dn [] k → HOwn H O ov dv uv dn ud k) := by
  have n1 := row_head h.orow h.head (by decide)
  have hh3 : w3.heap[H]? = some (.cells #[.pointer (some ⟨T, 0, none⟩), ov, dv, uv] 91 (0, 0)) := (hg.block H h.lt (fun e => n1 e.symm)).trans h.head
  have n2 := row_head hr hh3 (by decide)
  have q1 := heap_setCell_same w3 H 1 _ 91 v' hh3
  have q2 := heap_setCell_same _ H 3 _ 91 (.slice none 0 0) q1
  have hoth : ∀ k, k ≠ H → ((w3.setCell ⟨H, 1, none⟩ v').setCell ⟨H, 3, none⟩ (.slice none 0 0)).heap[k]? = w3.heap[k]? := fun k hk => by
    rw [heap_setCell_other _ _ _ _ (by simpa using fun e => hk e), heap_setCell_other _ _ _ _ (by simpa using fun e => hk e)]
  have hsz : ((w3.setCell ⟨H, 1, none⟩ v').setCell ⟨H, 3, none⟩ (.slice none 0 0)).heap.size = w3.heap.size := by simp
  have hst : ∀ k, k < w.heap.size → k ≠ H → ov.ownBlock ≠ some k → ((w3.setCell ⟨H, 1, none⟩ v').setCell ⟨H, 3, none⟩ (.slice none 0 0)).heap[k]? = w.heap[k]? := fun k h1 h2 h3 => (hoth k h2).trans (hg.block k h1 (fun e => h3 e.symm))
  refine ⟨⟨h.low, by rw [hsz]; exact Nat.le_trans h.bs hg.size, q2, ?_, ?_, ?_, World.ownsRow_nil _ _ _ _, ?_, ?_⟩, ?_, ?_⟩
  · exact h.tx.same (by rw [hsz]; exact hg.size) (fun k hk => hst k (h.tx.own k hk).2 (h.off k hk).1 (h.off k hk).2.1)
  · rw [List.length_append, List.length_singleton, rowE_app, show rowE [e] = e.row by simp [rowE]]
    exact row_same hr (fun k hk => hoth k (fun e => n2 (by rw [← e]; exact hk)))
  · exact row_same h.drow (fun k hk => hst k (own_lt_row h.drow hk).2 (fun e => row_head h.drow h.head (by decide) (by rw [← e]; exact hk)) (row_ne h.drow h.orow (by decide) hk))
  · intro t ht
    rw [List.append_nil] at ht
    obtain ⟨a1, a2, a3⟩ := h.trs t (List.mem_append_left _ ht)
    refine ⟨row_same a1 (fun k hk => hst k (own_lt_row a1 hk).2 (fun e => row_head a1 h.head (by decide) (by rw [← e]; exact hk)) (fun e => a2 (by rw [hk, e]))), ?_, a3⟩
    rcases hw with e | e
    · rw [e]; exact a2
    · rw [e]; intro q; have := (own_lt_row a1 q).2; omega
  · cases hx : dv.ownBlock with
    | none => exact Or.inl rfl
    | some k => exact Or.inr (by simp [Value.ownBlock])
  · refine ⟨((grownBy_set _ H 3 _).os.trans (grownBy_set w3 H 1 v').os).trans hg.os, ((grownBy_set _ H 3 _).tape.trans (grownBy_set w3 H 1 v').tape).trans hg.tape, ((grownBy_set _ H 3 _).output.trans (grownBy_set w3 H 1 v').output).trans hg.output, by rw [hsz]; exact hg.size, fun k hk ho => hst k hk (fun e => ho (Or.inl e)) (fun e => ho (Or.inr (Or.inr (Or.inl e))))⟩
  · intro k hk ho
    rcases ho with rfl | ho | ho | ho | ho | ⟨t, ht, ho⟩
    · exact Or.inl rfl
    · exact Or.inr (Or.inl ho)
    · rcases hw with e | e
      · exact Or.inr (Or.inr (Or.inl (by rw [← e]; exact ho)))
      · rw [e] at ho; simp only [Option.some.injEq] at ho; omega
    · exact Or.inr (Or.inr (Or.inr (Or.inl ho)))
    · simp [Value.ownBlock] at ho
    · rw [List.append_nil] at ht
      exact Or.inr (Or.inr (Or.inr (Or.inr (Or.inr ⟨t, List.mem_append_left _ ht, ho⟩))))
/-- The open edits become a transaction that is done. -/
theorem HP.shut (h : HP B w H T l c O ov dv uv op dn ud) (h0 : 0 < op.length) {v' : Value} (hr : w3.ownsRow B 49 1 v' (dn.length + 1) (dn.map (·.1) ++ [ov])) (hg : w.grownBy w3 dv.ownBlock) (hw : v'.ownBlock = dv.ownBlock ∨ v'.ownBlock = some w.heap.size) :
    HP B ((w3.setCell ⟨H, 2, none⟩ v').setCell ⟨H, 1, none⟩ (.slice none 0 0)) H T l c O (.slice none 0 0) v' uv [] (dn ++ [(ov, op)]) ud ∧ Kept (HOwn H O ov dv uv dn ud) w ((w3.setCell ⟨H, 2, none⟩ v').setCell ⟨H, 1, none⟩ (.slice none 0 0)) ∧ (∀ k, k < w.heap.size → HOwn H O (.slice none 0 0) v' uv (dn ++ [(ov, op)]) ud k → HOwn H O ov dv uv dn ud k) := by
  have n1 := row_head h.drow h.head (by decide)
  have hh3 : w3.heap[H]? = some (.cells #[.pointer (some ⟨T, 0, none⟩), ov, dv, uv] 91 (0, 0)) := (hg.block H h.lt (fun e => n1 e.symm)).trans h.head
  have n2 := row_head hr hh3 (by decide)
  have q1 := heap_setCell_same w3 H 2 _ 91 v' hh3
  have q2 := heap_setCell_same _ H 1 _ 91 (.slice none 0 0) q1
  have hoth : ∀ k, k ≠ H → ((w3.setCell ⟨H, 2, none⟩ v').setCell ⟨H, 1, none⟩ (.slice none 0 0)).heap[k]? = w3.heap[k]? := fun k hk => by
    rw [heap_setCell_other _ _ _ _ (by simpa using fun e => hk e), heap_setCell_other _ _ _ _ (by simpa using fun e => hk e)]
  have hsz : ((w3.setCell ⟨H, 2, none⟩ v').setCell ⟨H, 1, none⟩ (.slice none 0 0)).heap.size = w3.heap.size := by simp
  have hst : ∀ k, k < w.heap.size → k ≠ H → dv.ownBlock ≠ some k → ((w3.setCell ⟨H, 2, none⟩ v').setCell ⟨H, 1, none⟩ (.slice none 0 0)).heap[k]? = w.heap[k]? := fun k h1 h2 h3 => (hoth k h2).trans (hg.block k h1 (fun e => h3 e.symm))
  have hov : ov.ownBlock ≠ none := by
    rcases h.orow.2 with ⟨_, e⟩ | ⟨g, cap, cur, e, _⟩
    · omega
    · rw [e]; simp [Value.ownBlock]
  have hmem : ∀ t, t ∈ dn ++ [(ov, op)] ++ ud → t ∈ dn ++ ud ∨ t = (ov, op) := by
    intro t ht
    simp only [List.mem_append, List.mem_singleton] at ht ⊢
    rcases ht with (ht | ht) | ht
    · exact Or.inl (Or.inl ht)
    · exact Or.inr ht
    · exact Or.inl (Or.inr ht)
  have htr : ∀ t ∈ dn ++ [(ov, op)] ++ ud, w.ownsRow B 57 3 t.1 t.2.length (rowE t.2) ∧ t.1.ownBlock ≠ none ∧ 0 < t.2.length := by
    intro t ht
    rcases hmem t ht with ht | rfl
    · obtain ⟨a1, a2, a3⟩ := h.trs t ht
      refine ⟨a1, ?_, a3⟩
      rcases a1.2 with ⟨_, e⟩ | ⟨g, cap, cur, e, _⟩
      · omega
      · rw [e]; simp [Value.ownBlock]
    · exact ⟨h.orow, hov, h0⟩
  refine ⟨⟨h.low, by rw [hsz]; exact Nat.le_trans h.bs hg.size, q2, ?_, World.ownsRow_nil _ _ _ _, ?_, ?_, ?_, ?_⟩, ?_, ?_⟩
  · exact h.tx.same (by rw [hsz]; exact hg.size) (fun k hk => hst k (h.tx.own k hk).2 (h.off k hk).1 (h.off k hk).2.2.1)
  · rw [List.length_append, List.length_singleton, List.map_append]
    exact row_same hr (fun k hk => hoth k (fun e => n2 (by rw [← e]; exact hk)))
  · refine row_same h.urow (fun k hk => hst k (own_lt_row h.urow hk).2 (fun e => row_head h.urow h.head (by decide) (by rw [← e]; exact hk)) (fun e => ?_))
    rcases h.apart with q | q
    · rw [q] at e; cases e
    · exact q (by rw [e, hk])
  · intro t ht
    obtain ⟨a1, a2, a3⟩ := htr t ht
    refine ⟨row_same a1 (fun k hk => hst k (own_lt_row a1 hk).2 (fun e => row_head a1 h.head (by decide) (by rw [← e]; exact hk)) (row_ne a1 h.drow (by decide) hk)), ?_, a3⟩
    simpa [Value.ownBlock] using a2
  · rcases hw with e | e
    · rw [e]; exact h.apart
    · refine Or.inr ?_
      rw [e]
      intro q
      have := (own_lt_row h.urow q.symm).2
      omega
  · refine ⟨((grownBy_set _ H 1 _).os.trans (grownBy_set w3 H 2 v').os).trans hg.os, ((grownBy_set _ H 1 _).tape.trans (grownBy_set w3 H 2 v').tape).trans hg.tape, ((grownBy_set _ H 1 _).output.trans (grownBy_set w3 H 2 v').output).trans hg.output, by rw [hsz]; exact hg.size, fun k hk ho => hst k hk (fun e => ho (Or.inl e)) (fun e => ho (Or.inr (Or.inr (Or.inr (Or.inl e)))))⟩
  · intro k hk ho
    rcases ho with rfl | ho | ho | ho | ho | ⟨t, ht, ho⟩
    · exact Or.inl rfl
    · exact Or.inr (Or.inl ho)
    · simp [Value.ownBlock] at ho
    · rcases hw with e | e
      · exact Or.inr (Or.inr (Or.inr (Or.inl (by rw [← e]; exact ho))))
      · rw [e] at ho; simp only [Option.some.injEq] at ho; omega
    · exact Or.inr (Or.inr (Or.inr (Or.inr (Or.inl ho))))
    · rcases hmem t ht with ht | rfl
      · exact Or.inr (Or.inr (Or.inr (Or.inr (Or.inr ⟨t, ht, ho⟩))))
      · exact Or.inr (Or.inr (Or.inl ho))
end
end Go.Proofs.PlatenPiece
