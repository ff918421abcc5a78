/- A history whose row of what is done, or undone, changes; what last comes to. -/
import Derived.Test.YtibdhahkkejnjaaPsK
namespace Go.Proofs.PlatenPiece
open Go Go.RowKit
set_option linter.unusedVariables false
set_option maxRecDepth 100000

section
variable {B : Nat} {w w3 : World} {H T : Nat} {l : List Nat} {c : Nat} {O : Nat → Prop} {ov dv uv : Value} {op : List Ed} {dn ud : List (Value × List Ed)}

/-- A transaction that lies in memory, apart from the edits at hand. -/
def TrAt (B : Nat) (w : World) (ov : Value) (t : Value × List Ed) : Prop := w.ownsRow B 57 3 t.1 t.2.length (rowE t.2) ∧ t.1.ownBlock ≠ ov.ownBlock ∧ 0 < t.2.length
theorem TrAt.off {t : Value × List Ed} (ht : TrAt B w ov t) (h : HP B w H T l c O ov dv uv op dn ud) {k : Nat} (hk : t.1.ownBlock = some k) : k ≠ H ∧ dv.ownBlock ≠ some k ∧ uv.ownBlock ≠ some k ∧ ¬ O k := by
  refine ⟨fun e => row_head ht.1 h.head (by decide) (by rw [← e]; exact hk), row_ne ht.1 h.drow (by decide) hk, row_ne ht.1 h.urow (by decide) hk, fun ho => ?_⟩
  obtain ⟨x, s, hx, hs⟩ := h.tx.ty k ho
  obtain ⟨y, hy⟩ := row_ty ht.1 hk
  rw [hx] at hy
  simp only [Option.some.injEq, Obj.cells.injEq] at hy
  obtain ⟨_, rfl, _⟩ := hy
  rcases hs with q | q | q <;> exact absurd q (by decide)
/-- Another row of what is done. -/
theorem HP.setD (h : HP B w H T l c O ov dv uv op dn ud) (L : List (Value × List Ed)) {v' : Value} (hL : ∀ t ∈ L, TrAt B w ov t) (hr : w3.ownsRow B 49 1 v' L.length (L.map (·.1))) (hg : w.grownBy w3 dv.ownBlock) (hw : v'.ownBlock = dv.ownBlock ∨ v'.ownBlock = some w.heap.size) :
    HP B (w3.setCell ⟨H, 2, none⟩ v') H T l c O ov v' uv op L ud ∧ Kept (HOwn H O ov dv uv dn ud) w (w3.setCell ⟨H, 2, none⟩ v') ∧ (∀ k, k < w.heap.size → HOwn H O ov v' uv L ud k → HOwn H O ov dv uv dn ud k ∨ ∃ t ∈ L, t.1.ownBlock = some k) ∧ (∀ t, TrAt B w ov t → TrAt B (w3.setCell ⟨H, 2, none⟩ v') ov t) := by
  have n1 := row_head h.drow h.head (by decide)
  have hh3 : w3.heap[H]? = some (.cells #[.pointer (some ⟨T, 0, none⟩), ov, dv, uv] 91 (0, 0)) := (hg.block H h.lt (fun e => n1 e.symm)).trans h.head
  have n2 := row_head hr hh3 (by decide)
  have q1 := heap_setCell_same w3 H 2 _ 91 v' hh3
  have hoth : ∀ k, k ≠ H → (w3.setCell ⟨H, 2, none⟩ v').heap[k]? = w3.heap[k]? := fun k hk => by
    rw [heap_setCell_other _ _ _ _ (by simpa using fun e => hk e)]
  have hsz : (w3.setCell ⟨H, 2, none⟩ v').heap.size = w3.heap.size := by simp
  have hst : ∀ k, k < w.heap.size → k ≠ H → dv.ownBlock ≠ some k → (w3.setCell ⟨H, 2, none⟩ v').heap[k]? = w.heap[k]? := fun k h1 h2 h3 => (hoth k h2).trans (hg.block k h1 (fun e => h3 e.symm))
  have htr : ∀ t, TrAt B w ov t → TrAt B (w3.setCell ⟨H, 2, none⟩ v') ov t := fun t ht => ⟨row_same ht.1 (fun k hk => hst k (own_lt_row ht.1 hk).2 (ht.off h hk).1 (ht.off h hk).2.1), ht.2⟩
  have hin : ∀ t ∈ L ++ ud, TrAt B w ov t := by
    intro t ht
    rcases List.mem_append.1 ht with ht | ht
    · exact hL t ht
    · exact h.trs t (List.mem_append_right _ ht)
  refine ⟨⟨h.low, by rw [hsz]; exact Nat.le_trans h.bs hg.size, q1, ?_, ?_, ?_, ?_, fun t ht => htr t (hin t ht), ?_⟩, ?_, ?_, htr⟩
  · exact h.tx.same (by rw [hsz]; exact hg.size) (fun k hk => hst k (h.tx.own k hk).2 (h.off k hk).1 (h.off k hk).2.2.1)
  · exact row_same h.orow (fun k hk => hst k (own_lt_row h.orow hk).2 (fun e => row_head h.orow h.head (by decide) (by rw [← e]; exact hk)) (row_ne h.orow h.drow (by decide) hk))
  · exact row_same hr (fun k hk => hoth k (fun e => n2 (by rw [← e]; exact hk)))
  · refine row_same h.urow (fun k hk => hst k (own_lt_row h.urow hk).2 (fun e => row_head h.urow h.head (by decide) (by rw [← e]; exact hk)) (fun e => ?_))
    rcases h.apart with q | q
    · rw [q] at e; cases e
    · exact q (by rw [e, hk])
  · rcases hw with e | e
    · rw [e]; exact h.apart
    · refine Or.inr ?_
      rw [e]
      intro q
      have := (own_lt_row h.urow q.symm).2
      omega
  · exact ⟨(grownBy_set w3 H 2 v').os.trans hg.os, (grownBy_set w3 H 2 v').tape.trans hg.tape, (grownBy_set w3 H 2 v').output.trans hg.output, by rw [hsz]; exact hg.size, fun k hk ho => hst k hk (fun e => ho (Or.inl e)) (fun e => ho (Or.inr (Or.inr (Or.inr (Or.inl e)))))⟩
  · intro k hk ho
    rcases ho with rfl | ho | ho | ho | ho | ⟨t, ht, ho⟩
    · exact Or.inl (Or.inl rfl)
    · exact Or.inl (Or.inr (Or.inl ho))
    · exact Or.inl (Or.inr (Or.inr (Or.inl ho)))
    · rcases hw with e | e
      · exact Or.inl (Or.inr (Or.inr (Or.inr (Or.inl (by rw [← e]; exact ho)))))
      · rw [e] at ho; simp only [Option.some.injEq] at ho; omega
    · exact Or.inl (Or.inr (Or.inr (Or.inr (Or.inr (Or.inl ho)))))
    · rcases List.mem_append.1 ht with ht | ht
      · exact Or.inr ⟨t, ht, ho⟩
      · exact Or.inl (Or.inr (Or.inr (Or.inr (Or.inr (Or.inr ⟨t, List.mem_append_right _ ht, ho⟩)))))
/-- Another row of what is undone. -/
theorem HP.setU (h : HP B w H T l c O ov dv uv op dn ud) (L : List (Value × List Ed)) {v' : Value} (hL : ∀ t ∈ L, TrAt B w ov t) (hr : w3.ownsRow B 49 1 v' L.length (L.map (·.1))) (hg : w.grownBy w3 uv.ownBlock) (hw : v'.ownBlock = uv.ownBlock ∨ v'.ownBlock = some w.heap.size) :
    HP B (w3.setCell ⟨H, 3, none⟩ v') H T l c O ov dv v' op dn L ∧ Kept (HOwn H O ov dv uv dn ud) w (w3.setCell ⟨H, 3, none⟩ v') ∧ (∀ k, k < w.heap.size → HOwn H O ov dv v' dn L k → HOwn H O ov dv uv dn ud k ∨ ∃ t ∈ L, t.1.ownBlock = some k) ∧ (∀ t, TrAt B w ov t → TrAt B (w3.setCell ⟨H, 3, none⟩ v') ov t) := by
  have n1 := row_head h.urow h.head (by decide)
  have hh3 : w3.heap[H]? = some (.cells #[.pointer (some ⟨T, 0, none⟩), ov, dv, uv] 91 (0, 0)) := (hg.block H h.lt (fun e => n1 e.symm)).trans h.head
  have n2 := row_head hr hh3 (by decide)
  have q1 := heap_setCell_same w3 H 3 _ 91 v' hh3
  have hoth : ∀ k, k ≠ H → (w3.setCell ⟨H, 3, none⟩ v').heap[k]? = w3.heap[k]? := fun k hk => by
    rw [heap_setCell_other _ _ _ _ (by simpa using fun e => hk e)]
  have hsz : (w3.setCell ⟨H, 3, none⟩ v').heap.size = w3.heap.size := by simp
  have hst : ∀ k, k < w.heap.size → k ≠ H → uv.ownBlock ≠ some k → (w3.setCell ⟨H, 3, none⟩ v').heap[k]? = w.heap[k]? := fun k h1 h2 h3 => (hoth k h2).trans (hg.block k h1 (fun e => h3 e.symm))
  have htr : ∀ t, TrAt B w ov t → TrAt B (w3.setCell ⟨H, 3, none⟩ v') ov t := fun t ht => ⟨row_same ht.1 (fun k hk => hst k (own_lt_row ht.1 hk).2 (ht.off h hk).1 (ht.off h hk).2.2.1), ht.2⟩
  have hin : ∀ t ∈ dn ++ L, TrAt B w ov t := by
    intro t ht
    rcases List.mem_append.1 ht with ht | ht
    · exact h.trs t (List.mem_append_left _ ht)
    · exact hL t ht
  refine ⟨⟨h.low, by rw [hsz]; exact Nat.le_trans h.bs hg.size, q1, ?_, ?_, ?_, ?_, fun t ht => htr t (hin t ht), ?_⟩, ?_, ?_, htr⟩
  · exact h.tx.same (by rw [hsz]; exact hg.size) (fun k hk => hst k (h.tx.own k hk).2 (h.off k hk).1 (h.off k hk).2.2.2.1)
  · exact row_same h.orow (fun k hk => hst k (own_lt_row h.orow hk).2 (fun e => row_head h.orow h.head (by decide) (by rw [← e]; exact hk)) (row_ne h.orow h.urow (by decide) hk))
  · refine row_same h.drow (fun k hk => hst k (own_lt_row h.drow hk).2 (fun e => row_head h.drow h.head (by decide) (by rw [← e]; exact hk)) (fun e => ?_))
    rcases h.apart with q | q
    · rw [q] at hk; cases hk
    · exact q (by rw [e, hk])
  · exact row_same hr (fun k hk => hoth k (fun e => n2 (by rw [← e]; exact hk)))
  · rcases hw with e | e
    · rw [e]; exact h.apart
    · cases hx : dv.ownBlock with
      | none => exact Or.inl rfl
      | some k =>
        refine Or.inr ?_
        rw [e]
        intro q
        have := (own_lt_row h.drow hx).2
        simp only [Option.some.injEq] at q
        omega
  · exact ⟨(grownBy_set w3 H 3 v').os.trans hg.os, (grownBy_set w3 H 3 v').tape.trans hg.tape, (grownBy_set w3 H 3 v').output.trans hg.output, by rw [hsz]; exact hg.size, fun k hk ho => hst k hk (fun e => ho (Or.inl e)) (fun e => ho (Or.inr (Or.inr (Or.inr (Or.inr (Or.inl e))))))⟩
  · intro k hk ho
    rcases ho with rfl | ho | ho | ho | ho | ⟨t, ht, ho⟩
    · exact Or.inl (Or.inl rfl)
    · exact Or.inl (Or.inr (Or.inl ho))
    · exact Or.inl (Or.inr (Or.inr (Or.inl ho)))
    · exact Or.inl (Or.inr (Or.inr (Or.inr (Or.inl ho))))
    · rcases hw with e | e
      · exact Or.inl (Or.inr (Or.inr (Or.inr (Or.inr (Or.inl (by rw [← e]; exact ho))))))
      · rw [e] at ho; simp only [Option.some.injEq] at ho; omega
    · rcases List.mem_append.1 ht with ht | ht
      · exact Or.inl (Or.inr (Or.inr (Or.inr (Or.inr (Or.inr ⟨t, List.mem_append_left _ ht, ho⟩)))))
      · exact Or.inr ⟨t, ht, ho⟩
end

set_option maxHeartbeats 2000000 in
theorem past_last (g m cap B : Nat) (xs : List Value) (v : Value) (w : World) (hm : m < 1000000) (hown : w.ownsRow B 49 1 (.slice (some ⟨g, 0, none⟩) (m + 1) cap) (m + 1) xs) (hxs : ∀ u ∈ xs, u.oneCell' = true) (hv : xs[m]? = some v) :
    Calls Try.prog 55 #[.slice (some ⟨g, 0, none⟩) (m + 1) cap] w fun e w' => e = .returned (.tuple #[v, .slice (some ⟨g, 0, none⟩) m cap]) ∧ w'.ownsRow B 49 1 (.slice (some ⟨g, 0, none⟩) m cap) m (xs.take m) ∧ w.grownBy w' (some g) := by
  have c0 : w.cell? ⟨g, m, none⟩ = some v := by
    have := hown.cells rfl m v hv
    rwa [Addr.add_lit, Nat.zero_add] at this
  have hlen : xs.length = m + 1 := by have := hown.1; omega
  have c1 := sdel1 g (m + 1) cap m (m + 1) B xs w (by omega) (by omega) (by omega) hown hxs
  rw [show m + 1 - (m + 1 - m) = m by omega, List.drop_of_length_le (by omega), List.append_nil] at c1
  have C1 := hidden c1
  have q1 : IntKind.i64.wrap ((m : Int) + 1 - 1) = (m : Int) := by rw [show (m : Int) + 1 - 1 = m by omega]; exact IntWalk.i64_in _ (by omega)
  have q2 : IntKind.i64.wrap ((m : Int) + 1) = ((m + 1 : Nat) : Int) := by push_cast; exact IntWalk.i64_in _ (by omega)
  clear c1 hown hxs hv hlen
  go_enter Try.func55, Try.ntmps55
  go_wp2_with fail
  refine C1.out.mono ?_
  rintro e w1 ⟨rfl, hr, hg⟩
  have HR := hidden hr
  have HG := hidden hg
  clear hr hg C1
  go_wp2
  go_ret2
  exact ⟨rfl, HR.out, HG.out⟩
end Go.Proofs.PlatenPiece
