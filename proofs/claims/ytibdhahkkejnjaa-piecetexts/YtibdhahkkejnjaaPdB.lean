/- What an Insert makes of the cells that a row of pieces stands for; the cells of one new piece. -/
import Derived.Test.YtibdhahkkejnjaaPdA
namespace Go.Proofs.PlatenPiece
open Go Go.RowKit
set_option linter.unusedVariables false
set_option maxRecDepth 100000

theorem take_last {ps : List Pc} {i : Nat} {p : Pc} (h0 : 0 < i) (h : ps[i - 1]? = some p) : ps.take i = ps.take (i - 1) ++ [p] := by
  obtain ⟨hi, he⟩ := List.getElem?_eq_some_iff.1 h
  have := List.take_succ_eq_append_getElem hi
  rw [show i - 1 + 1 = i by omega, he] at this
  exact this
/-- The cell before the edge. -/
theorem cells_last {ps : List Pc} {i at' : Nat} {p : Pc} (h0 : 0 < i) (h : ps[i - 1]? = some p) (hp : 0 < p.l.length) (hl : lenSum (ps.take i) = at') : 0 < at' ∧ ((cellsAll ps)[at' - 1]?.getD ⟨0, 0, false⟩).n = max 0 p.k := by
  have ht := take_last h0 h
  have e : cellsAll ps = cellsAll (ps.take (i - 1)) ++ (cellsOf p ++ cellsAll (ps.drop i)) := by
    conv => lhs; rw [← List.take_append_drop i ps, cellsAll_app, ht, cellsAll_app, cellsAll_one, List.append_assoc]
  have hs : lenSum (ps.take (i - 1)) + p.l.length = at' := by
    rw [← hl, ht, ← cellsAll_len, ← cellsAll_len, cellsAll_app, cellsAll_one, List.length_append, cellsOf_len]
  refine ⟨by omega, ?_⟩
  rw [e, List.getElem?_append_right (by rw [cellsAll_len]; omega), cellsAll_len, List.getElem?_append_left (by rw [cellsOf_len]; omega), cellsOf_at, List.getElem?_eq_getElem (by omega)]
  simp only [Option.map_some, Option.getD_some]
  congr 1
  omega
theorem on_grows {ps : List Pc} {i at' : Nat} {a : Int} (hi : i ≤ ps.length) (hp : ∀ p ∈ ps, 0 < p.l.length) (hl : lenSum (ps.take i) = at') : onOf (cellsAll ps) at' a = true ↔ Grows ps i a := by
  unfold onOf Grows
  rcases Nat.eq_zero_or_pos i with h | h
  · subst h
    have h0 : at' = 0 := by rw [← hl]; rfl
    subst h0
    simp
  · have hq : ps[i - 1]? = some ps[i - 1] := List.getElem?_eq_getElem (by omega)
    obtain ⟨h1, h2⟩ := cells_last h hq (hp _ (List.getElem_mem (by omega))) hl
    rw [h2, hq]
    simp only [Bool.and_eq_true, decide_eq_true_eq, beq_iff_eq]
    constructor
    · rintro ⟨⟨_, ha⟩, hm⟩
      exact ⟨h, ha, _, rfl, by omega⟩
    · rintro ⟨_, ha, p, he, hk⟩
      cases he
      exact ⟨⟨h1, ha⟩, by omega⟩
theorem Ins.cells {ps ps' : List Pc} {at' : Nat} {l : List Nat} {a : Int} (h : Ins ps at' l a ps') (hp : ∀ p ∈ ps, 0 < p.l.length) (ha : 0 ≤ a) : cellsAll ps' = rins (cellsAll ps) at' l a := by
  obtain ⟨i, ps1, hc, h⟩ := h
  have hp1 := hc.pos hp
  have l1 := hc.flat.2
  have hi := hc.le.1
  unfold rins
  rw [← hc.cells hp, (cells_take l1).1, (cells_take l1).2]
  have hg := on_grows (a := a) hi hp1 l1
  rcases h with ⟨hn, q, rfl⟩ | ⟨h0, h1, p, q, hpi, hk, rfl⟩
  · have hf : onOf (cellsAll ps1) at' a = false := by
      cases ho : onOf (cellsAll ps1) at' a with
      | false => rfl
      | true => exact absurd (hg.1 ho) hn
    rw [hf, cellsAll_app, cellsAll_app, cellsAll_one, cells_come q l a ha, List.append_assoc]
  · have ht : onOf (cellsAll ps1) at' a = true := hg.2 ⟨h0, h1, p, hpi, hk⟩
    have hpl : 0 < p.l.length := hp1 p (List.mem_of_getElem? hpi)
    rw [ht, cellsAll_app, cellsAll_app, cellsAll_one, cells_grow q p l a h1 hk hpl, take_last h0 hpi, cellsAll_app, cellsAll_one]
    simp only [List.append_assoc]
theorem cells_new (q : Value) (l : List Nat) : cellsAll [⟨q, l, 0⟩] = newC l := by
  rw [cellsAll_one]
  apply List.ext_getElem?
  intro i
  rw [cellsOf_at]
  unfold newC
  rw [List.getElem?_mapIdx]
  dsimp only
  congr 1
  funext c
  congr 1
  omega
end Go.Proofs.PlatenPiece
