/- The cells that a row of pieces stands for; what a cut, an Insert and a Delete make of them; how many pieces begin. -/
import Derived.Test.YtibdhahkkejnjaaRefG
import Derived.Test.YtibdhahkkejnjaaPsA
namespace Go.Proofs.PlatenPiece
open Go Go.RowKit
set_option linter.unusedVariables false
set_option maxRecDepth 100000

/-- A piece's cells. -/
def cellsOf (p : Pc) : List Rc := p.l.mapIdx fun j c => ⟨c, max 0 (p.k - ((p.l.length - 1 - j : Nat) : Int)), (j : Int) == 0⟩
def cellsAll (ps : List Pc) : List Rc := ps.flatMap cellsOf
theorem cellsOf_at (p : Pc) (i : Nat) : (cellsOf p)[i]? = (p.l[i]?).map fun c => ⟨c, max 0 (p.k - ((p.l.length - 1 - i : Nat) : Int)), (i : Int) == 0⟩ := by
  unfold cellsOf
  rw [List.getElem?_mapIdx]
theorem cellsOf_len (p : Pc) : (cellsOf p).length = p.l.length := by simp [cellsOf]
theorem cellsAll_app (a b : List Pc) : cellsAll (a ++ b) = cellsAll a ++ cellsAll b := by simp [cellsAll]
theorem cellsAll_one (p : Pc) : cellsAll [p] = cellsOf p := by simp [cellsAll]
theorem cellsAll_len (ps : List Pc) : (cellsAll ps).length = lenSum ps := by
  induction ps with
  | nil => rfl
  | cons p ps ih =>
    show (cellsOf p ++ cellsAll ps).length = _
    rw [List.length_append, cellsOf_len, ih]
    rfl
theorem setF_at (cs : List Rc) (n i : Nat) : (setF cs n)[i]? = if i = n then (cs[i]?).map (fun x => ⟨x.c, x.n, true⟩) else cs[i]? := by
  unfold setF
  rw [List.getElem?_modify]
  by_cases h : n = i
  · subst h; simp
  · rw [if_neg (fun e => h e.symm)]; simp [h]
theorem setF_mid (A B C : List Rc) (n : Nat) (hn : n < B.length) : setF (A ++ (B ++ C)) (A.length + n) = A ++ (setF B n ++ C) := by
  apply List.ext_getElem?
  intro i
  rw [setF_at]
  rcases Nat.lt_or_ge i A.length with h | h
  · rw [if_neg (by omega), List.getElem?_append_left h, List.getElem?_append_left h]
  · rw [List.getElem?_append_right h, List.getElem?_append_right h]
    rcases Nat.lt_or_ge (i - A.length) B.length with h2 | h2
    · rw [List.getElem?_append_left h2, List.getElem?_append_left (by rw [setF_len]; exact h2), setF_at]
      by_cases h3 : i = A.length + n
      · rw [if_pos h3, if_pos (by omega)]
      · rw [if_neg h3, if_neg (by omega)]
    · rw [if_neg (by omega), List.getElem?_append_right h2, List.getElem?_append_right (by rw [setF_len]; exact h2), setF_len]
theorem cells_split (p : Pc) (q1 q2 : Value) (n : Nat) (h0 : 0 < n) (h1 : n < p.l.length) : cellsOf ⟨q1, p.l.take n, p.k - (p.l.length - n : Nat)⟩ ++ cellsOf ⟨q2, p.l.drop n, p.k⟩ = setF (cellsOf p) n := by
  have hl : (cellsOf ⟨q1, p.l.take n, p.k - (p.l.length - n : Nat)⟩).length = n := by rw [cellsOf_len]; simp; omega
  have hd : (p.l.drop n).length = p.l.length - n := List.length_drop ..
  apply List.ext_getElem?
  intro i
  rw [setF_at, cellsOf_at]
  rcases Nat.lt_or_ge i n with h | h
  · rw [List.getElem?_append_left (by omega), cellsOf_at, if_neg (by omega)]
    dsimp only
    rw [List.getElem?_take, if_pos h, List.length_take, Nat.min_eq_left (by omega)]
    congr 1
    funext c
    congr 2
    omega
  · rw [List.getElem?_append_right (by omega), hl, cellsOf_at]
    dsimp only
    rw [List.getElem?_drop, hd, show n + (i - n) = i by omega]
    by_cases h2 : i = n
    · subst h2
      rw [if_pos rfl, Option.map_map]
      congr 1
      funext c
      simp only [Function.comp]
      congr 1
      · congr 1; omega
      · simp
    · rw [if_neg h2]
      rcases hx : p.l[i]? with _ | x
      · rfl
      · have hi : i < p.l.length := (List.getElem?_eq_some_iff.1 hx).1
        simp only [Option.map_some, Option.some.injEq, Rc.mk.injEq, true_and]
        constructor
        · congr 1; omega
        · have e1 : (((i - n : Nat) : Int) == 0) = false := by simp; omega
          have e2 : ((i : Int) == 0) = false := by simp; omega
          rw [e1, e2]
theorem cells_head (p : Pc) : setF (cellsOf p) 0 = cellsOf p := by
  apply List.ext_getElem?
  intro i
  rw [setF_at, cellsOf_at]
  by_cases h : i = 0
  · subst h
    rw [if_pos rfl, Option.map_map]
    rfl
  · rw [if_neg h]
theorem cells_edge (ps : List Pc) (i : Nat) (hp : ∀ p ∈ ps, 0 < p.l.length) (hi : i ≤ ps.length) : setF (cellsAll ps) (lenSum (ps.take i)) = cellsAll ps := by
  rcases Nat.lt_or_ge i ps.length with h | h
  · have e : ps = ps.take i ++ ([ps[i]] ++ ps.drop (i + 1)) := by
      conv => lhs; rw [← List.take_append_drop i ps, List.drop_eq_getElem_cons h]
      rfl
    have e2 : cellsAll ps = cellsAll (ps.take i) ++ (cellsOf ps[i] ++ cellsAll (ps.drop (i + 1))) := by
      conv => lhs; rw [e, cellsAll_app, cellsAll_app, cellsAll_one]
    rw [e2, ← cellsAll_len]
    exact (setF_mid (cellsAll (ps.take i)) (cellsOf ps[i]) (cellsAll (ps.drop (i + 1))) 0 (by rw [cellsOf_len]; exact hp _ (List.getElem_mem h))).trans (by rw [cells_head])
  · refine setF_out _ _ ?_
    rw [cellsAll_len, List.take_of_length_le h]
    exact Nat.le_refl _
theorem Cut.cells {ps ps' : List Pc} {at' i : Nat} (h : Cut ps at' i ps') (hp : ∀ p ∈ ps, 0 < p.l.length) : cellsAll ps' = setF (cellsAll ps) at' := by
  rcases h with ⟨rfl, h1, rfl⟩ | ⟨j, p, n, q1, q2, hpj, hl, h0, h1, rfl, rfl⟩
  · exact (cells_edge _ i hp h1).symm
  · have hj : j < ps.length := (List.getElem?_eq_some_iff.1 hpj).1
    have hpe : ps[j] = p := (List.getElem?_eq_some_iff.1 hpj).2
    have e : ps = ps.take j ++ ([p] ++ ps.drop (j + 1)) := by
      conv => lhs; rw [← List.take_append_drop j ps, List.drop_eq_getElem_cons hj, hpe]
      rfl
    have e2 : cellsAll ps = cellsAll (ps.take j) ++ (cellsOf p ++ cellsAll (ps.drop (j + 1))) := by
      conv => lhs; rw [e, cellsAll_app, cellsAll_app, cellsAll_one]
    rw [e2, ← hl, ← cellsAll_len, setF_mid _ _ _ n (by rw [cellsOf_len]; exact h1), ← cells_split p q1 q2 n h0 h1, cellsAll_app, cellsAll_app]
    simp only [cellsAll, List.flatMap_cons, List.flatMap_nil, List.append_nil]
theorem cells_take {ps : List Pc} {i at' : Nat} (h : lenSum (ps.take i) = at') : (cellsAll ps).take at' = cellsAll (ps.take i) ∧ (cellsAll ps).drop at' = cellsAll (ps.drop i) := by
  have e : cellsAll ps = cellsAll (ps.take i) ++ cellsAll (ps.drop i) := by rw [← cellsAll_app, List.take_append_drop]
  have hl : (cellsAll (ps.take i)).length = at' := by rw [cellsAll_len, h]
  rw [e]
  exact ⟨List.take_left' hl, List.drop_left' hl⟩
theorem Del.cells {ps ps' : List Pc} {at' n : Nat} (h : Del ps at' n ps') (hp : ∀ p ∈ ps, 0 < p.l.length) : cellsAll ps' = rdel (cellsAll ps) at' n := by
  obtain ⟨i, ps1, j, ps2, h1, h2, hij, ht, rfl⟩ := h
  have hp1 := h1.pos hp
  have l1 := h1.flat.2
  have l2 := h2.flat.2
  rw [← ht] at l1
  unfold rdel
  rw [← h1.cells hp, ← h2.cells hp1, cellsAll_app, (cells_take l1).1, (cells_take l2).2]
/-- The cells that come. -/
theorem cells_come (q : Value) (l : List Nat) (a : Int) (ha : 0 ≤ a) : cellsOf ⟨q, l, a + l.length⟩ = comeC l a false := by
  apply List.ext_getElem?
  intro i
  rw [cellsOf_at]
  unfold comeC
  rw [List.getElem?_mapIdx]
  dsimp only
  rcases hx : l[i]? with _ | x
  · rfl
  · have hi : i < l.length := (List.getElem?_eq_some_iff.1 hx).1
    simp only [Option.map_some, Option.some.injEq, Rc.mk.injEq, true_and]
    constructor
    · omega
    · simp
theorem cells_grow (q : Value) (p : Pc) (l : List Nat) (a : Int) (ha : 0 < a) (hk : p.k = a) (hp : 0 < p.l.length) : cellsOf ⟨q, p.l ++ l, a + l.length⟩ = cellsOf p ++ comeC l a true := by
  apply List.ext_getElem?
  intro i
  rw [cellsOf_at]
  dsimp only
  rcases Nat.lt_or_ge i p.l.length with h | h
  · rw [List.getElem?_append_left h, List.getElem?_append_left (by rw [cellsOf_len]; exact h), cellsOf_at, hk, List.length_append]
    congr 1
    funext c
    congr 2
    omega
  · rw [List.getElem?_append_right h, List.getElem?_append_right (by rw [cellsOf_len]; exact h), cellsOf_len]
    unfold comeC
    rw [List.getElem?_mapIdx]
    rcases hx : l[i - p.l.length]? with _ | x
    · rfl
    · have hi : i - p.l.length < l.length := (List.getElem?_eq_some_iff.1 hx).1
      simp only [Option.map_some, Option.some.injEq, Rc.mk.injEq, true_and, List.length_append]
      constructor
      · omega
      · have e2 : ((i : Int) == 0) = false := by simp; omega
        rw [e2]; simp
/-- How many pieces begin. -/
theorem cells_count (ps : List Pc) (hp : ∀ p ∈ ps, 0 < p.l.length) : (cellsAll ps).countP (·.f) = ps.length := by
  induction ps with
  | nil => rfl
  | cons p ps ih =>
    have h1 := ih (fun x hx => hp x (List.mem_cons_of_mem _ hx))
    have h0 := hp p (List.mem_cons_self)
    have h2 : (cellsOf p).countP (·.f) = 1 := by
      obtain ⟨c, l, hl⟩ : ∃ c l, p.l = c :: l := by
        cases hq : p.l with
        | nil => rw [hq] at h0; simp at h0
        | cons c l => exact ⟨c, l, rfl⟩
      unfold cellsOf
      rw [hl, List.mapIdx_cons, List.countP_cons]
      have hz : ∀ x ∈ (List.mapIdx (fun i c_1 => (⟨c_1, max 0 (p.k - (((c :: l).length - 1 - (i + 1) : Nat) : Int)), ((i + 1 : Nat) : Int) == 0⟩ : Rc)) l), ¬ (x.f = true) := by
        intro x hx
        obtain ⟨i, hi⟩ := List.getElem?_of_mem hx
        rw [List.getElem?_mapIdx] at hi
        rcases hy : l[i]? with _ | y
        · rw [hy] at hi; cases hi
        · rw [hy] at hi
          simp only [Option.map_some, Option.some.injEq] at hi
          rw [← hi]
          simp
          omega
      rw [List.countP_eq_zero.2 hz]
      simp
    show (cellsOf p ++ cellsAll ps).countP (·.f) = _
    rw [List.countP_append, h1, h2, List.length_cons]
    omega
end Go.Proofs.PlatenPiece
