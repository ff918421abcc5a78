/- What halve's call of slices.Replace comes to, for a table. -/
import Derived.Test.YtibdhahkkejnjaaTabC
namespace Go.Proofs.PlatenPiece
open Go Go.RowKit
set_option linter.unusedVariables false

theorem rowOf_one {B : Nat} {w : World} {ps : List Pc} (h : ∀ p ∈ ps, Good B w p) : ∀ u ∈ rowOf ps, u.oneCell' = true := by
  intro u hu
  simp only [rowOf, List.mem_flatMap, List.mem_cons, List.not_mem_nil, or_false] at hu
  obtain ⟨p, hp, rfl | rfl⟩ := hu
  · rcases (h p hp).1.2 with ⟨e, _⟩ | ⟨g, cap, cur, e, _⟩
    · rw [e]; rfl
    · rw [e]; rfl
  · rfl

/-- All of A but the blocks g and T stands in u as it did; cell 0 of T is there. -/
structure Rg (g T : Nat) (A u : World) : Prop where
  size : A.heap.size ≤ u.heap.size
  block : ∀ k, k < A.heap.size → k ≠ g → k ≠ T → u.heap[k]? = A.heap[k]?
  there : ∃ v, u.cell? ⟨T, 0, none⟩ = some v

theorem Rg.refl {g T : Nat} {A : World} {v : Value} (h : A.cell? ⟨T, 0, none⟩ = some v) : Rg g T A A := ⟨Nat.le_refl _, fun _ _ _ _ => rfl, v, h⟩
theorem Rg.drew {g T : Nat} {A u : World} (h : Rg g T A u) : Rg g T A u.drew := ⟨h.size, h.block, h.there⟩
theorem Rg.alloc {g T : Nat} {A u : World} (h : Rg g T A u) (o : Obj) : Rg g T A (u.alloc o) :=
  ⟨by have := h.size; simp; omega, fun k hk h1 h2 => (Below.heap_alloc u o k (Nat.lt_of_lt_of_le hk h.size)).trans (h.block k hk h1 h2), by obtain ⟨v, hv⟩ := h.there; exact ⟨v, (grownBy_alloc u o).cell hv (by simp)⟩⟩
theorem Rg.own {g T : Nat} {A u w1 : World} {v : Value} (h : Rg g T A u) (hs : u.heap.size ≤ w1.heap.size) (hb : ∀ k, k < u.heap.size → k ≠ g → w1.heap[k]? = u.heap[k]?) (hc : w1.cell? ⟨T, 0, none⟩ = some v) : Rg g T A w1 :=
  ⟨Nat.le_trans h.size hs, fun k hk h1 h2 => (hb k (Nat.lt_of_lt_of_le hk h.size) h1).trans (h.block k hk h1 h2), v, hc⟩
theorem Rg.set {g T : Nat} {A u : World} {v v' : Value} (h : Rg g T A u) (hc : u.cell? ⟨T, 0, none⟩ = some v') : Rg g T A (u.setCell ⟨T, 0, none⟩ v) :=
  ⟨by simpa using h.size, fun k hk h1 h2 => (heap_setCell_other _ _ _ _ (by simpa using h2)).trans (h.block k hk h1 h2), v, by
    simp only [World.cell?] at hc ⊢
    cases hb : u.heap[T]? with
    | none => simp [hb] at hc
    | some o =>
      cases o with
      | cells cs t fr =>
        rw [World.setCell]
        have hlt := (Array.getElem?_eq_some_iff.1 hb).1
        simp only [hb] at hc
        have h0 : 0 < cs.size := by
          rcases Nat.eq_zero_or_pos cs.size with h | h
          · simp [Array.size_eq_zero_iff.1 h] at hc
          · exact h
        simp [Array.getElem?_modify, hb, h0]
      | _ => simp [hb] at hc⟩

theorem Rg.all {g T X Y : Nat} {A u : World} {tv : World → Value} (htv : ∀ u : World, tv u = (u.cell? ⟨T, 0, none⟩).getD undef) {x0 x1 y0 y1 : Value} (hx0 : A.cell? ⟨X, 0, none⟩ = some x0) (hx1 : A.cell? ⟨X, 1, none⟩ = some x1) (hy0 : A.cell? ⟨Y, 0, none⟩ = some y0) (hy1 : A.cell? ⟨Y, 1, none⟩ = some y1)
    (n1 : X ≠ g) (n2 : X ≠ T) (n3 : Y ≠ g) (n4 : Y ≠ T) (h : Rg g T A u) :
    (u.cell? ⟨T, 0, none⟩ = some (tv u) ∧ (u.cell? ⟨X, 0, none⟩ = some x0 ∧ u.cell? ⟨X, 1, none⟩ = some x1) ∧ (u.cell? ⟨Y, 0, none⟩ = some y0 ∧ u.cell? ⟨Y, 1, none⟩ = some y1)) ∧ Rg g T A u := by
  have kx : ∀ j v, A.cell? ⟨X, j, none⟩ = some v → u.cell? ⟨X, j, none⟩ = some v := fun j v hv => (World.cell?_of_block (a := ⟨X, j, none⟩) (h.block X (World.block_lt_of_cell? _ _ hv) n1 n2)).trans hv
  have ky : ∀ j v, A.cell? ⟨Y, j, none⟩ = some v → u.cell? ⟨Y, j, none⟩ = some v := fun j v hv => (World.cell?_of_block (a := ⟨Y, j, none⟩) (h.block Y (World.block_lt_of_cell? _ _ hv) n3 n4)).trans hv
  refine ⟨⟨?_, ⟨kx _ _ hx0, kx _ _ hx1⟩, ky _ _ hy0, ky _ _ hy1⟩, h⟩
  obtain ⟨v, hv⟩ := h.there
  rw [htv, hv]
  rfl


theorem halve_rep {B T g N cap i : Nat} {ps : List Pc} {s a : Int} {w u : World} {n m Q1 Q2 vb : Nat} {k1 k2 : Int} {l1 l2 : List Nat}
    (h : Tab B w T (.slice (some ⟨g, 0, none⟩) N cap) ps s a) (hN : ps.length = N) (hN2 : N ≤ 100000) (hB : B ≤ w.heap.size) (hi : i < N) (h3 : w.grownBy u none)
    (hq1 : u.heap[Q1]? = some (.cells (bytesV l1).toArray 5 (0, 0))) (hq2 : u.heap[Q2]? = some (.cells (bytesV l2).toArray 5 (0, 0))) (b1 : w.heap.size ≤ Q1) (b2 : w.heap.size ≤ Q2) (hne : Q1 ≠ Q2)
    (e1 : l1.length = n) (e2 : l2.length = m) (n0 : 0 < n) (m0 : 0 < m) (hn : n ≤ 1000000) (hm : m ≤ 1000000)
    (hvb : w.heap.size ≤ vb) (hv : u.heap[vb]? = some (.cells #[.slice (some ⟨Q1, 0, none⟩) n n, .int .i64 k1, .slice (some ⟨Q2, 0, none⟩) m m, .int .i64 k2] 81 (0, 0))) :
    Calls Try.prog 77 #[.slice (some ⟨g, 0, none⟩) N cap, .int .i64 i, .int .i64 ((i : Int) + 1), .slice (some ⟨vb, 0, none⟩) 2 2] u fun e w5 => ∃ g' cap', e = .returned (.slice (some ⟨g', 0, none⟩) (N + 1) cap') ∧
      Hid (Tab B (w5.setCell ⟨T, 0, none⟩ (.slice (some ⟨g', 0, none⟩) (N + 1) cap')) T (.slice (some ⟨g', 0, none⟩) (N + 1) cap') (ps.take i ++ ([⟨.slice (some ⟨Q1, 0, none⟩) n n, l1, k1⟩, ⟨.slice (some ⟨Q2, 0, none⟩) m m, l2, k2⟩] ++ ps.drop (i + 1))) s a ∧ Kept (Own T (.slice (some ⟨g, 0, none⟩) N cap) ps) w (w5.setCell ⟨T, 0, none⟩ (.slice (some ⟨g', 0, none⟩) (N + 1) cap')) ∧ (∀ k, k < w.heap.size → Own T (.slice (some ⟨g', 0, none⟩) (N + 1) cap') (ps.take i ++ ([⟨.slice (some ⟨Q1, 0, none⟩) n n, l1, k1⟩, ⟨.slice (some ⟨Q2, 0, none⟩) m m, l2, k2⟩] ++ ps.drop (i + 1))) k → Own T (.slice (some ⟨g, 0, none⟩) N cap) ps k)) ∧
      w5.cell? ⟨T, 0, none⟩ = some (.slice (some ⟨g, 0, none⟩) N cap) ∧ w5.frozen? ⟨T, 0, none⟩ = false ∧ u.heap.size ≤ w5.heap.size ∧ (∀ k, k < u.heap.size → k ≠ g → w5.heap[k]? = u.heap[k]?) := by
  subst hN
  have hu := h.grown h3
  obtain ⟨g', cap', e, hcap, hgT, hgw, hBg⟩ := h.form i hi
  simp only [Value.slice.injEq, Option.some.injEq, Addr.mk.injEq, and_true, true_and] at e
  obtain ⟨rfl, rfl⟩ := e
  have hgc : ∃ c, w.heap[g]? = some (.cells c 81 (0, 0)) := by
    rcases h.row.2 with ⟨e, _⟩ | ⟨g', cap', cur, e, _, hh, _⟩
    · cases e
    · simp only [Value.slice.injEq, Option.some.injEq, Addr.mk.injEq, and_true, true_and] at e
      obtain ⟨rfl, _⟩ := e
      exact ⟨_, hh⟩
  refine (replace_any (.slice (some ⟨g, 0, none⟩) ps.length cap) ps.length i vb B (rowOf ps) _ _ _ _ u (by omega) hi hu.row (Nat.le_trans hB h3.size) hv (by simp only [Value.ownBlock, ne_eq, Option.some.injEq]; omega) (by intro v hv; simp only [List.mem_cons, List.not_mem_nil, or_false] at hv; rcases hv with rfl | rfl | rfl | rfl <;> rfl) (rowOf_one hu.good)).mono ?_
  rintro e w5 ⟨pv', rfl, hr, h5, hat⟩
  have h5' : u.grownBy w5 (some g) := h5
  have hT5 : w5.heap[T]? = some (.cells #[.slice (some ⟨g, 0, none⟩) ps.length cap, .int .i64 s, .int .i64 a] 78 (0, 0)) := by
    rw [h5'.block T (Nat.lt_of_lt_of_le h.lt h3.size) (by simp; omega)]
    exact hu.head
  obtain ⟨g', cap', rfl⟩ : ∃ g' cap', pv' = .slice (some ⟨g', 0, none⟩) (ps.length + 1) cap' := by
    rcases hr.2 with ⟨_, h0⟩ | ⟨g', cap', cur, e, _⟩
    · omega
    · exact ⟨_, _, e⟩
  refine ⟨g', cap', rfl, tab_halved h hB hi h3 h5' hgc hBg hr hq1 hq2 b1 b2 hne e1 e2 n0 m0 hn hm hat, ?_, ?_, h5'.size, fun k hk hne => h5'.block k hk (by simpa using hne)⟩
  · simp [World.cell?, hT5]
  · simp [World.frozen?, hT5]
end Go.Proofs.PlatenPiece
