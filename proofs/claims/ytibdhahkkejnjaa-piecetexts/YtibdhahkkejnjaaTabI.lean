/- A table one of whose pieces has grown. -/
import Derived.Test.YtibdhahkkejnjaaTabG
namespace Go.Proofs.PlatenPiece
open Go Go.RowKit
set_option linter.unusedVariables false

theorem rowOf_set (v : Value) (l : List Nat) (k : Int) : ∀ (ps : List Pc) (m : Nat), m < ps.length → ((rowOf ps).set (m * 2) v).set (m * 2 + 1) (.int .i64 k) = rowOf (ps.take m ++ ([⟨v, l, k⟩] ++ ps.drop (m + 1)))
  | [], m, h => by simp at h
  | p :: ps, 0, _ => by simp [rowOf]
  | p :: ps, m + 1, h => by
    have ih := rowOf_set v l k ps m (by simpa using h)
    rw [show (m + 1) * 2 = m * 2 + 1 + 1 by omega]
    simp only [rowOf, List.flatMap_cons, List.cons_append, List.nil_append, List.set_cons_succ, List.take_succ_cons, List.drop_succ_cons] at ih ⊢
    rw [ih]

theorem tab_grown {B T g N cap m : Nat} {ps : List Pc} {s a : Int} {w w3 : World} {p : Pc} {l : List Nat} {v' : Value} {k : Int} {q : Nat}
    (h : Tab B w T (.slice (some ⟨g, 0, none⟩) N cap) ps s a) (hN : ps.length = N) (hm : m < N) (hp : ps[m]? = some p) (hq : p.v.ownBlock = some q)
    (hr : w3.ownsRow B 5 1 v' (p.l.length + l.length) (bytesV p.l ++ bytesV l)) (h3 : w.grownBy w3 (some q)) (hat : v'.ownBlock = some q ∨ v'.ownBlock = some w.heap.size) (hB : B ≤ w.heap.size) :
    Tab B ((w3.setCell ⟨g, m * 2, none⟩ v').setCell ⟨g, m * 2 + 1, none⟩ (.int .i64 k)) T (.slice (some ⟨g, 0, none⟩) N cap) (ps.take m ++ ([⟨v', p.l ++ l, k⟩] ++ ps.drop (m + 1))) s a ∧
      Kept (Own T (.slice (some ⟨g, 0, none⟩) N cap) ps) w ((w3.setCell ⟨g, m * 2, none⟩ v').setCell ⟨g, m * 2 + 1, none⟩ (.int .i64 k)) ∧
      (∀ j, j < w.heap.size → Own T (.slice (some ⟨g, 0, none⟩) N cap) (ps.take m ++ ([⟨v', p.l ++ l, k⟩] ++ ps.drop (m + 1))) j → Own T (.slice (some ⟨g, 0, none⟩) N cap) ps j) := by
  subst hN
  have hpm : p ∈ ps := List.mem_of_getElem? hp
  have hgp := h.good p hpm
  obtain ⟨cg, hg⟩ : ∃ c, w.heap[g]? = some (.cells c 81 (0, 0)) := by
    rcases h.row.2 with ⟨e, _⟩ | ⟨g', cap', cur, e, _, hh, _⟩
    · cases e
    · simp only [Value.slice.injEq, Option.some.injEq, Addr.mk.injEq, and_true, true_and] at e
      obtain ⟨rfl, _⟩ := e
      exact ⟨_, hh⟩
  obtain ⟨b, cq, hb, hqh⟩ := hgp.ty
  rw [hq] at hb
  simp only [Option.some.injEq] at hb
  subst hb
  have hgq : g ≠ q := by intro e; rw [e, hqh] at hg; simp at hg
  have hTq : T ≠ q := by intro e; rw [← e, h.head] at hqh; simp at hqh
  have hgT : T ≠ g := by intro e; rw [← e, h.head] at hg; simp at hg
  have hgw : g < w.heap.size := (Array.getElem?_eq_some_iff.1 hg).1
  have hg3 : w3.heap[g]? = some (.cells cg 81 (0, 0)) := by rw [h3.block g hgw (by simpa using hgq)]; exact hg
  have hrow3 := h.row.kept h3 (Or.inr (by simpa [Value.ownBlock] using hgq))
  have hs1 := World.ownsRow.stored hrow3 (m * 2) v'
  have hs2 := World.ownsRow.stored hs1.1 (m * 2 + 1) (.int .i64 k)
  have hset : w3.grownBy ((w3.setCell ⟨g, m * 2, none⟩ v').setCell ⟨g, m * 2 + 1, none⟩ (.int .i64 k)) (some g) := ⟨hs2.2.os.trans hs1.2.os, hs2.2.tape.trans hs1.2.tape, hs2.2.output.trans hs1.2.output, Nat.le_trans hs1.2.size hs2.2.size, fun j hj hne => (hs2.2.block j (Nat.lt_of_lt_of_le hj hs1.2.size) hne).trans (hs1.2.block j hj hne)⟩
  have hv'g : v'.ownBlock ≠ some g := by
    rcases hat with e | e
    · rw [e]; simpa using Ne.symm hgq
    · rw [e]; simp only [ne_eq, Option.some.injEq]; omega
  have hap := h.apart
  have hsplit : ps = ps.take m ++ (p :: ps.drop (m + 1)) := by
    have hd := List.drop_eq_getElem_cons hm
    rw [(List.getElem?_eq_some_iff.1 hp).2] at hd
    rw [← hd, List.take_append_drop]
  have hap2 := hap
  rw [hsplit, List.pairwise_append, List.pairwise_cons] at hap2
  obtain ⟨a1, ⟨a2, a3⟩, a4⟩ := hap2
  have hold : ∀ x ∈ ps, x.v.ownBlock ≠ some q → Good B ((w3.setCell ⟨g, m * 2, none⟩ v').setCell ⟨g, m * 2 + 1, none⟩ (.int .i64 k)) x := by
    intro x hx hne
    obtain ⟨b, c, hb, hh⟩ := (h.good x hx).ty
    have hbg : b ≠ g := by intro e; rw [e, hg] at hh; simp at hh
    exact ((h.good x hx).kept h3 hne).kept hset (by rw [hb]; simpa using hbg)
  have hlow : ∀ x ∈ ps, ∃ b, x.v.ownBlock = some b ∧ b < w.heap.size := by
    intro x hx
    obtain ⟨b, c, hb, hh⟩ := (h.good x hx).ty
    exact ⟨b, hb, (Array.getElem?_eq_some_iff.1 hh).1⟩
  have ht : ∀ x ∈ ps.take m, x.v.ownBlock ≠ some q := fun x hx => by
    have := a4 x hx p (by simp)
    simpa [Apart, hq] using this
  have hd : ∀ x ∈ ps.drop (m + 1), x.v.ownBlock ≠ some q := fun x hx e => by
    have := a2 x hx
    exact this (by rw [hq, e])
  have hnew : ∀ x ∈ ps, x.v.ownBlock ≠ some q → x.v.ownBlock ≠ v'.ownBlock := by
    intro x hx hne e
    rcases hat with e' | e'
    · exact hne (e.trans e')
    · obtain ⟨b, hb, hlt⟩ := hlow x hx
      rw [hb, e'] at e
      simp only [Option.some.injEq] at e
      omega
  refine ⟨⟨h.low, ?_, ?_, ?_, ?_⟩, ?_, ?_⟩
  · rw [hset.block T (Nat.lt_of_lt_of_le h.lt h3.size) (by simpa using hgT), h3.block T h.lt (by simpa using hTq)]
    exact h.head
  · have e3 : (ps.take m ++ ([(⟨v', p.l ++ l, k⟩ : Pc)] ++ ps.drop (m + 1))).length = ps.length := by
      simp only [List.length_append, List.length_take, List.length_drop, List.length_cons, List.length_nil]; omega
    rw [e3, ← rowOf_set v' (p.l ++ l) k ps m hm]
    exact hs2.1
  · intro x hx
    simp only [List.mem_append, List.mem_cons, List.not_mem_nil, or_false] at hx
    rcases hx with hx | rfl | hx
    · exact hold x (List.mem_of_mem_take hx) (ht x hx)
    · refine ⟨?_, by simp; have := hgp.2; omega⟩
      show World.ownsRow _ B 5 1 v' (p.l ++ l).length (bytesV (p.l ++ l))
      rw [bytesV_app, List.length_append]
      exact hr.kept hset (Or.inr hv'g)
    · exact hold x (List.mem_of_mem_drop hx) (hd x hx)
  · rw [List.pairwise_append]
    refine ⟨a1, ?_, ?_⟩
    · refine List.pairwise_append.2 ⟨by simp, a3, ?_⟩
      intro x hx y hy
      simp only [List.mem_singleton] at hx
      subst hx
      exact fun e => hnew y (List.mem_of_mem_drop hy) (hd y hy) e.symm
    · intro x hx y hy
      simp only [List.mem_append, List.mem_cons, List.not_mem_nil, or_false] at hy
      rcases hy with rfl | hy
      · exact hnew x (List.mem_of_mem_take hx) (ht x hx)
      · exact a4 x hx y (by simp [hy])
  · exact (kept_some h3 (Or.inr (Or.inr ⟨p, hpm, hq⟩))).trans (kept_some hset (Or.inr (Or.inl rfl))) (fun _ _ h => h)
  · intro j hj ho
    rcases ho with rfl | ho | ⟨x, hx, hb⟩
    · exact Or.inl rfl
    · exact Or.inr (Or.inl ho)
    · simp only [List.mem_append, List.mem_cons, List.not_mem_nil, or_false] at hx
      rcases hx with hx | rfl | hx
      · exact Or.inr (Or.inr ⟨x, List.mem_of_mem_take hx, hb⟩)
      · rcases hat with e | e
        · exact Or.inr (Or.inr ⟨p, hpm, by rw [hq, ← e]; exact hb⟩)
        · have hb' : v'.ownBlock = some j := hb
          rw [e] at hb'
          simp only [Option.some.injEq] at hb'
          omega
      · exact Or.inr (Or.inr ⟨x, List.mem_of_mem_drop hx, hb⟩)

theorem Cut.sum {ps ps' : List Pc} {at' i : Nat} (h : Cut ps at' i ps') : lenSum ps' = lenSum ps := by
  rcases h with ⟨rfl, _, _⟩ | ⟨j, p, n, q1, q2, hp, _, h0, h1, rfl, rfl⟩
  · rfl
  · have e1 := lenSum_take ps (j + 1)
    have e2 := lenSum_succ hp
    rw [lenSum_app, lenSum_app]
    simp only [lenSum, List.length_take, List.length_drop]
    omega

theorem Tab.row_ne {B T g N cap : Nat} {w : World} {ps : List Pc} {s a : Int} (h : Tab B w T (.slice (some ⟨g, 0, none⟩) N cap) ps s a) {p : Pc} (hp : p ∈ ps) : p.v.ownBlock ≠ some g := by
  intro e
  obtain ⟨b, c, hb, hh⟩ := (h.good p hp).ty
  rw [hb] at e
  simp only [Option.some.injEq] at e
  subst e
  rcases h.row.2 with ⟨e, _⟩ | ⟨g', cap', cur, e, _, hh', _⟩
  · cases e
  · simp only [Value.slice.injEq, Option.some.injEq, Addr.mk.injEq, and_true] at e
    obtain ⟨rfl, _⟩ := e
    rw [hh'] at hh
    simp at hh
end Go.Proofs.PlatenPiece
