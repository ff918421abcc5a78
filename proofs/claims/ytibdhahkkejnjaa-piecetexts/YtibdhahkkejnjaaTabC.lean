/- What halve comes to. -/
import Derived.Test.YtibdhahkkejnjaaTabB
namespace Go.Proofs.PlatenPiece
open Go Go.RowKit
set_option linter.unusedVariables false

theorem Tab.form {B : Nat} {w : World} {T : Nat} {pv : Value} {ps : List Pc} {s a : Int} (h : Tab B w T pv ps s a) (i : Nat) (hi : i < ps.length) :
    ∃ g cap, pv = .slice (some ⟨g, 0, none⟩) ps.length cap ∧ ps.length ≤ cap ∧ g ≠ T ∧ g < w.heap.size ∧ B ≤ g := by
  rcases h.row.2 with ⟨_, h0⟩ | ⟨g, cap, cur, e, hB, hh, hn, _⟩
  · omega
  · refine ⟨g, cap, e, hn, ?_, (Array.getElem?_eq_some_iff.1 hh).1, hB⟩
    intro e'
    rw [e', h.head] at hh
    simp at hh

theorem Tab.part {B : Nat} {w : World} {T g cap : Nat} {ps : List Pc} {s a : Int} (h : Tab B w T (.slice (some ⟨g, 0, none⟩) ps.length cap) ps s a) (i : Nat) (p : Pc) (hp : ps[i]? = some p) :
    w.cell? ⟨g, i * 2, none⟩ = some p.v ∧ w.cell? ⟨g, i * 2 + 1, none⟩ = some (.int .i64 p.k) := by
  have hc : ∀ j u, (rowOf ps)[j]? = some u → w.cell? ((⟨g, 0, none⟩ : Addr).add j) = some u := h.row.cells rfl
  obtain ⟨h0, h1⟩ := rowOf_at ps i p hp
  have a0 := hc _ _ h0
  have a1 := hc _ _ h1
  rw [Addr.add_lit, Nat.zero_add] at a0 a1
  exact ⟨a0, a1⟩

theorem Good.src {B : Nat} {w : World} {p : Pc} (h : Good B w p) : ∃ q c, p.v = .slice (some ⟨q, 0, none⟩) p.l.length c ∧ p.l.length ≤ c ∧ c ≤ maxLen ∧ ∀ j u, (bytesV p.l)[j]? = some u → w.cell? ((⟨q, 0, none⟩ : Addr).add j) = some u := by
  obtain ⟨h1, h2⟩ := h
  rcases h1.2 with ⟨_, h0⟩ | ⟨g, cap, cur, e, hB, hh, hn, hm, _⟩
  · omega
  · exact ⟨g, cap, e, hn, hm, World.ownsRow.cells h1 (by rw [e]; rfl)⟩

def Rl (W u : World) : Prop := W.grownBy u none
theorem Rl.refl (W : World) : Rl W W := grownBy_refl W none
theorem Rl.alloc {W u : World} (h : Rl W u) (o : Obj) : Rl W (u.alloc o) := ⟨h.os, h.tape, h.output, by have := h.size; simp; omega, fun k hk hne => (Below.heap_alloc u o k (Nat.lt_of_lt_of_le hk h.size)).trans (h.block k hk hne)⟩
theorem Rl.own {W u w1 : World} (h : Rl W u) (g : u.grownBy w1 none) : Rl W w1 := ⟨g.os.trans h.os, g.tape.trans h.tape, g.output.trans h.output, Nat.le_trans h.size g.size, fun k hk hne => (g.block k (Nat.lt_of_lt_of_le hk h.size) hne).trans (h.block k hk hne)⟩
theorem Rl.own' {a b c d : World} (h : Rl c d) (h2 : Rl b c) (h3 : a.grownBy b none) : Rl a d := Rl.own (Rl.own h3 h2) h
theorem Rl.blk {A u : World} (h : Rl A u) {Q : Nat} {o : Obj} (hq : A.heap[Q]? = some o) : u.heap[Q]? = some o := by
  rw [h.block Q (Array.getElem?_eq_some_iff.1 hq).1 (by simp)]; exact hq
theorem Rl.set {W u : World} (h : Rl W u) (b i : Nat) (v : Value) (hb : W.heap.size ≤ b) : Rl W (u.setCell ⟨b, i, none⟩ v) := ⟨h.os, h.tape, h.output, by simpa using h.size, fun k hk hne => (heap_setCell_other _ _ _ _ (by simp; omega)).trans (h.block k hk hne)⟩
theorem after_alloc {u w1 : World} {z0 z1 : Value} (h : (u.alloc (.cells #[z0, z1] 81)).grownBy w1 none) : w1.cell? ⟨u.heap.size, 0, none⟩ = some z0 ∧ w1.cell? ⟨u.heap.size, 1, none⟩ = some z1 ∧ w1.frozen? ⟨u.heap.size, 0, none⟩ = false ∧ w1.frozen? ⟨u.heap.size, 1, none⟩ = false := by
  have hh : w1.heap[u.heap.size]? = some (.cells #[z0, z1] 81 (0, 0)) := by
    rw [h.block _ (by simp) (by simp)]
    exact heap_alloc_new u _
  refine ⟨?_, ?_, ?_, ?_⟩
  · simp [World.cell?, hh]
  · simp [World.cell?, hh]
  · simp [World.frozen?, hh]
  · simp [World.frozen?, hh]
theorem after_alloc2 {u w1 : World} {z0 z1 : Value} (h : (u.alloc (.cells #[z0, z1] 81)).drew.grownBy w1 none) : w1.cell? ⟨u.heap.size, 0, none⟩ = some z0 ∧ w1.cell? ⟨u.heap.size, 1, none⟩ = some z1 ∧ w1.frozen? ⟨u.heap.size, 0, none⟩ = false ∧ w1.frozen? ⟨u.heap.size, 1, none⟩ = false := after_alloc ⟨h.os, h.tape, h.output, h.size, h.block⟩
theorem Rl.drew {W u : World} (h : Rl W u) : Rl W u.drew := ⟨h.os, h.tape, h.output, h.size, h.block⟩
theorem Rl.all {W u : World} {X0 : Nat} {v0 v1 : Value} (h0 : W.cell? ⟨X0, 0, none⟩ = some v0) (h1 : W.cell? ⟨X0, 1, none⟩ = some v1) (h : Rl W u) : (u.cell? ⟨X0, 0, none⟩ = some v0 ∧ u.cell? ⟨X0, 1, none⟩ = some v1) ∧ Rl W u := ⟨⟨h.cell h0 (by simp), h.cell h1 (by simp)⟩, h⟩

/-- Behind a copy and a variable for a part, in whichever order they were made. -/
structure Uni (W u : World) (X Q n : Nat) (k : Int) (l : List Nat) : Prop where
  c0 : u.cell? ⟨X, 0, none⟩ = some (.slice (some ⟨Q, 0, none⟩) n n)
  c1 : u.cell? ⟨X, 1, none⟩ = some (.int .i64 k)
  q : u.heap[Q]? = some (.cells (bytesV l).toArray 5 (0, 0))
  x : ∃ cs, u.heap[X]? = some (.cells cs 81 (0, 0))
  rl : Rl W u
  bx : W.heap.size ≤ X
  bq : W.heap.size ≤ Q

theorem uniA {W w1 : World} {k : Int} {l : List Nat} {n : Nat} (hq : w1.heap[W.drew.heap.size]? = some (.cells (bytesV l).toArray 5 (0, 0))) (hg : W.drew.grownBy w1 none) :
    Uni W (w1.alloc (.cells #[.slice (some ⟨W.heap.size, 0, none⟩) n n, .int .i64 k] 81)) w1.heap.size W.heap.size n k l where
  c0 := cell_of_row _ _ _ _ _ _ (heap_alloc_new w1 _)
  c1 := cell_of_row _ _ _ _ _ _ (heap_alloc_new w1 _)
  q := by
    have hq' : w1.heap[W.heap.size]? = some (.cells (bytesV l).toArray 5 (0, 0)) := hq
    rw [Below.heap_alloc _ _ _ (Array.getElem?_eq_some_iff.1 hq').1]
    exact hq'
  x := ⟨_, heap_alloc_new w1 _⟩
  rl := Rl.alloc (Rl.own (Rl.drew (Rl.refl W)) hg) _
  bx := hg.size
  bq := Nat.le_refl _

theorem uniB {W w1 : World} {k : Int} {l : List Nat} {n : Nat} {z0 z1 : Value} (hq : w1.heap[(W.alloc (.cells #[z0, z1] 81)).drew.heap.size]? = some (.cells (bytesV l).toArray 5 (0, 0))) (hg : (W.alloc (.cells #[z0, z1] 81)).drew.grownBy w1 none) :
    Uni W ((w1.setCell ⟨W.heap.size, 0, none⟩ (.slice (some ⟨W.heap.size + 1, 0, none⟩) n n)).setCell ⟨W.heap.size, 1, none⟩ (.int .i64 k)) W.heap.size (W.heap.size + 1) n k l := by
  have hh : w1.heap[W.heap.size]? = some (.cells #[z0, z1] 81 (0, 0)) := by
    rw [hg.block _ (by simp) (by simp)]
    exact heap_alloc_new W _
  have hs : (W.alloc (.cells #[z0, z1] 81)).drew.heap.size = W.heap.size + 1 := by simp
  rw [hs] at hq
  have h1 := heap_setCell_same w1 W.heap.size 0 #[z0, z1] 81 (.slice (some ⟨W.heap.size + 1, 0, none⟩) n n) hh
  have h2 := heap_setCell_same _ W.heap.size 1 _ 81 (.int .i64 k) h1
  have h3 : Rl W w1 := Rl.own (Rl.drew (Rl.alloc (Rl.refl W) _)) hg
  refine ⟨cell_of_row _ _ _ _ _ _ h2, cell_of_row _ _ _ _ _ _ h2, ?_, ⟨_, h2⟩, Rl.set (Rl.set h3 _ _ _ (Nat.le_refl _)) _ _ _ (Nat.le_refl _), Nat.le_refl _, by omega⟩
  rw [heap_setCell_other _ _ _ _ (by simp), heap_setCell_other _ _ _ _ (by simp)]
  exact hq

theorem take_drop_sub {α : Type} (ps : List α) (i : Nat) : (ps.take i ++ ps.drop (i + 1)).Sublist ps := by
  have h : ps.take i ++ ps.drop i = ps := List.take_append_drop i ps
  have h2 : (ps.drop (i + 1)).Sublist (ps.drop i) := by
    rw [show ps.drop (i + 1) = (ps.drop i).drop 1 by rw [List.drop_drop]]
    exact List.drop_sublist 1 _
  have h3 := List.Sublist.append (List.Sublist.refl (ps.take i)) h2
  rw [h] at h3
  exact h3

theorem good_row {B Q n : Nat} {u : World} {l : List Nat} {k : Int} (hn : l.length = n) (h0 : 0 < n) (hm : n ≤ 1000000) (hB : B ≤ Q) (hq : u.heap[Q]? = some (.cells (bytesV l).toArray 5 (0, 0))) : Good B u ⟨.slice (some ⟨Q, 0, none⟩) n n, l, k⟩ :=
  ⟨⟨by simp [bytesV_len], Or.inr ⟨Q, n, (bytesV l).toArray, by simp [hn], hB, hq, by simp [hn], by unfold maxLen; omega, by simp [bytesV_len, hn], by rw [List.take_of_length_le (by simp [bytesV_len])]⟩⟩, by simp [hn]; omega⟩

theorem Good.ty {B : Nat} {w : World} {p : Pc} (h : Good B w p) : ∃ b c, p.v.ownBlock = some b ∧ w.heap[b]? = some (.cells c 5 (0, 0)) := by
  rcases h.1.2 with ⟨_, h0⟩ | ⟨g, cap, cur, e, hB, hh, _⟩
  · have := h.2; omega
  · exact ⟨g, cur, by rw [e]; rfl, hh⟩

theorem Good.kept {B g : Nat} {w w' : World} {p : Pc} (h : Good B w p) (hg : w.grownBy w' (some g)) (hne : p.v.ownBlock ≠ some g) : Good B w' p := ⟨h.1.kept hg (Or.inr hne), h.2⟩
theorem Good.keptN {B : Nat} {w w' : World} {p : Pc} (h : Good B w p) (hg : w.grownBy w' none) : Good B w' p := ⟨h.1.kept hg (by cases p.v.ownBlock <;> simp), h.2⟩

theorem grownBy_set (w : World) (b i : Nat) (v : Value) : w.grownBy (w.setCell ⟨b, i, none⟩ v) (some b) :=
  ⟨rfl, rfl, rfl, by simp, fun k _ hk => heap_setCell_other _ _ _ _ (fun e => hk (by simp [e]))⟩

/-- A new row of parts behind the old table: what was in it, two in the place of one. -/
theorem tab_halved {B T g N cap i : Nat} {ps : List Pc} {s a : Int} {w W3 w5 : World} {pv' : Value} {n m Q1 Q2 : Nat} {k1 k2 : Int} {l1 l2 : List Nat}
    (h : Tab B w T (.slice (some ⟨g, 0, none⟩) N cap) ps s a) (hB : B ≤ w.heap.size) (hi : i < ps.length) (h3 : w.grownBy W3 none) (h5 : W3.grownBy w5 (some g)) (hg : ∃ c, w.heap[g]? = some (.cells c 81 (0, 0))) (hBg : B ≤ g)
    (hr : w5.ownsRow B 81 2 pv' (ps.length + 1) ((rowOf ps).take (2 * i) ++ ([.slice (some ⟨Q1, 0, none⟩) n n, .int .i64 k1, .slice (some ⟨Q2, 0, none⟩) m m, .int .i64 k2] ++ (rowOf ps).drop (2 * (i + 1)))))
    (hq1 : W3.heap[Q1]? = some (.cells (bytesV l1).toArray 5 (0, 0))) (hq2 : W3.heap[Q2]? = some (.cells (bytesV l2).toArray 5 (0, 0))) (b1 : w.heap.size ≤ Q1) (b2 : w.heap.size ≤ Q2) (hne : Q1 ≠ Q2)
    (e1 : l1.length = n) (e2 : l2.length = m) (n0 : 0 < n) (m0 : 0 < m) (hn : n ≤ 1000000) (hm : m ≤ 1000000) (hat : pv'.ownBlock = some g ∨ pv'.ownBlock = some W3.heap.size) :
    Tab B (w5.setCell ⟨T, 0, none⟩ pv') T pv' (ps.take i ++ ([⟨.slice (some ⟨Q1, 0, none⟩) n n, l1, k1⟩, ⟨.slice (some ⟨Q2, 0, none⟩) m m, l2, k2⟩] ++ ps.drop (i + 1))) s a ∧ Kept (Own T (.slice (some ⟨g, 0, none⟩) N cap) ps) w (w5.setCell ⟨T, 0, none⟩ pv') ∧ (∀ k, k < w.heap.size → Own T pv' (ps.take i ++ ([⟨.slice (some ⟨Q1, 0, none⟩) n n, l1, k1⟩, ⟨.slice (some ⟨Q2, 0, none⟩) m m, l2, k2⟩] ++ ps.drop (i + 1))) k → Own T (.slice (some ⟨g, 0, none⟩) N cap) ps k) := by
  obtain ⟨gc, hg⟩ := hg
  have hgT : T ≠ g := by
    intro e
    rw [← e, h.head] at hg
    simp at hg
  have hgw : g < w.heap.size := (Array.getElem?_eq_some_iff.1 hg).1
  have hTw := h.lt
  have hT3 : W3.heap[T]? = some (.cells #[.slice (some ⟨g, 0, none⟩) N cap, .int .i64 s, .int .i64 a] 78 (0, 0)) := by rw [h3.block T hTw (by simp)]; exact h.head
  have hT5 : w5.heap[T]? = some (.cells #[.slice (some ⟨g, 0, none⟩) N cap, .int .i64 s, .int .i64 a] 78 (0, 0)) := by rw [h5.block T (Nat.lt_of_lt_of_le hTw h3.size) (by simpa using hgT)]; exact hT3
  have hset := grownBy_set w5 T 0 pv'
  have hold : ∀ p ∈ ps, Good B (w5.setCell ⟨T, 0, none⟩ pv') p ∧ ∃ b, p.v.ownBlock = some b ∧ b < w.heap.size := by
    intro p hp
    have gp := h.good p hp
    obtain ⟨b, c, hb, hh⟩ := gp.ty
    have hbg : b ≠ g := by intro e; rw [e, hg] at hh; simp at hh
    have hbT : b ≠ T := by intro e; rw [e, h.head] at hh; simp at hh
    exact ⟨((gp.keptN h3).kept h5 (by rw [hb]; simpa using hbg)).kept hset (by rw [hb]; simpa using hbT), b, hb, (Array.getElem?_eq_some_iff.1 hh).1⟩
  have hnew1 : Good B (w5.setCell ⟨T, 0, none⟩ pv') ⟨.slice (some ⟨Q1, 0, none⟩) n n, l1, k1⟩ := by
    have hq1l := (Array.getElem?_eq_some_iff.1 hq1).1
    refine good_row e1 n0 hn (by omega) ?_
    rw [heap_setCell_other _ _ _ _ (by simp; omega), h5.block Q1 hq1l (by simp; omega)]
    exact hq1
  have hnew2 : Good B (w5.setCell ⟨T, 0, none⟩ pv') ⟨.slice (some ⟨Q2, 0, none⟩) m m, l2, k2⟩ := by
    have hq2l := (Array.getElem?_eq_some_iff.1 hq2).1
    refine good_row e2 m0 hm (by omega) ?_
    rw [heap_setCell_other _ _ _ _ (by simp; omega), h5.block Q2 hq2l (by simp; omega)]
    exact hq2
  have hap := h.apart.sublist (take_drop_sub ps i)
  refine ⟨⟨h.low, ?_, ?_, ?_, ?_⟩, ?_, ?_⟩
  · rw [heap_setCell_same _ T 0 _ 78 _ hT5]
    rfl
  · have e3 : (ps.take i ++ ([(⟨.slice (some ⟨Q1, 0, none⟩) n n, l1, k1⟩ : Pc), ⟨.slice (some ⟨Q2, 0, none⟩) m m, l2, k2⟩] ++ ps.drop (i + 1))).length = ps.length + 1 := by
      simp only [List.length_append, List.length_take, List.length_drop, List.length_cons, List.length_nil]; omega
    rw [e3, rowOf_app, rowOf_app, ← rowOf_take, ← rowOf_drop]
    refine hr.kept hset ?_
    rcases hr.2 with ⟨e, _⟩ | ⟨g', cap', cur, e, _, hh, _⟩
    · rw [e]; exact Or.inl rfl
    · refine Or.inr ?_
      rw [e]
      intro e'
      simp only [Value.ownBlock, Option.some.injEq] at e'
      rw [e', hT5] at hh
      simp at hh
  · intro p hp
    simp only [List.mem_append, List.mem_cons, List.not_mem_nil, or_false] at hp
    rcases hp with hp | (rfl | rfl) | hp
    · exact (hold p (List.mem_of_mem_take hp)).1
    · exact hnew1
    · exact hnew2
    · exact (hold p (List.mem_of_mem_drop hp)).1
  · rw [List.pairwise_append] at hap ⊢
    obtain ⟨a1, a2, a3⟩ := hap
    have far : ∀ p ∈ ps, ∀ (Q nn cc : Nat), w.heap.size ≤ Q → p.v.ownBlock ≠ some Q := by
      intro p hp Q nn cc hQ e
      obtain ⟨_, b, hb, hlt⟩ := hold p hp
      rw [hb] at e
      simp only [Option.some.injEq] at e
      omega
    refine ⟨a1, ?_, ?_⟩
    · refine List.pairwise_append.2 ⟨?_, a2, ?_⟩
      · simp only [List.pairwise_cons, List.mem_singleton, forall_eq, List.not_mem_nil, false_implies, implies_true, List.Pairwise.nil, and_true]
        simp only [Apart, Value.ownBlock, ne_eq, Option.some.injEq]
        exact hne
      · intro x hx y hy
        simp only [List.mem_cons, List.not_mem_nil, or_false] at hx
        have hy' := List.mem_of_mem_drop hy
        rcases hx with rfl | rfl
        · exact fun e => far y hy' Q1 0 0 b1 e.symm
        · exact fun e => far y hy' Q2 0 0 b2 e.symm
    · intro x hx y hy
      simp only [List.mem_append, List.mem_cons, List.not_mem_nil, or_false] at hy
      have hx' := List.mem_of_mem_take hx
      rcases hy with (rfl | rfl) | hy
      · exact far x hx' Q1 0 0 b1
      · exact far x hx' Q2 0 0 b2
      · exact a3 x hx y hy
  rotate_left
  · intro k hk ho
    have hs3 := h3.size
    rcases ho with rfl | ho | ⟨p, hp, hb⟩
    · exact Or.inl rfl
    · rcases hat with e | e
      · exact Or.inr (Or.inl (by rw [← ho, e]; rfl))
      · rw [e] at ho
        simp only [Option.some.injEq] at ho
        omega
    · simp only [List.mem_append, List.mem_cons, List.not_mem_nil, or_false] at hp
      rcases hp with hp | (rfl | rfl) | hp
      · exact Or.inr (Or.inr ⟨p, List.mem_of_mem_take hp, hb⟩)
      · simp only [Value.ownBlock, Option.some.injEq] at hb
        omega
      · simp only [Value.ownBlock, Option.some.injEq] at hb
        omega
      · exact Or.inr (Or.inr ⟨p, List.mem_of_mem_drop hp, hb⟩)
  · exact ((kept_none h3).trans (kept_some h5 (Or.inr (Or.inl rfl))) (fun _ _ h => h)).trans (kept_some hset (Or.inl rfl)) (fun _ _ h => h)


end Go.Proofs.PlatenPiece
