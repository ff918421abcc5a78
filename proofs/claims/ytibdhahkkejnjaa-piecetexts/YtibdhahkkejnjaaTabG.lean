/- What a table's pieces are behind an Insert: the table's cells, the row with one piece more; where Insert answers ErrArg. -/
import Derived.Test.YtibdhahkkejnjaaTabF
namespace Go.Proofs.PlatenPiece
open Go Go.RowKit
set_option linter.unusedVariables false

theorem Tab.fz {B : Nat} {w : World} {T : Nat} {pv : Value} {ps : List Pc} {s a : Int} (h : Tab B w T pv ps s a) (j : Nat) : w.frozen? ⟨T, j, none⟩ = false := frozen_of_row w T j _ 78 h.head
theorem Tab.apartT {B : Nat} {w : World} {T : Nat} {pv : Value} {ps : List Pc} {s a : Int} (h : Tab B w T pv ps s a) : pv.ownBlock ≠ some T ∧ ∀ p ∈ ps, p.v.ownBlock ≠ some T := by
  constructor
  · intro e
    rcases h.row.2 with ⟨e', _⟩ | ⟨g, cap, cur, e', _, hh, _⟩
    · rw [e'] at e; cases e
    · rw [e'] at e
      simp only [Value.ownBlock, Option.some.injEq] at e
      rw [e, h.head] at hh
      simp at hh
  · intro p hp e
    obtain ⟨b, c, hb, hh⟩ := (h.good p hp).ty
    rw [hb] at e
    simp only [Option.some.injEq] at e
    rw [e, h.head] at hh
    simp at hh
theorem Tab.put {B : Nat} {w : World} {T : Nat} {pv : Value} {ps : List Pc} {s a : Int} (h : Tab B w T pv ps s a) (j : Nat) (u : Value) (s' a' : Int) (hj : (#[pv, .int .i64 s, .int .i64 a] : Array Value).setIfInBounds j u = #[pv, .int .i64 s', .int .i64 a']) : Tab B (w.setCell ⟨T, j, none⟩ u) T pv ps s' a' where
  low := h.low
  head := by rw [heap_setCell_same _ T j _ 78 _ h.head, hj]
  row := h.row.kept (grownBy_set w T j u) (Or.inr h.apartT.1)
  good := fun p hp => (h.good p hp).kept (grownBy_set w T j u) (h.apartT.2 p hp)
  apart := h.apart

theorem tab_inserted {B T i : Nat} {ps : List Pc} {s a : Int} {w u w5 : World} {pv pv' : Value} {n Q : Nat} {k : Int} {l : List Nat}
    (h : Tab B w T pv ps s a) (hB : B ≤ w.heap.size) (hi : i ≤ ps.length) (h3 : w.grownBy u none) (h5 : u.grownBy w5 pv.ownBlock)
    (hr : w5.ownsRow B 81 2 pv' (ps.length + 1) ((rowOf ps).take (2 * i) ++ ([.slice (some ⟨Q, 0, none⟩) n n, .int .i64 k] ++ (rowOf ps).drop (2 * i))))
    (hq : u.heap[Q]? = some (.cells (bytesV l).toArray 5 (0, 0))) (b1 : w.heap.size ≤ Q) (e1 : l.length = n) (n0 : 0 < n) (hn : n ≤ 1000000) (hat : pv'.ownBlock = pv.ownBlock ∨ pv'.ownBlock = some u.heap.size) :
    Tab B (w5.setCell ⟨T, 0, none⟩ pv') T pv' (ps.take i ++ ([⟨.slice (some ⟨Q, 0, none⟩) n n, l, k⟩] ++ ps.drop i)) s a ∧ Kept (Own T pv ps) w (w5.setCell ⟨T, 0, none⟩ pv') ∧ (∀ j, j < w.heap.size → Own T pv' (ps.take i ++ ([⟨.slice (some ⟨Q, 0, none⟩) n n, l, k⟩] ++ ps.drop i)) j → Own T pv ps j) ∧ w5.cell? ⟨T, 0, none⟩ = some pv ∧ w5.frozen? ⟨T, 0, none⟩ = false := by
  have hTw := h.lt
  have hT3 : u.heap[T]? = some (.cells #[pv, .int .i64 s, .int .i64 a] 78 (0, 0)) := by rw [h3.block T hTw (by simp)]; exact h.head
  have hT5 : w5.heap[T]? = some (.cells #[pv, .int .i64 s, .int .i64 a] 78 (0, 0)) := by rw [h5.block T (Nat.lt_of_lt_of_le hTw h3.size) (fun e => h.apartT.1 e.symm)]; exact hT3
  have hset := grownBy_set w5 T 0 pv'
  have hrow : ∀ b, pv.ownBlock = some b → b < w.heap.size ∧ ∃ c, w.heap[b]? = some (.cells c 81 (0, 0)) := by
    intro b hb
    rcases h.row.2 with ⟨e', _⟩ | ⟨g, cap, cur, e', _, hh, _⟩
    · rw [e'] at hb; cases hb
    · rw [e'] at hb
      simp only [Value.ownBlock, Option.some.injEq] at hb
      subst hb
      exact ⟨(Array.getElem?_eq_some_iff.1 hh).1, _, hh⟩
  have hold : ∀ p ∈ ps, Good B (w5.setCell ⟨T, 0, none⟩ pv') p ∧ ∃ b, p.v.ownBlock = some b ∧ b < w.heap.size := by
    intro p hp
    have gp := h.good p hp
    obtain ⟨b, c, hb, hh⟩ := gp.ty
    have hbT := h.apartT.2 p hp
    have hne : p.v.ownBlock ≠ pv.ownBlock := by
      intro e
      rw [hb] at e
      obtain ⟨_, c', hc'⟩ := hrow b e.symm
      rw [hc'] at hh
      simp at hh
    exact ⟨⟨(((gp.keptN h3).1.kept h5 (Or.inr hne)).kept hset (Or.inr hbT)), gp.2⟩, b, hb, (Array.getElem?_eq_some_iff.1 hh).1⟩
  have hnew : Good B (w5.setCell ⟨T, 0, none⟩ pv') ⟨.slice (some ⟨Q, 0, none⟩) n n, l, k⟩ := by
    have hql := (Array.getElem?_eq_some_iff.1 hq).1
    refine good_row e1 n0 hn (by omega) ?_
    rw [heap_setCell_other _ _ _ _ (by simp; omega), h5.block Q hql (fun e => by have := (hrow Q e.symm).1; omega)]
    exact hq
  have far : ∀ p ∈ ps, p.v.ownBlock ≠ some Q := by
    intro p hp e
    obtain ⟨_, b, hb, hlt⟩ := hold p hp
    rw [hb] at e
    simp only [Option.some.injEq] at e
    omega
  have hap := h.apart
  rw [← List.take_append_drop i ps, List.pairwise_append] at hap
  obtain ⟨a1, a2, a3⟩ := hap
  refine ⟨⟨h.low, ?_, ?_, ?_, ?_⟩, ?_, ?_, ?_, ?_⟩
  · rw [heap_setCell_same _ T 0 _ 78 _ hT5]
    rfl
  · have e3 : (ps.take i ++ ([(⟨.slice (some ⟨Q, 0, none⟩) n n, l, k⟩ : Pc)] ++ ps.drop i)).length = ps.length + 1 := by
      simp only [List.length_append, List.length_take, List.length_drop, List.length_cons, List.length_nil]; omega
    rw [e3, rowOf_app, rowOf_app, ← rowOf_take, ← rowOf_drop]
    refine hr.kept hset ?_
    rcases hr.2 with ⟨e, _⟩ | ⟨g', cap', cur, e, _, hh, _⟩
    · rw [e]; exact Or.inl rfl
    · refine Or.inr ?_
      rw [e]
      intro e'
      simp only [Value.ownBlock, Option.some.injEq] at e'
      rw [e', hT5] at hh
      simp at hh
  · intro p hp
    simp only [List.mem_append, List.mem_cons, List.not_mem_nil, or_false] at hp
    rcases hp with hp | rfl | hp
    · exact (hold p (List.mem_of_mem_take hp)).1
    · exact hnew
    · exact (hold p (List.mem_of_mem_drop hp)).1
  · rw [List.pairwise_append]
    refine ⟨a1, ?_, ?_⟩
    · refine List.pairwise_append.2 ⟨by simp, a2, ?_⟩
      intro x hx y hy
      simp only [List.mem_singleton] at hx
      subst hx
      exact fun e => far y (List.mem_of_mem_drop hy) e.symm
    · intro x hx y hy
      simp only [List.mem_append, List.mem_cons, List.not_mem_nil, or_false] at hy
      rcases hy with rfl | hy
      · exact far x (List.mem_of_mem_take hx)
      · exact a3 x hx y hy
  · refine ((kept_none h3).trans (O' := Own T pv ps) ?_ (fun _ _ h => h)).trans (kept_some hset (Or.inl rfl)) (fun _ _ h => h)
    exact ⟨h5.os, h5.tape, h5.output, h5.size, fun k hk hf => h5.block k hk (fun e => hf (Or.inr (Or.inl e.symm)))⟩
  · intro j hj ho
    have hs3 := h3.size
    rcases ho with rfl | ho | ⟨p, hp, hb⟩
    · exact Or.inl rfl
    · rcases hat with e | e
      · exact Or.inr (Or.inl (by rw [← ho, e]))
      · rw [e] at ho
        simp only [Option.some.injEq] at ho
        omega
    · simp only [List.mem_append, List.mem_cons, List.not_mem_nil, or_false] at hp
      rcases hp with hp | rfl | hp
      · exact Or.inr (Or.inr ⟨p, List.mem_of_mem_take hp, hb⟩)
      · simp only [Value.ownBlock, Option.some.injEq] at hb
        omega
      · exact Or.inr (Or.inr ⟨p, List.mem_of_mem_drop hp, hb⟩)
  · simp [World.cell?, hT5]
  · simp [World.frozen?, hT5]

theorem insert_rep {B T i : Nat} {ps : List Pc} {s a : Int} {w u : World} {pv : Value} {n Q vb N : Nat} {k : Int} {l : List Nat}
    (h : Tab B w T pv ps s a) (hN : ps.length = N) (hN2 : N ≤ 100000) (hB : B ≤ w.heap.size) (hi : i ≤ N) (h3 : w.grownBy u none)
    (hq : u.heap[Q]? = some (.cells (bytesV l).toArray 5 (0, 0))) (b1 : w.heap.size ≤ Q) (e1 : l.length = n) (n0 : 0 < n) (hn : n ≤ 1000000)
    (hvb : w.heap.size ≤ vb) (hv : u.heap[vb]? = some (.cells #[.slice (some ⟨Q, 0, none⟩) n n, .int .i64 k] 81 (0, 0))) :
    Calls Try.prog 68 #[pv, .int .i64 i, .slice (some ⟨vb, 0, none⟩) 1 1] u fun e w5 => ∃ g' cap', e = .returned (.slice (some ⟨g', 0, none⟩) (N + 1) cap') ∧
      Hid (Tab B (w5.setCell ⟨T, 0, none⟩ (.slice (some ⟨g', 0, none⟩) (N + 1) cap')) T (.slice (some ⟨g', 0, none⟩) (N + 1) cap') (ps.take i ++ ([⟨.slice (some ⟨Q, 0, none⟩) n n, l, k⟩] ++ ps.drop i)) s a ∧ Kept (Own T pv ps) w (w5.setCell ⟨T, 0, none⟩ (.slice (some ⟨g', 0, none⟩) (N + 1) cap')) ∧ (∀ j, j < w.heap.size → Own T (.slice (some ⟨g', 0, none⟩) (N + 1) cap') (ps.take i ++ ([⟨.slice (some ⟨Q, 0, none⟩) n n, l, k⟩] ++ ps.drop i)) j → Own T pv ps j)) ∧
      w5.cell? ⟨T, 0, none⟩ = some pv ∧ w5.frozen? ⟨T, 0, none⟩ = false := by
  subst hN
  have hu := h.grown h3
  refine (insert_any pv ps.length i vb B (rowOf ps) _ _ u (by omega) hi hu.row (Nat.le_trans hB h3.size) hv ?_ rfl rfl (rowOf_one hu.good)).mono ?_
  · intro e
    rcases h.row.2 with ⟨e', _⟩ | ⟨g, cap, cur, e', _, hh, _⟩
    · rw [e'] at e; cases e
    · rw [e'] at e
      simp only [Value.ownBlock, Option.some.injEq] at e
      have := (Array.getElem?_eq_some_iff.1 hh).1
      omega
  · rintro e w5 ⟨pv', rfl, hr, h5, hat⟩
    obtain ⟨g', cap', rfl⟩ : ∃ g' cap', pv' = .slice (some ⟨g', 0, none⟩) (ps.length + 1) cap' := by
      rcases hr.2 with ⟨_, h0⟩ | ⟨g', cap', cur, e, _⟩
      · omega
      · exact ⟨_, _, e⟩
    have hf := tab_inserted h hB hi h3 h5 hr hq b1 e1 n0 hn hat
    exact ⟨g', cap', rfl, ⟨hf.1, hf.2.1, hf.2.2.1⟩, hf.2.2.2.1, hf.2.2.2.2⟩

set_option maxHeartbeats 2000000 in
theorem insert_bad (t : Value) (s i : Int) (v : Value) (w : World) (ht : t = .pointer none ∨ ∃ T, t = .pointer (some ⟨T, 0, none⟩)) (hlen : Calls Try.prog 20 #[t] w fun e w' => e = .returned (.int .i64 s) ∧ w' = w) (hs0 : 0 ≤ s) (hs : s ≤ 1000000) (hi : ¬ (0 ≤ i ∧ i ≤ s) ∨ t = .pointer none) :
    Calls Try.prog 43 #[t, .int .i64 i, v] w fun e w' => e = .returned (.int .i64 1) ∧ w' = w := by
  rcases ht with rfl | ⟨T, rfl⟩
  · clear hlen
    go_enter Try.func43, Try.ntmps43
    go_wp2
    go_ret
    exact ⟨rfl, rfl⟩
  · have hh := has_of _ s i 0 w hlen hs0 hs
    have hd : decide (0 ≤ i ∧ i ≤ s ∧ 0 ≤ (0 : Int) ∧ 0 ≤ s - i) = false := decide_eq_false (by
      rcases hi with hi | hi
      · omega
      · cases hi)
    rw [hd] at hh
    have Hh := hidden hh
    clear hh hlen hd
    go_enter Try.func43, Try.ntmps43
    go_wp2_with fail
    refine Hh.out.mono ?_
    rintro e w' ⟨rfl, rfl⟩
    go_wp2
    go_ret
    exact ⟨rfl, rfl⟩

/-- Is the piece ahead of an index the newest? -/
def Grows (ps : List Pc) (i : Nat) (a : Int) : Prop := 0 < i ∧ 0 < a ∧ ∃ p, ps[i - 1]? = some p ∧ p.k = a
/-- What a table's pieces are behind an Insert. -/
def Ins (ps : List Pc) (at' : Nat) (l : List Nat) (a : Int) (ps' : List Pc) : Prop := ∃ i ps1, Cut ps at' i ps1 ∧
  ((¬ Grows ps1 i a ∧ ∃ q, ps' = ps1.take i ++ ([⟨q, l, a + l.length⟩] ++ ps1.drop i)) ∨
   (0 < i ∧ 0 < a ∧ ∃ p q, ps1[i - 1]? = some p ∧ p.k = a ∧ ps' = ps1.take (i - 1) ++ ([⟨q, p.l ++ l, a + l.length⟩] ++ ps1.drop i)))

theorem Cut.le {ps ps' : List Pc} {at' i : Nat} (h : Cut ps at' i ps') : i ≤ ps'.length ∧ ps'.length ≤ ps.length + 1 := by
  rcases h with ⟨rfl, h, _⟩ | ⟨j, p, n, q1, q2, hp, _, _, _, rfl, rfl⟩
  · omega
  · have := (List.getElem?_eq_some_iff.1 hp).1
    simp only [List.length_append, List.length_take, List.length_drop, List.length_cons, List.length_nil]
    omega

/-- The slice's block, if it has one, is none of O's. -/
def Outside (O : Nat → Prop) (v : Value) : Prop := ∀ b, v.ownBlock = some b → ¬ O b
theorem Src.kept {O : Nat → Prop} {w w' : World} {v : Value} {l : List Nat} (h : Src w v l) (hK : Kept O w w') (ho : Outside O v) : Src w' v l := by
  rcases h with h | ⟨ad, cap, hv, hc⟩
  · exact Or.inl h
  · refine Or.inr ⟨ad, cap, hv, fun j u hj => ?_⟩
    have h0 := hc j u hj
    have hlt := World.block_lt_of_cell? _ _ h0
    have hb : (ad.add j).block = ad.block := by simp only [Addr.add]; split <;> rfl
    rw [World.cell?_of_block (a := ad.add j) (hK.block _ hlt (by rw [hb]; exact ho _ (by rw [hv]; rfl)))]
    exact h0

end Go.Proofs.PlatenPiece
