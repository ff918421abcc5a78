/- A history in memory; what past.New and Depth come to. -/
import Derived.Test.YtibdhahkkejnjaaPsF
namespace Go.Proofs.PlatenPiece
open Go Go.RowKit
set_option linter.unusedVariables false
set_option maxRecDepth 100000

theorem step_append_wh {P : Program} {ops : Array Oper} {o : Oper} {a : Act} {w : World} {K : Act → World → Prop} {Q : Exit → Act → World → Prop} {E : Prop} (hgd : o.guard = none) (s x : Operand) (t : TypeId)
    (hop : o.op = .call { callee := .builtin .append, args := #[s, x], argTypes := #[t, t] })
    (base : Nat) (e : TypeId) (i : TypeInfo) (z : Value) (size bytes : Nat) (ht : P.underlying t = some (.slice e)) (hi : P.info? e = some i) (hz : i.zero = some z)
    (hsize : i.size = size) (hby : i.bytes = bytes) (hzs : z.cells.size = size) (hsz : 0 < size)
    (v : Value) (n : Nat) (xs : List Value) (hs : a.eval s = v) (hown : w.ownsRow base e size v n xs)
    (ad : Addr) (m c : Nat) (news : List Value) (hx : a.eval x = .slice (some ad) m c) (hl : news.length = m * size) (hnews : ∀ j u, news[j]? = some u → w.cell? (ad.add j) = some u) (h1 : ∀ u ∈ news, u.oneCell' = true)
    (h63 : n + m ≤ maxLen) (hbytes : (n + m) * bytes ≤ 140737488355328) (hbase : base ≤ w.heap.size) (hm : 0 < m)
    (hK : ∀ v' w', Hid (w'.ownsRow base e size v' (n + m) (xs ++ news)) → Hid (w.grownBy w' v.ownBlock) → Hid (v'.ownBlock = v.ownBlock ∨ v'.ownBlock = some w.heap.size) → K (a.put o.dst v') w') :
    if Region.wanted o (yielded ops a.tmps) = true then Oper.wp P o a w K Q else E := by
  have hw : Region.wanted o (yielded ops a.tmps) = true := by simp [Region.wanted, hgd]
  rw [if_pos hw]
  obtain ⟨v', w', hrun, h2, h3, h4⟩ := run_append_at (P := P) w base t o.type e i z size bytes ht hi hz hsize hby hzs hsz v n xs hown ad m c news hl hnews h1 h63 hbytes hbase hm
  unfold Oper.wp
  simp [execOp, hop, resolve, invoke, builtin, hs, hx, hrun, Result.andThen]
  exact hK _ _ h2 h3 h4

def rowE (es : List Ed) : List Value := es.flatMap Ed.row
theorem rowE_len (es : List Ed) : (rowE es).length = es.length * 3 := by
  induction es with
  | nil => rfl
  | cons e es ih => simp only [rowE, List.flatMap_cons, List.length_append, List.length_cons] at ih ⊢; rw [ih]; simp [Ed.row]; omega
theorem rowE_app (a b : List Ed) : rowE (a ++ b) = rowE a ++ rowE b := by simp [rowE]
theorem rowE_at (es : List Ed) (i : Nat) (e : Ed) (h : es[i]? = some e) (j : Nat) (hj : j < 3) : (rowE es)[i * 3 + j]? = e.row[j]? := by
  have hlt : i < es.length := (List.getElem?_eq_some_iff.1 h).1
  have he : es[i] = e := (List.getElem?_eq_some_iff.1 h).2
  have hs : rowE es = rowE (es.take i) ++ (e.row ++ rowE (es.drop (i + 1))) := by
    conv => lhs; rw [← List.take_append_drop i es, List.drop_eq_getElem_cons hlt, he]
    simp [rowE]
  have hl : (rowE (es.take i)).length = i * 3 := by rw [rowE_len, List.length_take, Nat.min_eq_left (by omega)]
  rw [hs, List.getElem?_append_right (by omega), hl, Nat.add_sub_cancel_left, List.getElem?_append_left (by simp [Ed.row]; omega)]

/-- A history at block H of the table at T: its text, the edits at hand, what is done and what is undone. -/
structure HP (B : Nat) (w : World) (H T : Nat) (l : List Nat) (c : Nat) (O : Nat → Prop) (ov dv uv : Value) (op : List Ed) (dn ud : List (Value × List Ed)) : Prop where
  low : B ≤ H
  bs : B ≤ w.heap.size
  head : w.heap[H]? = some (.cells #[.pointer (some ⟨T, 0, none⟩), ov, dv, uv] 91 (0, 0))
  tx : Tx B w T l c O
  orow : w.ownsRow B 57 3 ov op.length (rowE op)
  drow : w.ownsRow B 49 1 dv dn.length (dn.map (·.1))
  urow : w.ownsRow B 49 1 uv ud.length (ud.map (·.1))
  trs : ∀ t ∈ dn ++ ud, w.ownsRow B 57 3 t.1 t.2.length (rowE t.2) ∧ t.1.ownBlock ≠ ov.ownBlock ∧ 0 < t.2.length
  apart : dv.ownBlock = none ∨ dv.ownBlock ≠ uv.ownBlock
/-- Its blocks. -/
def HOwn (H : Nat) (O : Nat → Prop) (ov dv uv : Value) (dn ud : List (Value × List Ed)) (k : Nat) : Prop := k = H ∨ O k ∨ ov.ownBlock = some k ∨ dv.ownBlock = some k ∨ uv.ownBlock = some k ∨ ∃ t ∈ dn ++ ud, t.1.ownBlock = some k

section
variable {B : Nat} {w w' : World} {H T : Nat} {l : List Nat} {c : Nat} {O : Nat → Prop} {ov dv uv : Value} {op : List Ed} {dn ud : List (Value × List Ed)}
theorem HP.lt (h : HP B w H T l c O ov dv uv op dn ud) : H < w.heap.size := (Array.getElem?_eq_some_iff.1 h.head).1
theorem HP.own (h : HP B w H T l c O ov dv uv op dn ud) : ∀ k, HOwn H O ov dv uv dn ud k → B ≤ k ∧ k < w.heap.size := by
  intro k hk
  rcases hk with rfl | hk | hk | hk | hk | ⟨t, ht, hk⟩
  · exact ⟨h.low, h.lt⟩
  · exact h.tx.own k hk
  · exact own_lt_row h.orow hk
  · exact own_lt_row h.drow hk
  · exact own_lt_row h.urow hk
  · exact own_lt_row (h.trs t ht).1 hk
theorem HP.cells (h : HP B w H T l c O ov dv uv op dn ud) : w.cell? ⟨H, 0, none⟩ = some (.pointer (some ⟨T, 0, none⟩)) ∧ w.cell? ⟨H, 1, none⟩ = some ov ∧ w.cell? ⟨H, 2, none⟩ = some dv ∧ w.cell? ⟨H, 3, none⟩ = some uv := by
  simp [World.cell?, h.head]
theorem HP.free (h : HP B w H T l c O ov dv uv op dn ud) (j : Nat) : w.frozen? ⟨H, j, none⟩ = false := frozen_of_row w H j _ 91 h.head
/-- It stands where its blocks do. -/
theorem HP.same (h : HP B w H T l c O ov dv uv op dn ud) (hs : w.heap.size ≤ w'.heap.size) (hb : ∀ k, HOwn H O ov dv uv dn ud k → w'.heap[k]? = w.heap[k]?) : HP B w' H T l c O ov dv uv op dn ud where
  low := h.low
  bs := Nat.le_trans h.bs hs
  head := (hb H (Or.inl rfl)).trans h.head
  tx := h.tx.same hs (fun k hk => hb k (Or.inr (Or.inl hk)))
  orow := row_same h.orow (fun k hk => hb k (Or.inr (Or.inr (Or.inl hk))))
  drow := row_same h.drow (fun k hk => hb k (Or.inr (Or.inr (Or.inr (Or.inl hk)))))
  urow := row_same h.urow (fun k hk => hb k (Or.inr (Or.inr (Or.inr (Or.inr (Or.inl hk))))))
  trs := fun t ht => ⟨row_same (h.trs t ht).1 (fun k hk => hb k (Or.inr (Or.inr (Or.inr (Or.inr (Or.inr ⟨t, ht, hk⟩)))))), (h.trs t ht).2⟩
  apart := h.apart
theorem HP.grown (h : HP B w H T l c O ov dv uv op dn ud) (hg : w.grownBy w' none) : HP B w' H T l c O ov dv uv op dn ud := h.same hg.size (fun k hk => hg.block k (h.own k hk).2 (by simp))
/-- What the table's own blocks are not. -/
theorem HP.off (h : HP B w H T l c O ov dv uv op dn ud) : ∀ k, O k → k ≠ H ∧ ov.ownBlock ≠ some k ∧ dv.ownBlock ≠ some k ∧ uv.ownBlock ≠ some k ∧ ∀ t ∈ dn ++ ud, t.1.ownBlock ≠ some k := by
  intro k hk
  obtain ⟨x, t, hx, ht⟩ := h.tx.ty k hk
  have aux : ∀ y s, w.heap[k]? = some (.cells y s (0, 0)) → s = 91 ∨ s = 57 ∨ s = 49 → False := by
    intro y s hy hs
    rw [hx] at hy
    simp only [Option.some.injEq, Obj.cells.injEq] at hy
    obtain ⟨_, rfl, _⟩ := hy
    rcases hs with rfl | rfl | rfl <;> rcases ht with q | q | q <;> exact absurd q (by decide)
  refine ⟨?_, ?_, ?_, ?_, ?_⟩
  · rintro rfl; exact aux _ _ h.head (Or.inl rfl)
  · intro e; obtain ⟨y, hy⟩ := row_ty h.orow e; exact aux _ _ hy (Or.inr (Or.inl rfl))
  · intro e; obtain ⟨y, hy⟩ := row_ty h.drow e; exact aux _ _ hy (Or.inr (Or.inr rfl))
  · intro e; obtain ⟨y, hy⟩ := row_ty h.urow e; exact aux _ _ hy (Or.inr (Or.inr rfl))
  · intro t' ht' e; obtain ⟨y, hy⟩ := row_ty (h.trs t' ht').1 e; exact aux _ _ hy (Or.inr (Or.inl rfl))
/-- The table has changed, and nothing else. -/
theorem HP.text (h : HP B w H T l c O ov dv uv op dn ud) {l' : List Nat} {c' : Nat} {O' : Nat → Prop} (hT : Tx B w' T l' c' O') (hK : Kept O w w') : HP B w' H T l' c' O' ov dv uv op dn ud := by
  have hst : ∀ k, HOwn H O ov dv uv dn ud k → ¬ O k → w'.heap[k]? = w.heap[k]? := fun k hk ho => hK.block k (h.own k hk).2 ho
  refine ⟨h.low, Nat.le_trans h.bs hK.size, ?_, hT, ?_, ?_, ?_, ?_, h.apart⟩
  · exact (hst H (Or.inl rfl) (fun o => (h.off H o).1 rfl)).trans h.head
  · exact row_same h.orow (fun k hk => hst k (Or.inr (Or.inr (Or.inl hk))) (fun o => (h.off k o).2.1 hk))
  · exact row_same h.drow (fun k hk => hst k (Or.inr (Or.inr (Or.inr (Or.inl hk)))) (fun o => (h.off k o).2.2.1 hk))
  · exact row_same h.urow (fun k hk => hst k (Or.inr (Or.inr (Or.inr (Or.inr (Or.inl hk))))) (fun o => (h.off k o).2.2.2.1 hk))
  · exact fun t ht => ⟨row_same (h.trs t ht).1 (fun k hk => hst k (Or.inr (Or.inr (Or.inr (Or.inr (Or.inr ⟨t, ht, hk⟩))))) (fun o => (h.off k o).2.2.2.2 t ht hk)), (h.trs t ht).2⟩
theorem HOwn.text {O' : Nat → Prop} {k : Nat} (h : HOwn H O' ov dv uv dn ud k) (hO : O' k → O k) : HOwn H O ov dv uv dn ud k := by
  rcases h with h | h | h
  · exact Or.inl h
  · exact Or.inr (Or.inl (hO h))
  · exact Or.inr (Or.inr h)
end

set_option maxHeartbeats 1000000 in
theorem past_new {B : Nat} {w : World} {T c : Nat} {l : List Nat} {O : Nat → Prop} (h : Tx B w T l c O) (hB : B ≤ w.heap.size) :
    Calls Try.prog 26 #[.pointer (some ⟨T, 0, none⟩)] w fun e w' => e = .returned (.pointer (some ⟨w.heap.size, 0, none⟩)) ∧ HP B w' w.heap.size T l c O (.slice none 0 0) (.slice none 0 0) (.slice none 0 0) [] [] [] ∧ w.grownBy w' none := by
  have HT := hidden h
  clear h
  go_enter Try.func26, Try.ntmps26
  go_wp2
  go_ret
  refine ⟨rfl, ⟨hB, by simp; omega, heap_alloc_new _ _, HT.out.grown (grownBy_alloc _ _), World.ownsRow_nil _ _ _ _, World.ownsRow_nil _ _ _ _, World.ownsRow_nil _ _ _ _, by simp, Or.inl rfl⟩, grownBy_alloc _ _⟩
set_option maxHeartbeats 1000000 in
theorem past_new_nil (w : World) : Calls Try.prog 26 #[.pointer none] w fun e w' => e = .returned (.pointer none) ∧ w' = w := by
  go_enter Try.func26, Try.ntmps26
  go_wp2
  go_ret
  exact ⟨rfl, rfl⟩
end Go.Proofs.PlatenPiece
