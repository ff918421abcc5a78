/- What is done to a text in transactions, told plainly; the document's past in memory. -/
import Derived.Test.YtibdhahkkejnjaaPsF
import Derived.Test.YtibdhahkkejnjaaPsL
namespace Go.Proofs.PlatenPiece
open Go Go.RowKit
set_option linter.unusedVariables false
set_option maxRecDepth 100000

/-- An edit that may be made. -/
def okE (l : List Nat) (e : Ed) : Prop := fitsL l e ∧ l.length + e.new.size ≤ 65536 + e.old.size
/-- What the document's Put makes of a text. -/
def putL (l : List Nat) (e : Ed) : List Nat := l.take e.at'.toNat ++ (bts e.new ++ l.drop (e.at'.toNat + e.old.size))
theorem okE.app {l : List Nat} {e : Ed} (h : okE l e) : appL l e = putL l e := by
  obtain ⟨⟨h1, h2, h3⟩, h4⟩ := h
  unfold appL delL
  rw [if_pos ⟨h1, h2⟩]
  have ha : (l.take e.at'.toNat).length = e.at'.toNat := by rw [List.length_take]; omega
  have hlen : (l.take e.at'.toNat ++ l.drop (e.at'.toNat + e.old.size)).length = l.length - e.old.size := by
    rw [List.length_append, ha, List.length_drop]; omega
  unfold insL
  rw [hlen, if_pos (by rw [bts_len]; omega), List.take_left' ha, List.drop_left' ha]
  rfl
theorem putL_len {l : List Nat} {e : Ed} (h : okE l e) : (putL l e).length + e.old.size = l.length + e.new.size := by
  obtain ⟨⟨h1, h2, h3⟩, h4⟩ := h
  unfold putL
  rw [List.length_append, List.length_append, List.length_take, List.length_drop, bts_len]
  omega
theorem okE.lim {l : List Nat} {e : Ed} (h : okE l e) : (appL l e).length ≤ 65536 := by
  have := putL_len h
  rw [h.app]
  have := h.2
  omega
theorem okE.back {l : List Nat} {e : Ed} (h : okE l e) (hl : l.length ≤ 65536) : okE (appL l e) e.back ∧ appL (appL l e) e.back = l := by
  have hlen := putL_len h
  have happ := h.app
  obtain ⟨⟨h1, h2, h3⟩, h4⟩ := h
  have ha : (l.take e.at'.toNat).length = e.at'.toNat := by rw [List.length_take]; omega
  have hok : okE (putL l e) e.back := by
    refine ⟨⟨h1, ?_, ?_⟩, ?_⟩
    · show e.at' + (e.new.size : Int) ≤ ((putL l e).length : Int)
      omega
    · show ((putL l e).drop e.at'.toNat).take e.new.size = bts e.new
      unfold putL
      rw [List.drop_left' ha, List.take_left' (bts_len _)]
    · show (putL l e).length + e.old.size ≤ 65536 + e.new.size
      omega
  rw [happ]
  refine ⟨hok, ?_⟩
  rw [hok.app]
  show (putL l e).take e.at'.toNat ++ (bts e.old ++ (putL l e).drop (e.at'.toNat + e.new.size)) = l
  unfold putL
  rw [List.take_left' ha, ← List.drop_drop, List.drop_left' ha, List.drop_left' (bts_len _), ← h3, ← List.drop_drop, List.take_append_drop, List.take_append_drop]
theorem okE.lt {l : List Nat} {e : Ed} (h : okE l e) (hl : ∀ c ∈ l, c < 256) : ∀ c ∈ appL l e, c < 256 := by
  rw [h.app]
  intro c hc
  simp only [putL, List.mem_append] at hc
  rcases hc with hc | hc | hc
  · exact hl c (List.mem_of_mem_take hc)
  · exact bts_lt _ c hc
  · exact hl c (List.mem_of_mem_drop hc)

/-- Edits, one behind the other, from a text to another one. -/
def Run : List Nat → List Ed → List Nat → Prop
  | l, [], l' => l = l'
  | l, e :: es, l' => okE l e ∧ Run (appL l e) es l'
theorem run_app {a c : List Nat} {x y : List Ed} : Run a (x ++ y) c ↔ ∃ b, Run a x b ∧ Run b y c := by
  induction x generalizing a with
  | nil => exact ⟨fun h => ⟨a, rfl, h⟩, fun ⟨b, hb, h⟩ => by cases hb; exact h⟩
  | cons e es ih =>
    simp only [List.cons_append, Run]
    constructor
    · rintro ⟨h1, h2⟩
      obtain ⟨b, h3, h4⟩ := ih.1 h2
      exact ⟨b, ⟨h1, h3⟩, h4⟩
    · rintro ⟨b, ⟨h1, h2⟩, h3⟩
      exact ⟨h1, ih.2 ⟨b, h2, h3⟩⟩
theorem Run.fold {a b : List Nat} {es : List Ed} (h : Run a es b) : es.foldl appL a = b := by
  induction es generalizing a with
  | nil => exact h
  | cons e es ih => exact ih h.2
theorem Run.lim {a b : List Nat} {es : List Ed} (h : Run a es b) (ha : a.length ≤ 65536) : b.length ≤ 65536 := by
  induction es generalizing a with
  | nil => cases h; exact ha
  | cons e es ih => exact ih h.2 h.1.lim
theorem Run.lt {a b : List Nat} {es : List Ed} (h : Run a es b) (ha : ∀ c ∈ a, c < 256) : ∀ c ∈ b, c < 256 := by
  induction es generalizing a with
  | nil => cases h; exact ha
  | cons e es ih => exact ih h.2 (h.1.lt ha)
/-- The ways back of edits, the last one's first. -/
def backsL (es : List Ed) : List Ed := es.reverse.map Ed.back
theorem backsL_len (es : List Ed) : (backsL es).length = es.length := by simp [backsL]
theorem backsL_cons (e : Ed) (es : List Ed) : backsL (e :: es) = backsL es ++ [e.back] := by simp [backsL]
theorem backsL_back (es : List Ed) : backsL (backsL es) = es := by
  unfold backsL
  rw [← List.map_reverse, List.reverse_reverse, List.map_map]
  exact List.map_id _
theorem Run.back {a b : List Nat} {es : List Ed} (h : Run a es b) (ha : a.length ≤ 65536) : Run b (backsL es) a := by
  induction es generalizing a with
  | nil => exact h.symm
  | cons e es ih =>
    obtain ⟨h1, h2⟩ := h.1.back ha
    rw [backsL_cons]
    exact run_app.2 ⟨_, ih h.2 h.1.lim, h1, h2⟩
end Go.Proofs.PlatenPiece

namespace Go.Proofs.PlatenPiece
open Go Go.RowKit
set_option linter.unusedVariables false
set_option maxRecDepth 100000

/-- The document's past at block M: its text, what is done, what is undone, the edits at hand. -/
structure RP (B : Nat) (w : World) (M : Nat) (l : List Nat) (pv dv gv nv : Value) (now : List Ed) (dn gn : List (Value × List Ed)) : Prop where
  low : B ≤ M
  bs : B ≤ w.heap.size
  head : w.heap[M]? = some (.cells #[pv, dv, gv, nv] 51 (0, 0))
  prow : w.ownsRow B 5 1 pv l.length (bytesV l)
  drow : w.ownsRow B 49 1 dv dn.length (dn.map (·.1))
  grow : w.ownsRow B 49 1 gv gn.length (gn.map (·.1))
  nrow : w.ownsRow B 57 3 nv now.length (rowE now)
  trs : ∀ t ∈ dn ++ gn, TrAt B w nv t
  apart : dv.ownBlock = none ∨ dv.ownBlock ≠ gv.ownBlock
/-- Its blocks. -/
def ROwn (M : Nat) (pv dv gv nv : Value) (dn gn : List (Value × List Ed)) (k : Nat) : Prop := k = M ∨ pv.ownBlock = some k ∨ dv.ownBlock = some k ∨ gv.ownBlock = some k ∨ nv.ownBlock = some k ∨ ∃ t ∈ dn ++ gn, t.1.ownBlock = some k

theorem rowE_one (es : List Ed) : ∀ u ∈ rowE es, u.oneCell' = true := by
  intro u hu
  simp only [rowE, List.mem_flatMap, Ed.row, List.mem_cons, List.not_mem_nil, or_false] at hu
  obtain ⟨e, _, rfl | rfl | rfl⟩ := hu <;> rfl
theorem row_cells3 {B : Nat} {w : World} {g n cap : Nat} {es : List Ed} (h : w.ownsRow B 57 3 (.slice (some ⟨g, 0, none⟩) n cap) n (rowE es)) {i : Nat} {e : Ed} (he : es[i]? = some e) :
    w.cell? ⟨g, i * 3, none⟩ = some (.int .i64 e.at') ∧ w.cell? ⟨g, i * 3 + 1, none⟩ = some (.string e.old) ∧ w.cell? ⟨g, i * 3 + 2, none⟩ = some (.string e.new) := by
  have hc := h.cells (g := g) rfl
  have k0 := hc (i * 3 + 0) (.int .i64 e.at') (by rw [rowE_at es i e he 0 (by decide)]; rfl)
  have k1 := hc (i * 3 + 1) (.string e.old) (by rw [rowE_at es i e he 1 (by decide)]; rfl)
  have k2 := hc (i * 3 + 2) (.string e.new) (by rw [rowE_at es i e he 2 (by decide)]; rfl)
  rw [Addr.add_lit, Nat.zero_add] at k0 k1 k2
  exact ⟨k0, k1, k2⟩
theorem own_some {w : World} {B : Nat} {e : TypeId} {s n : Nat} {v : Value} {xs : List Value} (h : w.ownsRow B e s v n xs) (h0 : 0 < n) : ∃ g cap, v = .slice (some ⟨g, 0, none⟩) n cap := by
  rcases h.2 with ⟨_, h1⟩ | ⟨g, cap, cur, e, _⟩
  · omega
  · exact ⟨g, cap, e⟩
theorem trAt_some {B : Nat} {w : World} {v : Value} {t : Value × List Ed} (h : TrAt B w v t) : t.1.ownBlock ≠ none := by
  obtain ⟨a1, a2, a3⟩ := h
  rcases a1.2 with ⟨_, e⟩ | ⟨g, cap, cur, e, _⟩
  · omega
  · rw [e]; simp [Value.ownBlock]

section
variable {B : Nat} {w w' w3 w4 : World} {M : Nat} {l l' : List Nat} {pv dv gv nv pv' dv' gv' nv' : Value} {now now' : List Ed} {dn gn dn' gn' : List (Value × List Ed)}
theorem RP.lt (h : RP B w M l pv dv gv nv now dn gn) : M < w.heap.size := (Array.getElem?_eq_some_iff.1 h.head).1
theorem RP.own (h : RP B w M l pv dv gv nv now dn gn) : ∀ k, ROwn M pv dv gv nv dn gn k → B ≤ k ∧ k < w.heap.size := by
  intro k hk
  rcases hk with rfl | hk | hk | hk | hk | ⟨t, ht, hk⟩
  · exact ⟨h.low, h.lt⟩
  · exact own_lt_row h.prow hk
  · exact own_lt_row h.drow hk
  · exact own_lt_row h.grow hk
  · exact own_lt_row h.nrow hk
  · exact own_lt_row (h.trs t ht).1 hk
theorem RP.cells (h : RP B w M l pv dv gv nv now dn gn) : w.cell? ⟨M, 0, none⟩ = some pv ∧ w.cell? ⟨M, 1, none⟩ = some dv ∧ w.cell? ⟨M, 2, none⟩ = some gv ∧ w.cell? ⟨M, 3, none⟩ = some nv := by
  simp [World.cell?, h.head]
theorem RP.free (h : RP B w M l pv dv gv nv now dn gn) (j : Nat) : w.frozen? ⟨M, j, none⟩ = false := frozen_of_row w M j _ 51 h.head
/-- It stands where its blocks do. -/
theorem RP.same (h : RP B w M l pv dv gv nv now dn gn) (hs : w.heap.size ≤ w'.heap.size) (hb : ∀ k, ROwn M pv dv gv nv dn gn k → w'.heap[k]? = w.heap[k]?) : RP B w' M l pv dv gv nv now dn gn where
  low := h.low
  bs := Nat.le_trans h.bs hs
  head := (hb M (Or.inl rfl)).trans h.head
  prow := row_same h.prow (fun k hk => hb k (Or.inr (Or.inl hk)))
  drow := row_same h.drow (fun k hk => hb k (Or.inr (Or.inr (Or.inl hk))))
  grow := row_same h.grow (fun k hk => hb k (Or.inr (Or.inr (Or.inr (Or.inl hk)))))
  nrow := row_same h.nrow (fun k hk => hb k (Or.inr (Or.inr (Or.inr (Or.inr (Or.inl hk))))))
  trs := fun t ht => ⟨row_same (h.trs t ht).1 (fun k hk => hb k (Or.inr (Or.inr (Or.inr (Or.inr (Or.inr ⟨t, ht, hk⟩)))))), (h.trs t ht).2⟩
  apart := h.apart
theorem RP.grown (h : RP B w M l pv dv gv nv now dn gn) (hg : w.grownBy w' none) : RP B w' M l pv dv gv nv now dn gn := h.same hg.size (fun k hk => hg.block k (h.own k hk).2 (by simp))
theorem RP.keep {O : Nat → Prop} (h : RP B w M l pv dv gv nv now dn gn) (hK : Kept O w w') (ho : ∀ k, ROwn M pv dv gv nv dn gn k → ¬ O k) : RP B w' M l pv dv gv nv now dn gn := h.same hK.size (fun k hk => hK.block k (h.own k hk).2 (ho k hk))
/-- Rows that stand where another one grows. -/
theorem row_grown {e : TypeId} {s n : Nat} {v : Value} {xs : List Value} {o : Option Nat} (hr : w.ownsRow B e s v n xs) (hg : w.grownBy w3 o) (ho : ∀ k, v.ownBlock = some k → o ≠ some k) : w3.ownsRow B e s v n xs :=
  row_same hr (fun k hk => hg.block k (own_lt_row hr hk).2 (fun e => ho k hk e.symm))
theorem tr_grown {o : Option Nat} {v : Value} {t : Value × List Ed} (ht : TrAt B w v t) (hg : w.grownBy w3 o) (ho : ∀ k, t.1.ownBlock = some k → o ≠ some k) : TrAt B w3 v t := ⟨row_grown ht.1 hg ho, ht.2⟩
/-- What is written at the head. -/
theorem RP.put {X : Nat → Prop} {o : Option Nat} {x : Array Value} (low : B ≤ M) (bs : B ≤ w.heap.size) (hM : X M) (hg : w.grownBy w3 o) (ho : ∀ k, o = some k → X k) (h3 : w3.heap[M]? = some (.cells x 51 (0, 0)))
    (h4 : w4.heap[M]? = some (.cells #[pv', dv', gv', nv'] 51 (0, 0))) (hg4 : w3.grownBy w4 (some M)) (hsz : w4.heap.size = w3.heap.size)
    (hp : w3.ownsRow B 5 1 pv' l'.length (bytesV l')) (hd : w3.ownsRow B 49 1 dv' dn'.length (dn'.map (·.1))) (hgr : w3.ownsRow B 49 1 gv' gn'.length (gn'.map (·.1))) (hn : w3.ownsRow B 57 3 nv' now'.length (rowE now'))
    (ht : ∀ t ∈ dn' ++ gn', TrAt B w3 nv' t) (ha : dv'.ownBlock = none ∨ dv'.ownBlock ≠ gv'.ownBlock) : RP B w4 M l' pv' dv' gv' nv' now' dn' gn' ∧ Kept X w w4 := by
  have hoth : ∀ k, k < w3.heap.size → k ≠ M → w4.heap[k]? = w3.heap[k]? := fun k h1 h2 => hg4.block k h1 (by simpa using h2)
  have hrow : ∀ {e : TypeId} {s n : Nat} {v : Value} {xs : List Value}, w3.ownsRow B e s v n xs → e ≠ 51 → w4.ownsRow B e s v n xs := fun hr he => row_same hr (fun k hk => hoth k (own_lt_row hr hk).2 (fun e => row_head hr h3 he (by rw [← e]; exact hk)))
  refine ⟨⟨low, by rw [hsz]; exact Nat.le_trans bs hg.size, h4, hrow hp (by decide), hrow hd (by decide), hrow hgr (by decide), hrow hn (by decide), fun t hm => ⟨hrow (ht t hm).1 (by decide), (ht t hm).2⟩, ha⟩, ?_⟩
  exact ⟨hg4.os.trans hg.os, hg4.tape.trans hg.tape, hg4.output.trans hg.output, by rw [hsz]; exact hg.size, fun k hk hx => (hoth k (Nat.lt_of_lt_of_le hk hg.size) (fun e => hx (by rw [e]; exact hM))).trans (hg.block k hk (fun e => hx (ho k e.symm)))⟩
theorem grown_two {a b c : World} {k : Nat} (h : a.grownBy b (some k)) (q : b.grownBy c (some k)) : a.grownBy c (some k) :=
  ⟨q.os.trans h.os, q.tape.trans h.tape, q.output.trans h.output, Nat.le_trans h.size q.size, fun i hi hne => (q.block i (Nat.lt_of_lt_of_le hi h.size) hne).trans (h.block i hi hne)⟩

/-- The head, where a row of another type has grown. -/
theorem RP.head3 {o : Option Nat} (h : RP B w M l pv dv gv nv now dn gn) (hg : w.grownBy w3 o) (ho : o ≠ some M) : w3.heap[M]? = some (.cells #[pv, dv, gv, nv] 51 (0, 0)) := (hg.block M h.lt (fun e => ho e.symm)).trans h.head
/-- A new text. -/
theorem RP.setP {X : Nat → Prop} (h : RP B w M l pv dv gv nv now dn gn) (hX : ∀ k, k < w.heap.size → ROwn M pv dv gv nv dn gn k → X k) (hg : w.grownBy w3 none) (hp : w3.ownsRow w.heap.size 5 1 pv' l'.length (bytesV l')) :
    RP B (w3.setCell ⟨M, 0, none⟩ pv') M l' pv' dv gv nv now dn gn ∧ Kept X w (w3.setCell ⟨M, 0, none⟩ pv') ∧ (∀ k, k < w.heap.size → ROwn M pv' dv gv nv dn gn k → X k) := by
  have h3 := h.head3 hg (by simp)
  have hG := h.grown hg
  have hp' : w3.ownsRow B 5 1 pv' l'.length (bytesV l') := by
    obtain ⟨q0, q1⟩ := hp
    refine ⟨q0, ?_⟩
    rcases q1 with q1 | ⟨g', cap', cur, e1, e2, e3⟩
    · exact Or.inl q1
    · exact Or.inr ⟨g', cap', cur, e1, Nat.le_trans h.bs e2, e3⟩
  obtain ⟨q1, q2⟩ := RP.put (X := X) h.low h.bs (hX M h.lt (Or.inl rfl)) hg (fun k e => by cases e) h3 (heap_setCell_same w3 M 0 _ 51 pv' h3) (grownBy_set w3 M 0 pv') (by simp) hp' hG.drow hG.grow hG.nrow hG.trs hG.apart
  refine ⟨q1, q2, fun k hk ho => ?_⟩
  rcases ho with ho | ho | ho
  · exact hX k hk (Or.inl ho)
  · have := (own_lt_row hp ho).1; omega
  · exact hX k hk (Or.inr (Or.inr ho))
/-- Other edits at hand. -/
theorem RP.setN {X : Nat → Prop} (h : RP B w M l pv dv gv nv now dn gn) (hX : ∀ k, k < w.heap.size → ROwn M pv dv gv nv dn gn k → X k) (hg : w.grownBy w3 nv.ownBlock) (hn : w3.ownsRow B 57 3 nv' now'.length (rowE now')) (hw : nv'.ownBlock = nv.ownBlock ∨ nv'.ownBlock = none ∨ nv'.ownBlock = some w.heap.size) :
    RP B (w3.setCell ⟨M, 3, none⟩ nv') M l pv dv gv nv' now' dn gn ∧ Kept X w (w3.setCell ⟨M, 3, none⟩ nv') ∧ (∀ k, k < w.heap.size → ROwn M pv dv gv nv' dn gn k → X k) := by
  have h3 := h.head3 hg (row_head h.nrow h.head (by decide))
  have ht : ∀ t ∈ dn ++ gn, TrAt B w3 nv' t := fun t hm => by
    have ht := h.trs t hm
    refine ⟨row_grown ht.1 hg (fun k hk e => ht.2.1 (by rw [hk, e])), ?_, ht.2.2⟩
    rcases hw with e | e | e
    · rw [e]; exact ht.2.1
    · rw [e]; exact trAt_some ht
    · rw [e]; intro q; have := (own_lt_row ht.1 q).2; omega
  obtain ⟨q1, q2⟩ := RP.put (X := X) h.low h.bs (hX M h.lt (Or.inl rfl)) hg (fun k e => hX k (own_lt_row h.nrow e).2 (Or.inr (Or.inr (Or.inr (Or.inr (Or.inl e)))))) h3 (heap_setCell_same w3 M 3 _ 51 nv' h3) (grownBy_set w3 M 3 nv') (by simp)
    (row_grown h.prow hg (fun k hk e => row_ne h.prow h.nrow (by decide) hk e)) (row_grown h.drow hg (fun k hk e => row_ne h.drow h.nrow (by decide) hk e)) (row_grown h.grow hg (fun k hk e => row_ne h.grow h.nrow (by decide) hk e)) hn ht h.apart
  refine ⟨q1, q2, fun k hk ho => ?_⟩
  rcases ho with ho | ho | ho | ho | ho | ho
  · exact hX k hk (Or.inl ho)
  · exact hX k hk (Or.inr (Or.inl ho))
  · exact hX k hk (Or.inr (Or.inr (Or.inl ho)))
  · exact hX k hk (Or.inr (Or.inr (Or.inr (Or.inl ho))))
  · rcases hw with e | e | e
    · exact hX k hk (Or.inr (Or.inr (Or.inr (Or.inr (Or.inl (by rw [← e]; exact ho))))))
    · rw [e] at ho; cases ho
    · rw [e] at ho; simp only [Option.some.injEq] at ho; omega
  · exact hX k hk (Or.inr (Or.inr (Or.inr (Or.inr (Or.inr ho)))))
/-- Another row of what is done. -/
theorem RP.setD {X : Nat → Prop} (h : RP B w M l pv dv gv nv now dn gn) (hX : ∀ k, k < w.heap.size → ROwn M pv dv gv nv dn gn k → X k) (hg : w.grownBy w3 dv.ownBlock) (hL : ∀ t ∈ dn', TrAt B w nv t) (hLX : ∀ t ∈ dn', ∀ k, k < w.heap.size → t.1.ownBlock = some k → X k) (hr : w3.ownsRow B 49 1 dv' dn'.length (dn'.map (·.1))) (hw : dv'.ownBlock = dv.ownBlock ∨ dv'.ownBlock = some w.heap.size) :
    RP B (w3.setCell ⟨M, 1, none⟩ dv') M l pv dv' gv nv now dn' gn ∧ Kept X w (w3.setCell ⟨M, 1, none⟩ dv') ∧ (∀ k, k < w.heap.size → ROwn M pv dv' gv nv dn' gn k → X k) ∧ (∀ t, TrAt B w nv t → TrAt B (w3.setCell ⟨M, 1, none⟩ dv') nv t) := by
  have h3 := h.head3 hg (row_head h.drow h.head (by decide))
  have ht3 : ∀ t, TrAt B w nv t → TrAt B w3 nv t := fun t ht => tr_grown ht hg (fun k hk e => row_ne ht.1 h.drow (by decide) hk e)
  have ht : ∀ t ∈ dn' ++ gn, TrAt B w3 nv t := fun t hm => by
    rcases List.mem_append.1 hm with hm | hm
    · exact ht3 t (hL t hm)
    · exact ht3 t (h.trs t (List.mem_append_right _ hm))
  have hap : dv'.ownBlock = none ∨ dv'.ownBlock ≠ gv.ownBlock := by
    rcases hw with e | e
    · rw [e]; exact h.apart
    · refine Or.inr ?_
      rw [e]
      intro q
      have := (own_lt_row h.grow q.symm).2
      omega
  obtain ⟨q1, q2⟩ := RP.put (X := X) h.low h.bs (hX M h.lt (Or.inl rfl)) hg (fun k e => hX k (own_lt_row h.drow e).2 (Or.inr (Or.inr (Or.inl e)))) h3 (heap_setCell_same w3 M 1 _ 51 dv' h3) (grownBy_set w3 M 1 dv') (by simp)
    (row_grown h.prow hg (fun k hk e => row_ne h.prow h.drow (by decide) hk e)) hr (row_grown h.grow hg (fun k hk e => by rcases h.apart with q | q; (rw [q] at e; cases e); exact q (by rw [e, hk]))) (row_grown h.nrow hg (fun k hk e => row_ne h.nrow h.drow (by decide) hk e)) ht hap
  refine ⟨q1, q2, fun k hk ho => ?_, fun t ht => ?_⟩
  · rcases ho with ho | ho | ho | ho | ho | ⟨t, hm, ho⟩
    · exact hX k hk (Or.inl ho)
    · exact hX k hk (Or.inr (Or.inl ho))
    · rcases hw with e | e
      · exact hX k hk (Or.inr (Or.inr (Or.inl (by rw [← e]; exact ho))))
      · rw [e] at ho; simp only [Option.some.injEq] at ho; omega
    · exact hX k hk (Or.inr (Or.inr (Or.inr (Or.inl ho))))
    · exact hX k hk (Or.inr (Or.inr (Or.inr (Or.inr (Or.inl ho)))))
    · rcases List.mem_append.1 hm with hm | hm
      · exact hLX t hm k hk ho
      · exact hX k hk (Or.inr (Or.inr (Or.inr (Or.inr (Or.inr ⟨t, List.mem_append_right _ hm, ho⟩)))))
  · refine ⟨row_same (ht3 t ht).1 (fun k hk => heap_setCell_other _ _ _ _ ?_), ht.2⟩
    have := row_head (ht3 t ht).1 h3 (by decide)
    simp only
    exact fun e => this (by rw [← e]; exact hk)
/-- Another row of what is undone. -/
theorem RP.setG {X : Nat → Prop} (h : RP B w M l pv dv gv nv now dn gn) (hX : ∀ k, k < w.heap.size → ROwn M pv dv gv nv dn gn k → X k) (hg : w.grownBy w3 gv.ownBlock) (hL : ∀ t ∈ gn', TrAt B w nv t) (hLX : ∀ t ∈ gn', ∀ k, k < w.heap.size → t.1.ownBlock = some k → X k) (hr : w3.ownsRow B 49 1 gv' gn'.length (gn'.map (·.1))) (hw : gv'.ownBlock = gv.ownBlock ∨ gv'.ownBlock = none ∨ gv'.ownBlock = some w.heap.size) :
    RP B (w3.setCell ⟨M, 2, none⟩ gv') M l pv dv gv' nv now dn gn' ∧ Kept X w (w3.setCell ⟨M, 2, none⟩ gv') ∧ (∀ k, k < w.heap.size → ROwn M pv dv gv' nv dn gn' k → X k) ∧ (∀ t, TrAt B w nv t → TrAt B (w3.setCell ⟨M, 2, none⟩ gv') nv t) := by
  have h3 := h.head3 hg (row_head h.grow h.head (by decide))
  have ht3 : ∀ t, TrAt B w nv t → TrAt B w3 nv t := fun t ht => tr_grown ht hg (fun k hk e => row_ne ht.1 h.grow (by decide) hk e)
  have ht : ∀ t ∈ dn ++ gn', TrAt B w3 nv t := fun t hm => by
    rcases List.mem_append.1 hm with hm | hm
    · exact ht3 t (h.trs t (List.mem_append_left _ hm))
    · exact ht3 t (hL t hm)
  have hap : dv.ownBlock = none ∨ dv.ownBlock ≠ gv'.ownBlock := by
    rcases hw with e | e | e
    · rw [e]; exact h.apart
    · cases hx : dv.ownBlock with
      | none => exact Or.inl rfl
      | some k => exact Or.inr (by rw [e]; simp)
    · cases hx : dv.ownBlock with
      | none => exact Or.inl rfl
      | some k =>
        refine Or.inr ?_
        rw [e]
        intro q
        have := (own_lt_row h.drow hx).2
        simp only [Option.some.injEq] at q
        omega
  obtain ⟨q1, q2⟩ := RP.put (X := X) h.low h.bs (hX M h.lt (Or.inl rfl)) hg (fun k e => hX k (own_lt_row h.grow e).2 (Or.inr (Or.inr (Or.inr (Or.inl e))))) h3 (heap_setCell_same w3 M 2 _ 51 gv' h3) (grownBy_set w3 M 2 gv') (by simp)
    (row_grown h.prow hg (fun k hk e => row_ne h.prow h.grow (by decide) hk e)) (row_grown h.drow hg (fun k hk e => by rcases h.apart with q | q; (rw [q] at hk; cases hk); exact q (by rw [e, hk]))) hr (row_grown h.nrow hg (fun k hk e => row_ne h.nrow h.grow (by decide) hk e)) ht hap
  refine ⟨q1, q2, fun k hk ho => ?_, fun t ht => ?_⟩
  · rcases ho with ho | ho | ho | ho | ho | ⟨t, hm, ho⟩
    · exact hX k hk (Or.inl ho)
    · exact hX k hk (Or.inr (Or.inl ho))
    · exact hX k hk (Or.inr (Or.inr (Or.inl ho)))
    · rcases hw with e | e | e
      · exact hX k hk (Or.inr (Or.inr (Or.inr (Or.inl (by rw [← e]; exact ho)))))
      · rw [e] at ho; cases ho
      · rw [e] at ho; simp only [Option.some.injEq] at ho; omega
    · exact hX k hk (Or.inr (Or.inr (Or.inr (Or.inr (Or.inl ho)))))
    · rcases List.mem_append.1 hm with hm | hm
      · exact hX k hk (Or.inr (Or.inr (Or.inr (Or.inr (Or.inr ⟨t, List.mem_append_left _ hm, ho⟩)))))
      · exact hLX t hm k hk ho
  · refine ⟨row_same (ht3 t ht).1 (fun k hk => heap_setCell_other _ _ _ _ ?_), ht.2⟩
    have := row_head (ht3 t ht).1 h3 (by decide)
    simp only
    exact fun e => this (by rw [← e]; exact hk)
/-- The edits at hand become a transaction that is done. -/
theorem RP.shut {X : Nat → Prop} (h : RP B w M l pv dv gv nv now dn gn) (hX : ∀ k, k < w.heap.size → ROwn M pv dv gv nv dn gn k → X k) (h0 : 0 < now.length) (hg : w.grownBy w3 dv.ownBlock) (hr : w3.ownsRow B 49 1 dv' (dn.length + 1) (dn.map (·.1) ++ [nv])) (hw : dv'.ownBlock = dv.ownBlock ∨ dv'.ownBlock = some w.heap.size) :
    RP B ((w3.setCell ⟨M, 1, none⟩ dv').setCell ⟨M, 3, none⟩ (.slice none 0 0)) M l pv dv' gv (.slice none 0 0) [] (dn ++ [(nv, now)]) gn ∧ Kept X w ((w3.setCell ⟨M, 1, none⟩ dv').setCell ⟨M, 3, none⟩ (.slice none 0 0)) ∧ (∀ k, k < w.heap.size → ROwn M pv dv' gv (.slice none 0 0) (dn ++ [(nv, now)]) gn k → X k) := by
  have h3 := h.head3 hg (row_head h.drow h.head (by decide))
  have q1 := heap_setCell_same w3 M 1 _ 51 dv' h3
  have q2 := heap_setCell_same _ M 3 _ 51 (.slice none 0 0) q1
  have hnv : nv.ownBlock ≠ none := by
    rcases h.nrow.2 with ⟨_, e⟩ | ⟨g, cap, cur, e, _⟩
    · omega
    · rw [e]; simp [Value.ownBlock]
  have hmem : ∀ t, t ∈ dn ++ [(nv, now)] ++ gn → t ∈ dn ++ gn ∨ t = (nv, now) := by
    intro t ht
    simp only [List.mem_append, List.mem_singleton] at ht ⊢
    rcases ht with (ht | ht) | ht
    · exact Or.inl (Or.inl ht)
    · exact Or.inr ht
    · exact Or.inl (Or.inr ht)
  have ht : ∀ t ∈ dn ++ [(nv, now)] ++ gn, TrAt B w3 (.slice none 0 0) t := fun t hm => by
    rcases hmem t hm with hm | rfl
    · have ht := h.trs t hm
      exact ⟨row_grown ht.1 hg (fun k hk e => row_ne ht.1 h.drow (by decide) hk e), by simpa [Value.ownBlock] using trAt_some ht, ht.2.2⟩
    · exact ⟨row_grown h.nrow hg (fun k hk e => row_ne h.nrow h.drow (by decide) hk e), by simpa [Value.ownBlock] using hnv, h0⟩
  have hap : dv'.ownBlock = none ∨ dv'.ownBlock ≠ gv.ownBlock := by
    rcases hw with e | e
    · rw [e]; exact h.apart
    · refine Or.inr ?_
      rw [e]
      intro q
      have := (own_lt_row h.grow q.symm).2
      omega
  obtain ⟨r1, r2⟩ := RP.put (X := X) (now' := []) h.low h.bs (hX M h.lt (Or.inl rfl)) hg (fun k e => hX k (own_lt_row h.drow e).2 (Or.inr (Or.inr (Or.inl e)))) h3 q2 (grown_two (grownBy_set w3 M 1 dv') (grownBy_set _ M 3 _)) (by simp)
    (row_grown h.prow hg (fun k hk e => row_ne h.prow h.drow (by decide) hk e)) (by rw [List.length_append, List.length_singleton, List.map_append]; exact hr) (row_grown h.grow hg (fun k hk e => by rcases h.apart with q | q; (rw [q] at e; cases e); exact q (by rw [e, hk]))) (World.ownsRow_nil _ _ _ _) ht hap
  refine ⟨r1, r2, fun k hk ho => ?_⟩
  rcases ho with ho | ho | ho | ho | ho | ⟨t, hm, ho⟩
  · exact hX k hk (Or.inl ho)
  · exact hX k hk (Or.inr (Or.inl ho))
  · rcases hw with e | e
    · exact hX k hk (Or.inr (Or.inr (Or.inl (by rw [← e]; exact ho))))
    · rw [e] at ho; simp only [Option.some.injEq] at ho; omega
  · exact hX k hk (Or.inr (Or.inr (Or.inr (Or.inl ho))))
  · simp [Value.ownBlock] at ho
  · rcases hmem t hm with hm | rfl
    · exact hX k hk (Or.inr (Or.inr (Or.inr (Or.inr (Or.inr ⟨t, hm, ho⟩)))))
    · exact hX k hk (Or.inr (Or.inr (Or.inr (Or.inr (Or.inl ho)))))
end
end Go.Proofs.PlatenPiece
