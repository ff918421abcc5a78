/- Items in memory; the sizes as the program keeps them while it reckons. -/
import Derived.Test.YtaefnlknendapaaGl
import Derived.Test.YtaefnlknendapaaLyI
import Derived.Test.YtaefnlknendapaaShelf
import Derived.WalkKit
import Derived.WalkLawsBesides
import Derived.RegionTactic
import Derived.BigRegion
import Derived.Lib.AppendZeros
import Derived.Deep.RegionHeld3
import Derived.Deep.QuietTactic
import Derived.BigQuiet
import Derived.Laws.AppendOwnNone
namespace Go.Proofs.PlatenLayout
open Go Go.RowKit Go.Shelf
set_option linter.unusedVariables false
set_option maxRecDepth 100000

theorem hidden {p : Prop} (h : p) : Hid p := h

/-! An append to a row of one's own, and where the row is behind it. -/
section
variable {P : Program}
theorem run_append_at (w : World) (base : Nat) (t ty e : TypeId) (i : TypeInfo) (z : Value) (size bytes : Nat) (ht : P.underlying t = some (.slice e)) (hi : P.info? e = some i) (hz : i.zero = some z)
    (hsize : i.size = size) (hby : i.bytes = bytes) (hzs : z.cells.size = size) (hsz : 0 < size)
    (v : Value) (n : Nat) (xs : List Value) (hown : w.ownsRow base e size v n xs)
    (a : Addr) (m c : Nat) (news : List Value) (hl : news.length = m * size) (hnews : ∀ j u, news[j]? = some u → w.cell? (a.add j) = some u) (h1 : ∀ u ∈ news, u.oneCell' = true)
    (h63 : n + m ≤ maxLen) (hbytes : (n + m) * bytes ≤ 140737488355328) (hbase : base ≤ w.heap.size) (hm : 0 < m) :
    ∃ v' w', (Builtin.append_ #[t, t] ty #[v, .slice (some a) m c]).run P w = .ok v' w' ∧ w'.ownsRow base e size v' (n + m) (xs ++ news) ∧ w.grownBy w' v.ownBlock ∧
      (v'.ownBlock = v.ownBlock ∨ v'.ownBlock = some w.heap.size) := by
  obtain ⟨v', w', hr, h2, h3, _⟩ := run_append_own (P := P) w base t ty e i z size bytes ht hi hz hsize hby hzs hsz v n xs hown a m c news hl hnews h1 h63 hbytes hbase
  refine ⟨v', w', hr, h2, h3, ?_⟩
  subst hsize
  subst hby
  have hsmall : n + m ≤ 9223372036854775807 := by simp only [maxLen] at h63; omega
  rcases hown.2 with ⟨rfl, rfl⟩ | ⟨g, cap, cur, rfl, hbg, hg, hnc, hcm, hcs, htake⟩
  · have hr2 := run_append_nil (P := P) w t ty e i z ht hi hz a m c news hl hnews (by omega) (by omega) (by have hb := hbytes; simp only [Nat.zero_add] at hb; omega)
    rw [hr] at hr2
    injection hr2 with e1 e2
    right
    rw [e1]
    rfl
  · by_cases hroom : n + m ≤ cap
    · have hfit : n * i.size + news.length ≤ cur.size := by rw [hl, hcs, ← Nat.add_mul]; exact Nat.mul_le_mul_right _ hroom
      have hr2 := run_append_room (P := P) w t ty e i ht hi g n cap cur hg a m c news hl hnews h1 hroom hfit
      rw [hr] at hr2
      injection hr2 with e1 e2
      left
      rw [e1]
      rfl
    · have holds : ∀ j u, xs[j]? = some u → w.cell? ((⟨g, 0, none⟩ : Addr).add j) = some u := hown.cells (g := g) rfl
      have hr2 := run_append_grow (P := P) w t ty e i z ht hi hz ⟨g, 0, none⟩ n cap xs hown.1 holds a m c news hl hnews (by omega) (by omega) (growslice_fits (by omega) hbytes)
      rw [hr] at hr2
      injection hr2 with e1 e2
      right
      rw [e1]
      rfl
theorem wpList_append_at (w : World) {ops : Array Oper} {rest : List Oper} {o : Oper} {a : Act} {Q : Exit → Act → World → Prop} (hgd : o.guard = none) (s x : Operand) (t : TypeId)
    (ho : o.op = .call { callee := .builtin .append, args := #[s, x], argTypes := #[t, t] })
    (base : Nat) (e : TypeId) (i : TypeInfo) (z : Value) (size bytes : Nat) (ht : P.underlying t = some (.slice e)) (hi : P.info? e = some i) (hz : i.zero = some z)
    (hsize : i.size = size) (hby : i.bytes = bytes) (hzs : z.cells.size = size) (hsz : 0 < size)
    (v : Value) (n : Nat) (xs : List Value) (hs : a.eval s = v) (hown : w.ownsRow base e size v n xs)
    (ad : Addr) (m c : Nat) (news : List Value) (hx : a.eval x = .slice (some ad) m c) (hl : news.length = m * size) (hnews : ∀ j u, news[j]? = some u → w.cell? (ad.add j) = some u) (h1 : ∀ u ∈ news, u.oneCell' = true)
    (h63 : n + m ≤ maxLen) (hbytes : (n + m) * bytes ≤ 140737488355328) (hbase : base ≤ w.heap.size) (hm : 0 < m)
    (h : ∀ v' w', w'.ownsRow base e size v' (n + m) (xs ++ news) → w.grownBy w' v.ownBlock → (v'.ownBlock = v.ownBlock ∨ v'.ownBlock = some w.heap.size) → wpList P ops Q rest (a.put o.dst v') w') : wpList P ops Q (o :: rest) a w := by
  obtain ⟨v', w', hr, h2, h3, h4⟩ := run_append_at (P := P) w base t o.type e i z size bytes ht hi hz hsize hby hzs hsz v n xs hown ad m c news hl hnews h1 h63 hbytes hbase hm
  exact Lib.wpList_append_run w hgd s x t t ho _ _ hs hx _ _ hr (h v' w' h2 h3 h4)
end
theorem row_same {B : Nat} {w w' : World} {e : TypeId} {s n : Nat} {v : Value} {xs : List Value} (h : w.ownsRow B e s v n xs) (hb : ∀ k, v.ownBlock = some k → w'.heap[k]? = w.heap[k]?) : w'.ownsRow B e s v n xs := by
  obtain ⟨h0, h1⟩ := h
  refine ⟨h0, ?_⟩
  rcases h1 with h1 | ⟨g, cap, cur, e1, e2, e3, e4⟩
  · exact Or.inl h1
  · exact Or.inr ⟨g, cap, cur, e1, e2, (hb g (by rw [e1]; rfl)).trans e3, e4⟩
theorem row_ty {B : Nat} {w : World} {e : TypeId} {s n : Nat} {v : Value} {xs : List Value} (h : w.ownsRow B e s v n xs) {k : Nat} (hk : v.ownBlock = some k) : ∃ c, w.heap[k]? = some (.cells c e (0, 0)) := by
  rcases h.2 with ⟨e', _⟩ | ⟨g, cap, cur, e1, e2, e3, e4⟩
  · rw [e'] at hk; cases hk
  · rw [e1] at hk
    simp only [Value.ownBlock, Option.some.injEq] at hk
    subst hk
    exact ⟨_, e3⟩
theorem ty_ne {w : World} {a b : Nat} {x y : Array Value} {s t : TypeId} (ha : w.heap[a]? = some (.cells x s (0, 0))) (hb : w.heap[b]? = some (.cells y t (0, 0))) (hst : s ≠ t) : a ≠ b := by
  rintro rfl
  rw [ha] at hb
  simp only [Option.some.injEq, Obj.cells.injEq] at hb
  exact hst hb.2.1
theorem row_ne {B B' : Nat} {w : World} {s t : TypeId} {m n p q : Nat} {u v : Value} {xs ys : List Value} (hu : w.ownsRow B s m u n xs) (hv : w.ownsRow B' t p v q ys) (hst : s ≠ t) {k : Nat} (hk : u.ownBlock = some k) : v.ownBlock ≠ some k := by
  intro e
  obtain ⟨x, hx⟩ := row_ty hu hk
  obtain ⟨y, hy⟩ := row_ty hv e
  exact ty_ne hx hy hst rfl
theorem row_head {B : Nat} {w : World} {s t : TypeId} {m n k : Nat} {u : Value} {xs : List Value} {x : Array Value} (hu : w.ownsRow B s m u n xs) (hk : w.heap[k]? = some (.cells x t (0, 0))) (hst : s ≠ t) : u.ownBlock ≠ some k := by
  intro e
  obtain ⟨y, hy⟩ := row_ty hu e
  exact ty_ne hy hk hst rfl
theorem grownBy_set (w : World) (b i : Nat) (v : Value) : w.grownBy (w.setCell ⟨b, i, none⟩ v) (some b) :=
  ⟨rfl, rfl, rfl, by simp, fun k _ hk => heap_setCell_other _ _ _ _ (fun e => hk (by simp [e]))⟩
theorem grownBy_alloc (w : World) (o : Obj) : w.grownBy (w.alloc o) none := ⟨rfl, rfl, rfl, by simp, fun k hk _ => Below.heap_alloc w o k hk⟩
theorem take_dst {P : Program} {md : Region.Mode} {ops : Array Oper} {Q : Exit → Act → World → Prop} {S : World → Prop} (i : Nat) (d : Option Nat) {oi : Oper} {v : Value} {fuel : Nat} {listed : Array Bool} {a : Act} {w : World} (hi : ops[i]? = some oi) (hd : oi.dst = d)
    (hs : Region.noSelect ops = true) (hf : Region.free md ops listed i = true) (hr : (Region.ready md ops listed).contains i = true)
    (hQ : ∀ c a w, Q (.panic c) (a.put d v) w → Q (.panic c) a w) (hy : YieldsIf P ops S oi v a) (hS : S w)
    (h : wpAnyH P md ops Q S fuel (listed.setIfInBounds i true) (a.put d v) w) : wpAnyH P md ops Q S (fuel + 1) listed a w := by
  subst hd
  exact wpAnyH_take hi hs hf hr hQ hy hS h
theorem step_append_wh {P : Program} {ops : Array Oper} {o : Oper} {a : Act} {w : World} {K : Act → World → Prop} {Q : Exit → Act → World → Prop} {E : Prop} (hgd : o.guard = none) (s x : Operand) (t : TypeId)
    (hop : o.op = .call { callee := .builtin .append, args := #[s, x], argTypes := #[t, t] })
    (base : Nat) (e : TypeId) (i : TypeInfo) (z : Value) (size bytes : Nat) (ht : P.underlying t = some (.slice e)) (hi : P.info? e = some i) (hz : i.zero = some z)
    (hsize : i.size = size) (hby : i.bytes = bytes) (hzs : z.cells.size = size) (hsz : 0 < size)
    (v : Value) (n : Nat) (xs : List Value) (hs : a.eval s = v) (hown : w.ownsRow base e size v n xs)
    (ad : Addr) (m c : Nat) (news : List Value) (hx : a.eval x = .slice (some ad) m c) (hl : news.length = m * size) (hnews : ∀ j u, news[j]? = some u → w.cell? (ad.add j) = some u) (h1 : ∀ u ∈ news, u.oneCell' = true)
    (h63 : n + m ≤ maxLen) (hbytes : (n + m) * bytes ≤ 140737488355328) (hbase : base ≤ w.heap.size) (hm : 0 < m)
    (hK : ∀ v' w', Hid (w'.ownsRow base e size v' (n + m) (xs ++ news)) → Hid (w.grownBy w' v.ownBlock) → Hid (v'.ownBlock = v.ownBlock ∨ v'.ownBlock = some w.heap.size) → K (a.put o.dst v') w') :
    if Region.wanted o (yielded ops a.tmps) = true then Oper.wp P o a w K Q else E := by
  have hw : Region.wanted o (yielded ops a.tmps) = true := by simp [Region.wanted, hgd]
  rw [if_pos hw]
  obtain ⟨v', w', hrun, h2, h3, h4⟩ := run_append_at (P := P) w base t o.type e i z size bytes ht hi hz hsize hby hzs hsz v n xs hown ad m c news hl hnews h1 h63 hbytes hbase hm
  unfold Oper.wp
  simp [execOp, hop, resolve, invoke, builtin, hs, hx, hrun, Result.andThen]
  exact hK _ _ h2 h3 h4
theorem row_slice {B : Nat} {w : World} {e : TypeId} {s n : Nat} {v : Value} {xs : List Value} (h : w.ownsRow B e s v n xs) : ∃ va vc, v = .slice va n vc := by
  rcases h.2 with ⟨e, h0⟩ | ⟨g, cap, cur, e, _⟩
  · exact ⟨none, 0, by rw [e, h0]⟩
  · exact ⟨_, _, e⟩


theorem cells_new (X : World) (t : TypeId) (cs : List Value) : ∀ j u, cs[j]? = some u → (X.alloc (.cells cs.toArray t)).cell? ((⟨X.heap.size, 0, none⟩ : Addr).add j) = some u := by
  intro j u hj
  rw [Addr.add_lit, Nat.zero_add]
  have hh : (X.alloc (.cells cs.toArray t)).heap[X.heap.size]? = some (.cells cs.toArray t) := heap_alloc_new X _
  simp only [World.cell?, hh]
  simpa using hj
theorem below_grown {B : Nat} {w0 w w' : World} {r : Option Nat} (h : Below B w0 w) (hg : w.grownBy w' r) (hb : B ≤ w.heap.size) (hr : ∀ k, r = some k → B ≤ k) : Below B w0 w' := h.grown hg hb (fun k e => hr k e)
theorem below_drewN {B : Nat} {a w : World} (h : Below B a w) (q : Nat) : Below B a (w.drewN q) := h.trans ⟨rfl, rfl, rfl, Nat.le_refl _, fun _ _ => rfl⟩
theorem below_drew {B : Nat} {a w : World} (h : Below B a w) : Below B a w.drew := h.trans ⟨rfl, rfl, rfl, Nat.le_refl _, fun _ _ => rfl⟩
theorem grown_dN (w : World) (q : Nat) : w.grownBy (w.drewN q) none := ⟨rfl, rfl, rfl, Nat.le_refl _, fun _ _ _ => rfl⟩
theorem grown_d (w : World) : w.grownBy w.drew none := ⟨rfl, rfl, rfl, Nat.le_refl _, fun _ _ _ => rfl⟩
theorem grown_trans {w w1 w2 : World} {r : Option Nat} (h : w.grownBy w1 r) (g : w1.grownBy w2 r) : w.grownBy w2 r :=
  ⟨g.os.trans h.os, g.tape.trans h.tape, g.output.trans h.output, Nat.le_trans h.size g.size, fun k hk hne => (g.block k (Nat.lt_of_lt_of_le hk h.size) hne).trans (h.block k hk hne)⟩

/-- Bytes as a text. -/
def str (l : List Nat) : ByteArray := ⟨(l.map UInt8.ofNat).toArray⟩
theorem str_size (l : List Nat) : (str l).size = l.length := by simp [str, ByteArray.size]
/-- An item's cells. -/
def itC (x : It) : List Value := [.int .u8 (x.kind : Nat), .string (str x.tx), .int .i64 x.n, .int .i64 x.off, .bool x.col, .bool x.whole]
def rowI (l : List It) : List Value := l.flatMap itC
theorem rowI_app (a b : List It) : rowI (a ++ b) = rowI a ++ rowI b := by simp [rowI]
theorem rowI_one (x : It) : rowI [x] = itC x := by simp [rowI]
theorem rowI_len (l : List It) : (rowI l).length = l.length * 6 := by
  induction l with
  | nil => rfl
  | cons x r ih => show (itC x ++ rowI r).length = _; rw [List.length_append, ih, List.length_cons]; show 6 + _ = _; omega
theorem rowI_get (l : List It) (i c : Nat) (x : It) (h : l[i]? = some x) (hc : c < 6) : (rowI l)[i * 6 + c]? = (itC x)[c]? := by
  have hi : i < l.length := (List.getElem?_eq_some_iff.1 h).1
  have hs : l = l.take i ++ (x :: l.drop (i + 1)) := by
    have hx := (List.getElem?_eq_some_iff.1 h).2
    rw [← hx, ← List.drop_eq_getElem_cons hi, List.take_append_drop]
  have hl : (rowI (l.take i)).length = i * 6 := by rw [rowI_len, List.length_take]; congr 1; omega
  have : rowI l = rowI (l.take i) ++ (itC x ++ rowI (l.drop (i + 1))) := by
    rw [hs, rowI_app, ← hs]
    rfl
  rw [this, List.getElem?_append_right (by omega), hl, show i * 6 + c - i * 6 = c by omega, List.getElem?_append_left (by show c < 6; exact hc)]
/-- What the items may be like. -/
structure OkIt (x : It) : Prop where
  kind : x.kind < 256
  tx : ∀ c ∈ x.tx, c < 256
  len : x.tx.length ≤ 70000
  ch : x.ch = PlatenGlyph.cnt (fun j => x.tx.getD j 0) x.tx.length
  n : -1048576 ≤ x.n ∧ x.n ≤ 1048576
  off : -1048576 ≤ x.off ∧ x.off ≤ 1048576
def OkL (l : List It) : Prop := l.length ≤ 1000 ∧ ∀ x ∈ l, OkIt x
theorem OkIt.ch_le {x : It} (h : OkIt x) : x.ch ≤ 70000 := by rw [h.ch]; exact Nat.le_trans (PlatenGlyph.cnt_le _ _) h.len
theorem OkIt.own_le {x : It} (h : OkIt x) : x.own ≤ 1048576 := by
  have h1 := h.ch_le
  have h2 := h.n
  unfold It.own
  split
  · omega
  · split <;> omega
theorem OkL.sum {l : List It} (h : OkL l) : sum l ≤ l.length * 1048576 := by
  have hx := h.2
  clear h
  induction l with
  | nil => exact Nat.zero_le _
  | cons x r ih =>
    have h1 := (hx x (by simp)).own_le
    have h2 := ih (fun y hy => hx y (by simp [hy]))
    show x.own + PlatenLayout.sum r ≤ _
    rw [List.length_cons, Nat.succ_mul]
    omega
theorem pre_le_sum (l : List It) (i : Nat) : pre l i ≤ sum l := by
  have h := sum_app (l.take i) (l.drop i)
  rw [List.take_append_drop] at h
  unfold pre
  omega
theorem OkL.pre {l : List It} (h : OkL l) (i : Nat) : pre l i ≤ 1048576000 := by
  have h1 := pre_le_sum l i
  have h2 := h.sum
  have h3 := h.1
  have : l.length * 1048576 ≤ 1000 * 1048576 := Nat.mul_le_mul_right _ h3
  omega
theorem sum_drop (l : List It) (i : Nat) : PlatenLayout.sum (l.drop i) ≤ PlatenLayout.sum l := by
  have h := sum_app (l.take i) (l.drop i)
  rw [List.take_append_drop] at h
  omega
theorem OkL.size {l : List It} (h : OkL l) (i : Nat) : size (l.drop i) ≤ 1048576000 := by
  have h0 := size_le (l.drop i)
  have h1 := sum_drop l i
  have h2 := h.sum
  have h3 := h.1
  have : l.length * 1048576 ≤ 1000 * 1048576 := Nat.mul_le_mul_right _ h3
  omega

/-- A slice of items. -/
def IsItems (w : World) (v : Value) (l : List It) : Prop :=
  ∃ a cap, v = .slice a l.length cap ∧ l.length ≤ cap ∧ (0 < l.length → ∃ b off, a = some ⟨b, off, none⟩ ∧ ∀ i x, l[i]? = some x → ∀ c u, (itC x)[c]? = some u → w.cell? ⟨b, off + i * 6 + c, none⟩ = some u)
theorem IsItems.below {w w' : World} {v : Value} {l : List It} (h : IsItems w v l) (hb : Below w.heap.size w w') : IsItems w' v l := by
  obtain ⟨a, cap, e, hc, h⟩ := h
  refine ⟨a, cap, e, hc, fun h0 => ?_⟩
  obtain ⟨b, off, e1, h1⟩ := h h0
  refine ⟨b, off, e1, fun i x hi c u hu => ?_⟩
  have := h1 i x hi c u hu
  rw [hb.cell (p := ⟨b, off + i * 6 + c, none⟩) (World.block_lt_of_cell? _ _ this)]
  exact this
theorem isItems_of {w : World} {B : Nat} {v : Value} {l : List It} (h : w.ownsRow B 38 6 v l.length (rowI l)) : IsItems w v l := by
  rcases h.2 with ⟨e, h0⟩ | ⟨g, cap, cur, e, hb, hg, hnc, hcm, hcs, ht⟩
  · exact ⟨none, 0, by rw [e, h0], by omega, fun q => by omega⟩
  · refine ⟨_, cap, e, hnc, fun _ => ⟨g, 0, rfl, fun i x hi c u hu => ?_⟩⟩
    have hc : c < 6 := (List.getElem?_eq_some_iff.1 hu).1
    have h2 := rowI_get l i c x hi hc
    have hil : i < l.length := (List.getElem?_eq_some_iff.1 hi).1
    rw [← ht, List.getElem?_take, if_pos (by omega), Array.getElem?_toList, hu] at h2
    simp only [World.cell?, hg, Nat.zero_add]
    exact h2
/-- The item at i. -/
theorem IsItems.at' {w : World} {v : Value} {l : List It} (h : IsItems w v l) {i : Nat} (hi : i < l.length) : ∃ b off cap, v = .slice (some ⟨b, off, none⟩) l.length cap ∧ l.length ≤ cap ∧
    w.cell? ⟨b, off + i * 6, none⟩ = some (.int .u8 (l[i].kind : Nat)) ∧ w.cell? ⟨b, off + i * 6 + 1, none⟩ = some (.string (str l[i].tx)) ∧ w.cell? ⟨b, off + i * 6 + 2, none⟩ = some (.int .i64 l[i].n) ∧
    w.cell? ⟨b, off + i * 6 + 3, none⟩ = some (.int .i64 l[i].off) ∧ w.cell? ⟨b, off + i * 6 + 4, none⟩ = some (.bool l[i].col) ∧ w.cell? ⟨b, off + i * 6 + 5, none⟩ = some (.bool l[i].whole) := by
  obtain ⟨a, cap, e, hc, h⟩ := h
  obtain ⟨b, off, rfl, h1⟩ := h (by omega)
  have h2 := h1 i l[i] (List.getElem?_eq_getElem hi)
  exact ⟨b, off, cap, e, hc, h2 0 _ rfl, h2 1 _ rfl, h2 2 _ rfl, h2 3 _ rfl, h2 4 _ rfl, h2 5 _ rfl⟩
theorem IsItems.val {w : World} {v : Value} {l : List It} (h : IsItems w v l) : ∃ a cap, v = .slice a l.length cap := by
  obtain ⟨a, cap, e, _⟩ := h
  exact ⟨a, cap, e⟩

theorem info3 : (Try.prog.info? 3).map (fun i => (i.zero, i.size, i.bytes)) = some (some (.int .i64 0), 1, 8) := by kernel_rfl
theorem info5 : (Try.prog.info? 5).map (fun i => (i.zero, i.size, i.bytes)) = some (some (.int .u8 0), 1, 1) := by kernel_rfl
theorem info38 : (Try.prog.info? 38).map (fun i => (i.zero, i.size, i.bytes)) = some (some (.agg #[.int .u8 0, .string ByteArray.empty, .int .i64 0, .int .i64 0, .bool false, .bool false]), 6, 48) := by kernel_rfl
theorem info51 : (Try.prog.info? 51).map (fun i => (i.zero, i.size, i.bytes)) = some (some (.agg #[.int .i64 0, .int .i64 0]), 2, 16) := by kernel_rfl
theorem info64 : (Try.prog.info? 64).map (fun i => (i.zero, i.size, i.bytes)) = some (some (.agg #[.bool false, .bool false, .int .i64 0]), 3, 16) := by kernel_rfl
theorem info78 : (Try.prog.info? 78).map (fun i => (i.zero, i.size, i.bytes)) = some (some (.agg #[.int .i64 0, .bool false, .bool false]), 3, 16) := by kernel_rfl

def zs (z : List Int) : List Value := z.map (Value.int .i64)
def ps (P : List Nat) : List Value := P.map fun j => Value.int .i64 (j : Nat)
theorem ps_app (a b : List Nat) : ps (a ++ b) = ps a ++ ps b := by simp [ps]
theorem ps_len (P : List Nat) : (ps P).length = P.length := by simp [ps]
theorem set_other (w : World) (b j : Nat) (u : Value) (k : Nat) (h : k ≠ b) : (w.setCell ⟨b, j, none⟩ u).heap[k]? = w.heap[k]? := heap_setCell_other _ _ _ _ (fun e => h (by simpa using e))
/-- The sizes row at block G, its variable at V, the total, and what waits, in rows from V + 3 on. -/
structure SZ (B G V : Nat) (w0 w : World) (n : Nat) (pv : Value) (T : Nat) (z : List Int) (P : List Nat) : Prop where
  lo : B ≤ G
  gv : G < V
  bs : V + 3 ≤ w.heap.size
  h0 : w.heap[G]? = some (.cells (zs z).toArray 3 (0, 0))
  h1 : w.heap[V]? = some (.cells #[.slice (some ⟨G, 0, none⟩) n n] 26 (0, 0))
  h2 : w.heap[V + 1]? = some (.cells #[.int .i64 (T : Nat)] 3 (0, 0))
  h3 : w.heap[V + 2]? = some (.cells #[pv] 26 (0, 0))
  len : z.length = n
  prow : w.ownsRow (V + 3) 3 1 pv P.length (ps P)
  bel : Below B w0 w
section
variable {B G V n T : Nat} {w0 w w' : World} {pv : Value} {z : List Int} {P : List Nat}
theorem SZ.c1 (h : SZ B G V w0 w n pv T z P) : w.cell? ⟨V, 0, none⟩ = some (.slice (some ⟨G, 0, none⟩) n n) := by simp [World.cell?, h.h1]
theorem SZ.c2 (h : SZ B G V w0 w n pv T z P) : w.cell? ⟨V + 1, 0, none⟩ = some (.int .i64 (T : Nat)) := by simp [World.cell?, h.h2]
theorem SZ.c3 (h : SZ B G V w0 w n pv T z P) : w.cell? ⟨V + 2, 0, none⟩ = some pv := by simp [World.cell?, h.h3]
theorem SZ.cz (h : SZ B G V w0 w n pv T z P) {j : Nat} {a : Int} (ha : z[j]? = some a) : w.cell? ⟨G, j, none⟩ = some (.int .i64 a) := by
  simp only [World.cell?, h.h0]
  simp [zs, ha]
theorem SZ.f0 (h : SZ B G V w0 w n pv T z P) (j : Nat) : w.frozen? ⟨G, j, none⟩ = false := frozen_of_row w G j _ 3 h.h0
theorem SZ.f2 (h : SZ B G V w0 w n pv T z P) (j : Nat) : w.frozen? ⟨V + 1, j, none⟩ = false := frozen_of_row w (V + 1) j _ 3 h.h2
theorem SZ.f3 (h : SZ B G V w0 w n pv T z P) (j : Nat) : w.frozen? ⟨V + 2, j, none⟩ = false := frozen_of_row w (V + 2) j _ 26 h.h3
theorem SZ.own (h : SZ B G V w0 w n pv T z P) {k : Nat} (e : pv.ownBlock = some k) : V + 3 ≤ k := (h.prow.lt k e).1
theorem SZ.grown (h : SZ B G V w0 w n pv T z P) (hg : w.grownBy w' none) : SZ B G V w0 w' n pv T z P where
  lo := h.lo
  gv := h.gv
  bs := Nat.le_trans h.bs hg.size
  h0 := (hg.block _ (by have := h.bs; have := h.gv; have := h.lo; omega) (by simp)).trans h.h0
  h1 := (hg.block _ (by have := h.bs; have := h.gv; have := h.lo; omega) (by simp)).trans h.h1
  h2 := (hg.block _ (by have := h.bs; have := h.gv; have := h.lo; omega) (by simp)).trans h.h2
  h3 := (hg.block _ (by have := h.bs; have := h.gv; have := h.lo; omega) (by simp)).trans h.h3
  len := h.len
  prow := row_same h.prow (fun k hk => hg.block k (h.prow.lt k hk).2 (by simp))
  bel := h.bel.grown hg (by have := h.bs; have := h.gv; have := h.lo; omega) (by simp)
theorem SZ.setz (h : SZ B G V w0 w n pv T z P) (j : Nat) (a : Int) : SZ B G V w0 (w.setCell ⟨G, j, none⟩ (.int .i64 a)) n pv T (z.set j a) P where
  lo := h.lo
  gv := h.gv
  bs := by simpa using h.bs
  h0 := by
    have := heap_setCell_same w G j _ 3 (.int .i64 a) h.h0
    simpa [zs, List.map_set] using this
  h1 := (set_other _ _ _ _ _ (by have := h.gv; omega)).trans h.h1
  h2 := (set_other _ _ _ _ _ (by have := h.gv; omega)).trans h.h2
  h3 := (set_other _ _ _ _ _ (by have := h.gv; omega)).trans h.h3
  len := by rw [List.length_set]; exact h.len
  prow := row_same h.prow (fun k hk => set_other _ _ _ _ _ (fun e => by have := h.own hk; have := h.gv; omega))
  bel := h.bel.setCell (p := ⟨G, j, none⟩) h.lo _
theorem SZ.total (h : SZ B G V w0 w n pv T z P) (T' : Nat) : SZ B G V w0 (w.setCell ⟨V + 1, 0, none⟩ (.int .i64 (T' : Nat))) n pv T' z P where
  lo := h.lo
  gv := h.gv
  bs := by simpa using h.bs
  h0 := (set_other _ _ _ _ _ (by have := h.gv; omega)).trans h.h0
  h1 := (set_other _ _ _ _ _ (by have := h.gv; omega)).trans h.h1
  h2 := by
    have := heap_setCell_same w (V + 1) 0 _ 3 (.int .i64 (T' : Nat)) h.h2
    simpa using this
  h3 := (set_other _ _ _ _ _ (by have := h.gv; omega)).trans h.h3
  len := h.len
  prow := row_same h.prow (fun k hk => set_other _ _ _ _ _ (fun e => by have := h.own hk; have := h.gv; omega))
  bel := h.bel.setCell (p := ⟨V + 1, 0, none⟩) (by have := h.gv; have := h.lo; show B ≤ V + 1; omega) _
/-- What waits is another list, in a row of its own. -/
theorem SZ.wait (h : SZ B G V w0 w n pv T z P) {w3 : World} {v' : Value} {P' : List Nat} (hr : w3.ownsRow (V + 3) 3 1 v' P'.length (ps P')) (hg : w.grownBy w3 pv.ownBlock) : SZ B G V w0 (w3.setCell ⟨V + 2, 0, none⟩ v') n v' T z P' where
  lo := h.lo
  gv := h.gv
  bs := by simpa using Nat.le_trans h.bs hg.size
  h0 := (set_other _ _ _ _ _ (by have := h.gv; omega)).trans ((hg.block _ (by have := h.bs; have := h.gv; have := h.lo; omega) (fun e => by have := h.own e.symm; have := h.gv; omega)).trans h.h0)
  h1 := (set_other _ _ _ _ _ (by have := h.gv; omega)).trans ((hg.block _ (by have := h.bs; have := h.gv; have := h.lo; omega) (fun e => by have := h.own e.symm; have := h.gv; omega)).trans h.h1)
  h2 := (set_other _ _ _ _ _ (by have := h.gv; omega)).trans ((hg.block _ (by have := h.bs; have := h.gv; have := h.lo; omega) (fun e => by have := h.own e.symm; have := h.gv; omega)).trans h.h2)
  h3 := by
    have hh3 := (hg.block _ (by have := h.bs; have := h.gv; have := h.lo; omega) (fun e => by have := h.own e.symm; have := h.gv; omega)).trans h.h3
    have := heap_setCell_same w3 (V + 2) 0 _ 26 v' hh3
    simpa using this
  len := h.len
  prow := row_same hr (fun k hk => set_other _ _ _ _ _ (fun e => by have := (hr.lt k hk).1; omega))
  bel := (h.bel.grown hg (by have := h.bs; have := h.gv; have := h.lo; omega) (fun k e => by have := h.own e; have := h.gv; have := h.lo; omega)).setCell (p := ⟨V + 2, 0, none⟩) (by have := h.gv; have := h.lo; show B ≤ V + 2; omega) _
/-- A row cut behind some of its numbers. -/
theorem prow_cut {a : Option Addr} {k cap C : Nat} (h : w.ownsRow C 3 1 (.slice a k cap) P.length (ps P)) {f : Nat} (hf : f ≤ P.length) : w.ownsRow C 3 1 (.slice a f cap) (P.take f).length (ps (P.take f)) := by
  have hl : (P.take f).length = f := by rw [List.length_take]; omega
  rw [hl]
  rcases h.2 with ⟨e, h0⟩ | ⟨g, cp, cur, e, hbg, hg, hnc, hcm, hcs, ht⟩
  · injection e with e1 e2 e3
    subst e1 e2 e3
    have : f = 0 := by omega
    subst this
    exact ⟨rfl, Or.inl ⟨rfl, rfl⟩⟩
  · injection e with e1 e2 e3
    subst e1 e3
    refine ⟨by rw [ps_len, hl]; omega, Or.inr ⟨g, _, cur, rfl, hbg, hg, by omega, hcm, hcs, ?_⟩⟩
    have := congrArg (List.take f) ht
    rw [List.take_take] at this
    rw [show f * 1 = min f (P.length * 1) by omega, this]
    simp [ps, List.map_take]
end

/-- All blocks stand but the sizes' row and the variable of what waits. -/
def Fr (G V : Nat) (w w' : World) : Prop := ∀ k, k < w.heap.size → k ≠ G → k ≠ V + 2 → w'.heap[k]? = w.heap[k]?
theorem Fr.setz {G V j : Nat} {w w' : World} (h : Fr G V w w') (u : Value) : Fr G V w (w'.drew.setCell ⟨G, j, none⟩ u) := fun k hk h1 h2 => (set_other _ _ _ _ _ h1).trans (h k hk h1 h2)
theorem Fr.wait {G V j : Nat} {w w' : World} (h : Fr G V w w') (u : Value) : Fr G V w (w'.setCell ⟨V + 2, j, none⟩ u) := fun k hk h1 h2 => (set_other _ _ _ _ _ h2).trans (h k hk h1 h2)
set_option maxHeartbeats 2000000 in
theorem settle_call {B G V n T f : Nat} {w0 w : World} {pv : Value} {z : List Int} {P : List Nat} (h : SZ B G V w0 w n pv T z P) (hf : f ≤ P.length) (hP : ∀ j ∈ P, j < n) (hn : n ≤ 1000) (hPl : P.length ≤ 2000) (hT : T ≤ 1048576000) (hnd : P.Nodup)
    (hz : ∀ (j : Nat) (a : Int), z[j]? = some a → -1048576000 ≤ a ∧ a ≤ 1048576000) :
    Calls Try.prog 18 #[.int .i64 (f : Nat), .pointer (some ⟨V + 2, 0, none⟩), .pointer (some ⟨V, 0, none⟩), .pointer (some ⟨V + 1, 0, none⟩)] w fun e w' => e = .returned (.tuple #[]) ∧ (∃ pv', SZ B G V w0 w' n pv' T (settle T (P.drop f) z) (P.take f)) ∧ Fr G V w w' := by
  have c3 := h.c3
  have f3 := h.f3 0
  obtain ⟨a, cap, rfl⟩ := row_slice h.prow
  have H := hidden h
  by_cases hlt : f < P.length
  · rcases h.prow.2 with ⟨e, h0⟩ | ⟨g, cp, cur, e, hbg, hg, hnc, hcm, hcs, ht⟩
    · omega
    injection e with e1 e2 e3
    subst e1 e3
    have hcf : ¬ cap = f := by omega
    have hcl : P.length ≤ cap := by omega
    have Hnd := hidden hnd
    have HP := hidden hP
    have Hz := hidden hz
    have hfl : f ≤ P.length := by omega
    have hfc : f ≤ cap := by omega
    have hpl : ((P.length : Int) - (f : Int)) = ((P.length - f : Nat) : Int) := by omega
    obtain ⟨m, hm⟩ : ∃ m, P.length - f = m := ⟨_, rfl⟩
    have hmz : (f : Int) + (m : Int) = (P.length : Int) := by omega
    have hm1 : m ≤ 2000 := by omega
    have Hm := hidden hm
    rw [hm] at hpl
    clear hbg hg hcm hcs ht hnc h hnd hP hz hf hm
    go_enter Try.func18, Try.ntmps18
    go_wp2_with fail
    go_loopw [11] (fun i wr => ∃ q : Nat, q ≤ m ∧ i = .int .i64 (q : Nat) ∧ SZ B G V w0 wr n (.slice (some ⟨g, 0, none⟩) P.length cap) T (settle (T : Nat) ((P.drop f).take q) z) P ∧ Fr G V w wr) (fun i _ => m - (intOf i).toNat)
    case atStart => exact ⟨0, Nat.zero_le _, rfl, by simpa [settle] using H.out, fun _ _ _ _ => rfl⟩
    case round =>
      obtain ⟨q, hq, rfl, hS, hF⟩ := hrel
      have HF := hidden hF
      clear hF
      by_cases hl : q < m
      · have hlz : (q : Int) < (m : Int) := by omega
        have hfq : f + q < P.length := by omega
        obtain ⟨j, hj⟩ : ∃ j, P[f + q]? = some j := ⟨_, List.getElem?_eq_getElem hfq⟩
        have hjn : j < n := HP.out j (List.mem_of_getElem? hj)
        have hdj : (P.drop f)[q]? = some j := by rw [List.getElem?_drop]; exact hj
        have hts : (P.drop f).take (q + 1) = (P.drop f).take q ++ [j] := by rw [List.take_add_one, hdj]; rfl
        have hnt : j ∉ (P.drop f).take q := by
          have hd := Hnd.out.sublist (List.drop_sublist f P)
          have hd2 : ((P.drop f).take (q + 1)).Nodup := hd.sublist (List.take_sublist _ _)
          rw [hts] at hd2
          intro e
          exact (List.nodup_append.1 hd2).2.2 j e j (by simp) rfl
        obtain ⟨a, hza⟩ : ∃ a, z[j]? = some a := ⟨_, List.getElem?_eq_getElem (by rw [H.out.len]; exact hjn)⟩
        obtain ⟨ha1, ha2⟩ := Hz.out j a hza
        have hsa : (settle (T : Nat) ((P.drop f).take q) z)[j]? = some a := by rw [settle_not _ _ _ _ hnt]; exact hza
        have hstep : settle (T : Nat) ((P.drop f).take (q + 1)) z = (settle (T : Nat) ((P.drop f).take q) z).set j (a + (T : Nat)) := by
          rw [hts, settle_snoc, List.getD_eq_getElem?_getD, hsa]; rfl
        have HS := hidden hS
        have Hstep := hidden hstep
        have d1 := hS.c1
        have d2 := hS.c2
        have dz := hS.cz hsa
        have dp : wr.cell? ⟨g, f + q, none⟩ = some (.int .i64 (j : Nat)) := by
          rw [hS.prow.cellAt (f + q) (by omega)]
          simp [ps, hj]
        have ff := hS.f0 j
        clear hS hstep hts hnt hza hsa hdj hj c3 f3
        go_wp2_with fail
        go_region
        all_goals go_wp2
        go_roundw
        case rel =>
          refine ⟨q + 1, hl, by go_num, ?_, HF.out.setz _⟩
          rw [Hstep.out]
          exact (HS.out.grown (grown_d wr)).setz j (a + (T : Nat))
        case measure => simp [intOf]; omega
      · have hqm : q = m := by omega
        have d3 := hS.c3
        have g3 := hS.f3 0
        have hcut := prow_cut hS.prow (f := f) (by omega)
        have hfin : (P.drop f).take q = P.drop f := by rw [List.take_of_length_le]; rw [List.length_drop, Hm.out]; omega
        rw [hfin] at hS
        have HS := hidden hS
        have HC := hidden hcut
        have hlz : ¬ ((q : Int) < (m : Int)) := by omega
        clear hS hcut hfin hqm hl c3 f3
        go_wp2_with fail
        go_end0
        exact ⟨rfl, ⟨_, HS.out.wait HC.out ⟨rfl, rfl, rfl, Nat.le_refl _, fun _ _ _ => rfl⟩⟩, HF.out.wait _⟩
  · have hfe : P.length = f := by omega
    have hd : P.drop f = [] := by rw [List.drop_eq_nil_iff]; omega
    have ht : P.take f = P := by rw [List.take_of_length_le]; omega
    rw [hd, ht]
    have HC : Hid (w.ownsRow (V + 3) 3 1 (.slice a f cap) P.length (ps P)) := by
      have := h.prow
      rw [hfe] at this ⊢
      exact this
    rw [hfe] at c3
    have hfb : f ≤ 2000 := by omega
    have hcf : f ≤ cap := by
      rcases h.prow.2 with ⟨e, h0⟩ | ⟨g, cp, cur, e, hbg, hg, hnc, hcm, hcs, ht⟩
      · omega
      · injection e with e1 e2 e3
        omega
    have ha : (a = none ∧ f = 0 ∧ cap = 0) ∨ ∃ g, a = some ⟨g, 0, none⟩ := by
      rcases h.prow.2 with ⟨e, h0⟩ | ⟨g, cp, cur, e, hbg, hg, hnc, hcm, hcs, ht⟩
      · injection e with e1 e2 e3
        exact Or.inl ⟨e1, by omega, e3⟩
      · injection e with e1 e2 e3
        exact Or.inr ⟨g, e1⟩
    clear h hP hz hnd hlt hd ht hf hPl hfe
    rcases ha with ⟨rfl, rfl, rfl⟩ | ⟨g, rfl⟩
    · go_enter Try.func18, Try.ntmps18
      go_wp2_with fail
      go_loopw [11] (fun i wr => i = .int .i64 0 ∧ wr = w) (fun _ _ => 0)
      case atStart => exact ⟨rfl, rfl⟩
      case round =>
        obtain ⟨rfl, rfl⟩ := hrel
        go_wp2_with fail
        go_end0
        exact ⟨rfl, ⟨_, H.out.wait HC.out ⟨rfl, rfl, rfl, Nat.le_refl _, fun _ _ _ => rfl⟩⟩, Fr.wait (fun _ _ _ _ => rfl) _⟩
    · by_cases hcf2 : cap = f
      · subst hcf2
        go_enter Try.func18, Try.ntmps18
        go_wp2_with fail
        go_loopw [11] (fun i wr => i = .int .i64 0 ∧ wr = w) (fun _ _ => 0)
        case atStart => exact ⟨rfl, rfl⟩
        case round =>
          obtain ⟨rfl, rfl⟩ := hrel
          go_wp2_with fail
          go_end0
          exact ⟨rfl, ⟨_, H.out.wait HC.out ⟨rfl, rfl, rfl, Nat.le_refl _, fun _ _ _ => rfl⟩⟩, Fr.wait (fun _ _ _ _ => rfl) _⟩
      · go_enter Try.func18, Try.ntmps18
        go_wp2_with fail
        go_loopw [11] (fun i wr => i = .int .i64 0 ∧ wr = w) (fun _ _ => 0)
        case atStart => exact ⟨rfl, rfl⟩
        case round =>
          obtain ⟨rfl, rfl⟩ := hrel
          go_wp2_with fail
          go_end0
          exact ⟨rfl, ⟨_, H.out.wait HC.out ⟨rfl, rfl, rfl, Nat.le_refl _, fun _ _ _ => rfl⟩⟩, Fr.wait (fun _ _ _ _ => rfl) _⟩
end Go.Proofs.PlatenLayout
