/- Items in memory; the sizes as the program keeps them while it reckons. -/
import Derived.Test.YtfakfgmengcndaaKH
import Derived.Test.YtfakfgmengcndaaKA
import Derived.Test.YtfakfgmengcndaaShelf
import Derived.WalkKit
import Derived.WalkLawsBesides
import Derived.RegionTactic
import Derived.BigRegion
import Derived.Lib.AppendZeros
import Derived.Deep.RegionHeld3
import Derived.Deep.QuietTactic
import Derived.BigQuiet
import Derived.Laws.AppendOwnNone
import Derived.Laws.OwnMore
import Derived.Lib.Builder
import Derived.Lib.AppendStr
import Derived.Lib.UnsafeStr
namespace Go.Proofs.PlatenLayout
open Go Go.RowKit Go.Shelf
set_option linter.unusedVariables false
set_option maxRecDepth 100000

theorem hidden {p : Prop} (h : p) : Hid p := h

/-! An append to a row of one's own, and where the row is behind it. -/
section
variable {P : Program}
theorem run_append_at (w : World) (base : Nat) (t ty e : TypeId) (i : TypeInfo) (z : Value) (size bytes : Nat) (ht : P.underlying t = some (.slice e)) (hi : P.info? e = some i) (hz : i.zero = some z)
    (hsize : i.size = size) (hby : i.bytes = bytes) (hzs : z.cells.size = size) (hsz : 0 < size)
    (v : Value) (n : Nat) (xs : List Value) (hown : w.ownsRow base e size v n xs)
    (a : Addr) (m c : Nat) (news : List Value) (hl : news.length = m * size) (hnews : ∀ j u, news[j]? = some u → w.cell? (a.add j) = some u) (h1 : ∀ u ∈ news, u.oneCell' = true)
    (h63 : n + m ≤ maxLen) (hbytes : (n + m) * bytes ≤ 140737488355328) (hbase : base ≤ w.heap.size) (hm : 0 < m) :
    ∃ v' w', (Builtin.append_ #[t, t] ty #[v, .slice (some a) m c]).run P w = .ok v' w' ∧ w'.ownsRow base e size v' (n + m) (xs ++ news) ∧ w.grownBy w' v.ownBlock ∧
      (v'.ownBlock = v.ownBlock ∨ v'.ownBlock = some w.heap.size) := by
  obtain ⟨v', w', hr, h2, h3, _⟩ := run_append_own (P := P) w base t ty e i z size bytes ht hi hz hsize hby hzs hsz v n xs hown a m c news hl hnews h1 h63 hbytes hbase
  refine ⟨v', w', hr, h2, h3, ?_⟩
  subst hsize
  subst hby
  have hsmall : n + m ≤ 9223372036854775807 := by simp only [maxLen] at h63; omega
  rcases hown.2 with ⟨rfl, rfl⟩ | ⟨g, cap, cur, rfl, hbg, hg, hnc, hcm, hcs, htake⟩
  · have hr2 := run_append_nil (P := P) w t ty e i z ht hi hz a m c news hl hnews (by omega) (by omega) (by have hb := hbytes; simp only [Nat.zero_add] at hb; omega)
    rw [hr] at hr2
    injection hr2 with e1 e2
    right
    rw [e1]
    rfl
  · by_cases hroom : n + m ≤ cap
    · have hfit : n * i.size + news.length ≤ cur.size := by rw [hl, hcs, ← Nat.add_mul]; exact Nat.mul_le_mul_right _ hroom
      have hr2 := run_append_room (P := P) w t ty e i ht hi g n cap cur hg a m c news hl hnews h1 hroom hfit
      rw [hr] at hr2
      injection hr2 with e1 e2
      left
      rw [e1]
      rfl
    · have holds : ∀ j u, xs[j]? = some u → w.cell? ((⟨g, 0, none⟩ : Addr).add j) = some u := hown.cells (g := g) rfl
      have hr2 := run_append_grow (P := P) w t ty e i z ht hi hz ⟨g, 0, none⟩ n cap xs hown.1 holds a m c news hl hnews (by omega) (by omega) (growslice_fits (by omega) hbytes)
      rw [hr] at hr2
      injection hr2 with e1 e2
      right
      rw [e1]
      rfl
theorem wpList_append_at (w : World) {ops : Array Oper} {rest : List Oper} {o : Oper} {a : Act} {Q : Exit → Act → World → Prop} (hgd : o.guard = none) (s x : Operand) (t : TypeId)
    (ho : o.op = .call { callee := .builtin .append, args := #[s, x], argTypes := #[t, t] })
    (base : Nat) (e : TypeId) (i : TypeInfo) (z : Value) (size bytes : Nat) (ht : P.underlying t = some (.slice e)) (hi : P.info? e = some i) (hz : i.zero = some z)
    (hsize : i.size = size) (hby : i.bytes = bytes) (hzs : z.cells.size = size) (hsz : 0 < size)
    (v : Value) (n : Nat) (xs : List Value) (hs : a.eval s = v) (hown : w.ownsRow base e size v n xs)
    (ad : Addr) (m c : Nat) (news : List Value) (hx : a.eval x = .slice (some ad) m c) (hl : news.length = m * size) (hnews : ∀ j u, news[j]? = some u → w.cell? (ad.add j) = some u) (h1 : ∀ u ∈ news, u.oneCell' = true)
    (h63 : n + m ≤ maxLen) (hbytes : (n + m) * bytes ≤ 140737488355328) (hbase : base ≤ w.heap.size) (hm : 0 < m)
    (h : ∀ v' w', w'.ownsRow base e size v' (n + m) (xs ++ news) → w.grownBy w' v.ownBlock → (v'.ownBlock = v.ownBlock ∨ v'.ownBlock = some w.heap.size) → wpList P ops Q rest (a.put o.dst v') w') : wpList P ops Q (o :: rest) a w := by
  obtain ⟨v', w', hr, h2, h3, h4⟩ := run_append_at (P := P) w base t o.type e i z size bytes ht hi hz hsize hby hzs hsz v n xs hown ad m c news hl hnews h1 h63 hbytes hbase hm
  exact Lib.wpList_append_run w hgd s x t t ho _ _ hs hx _ _ hr (h v' w' h2 h3 h4)
end
theorem row_same {B : Nat} {w w' : World} {e : TypeId} {s n : Nat} {v : Value} {xs : List Value} (h : w.ownsRow B e s v n xs) (hb : ∀ k, v.ownBlock = some k → w'.heap[k]? = w.heap[k]?) : w'.ownsRow B e s v n xs := by
  obtain ⟨h0, h1⟩ := h
  refine ⟨h0, ?_⟩
  rcases h1 with h1 | ⟨g, cap, cur, e1, e2, e3, e4⟩
  · exact Or.inl h1
  · exact Or.inr ⟨g, cap, cur, e1, e2, (hb g (by rw [e1]; rfl)).trans e3, e4⟩
theorem row_ty {B : Nat} {w : World} {e : TypeId} {s n : Nat} {v : Value} {xs : List Value} (h : w.ownsRow B e s v n xs) {k : Nat} (hk : v.ownBlock = some k) : ∃ c, w.heap[k]? = some (.cells c e (0, 0)) := by
  rcases h.2 with ⟨e', _⟩ | ⟨g, cap, cur, e1, e2, e3, e4⟩
  · rw [e'] at hk; cases hk
  · rw [e1] at hk
    simp only [Value.ownBlock, Option.some.injEq] at hk
    subst hk
    exact ⟨_, e3⟩
theorem ty_ne {w : World} {a b : Nat} {x y : Array Value} {s t : TypeId} (ha : w.heap[a]? = some (.cells x s (0, 0))) (hb : w.heap[b]? = some (.cells y t (0, 0))) (hst : s ≠ t) : a ≠ b := by
  rintro rfl
  rw [ha] at hb
  simp only [Option.some.injEq, Obj.cells.injEq] at hb
  exact hst hb.2.1
theorem row_ne {B B' : Nat} {w : World} {s t : TypeId} {m n p q : Nat} {u v : Value} {xs ys : List Value} (hu : w.ownsRow B s m u n xs) (hv : w.ownsRow B' t p v q ys) (hst : s ≠ t) {k : Nat} (hk : u.ownBlock = some k) : v.ownBlock ≠ some k := by
  intro e
  obtain ⟨x, hx⟩ := row_ty hu hk
  obtain ⟨y, hy⟩ := row_ty hv e
  exact ty_ne hx hy hst rfl
theorem row_head {B : Nat} {w : World} {s t : TypeId} {m n k : Nat} {u : Value} {xs : List Value} {x : Array Value} (hu : w.ownsRow B s m u n xs) (hk : w.heap[k]? = some (.cells x t (0, 0))) (hst : s ≠ t) : u.ownBlock ≠ some k := by
  intro e
  obtain ⟨y, hy⟩ := row_ty hu e
  exact ty_ne hy hk hst rfl
theorem grownBy_set (w : World) (b i : Nat) (v : Value) : w.grownBy (w.setCell ⟨b, i, none⟩ v) (some b) :=
  ⟨rfl, rfl, rfl, by simp, fun k _ hk => heap_setCell_other _ _ _ _ (fun e => hk (by simp [e]))⟩
theorem grownBy_alloc (w : World) (o : Obj) : w.grownBy (w.alloc o) none := ⟨rfl, rfl, rfl, by simp, fun k hk _ => Below.heap_alloc w o k hk⟩
theorem take_dst {P : Program} {md : Region.Mode} {ops : Array Oper} {Q : Exit → Act → World → Prop} {S : World → Prop} (i : Nat) (d : Option Nat) {oi : Oper} {v : Value} {fuel : Nat} {listed : Array Bool} {a : Act} {w : World} (hi : ops[i]? = some oi) (hd : oi.dst = d)
    (hs : Region.noSelect ops = true) (hf : Region.free md ops listed i = true) (hr : (Region.ready md ops listed).contains i = true)
    (hQ : ∀ c a w, Q (.panic c) (a.put d v) w → Q (.panic c) a w) (hy : YieldsIf P ops S oi v a) (hS : S w)
    (h : wpAnyH P md ops Q S fuel (listed.setIfInBounds i true) (a.put d v) w) : wpAnyH P md ops Q S (fuel + 1) listed a w := by
  subst hd
  exact wpAnyH_take hi hs hf hr hQ hy hS h
theorem step_append_wh {P : Program} {ops : Array Oper} {o : Oper} {a : Act} {w : World} {K : Act → World → Prop} {Q : Exit → Act → World → Prop} {E : Prop} (hgd : o.guard = none) (s x : Operand) (t : TypeId)
    (hop : o.op = .call { callee := .builtin .append, args := #[s, x], argTypes := #[t, t] })
    (base : Nat) (e : TypeId) (i : TypeInfo) (z : Value) (size bytes : Nat) (ht : P.underlying t = some (.slice e)) (hi : P.info? e = some i) (hz : i.zero = some z)
    (hsize : i.size = size) (hby : i.bytes = bytes) (hzs : z.cells.size = size) (hsz : 0 < size)
    (v : Value) (n : Nat) (xs : List Value) (hs : a.eval s = v) (hown : w.ownsRow base e size v n xs)
    (ad : Addr) (m c : Nat) (news : List Value) (hx : a.eval x = .slice (some ad) m c) (hl : news.length = m * size) (hnews : ∀ j u, news[j]? = some u → w.cell? (ad.add j) = some u) (h1 : ∀ u ∈ news, u.oneCell' = true)
    (h63 : n + m ≤ maxLen) (hbytes : (n + m) * bytes ≤ 140737488355328) (hbase : base ≤ w.heap.size) (hm : 0 < m)
    (hK : ∀ v' w', Hid (w'.ownsRow base e size v' (n + m) (xs ++ news)) → Hid (w.grownBy w' v.ownBlock) → Hid (v'.ownBlock = v.ownBlock ∨ v'.ownBlock = some w.heap.size) → K (a.put o.dst v') w') :
    if Region.wanted o (yielded ops a.tmps) = true then Oper.wp P o a w K Q else E := by
  have hw : Region.wanted o (yielded ops a.tmps) = true := by simp [Region.wanted, hgd]
  rw [if_pos hw]
  obtain ⟨v', w', hrun, h2, h3, h4⟩ := run_append_at (P := P) w base t o.type e i z size bytes ht hi hz hsize hby hzs hsz v n xs hown ad m c news hl hnews h1 h63 hbytes hbase hm
  unfold Oper.wp
  simp [execOp, hop, resolve, invoke, builtin, hs, hx, hrun, Result.andThen]
  exact hK _ _ h2 h3 h4
theorem row_slice {B : Nat} {w : World} {e : TypeId} {s n : Nat} {v : Value} {xs : List Value} (h : w.ownsRow B e s v n xs) : ∃ va vc, v = .slice va n vc := by
  rcases h.2 with ⟨e, h0⟩ | ⟨g, cap, cur, e, _⟩
  · exact ⟨none, 0, by rw [e, h0]⟩
  · exact ⟨_, _, e⟩


theorem cells_new (X : World) (t : TypeId) (cs : List Value) : ∀ j u, cs[j]? = some u → (X.alloc (.cells cs.toArray t)).cell? ((⟨X.heap.size, 0, none⟩ : Addr).add j) = some u := by
  intro j u hj
  rw [Addr.add_lit, Nat.zero_add]
  have hh : (X.alloc (.cells cs.toArray t)).heap[X.heap.size]? = some (.cells cs.toArray t) := heap_alloc_new X _
  simp only [World.cell?, hh]
  simpa using hj
theorem below_grown {B : Nat} {w0 w w' : World} {r : Option Nat} (h : Below B w0 w) (hg : w.grownBy w' r) (hb : B ≤ w.heap.size) (hr : ∀ k, r = some k → B ≤ k) : Below B w0 w' := h.grown hg hb (fun k e => hr k e)
theorem below_drewN {B : Nat} {a w : World} (h : Below B a w) (q : Nat) : Below B a (w.drewN q) := h.trans ⟨rfl, rfl, rfl, Nat.le_refl _, fun _ _ => rfl⟩
theorem below_drew {B : Nat} {a w : World} (h : Below B a w) : Below B a w.drew := h.trans ⟨rfl, rfl, rfl, Nat.le_refl _, fun _ _ => rfl⟩
theorem grown_dN (w : World) (q : Nat) : w.grownBy (w.drewN q) none := ⟨rfl, rfl, rfl, Nat.le_refl _, fun _ _ _ => rfl⟩
theorem grown_d (w : World) : w.grownBy w.drew none := ⟨rfl, rfl, rfl, Nat.le_refl _, fun _ _ _ => rfl⟩
theorem grown_trans {w w1 w2 : World} {r : Option Nat} (h : w.grownBy w1 r) (g : w1.grownBy w2 r) : w.grownBy w2 r :=
  ⟨g.os.trans h.os, g.tape.trans h.tape, g.output.trans h.output, Nat.le_trans h.size g.size, fun k hk hne => (g.block k (Nat.lt_of_lt_of_le hk h.size) hne).trans (h.block k hk hne)⟩

/-- Bytes as a text. -/
def str (l : List Nat) : ByteArray := ⟨(l.map UInt8.ofNat).toArray⟩
theorem str_size (l : List Nat) : (str l).size = l.length := by simp [str, ByteArray.size]
/-- An item's cells. -/
def itC (x : It) : List Value := [.int .u8 (x.kind : Nat), .string (str x.tx), .int .i64 x.n, .int .i64 x.off, .bool x.col, .bool x.whole]
def rowI (l : List It) : List Value := l.flatMap itC
theorem rowI_app (a b : List It) : rowI (a ++ b) = rowI a ++ rowI b := by simp [rowI]
theorem rowI_one (x : It) : rowI [x] = itC x := by simp [rowI]
theorem rowI_len (l : List It) : (rowI l).length = l.length * 6 := by
  induction l with
  | nil => rfl
  | cons x r ih => show (itC x ++ rowI r).length = _; rw [List.length_append, ih, List.length_cons]; show 6 + _ = _; omega
theorem rowI_get (l : List It) (i c : Nat) (x : It) (h : l[i]? = some x) (hc : c < 6) : (rowI l)[i * 6 + c]? = (itC x)[c]? := by
  have hi : i < l.length := (List.getElem?_eq_some_iff.1 h).1
  have hs : l = l.take i ++ (x :: l.drop (i + 1)) := by
    have hx := (List.getElem?_eq_some_iff.1 h).2
    rw [← hx, ← List.drop_eq_getElem_cons hi, List.take_append_drop]
  have hl : (rowI (l.take i)).length = i * 6 := by rw [rowI_len, List.length_take]; congr 1; omega
  have : rowI l = rowI (l.take i) ++ (itC x ++ rowI (l.drop (i + 1))) := by
    rw [hs, rowI_app, ← hs]
    rfl
  rw [this, List.getElem?_append_right (by omega), hl, show i * 6 + c - i * 6 = c by omega, List.getElem?_append_left (by show c < 6; exact hc)]
/-- What the items may be like. -/
structure OkIt (x : It) : Prop where
  kind : x.kind < 256
  tx : ∀ c ∈ x.tx, c < 256
  len : x.tx.length ≤ 70000
  ch : x.ch = PlatenGlyph.cnt (fun j => x.tx.getD j 0) x.tx.length
  n : -1048576 ≤ x.n ∧ x.n ≤ 1048576
  off : -1048576 ≤ x.off ∧ x.off ≤ 1048576
def OkL (l : List It) : Prop := l.length ≤ 1500 ∧ ∀ x ∈ l, OkIt x
theorem OkIt.ch_le {x : It} (h : OkIt x) : x.ch ≤ 70000 := by rw [h.ch]; exact Nat.le_trans (PlatenGlyph.cnt_le _ _) h.len
theorem OkIt.own_le {x : It} (h : OkIt x) : x.own ≤ 1048576 := by
  have h1 := h.ch_le
  have h2 := h.n
  unfold It.own
  split
  · omega
  · split <;> omega
theorem OkL.sum {l : List It} (h : OkL l) : sum l ≤ l.length * 1048576 := by
  have hx := h.2
  clear h
  induction l with
  | nil => exact Nat.zero_le _
  | cons x r ih =>
    have h1 := (hx x (by simp)).own_le
    have h2 := ih (fun y hy => hx y (by simp [hy]))
    show x.own + PlatenLayout.sum r ≤ _
    rw [List.length_cons, Nat.succ_mul]
    omega
theorem pre_le_sum (l : List It) (i : Nat) : pre l i ≤ sum l := by
  have h := sum_app (l.take i) (l.drop i)
  rw [List.take_append_drop] at h
  unfold pre
  omega
theorem OkL.pre {l : List It} (h : OkL l) (i : Nat) : pre l i ≤ 1572864000 := by
  have h1 := pre_le_sum l i
  have h2 := h.sum
  have h3 := h.1
  have : l.length * 1048576 ≤ 1500 * 1048576 := Nat.mul_le_mul_right _ h3
  omega
theorem sum_drop (l : List It) (i : Nat) : PlatenLayout.sum (l.drop i) ≤ PlatenLayout.sum l := by
  have h := sum_app (l.take i) (l.drop i)
  rw [List.take_append_drop] at h
  omega
theorem OkL.size {l : List It} (h : OkL l) (i : Nat) : size (l.drop i) ≤ 1572864000 := by
  have h0 := size_le (l.drop i)
  have h1 := sum_drop l i
  have h2 := h.sum
  have h3 := h.1
  have : l.length * 1048576 ≤ 1500 * 1048576 := Nat.mul_le_mul_right _ h3
  omega

/-- A slice of items. -/
def IsItems (w : World) (v : Value) (l : List It) : Prop :=
  ∃ a cap, v = .slice a l.length cap ∧ l.length ≤ cap ∧ (0 < l.length → ∃ b off, a = some ⟨b, off, none⟩ ∧ ∀ i x, l[i]? = some x → ∀ c u, (itC x)[c]? = some u → w.cell? ⟨b, off + i * 6 + c, none⟩ = some u)
theorem IsItems.below {w w' : World} {v : Value} {l : List It} (h : IsItems w v l) (hb : Below w.heap.size w w') : IsItems w' v l := by
  obtain ⟨a, cap, e, hc, h⟩ := h
  refine ⟨a, cap, e, hc, fun h0 => ?_⟩
  obtain ⟨b, off, e1, h1⟩ := h h0
  refine ⟨b, off, e1, fun i x hi c u hu => ?_⟩
  have := h1 i x hi c u hu
  rw [hb.cell (p := ⟨b, off + i * 6 + c, none⟩) (World.block_lt_of_cell? _ _ this)]
  exact this
theorem isItems_of {w : World} {B : Nat} {v : Value} {l : List It} (h : w.ownsRow B 54 6 v l.length (rowI l)) : IsItems w v l := by
  rcases h.2 with ⟨e, h0⟩ | ⟨g, cap, cur, e, hb, hg, hnc, hcm, hcs, ht⟩
  · exact ⟨none, 0, by rw [e, h0], by omega, fun q => by omega⟩
  · refine ⟨_, cap, e, hnc, fun _ => ⟨g, 0, rfl, fun i x hi c u hu => ?_⟩⟩
    have hc : c < 6 := (List.getElem?_eq_some_iff.1 hu).1
    have h2 := rowI_get l i c x hi hc
    have hil : i < l.length := (List.getElem?_eq_some_iff.1 hi).1
    rw [← ht, List.getElem?_take, if_pos (by omega), Array.getElem?_toList, hu] at h2
    simp only [World.cell?, hg, Nat.zero_add]
    exact h2
/-- The item at i. -/
theorem IsItems.at' {w : World} {v : Value} {l : List It} (h : IsItems w v l) {i : Nat} (hi : i < l.length) : ∃ b off cap, v = .slice (some ⟨b, off, none⟩) l.length cap ∧ l.length ≤ cap ∧
    w.cell? ⟨b, off + i * 6, none⟩ = some (.int .u8 (l[i].kind : Nat)) ∧ w.cell? ⟨b, off + i * 6 + 1, none⟩ = some (.string (str l[i].tx)) ∧ w.cell? ⟨b, off + i * 6 + 2, none⟩ = some (.int .i64 l[i].n) ∧
    w.cell? ⟨b, off + i * 6 + 3, none⟩ = some (.int .i64 l[i].off) ∧ w.cell? ⟨b, off + i * 6 + 4, none⟩ = some (.bool l[i].col) ∧ w.cell? ⟨b, off + i * 6 + 5, none⟩ = some (.bool l[i].whole) := by
  obtain ⟨a, cap, e, hc, h⟩ := h
  obtain ⟨b, off, rfl, h1⟩ := h (by omega)
  have h2 := h1 i l[i] (List.getElem?_eq_getElem hi)
  exact ⟨b, off, cap, e, hc, h2 0 _ rfl, h2 1 _ rfl, h2 2 _ rfl, h2 3 _ rfl, h2 4 _ rfl, h2 5 _ rfl⟩
theorem IsItems.val {w : World} {v : Value} {l : List It} (h : IsItems w v l) : ∃ a cap, v = .slice a l.length cap := by
  obtain ⟨a, cap, e, _⟩ := h
  exact ⟨a, cap, e⟩

theorem info3 : (Try.prog.info? 3).map (fun i => (i.zero, i.size, i.bytes)) = some (some (.int .i64 0), 1, 8) := by kernel_rfl
theorem info5 : (Try.prog.info? 5).map (fun i => (i.zero, i.size, i.bytes)) = some (some (.int .u8 0), 1, 1) := by kernel_rfl
theorem info38 : (Try.prog.info? 54).map (fun i => (i.zero, i.size, i.bytes)) = some (some (.agg #[.int .u8 0, .string ByteArray.empty, .int .i64 0, .int .i64 0, .bool false, .bool false]), 6, 48) := by kernel_rfl
theorem info51 : (Try.prog.info? 107).map (fun i => (i.zero, i.size, i.bytes)) = some (some (.agg #[.int .i64 0, .int .i64 0]), 2, 16) := by kernel_rfl
theorem info78 : (Try.prog.info? 120).map (fun i => (i.zero, i.size, i.bytes)) = some (some (.agg #[.int .i64 0, .bool false, .bool false]), 3, 16) := by kernel_rfl

def zs (z : List Int) : List Value := z.map (Value.int .i64)
def ps (P : List Nat) : List Value := P.map fun j => Value.int .i64 (j : Nat)
theorem ps_app (a b : List Nat) : ps (a ++ b) = ps a ++ ps b := by simp [ps]
theorem ps_len (P : List Nat) : (ps P).length = P.length := by simp [ps]
theorem set_other (w : World) (b j : Nat) (u : Value) (k : Nat) (h : k ≠ b) : (w.setCell ⟨b, j, none⟩ u).heap[k]? = w.heap[k]? := heap_setCell_other _ _ _ _ (fun e => h (by simpa using e))
/-- The sizes row at block G, its variable at V, the total, and what waits, in rows from V + 3 on. -/
structure SZ (B G V : Nat) (w0 w : World) (n : Nat) (pv : Value) (T : Nat) (z : List Int) (P : List Nat) : Prop where
  lo : B ≤ G
  gv : G < V
  bs : V + 3 ≤ w.heap.size
  h0 : w.heap[G]? = some (.cells (zs z).toArray 3 (0, 0))
  h1 : w.heap[V]? = some (.cells #[.slice (some ⟨G, 0, none⟩) n n] 92 (0, 0))
  h2 : w.heap[V + 1]? = some (.cells #[.int .i64 (T : Nat)] 3 (0, 0))
  h3 : w.heap[V + 2]? = some (.cells #[pv] 92 (0, 0))
  len : z.length = n
  prow : w.ownsRow (V + 3) 3 1 pv P.length (ps P)
  bel : Below B w0 w
section
variable {B G V n T : Nat} {w0 w w' : World} {pv : Value} {z : List Int} {P : List Nat}
theorem SZ.c1 (h : SZ B G V w0 w n pv T z P) : w.cell? ⟨V, 0, none⟩ = some (.slice (some ⟨G, 0, none⟩) n n) := by simp [World.cell?, h.h1]
theorem SZ.c2 (h : SZ B G V w0 w n pv T z P) : w.cell? ⟨V + 1, 0, none⟩ = some (.int .i64 (T : Nat)) := by simp [World.cell?, h.h2]
theorem SZ.c3 (h : SZ B G V w0 w n pv T z P) : w.cell? ⟨V + 2, 0, none⟩ = some pv := by simp [World.cell?, h.h3]
theorem SZ.cz (h : SZ B G V w0 w n pv T z P) {j : Nat} {a : Int} (ha : z[j]? = some a) : w.cell? ⟨G, j, none⟩ = some (.int .i64 a) := by
  simp only [World.cell?, h.h0]
  simp [zs, ha]
theorem SZ.f0 (h : SZ B G V w0 w n pv T z P) (j : Nat) : w.frozen? ⟨G, j, none⟩ = false := frozen_of_row w G j _ 3 h.h0
theorem SZ.f2 (h : SZ B G V w0 w n pv T z P) (j : Nat) : w.frozen? ⟨V + 1, j, none⟩ = false := frozen_of_row w (V + 1) j _ 3 h.h2
theorem SZ.f3 (h : SZ B G V w0 w n pv T z P) (j : Nat) : w.frozen? ⟨V + 2, j, none⟩ = false := frozen_of_row w (V + 2) j _ 92 h.h3
theorem SZ.own (h : SZ B G V w0 w n pv T z P) {k : Nat} (e : pv.ownBlock = some k) : V + 3 ≤ k := (h.prow.lt k e).1
theorem SZ.grown (h : SZ B G V w0 w n pv T z P) (hg : w.grownBy w' none) : SZ B G V w0 w' n pv T z P where
  lo := h.lo
  gv := h.gv
  bs := Nat.le_trans h.bs hg.size
  h0 := (hg.block _ (by have := h.bs; have := h.gv; have := h.lo; omega) (by simp)).trans h.h0
  h1 := (hg.block _ (by have := h.bs; have := h.gv; have := h.lo; omega) (by simp)).trans h.h1
  h2 := (hg.block _ (by have := h.bs; have := h.gv; have := h.lo; omega) (by simp)).trans h.h2
  h3 := (hg.block _ (by have := h.bs; have := h.gv; have := h.lo; omega) (by simp)).trans h.h3
  len := h.len
  prow := row_same h.prow (fun k hk => hg.block k (h.prow.lt k hk).2 (by simp))
  bel := h.bel.grown hg (by have := h.bs; have := h.gv; have := h.lo; omega) (by simp)
theorem SZ.setz (h : SZ B G V w0 w n pv T z P) (j : Nat) (a : Int) : SZ B G V w0 (w.setCell ⟨G, j, none⟩ (.int .i64 a)) n pv T (z.set j a) P where
  lo := h.lo
  gv := h.gv
  bs := by simpa using h.bs
  h0 := by
    have := heap_setCell_same w G j _ 3 (.int .i64 a) h.h0
    simpa [zs, List.map_set] using this
  h1 := (set_other _ _ _ _ _ (by have := h.gv; omega)).trans h.h1
  h2 := (set_other _ _ _ _ _ (by have := h.gv; omega)).trans h.h2
  h3 := (set_other _ _ _ _ _ (by have := h.gv; omega)).trans h.h3
  len := by rw [List.length_set]; exact h.len
  prow := row_same h.prow (fun k hk => set_other _ _ _ _ _ (fun e => by have := h.own hk; have := h.gv; omega))
  bel := h.bel.setCell (p := ⟨G, j, none⟩) h.lo _
theorem SZ.total (h : SZ B G V w0 w n pv T z P) (T' : Nat) : SZ B G V w0 (w.setCell ⟨V + 1, 0, none⟩ (.int .i64 (T' : Nat))) n pv T' z P where
  lo := h.lo
  gv := h.gv
  bs := by simpa using h.bs
  h0 := (set_other _ _ _ _ _ (by have := h.gv; omega)).trans h.h0
  h1 := (set_other _ _ _ _ _ (by have := h.gv; omega)).trans h.h1
  h2 := by
    have := heap_setCell_same w (V + 1) 0 _ 3 (.int .i64 (T' : Nat)) h.h2
    simpa using this
  h3 := (set_other _ _ _ _ _ (by have := h.gv; omega)).trans h.h3
  len := h.len
  prow := row_same h.prow (fun k hk => set_other _ _ _ _ _ (fun e => by have := h.own hk; have := h.gv; omega))
  bel := h.bel.setCell (p := ⟨V + 1, 0, none⟩) (by have := h.gv; have := h.lo; show B ≤ V + 1; omega) _
/-- What waits is another list, in a row of its own. -/
theorem SZ.wait (h : SZ B G V w0 w n pv T z P) {w3 : World} {v' : Value} {P' : List Nat} (hr : w3.ownsRow (V + 3) 3 1 v' P'.length (ps P')) (hg : w.grownBy w3 pv.ownBlock) : SZ B G V w0 (w3.setCell ⟨V + 2, 0, none⟩ v') n v' T z P' where
  lo := h.lo
  gv := h.gv
  bs := by simpa using Nat.le_trans h.bs hg.size
  h0 := (set_other _ _ _ _ _ (by have := h.gv; omega)).trans ((hg.block _ (by have := h.bs; have := h.gv; have := h.lo; omega) (fun e => by have := h.own e.symm; have := h.gv; omega)).trans h.h0)
  h1 := (set_other _ _ _ _ _ (by have := h.gv; omega)).trans ((hg.block _ (by have := h.bs; have := h.gv; have := h.lo; omega) (fun e => by have := h.own e.symm; have := h.gv; omega)).trans h.h1)
  h2 := (set_other _ _ _ _ _ (by have := h.gv; omega)).trans ((hg.block _ (by have := h.bs; have := h.gv; have := h.lo; omega) (fun e => by have := h.own e.symm; have := h.gv; omega)).trans h.h2)
  h3 := by
    have hh3 := (hg.block _ (by have := h.bs; have := h.gv; have := h.lo; omega) (fun e => by have := h.own e.symm; have := h.gv; omega)).trans h.h3
    have := heap_setCell_same w3 (V + 2) 0 _ 92 v' hh3
    simpa using this
  len := h.len
  prow := row_same hr (fun k hk => set_other _ _ _ _ _ (fun e => by have := (hr.lt k hk).1; omega))
  bel := (h.bel.grown hg (by have := h.bs; have := h.gv; have := h.lo; omega) (fun k e => by have := h.own e; have := h.gv; have := h.lo; omega)).setCell (p := ⟨V + 2, 0, none⟩) (by have := h.gv; have := h.lo; show B ≤ V + 2; omega) _
/-- A row cut behind some of its numbers. -/
theorem prow_cut {a : Option Addr} {k cap C : Nat} (h : w.ownsRow C 3 1 (.slice a k cap) P.length (ps P)) {f : Nat} (hf : f ≤ P.length) : w.ownsRow C 3 1 (.slice a f cap) (P.take f).length (ps (P.take f)) := by
  have hl : (P.take f).length = f := by rw [List.length_take]; omega
  rw [hl]
  rcases h.2 with ⟨e, h0⟩ | ⟨g, cp, cur, e, hbg, hg, hnc, hcm, hcs, ht⟩
  · injection e with e1 e2 e3
    subst e1 e2 e3
    have : f = 0 := by omega
    subst this
    exact ⟨rfl, Or.inl ⟨rfl, rfl⟩⟩
  · injection e with e1 e2 e3
    subst e1 e3
    refine ⟨by rw [ps_len, hl]; omega, Or.inr ⟨g, _, cur, rfl, hbg, hg, by omega, hcm, hcs, ?_⟩⟩
    have := congrArg (List.take f) ht
    rw [List.take_take] at this
    rw [show f * 1 = min f (P.length * 1) by omega, this]
    simp [ps, List.map_take]
end

/-- All blocks stand but the sizes' row and the variable of what waits. -/
def Fr (G V : Nat) (w w' : World) : Prop := ∀ k, k < w.heap.size → k ≠ G → k ≠ V + 2 → w'.heap[k]? = w.heap[k]?
theorem Fr.setz {G V j : Nat} {w w' : World} (h : Fr G V w w') (u : Value) : Fr G V w (w'.drew.setCell ⟨G, j, none⟩ u) := fun k hk h1 h2 => (set_other _ _ _ _ _ h1).trans (h k hk h1 h2)
theorem Fr.wait {G V j : Nat} {w w' : World} (h : Fr G V w w') (u : Value) : Fr G V w (w'.setCell ⟨V + 2, j, none⟩ u) := fun k hk h1 h2 => (set_other _ _ _ _ _ h2).trans (h k hk h1 h2)
set_option maxHeartbeats 2000000 in
theorem settle_call {B G V n T f : Nat} {w0 w : World} {pv : Value} {z : List Int} {P : List Nat} (h : SZ B G V w0 w n pv T z P) (hf : f ≤ P.length) (hP : ∀ j ∈ P, j < n) (hn : n ≤ 1500) (hPl : P.length ≤ 3000) (hT : T ≤ 1572864000) (hnd : P.Nodup)
    (hz : ∀ (j : Nat) (a : Int), z[j]? = some a → -1572864000 ≤ a ∧ a ≤ 1572864000) :
    Calls Try.prog 72 #[.int .i64 (f : Nat), .pointer (some ⟨V + 2, 0, none⟩), .pointer (some ⟨V, 0, none⟩), .pointer (some ⟨V + 1, 0, none⟩)] w fun e w' => e = .returned (.tuple #[]) ∧ (∃ pv', SZ B G V w0 w' n pv' T (settle T (P.drop f) z) (P.take f)) ∧ Fr G V w w' := by
  have c3 := h.c3
  have f3 := h.f3 0
  obtain ⟨a, cap, rfl⟩ := row_slice h.prow
  have H := hidden h
  by_cases hlt : f < P.length
  · rcases h.prow.2 with ⟨e, h0⟩ | ⟨g, cp, cur, e, hbg, hg, hnc, hcm, hcs, ht⟩
    · omega
    injection e with e1 e2 e3
    subst e1 e3
    have hcf : ¬ cap = f := by omega
    have hcl : P.length ≤ cap := by omega
    have Hnd := hidden hnd
    have HP := hidden hP
    have Hz := hidden hz
    have hfl : f ≤ P.length := by omega
    have hfc : f ≤ cap := by omega
    have hpl : ((P.length : Int) - (f : Int)) = ((P.length - f : Nat) : Int) := by omega
    obtain ⟨m, hm⟩ : ∃ m, P.length - f = m := ⟨_, rfl⟩
    have hmz : (f : Int) + (m : Int) = (P.length : Int) := by omega
    have hm1 : m ≤ 3000 := by omega
    have Hm := hidden hm
    rw [hm] at hpl
    clear hbg hg hcm hcs ht hnc h hnd hP hz hf hm
    go_enter Try.func72, Try.ntmps72
    go_wp2_with fail
    go_loopw [11] (fun i wr => ∃ q : Nat, q ≤ m ∧ i = .int .i64 (q : Nat) ∧ SZ B G V w0 wr n (.slice (some ⟨g, 0, none⟩) P.length cap) T (settle (T : Nat) ((P.drop f).take q) z) P ∧ Fr G V w wr) (fun i _ => m - (intOf i).toNat)
    case atStart => exact ⟨0, Nat.zero_le _, rfl, by simpa [settle] using H.out, fun _ _ _ _ => rfl⟩
    case round =>
      obtain ⟨q, hq, rfl, hS, hF⟩ := hrel
      have HF := hidden hF
      clear hF
      by_cases hl : q < m
      · have hlz : (q : Int) < (m : Int) := by omega
        have hfq : f + q < P.length := by omega
        obtain ⟨j, hj⟩ : ∃ j, P[f + q]? = some j := ⟨_, List.getElem?_eq_getElem hfq⟩
        have hjn : j < n := HP.out j (List.mem_of_getElem? hj)
        have hdj : (P.drop f)[q]? = some j := by rw [List.getElem?_drop]; exact hj
        have hts : (P.drop f).take (q + 1) = (P.drop f).take q ++ [j] := by rw [List.take_add_one, hdj]; rfl
        have hnt : j ∉ (P.drop f).take q := by
          have hd := Hnd.out.sublist (List.drop_sublist f P)
          have hd2 : ((P.drop f).take (q + 1)).Nodup := hd.sublist (List.take_sublist _ _)
          rw [hts] at hd2
          intro e
          exact (List.nodup_append.1 hd2).2.2 j e j (by simp) rfl
        obtain ⟨a, hza⟩ : ∃ a, z[j]? = some a := ⟨_, List.getElem?_eq_getElem (by rw [H.out.len]; exact hjn)⟩
        obtain ⟨ha1, ha2⟩ := Hz.out j a hza
        have hsa : (settle (T : Nat) ((P.drop f).take q) z)[j]? = some a := by rw [settle_not _ _ _ _ hnt]; exact hza
        have hstep : settle (T : Nat) ((P.drop f).take (q + 1)) z = (settle (T : Nat) ((P.drop f).take q) z).set j (a + (T : Nat)) := by
          rw [hts, settle_snoc, List.getD_eq_getElem?_getD, hsa]; rfl
        have HS := hidden hS
        have Hstep := hidden hstep
        have d1 := hS.c1
        have d2 := hS.c2
        have dz := hS.cz hsa
        have dp : wr.cell? ⟨g, f + q, none⟩ = some (.int .i64 (j : Nat)) := by
          rw [hS.prow.cellAt (f + q) (by omega)]
          simp [ps, hj]
        have ff := hS.f0 j
        clear hS hstep hts hnt hza hsa hdj hj c3 f3
        go_wp2_with fail
        go_region
        all_goals go_wp2
        go_roundw
        case rel =>
          refine ⟨q + 1, hl, by go_num, ?_, HF.out.setz _⟩
          rw [Hstep.out]
          exact (HS.out.grown (grown_d wr)).setz j (a + (T : Nat))
        case measure => simp [intOf]; omega
      · have hqm : q = m := by omega
        have d3 := hS.c3
        have g3 := hS.f3 0
        have hcut := prow_cut hS.prow (f := f) (by omega)
        have hfin : (P.drop f).take q = P.drop f := by rw [List.take_of_length_le]; rw [List.length_drop, Hm.out]; omega
        rw [hfin] at hS
        have HS := hidden hS
        have HC := hidden hcut
        have hlz : ¬ ((q : Int) < (m : Int)) := by omega
        clear hS hcut hfin hqm hl c3 f3
        go_wp2_with fail
        go_end0
        exact ⟨rfl, ⟨_, HS.out.wait HC.out ⟨rfl, rfl, rfl, Nat.le_refl _, fun _ _ _ => rfl⟩⟩, HF.out.wait _⟩
  · have hfe : P.length = f := by omega
    have hd : P.drop f = [] := by rw [List.drop_eq_nil_iff]; omega
    have ht : P.take f = P := by rw [List.take_of_length_le]; omega
    rw [hd, ht]
    have HC : Hid (w.ownsRow (V + 3) 3 1 (.slice a f cap) P.length (ps P)) := by
      have := h.prow
      rw [hfe] at this ⊢
      exact this
    rw [hfe] at c3
    have hfb : f ≤ 3000 := by omega
    have hcf : f ≤ cap := by
      rcases h.prow.2 with ⟨e, h0⟩ | ⟨g, cp, cur, e, hbg, hg, hnc, hcm, hcs, ht⟩
      · omega
      · injection e with e1 e2 e3
        omega
    have ha : (a = none ∧ f = 0 ∧ cap = 0) ∨ ∃ g, a = some ⟨g, 0, none⟩ := by
      rcases h.prow.2 with ⟨e, h0⟩ | ⟨g, cp, cur, e, hbg, hg, hnc, hcm, hcs, ht⟩
      · injection e with e1 e2 e3
        exact Or.inl ⟨e1, by omega, e3⟩
      · injection e with e1 e2 e3
        exact Or.inr ⟨g, e1⟩
    clear h hP hz hnd hlt hd ht hf hPl hfe
    rcases ha with ⟨rfl, rfl, rfl⟩ | ⟨g, rfl⟩
    · go_enter Try.func72, Try.ntmps72
      go_wp2_with fail
      go_loopw [11] (fun i wr => i = .int .i64 0 ∧ wr = w) (fun _ _ => 0)
      case atStart => exact ⟨rfl, rfl⟩
      case round =>
        obtain ⟨rfl, rfl⟩ := hrel
        go_wp2_with fail
        go_end0
        exact ⟨rfl, ⟨_, H.out.wait HC.out ⟨rfl, rfl, rfl, Nat.le_refl _, fun _ _ _ => rfl⟩⟩, Fr.wait (fun _ _ _ _ => rfl) _⟩
    · by_cases hcf2 : cap = f
      · subst hcf2
        go_enter Try.func72, Try.ntmps72
        go_wp2_with fail
        go_loopw [11] (fun i wr => i = .int .i64 0 ∧ wr = w) (fun _ _ => 0)
        case atStart => exact ⟨rfl, rfl⟩
        case round =>
          obtain ⟨rfl, rfl⟩ := hrel
          go_wp2_with fail
          go_end0
          exact ⟨rfl, ⟨_, H.out.wait HC.out ⟨rfl, rfl, rfl, Nat.le_refl _, fun _ _ _ => rfl⟩⟩, Fr.wait (fun _ _ _ _ => rfl) _⟩
      · go_enter Try.func72, Try.ntmps72
        go_wp2_with fail
        go_loopw [11] (fun i wr => i = .int .i64 0 ∧ wr = w) (fun _ _ => 0)
        case atStart => exact ⟨rfl, rfl⟩
        case round =>
          obtain ⟨rfl, rfl⟩ := hrel
          go_wp2_with fail
          go_end0
          exact ⟨rfl, ⟨_, H.out.wait HC.out ⟨rfl, rfl, rfl, Nat.le_refl _, fun _ _ _ => rfl⟩⟩, Fr.wait (fun _ _ _ _ => rfl) _⟩
end Go.Proofs.PlatenLayout

/- What layout.Sizes comes to. -/
namespace Go.Proofs.PlatenLayout
open Go Go.RowKit Go.Shelf
set_option linter.unusedVariables false
set_option maxRecDepth 100000

theorem stop {p : Prop} (h : Hid p) : p := h.out
theorem one1 (k : IntKind) (x : Int) : ∀ u ∈ [Value.int k x], u.oneCell' = true := by
  intro u hu
  simp at hu
  subst hu
  rfl
theorem grown_below {w w' : World} (h : Below w.heap.size w w') : w.grownBy w' none := ⟨h.os, h.tape, h.output, h.size, fun k hk _ => h.block k hk⟩
theorem SZ.below {B G V n T : Nat} {w0 w w' : World} {pv : Value} {z : List Int} {P : List Nat} (h : SZ B G V w0 w n pv T z P) (hb : Below w.heap.size w w') : SZ B G V w0 w' n pv T z P := h.grown (grown_below hb)
/-- []byte of a text. -/
theorem conv_bytes (w : World) (l : List Nat) (h : ∀ c ∈ l, c < 256) (hl : l.length ≤ 100000) : ∃ cap w2, (convert 9 22 (.string (str l))).run Try.prog w = .ok (.slice (some ⟨w.heap.size, 0, none⟩) l.length cap) w2 ∧ PlatenGlyph.IsBytes w2 (.slice (some ⟨w.heap.size, 0, none⟩) l.length cap) l.length (fun j => l.getD j 0) ∧ w.grownBy w2 none := by
  have hs := str_size l
  refine ⟨grownCap w l.length 0 5, _, by rw [run_bytes_of_string (P := Try.prog) w 9 22 5 (str l) Try.underlying9 Try.underlying22 Try.underlying5, hs], ⟨fun j => ?_, by omega, Or.inr ⟨_, 0, _, rfl, ?_, fun j hj => ?_⟩⟩, ?_⟩
  · show l.getD j 0 < 256
    rw [List.getD_eq_getElem?_getD]
    cases hj : l[j]? with
    | none => decide
    | some c => exact h c (List.mem_of_getElem? hj)
  · have := grownCap_ge w l.length 0 5; omega
  · have hh : ∀ o, (w.drew.alloc o).heap[w.heap.size]? = some o := fun o => heap_alloc_new w.drew o
    simp only [World.cell?, hh]
    have hj3 : j < (str l).size := by rw [hs]; exact hj
    have hj4 : j < (l.map UInt8.ofNat).length := by simpa using hj
    have hc := h l[j] (List.getElem_mem hj)
    simp [bytesRow, Array.getElem?_append, hj, str, List.getD_eq_getElem?_getD]
    omega
  · exact ⟨rfl, rfl, rfl, by simp, fun k hk _ => Below.heap_alloc w.drew _ k hk⟩
/-- Numbers in memory, to be read. -/
def IsZ (w : World) (u : Value) (z : List Int) : Prop := ∃ a cap, u = .slice a z.length cap ∧ z.length ≤ cap ∧ (0 < z.length → ∃ g X, a = some ⟨g, 0, none⟩ ∧ w.heap[g]? = some (Obj.cells X 3 (0, 0)) ∧ ∀ (j : Nat) (x : Int), z[j]? = some x → X[j]? = some (.int .i64 x))
theorem IsZ.of {w w' : World} {v : Value} {l : List Int} (h : IsZ w v l) (hb : ∀ (k : Nat) (x : Array Value), w.heap[k]? = some (Obj.cells x 3 (0, 0)) → w'.heap[k]? = some (Obj.cells x 3 (0, 0))) : IsZ w' v l := by
  obtain ⟨a, cap, e, hc, h⟩ := h
  refine ⟨a, cap, e, hc, fun h0 => ?_⟩
  obtain ⟨g, X, e1, h1, h2⟩ := h h0
  exact ⟨g, X, e1, hb g X h1, h2⟩
theorem IsZ.below {w w' : World} {v : Value} {l : List Int} (h : IsZ w v l) (hb : Below w.heap.size w w') : IsZ w' v l :=
  h.of fun k x hk => (hb.block k (Array.getElem?_eq_some_iff.1 hk).1).trans hk
theorem IsZ.at' {w : World} {v : Value} {l : List Int} (h : IsZ w v l) {j : Nat} {x : Int} (hj : l[j]? = some x) : ∃ g cap, v = .slice (some ⟨g, 0, none⟩) l.length cap ∧ l.length ≤ cap ∧ w.cell? ⟨g, j, none⟩ = some (.int .i64 x) := by
  obtain ⟨a, cap, e, hc, h⟩ := h
  obtain ⟨g, X, e1, h1, h2⟩ := h (by have := (List.getElem?_eq_some_iff.1 hj).1; omega)
  subst e1
  exact ⟨g, cap, e, hc, by simp only [World.cell?, h1]; exact h2 j x hj⟩
theorem isZ_of {w : World} {B : Nat} {v : Value} {l : List Int} (h : w.ownsRow B 3 1 v l.length (zs l)) : IsZ w v l := by
  rcases h.2 with ⟨e, h0⟩ | ⟨g, cap, cur, e, hb, hg, hnc, hcm, hcs, ht⟩
  · exact ⟨none, 0, by rw [e, h0], by omega, fun q => by omega⟩
  · refine ⟨_, cap, e, hnc, fun _ => ⟨g, cur, rfl, hg, fun j x hj => ?_⟩⟩
    have hil : j < l.length := (List.getElem?_eq_some_iff.1 hj).1
    have h2 : (zs l)[j]? = some (.int .i64 x) := by simp [zs, hj]
    rw [← ht, List.getElem?_take, if_pos (by omega), Array.getElem?_toList] at h2
    exact h2
/-- All sizes. -/
def szs (l : List It) : List Int := (List.range l.length).map fun i => ((size (l.drop i) : Nat) : Int)
theorem szs_len (l : List It) : (szs l).length = l.length := by simp [szs]
theorem szs_get (l : List It) {i : Nat} (h : i < l.length) : (szs l)[i]? = some ((size (l.drop i) : Nat) : Int) := by simp [szs, h]
/-- The open groups, as cells. -/
def rowO (O : List (Nat × Nat)) : List Value := O.flatMap fun o => [.int .i64 (o.1 : Nat), .int .i64 (o.2 : Nat)]
theorem rowO_app (a b : List (Nat × Nat)) : rowO (a ++ b) = rowO a ++ rowO b := by simp [rowO]
theorem rowO_len (O : List (Nat × Nat)) : (rowO O).length = O.length * 2 := by
  induction O with
  | nil => rfl
  | cons x r ih => show ([_, _] ++ rowO r).length = _; rw [List.length_append, ih]; simp only [List.length_cons, List.length_nil]; omega
theorem rowO_get (O : List (Nat × Nat)) (k : Nat) (o : Nat × Nat) (h : O[k]? = some o) : (rowO O)[k * 2]? = some (.int .i64 (o.1 : Nat)) ∧ (rowO O)[k * 2 + 1]? = some (.int .i64 (o.2 : Nat)) := by
  have hk : k < O.length := (List.getElem?_eq_some_iff.1 h).1
  have hx := (List.getElem?_eq_some_iff.1 h).2
  have hs : O = O.take k ++ (o :: O.drop (k + 1)) := by rw [← hx, ← List.drop_eq_getElem_cons hk, List.take_append_drop]
  have hl : (rowO (O.take k)).length = k * 2 := by rw [rowO_len, List.length_take]; congr 1; omega
  have : rowO O = rowO (O.take k) ++ ([.int .i64 (o.1 : Nat), .int .i64 (o.2 : Nat)] ++ rowO (O.drop (k + 1))) := by
    rw [hs, rowO_app, ← hs]
    rfl
  rw [this]
  constructor
  · rw [List.getElem?_append_right (by omega), hl, Nat.sub_self]; rfl
  · rw [List.getElem?_append_right (by omega), hl, show k * 2 + 1 - k * 2 = 1 by omega]; rfl
theorem rowO_cut {w : World} {a : Option Addr} {k cap C : Nat} {O : List (Nat × Nat)} {o : Nat × Nat} (h : w.ownsRow C 107 2 (.slice a k cap) (O ++ [o]).length (rowO (O ++ [o]))) : w.ownsRow C 107 2 (.slice a O.length cap) O.length (rowO O) := by
  rcases h.2 with ⟨e, h0⟩ | ⟨g, cp, cur, e, hbg, hg, hnc, hcm, hcs, ht⟩
  · simp at h0
  · injection e with e1 e2 e3
    subst e1 e3
    simp only [List.length_append, List.length_singleton] at hnc ht
    refine ⟨rowO_len O, Or.inr ⟨g, _, cur, rfl, hbg, hg, by omega, hcm, hcs, ?_⟩⟩
    have := congrArg (List.take (O.length * 2)) ht
    rw [List.take_take, rowO_app, List.take_left' (rowO_len O)] at this
    rw [show O.length * 2 = min (O.length * 2) ((O.length + 1) * 2) by omega, this]
theorem row_grown {B e s n : Nat} {w w' : World} {v : Value} {xs : List Value} {r : Option Nat} (h : w.ownsRow B e s v n xs) (hg : w.grownBy w' r) (hne : ∀ k, v.ownBlock = some k → r ≠ some k) : w'.ownsRow B e s v n xs :=
  row_same h (fun k hk => hg.block k (h.lt k hk).2 (fun e => hne k hk e.symm))
theorem nodup_lt : ∀ (k : Nat) (L : List Nat), L.Nodup → (∀ j ∈ L, j < k) → L.length ≤ k
  | 0, L, _, h => by
    cases L with
    | nil => exact Nat.le_refl _
    | cons a r => exact absurd (h a (by simp)) (Nat.not_lt_zero _)
  | k + 1, L, hn, h => by
    have h1 := nodup_lt k (L.erase k) (hn.erase k) (fun j hj => by
      have h2 := (hn.mem_erase_iff).1 hj
      have := h j h2.2
      have := h2.1
      omega)
    rw [List.length_erase] at h1
    split at h1 <;> omega
theorem inv_b {l : List It} {k : Nat} {z : List Int} {P : List Nat} {O : List (Nat × Nat)} (I : Inv l k z P O) (ok : OkL l) : P.length ≤ 1500 ∧ O.length ≤ 1500 ∧ (∀ (j : Nat) (a : Int), z[j]? = some a → -1572864000 ≤ a ∧ a ≤ 1572864000) := by
  have hnd := I.nd
  have hlt := I.lt
  have hk := I.hi
  have h1 := ok.1
  have hlen : (P ++ O.map Prod.fst).length ≤ k :=  nodup_lt k _ hnd hlt
  rw [List.length_append, List.length_map] at hlen
  refine ⟨by omega, by omega, fun j a ha => ?_⟩
  have hjl : j < l.length := by
    have := (List.getElem?_eq_some_iff.1 ha).1
    rw [I.len] at this; exact this
  by_cases hj : j < k
  · by_cases hm : j ∈ P ++ O.map Prod.fst
    · have : z[j]? = some (-((pre l j : Nat) : Int)) := by
        rcases List.mem_append.1 hm with q | q
        · obtain ⟨t, ht⟩ := List.getElem?_of_mem q
          exact (I.pend t j ht).1
        · obtain ⟨o, ho, rfl⟩ := List.mem_map.1 q
          obtain ⟨t, ht⟩ := List.getElem?_of_mem ho
          exact (I.opn t o ht).1
      rw [this] at ha
      injection ha with ha
      have := ok.pre j
      omega
    · have := I.done j hj hm
      rw [this] at ha
      injection ha with ha
      have := ok.size j
      omega
  · have := I.rest j (by omega) hjl
    rw [this] at ha
    injection ha with ha
    omega
/-- Another row of one's own has grown. -/
theorem SZ.other {B G V n T : Nat} {w0 w w' : World} {pv : Value} {z : List Int} {P : List Nat} {r : Option Nat} (h : SZ B G V w0 w n pv T z P) (hg : w.grownBy w' r) (hr : ∀ k, r = some k → V + 3 ≤ k ∧ pv.ownBlock ≠ some k) : SZ B G V w0 w' n pv T z P where
  lo := h.lo
  gv := h.gv
  bs := Nat.le_trans h.bs hg.size
  h0 := (hg.block _ (by have := h.bs; have := h.gv; omega) (fun e => by have := (hr _ e.symm).1; have := h.gv; omega)).trans h.h0
  h1 := (hg.block _ (by have := h.bs; omega) (fun e => by have := (hr _ e.symm).1; omega)).trans h.h1
  h2 := (hg.block _ (by have := h.bs; omega) (fun e => by have := (hr _ e.symm).1; omega)).trans h.h2
  h3 := (hg.block _ (by have := h.bs; omega) (fun e => by have := (hr _ e.symm).1; omega)).trans h.h3
  len := h.len
  prow := row_same h.prow (fun k hk => hg.block k (h.prow.lt k hk).2 (fun e => (hr k e.symm).2 hk))
  bel := h.bel.grown hg (by have := h.bs; have := h.gv; have := h.lo; omega) (fun k e => by have := (hr k e).1; have := h.gv; have := h.lo; omega)
theorem one2 (k : IntKind) (x y : Int) : ∀ u ∈ [Value.int k x, Value.int k y], u.oneCell' = true := by
  intro u hu
  simp at hu
  rcases hu with rfl | rfl <;> rfl
end Go.Proofs.PlatenLayout

/- What layout.Sizes comes to: the walk. -/
namespace Go.Proofs.PlatenLayout
open Go Go.RowKit Go.Shelf
set_option linter.unusedVariables false
set_option maxRecDepth 100000

theorem made_row {w1 : World} {B G n : Nat} (hr : w1.ownsRow B 3 1 (.slice (some ⟨G, 0, none⟩) n n) n (madeCells (Value.int .i64 0).cells (n * 1)).toList) : B ≤ G ∧ w1.heap[G]? = some (.cells (zs (List.replicate n 0)).toArray 3 (0, 0)) := by
  rcases hr.2 with ⟨e, h0⟩ | ⟨g, cp, cur, e, hbg, hg, hnc, hcm, hcs, ht⟩
  · cases e
  · injection e with e1 e2 e3
    injection e1 with e1
    injection e1 with e1
    subst e1 e3
    refine ⟨hbg, ?_⟩
    have e : cur.toList = (zs (List.replicate n 0)) := by
      rw [List.take_of_length_le (by rw [Array.length_toList, hcs]; exact Nat.le_refl _)] at ht
      rw [ht]
      show (madeCells #[Value.int .i64 0] (n * 1)).toList = _
      rw [toList_madeCells_one, Nat.mul_one]
      simp [zs]
    rw [hg, ← e]
theorem sz_start {w w1 : World} {n : Nat} (hr : w1.ownsRow w.heap.size 3 1 (.slice (some ⟨w.heap.size, 0, none⟩) n n) n (madeCells (Value.int .i64 0).cells (n * 1)).toList) (hg : w.grownBy w1 none) :
    SZ w.heap.size w.heap.size w1.heap.size w (((w1.alloc (.cells #[.slice (some ⟨w.heap.size, 0, none⟩) n n] 92)).alloc (.cells #[.int .i64 0] 3)).alloc (.cells #[.slice none 0 0] 92)) n (.slice none 0 0) 0 (List.replicate n 0) [] := by
  obtain ⟨h1, h2⟩ := made_row hr
  have hlt : w.heap.size < w1.heap.size := (Array.getElem?_eq_some_iff.1 h2).1
  refine ⟨Nat.le_refl _, hlt, by simp, ?_, ?_, ?_, ?_, by simp, World.ownsRow_nil _ _ _ _, ?_⟩
  · rw [Below.heap_alloc _ _ _ (by simp; omega), Below.heap_alloc _ _ _ (by simp; omega), Below.heap_alloc _ _ _ hlt]; exact h2
  · rw [Below.heap_alloc _ _ _ (by simp; omega), Below.heap_alloc _ _ _ (by simp)]; exact heap_alloc_new _ _
  · rw [Below.heap_alloc _ _ _ (by simp)]
    have := heap_alloc_new (w1.alloc (.cells #[.slice (some ⟨w.heap.size, 0, none⟩) n n] 92)) (.cells #[.int .i64 0] 3)
    rw [World.size_alloc] at this
    exact this
  · have := heap_alloc_new ((w1.alloc (.cells #[.slice (some ⟨w.heap.size, 0, none⟩) n n] 92)).alloc (.cells #[.int .i64 0] 3)) (.cells #[.slice none 0 0] 92)
    rw [World.size_alloc, World.size_alloc] at this
    exact this
  · exact ((((Below.refl w.heap.size w).grown hg (Nat.le_refl _) (by simp)).alloc (by omega) _).alloc (by simp; omega) _).alloc (by simp; omega) _

set_option maxHeartbeats 8000000 in
theorem sizes_any {v : Value} {l : List It} {w : World} (h : IsItems w v l) (ok : OkL l) :
    Calls Try.prog 48 #[v] w fun e w' => ∃ u, e = .returned u ∧ IsZ w' u (szs l) ∧ Below w.heap.size w w' := by
  obtain ⟨i3, hi3, hz3, hy3, hb3⟩ := info_parts info3
  obtain ⟨i51, hi51, hz51, hy51, hb51⟩ := info_parts info51
  obtain ⟨a, cap, rfl⟩ := h.val
  have hl1 := ok.1
  have HL := hidden h
  have Hok := hidden ok
  have hby : i3.bytes * l.length ≤ 281474976710656 := by rw [hb3]; omega
  have hml : l.length ≤ maxLen := by unfold maxLen; omega
  clear h ok
  obtain ⟨n, hn⟩ : ∃ n, l.length = n := ⟨_, rfl⟩
  rw [hn] at hl1 hby hml ⊢
  have Hn := hidden hn
  clear hn
  go_enter Try.func48, Try.ntmps48
  go_wp2_with (at_make; refine wpList_make_full _ rfl _ _ _ rfl w.heap.size 3 i3 (.int .i64 0) 1 Try.underlying92 hi3 hz3 hy3 .i64 .i64 (n : Int) (n : Int) n rfl rfl rfl rfl hby hml (Nat.le_refl _) ?_)
  intro w1 hr hg
  have S0 := hidden (sz_start (n := n) (by rw [Nat.mul_one]; exact hr) hg)
  have hsz := hg.size
  clear hr hg hby hml
  go_wp2_with fail
  generalize w1.heap.size = V at *
  go_loopw [5, 21] (fun ov i wr => ∃ (k : Nat) (pv : Value) (z : List Int) (P : List Nat) (O : List (Nat × Nat)), k ≤ n ∧ i = .int .i64 (k : Nat) ∧ Inv l k z P O ∧ SZ w.heap.size w.heap.size V w wr n pv (pre l k) z P ∧ wr.ownsRow (V + 3) 107 2 ov O.length (rowO O)) (fun _ i _ => n - (intOf i).toNat)
  case atStart => exact ⟨0, _, _, [], [], Nat.zero_le _, rfl, by rw [← Hn.out]; exact inv_start l, S0.out, World.ownsRow_nil _ _ _ _⟩
  case round =>
    obtain ⟨k, pv, z, P, O, hk, rfl, I, S, R⟩ := hrel
    obtain ⟨hPb, hOb, hzb⟩ := inv_b I Hok.out
    have hpb := Hok.out.pre k
    have hbel := S.bel
    by_cases hlt : k < n
    · have hll : k < l.length := by rw [Hn.out]; exact hlt
      obtain ⟨b, off, cp, hv, hcap, x0, x1, x2, x3, x4, x5⟩ := (HL.out.below hbel).at' hll
      obtain ⟨x, hx⟩ : ∃ x, l[k] = x := ⟨_, rfl⟩
      have hkd : kd l k = x.kind := by rw [kd_get hll, hx]
      have hox : OkIt x := Hok.out.2 x (by rw [← hx]; exact List.getElem_mem hll)
      rw [hx] at x0 x1 x2 x3 x4 x5
      have Hx := hidden hx
      rw [Hn.out] at hv hcap
      injection hv with hv1 hv2 hv3
      subst hv1 hv3
      have hlz : (k : Int) < (n : Int) := by omega
      have SA : Hid (∀ cs, SZ w.heap.size w.heap.size V w (wr.alloc (.cells cs 54)) n pv (pre l k) z P) := fun cs => S.grown (grownBy_alloc wr _)
      have RA : Hid (∀ cs, (wr.alloc (.cells cs 54)).ownsRow (V + 3) 107 2 u5 O.length (rowO O)) := fun cs => R.alloc _
      have hkz := hidden S.bs
      have HI := hidden I
      obtain ⟨y, hy⟩ : ∃ y, x.kind = y := ⟨_, rfl⟩
      have hkd2 : kd l k = y := hkd.trans hy
      have hk8 : y < 256 := by rw [← hy]; exact hox.kind
      rw [hy] at x0
      have HX := hidden hox
      have HY := hidden hy
      have HK := hidden hkd2
      have Hzb := hidden hzb
      clear hkd hx hox hy hkd2 hv2 I S R hbel hzb
      by_cases k1 : y = 1
      · have z1 : ((y : Int) == 1) = true := by simp; omega
        go_wp2_with fail
        have SW := SA.out #[.int .u8 1, .string (str x.tx), .int .i64 x.n, .int .i64 x.off, .bool x.col, .bool x.whole]
        have RW := RA.out #[.int .u8 1, .string (str x.tx), .int .i64 x.n, .int .i64 x.off, .bool x.col, .bool x.whole]
        have e1 : (wr.alloc (.cells #[.int .u8 1, .string (str x.tx), .int .i64 x.n, .int .i64 x.off, .bool x.col, .bool x.whole] 54)).cell? ⟨wr.heap.size, 1, none⟩ = some (.string (str x.tx)) := by simp
        have hKlt : wr.heap.size < (wr.alloc (.cells #[.int .u8 1, .string (str x.tx), .int .i64 x.n, .int .i64 x.off, .bool x.col, .bool x.whole] 54)).heap.size := by simp
        generalize wr.alloc (.cells #[.int .u8 1, .string (str x.tx), .int .i64 x.n, .int .i64 x.off, .bool x.col, .bool x.whole] 54) = W at *
        generalize wr.heap.size = M at *
        clear SA RA x0 x1 x2 x3 x4 x5
        have c1 := SW.c1
        obtain ⟨cc, w2, hcv, hb2, hg2⟩ := conv_bytes W.drew x.tx HX.out.tx (by have := HX.out.len; omega)
        have hcv0 := hcv
        clear hcv
        have hcv : (convert 9 22 (.string (str x.tx))).run Try.prog W.drew = .ok (.slice (some ⟨W.heap.size, 0, none⟩) x.tx.length cc) w2 := hcv0
        clear hcv0
        have hg3 : W.grownBy w2 none := grown_trans (grown_d W) hg2
        clear hg2
        have cc1 := PlatenGlyph.count_any _ _ _ w2 hb2
        rw [← HX.out.ch] at cc1
        have hxc := HX.out.ch_le
        refine wp_region_held_drew (S := (fun u => u.cell? ⟨V, 0, none⟩ = some (.slice (some ⟨w.heap.size, 0, none⟩) n n) ∧ u.cell? ⟨M, 1, none⟩ = some (.string (str x.tx)))) (by kernel_rfl) ⟨c1, e1⟩ (fun hHeld => ?_)
        refine take_dst 0 (some 30) rfl rfl (by kernel_rfl) (by kernel_rfl) (by kernel_rfl) (fun _ _ _ h => h) (v := ?_) (Or.inl ⟨by rfl, ?_⟩) (by assumption) ?_
        rotate_left
        · (intro w hSw; (try dsimp only at hSw); go_simp; try with_reducible rfl)
        simp only [Act.put, List.setIfInBounds_toArray, List.set_cons_zero, List.set_cons_succ]
        refine take_dst 1 (some 31) rfl rfl (by kernel_rfl) (by kernel_rfl) (by kernel_rfl) (fun _ _ _ h => h) (v := ?_) (Or.inl ⟨by rfl, ?_⟩) (by assumption) ?_
        rotate_left
        · (intro w hSw; (try dsimp only at hSw); go_simp; try with_reducible rfl)
        simp only [Act.put, List.setIfInBounds_toArray, List.set_cons_zero, List.set_cons_succ]
        refine take_dst 2 (some 32) rfl rfl (by kernel_rfl) (by kernel_rfl) (by kernel_rfl) (fun _ _ _ h => h) (v := ?_) (Or.inl ⟨by rfl, ?_⟩) (by assumption) ?_
        rotate_left
        · (intro w hSw; (try dsimp only at hSw); go_simp; try with_reducible rfl)
        simp only [Act.put, List.setIfInBounds_toArray, List.set_cons_zero, List.set_cons_succ]
        refine take_dst 3 (some 33) rfl rfl (by kernel_rfl) (by kernel_rfl) (by kernel_rfl) (fun _ _ _ h => h) (v := ?_) (Or.inl ⟨by rfl, ?_⟩) (by assumption) ?_
        rotate_left
        · (intro w hSw; (try dsimp only at hSw); go_simp; try with_reducible rfl)
        simp only [Act.put, List.setIfInBounds_toArray, List.set_cons_zero, List.set_cons_succ]
        refine wpAnyH_ready (rs := [4]) (by kernel_rfl) (by simp) ?_
        refine AllReadyH.cons rfl (fun K hK => ?_) AllReadyH.nil
        go_simp
        have S2 := SW.grown hg3
        have e2 : w2.cell? ⟨M, 1, none⟩ = some (.string (str x.tx)) := (World.cell?_of_block (hg3.block M hKlt (by simp))).trans e1
        have R2 := row_grown RW hg3 (by simp)
        have hKlt2 := Nat.lt_of_lt_of_le hKlt hg3.size
        refine hK.out _ _ ⟨S2.c1, e2⟩ (fun hHeld2 => ?_)
        clear hK K
        refine wpAnyH_ready (rs := [5]) (by kernel_rfl) (by simp) ?_
        refine AllReadyH.cons rfl (fun K hK => ?_) AllReadyH.nil
        go_simp
        refine cc1.mono ?_
        rintro e w3 ⟨rfl, hb3⟩
        have hg4 := grown_below hb3
        have S3 := S2.grown hg4
        have e3 : w3.cell? ⟨M, 1, none⟩ = some (.string (str x.tx)) := (World.cell?_of_block (hg4.block M hKlt2 (by simp))).trans e2
        have R3 := row_grown R2 hg4 (by simp)
        refine hK.out _ _ ⟨S3.c1, e3⟩ (fun hHeld3 => ?_)
        clear hK K
        have hzk := HI.out.rest k (Nat.le_refl _) hll
        have d3 := S3.cz hzk
        have f3 := S3.f0 k
        have S4 := S3.setz k (x.ch : Nat)
        have e4 : (w3.setCell ⟨w.heap.size, k, none⟩ (.int .i64 (x.ch : Nat))).cell? ⟨M, 1, none⟩ = some (.string (str x.tx)) := (World.cell?_of_block (set_other _ _ _ _ _ (show M ≠ w.heap.size by have := hkz.out; have := S3.gv; omega))).trans e3
        have R4 : (w3.setCell ⟨w.heap.size, k, none⟩ (.int .i64 (x.ch : Nat))).ownsRow (V + 3) 107 2 u5 O.length (rowO O) := row_same R3 (fun q hq => set_other _ _ _ _ _ (by have := (R3.lt q hq).1; have := S3.gv; omega))
        have HS4 := hidden S4
        have HR4 := hidden R4
        have c4 := S4.c1
        clear hb3 hg4 S2 R2 R3 S4 R4 hg3 hb2 cc1 RW SW hcv
        refine take_dst 6 (some 36) rfl rfl (by kernel_rfl) (by kernel_rfl) (by kernel_rfl) (fun _ _ _ h => h) (v := ?_) (Or.inl ⟨by rfl, ?_⟩) (by assumption) ?_
        rotate_left
        · (intro w hSw; (try dsimp only at hSw); go_simp; try with_reducible rfl)
        simp only [Act.put, List.setIfInBounds_toArray, List.set_cons_zero, List.set_cons_succ]
        refine wpAnyH_ready (rs := [7]) (by kernel_rfl) (by simp) ?_
        refine AllReadyH.cons rfl (fun K hK => ?_) AllReadyH.nil
        go_simp
        refine hK.out _ _ ⟨c4, e4⟩ (fun hHeld4 => ?_)
        clear hK K
        refine wpAnyH_done (by kernel_rfl) ?_ _
        generalize w3.setCell ⟨w.heap.size, k, none⟩ (.int .i64 (x.ch : Nat)) = w4 at *
        clear hHeld hHeld2 hHeld3 hHeld4 S3 e1 e2 e3 d3 f3 c1 c4 e4
        have c1 := HS4.out.c1
        have c2 := HS4.out.c2
        have cz := HS4.out.cz (j := k) (a := (x.ch : Nat)) (by rw [List.getElem?_set_self (by rw [HI.out.len]; exact hll)])
        have f2 := HS4.out.f2 0
        go_wp2_with fail
        go_region
        have hit := HI.out.text hll (HK.out.trans k1) (c := x.ch) (by rw [Hx.out])
        have H5 := (HS4.out.total (pre l (k + 1))).grown (grown_d _)
        have R5 := row_grown (row_same HR4.out (fun q hq => set_other w4 (V + 1) 0 (.int .i64 ((pre l (k + 1) : Nat) : Int)) q (by have := (HR4.out.lt q hq).1; omega))) (grown_d _) (by simp)
        have hpe : ((pre l (k + 1) : Nat) : Int) = (pre l k : Nat) + (x.ch : Nat) := by have := hit.2; omega
        rw [hpe] at H5 R5
        have HJ := hidden hit.1
        have H5 := hidden H5
        have R5 := hidden R5
        clear hit hpe c1 c2 cz f2
        go_wp2
        go_roundw
        case rel => exact ⟨k + 1, pv, _, P, O, hlt, by go_num, HJ.out, H5.out, R5.out⟩
        case measure => simp [intOf]; omega
      have z1 : ((y : Int) == 1) = false := by simp; omega
      by_cases k2 : y = 2
      · have z2 : ((y : Int) == 2) = true := by simp; omega
        have SW := SA.out #[.int .u8 2, .string (str x.tx), .int .i64 x.n, .int .i64 x.off, .bool x.col, .bool x.whole]
        have RW := RA.out #[.int .u8 2, .string (str x.tx), .int .i64 x.n, .int .i64 x.off, .bool x.col, .bool x.whole]
        have hMW : (wr.alloc (.cells #[.int .u8 2, .string (str x.tx), .int .i64 x.n, .int .i64 x.off, .bool x.col, .bool x.whole] 54)).heap[wr.heap.size]? = some (.cells #[.int .u8 2, .string (str x.tx), .int .i64 x.n, .int .i64 x.off, .bool x.col, .bool x.whole] 54 (0, 0)) := heap_alloc_new _ _
        have hKlt : wr.heap.size < (wr.alloc (.cells #[.int .u8 2, .string (str x.tx), .int .i64 x.n, .int .i64 x.off, .bool x.col, .bool x.whole] 54)).heap.size := by simp
        obtain ⟨f, hf⟩ : ∃ f, floorO O = f := ⟨_, rfl⟩
        have HF := hidden hf
        have nP : P.Nodup := (List.nodup_append.1 HI.out.nd).1
        have hPn : ∀ j ∈ P, j < n := fun j hj => Nat.lt_of_lt_of_le (HI.out.lt j (List.mem_append_left _ hj)) hk
        rcases List.eq_nil_or_concat O with hO | ⟨O', o, hO⟩
        · obtain rfl : f = 0 := by rw [← hf, hO]; rfl
          have hl0 : O.length = 0 := by rw [hO]; rfl
          have cs := settle_call SW (Nat.zero_le _) hPn hl1 (by omega) hpb nP Hzb.out
          rw [show ((0 : Nat) : Int) = 0 from rfl] at cs
          obtain ⟨va, vc, hu⟩ := row_slice RW
          rw [hl0] at hu
          subst hu
          clear hO hf nP hPn hl0 SA RA
          go_wp2_with fail
          refine cs.mono ?_
          clear cs x0 x1 x2 x3 x4 x5
          rintro e w5 ⟨rfl, ⟨pv', hS5⟩, hF5⟩
          generalize wr.alloc (.cells #[.int .u8 2, .string (str x.tx), .int .i64 x.n, .int .i64 x.off, .bool x.col, .bool x.whole] 54) = W at *
          generalize wr.heap.size = M at *
          have S5 := hS5
          have hM5 : w5.heap[M]? = W.heap[M]? := hF5 M hKlt (by have := hkz.out; have := S5.gv; omega) (by have := hkz.out; omega)
          have R5 : w5.ownsRow (V + 3) 107 2 (.slice va 0 vc) O.length (rowO O) := row_same RW (fun q hq => hF5 q (RW.lt q hq).2 (by have := (RW.lt q hq).1; have := S5.gv; omega) (by have := (RW.lt q hq).1; omega))
          have hI6 := HI.out.breaks hll (HK.out.trans k2) HF.out
          generalize settle ((pre l k : Nat) : Int) (P.drop 0) z = Z at *
          have hPl : (P.take 0).length ≤ 1500 := by rw [List.length_take]; omega
          generalize P.take 0 = P' at *
          have HI6 := hidden hI6
          have hZk : ∃ a, Z[k]? = some a := ⟨_, List.getElem?_eq_getElem (by rw [S5.len]; exact hlt)⟩
          obtain ⟨a0, hZk⟩ := hZk
          have c1 := S5.c1
          have c2 := S5.c2
          have cz := S5.cz hZk
          have fz := S5.f0 k
          have S6 := S5.setz k (-((pre l k : Nat) : Int))
          have c3 : (w5.setCell ⟨w.heap.size, k, none⟩ (.int .i64 (-((pre l k : Nat) : Int)))).cell? ⟨V + 1 + 1, 0, none⟩ = some pv' := S6.c3
          have S6a := S6.grown (grownBy_alloc _ (.cells #[.int .i64 (k : Nat)] 3))
          have hz5 : w5.heap.size = (w5.setCell ⟨w.heap.size, k, none⟩ (.int .i64 (-((pre l k : Nat) : Int)))).heap.size := by simp
          have H6a := hidden S6a
          have cn := cells_new (w5.setCell ⟨w.heap.size, k, none⟩ (.int .i64 (-((pre l k : Nat) : Int)))) 3 [.int .i64 (k : Nat)]
          rw [← hz5] at cn
          have hR5 := hidden R5
          have hown := S6a.prow
          have hV5 := S6a.bs
          have hs5 := S5.bs
          have hgv := S5.gv
          have hlo := S5.lo
          have hM6 : ((w5.setCell ⟨w.heap.size, k, none⟩ (.int .i64 (-((pre l k : Nat) : Int)))).alloc (.cells #[.int .i64 (k : Nat)] 3)).heap[M]? = W.heap[M]? := by
            rw [Below.heap_alloc _ _ _ (by rw [← hz5]; have := (Array.getElem?_eq_some_iff.1 (hM5.trans hMW)).1; exact this)]
            exact (set_other _ _ _ _ _ (by have := hkz.out; omega)).trans hM5
          have HM6 := hidden hM6
          clear hI6 S5 S6 S6a hZk hS5 hF5 hM5 R5 hM6 hPb hz5
          have hMW2 := hidden hMW
          have q3 : P'.length + 1 ≤ maxLen := by unfold maxLen; omega
          have q4 : (P'.length + 1) * 8 ≤ 140737488355328 := by omega
          go_wp2_with (at_builtin; refine wpList_append_own _ rfl _ _ 92 rfl (V + 3) 3 i3 (.int .i64 0) 1 8 Try.underlying92 hi3 hz3 hy3 hb3 rfl (by decide) _ _ _ rfl hown ⟨w5.heap.size, 0, none⟩ 1 1 [.int .i64 (k : Nat)] rfl rfl cn (one1 _ _) q3 q4 hV5 ?_)
          intro v' w7 hr7 hg7 _
          obtain ⟨ua, uc, rfl⟩ := row_slice hr7
          have S8 := H6a.out.wait (P' := P' ++ [k]) (by rw [List.length_append, List.length_singleton, ps_app]; exact hr7) hg7
          have hMW6 := HM6.out.trans hMW2.out
          have hM7 := (hg7.block M (Array.getElem?_eq_some_iff.1 hMW6).1 (fun e => row_head hown hMW6 (by decide) e.symm)).trans hMW6
          have hM8 := (set_other w7 (V + 2) 0 (.slice ua (P'.length + 1) uc) M (by have := hkz.out; omega)).trans hM7
          have hV7 := (hg7.block (V + 2) (by have := hV5; omega) (fun e => by have := (hown.lt _ e.symm).1; omega)).trans H6a.out.h3
          have d3 : w7.cell? ⟨V + 1 + 1, 0, none⟩ = some pv' := by
            show w7.cell? ⟨V + 2, 0, none⟩ = some pv'
            simp only [World.cell?, hV7]; rfl
          have f3 : w7.frozen? ⟨V + 1 + 1, 0, none⟩ = false := frozen_of_row w7 (V + 2) 0 _ 92 hV7
          have R6 := (row_same hR5.out (fun q hq => set_other w5 w.heap.size k (.int .i64 (-((pre l k : Nat) : Int))) q (by have := (hR5.out.lt q hq).1; omega))).alloc (.cells #[.int .i64 (k : Nat)] 3)
          have R7 := row_grown R6 hg7 (fun q hq => row_ne R6 hown (by decide) hq)
          have R8 := row_same R7 (fun q hq => set_other w7 (V + 2) 0 (.slice ua (P'.length + 1) uc) q (by have := (R7.lt q hq).1; omega))
          have c8 := S8.c2
          have f8 := S8.f2 0
          have n8 : (w7.setCell ⟨V + 2, 0, none⟩ (.slice ua (P'.length + 1) uc)).cell? ⟨M, 2, none⟩ = some (.int .i64 x.n) := by simp only [World.cell?, hM8]; rfl
          have HS8 := hidden S8
          have HR8 := hidden R8
          have hxn := HX.out.n
          have hpe : pre l (k + 1) = pre l k + x.n.toNat := by
            rw [pre_succ hll, Hx.out]
            have hy2 := HY.out.trans k2
            simp [It.own, hy2]
          have hp2 := Hok.out.pre (k + 1)
          have HPE := hidden hpe
          clear hr7 hg7 S8 hMW6 hM7 hM8 hV7 R6 R7 R8 hown cn hV5 c1 c2 cz fz c3 hpe
          have c8 : (w7.setCell ⟨V + 1 + 1, 0, none⟩ (.slice ua (P'.length + 1) uc)).cell? ⟨V + 1, 0, none⟩ = some (.int .i64 (pre l k : Nat)) := c8
          have n8 : (w7.setCell ⟨V + 1 + 1, 0, none⟩ (.slice ua (P'.length + 1) uc)).cell? ⟨M, 2, none⟩ = some (.int .i64 x.n) := n8
          have f8 : (w7.setCell ⟨V + 1 + 1, 0, none⟩ (.slice ua (P'.length + 1) uc)).frozen? ⟨V + 1, 0, none⟩ = false := f8
          have e8 : ((pre l k : Nat) : Int) + max x.n 0 = ((pre l (k + 1) : Nat) : Int) := by have := HPE.out; omega
          have S9 := HS8.out.total (pre l (k + 1))
          have R9 := row_same HR8.out (fun q hq => set_other (w7.setCell ⟨V + 2, 0, none⟩ (.slice ua (P'.length + 1) uc)) (V + 1) 0 (.int .i64 ((pre l (k + 1) : Nat) : Int)) q (by have := (HR8.out.lt q hq).1; omega))
          rw [← e8] at S9 R9
          have HS9 := hidden S9
          have HR9 := hidden R9
          clear S9 R9 e8
          go_wp2_with fail
          go_roundw
          case rel => exact ⟨k + 1, _, _, _, O, hlt, by go_num, HI6.out, HS9.out, HR9.out⟩
          case measure => simp [intOf]; omega
        · rw [List.concat_eq_append] at hO
          obtain rfl : o.2 = f := by rw [← hf, hO, floorO_snoc]
          have hof : o.2 ≤ P.length := (HI.out.opn O'.length o (by rw [hO]; simp)).2.2
          have cs := settle_call SW hof hPn hl1 (by omega) hpb nP Hzb.out
          have hOl : O.length = O'.length + 1 := by rw [hO]; simp
          obtain ⟨g, vc, hu, k5⟩ : ∃ g vc, u5 = .slice (some ⟨g, 0, none⟩) (O'.length + 1) vc ∧ (wr.alloc (.cells #[.int .u8 2, .string (str x.tx), .int .i64 x.n, .int .i64 x.off, .bool x.col, .bool x.whole] 54)).cell? ⟨g, O'.length * 2 + 1, none⟩ = some (.int .i64 (o.2 : Nat)) := by
            rcases RW.2 with ⟨e, h0⟩ | ⟨g, cp, cur, e, hbg, hg, hnc, hcm, hcs, ht⟩
            · omega
            · rw [hOl] at e
              refine ⟨g, cp, e, ?_⟩
              rw [e, ← hOl] at RW
              rw [RW.cellAt _ (by omega)]
              rw [(rowO_get O O'.length o (by rw [hO]; simp)).2]
          subst hu
          have hOb2 : O'.length ≤ 1500 := by omega
          generalize o.2 = f at *
          generalize O'.length = m at *
          clear hO hf nP hPn SA RA
          have HOl := hidden hOl
          clear hOl
          go_wp2_with fail
          refine cs.mono ?_
          clear cs x0 x1 x2 x3 x4 x5
          rintro e w5 ⟨rfl, ⟨pv', hS5⟩, hF5⟩
          generalize wr.alloc (.cells #[.int .u8 2, .string (str x.tx), .int .i64 x.n, .int .i64 x.off, .bool x.col, .bool x.whole] 54) = W at *
          generalize wr.heap.size = M at *
          clear k5
          have S5 := hS5
          have hM5 : w5.heap[M]? = W.heap[M]? := hF5 M hKlt (by have := hkz.out; have := S5.gv; omega) (by have := hkz.out; omega)
          have R5 : w5.ownsRow (V + 3) 107 2 (.slice (some ⟨g, 0, none⟩) (m + 1) vc) O.length (rowO O) := row_same RW (fun q hq => hF5 q (RW.lt q hq).2 (by have := (RW.lt q hq).1; have := S5.gv; omega) (by have := (RW.lt q hq).1; omega))
          have hI6 := HI.out.breaks hll (HK.out.trans k2) HF.out
          generalize settle ((pre l k : Nat) : Int) (P.drop f) z = Z at *
          have hPl : (P.take f).length ≤ 1500 := by rw [List.length_take]; omega
          generalize P.take f = P' at *
          have HI6 := hidden hI6
          have hZk : ∃ a, Z[k]? = some a := ⟨_, List.getElem?_eq_getElem (by rw [S5.len]; exact hlt)⟩
          obtain ⟨a0, hZk⟩ := hZk
          have c1 := S5.c1
          have c2 := S5.c2
          have cz := S5.cz hZk
          have fz := S5.f0 k
          have S6 := S5.setz k (-((pre l k : Nat) : Int))
          have c3 : (w5.setCell ⟨w.heap.size, k, none⟩ (.int .i64 (-((pre l k : Nat) : Int)))).cell? ⟨V + 1 + 1, 0, none⟩ = some pv' := S6.c3
          have S6a := S6.grown (grownBy_alloc _ (.cells #[.int .i64 (k : Nat)] 3))
          have hz5 : w5.heap.size = (w5.setCell ⟨w.heap.size, k, none⟩ (.int .i64 (-((pre l k : Nat) : Int)))).heap.size := by simp
          have H6a := hidden S6a
          have cn := cells_new (w5.setCell ⟨w.heap.size, k, none⟩ (.int .i64 (-((pre l k : Nat) : Int)))) 3 [.int .i64 (k : Nat)]
          rw [← hz5] at cn
          have hR5 := hidden R5
          have hown := S6a.prow
          have hV5 := S6a.bs
          have hs5 := S5.bs
          have hgv := S5.gv
          have hlo := S5.lo
          have hM6 : ((w5.setCell ⟨w.heap.size, k, none⟩ (.int .i64 (-((pre l k : Nat) : Int)))).alloc (.cells #[.int .i64 (k : Nat)] 3)).heap[M]? = W.heap[M]? := by
            rw [Below.heap_alloc _ _ _ (by rw [← hz5]; have := (Array.getElem?_eq_some_iff.1 (hM5.trans hMW)).1; exact this)]
            exact (set_other _ _ _ _ _ (by have := hkz.out; omega)).trans hM5
          have HM6 := hidden hM6
          clear hI6 S5 S6 S6a hZk hS5 hF5 hM5 R5 hM6 hPb hz5
          have hMW2 := hidden hMW
          have q3 : P'.length + 1 ≤ maxLen := by unfold maxLen; omega
          have q4 : (P'.length + 1) * 8 ≤ 140737488355328 := by omega
          go_wp2_with (at_builtin; refine wpList_append_own _ rfl _ _ 92 rfl (V + 3) 3 i3 (.int .i64 0) 1 8 Try.underlying92 hi3 hz3 hy3 hb3 rfl (by decide) _ _ _ rfl hown ⟨w5.heap.size, 0, none⟩ 1 1 [.int .i64 (k : Nat)] rfl rfl cn (one1 _ _) q3 q4 hV5 ?_)
          intro v' w7 hr7 hg7 _
          obtain ⟨ua, uc, rfl⟩ := row_slice hr7
          have S8 := H6a.out.wait (P' := P' ++ [k]) (by rw [List.length_append, List.length_singleton, ps_app]; exact hr7) hg7
          have hMW6 := HM6.out.trans hMW2.out
          have hM7 := (hg7.block M (Array.getElem?_eq_some_iff.1 hMW6).1 (fun e => row_head hown hMW6 (by decide) e.symm)).trans hMW6
          have hM8 := (set_other w7 (V + 2) 0 (.slice ua (P'.length + 1) uc) M (by have := hkz.out; omega)).trans hM7
          have hV7 := (hg7.block (V + 2) (by have := hV5; omega) (fun e => by have := (hown.lt _ e.symm).1; omega)).trans H6a.out.h3
          have d3 : w7.cell? ⟨V + 1 + 1, 0, none⟩ = some pv' := by
            show w7.cell? ⟨V + 2, 0, none⟩ = some pv'
            simp only [World.cell?, hV7]; rfl
          have f3 : w7.frozen? ⟨V + 1 + 1, 0, none⟩ = false := frozen_of_row w7 (V + 2) 0 _ 92 hV7
          have R6 := (row_same hR5.out (fun q hq => set_other w5 w.heap.size k (.int .i64 (-((pre l k : Nat) : Int))) q (by have := (hR5.out.lt q hq).1; omega))).alloc (.cells #[.int .i64 (k : Nat)] 3)
          have R7 := row_grown R6 hg7 (fun q hq => row_ne R6 hown (by decide) hq)
          have R8 := row_same R7 (fun q hq => set_other w7 (V + 2) 0 (.slice ua (P'.length + 1) uc) q (by have := (R7.lt q hq).1; omega))
          have c8 := S8.c2
          have f8 := S8.f2 0
          have n8 : (w7.setCell ⟨V + 2, 0, none⟩ (.slice ua (P'.length + 1) uc)).cell? ⟨M, 2, none⟩ = some (.int .i64 x.n) := by simp only [World.cell?, hM8]; rfl
          have HS8 := hidden S8
          have HR8 := hidden R8
          have hxn := HX.out.n
          have hpe : pre l (k + 1) = pre l k + x.n.toNat := by
            rw [pre_succ hll, Hx.out]
            have hy2 := HY.out.trans k2
            simp [It.own, hy2]
          have hp2 := Hok.out.pre (k + 1)
          have HPE := hidden hpe
          clear hr7 hg7 S8 hMW6 hM7 hM8 hV7 R6 R7 R8 hown cn hV5 c1 c2 cz fz c3 hpe
          have c8 : (w7.setCell ⟨V + 1 + 1, 0, none⟩ (.slice ua (P'.length + 1) uc)).cell? ⟨V + 1, 0, none⟩ = some (.int .i64 (pre l k : Nat)) := c8
          have n8 : (w7.setCell ⟨V + 1 + 1, 0, none⟩ (.slice ua (P'.length + 1) uc)).cell? ⟨M, 2, none⟩ = some (.int .i64 x.n) := n8
          have f8 : (w7.setCell ⟨V + 1 + 1, 0, none⟩ (.slice ua (P'.length + 1) uc)).frozen? ⟨V + 1, 0, none⟩ = false := f8
          have e8 : ((pre l k : Nat) : Int) + max x.n 0 = ((pre l (k + 1) : Nat) : Int) := by have := HPE.out; omega
          have S9 := HS8.out.total (pre l (k + 1))
          have R9 := row_same HR8.out (fun q hq => set_other (w7.setCell ⟨V + 2, 0, none⟩ (.slice ua (P'.length + 1) uc)) (V + 1) 0 (.int .i64 ((pre l (k + 1) : Nat) : Int)) q (by have := (HR8.out.lt q hq).1; omega))
          rw [← e8] at S9 R9
          have HS9 := hidden S9
          have HR9 := hidden R9
          clear S9 R9 e8
          go_wp2_with fail
          go_roundw
          case rel => exact ⟨k + 1, _, _, _, O, hlt, by go_num, HI6.out, HS9.out, HR9.out⟩
          case measure => simp [intOf]; omega
      have z2 : ((y : Int) == 2) = false := by simp; omega
      by_cases k3 : y = 3
      · have z3 : ((y : Int) == 3) = true := by simp; omega
        have SW := SA.out #[.int .u8 3, .string (str x.tx), .int .i64 x.n, .int .i64 x.off, .bool x.col, .bool x.whole]
        have RW := RA.out #[.int .u8 3, .string (str x.tx), .int .i64 x.n, .int .i64 x.off, .bool x.col, .bool x.whole]
        obtain ⟨va, vc, hu⟩ := row_slice RW
        obtain ⟨qa, qc, hq⟩ := row_slice SW.prow
        subst hu hq
        have hI6 := HI.out.begin hll (HK.out.trans k3)
        have hZk : ∃ a, z[k]? = some a := ⟨_, List.getElem?_eq_getElem (by rw [SW.len]; exact hlt)⟩
        obtain ⟨a0, hZk⟩ := hZk
        have c1 := SW.c1
        have c2 := SW.c2
        have cz := SW.cz hZk
        have fz := SW.f0 k
        have S6 := SW.setz k (-((pre l k : Nat) : Int))
        have c6 : ((wr.alloc (.cells #[.int .u8 3, .string (str x.tx), .int .i64 x.n, .int .i64 x.off, .bool x.col, .bool x.whole] 54)).setCell ⟨w.heap.size, k, none⟩ (.int .i64 (-((pre l k : Nat) : Int)))).cell? ⟨V + 1 + 1, 0, none⟩ = some (.slice qa P.length qc) := S6.c3
        have R6 := row_same RW (fun q hq => set_other _ w.heap.size k (.int .i64 (-((pre l k : Nat) : Int))) q (by have := (RW.lt q hq).1; have := SW.gv; omega))
        have S6a := S6.grown (grownBy_alloc _ (.cells #[.int .i64 (k : Nat), .int .i64 (P.length : Nat)] 107))
        have hown := R6.alloc (.cells #[.int .i64 (k : Nat), .int .i64 (P.length : Nat)] 107)
        have cn := cells_new ((wr.alloc (.cells #[.int .u8 3, .string (str x.tx), .int .i64 x.n, .int .i64 x.off, .bool x.col, .bool x.whole] 54)).setCell ⟨w.heap.size, k, none⟩ (.int .i64 (-((pre l k : Nat) : Int)))) 107 [.int .i64 (k : Nat), .int .i64 (P.length : Nat)]
        have hz5 : ((wr.alloc (.cells #[.int .u8 3, .string (str x.tx), .int .i64 x.n, .int .i64 x.off, .bool x.col, .bool x.whole] 54)).setCell ⟨w.heap.size, k, none⟩ (.int .i64 (-((pre l k : Nat) : Int)))).heap.size = wr.heap.size + 1 := by simp
        rw [hz5] at cn
        have q3 : O.length + 1 ≤ maxLen := by unfold maxLen; omega
        have q4 : (O.length + 1) * 16 ≤ 140737488355328 := by omega
        have hV5 := S6a.bs
        have HS6 := hidden S6a
        have HI6 := hidden hI6
        clear hI6 SW RW hZk S6 S6a R6 hz5 SA RA
        go_wp2_with (at_builtin; refine wpList_append_own _ rfl _ _ 104 rfl (V + 3) 107 i51 (.agg #[.int .i64 0, .int .i64 0]) 2 16 Try.underlying104 hi51 hz51 hy51 hb51 rfl (by decide) _ _ _ rfl hown ⟨wr.heap.size + 1, 0, none⟩ 1 1 [.int .i64 (k : Nat), .int .i64 (P.length : Nat)] rfl rfl cn (one2 _ _ _) q3 q4 hV5 ?_)
        intro v' w7 hr7 hg7 _
        have S7 := HS6.out.other hg7 (fun q hq => ⟨(hown.lt q hq).1, fun e => row_ne HS6.out.prow hown (by decide) e hq⟩)
        have HS7 := hidden S7
        have HR7 : Hid (w7.ownsRow (V + 3) 107 2 v' (O ++ [(k, P.length)]).length (rowO (O ++ [(k, P.length)]))) := by
          unfold Hid
          rw [List.length_append, List.length_singleton, rowO_app]
          exact hr7
        clear hr7 hg7 S7 hown cn hV5 c1 c2 cz fz c6 x0 x1 x2 x3 x4 x5
        go_wp2_with fail
        go_roundw
        case rel =>
          refine ⟨k + 1, .slice qa P.length qc, _, P, _, hlt, by go_num, HI6.out.1, ?_, HR7.out⟩
          rw [HI6.out.2]
          exact HS7.out
        case measure => simp [intOf]; omega
      have z3 : ((y : Int) == 3) = false := by simp; omega
      by_cases k4 : y = 4
      · have z4 : ((y : Int) == 4) = true := by simp; omega
        have SW := SA.out #[.int .u8 4, .string (str x.tx), .int .i64 x.n, .int .i64 x.off, .bool x.col, .bool x.whole]
        have RW := RA.out #[.int .u8 4, .string (str x.tx), .int .i64 x.n, .int .i64 x.off, .bool x.col, .bool x.whole]
        rcases List.eq_nil_or_concat O with hO | ⟨O', o, hO⟩
        · obtain ⟨va, vc, hu⟩ := row_slice RW
          have hl0 : O.length = 0 := by rw [hO]; rfl
          rw [hl0] at hu
          subst hu
          have hI := HI.out
          rw [hO] at hI
          have hI6 := hI.end0 hll (HK.out.trans k4)
          have HI6 := hidden hI6
          have HSW := hidden SW
          have HRW : Hid ((wr.alloc (.cells #[.int .u8 4, .string (str x.tx), .int .i64 x.n, .int .i64 x.off, .bool x.col, .bool x.whole] 54)).ownsRow (V + 3) 107 2 (.slice va 0 vc) ([] : List (Nat × Nat)).length (rowO [])) := by
            rw [hO] at RW
            exact RW
          clear hO hI hI6 SW RW hl0 SA RA
          go_wp2_with fail
          go_roundw
          case rel =>
            refine ⟨k + 1, pv, _, P, [], hlt, by go_num, HI6.out.1, ?_, HRW.out⟩
            rw [HI6.out.2]
            exact HSW.out
          case measure => simp [intOf]; omega
        · rw [List.concat_eq_append] at hO
          subst hO
          have hI6 := HI.out.end1 hll (HK.out.trans k4)
          have hOb2 : O'.length ≤ 1500 := by simp at hOb; omega
          obtain ⟨g, vc, hu, hvc, hk5⟩ : ∃ g vc, u5 = .slice (some ⟨g, 0, none⟩) (O'.length + 1) vc ∧ O'.length + 1 ≤ vc ∧ ∀ u : World, u.ownsRow (V + 3) 107 2 (.slice (some ⟨g, 0, none⟩) (O'.length + 1) vc) (O' ++ [o]).length (rowO (O' ++ [o])) → u.cell? ⟨g, O'.length * 2, none⟩ = some (.int .i64 (o.1 : Nat)) := by
            rcases RW.2 with ⟨e, h0⟩ | ⟨g, cp, cur, e, hbg, hg, hnc, hcm, hcs, ht⟩
            · simp at h0
            · rw [List.length_append, List.length_singleton] at e
              refine ⟨g, cp, e, by simp at hnc; exact hnc, fun u hu => ?_⟩
              have hu' : u.ownsRow (V + 3) 107 2 (.slice (some ⟨g, 0, none⟩) (O' ++ [o]).length cp) (O' ++ [o]).length (rowO (O' ++ [o])) := by rw [List.length_append, List.length_singleton] at hu ⊢; exact hu
              rw [hu'.cellAt _ (by simp)]
              rw [(rowO_get (O' ++ [o]) O'.length o (by simp)).1]
          subst hu
          have HK5 := hidden hk5
          have HI6 := hidden hI6
          have HSW := hidden SW
          have HRW := hidden RW
          obtain ⟨qa, qc, hq⟩ := row_slice SW.prow
          subst hq
          have hOl : (O' ++ [o]).length = O'.length + 1 := by simp
          rw [hOl] at hOb
          obtain ⟨o1, ho1⟩ : ∃ o1, o.1 = o1 := ⟨_, rfl⟩
          rw [ho1] at HK5 HI6
          clear hk5 hI6 SW RW SA RA hOl ho1
          go_wp2_with fail
          clear x0 x1 x2 x3 x4 x5
          generalize wr.alloc (.cells #[.int .u8 4, .string (str x.tx), .int .i64 x.n, .int .i64 x.off, .bool x.col, .bool x.whole] 54) = W at *
          generalize wr.heap.size = M at *
          generalize hm : O'.length = m at *
          have Hm := hidden hm
          clear hm
          have kW := HK5.out _ HRW.out
          have wrm : IntKind.i64.wrap (m : Int) = (m : Int) := IntWalk.i64_in _ (by omega)
          have hlm : (m : Int) < (m : Int) + 1 := by omega
          have hmn : (0 : Int) ≤ (m : Int) := by omega
          refine wp_region_held_drew (S := (fun u => u.cell? ⟨g, m * 2, none⟩ = some (.int .i64 (o1 : Nat)))) (by kernel_rfl) kW (fun hHeld => ?_)
          refine take_dst 1 (some 93) rfl rfl (by kernel_rfl) (by kernel_rfl) (by kernel_rfl) (fun _ _ _ h => h) (v := ?_) (Or.inl ⟨by rfl, ?_⟩) (by assumption) ?_
          rotate_left
          · (intro w hSw; (try dsimp only at hSw); go_simp; try with_reducible rfl)
          simp only [Act.put, List.setIfInBounds_toArray, List.set_cons_zero, List.set_cons_succ]
          refine take_dst 2 (some 94) rfl rfl (by kernel_rfl) (by kernel_rfl) (by kernel_rfl) (fun _ _ _ h => h) (v := ?_) (Or.inl ⟨by rfl, ?_⟩) (by assumption) ?_
          rotate_left
          · (intro w hSw; (try dsimp only at hSw); go_simp; try with_reducible rfl)
          simp only [Act.put, List.setIfInBounds_toArray, List.set_cons_zero, List.set_cons_succ]
          refine take_dst 3 (some 95) rfl rfl (by kernel_rfl) (by kernel_rfl) (by kernel_rfl) (fun _ _ _ h => h) (v := ?_) (Or.inl ⟨by rfl, ?_⟩) (by assumption) ?_
          rotate_left
          · (intro w hSw; (try dsimp only at hSw); go_simp; try with_reducible rfl)
          simp only [Act.put, List.setIfInBounds_toArray, List.set_cons_zero, List.set_cons_succ]
          refine take_dst 4 (some 96) rfl rfl (by kernel_rfl) (by kernel_rfl) (by kernel_rfl) (fun _ _ _ h => h) (v := ?_) (Or.inl ⟨by rfl, ?_⟩) (by assumption) ?_
          rotate_left
          · (intro w hSw; (try dsimp only at hSw); go_simp; try with_reducible rfl)
          simp only [Act.put, List.setIfInBounds_toArray, List.set_cons_zero, List.set_cons_succ]
          refine take_dst 5 (some 97) rfl rfl (by kernel_rfl) (by kernel_rfl) (by kernel_rfl) (fun _ _ _ h => h) (v := ?_) (Or.inl ⟨by rfl, ?_⟩) (by assumption) ?_
          rotate_left
          · (intro w hSw; (try dsimp only at hSw); go_simp; try with_reducible rfl)
          simp only [Act.put, List.setIfInBounds_toArray, List.set_cons_zero, List.set_cons_succ]
          refine take_dst 6 (some 98) rfl rfl (by kernel_rfl) (by kernel_rfl) (by kernel_rfl) (fun _ _ _ h => h) (v := ?_) (Or.inl ⟨by rfl, ?_⟩) (by assumption) ?_
          rotate_left
          · (intro w hSw; (try dsimp only at hSw); go_simp; try with_reducible rfl)
          simp only [Act.put, List.setIfInBounds_toArray, List.set_cons_zero, List.set_cons_succ]
          have HSd := hidden (HSW.out.grown (grown_d W))
          have HRd := hidden (row_grown HRW.out (grown_d W) (by simp))
          clear HSW HRW
          generalize W.drew = Wd at *
          have d3 : Wd.cell? ⟨V + 1 + 1, 0, none⟩ = some (.slice qa P.length qc) := HSd.out.c3
          have HSA := hidden (HSd.out.grown (grownBy_alloc Wd (.cells #[.int .i64 (o1 : Nat)] 3)))
          have HRA := hidden (HRd.out.alloc (.cells #[.int .i64 (o1 : Nat)] 3))
          have e3 : (Wd.alloc (.cells #[.int .i64 (o1 : Nat)] 3)).cell? ⟨V + 1 + 1, 0, none⟩ = some (.slice qa P.length qc) := HSA.out.c3
          have kA := HK5.out _ HRA.out
          have kd5 := HK5.out _ HRd.out
          refine wpAnyH_ready (rs := [0, 7]) (by kernel_rfl) (by simp) ?_
          refine AllReadyH.cons rfl (fun K hK => ?_) (AllReadyH.cons rfl (fun K hK => ?_) AllReadyH.nil)
          · go_simp
            refine hK.out _ _ kd5 (fun hHeld1 => ?_)
            clear hK K hHeld1 e3 d3
            refine wpAnyH_ready (rs := [7]) (by kernel_rfl) (by simp) ?_
            refine AllReadyH.cons rfl (fun K hK => ?_) AllReadyH.nil
            go_simp
            refine hK.out _ _ kA (fun hHeld2 => ?_)
            clear hK K hHeld2 kA kd5 hHeld kW
            refine wpAnyH_ready (rs := [8]) (by kernel_rfl) (by simp) ?_
            refine AllReadyH.cons rfl (fun K hK => ?_) AllReadyH.nil
            refine step_append_wh rfl (.tmp 92) (.tmp 99) 92 rfl (V + 3) 3 i3 (.int .i64 0) 1 8 Try.underlying92 hi3 hz3 hy3 hb3 rfl (by decide) (.slice qa P.length qc) P.length (ps P) (by simp [Act.eval]) HSA.out.prow ⟨Wd.heap.size, 0, none⟩ 1 1 [.int .i64 (o1 : Nat)] (by simp [Act.eval]) rfl (cells_new Wd 3 [.int .i64 (o1 : Nat)]) (one1 _ _) (by unfold maxLen; omega) (by omega) HSA.out.bs (by decide) ?_
            intro v' w7 hr7 hg7 _
            obtain ⟨ua, uc, rfl⟩ := row_slice hr7.out
            have S8 := HSA.out.wait (P' := P ++ [o1]) (by rw [List.length_append, List.length_singleton, ps_app]; exact hr7.out) hg7.out
            have hV7 := (hg7.out.block (V + 2) (by have := HSA.out.bs; omega) (fun e => by have := (HSA.out.prow.lt _ e.symm).1; omega)).trans HSA.out.h3
            have d3 : w7.cell? ⟨V + 1 + 1, 0, none⟩ = some (.slice qa P.length qc) := by
              show w7.cell? ⟨V + 2, 0, none⟩ = some (.slice qa P.length qc)
              simp only [World.cell?, hV7]; rfl
            have f3 : w7.frozen? ⟨V + 1 + 1, 0, none⟩ = false := frozen_of_row w7 (V + 2) 0 _ 92 hV7
            have R7 := row_grown HRA.out hg7.out (fun q hq => row_ne HRA.out HSA.out.prow (by decide) hq)
            have R8 := row_same R7 (fun q hq => set_other w7 (V + 2) 0 (.slice ua (P.length + 1) uc) q (by have := (R7.lt q hq).1; omega))
            have k7 := HK5.out _ R7
            have k8 := HK5.out _ R8
            have HS8 := hidden S8
            have HR8 := hidden (rowO_cut R8)
            clear hr7 hg7 hV7 R7 R8 S8
            refine hK.out _ _ k7 (fun hHeld3 => ?_)
            clear hK K
            refine wpAnyH_ready (rs := [9]) (by kernel_rfl) (by simp) ?_
            refine AllReadyH.cons rfl (fun K hK => ?_) AllReadyH.nil
            go_simp
            refine hK.out _ _ k8 (fun hHeld4 => ?_)
            clear hK K
            refine wpAnyH_done (by kernel_rfl) ?_ _
            clear hHeld3 hHeld4 k7 k8 d3 f3
            go_wp2_with fail
            go_roundw
            case rel =>
              refine ⟨k + 1, .slice ua (P.length + 1) uc, _, _, O', hlt, by go_num, HI6.out.1, ?_, ?_⟩
              · rw [HI6.out.2]
                exact HS8.out
              · have h8 := HR8.out
                rw [Hm.out] at h8 ⊢
                exact h8
            case measure => simp [intOf]; omega
          · go_simp
            refine hK.out _ _ kA (fun hHeld1 => ?_)
            clear hK K hHeld1 d3
            refine wpAnyH_ready (rs := [0]) (by kernel_rfl) (by simp) ?_
            refine AllReadyH.cons rfl (fun K hK => ?_) AllReadyH.nil
            go_simp
            refine hK.out _ _ kA (fun hHeld2 => ?_)
            clear hK K hHeld2 kA kd5 hHeld kW e3
            refine wpAnyH_ready (rs := [8]) (by kernel_rfl) (by simp) ?_
            refine AllReadyH.cons rfl (fun K hK => ?_) AllReadyH.nil
            refine step_append_wh rfl (.tmp 92) (.tmp 99) 92 rfl (V + 3) 3 i3 (.int .i64 0) 1 8 Try.underlying92 hi3 hz3 hy3 hb3 rfl (by decide) (.slice qa P.length qc) P.length (ps P) (by simp [Act.eval]) HSA.out.prow ⟨Wd.heap.size, 0, none⟩ 1 1 [.int .i64 (o1 : Nat)] (by simp [Act.eval]) rfl (cells_new Wd 3 [.int .i64 (o1 : Nat)]) (one1 _ _) (by unfold maxLen; omega) (by omega) HSA.out.bs (by decide) ?_
            intro v' w7 hr7 hg7 _
            obtain ⟨ua, uc, rfl⟩ := row_slice hr7.out
            have S8 := HSA.out.wait (P' := P ++ [o1]) (by rw [List.length_append, List.length_singleton, ps_app]; exact hr7.out) hg7.out
            have hV7 := (hg7.out.block (V + 2) (by have := HSA.out.bs; omega) (fun e => by have := (HSA.out.prow.lt _ e.symm).1; omega)).trans HSA.out.h3
            have d3 : w7.cell? ⟨V + 1 + 1, 0, none⟩ = some (.slice qa P.length qc) := by
              show w7.cell? ⟨V + 2, 0, none⟩ = some (.slice qa P.length qc)
              simp only [World.cell?, hV7]; rfl
            have f3 : w7.frozen? ⟨V + 1 + 1, 0, none⟩ = false := frozen_of_row w7 (V + 2) 0 _ 92 hV7
            have R7 := row_grown HRA.out hg7.out (fun q hq => row_ne HRA.out HSA.out.prow (by decide) hq)
            have R8 := row_same R7 (fun q hq => set_other w7 (V + 2) 0 (.slice ua (P.length + 1) uc) q (by have := (R7.lt q hq).1; omega))
            have k7 := HK5.out _ R7
            have k8 := HK5.out _ R8
            have HS8 := hidden S8
            have HR8 := hidden (rowO_cut R8)
            clear hr7 hg7 hV7 R7 R8 S8
            refine hK.out _ _ k7 (fun hHeld3 => ?_)
            clear hK K
            refine wpAnyH_ready (rs := [9]) (by kernel_rfl) (by simp) ?_
            refine AllReadyH.cons rfl (fun K hK => ?_) AllReadyH.nil
            go_simp
            refine hK.out _ _ k8 (fun hHeld4 => ?_)
            clear hK K
            refine wpAnyH_done (by kernel_rfl) ?_ _
            clear hHeld3 hHeld4 k7 k8 d3 f3
            go_wp2_with fail
            go_roundw
            case rel =>
              refine ⟨k + 1, .slice ua (P.length + 1) uc, _, _, O', hlt, by go_num, HI6.out.1, ?_, ?_⟩
              · rw [HI6.out.2]
                exact HS8.out
              · have h8 := HR8.out
                rw [Hm.out] at h8 ⊢
                exact h8
            case measure => simp [intOf]; omega
      have z4 : ((y : Int) == 4) = false := by simp; omega
      have hI6 := HI.out.other hll (by rw [HK.out]; exact k1) (by rw [HK.out]; exact k2) (by rw [HK.out]; exact k3) (by rw [HK.out]; exact k4)
      have hpe : pre l (k + 1) = pre l k := by
        have := pre_succ hll
        rw [Hx.out] at this
        have ho : x.own = 0 := by
          have := HY.out
          unfold It.own
          rw [if_neg (by omega), if_neg (by omega)]
        rw [this, ho]
        rfl
      have HI6 := hidden hI6
      have hs := fun cs => SA.out cs
      rw [← hpe] at hs
      have HS := hidden hs
      clear hI6 hpe hs SA
      go_wp2_with fail
      go_roundw
      case rel => exact ⟨k + 1, _, _, P, O, hlt, by go_num, HI6.out, HS.out _, RA.out _⟩
      case measure => simp [intOf]; omega
    · have hkn : k = n := by omega
      have hlz : ¬ ((k : Int) < (n : Int)) := by omega
      have hIl : Inv l l.length z P O := by rw [Hn.out, ← hkn]; exact I
      have HIl := hidden hIl
      have HS := hidden S
      have HR := hidden R
      obtain ⟨T, hT⟩ : ∃ T, pre l k = T := ⟨_, rfl⟩
      have hT2 : pre l l.length = T := by rw [Hn.out, ← hkn]; exact hT
      have HT := hidden hT2
      rw [hT] at hpb HS
      have hTb : T ≤ 1572864000 := hpb
      obtain ⟨va, vc, hu⟩ := row_slice R
      have Hzb := hidden hzb
      clear hIl S R hT hT2 hkn I hbel hzb hpb
      subst hu
      go_wp2_with fail
      clear hlz
      go_loopw [108] (fun i wr => ∃ (q : Nat) (pq : Value), q ≤ O.length ∧ i = .int .i64 (q : Nat) ∧ SZ w.heap.size w.heap.size V w wr n pq T z (P ++ (O.take q).map Prod.fst) ∧ wr.ownsRow (V + 3) 107 2 (.slice va O.length vc) O.length (rowO O)) (fun i _ => O.length - (intOf i).toNat)
      case atStart => exact ⟨0, _, Nat.zero_le _, rfl, by simpa using HS.out, HR.out⟩
      case round =>
        obtain ⟨q, pq, hq, rfl, S2, R2⟩ := hrel
        by_cases hql : q < O.length
        · have hlz : (q : Int) < (O.length : Int) := by omega
          obtain ⟨o, ho⟩ : ∃ o, O[q]? = some o := ⟨_, List.getElem?_eq_getElem hql⟩
          obtain ⟨ro1, ro2⟩ := rowO_get O q o ho
          obtain ⟨g, rfl⟩ : ∃ g, va = some ⟨g, 0, none⟩ := by
            rcases R2.2 with ⟨e, h0⟩ | ⟨g, cp, cur, e, hbg, hg, hnc, hcm, hcs, ht⟩
            · omega
            · injection e with e1
              exact ⟨g, e1⟩
          have k1 : wr.cell? ⟨g, q * 2, none⟩ = some (.int .i64 (o.1 : Nat)) := by rw [R2.cellAt _ (by omega)]; exact ro1
          have k2 : wr.cell? ⟨g, q * 2 + 1, none⟩ = some (.int .i64 (o.2 : Nat)) := by rw [R2.cellAt _ (by omega)]; exact ro2
          have hts : (O.take (q + 1)).map Prod.fst = (O.take q).map Prod.fst ++ [o.1] := by rw [List.take_add_one, ho, List.map_append]; rfl
          have hPl : (P ++ (O.take q).map Prod.fst).length ≤ 3000 := by rw [List.length_append, List.length_map, List.length_take]; omega
          have Hts : Hid (P ++ (O.take (q + 1)).map Prod.fst = P ++ (O.take q).map Prod.fst ++ [o.1]) := by unfold Hid; rw [hts, List.append_assoc]
          clear hts ho ro1 ro2
          generalize P ++ (O.take q).map Prod.fst = P' at *
          generalize o.1 = o1 at *
          generalize o.2 = o2 at *
          have S3 := S2.grown (grownBy_alloc wr (.cells #[.int .i64 (o1 : Nat), .int .i64 (o2 : Nat)] 107))
          have R3 := R2.alloc (.cells #[.int .i64 (o1 : Nat), .int .i64 (o2 : Nat)] 107)
          have S4 := S3.grown (grownBy_alloc _ (.cells #[.int .i64 (o1 : Nat)] 3))
          have R4 := R3.alloc (.cells #[.int .i64 (o1 : Nat)] 3)
          obtain ⟨qa, qc, hqv⟩ := row_slice S2.prow
          subst hqv
          have c3 : (wr.alloc (.cells #[.int .i64 (o1 : Nat), .int .i64 (o2 : Nat)] 107)).cell? ⟨V + 1 + 1, 0, none⟩ = some (.slice qa P'.length qc) := S3.c3
          have cn := cells_new (wr.alloc (.cells #[.int .i64 (o1 : Nat), .int .i64 (o2 : Nat)] 107)) 3 [.int .i64 (o1 : Nat)]
          rw [World.size_alloc] at cn
          have q3 : P'.length + 1 ≤ maxLen := by unfold maxLen; omega
          have q4 : (P'.length + 1) * 8 ≤ 140737488355328 := by omega
          have hown := S4.prow
          have hV5 := S4.bs
          have HS4 := hidden S4
          have HR4 := hidden R4
          clear S2 R2 S3 R3 S4 R4
          go_wp2_with (at_builtin; refine wpList_append_own _ rfl _ _ 92 rfl (V + 3) 3 i3 (.int .i64 0) 1 8 Try.underlying92 hi3 hz3 hy3 hb3 rfl (by decide) _ _ _ rfl hown ⟨wr.heap.size + 1, 0, none⟩ 1 1 [.int .i64 (o1 : Nat)] rfl rfl cn (one1 _ _) q3 q4 hV5 ?_)
          intro v' w7 hr7 hg7 _
          obtain ⟨ua, uc, rfl⟩ := row_slice hr7
          have S8 := HS4.out.wait (P' := P' ++ [o1]) (by rw [List.length_append, List.length_singleton, ps_app]; exact hr7) hg7
          have hV7 := (hg7.block (V + 2) (by have := hV5; omega) (fun e => by have := (hown.lt _ e.symm).1; omega)).trans HS4.out.h3
          have d3 : w7.cell? ⟨V + 1 + 1, 0, none⟩ = some (.slice qa P'.length qc) := by
            show w7.cell? ⟨V + 2, 0, none⟩ = some (.slice qa P'.length qc)
            simp only [World.cell?, hV7]; rfl
          have f3 : w7.frozen? ⟨V + 1 + 1, 0, none⟩ = false := frozen_of_row w7 (V + 2) 0 _ 92 hV7
          have R7 := row_grown HR4.out hg7 (fun q hq => row_ne HR4.out hown (by decide) hq)
          have R8 := row_same R7 (fun q hq => set_other w7 (V + 2) 0 (.slice ua (P'.length + 1) uc) q (by have := (R7.lt q hq).1; omega))
          have HS8 := hidden S8
          have HR8 := hidden R8
          clear hr7 hg7 hV7 R7 R8 S8 hown cn hV5 c3 k1 k2
          go_wp2_with fail
          go_roundw
          case rel => exact ⟨q + 1, .slice ua (P'.length + 1) uc, hql, by go_num, by rw [Hts.out]; exact HS8.out, HR8.out⟩
          case measure => simp [intOf]; omega
        · have hlz : ¬ ((q : Int) < (O.length : Int)) := by omega
          have hto : O.take q = O := List.take_of_length_le (by omega)
          rw [hto] at S2
          have hPl : (P ++ O.map Prod.fst).length ≤ 3000 := by rw [List.length_append, List.length_map]; omega
          have hPn : ∀ j ∈ P ++ O.map Prod.fst, j < n := fun j hj => by have := HIl.out.lt j hj; rw [Hn.out] at this; exact this
          have cs := settle_call S2 (Nat.zero_le _) hPn hl1 hPl hTb HIl.out.nd Hzb.out
          rw [show ((0 : Nat) : Int) = 0 from rfl, List.drop_zero] at cs
          clear S2 R2 hto hPn hPl
          go_wp2_with fail
          refine cs.mono ?_
          clear cs
          rintro e w5 ⟨rfl, ⟨pv', hS5⟩, hF5⟩
          have c1 := hS5.c1
          have HS5 := hidden hS5
          clear hS5 hF5
          go_wp2_with fail
          go_ret
          have hzl : (settle ((T : Nat) : Int) (P ++ O.map Prod.fst) z) = szs l := by
            apply List.ext_getElem?
            intro j
            by_cases hj : j < l.length
            · rw [szs_get l hj, ← HT.out]
              exact HIl.out.all j hj
            · rw [List.getElem?_eq_none (by rw [HS5.out.len, ← Hn.out]; omega), List.getElem?_eq_none (by rw [szs_len]; omega)]
          have h5 := HS5.out
          rw [hzl] at h5
          refine ⟨_, rfl, ⟨some ⟨w.heap.size, 0, none⟩, n, ?_, by rw [szs_len, Hn.out]; exact Nat.le_refl _, fun _ => ⟨_, _, rfl, h5.h0, fun j x hj => by simp [zs, hj]⟩⟩, h5.bel⟩
          rw [szs_len, Hn.out]
          rfl
end Go.Proofs.PlatenLayout

/- The printer in memory; what its builder's methods come to. -/
namespace Go.Proofs.PlatenLayout
open Go Go.RowKit Go.Shelf
set_option linter.unusedVariables false
set_option maxRecDepth 100000

def bc (l : List Nat) : List Value := l.map fun c => Value.int .u8 (c : Nat)
theorem bc_len (l : List Nat) : (bc l).length = l.length := by simp [bc]
theorem bc_app (a b : List Nat) : bc (a ++ b) = bc a ++ bc b := by simp [bc]
theorem strCells_str (l : List Nat) (h : ∀ c ∈ l, c < 256) : Lib.strCells (str l) = bc l := by
  unfold Lib.strCells str bc
  simp only [List.map_map]
  apply List.map_congr_left
  intro c hc
  have := h c hc
  simp
  omega
def rowG (G : List Gr) : List Value := G.flatMap fun g => [.int .i64 g.ind, .bool g.flat, .bool g.whole]
theorem rowG_app (a b : List Gr) : rowG (a ++ b) = rowG a ++ rowG b := by simp [rowG]
theorem rowG_len (G : List Gr) : (rowG G).length = G.length * 3 := by
  induction G with
  | nil => rfl
  | cons x r ih => show ([_, _, _] ++ rowG r).length = _; rw [List.length_append, ih]; simp only [List.length_cons, List.length_nil]; omega
theorem rowG_last (G : List Gr) (g : Gr) : (rowG (G ++ [g]))[G.length * 3]? = some (.int .i64 g.ind) ∧ (rowG (G ++ [g]))[G.length * 3 + 1]? = some (.bool g.flat) ∧ (rowG (G ++ [g]))[G.length * 3 + 2]? = some (.bool g.whole) := by
  have hl := rowG_len G
  rw [rowG_app]
  refine ⟨?_, ?_, ?_⟩
  · rw [List.getElem?_append_right (by omega), hl, Nat.sub_self]; rfl
  · rw [List.getElem?_append_right (by omega), hl, show G.length * 3 + 1 - G.length * 3 = 1 by omega]; rfl
  · rw [List.getElem?_append_right (by omega), hl, show G.length * 3 + 2 - G.length * 3 = 2 by omega]; rfl
theorem rowG_cut {w : World} {a : Option Addr} {k cap C : Nat} {O : List Gr} {o : Gr} (h : w.ownsRow C 120 3 (.slice a k cap) (O ++ [o]).length (rowG (O ++ [o]))) : w.ownsRow C 120 3 (.slice a O.length cap) O.length (rowG O) := by
  rcases h.2 with ⟨e, h0⟩ | ⟨g, cp, cur, e, hbg, hg, hnc, hcm, hcs, ht⟩
  · simp at h0
  · injection e with e1 e2 e3
    subst e1 e3
    simp only [List.length_append, List.length_singleton] at hnc ht
    refine ⟨rowG_len O, Or.inr ⟨g, _, cur, rfl, hbg, hg, by omega, hcm, hcs, ?_⟩⟩
    have := congrArg (List.take (O.length * 3)) ht
    rw [List.take_take, rowG_app, List.take_left' (rowG_len O)] at this
    rw [show O.length * 3 = min (O.length * 3) ((O.length + 1) * 3) by omega, this]

/-- All rows of integers stand. -/
def Kept3 (w w' : World) : Prop := ∀ (k : Nat) (x : Array Value), w.heap[k]? = some (Obj.cells x 3 (0, 0)) → w'.heap[k]? = some (Obj.cells x 3 (0, 0))
theorem Kept3.set {w w' : World} (h : Kept3 w w') {K : Nat} {c : Array Value} {t : TypeId} (hK : w'.heap[K]? = some (.cells c t (0, 0))) (ht : t ≠ 3) (j : Nat) (u : Value) : Kept3 w (w'.setCell ⟨K, j, none⟩ u) := fun k x a => by
  have h1 := h k x a
  exact (set_other _ _ _ _ _ (fun e => by rw [e, hK] at h1; simp only [Option.some.injEq, Obj.cells.injEq] at h1; exact ht h1.2.1)).trans h1
theorem Kept3.row {w w' w'' : World} (h : Kept3 w w') {B n s : Nat} {e : TypeId} {v : Value} {xs : List Value} (hr : w'.ownsRow B e s v n xs) (he : e ≠ 3) (hg : w'.grownBy w'' v.ownBlock) : Kept3 w w'' := fun k x a => by
  have h1 := h k x a
  exact (hg.block k (Array.getElem?_eq_some_iff.1 h1).1 (fun q => row_head hr h1 he q.symm)).trans h1
theorem Kept3.none {w w' w'' : World} (h : Kept3 w w') (hg : w'.grownBy w'' none) : Kept3 w w'' := fun k x a => (hg.block k (Array.getElem?_eq_some_iff.1 (h k x a)).1 (by simp)).trans (h k x a)
/-- The printer at block K: its builder's address and bytes, its width, the column, the groups, the innermost last. -/
structure PR (B K : Nat) (w0 w : World) (p bv gv : Value) (wd col : Int) (bs : List Nat) (G : List Gr) : Prop where
  low : B ≤ K
  sz : B ≤ w.heap.size
  head : w.heap[K]? = some (.cells #[p, bv, .int .i64 wd, .int .i64 col, gv] 91 (0, 0))
  hp : p = .pointer none ∨ p = .pointer (some ⟨K, 0, none⟩)
  brow : w.ownsRow B 5 1 bv bs.length (bc bs)
  grow : w.ownsRow B 120 3 gv G.length (rowG G)
  bel : Below B w0 w
  nil : bs = [] → bv = .slice none 0 0
  k3 : Kept3 w0 w
section
variable {B K : Nat} {w0 w w' : World} {p bv gv : Value} {wd col : Int} {bs : List Nat} {G : List Gr}
theorem PR.lt (h : PR B K w0 w p bv gv wd col bs G) : K < w.heap.size := (Array.getElem?_eq_some_iff.1 h.head).1
theorem PR.c0 (h : PR B K w0 w p bv gv wd col bs G) : w.cell? ⟨K, 0, none⟩ = some p := by simp [World.cell?, h.head]
theorem PR.c1 (h : PR B K w0 w p bv gv wd col bs G) : w.cell? ⟨K, 1, none⟩ = some bv := by simp [World.cell?, h.head]
theorem PR.c2 (h : PR B K w0 w p bv gv wd col bs G) : w.cell? ⟨K, 2, none⟩ = some (.int .i64 wd) := by simp [World.cell?, h.head]
theorem PR.c3 (h : PR B K w0 w p bv gv wd col bs G) : w.cell? ⟨K, 3, none⟩ = some (.int .i64 col) := by simp [World.cell?, h.head]
theorem PR.c4 (h : PR B K w0 w p bv gv wd col bs G) : w.cell? ⟨K, 4, none⟩ = some gv := by simp [World.cell?, h.head]
theorem PR.free (h : PR B K w0 w p bv gv wd col bs G) (j : Nat) : w.frozen? ⟨K, j, none⟩ = false := frozen_of_row w K j _ 91 h.head
theorem PR.bown (h : PR B K w0 w p bv gv wd col bs G) : bv.ownBlock ≠ some K := row_head h.brow h.head (by decide)
theorem PR.gown (h : PR B K w0 w p bv gv wd col bs G) : gv.ownBlock ≠ some K := row_head h.grow h.head (by decide)
theorem PR.shape (h : PR B K w0 w p bv gv wd col bs G) : w.shape? K = some (91, 5) := by simp [World.shape?, h.head]
theorem PR.grown (h : PR B K w0 w p bv gv wd col bs G) (hg : w.grownBy w' none) : PR B K w0 w' p bv gv wd col bs G where
  low := h.low
  sz := Nat.le_trans h.sz hg.size
  head := (hg.block K h.lt (by simp)).trans h.head
  hp := h.hp
  brow := row_grown h.brow hg (by simp)
  grow := row_grown h.grow hg (by simp)
  bel := h.bel.grown hg h.sz (by simp)
  nil := h.nil
  k3 := h.k3.none hg
theorem PR.below (h : PR B K w0 w p bv gv wd col bs G) (hb : Below w.heap.size w w') : PR B K w0 w' p bv gv wd col bs G := h.grown (grown_below hb)
theorem PR.used (h : PR B K w0 w p bv gv wd col bs G) : PR B K w0 (w.setCell ⟨K, 0, none⟩ (.pointer (some ⟨K, 0, none⟩))) (.pointer (some ⟨K, 0, none⟩)) bv gv wd col bs G where
  low := h.low
  sz := by simpa using h.sz
  head := by
    have := heap_setCell_same w K 0 _ 91 (.pointer (some ⟨K, 0, none⟩)) h.head
    simpa using this
  hp := Or.inr rfl
  brow := row_same h.brow (fun k hk => set_other _ _ _ _ _ (fun e => h.bown (by rw [hk, e])))
  grow := row_same h.grow (fun k hk => set_other _ _ _ _ _ (fun e => h.gown (by rw [hk, e])))
  bel := h.bel.setCell (p := ⟨K, 0, none⟩) h.low _
  nil := h.nil
  k3 := h.k3.set h.head (by decide) _ _
theorem PR.column (h : PR B K w0 w p bv gv wd col bs G) (c : Int) : PR B K w0 (w.setCell ⟨K, 3, none⟩ (.int .i64 c)) p bv gv wd c bs G where
  low := h.low
  sz := by simpa using h.sz
  head := by
    have := heap_setCell_same w K 3 _ 91 (.int .i64 c) h.head
    simpa using this
  hp := h.hp
  brow := row_same h.brow (fun k hk => set_other _ _ _ _ _ (fun e => h.bown (by rw [hk, e])))
  grow := row_same h.grow (fun k hk => set_other _ _ _ _ _ (fun e => h.gown (by rw [hk, e])))
  bel := h.bel.setCell (p := ⟨K, 3, none⟩) h.low _
  nil := h.nil
  k3 := h.k3.set h.head (by decide) _ _
/-- More bytes. -/
theorem PR.more (h : PR B K w0 w p bv gv wd col bs G) {w3 : World} {v' : Value} {bs' : List Nat} (hr : w3.ownsRow B 5 1 v' bs'.length (bc bs')) (hg : w.grownBy w3 bv.ownBlock) (hn : bs' = [] → v' = .slice none 0 0) : PR B K w0 (w3.setCell ⟨K, 1, none⟩ v') p v' gv wd col bs' G := by
  have hh := (hg.block K h.lt (fun e => h.bown e.symm)).trans h.head
  have hgr := row_grown h.grow hg (fun k hk => row_ne h.grow h.brow (by decide) hk)
  refine ⟨h.low, by simpa using Nat.le_trans h.sz hg.size, ?_, h.hp, row_same hr (fun k hk => set_other _ _ _ _ _ (fun e => row_head hr hh (by decide) (by rw [hk, e]))), row_same hgr (fun k hk => set_other _ _ _ _ _ (fun e => row_head hgr hh (by decide) (by rw [hk, e]))), (h.bel.grown hg h.sz (fun k e => (h.brow.lt k e).1)).setCell (p := ⟨K, 1, none⟩) h.low _, hn, (h.k3.row h.brow (by decide) hg).set hh (by decide) _ _⟩
  have := heap_setCell_same w3 K 1 _ 91 v' hh
  simpa using this
/-- Other groups. -/
theorem PR.groups (h : PR B K w0 w p bv gv wd col bs G) {w3 : World} {v' : Value} {G' : List Gr} (hr : w3.ownsRow B 120 3 v' G'.length (rowG G')) (hg : w.grownBy w3 gv.ownBlock) : PR B K w0 (w3.setCell ⟨K, 4, none⟩ v') p bv v' wd col bs G' := by
  have hh := (hg.block K h.lt (fun e => h.gown e.symm)).trans h.head
  have hgr := row_grown h.brow hg (fun k hk => row_ne h.brow h.grow (by decide) hk)
  refine ⟨h.low, by simpa using Nat.le_trans h.sz hg.size, ?_, h.hp, row_same hgr (fun k hk => set_other _ _ _ _ _ (fun e => row_head hgr hh (by decide) (by rw [hk, e]))), row_same hr (fun k hk => set_other _ _ _ _ _ (fun e => row_head hr hh (by decide) (by rw [hk, e]))), (h.bel.grown hg h.sz (fun k e => (h.grow.lt k e).1)).setCell (p := ⟨K, 4, none⟩) h.low _, h.nil, (h.k3.row h.grow (by decide) hg).set hh (by decide) _ _⟩
  have := heap_setCell_same w3 K 4 _ 91 v' hh
  simpa using this
end
theorem info57 : (Try.prog.info? 89).map (fun i => i.size) = some 2 := by kernel_rfl
theorem lies57 : liesAt Try.prog Try.prog.depth 91 (5 / Try.prog.cellsOf 91) 0 89 1 = true := by kernel_rfl

set_option maxHeartbeats 1000000 in
theorem check_used {B K : Nat} {w0 w : World} {bv gv : Value} {wd col : Int} {bs : List Nat} {G : List Gr} (h : PR B K w0 w (.pointer (some ⟨K, 0, none⟩)) bv gv wd col bs G) :
    Calls Try.prog 92 #[.pointer (some ⟨K, 0, none⟩)] w fun e w' => e = .returned (.tuple #[]) ∧ w' = w := by
  obtain ⟨j, hj, _⟩ := Option.map_eq_some_iff.1 info57
  have h0 := h.c0
  clear h
  go_enter Try.func92, Try.ntmps92
  go_wp2
  rw [Lib.run_neq_ptr_same w _ Try.underlying87 hj]
  go_wp2
  go_end0
  exact ⟨rfl, rfl⟩
set_option maxHeartbeats 1000000 in
theorem check_fresh {B K : Nat} {w0 w : World} {bv gv : Value} {wd col : Int} {bs : List Nat} {G : List Gr} (h : PR B K w0 w (.pointer none) bv gv wd col bs G) :
    Calls Try.prog 92 #[.pointer (some ⟨K, 0, none⟩)] w fun e w' => e = .returned (.tuple #[]) ∧ w' = w.setCell ⟨K, 0, none⟩ (.pointer (some ⟨K, 0, none⟩)) := by
  obtain ⟨j, hj, hjs⟩ := Option.map_eq_some_iff.1 info57
  have h0 := h.c0
  have hsh := h.shape
  have hfz := h.free 0
  clear h
  go_enter Try.func92, Try.ntmps92
  go_wp2
  rw [Lib.run_to_unsafe w ⟨K, 0, none⟩ Try.underlying87 Try.underlying124 hj (by rw [hjs]; decide) hsh (show 0 < 5 by decide)]
  simp only [Result.andThen]
  rw [Oper.upon_value]
  go_wp2
  rw [run_callFunc_extern Try.func98 (by kernel_rfl) (by kernel_rfl) (by kernel_rfl) (e := Extern.AbiNoEscape.same) (by kernel_rfl)]
  rw [Lib.run_noEscape]
  simp only [Result.andThen]
  rw [Oper.upon_value]
  go_wp2
  rw [Lib.run_from_unsafe w ⟨K, 0, none⟩ Try.underlying124 Try.underlying87 hj hsh lies57]
  simp only [Result.andThen]
  rw [Oper.upon_value]
  go_wp2
  go_end0
  exact ⟨rfl, rfl⟩
/-- All rows but of bytes stand, outside block K. -/
def KeptX (K : Nat) (w w' : World) : Prop := ∀ k x t, w.heap[k]? = some (.cells x t (0, 0)) → k ≠ K → t ≠ 5 → w'.heap[k]? = some (.cells x t (0, 0))
theorem KeptX.trans {K : Nat} {w w' w'' : World} (h : KeptX K w w') (g : KeptX K w' w'') : KeptX K w w'' := fun k x t a b c => g k x t (h k x t a b c) b c
theorem KeptX.set {K : Nat} (w : World) (j : Nat) (u : Value) : KeptX K w (w.setCell ⟨K, j, none⟩ u) := fun k x t a b c => (set_other _ _ _ _ _ b).trans a
theorem KeptX.row {K B n : Nat} {w w' : World} {v : Value} {xs : List Value} (h : w.ownsRow B 5 1 v n xs) (hg : w.grownBy w' v.ownBlock) : KeptX K w w' := fun k x t a b c => (hg.block k (Array.getElem?_eq_some_iff.1 a).1 (fun e => row_head h a (fun q => c q.symm) e.symm)).trans a
theorem KeptX.none {K : Nat} {w w' : World} (hg : w.grownBy w' none) : KeptX K w w' := fun k x t a b c => (hg.block k (Array.getElem?_eq_some_iff.1 a).1 (by simp)).trans a
theorem check_any {B K : Nat} {w0 w : World} {p bv gv : Value} {wd col : Int} {bs : List Nat} {G : List Gr} (h : PR B K w0 w p bv gv wd col bs G) :
    Calls Try.prog 92 #[.pointer (some ⟨K, 0, none⟩)] w fun e w' => e = .returned (.tuple #[]) ∧ PR B K w0 w' (.pointer (some ⟨K, 0, none⟩)) bv gv wd col bs G ∧ KeptX K w w' := by
  rcases h.hp with rfl | rfl
  · refine (check_fresh h).mono ?_
    rintro e w' ⟨rfl, rfl⟩
    exact ⟨rfl, h.used, KeptX.set _ _ _⟩
  · refine (check_used h).mono ?_
    rintro e w' ⟨rfl, rfl⟩
    exact ⟨rfl, h, fun _ _ _ a _ _ => a⟩

set_option maxHeartbeats 2000000 in
theorem writeS_any {B K : Nat} {w0 w : World} {p bv gv : Value} {wd col : Int} {bs : List Nat} {G : List Gr} (h : PR B K w0 w p bv gv wd col bs G) (l : List Nat) (hl : ∀ c ∈ l, c < 256) (hlen : bs.length + l.length ≤ 1000000) :
    Calls Try.prog 74 #[.pointer (some ⟨K, 0, none⟩), .string (str l)] w fun e w' => e = .returned (.tuple #[.int .i64 (l.length : Nat), .nilIface]) ∧ (∃ p' bv', PR B K w0 w' p' bv' gv wd col (bs ++ l) G) ∧ KeptX K w w' := by
  obtain ⟨i5, hi5, hz5, hy5, hb5⟩ := info_parts info5
  have hs := str_size l
  have hsl : Hid ((str l).size = l.length) := hs
  have cc := check_any h
  have q1 : bs.length + (str l).size ≤ maxLen := by rw [hs]; unfold maxLen; omega
  have q2 : bs.length + (str l).size ≤ 140737488355328 := by rw [hs]; omega
  have HS := hidden (strCells_str l hl)
  have HE : Hid (l = [] → str l = ByteArray.empty) := fun e => by rw [e]; rfl
  clear h hs
  generalize str l = s at *
  go_enter Try.func74, Try.ntmps74
  go_wp2_with fail
  refine cc.mono ?_
  rintro e w1 ⟨rfl, h, hk1⟩
  have c0 := h.c0
  have c1 := h.c1
  have hown := h.brow
  have hsz := h.sz
  have H := hidden h
  clear cc h
  go_wp2_with (at_builtin; refine Lib.wpList_append_own_string _ rfl _ _ 22 9 rfl B 5 i5 Try.underlying22 Try.underlying9 hi5 hz5 hy5 hb5 _ _ _ rfl hown s rfl q1 q2 hsz ?_)
  intro v' w2 hr hg hnil
  rw [HS.out, hsl.out, ← bc_app] at hr
  have hn : bs ++ l = [] → v' = .slice none 0 0 := by
    intro e
    obtain ⟨e1, e2⟩ := List.append_eq_nil_iff.1 e
    exact hnil.2 ⟨H.out.nil e1, HE.out e2⟩
  obtain ⟨va, vc, rfl⟩ := row_slice hr
  have hr2 : w2.ownsRow B 5 1 (.slice va (bs.length + l.length) vc) (bs ++ l).length (bc (bs ++ l)) := by rw [List.length_append]; exact hr
  have hb2 := (hg.block K H.out.lt (fun e => H.out.bown e.symm)).trans H.out.head
  have d1 : w2.cell? ⟨K, 1, none⟩ = some bv := by simp [World.cell?, hb2]
  have f1 : w2.frozen? ⟨K, 1, none⟩ = false := frozen_of_row w2 K 1 _ 91 hb2
  have HF := hidden (H.out.more hr2 hg hn)
  have HK := hidden ((hk1.trans (KeptX.row hown hg)).trans (KeptX.set _ 1 (.slice va (bs.length + l.length) vc)))
  clear hr hg hr2 hb2 hown c0 c1 hn hnil hk1
  go_wp2
  go_ret2
  exact ⟨by rw [hsl.out]; rfl, ⟨_, _, HF.out⟩, HK.out⟩
set_option maxHeartbeats 2000000 in
theorem writeB_any {B K : Nat} {w0 w : World} {p bv gv : Value} {wd col : Int} {bs : List Nat} {G : List Gr} (h : PR B K w0 w p bv gv wd col bs G) (c : Nat) (hlen : bs.length + 1 ≤ 1000000) :
    Calls Try.prog 95 #[.pointer (some ⟨K, 0, none⟩), .int .u8 (c : Nat)] w fun e w' => e = .returned .nilIface ∧ (∃ p' bv', PR B K w0 w' p' bv' gv wd col (bs ++ [c]) G) ∧ KeptX K w w' := by
  obtain ⟨i5, hi5, hz5, hy5, hb5⟩ := info_parts info5
  have cc := check_any h
  have q3 : bs.length + 1 ≤ maxLen := by unfold maxLen; omega
  have q4 : (bs.length + 1) * 1 ≤ 140737488355328 := by omega
  clear h
  go_enter Try.func95, Try.ntmps95
  go_wp2_with fail
  refine cc.mono ?_
  rintro e w1 ⟨rfl, h, hk1⟩
  have c0 := h.c0
  have c1 := h.c1
  have h2 := h.grown (grownBy_alloc w1 (.cells #[.int .u8 (c : Nat)] 5))
  have hown := h2.brow
  have hsz := h2.sz
  have cn := cells_new w1 5 [.int .u8 (c : Nat)]
  have H := hidden h2
  clear cc h h2
  go_wp2_with (at_builtin; refine wpList_append_own _ rfl _ _ 22 rfl B 5 i5 (.int .u8 0) 1 1 Try.underlying22 hi5 hz5 hy5 hb5 rfl (by decide) _ _ _ rfl hown ⟨w1.heap.size, 0, none⟩ 1 1 [.int .u8 (c : Nat)] rfl rfl cn (one1 _ _) q3 q4 hsz ?_)
  intro v' w2 hr hg _
  obtain ⟨va, vc, rfl⟩ := row_slice hr
  have hr2 : w2.ownsRow B 5 1 (.slice va (bs.length + 1) vc) (bs ++ [c]).length (bc (bs ++ [c])) := by rw [List.length_append, bc_app]; exact hr
  have hb2 := (hg.block K H.out.lt (fun e => H.out.bown e.symm)).trans H.out.head
  have d1 : w2.cell? ⟨K, 1, none⟩ = some bv := by simp [World.cell?, hb2]
  have f1 : w2.frozen? ⟨K, 1, none⟩ = false := frozen_of_row w2 K 1 _ 91 hb2
  have HF := hidden (H.out.more hr2 hg (fun e => by simp at e))
  have HK := hidden (((hk1.trans (KeptX.none (grownBy_alloc w1 (.cells #[.int .u8 (c : Nat)] 5)))).trans (KeptX.row hown hg)).trans (KeptX.set _ 1 (.slice va (bs.length + 1) vc)))
  clear hr hg hr2 hb2 hown c0 c1 hk1
  go_wp2
  go_ret
  exact ⟨rfl, ⟨_, _, HF.out⟩, HK.out⟩
set_option maxHeartbeats 1000000 in
theorem len_any {B K : Nat} {w0 w : World} {p bv gv : Value} {wd col : Int} {bs : List Nat} {G : List Gr} (h : PR B K w0 w p bv gv wd col bs G) :
    Calls Try.prog 50 #[.pointer (some ⟨K, 0, none⟩)] w fun e w' => e = .returned (.int .i64 (bs.length : Nat)) ∧ w' = w := by
  obtain ⟨va, vc, rfl⟩ := row_slice h.brow
  have c1 := h.c1
  clear h
  go_enter Try.func50, Try.ntmps50
  go_wp2
  go_ret
  exact ⟨rfl, rfl⟩
end Go.Proofs.PlatenLayout
