/- Appends to a row of one's own bytes, and where the row is behind them; a buffer beside it stays. -/
import Derived.Test.YtgijplljpimbmaaGreatDoorFgF
import Derived.Laws.AppendOwn
import Derived.Lib.AppendZeros
namespace Go.Proofs.PlatenFigure
open Go Go.RowKit
set_option linter.unusedVariables false
section
variable {P : Program}

theorem run_append_at (w : World) (base : Nat) (t ty e : TypeId) (i : TypeInfo) (z : Value) (size bytes : Nat) (ht : P.underlying t = some (.slice e)) (hi : P.info? e = some i) (hz : i.zero = some z)
    (hsize : i.size = size) (hby : i.bytes = bytes) (hzs : z.cells.size = size) (hsz : 0 < size)
    (v : Value) (n : Nat) (xs : List Value) (hown : w.ownsRow base e size v n xs)
    (a : Addr) (m c : Nat) (news : List Value) (hl : news.length = m * size) (hnews : ∀ j u, news[j]? = some u → w.cell? (a.add j) = some u) (h1 : ∀ u ∈ news, u.oneCell' = true)
    (h63 : n + m ≤ maxLen) (hbytes : (n + m) * bytes ≤ 140737488355328) (hbase : base ≤ w.heap.size) (hm : 0 < m) :
    ∃ v' w', (Builtin.append_ #[t, t] ty #[v, .slice (some a) m c]).run P w = .ok v' w' ∧ w'.ownsRow base e size v' (n + m) (xs ++ news) ∧ w.grownBy w' v.ownBlock ∧
      (v'.ownBlock = v.ownBlock ∨ v'.ownBlock = some w.heap.size) := by
  obtain ⟨v', w', hr, h2, h3, _⟩ := run_append_own (P := P) w base t ty e i z size bytes ht hi hz hsize hby hzs hsz v n xs hown a m c news hl hnews h1 h63 hbytes hbase
  refine ⟨v', w', hr, h2, h3, ?_⟩
  subst hsize
  subst hby
  have hsmall : n + m ≤ 9223372036854775807 := by simp only [maxLen] at h63; omega
  rcases hown.2 with ⟨rfl, rfl⟩ | ⟨g, cap, cur, rfl, hbg, hg, hnc, hcm, hcs, htake⟩
  · have hr2 := run_append_nil (P := P) w t ty e i z ht hi hz a m c news hl hnews (by omega) (by omega) (by have hb := hbytes; simp only [Nat.zero_add] at hb; omega)
    rw [hr] at hr2
    injection hr2 with e1 e2
    right
    rw [e1]
    rfl
  · by_cases hroom : n + m ≤ cap
    · have hfit : n * i.size + news.length ≤ cur.size := by rw [hl, hcs, ← Nat.add_mul]; exact Nat.mul_le_mul_right _ hroom
      have hr2 := run_append_room (P := P) w t ty e i ht hi g n cap cur hg a m c news hl hnews h1 hroom hfit
      rw [hr] at hr2
      injection hr2 with e1 e2
      left
      rw [e1]
      rfl
    · have holds : ∀ j u, xs[j]? = some u → w.cell? ((⟨g, 0, none⟩ : Addr).add j) = some u := hown.cells (g := g) rfl
      have hr2 := run_append_grow (P := P) w t ty e i z ht hi hz ⟨g, 0, none⟩ n cap xs hown.1 holds a m c news hl hnews (by omega) (by omega) (growslice_fits (by omega) hbytes)
      rw [hr] at hr2
      injection hr2 with e1 e2
      right
      rw [e1]
      rfl

/-- .. as a step of a walk. -/
theorem wpList_append_at (w : World) {ops : Array Oper} {rest : List Oper} {o : Oper} {a : Act} {Q : Exit → Act → World → Prop} (hgd : o.guard = none) (s x : Operand) (t : TypeId)
    (ho : o.op = .call { callee := .builtin .append, args := #[s, x], argTypes := #[t, t] })
    (base : Nat) (e : TypeId) (i : TypeInfo) (z : Value) (size bytes : Nat) (ht : P.underlying t = some (.slice e)) (hi : P.info? e = some i) (hz : i.zero = some z)
    (hsize : i.size = size) (hby : i.bytes = bytes) (hzs : z.cells.size = size) (hsz : 0 < size)
    (v : Value) (n : Nat) (xs : List Value) (hs : a.eval s = v) (hown : w.ownsRow base e size v n xs)
    (ad : Addr) (m c : Nat) (news : List Value) (hx : a.eval x = .slice (some ad) m c) (hl : news.length = m * size) (hnews : ∀ j u, news[j]? = some u → w.cell? (ad.add j) = some u) (h1 : ∀ u ∈ news, u.oneCell' = true)
    (h63 : n + m ≤ maxLen) (hbytes : (n + m) * bytes ≤ 140737488355328) (hbase : base ≤ w.heap.size) (hm : 0 < m)
    (h : ∀ v' w', w'.ownsRow base e size v' (n + m) (xs ++ news) → w.grownBy w' v.ownBlock → (v'.ownBlock = v.ownBlock ∨ v'.ownBlock = some w.heap.size) → wpList P ops Q rest (a.put o.dst v') w') : wpList P ops Q (o :: rest) a w := by
  obtain ⟨v', w', hr, h2, h3, h4⟩ := run_append_at (P := P) w base t o.type e i z size bytes ht hi hz hsize hby hzs hsz v n xs hown ad m c news hl hnews h1 h63 hbytes hbase hm
  exact Lib.wpList_append_run w hgd s x t t ho _ _ hs hx _ _ hr (h v' w' h2 h3 h4)

end

theorem info5 : (Tryz.prog.info? 5).map (fun i => (i.zero, i.size, i.bytes)) = some (some (.int .u8 0), 1, 1) := by kernel_rfl
theorem parts_of {o : Option TypeInfo} {z : Option Value} {a b : Nat} (h : o.map (fun i => (i.zero, i.size, i.bytes)) = some (z, a, b)) : ∃ i, o = some i ∧ i.zero = z ∧ i.size = a ∧ i.bytes = b := by
  cases o with
  | none => cases h
  | some i => simp at h; exact ⟨i, rfl, h.1, h.2.1, h.2.2⟩
def bv (l : List Nat) : List Value := l.map fun c => Value.int .u8 (c : Nat)
theorem below_drewN {B : Nat} {a w : World} (h : Below B a w) (n : Nat) : Below B a (w.drewN n) := ⟨h.os, h.tape, h.output, h.size, h.block⟩

/-- A row of bytes of one's own, beside a buffer at block B that stays as it was. -/
structure Out (base B : Nat) (w0 w : World) (v : Value) (l : List Nat) : Prop where
  own : w.ownsRow base 5 1 v l.length (bv l)
  ne : v.ownBlock ≠ some B
  lt : B < w.heap.size
  bl : base ≤ w.heap.size
  be : Below base w0 w
  buf : w.heap[B]? = w0.heap[B]?
theorem Out.alloc {base B : Nat} {w0 w : World} {v : Value} {l : List Nat} (h : Out base B w0 w v l) (o : Obj) : Out base B w0 (w.alloc o) v l :=
  ⟨h.own.alloc o, h.ne, by have := h.lt; simp; omega, by have := h.bl; simp; omega, h.be.alloc h.bl o, by rw [Below.heap_alloc w o B h.lt]; exact h.buf⟩
theorem Out.cell {base B : Nat} {w0 w : World} {v : Value} {l : List Nat} (h : Out base B w0 w v l) (j : Nat) : w.cell? ⟨B, j, none⟩ = w0.cell? ⟨B, j, none⟩ :=
  World.cell?_of_block (w := w0) h.buf

theorem app_any {ops : Array Oper} {rest : List Oper} {o : Oper} {a : Act} {Q : Exit → Act → World → Prop} {w : World} (hgd : o.guard = none) (s x : Operand)
    (ho : o.op = .call { callee := .builtin .append, args := #[s, x], argTypes := #[68, 68] }) {base B : Nat} {w0 : World} {v : Value} {l : List Nat} (hs : a.eval s = v) (hO : Out base B w0 w v l)
    (ad : Addr) (m c : Nat) (news : List Nat) (hx : a.eval x = .slice (some ad) m c) (hm : news.length = m) (h0 : 0 < m) (hc : ∀ j, j < m → w.cell? (ad.add j) = some (.int .u8 (news.getD j 0 : Nat))) (hn : l.length ≤ 100000) (hm2 : m ≤ 100000)
    (h : ∀ v' w', Out base B w0 w' v' (l ++ news) → wpList Tryz.prog ops Q rest (a.put o.dst v') w') : wpList Tryz.prog ops Q (o :: rest) a w := by
  obtain ⟨i0, hi, hz0, hz1, hz2⟩ := parts_of info5
  refine wpList_append_at w hgd s x 68 ho base 5 i0 (.int .u8 0) 1 1 Tryz.underlying68 hi hz0 hz1 hz2 rfl (by decide) v l.length (bv l) hs hO.own ad m c (bv news) hx (by simp [bv, hm]) ?_ ?_ (by unfold maxLen; omega) (by omega) hO.bl h0 ?_
  · intro j u hu
    simp only [bv, List.getElem?_map, Option.map_eq_some_iff] at hu
    obtain ⟨q, hq, rfl⟩ := hu
    have hj : j < m := by
      rcases Nat.lt_or_ge j m with h | h
      · exact h
      · rw [List.getElem?_eq_none (by omega)] at hq; cases hq
    have := hc j hj
    rw [List.getD_eq_getElem?_getD, hq] at this
    exact this
  · intro u hu
    simp only [bv, List.mem_map] at hu
    obtain ⟨q, _, rfl⟩ := hu
    rfl
  · intro v' w' h1 h2 h3
    refine h v' w' ⟨?_, ?_, ?_, ?_, ?_, ?_⟩
    · rw [List.length_append, hm]
      simpa [bv] using h1
    · rcases h3 with h3 | h3
      · rw [h3]; exact hO.ne
      · rw [h3]; have := hO.lt; intro e; injection e with e; omega
    · have := h2.size; have := hO.lt; omega
    · have := h2.size; have := hO.bl; omega
    · exact hO.be.grown h2 hO.bl (fun k hk => (hO.own.lt k hk).1)
    · rw [h2.block B hO.lt (fun e => hO.ne e.symm)]; exact hO.buf
end Go.Proofs.PlatenFigure
