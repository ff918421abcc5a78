/- What a table of pieces is in memory; what New, Len, Pieces, newest, has come to. -/
import Derived.Test.YtibdhahkkejnjaaCallsE
namespace Go.Proofs.PlatenPiece
open Go Go.RowKit
set_option linter.unusedVariables false

/-- A piece: the value of its slice, its bytes, the number of its last byte. -/
structure Pc where
  v : Value
  l : List Nat
  k : Int

def rowOf (ps : List Pc) : List Value := ps.flatMap fun p => [p.v, Value.int .i64 p.k]
theorem rowOf_len (ps : List Pc) : (rowOf ps).length = ps.length * 2 := by
  induction ps with
  | nil => rfl
  | cons p ps ih => simp only [rowOf, List.flatMap_cons, List.length_append, List.length_cons, List.length_nil] at ih ⊢; omega
theorem rowOf_app (ps qs : List Pc) : rowOf (ps ++ qs) = rowOf ps ++ rowOf qs := by simp [rowOf]
theorem rowOf_take (ps : List Pc) : ∀ (i : Nat), (rowOf ps).take (2 * i) = rowOf (ps.take i) := by
  induction ps with
  | nil => intro i; simp [rowOf]
  | cons p ps ih =>
    intro i
    cases i with
    | zero => simp [rowOf]
    | succ i =>
      have := ih i
      rw [show 2 * (i + 1) = 2 * i + 1 + 1 by omega]
      simp only [rowOf, List.flatMap_cons, List.cons_append, List.nil_append, List.take_succ_cons] at this ⊢
      rw [this]
theorem rowOf_drop (ps : List Pc) : ∀ (i : Nat), (rowOf ps).drop (2 * i) = rowOf (ps.drop i) := by
  induction ps with
  | nil => intro i; simp [rowOf]
  | cons p ps ih =>
    intro i
    cases i with
    | zero => simp [rowOf]
    | succ i =>
      have := ih i
      rw [show 2 * (i + 1) = 2 * i + 1 + 1 by omega]
      simp only [rowOf, List.flatMap_cons, List.cons_append, List.nil_append, List.drop_succ_cons] at this ⊢
      rw [this]
theorem rowOf_at (ps : List Pc) (i : Nat) (p : Pc) (h : ps[i]? = some p) : (rowOf ps)[i * 2]? = some p.v ∧ (rowOf ps)[i * 2 + 1]? = some (Value.int .i64 p.k) := by
  have hd : rowOf (ps.drop i) = (rowOf ps).drop (2 * i) := (rowOf_drop ps i).symm
  have hlt : i < ps.length := (List.getElem?_eq_some_iff.1 h).1
  have hp : ps[i] = p := (List.getElem?_eq_some_iff.1 h).2
  rw [List.drop_eq_getElem_cons hlt, hp] at hd
  have e0 : (rowOf ps)[2 * i + 0]? = some p.v := by rw [← List.getElem?_drop, ← hd]; rfl
  have e1 : (rowOf ps)[2 * i + 1]? = some (Value.int .i64 p.k) := by rw [← List.getElem?_drop, ← hd]; rfl
  rw [Nat.mul_comm i 2]
  exact ⟨e0, e1⟩

def Good (B : Nat) (w : World) (p : Pc) : Prop := w.ownsRow B 5 1 p.v p.l.length (bytesV p.l) ∧ 0 < p.l.length
def Apart (p q : Pc) : Prop := p.v.ownBlock ≠ q.v.ownBlock

/-- The table at block T. -/
structure Tab (B : Nat) (w : World) (T : Nat) (pv : Value) (ps : List Pc) (size added : Int) : Prop where
  low : B ≤ T
  head : w.heap[T]? = some (.cells #[pv, .int .i64 size, .int .i64 added] 78 (0, 0))
  row : w.ownsRow B 81 2 pv ps.length (rowOf ps)
  good : ∀ p ∈ ps, Good B w p
  apart : ps.Pairwise Apart

/-- The table's own blocks. -/
def Own (T : Nat) (pv : Value) (ps : List Pc) (k : Nat) : Prop := k = T ∨ pv.ownBlock = some k ∨ ∃ p ∈ ps, p.v.ownBlock = some k

/-- What a step leaves as it was: all that O does not name. -/
structure Kept (O : Nat → Prop) (w w' : World) : Prop where
  os : w'.os = w.os
  tape : w'.tape = w.tape
  output : w'.output = w.output
  size : w.heap.size ≤ w'.heap.size
  block : ∀ k, k < w.heap.size → ¬ O k → w'.heap[k]? = w.heap[k]?

theorem Kept.refl (O : Nat → Prop) (w : World) : Kept O w w := ⟨rfl, rfl, rfl, Nat.le_refl _, fun _ _ _ => rfl⟩
theorem Kept.trans {O O' : Nat → Prop} {a b c : World} (h : Kept O a b) (k : Kept O' b c) (hO : ∀ i, i < a.heap.size → O' i → O i) : Kept O a c :=
  ⟨k.os.trans h.os, k.tape.trans h.tape, k.output.trans h.output, Nat.le_trans h.size k.size, fun i hi hf => (k.block i (Nat.lt_of_lt_of_le hi h.size) (fun h' => hf (hO i hi h'))).trans (h.block i hi hf)⟩
theorem Kept.below {O : Nat → Prop} {B : Nat} {w w' : World} (h : Kept O w w') (hB : B ≤ w.heap.size) (hO : ∀ k, O k → B ≤ k) : Below B w w' := ⟨h.os, h.tape, h.output, h.size, fun k hk => h.block k (by omega) (fun h' => by have := hO k h'; omega)⟩
theorem kept_none {O : Nat → Prop} {w w' : World} (h : w.grownBy w' none) : Kept O w w' := ⟨h.os, h.tape, h.output, h.size, fun k hk _ => h.block k hk (by simp)⟩
theorem kept_some {O : Nat → Prop} {w w' : World} {g : Nat} (h : w.grownBy w' (some g)) (hg : O g) : Kept O w w' :=
  ⟨h.os, h.tape, h.output, h.size, fun k hk hf => h.block k hk (fun e => by
    simp only [Option.some.injEq] at e
    subst e
    exact hf hg)⟩

theorem Tab.lt {B : Nat} {w : World} {T : Nat} {pv : Value} {ps : List Pc} {s a : Int} (h : Tab B w T pv ps s a) : T < w.heap.size := (Array.getElem?_eq_some_iff.1 h.head).1

theorem Tab.grown {B : Nat} {w w' : World} {T : Nat} {pv : Value} {ps : List Pc} {s a : Int} (h : Tab B w T pv ps s a) (hg : w.grownBy w' none) : Tab B w' T pv ps s a where
  low := h.low
  head := by rw [hg.block T h.lt (by simp)]; exact h.head
  row := h.row.kept hg (by cases pv.ownBlock <;> simp)
  good := fun p hp => ⟨(h.good p hp).1.kept hg (by cases p.v.ownBlock <;> simp), (h.good p hp).2⟩
  apart := h.apart

theorem Tab.c0 {B : Nat} {w : World} {T : Nat} {pv : Value} {ps : List Pc} {s a : Int} (h : Tab B w T pv ps s a) : w.cell? ⟨T, 0, none⟩ = some pv := by simp [World.cell?, h.head]
theorem Tab.c1 {B : Nat} {w : World} {T : Nat} {pv : Value} {ps : List Pc} {s a : Int} (h : Tab B w T pv ps s a) : w.cell? ⟨T, 1, none⟩ = some (.int .i64 s) := by simp [World.cell?, h.head]
theorem Tab.c2 {B : Nat} {w : World} {T : Nat} {pv : Value} {ps : List Pc} {s a : Int} (h : Tab B w T pv ps s a) : w.cell? ⟨T, 2, none⟩ = some (.int .i64 a) := by simp [World.cell?, h.head]

set_option maxHeartbeats 1000000 in
theorem len_tab (B T : Nat) (pv : Value) (ps : List Pc) (s a : Int) (w : World) (h : Tab B w T pv ps s a) :
    Calls Try.prog 20 #[.pointer (some ⟨T, 0, none⟩)] w fun e w' => e = .returned (.int .i64 s) ∧ w' = w := by
  have h1 := h.c1
  clear h
  go_enter Try.func20, Try.ntmps20
  go_wp2
  go_ret
  exact ⟨rfl, rfl⟩

theorem len_nil (w : World) : Calls Try.prog 20 #[.pointer none] w fun e w' => e = .returned (.int .i64 0) ∧ w' = w := by
  go_enter Try.func20, Try.ntmps20
  go_wp2
  go_ret
  exact ⟨rfl, rfl⟩
end Go.Proofs.PlatenPiece
