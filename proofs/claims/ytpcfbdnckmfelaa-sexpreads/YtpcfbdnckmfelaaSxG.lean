/- What Read comes to. -/
import Derived.Test.YtpcfbdnckmfelaaSxF
import Derived.Tactics
import Derived.Tactics2
import Derived.Defers
import Derived.Recover
import Derived.Laws.Pointers
namespace Go.Proofs.PlatenSexp
open Go Go.RowKit
set_option linter.unusedVariables false
set_option maxRecDepth 100000

/-- n bytes at hand. -/
def Row (w : World) (v : Value) (n : Nat) (f : Nat → Nat) : Prop :=
  ∃ a cap, v = .slice a n cap ∧ (0 < n → ∃ b off, a = some ⟨b, off, none⟩ ∧ n ≤ cap ∧ ∀ j, j < n → w.cell? ⟨b, off + j, none⟩ = some (.int .u8 (f j)))
theorem Row.below {w w' : World} {v : Value} {n : Nat} {f : Nat → Nat} (h : Row w v n f) (hb : Below w.heap.size w w') : Row w' v n f := by
  obtain ⟨a, cap, rfl, h⟩ := h
  refine ⟨a, cap, rfl, fun hn => ?_⟩
  obtain ⟨b, off, rfl, hc, hr⟩ := h hn
  refine ⟨b, off, rfl, hc, fun j hj => ?_⟩
  have := hr j hj
  rw [hb.cell (p := ⟨b, off + j, none⟩) (World.block_lt_of_cell? _ _ this)]
  exact this

/-- Tokens at hand. -/
def IsTk (w : World) (v : Value) (T : List Tk) : Prop :=
  ∃ a cap, v = .slice a T.length cap ∧ (0 < T.length → ∃ g, a = some ⟨g, 0, none⟩ ∧ T.length ≤ cap ∧ ∀ i, i < T.length → w.cell? ⟨g, i * 3, none⟩ = some (.int .u8 ((T.getD i (0, 0, 0)).1 : Nat)) ∧ w.cell? ⟨g, i * 3 + 1, none⟩ = some (.int .i64 ((T.getD i (0, 0, 0)).2.1 : Nat)) ∧ w.cell? ⟨g, i * 3 + 2, none⟩ = some (.int .i64 ((T.getD i (0, 0, 0)).2.2 : Nat)))
theorem IsTk.below {w w' : World} {v : Value} {T : List Tk} (h : IsTk w v T) (hb : Below w.heap.size w w') : IsTk w' v T := by
  obtain ⟨a, cap, rfl, h⟩ := h
  refine ⟨a, cap, rfl, fun hl => ?_⟩
  obtain ⟨g, rfl, hc, hr⟩ := h hl
  refine ⟨g, rfl, hc, fun i hi => ?_⟩
  obtain ⟨h1, h2, h3⟩ := hr i hi
  rw [hb.cell (p := ⟨g, i * 3, none⟩) (World.block_lt_of_cell? _ _ h1), hb.cell (p := ⟨g, i * 3 + 1, none⟩) (World.block_lt_of_cell? _ _ h2), hb.cell (p := ⟨g, i * 3 + 2, none⟩) (World.block_lt_of_cell? _ _ h3)]
  exact ⟨h1, h2, h3⟩
theorem rowT_get : ∀ (l : List Tk) (i : Nat), i < l.length → (rowT l)[i * 3]? = some (.int .u8 ((l.getD i (0, 0, 0)).1 : Nat)) ∧ (rowT l)[i * 3 + 1]? = some (.int .i64 ((l.getD i (0, 0, 0)).2.1 : Nat)) ∧ (rowT l)[i * 3 + 2]? = some (.int .i64 ((l.getD i (0, 0, 0)).2.2 : Nat))
  | [], i, h => absurd h (Nat.not_lt_zero _)
  | p :: t, 0, _ => by simp [rowT]
  | p :: t, i + 1, h => by
    have ih := rowT_get t i (by simpa using h)
    have e : rowT (p :: t) = [.int .u8 (p.1 : Nat), .int .i64 (p.2.1 : Nat), .int .i64 (p.2.2 : Nat)] ++ rowT t := by simp [rowT]
    rw [e, List.getElem?_append_right (by simp; omega), List.getElem?_append_right (by simp; omega), List.getElem?_append_right (by simp; omega)]
    simp only [List.length_cons, List.length_nil]
    rw [show (i + 1) * 3 - (0 + 1 + 1 + 1) = i * 3 by omega, show (i + 1) * 3 + 1 - (0 + 1 + 1 + 1) = i * 3 + 1 by omega, show (i + 1) * 3 + 2 - (0 + 1 + 1 + 1) = i * 3 + 2 by omega]
    simpa using ih
theorem isTk_of {w : World} {base : Nat} {v : Value} {T : List Tk} (h : w.ownsRow base 34 3 v T.length (rowT T)) : IsTk w v T := by
  have hcl := fun g => h.cells (g := g)
  rcases h.2 with ⟨rfl, h0⟩ | ⟨g, cap, cur, rfl, hbg, hg, hnc, hcm, hcs, htake⟩
  · exact ⟨none, 0, by rw [h0], fun hl => by omega⟩
  · refine ⟨_, cap, rfl, fun _ => ⟨g, rfl, hnc, fun i hi => ?_⟩⟩
    obtain ⟨h1, h2, h3⟩ := rowT_get T i hi
    have g1 := hcl g rfl _ _ h1
    have g2 := hcl g rfl _ _ h2
    have g3 := hcl g rfl _ _ h3
    have ea : ∀ j, (⟨g, 0, none⟩ : Addr).add j = ⟨g, j, none⟩ := fun j => by unfold Addr.add; split <;> simp_all
    rw [ea] at g1 g2 g3
    exact ⟨g1, g2, g3⟩
theorem isTk_nil (w : World) : IsTk w (.slice none 0 0) [] := ⟨none, 0, rfl, fun h => absurd h (by simp)⟩

theorem RS.keep {B R n : Nat} {w0 : World} {v : Value} {f : Nat → Nat} {w : World} {tv : Value} {i d : Nat} {T : List Tk} (h : RS B R n w0 v f w tv i d T) {k : Nat} (hk : k < B) (hR : k ≠ R) (j : Nat) : w.cell? ⟨k, j, none⟩ = w0.cell? ⟨k, j, none⟩ ∧ w.frozen? ⟨k, j, none⟩ = w0.frozen? ⟨k, j, none⟩ :=
  ⟨World.cell?_of_block (w := w0) (h.block k hk hR), World.frozen?_of_block (w := w0) (h.block k hk hR)⟩
/-- The variables around the reader. -/
def Vs (s : Nat) (w : World) : Prop := w.cell? ⟨s, 0, none⟩ = some (.int .i64 0) ∧ w.cell? ⟨s + 1, 0, none⟩ = some (.int .i64 0) ∧ w.frozen? ⟨s, 0, none⟩ = false ∧ w.frozen? ⟨s + 1, 0, none⟩ = false
theorem RS.vs {s n : Nat} {w0 : World} {v : Value} {f : Nat → Nat} {w : World} {tv : Value} {i d : Nat} {T : List Tk} (h : RS (s + 1 + 1 + 1) (s + 1 + 1) n w0 v f w tv i d T) (hv : Vs s w0) : Vs s w := by
  obtain ⟨a, b, d, e⟩ := hv
  refine ⟨?_, ?_, ?_, ?_⟩
  · rw [(h.keep (k := s) (by omega) (by omega) 0).1]; exact a
  · rw [(h.keep (k := s + 1) (by omega) (by omega) 0).1]; exact b
  · rw [(h.keep (k := s) (by omega) (by omega) 0).2]; exact d
  · rw [(h.keep (k := s + 1) (by omega) (by omega) 0).2]; exact e
theorem RS.below {s n : Nat} {w w0 : World} {v : Value} {f : Nat → Nat} {w' : World} {tv : Value} {i d : Nat} {T : List Tk} (h : RS (s + 1 + 1 + 1) (s + 1 + 1) n w0 v f w' tv i d T) (hb : Below s w w0) : Below s w w' :=
  hb.trans ⟨h.os, h.tape, h.output, h.sz, fun k hk => h.block k (by omega) (by omega)⟩
theorem boxes {s : Nat} {w : World} {x y : Int} {a b : Value} (hA : w.cell? ⟨s, 0, none⟩ = some a) (hE : w.cell? ⟨s + 1, 0, none⟩ = some b) :
    ((w.setCell ⟨s, 0, none⟩ (.int .i64 x)).setCell ⟨s + 1, 0, none⟩ (.int .i64 y)).cell? ⟨s, 0, none⟩ = some (.int .i64 x) ∧ ((w.setCell ⟨s, 0, none⟩ (.int .i64 x)).setCell ⟨s + 1, 0, none⟩ (.int .i64 y)).cell? ⟨s + 1, 0, none⟩ = some (.int .i64 y) := by
  constructor
  · rw [World.cell?_setCell_far _ _ _ _ (by simp)]
    exact World.cell?_setCell_same _ _ _ hA
  · refine World.cell?_setCell_same _ _ _ (u := b) ?_
    rw [World.cell?_setCell_far _ _ _ _ (by simp)]
    exact hE
theorem boxes_below {s : Nat} {w w' : World} (h : Below s w w') (x y : Value) : Below s w ((w'.setCell ⟨s, 0, none⟩ x).setCell ⟨s + 1, 0, none⟩ y) :=
  (h.setCell (p := ⟨s, 0, none⟩) (Nat.le_refl _) x).setCell (p := ⟨s + 1, 0, none⟩) (Nat.le_succ _) y
/-- .. with a new block behind it. -/
theorem boxes_alloc {s : Nat} {W : World} {a b : Value} (o : Obj) (h : W.cell? ⟨s, 0, none⟩ = some a ∧ W.cell? ⟨s + 1, 0, none⟩ = some b) : (W.alloc o).cell? ⟨s, 0, none⟩ = some a ∧ (W.alloc o).cell? ⟨s + 1, 0, none⟩ = some b := by
  have l1 := World.block_lt_of_cell? _ _ h.1
  have l2 := World.block_lt_of_cell? _ _ h.2
  simp only at l1 l2
  exact ⟨(World.cell?_of_block (w := W) (Below.heap_alloc W o s l1)).trans h.1, (World.cell?_of_block (w := W) (Below.heap_alloc W o (s + 1) l2)).trans h.2⟩
/-- What Read answers. -/
def RdP (w : World) (o : Res) (e : Ending) (w' : World) : Prop :=
  ∃ tv, e = .returned (.tuple #[tv, .int .i64 (o.2.1 : Nat), .int .i64 (o.2.2 : Nat)]) ∧ IsTk w' tv o.1 ∧ Below w.heap.size w w'

set_option maxHeartbeats 4000000 in
theorem read_any (v : Value) (n : Nat) (f : Nat → Nat) (w : World) (hf : ∀ j, f j < 256) (hn : n ≤ 100000) (h : Row w v n f) :
    Calls Try.prog 11 #[v] w (RdP w (ans f n)) := by
  have hmf : ∀ (fn : Fn) (first cap : Array Value) (w : World), (Instr.makeFunc fn first cap).run Try.prog w = .ok (.func fn first cap) w := fun _ _ _ _ => rfl
  have HC := hidden (begins f n)
  generalize ans f n = o at *
  obtain ⟨a, cap, rfl, h⟩ := h
  have hr0 : ∀ W, W = ((w.alloc (Obj.cells #[Value.int IntKind.i64 0] 3)).alloc (Obj.cells #[Value.int IntKind.i64 0] 25)).alloc (Obj.cells #[Value.slice a n cap, Value.int IntKind.i64 0, Value.int IntKind.i64 0, Value.slice none 0 0] 41) →
      RS (w.heap.size + 1 + 1 + 1) (w.heap.size + 1 + 1) n W (.slice a n cap) f W (.slice none 0 0) 0 0 [] ∧ W.cell? ⟨w.heap.size, 0, none⟩ = some (.int .i64 0) ∧ W.cell? ⟨w.heap.size + 1, 0, none⟩ = some (.int .i64 0) ∧ W.frozen? ⟨w.heap.size, 0, none⟩ = false ∧ W.frozen? ⟨w.heap.size + 1, 0, none⟩ = false ∧ Below w.heap.size w W := by
    rintro W hW
    have e0 : W.heap[w.heap.size]? = some (Obj.cells #[Value.int IntKind.i64 0] 3) := by
      rw [hW, Below.heap_alloc _ _ _ (by simp; omega), Below.heap_alloc _ _ _ (by simp)]
      exact heap_alloc_new _ _
    have e1 : W.heap[w.heap.size + 1]? = some (Obj.cells #[Value.int IntKind.i64 0] 25) := by
      rw [hW, Below.heap_alloc _ _ _ (by simp)]
      have := heap_alloc_new (w.alloc (Obj.cells #[Value.int IntKind.i64 0] 3)) (Obj.cells #[Value.int IntKind.i64 0] 25)
      simpa using this
    have e2 : W.heap[w.heap.size + 1 + 1]? = some (Obj.cells #[Value.slice a n cap, Value.int IntKind.i64 0, Value.int IntKind.i64 0, Value.slice none 0 0] 41) := by
      have := heap_alloc_new ((w.alloc (Obj.cells #[Value.int IntKind.i64 0] 3)).alloc (Obj.cells #[Value.int IntKind.i64 0] 25)) (Obj.cells #[Value.slice a n cap, Value.int IntKind.i64 0, Value.int IntKind.i64 0, Value.slice none 0 0] 41)
      rw [hW]
      simpa using this
    have hb : Below w.heap.size w W := by
      rw [hW]
      exact (((Below.refl _ w).alloc (Nat.le_refl _) _).alloc (by simp) _).alloc (by simp; omega) _
    have hsz : W.heap.size = w.heap.size + 1 + 1 + 1 := by rw [hW]; simp
    refine ⟨⟨hn, hf, by omega, by omega, Nat.zero_le _, by omega, e2, World.ownsRow_nil _ _ _ _, Nat.le_refl _, rfl, rfl, rfl, Nat.le_refl _, fun _ _ _ => rfl, a, cap, rfl, fun hp => ?_⟩, by simp [World.cell?, e0], by simp [World.cell?, e1], frozen_of_row _ _ _ _ 3 e0, frozen_of_row _ _ _ _ 25 e1, hb⟩
    obtain ⟨b, off, rfl, hc, hr⟩ := h hp
    have hbl := World.block_lt_of_cell? _ _ (hr 0 hp)
    simp only at hbl
    refine ⟨b, off, rfl, hc, by omega, by omega, fun j hj => ?_⟩
    rw [hb.cell (p := ⟨b, off + j, none⟩) hbl]
    exact hr j hj
  have Hr0 := hidden hr0
  clear hr0
  have Hf := hidden hf
  clear h hf
  go_enter_defers Try.func11, Try.ntmps11
  go_wp2_with fail
  obtain ⟨h0, cA, cE, fA, fE, hB⟩ := Hr0.out _ rfl
  clear Hr0
  generalize ((w.alloc (Obj.cells #[Value.int IntKind.i64 0] 3)).alloc (Obj.cells #[Value.int IntKind.i64 0] 25)).alloc (Obj.cells #[Value.slice a n cap, Value.int IntKind.i64 0, Value.int IntKind.i64 0, Value.slice none 0 0] 41) = W at *
  have HVs : Hid (Vs w.heap.size W) := ⟨cA, cE, fA, fE⟩
  have HB := hidden hB
  have cb := blanks_any ⟨_, h0⟩
  clear cA cE fA fE hB h0
  refine cb.mono ?_
  clear cb
  rintro e w1 ⟨rfl, j1, hk1, h1⟩
  have cv := exp_any (i := j1) w1 0 [] o 0 h1 (Or.inl rfl) (b_skip (by decide) HC.out hk1) (fun q => ⟨hk1.2.2.2 q, fun e => by cases e⟩)
  rw [show aft 0 = 6 from rfl] at cv
  clear hk1 h1 HC
  go_wp2_with fail
  refine cv.mono ?_
  clear cv
  rintro e w2 hD
  rcases hD with ⟨rfl, j, T, hj, hnb, ⟨tv, h2⟩, hm⟩ | ⟨x, j, rfl, ⟨d, T, tv, h2⟩, ho⟩
  · by_cases hjn : j < n
    · have HO := hidden (top_bad hm hjn (hnb hjn))
      have c1 := h2.c1
      have hlz : (j : Int) < (n : Int) := by omega
      have cf := fail_any ⟨tv, h2⟩ 5
      clear hm hnb h2
      go_wp2_with fail
      refine cf.mono ?_
      clear cf c1
      rintro e w2 ⟨rfl, tv, h2⟩
      have H2 := hidden h2
      obtain ⟨cA, cE, fA, fE⟩ := h2.vs HVs.out
      clear h2
      go_wp2_with fail
      refine leaves_cons (f := 15) (args := #[.pointer (some ⟨w.heap.size, 0, none⟩), .pointer (some ⟨w.heap.size + 1, 0, none⟩)]) (by simp) (by simp [go_sem]) ?_
      refine (catch_panicking w.heap.size (w.heap.size + 1) j 5 [] w2 cA cE fA fE (by omega)).mono ?_
      rintro e u' w3 ⟨rfl, rfl, hw3⟩
      obtain ⟨dA, dE⟩ := boxes_alloc (.cells #[.int .i64 j, .int .i64 5] 37) (boxes (x := j) (y := 5) cA cE)
      have hsz2 : w.heap.size ≤ ((w2.setCell ⟨w.heap.size, 0, none⟩ (.int .i64 j)).setCell ⟨w.heap.size + 1, 0, none⟩ (.int .i64 5)).heap.size := (boxes_below (H2.out.below HB.out) (.int .i64 j) (.int .i64 5)).size
      have hbb := ((boxes_below (H2.out.below HB.out) (.int .i64 j) (.int .i64 5)).alloc hsz2 (.cells #[.int .i64 j, .int .i64 5] 37)).drew
      have dA3 : w3.cell? ⟨w.heap.size, 0, none⟩ = some (.int .i64 j) := by rw [hw3]; exact dA
      have dE3 : w3.cell? ⟨w.heap.size + 1, 0, none⟩ = some (.int .i64 5) := by rw [hw3]; exact dE
      rw [← hw3] at hbb
      clear hw3 dA dE hsz2
      simp only [settle]
      refine ⟨.tuple #[.slice none 0 0, .int .i64 j, .int .i64 5], by simp [results, Try.results11, go_sem, dA3, dE3], ?_⟩
      rw [HO.out]
      exact ⟨_, rfl, isTk_nil _, hbb⟩
    · obtain rfl : j = n := by have := h2.hi; omega
      have HO := hidden (top_ok hm)
      have H2 := hidden h2
      have c1 := h2.c1
      have c3 := h2.c3
      have hlz : ¬ ((j : Int) < (j : Int)) := by omega
      obtain ⟨cA, cE, fA, fE⟩ := h2.vs HVs.out
      clear hm hnb h2
      go_wp2_with fail
      refine leaves_cons (f := 15) (args := #[.pointer (some ⟨w.heap.size, 0, none⟩), .pointer (some ⟨w.heap.size + 1, 0, none⟩)]) (by simp) (by simp [go_sem]) ?_
      refine (catch_idle _ _ _).mono ?_
      rintro e u' w3 ⟨rfl, rfl, hw3⟩
      obtain ⟨dA, dE⟩ := boxes_alloc (.cells #[.int .i64 0, .int .i64 0] 37) (boxes (x := 0) (y := 0) cA cE)
      have hsz2 : w.heap.size ≤ ((w2.setCell ⟨w.heap.size, 0, none⟩ (.int .i64 0)).setCell ⟨w.heap.size + 1, 0, none⟩ (.int .i64 0)).heap.size := (boxes_below (H2.out.below HB.out) (.int .i64 0) (.int .i64 0)).size
      have hbb := (boxes_below (H2.out.below HB.out) (.int .i64 0) (.int .i64 0)).alloc hsz2 (.cells #[.int .i64 0, .int .i64 0] 37)
      have hrow := row_same H2.out.row (w' := w3) (fun k hk => by
        have h1 := (H2.out.row.lt k hk).1
        have h2 := (H2.out.row.lt k hk).2
        rw [hw3, Below.heap_alloc _ _ _ (by simpa using h2), heap_setCell_other _ _ _ _ (by simp; omega), heap_setCell_other _ _ _ _ (by simp; omega)])
      have dA3 : w3.cell? ⟨w.heap.size, 0, none⟩ = some (.int .i64 0) := by rw [hw3]; exact dA
      have dE3 : w3.cell? ⟨w.heap.size + 1, 0, none⟩ = some (.int .i64 0) := by rw [hw3]; exact dE
      rw [← hw3] at hbb
      clear hw3 dA dE hsz2
      simp only [Leaves, settle]
      refine ⟨.tuple #[tv, .int .i64 0, .int .i64 0], by simp [results, Try.results11, go_sem, dA3, dE3], ?_⟩
      rw [HO.out]
      exact ⟨_, rfl, isTk_of hrow, hbb⟩
  · have HO := hidden ho
    have H2 := hidden h2
    obtain ⟨cA, cE, fA, fE⟩ := h2.vs HVs.out
    clear ho h2
    go_wp2_with fail
    refine leaves_cons (f := 15) (args := #[.pointer (some ⟨w.heap.size, 0, none⟩), .pointer (some ⟨w.heap.size + 1, 0, none⟩)]) (by simp) (by simp [go_sem]) ?_
    refine (catch_panicking w.heap.size (w.heap.size + 1) j x [] w2 cA cE fA fE (by omega)).mono ?_
    rintro e u' w3 ⟨rfl, rfl, hw3⟩
    obtain ⟨dA, dE⟩ := boxes_alloc (.cells #[.int .i64 j, .int .i64 x] 37) (boxes (x := j) (y := x) cA cE)
    have hsz2 : w.heap.size ≤ ((w2.setCell ⟨w.heap.size, 0, none⟩ (.int .i64 j)).setCell ⟨w.heap.size + 1, 0, none⟩ (.int .i64 x)).heap.size := (boxes_below (H2.out.below HB.out) (.int .i64 j) (.int .i64 x)).size
    have hbb := ((boxes_below (H2.out.below HB.out) (.int .i64 j) (.int .i64 x)).alloc hsz2 (.cells #[.int .i64 j, .int .i64 x] 37)).drew
    have dA3 : w3.cell? ⟨w.heap.size, 0, none⟩ = some (.int .i64 j) := by rw [hw3]; exact dA
    have dE3 : w3.cell? ⟨w.heap.size + 1, 0, none⟩ = some (.int .i64 x) := by rw [hw3]; exact dE
    rw [← hw3] at hbb
    clear hw3 dA dE hsz2
    simp only [settle]
    refine ⟨.tuple #[.slice none 0 0, .int .i64 j, .int .i64 x], by simp [results, Try.results11, go_sem, dA3, dE3], ?_⟩
    rw [HO.out]
    exact ⟨_, rfl, isTk_nil _, hbb⟩
end Go.Proofs.PlatenSexp
