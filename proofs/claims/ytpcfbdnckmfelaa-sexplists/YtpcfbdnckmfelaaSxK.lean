/- What the document's Same comes to; the examples. -/
import Derived.Test.YtpcfbdnckmfelaaSxJ
import Derived.Lib.SlBytesConst
namespace Go.Proofs.PlatenSexp
open Go Go.RowKit
set_option linter.unusedVariables false
set_option maxRecDepth 100000

theorem Row.drewN {w : World} {v : Value} {n : Nat} {f : Nat → Nat} (h : Row w v n f) (q : Nat) : Row (w.drewN q) v n f := h
theorem bel_dN {B : Nat} {a w : World} (h : Below B a w) (n : Nat) : Below B a (w.drewN n) := h.trans ⟨rfl, rfl, rfl, Nat.le_refl _, fun _ _ => rfl⟩
set_option maxHeartbeats 1000000 in
theorem same_any (va vb : Value) (l : List Tk) (w : World) (hl : l.length ≤ 1000000) (ha : IsTk w va l) (hb : IsTk w vb l) :
    Calls Try.prog 13 #[va, vb] w fun e w' => e = .returned (.bool true) ∧ Below w.heap.size w w' := by
  obtain ⟨a, ca, rfl, ha⟩ := ha
  obtain ⟨b, cb, rfl, hb⟩ := hb
  have HA := hidden ha
  have HB := hidden hb
  clear ha hb
  obtain ⟨m, hm⟩ : ∃ m, l.length = m := ⟨_, rfl⟩
  rw [hm] at hl HA HB ⊢
  clear hm
  go_enter Try.func13, Try.ntmps13
  go_wp2
  go_loopw [5] (fun i wr => ∃ k : Nat, k ≤ m ∧ i = .int .i64 (k : Nat) ∧ ∃ q, wr = w.drewN q) (fun i _ => m - (intOf i).toNat)
  case atStart => exact ⟨0, Nat.zero_le _, rfl, 0, rfl⟩
  case round =>
    obtain ⟨k, hk, rfl, q, rfl⟩ := hrel
    by_cases hlt : k < m
    · obtain ⟨ga, rfl, hca, ra⟩ := HA.out (by omega)
      obtain ⟨gb, rfl, hcb, rb⟩ := HB.out (by omega)
      obtain ⟨a1, a2, a3⟩ := ra k hlt
      obtain ⟨b1, b2, b3⟩ := rb k hlt
      have hlz : (k : Int) < (m : Int) := by omega
      clear ra rb
      generalize (l.getD k (0, 0, 0)).1 = x at *
      generalize (l.getD k (0, 0, 0)).2.1 = y at *
      generalize (l.getD k (0, 0, 0)).2.2 = z at *
      go_wp2_with fail
      go_quiet (fail)
      go_wp2
      go_roundw
      case rel => exact ⟨k + 1, by omega, by go_num, _, rfl⟩
      case measure => simp [intOf]; omega
    · have hlz : ¬ ((k : Int) < (m : Int)) := by omega
      go_wp2
      go_ret
      exact ⟨rfl, bel_dN (Below.refl _ _) q⟩
theorem fOf_lt {L : List Nat} (h : ∀ c ∈ L, c < 256) (j : Nat) : fOf L j < 256 := by
  unfold fOf
  by_cases hj : j < L.length
  · rw [List.getD_eq_getElem?_getD, List.getElem?_eq_getElem hj]; exact h _ (List.getElem_mem hj)
  · rw [List.getD_eq_getElem?_getD, List.getElem?_eq_none (by omega)]; decide
theorem row_new (w : World) (L : List Nat) (cs : Array Value) (z : Nat × Nat) (h : cs = (L.map fun c => Value.int .u8 (c : Nat)).toArray) : Row (w.alloc (.cells cs 5 z)) (.slice (some ⟨w.heap.size, 0, none⟩) L.length L.length) L.length (fOf L) := by
  refine ⟨_, _, rfl, fun hl => ⟨_, 0, rfl, Nat.le_refl _, fun j hj => ?_⟩⟩
  have := heap_alloc_new w (.cells cs 5 z)
  unfold World.cell?
  rw [this, h, Nat.zero_add]
  simp only [List.getElem?_toArray, List.getElem?_map, List.getElem?_eq_getElem hj, Option.map_some, fOf, List.getD_eq_getElem?_getD, Option.getD_some]
  rfl
theorem alloc_below {B : Nat} {a w : World} (h : Below B a w) (o : Obj) (hB : B ≤ w.heap.size) : Below B a (w.alloc o) := h.alloc hB o
def L1 : List Nat := [39, 40, 97, 32, 34, 98, 32, 99, 34, 41]
def L2 : List Nat := [40, 97]
theorem ans1 : ans (fOf L1) 10 = ([(6, 0, 1), (1, 1, 1), (5, 2, 1), (5, 4, 5), (2, 9, 1)], 0, 0) := by decide +kernel
theorem ans2 : ans (fOf L2) 2 = ([], 2, 5) := by decide +kernel
set_option maxHeartbeats 4000000 in
theorem lists_any (w : World) : Calls Try.prog 10 #[] w fun e w' => e = .returned (.bool true) ∧ Below w.heap.size w w' := by
  have kc := fun (w : World) (C : Array Value) (n c : Nat) => Lib.run_convert_bytes_const (P := Try.prog) w 22 5 C n c Try.underlying22 Try.underlying5
  have r1 := row_new w L1 #[Value.int .u8 39, Value.int .u8 40, Value.int .u8 97, Value.int .u8 32, Value.int .u8 34, Value.int .u8 98, Value.int .u8 32, Value.int .u8 99, Value.int .u8 34, Value.int .u8 41] (10, 11) rfl
  have c1 := read_any _ 10 _ _ (fOf_lt (by decide)) (by decide) r1
  rw [ans1] at c1
  have B1 := hidden (alloc_below (Below.refl w.heap.size w) (.cells #[Value.int .u8 39, Value.int .u8 40, Value.int .u8 97, Value.int .u8 32, Value.int .u8 34, Value.int .u8 98, Value.int .u8 32, Value.int .u8 99, Value.int .u8 34, Value.int .u8 41] 5 (10, 11)) (Nat.le_refl _))
  go_enter Try.func10, Try.ntmps10
  go_wp2_with fail
  refine c1.mono ?_
  rintro e w1 ⟨tv1, rfl, ⟨a1, k1, rfl, h3⟩, hb1⟩
  clear c1 r1
  have B2 := hidden (B1.out.trans (hb1.mono (by simp)))
  have B2' := hidden (alloc_below B2.out (.cells #[Value.int .u8 40, Value.int .u8 97] 5 (2, 3)) B2.out.size)
  have r2 := row_new w1 L2 #[Value.int .u8 40, Value.int .u8 97] (2, 3) rfl
  have c2 := read_any _ 2 _ _ (fOf_lt (by decide)) (by decide) r2
  rw [ans2] at c2
  obtain ⟨g, rfl, hgc, hrow⟩ := h3 (by decide)
  have g0 : w1.cell? ⟨g, 0, none⟩ = some (.int .u8 6) := (hrow 0 (by decide)).1
  have g1 : w1.cell? ⟨g, 3, none⟩ = some (.int .u8 1) := (hrow 1 (by decide)).1
  have g3 : w1.cell? ⟨g, 11, none⟩ = some (.int .i64 5) := (hrow 3 (by decide)).2.2
  have hgl := World.block_lt_of_cell? _ _ g0
  simp only at hgl
  clear hb1 hrow h3
  go_wp2_with fail
  refine c2.mono ?_
  rintro e w2 ⟨tv2, rfl, ⟨a2, k2, rfl, _⟩, hb2⟩
  have e2 : ∀ j, w2.cell? ⟨g, j, none⟩ = w1.cell? ⟨g, j, none⟩ := fun j => (hb2.cell (p := ⟨g, j, none⟩) (by simp; omega)).trans (World.cell?_of_block (w := w1) (Below.heap_alloc w1 _ g hgl))
  rw [← e2] at g0 g1 g3
  have B3 := hidden (B2'.out.trans (hb2.mono (Nat.le_trans B2.out.size (by simp))))
  clear c2 r2 hb2 e2
  go_wp2_with fail
  go_ret
  exact ⟨rfl, B3.out⟩
end Go.Proofs.PlatenSexp
