/- What the document's Same comes to; the examples. -/
import Derived.Test.YtapghnmeiahgoaaJsT
import Derived.Lib.SlBytesConst
namespace Go.Proofs.PlatenJson
open Go Go.RowKit
set_option linter.unusedVariables false
set_option maxRecDepth 100000

theorem Row.drewN {w : World} {v : Value} {n : Nat} {f : Nat → Nat} (h : Row w v n f) (q : Nat) : Row (w.drewN q) v n f := h
theorem bel_dN {B : Nat} {a w : World} (h : Below B a w) (n : Nat) : Below B a (w.drewN n) := h.trans ⟨rfl, rfl, rfl, Nat.le_refl _, fun _ _ => rfl⟩
set_option maxHeartbeats 1000000 in
theorem same_any (va vb : Value) (l : List Tk) (w : World) (hl : l.length ≤ 1000000) (ha : IsTk w va l) (hb : IsTk w vb l) :
    Calls Try.prog 13 #[va, vb] w fun e w' => e = .returned (.bool true) ∧ Below w.heap.size w w' := by
  obtain ⟨a, ca, rfl, ha⟩ := ha
  obtain ⟨b, cb, rfl, hb⟩ := hb
  have HA := hidden ha
  have HB := hidden hb
  clear ha hb
  obtain ⟨m, hm⟩ : ∃ m, l.length = m := ⟨_, rfl⟩
  rw [hm] at hl HA HB ⊢
  clear hm
  go_enter Try.func13, Try.ntmps13
  go_wp2
  go_loopw [5] (fun i wr => ∃ k : Nat, k ≤ m ∧ i = .int .i64 (k : Nat) ∧ ∃ q, wr = w.drewN q) (fun i _ => m - (intOf i).toNat)
  case atStart => exact ⟨0, Nat.zero_le _, rfl, 0, rfl⟩
  case round =>
    obtain ⟨k, hk, rfl, q, rfl⟩ := hrel
    by_cases hlt : k < m
    · obtain ⟨ga, rfl, hca, ra⟩ := HA.out (by omega)
      obtain ⟨gb, rfl, hcb, rb⟩ := HB.out (by omega)
      obtain ⟨a1, a2, a3⟩ := ra k hlt
      obtain ⟨b1, b2, b3⟩ := rb k hlt
      have hlz : (k : Int) < (m : Int) := by omega
      clear ra rb
      generalize (l.getD k (0, 0, 0)).1 = x at *
      generalize (l.getD k (0, 0, 0)).2.1 = y at *
      generalize (l.getD k (0, 0, 0)).2.2 = z at *
      go_wp2_with fail
      go_quiet (fail)
      go_wp2
      go_roundw
      case rel => exact ⟨k + 1, by omega, by go_num, _, rfl⟩
      case measure => simp [intOf]; omega
    · have hlz : ¬ ((k : Int) < (m : Int)) := by omega
      go_wp2
      go_ret
      exact ⟨rfl, bel_dN (Below.refl _ _) q⟩
/-- Bytes of a new block. -/
def fOf (L : List Nat) (j : Nat) : Nat := L.getD j 0
theorem fOf_lt {L : List Nat} (h : ∀ c ∈ L, c < 256) (j : Nat) : fOf L j < 256 := by
  unfold fOf
  by_cases hj : j < L.length
  · rw [List.getD_eq_getElem?_getD, List.getElem?_eq_getElem hj]; exact h _ (List.getElem_mem hj)
  · rw [List.getD_eq_getElem?_getD, List.getElem?_eq_none (by omega)]; decide
theorem row_new (w : World) (L : List Nat) (cs : Array Value) (z : Nat × Nat) (h : cs = (L.map fun c => Value.int .u8 (c : Nat)).toArray) : Row (w.alloc (.cells cs 5 z)) (.slice (some ⟨w.heap.size, 0, none⟩) L.length L.length) L.length (fOf L) := by
  refine ⟨_, _, rfl, fun hl => ⟨_, 0, rfl, Nat.le_refl _, fun j hj => ?_⟩⟩
  have := heap_alloc_new w (.cells cs 5 z)
  unfold World.cell?
  rw [this, h, Nat.zero_add]
  simp only [List.getElem?_toArray, List.getElem?_map, List.getElem?_eq_getElem hj, Option.map_some, fOf, List.getD_eq_getElem?_getD, Option.getD_some]
  rfl
theorem alloc_below {B : Nat} {a w : World} (h : Below B a w) (o : Obj) (hB : B ≤ w.heap.size) : Below B a (w.alloc o) := h.alloc hB o
def L1 : List Nat := [91, 49, 44, 32, 50]
def L2 : List Nat := [91, 48, 49, 93]
def L3 : List Nat := [123, 34, 97, 34, 58, 91, 93, 125]
theorem ans1 : ans (fOf L1) 5 = ([], 5, 5) := by decide +kernel
theorem ans2 : ans (fOf L2) 4 = ([], 2, 5) := by decide +kernel
theorem ans3 : ans (fOf L3) 8 = ([(1, 0, 1), (5, 1, 3), (4, 4, 1), (1, 5, 1), (2, 6, 1), (2, 7, 1)], 0, 0) := by decide +kernel
set_option maxHeartbeats 4000000 in
theorem lists_any (w : World) : Calls Try.prog 10 #[] w fun e w' => e = .returned (.bool true) ∧ Below w.heap.size w w' := by
  have kc := fun (w : World) (C : Array Value) (n c : Nat) => Lib.run_convert_bytes_const (P := Try.prog) w 22 5 C n c Try.underlying22 Try.underlying5
  have r1 := row_new w L1 #[Value.int .u8 91, Value.int .u8 49, Value.int .u8 44, Value.int .u8 32, Value.int .u8 50] (5, 6) rfl
  have c1 := read_any _ 5 _ _ (fOf_lt (by decide)) (by decide) r1
  rw [ans1] at c1
  have B1 := hidden (alloc_below (Below.refl w.heap.size w) (.cells #[Value.int .u8 91, Value.int .u8 49, Value.int .u8 44, Value.int .u8 32, Value.int .u8 50] 5 (5, 6)) (Nat.le_refl _))
  go_enter Try.func10, Try.ntmps10
  go_wp2_with fail
  refine c1.mono ?_
  rintro e w1 ⟨tv1, rfl, ⟨a1, k1, rfl, _⟩, hb1⟩
  clear c1 r1
  have B2 := hidden (B1.out.trans (hb1.mono (by simp)))
  have B2' := hidden (alloc_below B2.out (.cells #[Value.int .u8 91, Value.int .u8 48, Value.int .u8 49, Value.int .u8 93] 5 (4, 5)) B2.out.size)
  have r2 := row_new w1 L2 #[Value.int .u8 91, Value.int .u8 48, Value.int .u8 49, Value.int .u8 93] (4, 5) rfl
  have c2 := read_any _ 4 _ _ (fOf_lt (by decide)) (by decide) r2
  rw [ans2] at c2
  clear hb1
  go_wp2_with fail
  refine c2.mono ?_
  rintro e w2 ⟨tv2, rfl, ⟨a2, k2, rfl, _⟩, hb2⟩
  clear c2 r2
  have B3 := hidden (B2'.out.trans (hb2.mono (Nat.le_trans B2.out.size (by simp))))
  have B3' := hidden (alloc_below B3.out (.cells #[Value.int .u8 123, Value.int .u8 34, Value.int .u8 97, Value.int .u8 34, Value.int .u8 58, Value.int .u8 91, Value.int .u8 93, Value.int .u8 125] 5 (8, 9)) B3.out.size)
  have r3 := row_new w2 L3 #[Value.int .u8 123, Value.int .u8 34, Value.int .u8 97, Value.int .u8 34, Value.int .u8 58, Value.int .u8 91, Value.int .u8 93, Value.int .u8 125] (8, 9) rfl
  have c3 := read_any _ 8 _ _ (fOf_lt (by decide)) (by decide) r3
  rw [ans3] at c3
  clear hb2
  go_wp2_with fail
  refine c3.mono ?_
  rintro e w3 ⟨tv3, rfl, ⟨a3, k3, rfl, h3⟩, hb3⟩
  obtain ⟨g, rfl, hgc, hrow⟩ := h3 (by decide)
  have g2 : w3.cell? ⟨g, 6, none⟩ = some (.int .u8 4) := (hrow 2 (by decide)).1
  have g3 : w3.cell? ⟨g, 7, none⟩ = some (.int .i64 4) := (hrow 2 (by decide)).2.1
  have g4 : w3.cell? ⟨g, 8, none⟩ = some (.int .i64 1) := (hrow 2 (by decide)).2.2
  have B4 := hidden (B3'.out.trans (hb3.mono (Nat.le_trans B3.out.size (by simp))))
  clear c3 r3 hb3 hrow h3
  go_wp2_with fail
  go_ret
  exact ⟨rfl, B4.out⟩
end Go.Proofs.PlatenJson
