/- What gap, begin and item of the printer come to. -/
import Derived.Test.YtaefnlknendapaaLyE
namespace Go.Proofs.PlatenLayout
open Go Go.RowKit Go.Shelf
set_option linter.unusedVariables false
set_option maxRecDepth 100000

def PM (B K : Nat) (w0 : World) (wd : Int) (s : Ly) (w : World) : Prop := ∃ p bv gv, PR B K w0 w p bv gv wd s.col s.p (s.gs.reverse ++ [s.g])
/-- A break printed. -/
def gapS (s : Ly) (x : It) (fits : Bool) : Ly :=
  if s.g.flat = true ∨ (s.g.whole = false ∧ fits = true) then { s with p := s.p ++ sp (capN x.n), col := s.col + (capN x.n : Nat) }
  else { s with p := s.p ++ [10] ++ sp (capN (s.g.ind + x.off)), col := (capN (s.g.ind + x.off) : Nat) }
/-- What an item's value is. -/
def itV (x : It) : Value := .agg #[.int .u8 (x.kind : Nat), .string (str x.tx), .int .i64 x.n, .int .i64 x.off, .bool x.col, .bool x.whole]
theorem cell_of {w : World} {k : Nat} {x : Array Value} {t : TypeId} (h : w.heap[k]? = some (.cells x t (0, 0))) (j : Nat) : w.cell? ⟨k, j, none⟩ = x[j]? := by simp [World.cell?, h]

set_option maxHeartbeats 4000000 in
theorem gap_any {B K : Nat} {w0 w : World} {wd : Int} {s : Ly} (h : PM B K w0 wd s w) (x : It) (ok : OkIt x) (fits : Bool) (hc : 0 ≤ s.col ∧ s.col ≤ 1000000) (hlen : s.p.length ≤ 400000) (hg : s.gs.length ≤ 1000) (hi : -1100000000000 ≤ s.g.ind ∧ s.g.ind ≤ 1100000000000) :
    Calls Try.prog 31 #[.pointer (some ⟨K, 0, none⟩), .agg #[.int .u8 (x.kind : Nat), .string (str x.tx), .int .i64 x.n, .int .i64 x.off, .bool x.col, .bool x.whole], .bool fits] w fun e w' => e = .returned (.tuple #[]) ∧ PM B K w0 wd (gapS s x fits) w' := by
  obtain ⟨q, col, ⟨fl, wh, ind⟩, gs⟩ := s
  obtain ⟨p, bv, gv, h⟩ := h
  simp only at h hc hlen hg hi
  have h1 := h.grown (grownBy_alloc w (.cells #[.int .u8 (x.kind : Nat), .string (str x.tx), .int .i64 x.n, .int .i64 x.off, .bool x.col, .bool x.whole] 38))
  have ci := inner_any h1 (by rw [List.length_reverse]; exact hg)
  have hM : (w.alloc (.cells #[.int .u8 (x.kind : Nat), .string (str x.tx), .int .i64 x.n, .int .i64 x.off, .bool x.col, .bool x.whole] 38)).heap[w.heap.size]? = some (.cells #[.int .u8 (x.kind : Nat), .string (str x.tx), .int .i64 x.n, .int .i64 x.off, .bool x.col, .bool x.whole] 38 (0, 0)) := heap_alloc_new _ _
  have hMK : w.heap.size ≠ K := by have := h.lt; omega
  clear h h1
  go_enter Try.func31, Try.ntmps31
  go_wp2_with fail
  refine ci.mono ?_
  rintro e w2 ⟨rfl, h2, hb2⟩
  clear ci
  have hM2 := (hb2.block _ (Array.getElem?_eq_some_iff.1 hM).1).trans hM
  have H3 := hidden (h2.grown (grownBy_alloc w2 (.cells #[.int .i64 ind, .bool fl, .bool wh] 78)))
  have hM3 := (Below.heap_alloc w2 (.cells #[.int .i64 ind, .bool fl, .bool wh] 78) _ (Array.getElem?_eq_some_iff.1 hM2).1).trans hM2
  have hN3 : (w2.alloc (.cells #[.int .i64 ind, .bool fl, .bool wh] 78)).heap[w2.heap.size]? = some (.cells #[.int .i64 ind, .bool fl, .bool wh] 78 (0, 0)) := heap_alloc_new _ _
  have hNK : w2.heap.size ≠ K := by have := h2.lt; omega
  generalize w.heap.size = M at *
  clear hb2 hM hM2 h2
  have g0 := cell_of hN3 0
  have g1 := cell_of hN3 1
  have g2 := cell_of hN3 2
  have i2 := cell_of hM3 2
  simp only [List.getElem?_toArray, List.getElem?_cons_zero, List.getElem?_cons_succ] at g0 g1 g2 i2
  have HM3 := hidden hM3
  have HN3 := hidden hN3
  clear hM3 hN3
  cases fl with
  | true =>
    have hN := spaces_any H3.out x.n (by have := ok.n; omega) hc (by omega)
    have HG : Hid (gapS ⟨q, col, ⟨true, wh, ind⟩, gs⟩ x fits = ⟨q ++ sp (capN x.n), col + (capN x.n : Nat), ⟨true, wh, ind⟩, gs⟩) := by unfold Hid gapS; rw [if_pos (Or.inl rfl)]
    clear ok H3
    go_wp2_with fail
    refine hN.mono ?_
    rintro e w4 ⟨rfl, p', bv', h4⟩
    have H4 := hidden h4
    clear hN h4
    go_wp2_with fail
    (try simp only [Exit.inBlock, Exit.then]); refine bodyPost_ret (results_none rfl _ _ _) rfl ?_
    rw [HG.out]
    exact ⟨rfl, _, _, _, H4.out⟩
  | false =>
    cases wh with
    | true =>
      have hB := writeB_any H3.out 10 (by omega)
      rw [show ((10 : Nat) : Int) = 10 from rfl] at hB
      have HG : Hid (gapS ⟨q, col, ⟨false, true, ind⟩, gs⟩ x fits = ⟨q ++ [10] ++ sp (capN (ind + x.off)), (capN (ind + x.off) : Nat), ⟨false, true, ind⟩, gs⟩) := by unfold Hid gapS; rw [if_neg (by simp)]
      have hoff := ok.off
      clear ok H3
      go_wp2_with fail
      refine hB.mono ?_
      rintro e w4 ⟨rfl, ⟨p', bv', h4⟩, hk4⟩
      have hM4 := hk4 M _ 38 HM3.out hMK (by decide)
      have hN4 := hk4 w2.heap.size _ 78 HN3.out hNK (by decide)
      have c3 := h4.c3
      have f3 := h4.free 3
      have h5 := h4.column 0
      have e0 : (w4.setCell ⟨K, 3, none⟩ (.int .i64 0)).cell? ⟨w2.heap.size, 0, none⟩ = some (.int .i64 ind) := by rw [cell_of ((set_other w4 K 3 (.int .i64 0) w2.heap.size hNK).trans hN4)]; rfl
      have e3 : (w4.setCell ⟨K, 3, none⟩ (.int .i64 0)).cell? ⟨M, 3, none⟩ = some (.int .i64 x.off) := by rw [cell_of ((set_other w4 K 3 (.int .i64 0) M hMK).trans hM4)]; rfl
      have hS := spaces_any h5 (ind + x.off) (by omega) (by omega) (by simp; omega)
      rw [Int.zero_add] at hS
      clear hB h4 h5 hk4 hM4 hN4 g0 g1 g2 i2
      go_wp2_with fail
      refine hS.mono ?_
      rintro e w5 ⟨rfl, p'', bv'', h6⟩
      have H6 := hidden h6
      clear hS h6
      go_wp2_with fail
      go_end0
      rw [HG.out]
      exact ⟨rfl, _, _, _, H6.out⟩
    | false =>
      cases fits with
      | true =>
        have hN := spaces_any H3.out x.n (by have := ok.n; omega) hc (by omega)
        have HG : Hid (gapS ⟨q, col, ⟨false, false, ind⟩, gs⟩ x true = ⟨q ++ sp (capN x.n), col + (capN x.n : Nat), ⟨false, false, ind⟩, gs⟩) := by unfold Hid gapS; rw [if_pos (Or.inr ⟨rfl, rfl⟩)]
        clear ok H3
        go_wp2_with fail
        refine hN.mono ?_
        rintro e w4 ⟨rfl, p', bv', h4⟩
        have H4 := hidden h4
        clear hN h4
        go_wp2_with fail
        (try simp only [Exit.inBlock, Exit.then]); refine bodyPost_ret (results_none rfl _ _ _) rfl ?_
        rw [HG.out]
        exact ⟨rfl, _, _, _, H4.out⟩
      | false =>
        have hB := writeB_any H3.out 10 (by omega)
        rw [show ((10 : Nat) : Int) = 10 from rfl] at hB
        have HG : Hid (gapS ⟨q, col, ⟨false, false, ind⟩, gs⟩ x false = ⟨q ++ [10] ++ sp (capN (ind + x.off)), (capN (ind + x.off) : Nat), ⟨false, false, ind⟩, gs⟩) := by unfold Hid gapS; rw [if_neg (by simp)]
        have hoff := ok.off
        clear ok H3
        go_wp2_with fail
        refine hB.mono ?_
        rintro e w4 ⟨rfl, ⟨p', bv', h4⟩, hk4⟩
        have hM4 := hk4 M _ 38 HM3.out hMK (by decide)
        have hN4 := hk4 w2.heap.size _ 78 HN3.out hNK (by decide)
        have c3 := h4.c3
        have f3 := h4.free 3
        have h5 := h4.column 0
        have e0 : (w4.setCell ⟨K, 3, none⟩ (.int .i64 0)).cell? ⟨w2.heap.size, 0, none⟩ = some (.int .i64 ind) := by rw [cell_of ((set_other w4 K 3 (.int .i64 0) w2.heap.size hNK).trans hN4)]; rfl
        have e3 : (w4.setCell ⟨K, 3, none⟩ (.int .i64 0)).cell? ⟨M, 3, none⟩ = some (.int .i64 x.off) := by rw [cell_of ((set_other w4 K 3 (.int .i64 0) M hMK).trans hM4)]; rfl
        have hS := spaces_any h5 (ind + x.off) (by omega) (by omega) (by simp; omega)
        rw [Int.zero_add] at hS
        clear hB h4 h5 hk4 hM4 hN4 g0 g1 g2 i2
        go_wp2_with fail
        refine hS.mono ?_
        rintro e w5 ⟨rfl, p'', bv'', h6⟩
        have H6 := hidden h6
        clear hS h6
        go_wp2_with fail
        go_end0
        rw [HG.out]
        exact ⟨rfl, _, _, _, H6.out⟩
end Go.Proofs.PlatenLayout
