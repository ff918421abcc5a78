/- What item of the printer comes to. -/
import Derived.Test.YtaefnlknendapaaLyG
namespace Go.Proofs.PlatenLayout
open Go Go.RowKit Go.Shelf
set_option linter.unusedVariables false
set_option maxRecDepth 100000

/-- An item printed as the program prints it: no more than so many spaces at once. -/
def itemS (wd : Int) (s : Ly) (x : It) (sz : Nat) : Ly :=
  if x.kind = 1 then { s with p := s.p ++ x.tx, col := s.col + (sz : Nat) }
  else if x.kind = 2 then gapS s x (decide ((sz : Int) ≤ wd - s.col))
  else if x.kind = 3 then begS s x (decide ((sz : Int) ≤ wd - s.col))
  else if x.kind = 4 then (match s.gs with | [] => s | h :: t => { s with g := h, gs := t })
  else s
set_option maxHeartbeats 4000000 in
theorem item_any {B KB : Nat} {w0 w : World} {wd : Int} {s : Ly} (h : PM B KB w0 wd s w) (x : It) (ok : OkIt x) (sz : Nat) (hsz : sz ≤ 2000000000) (hc : 0 ≤ s.col ∧ s.col ≤ 1000000) (hlen : s.p.length ≤ 400000) (hg : s.gs.length ≤ 1000) (hi : -1100000000000 ≤ s.g.ind ∧ s.g.ind ≤ 1100000000000) :
    Calls Try.prog 23 #[.pointer (some ⟨KB, 0, none⟩), .agg #[.int .u8 (x.kind : Nat), .string (str x.tx), .int .i64 x.n, .int .i64 x.off, .bool x.col, .bool x.whole], .int .i64 (sz : Nat)] w fun e w' => e = .returned (.tuple #[]) ∧ PM B KB w0 wd (itemS wd s x sz) w' := by
  have h1 : PM B KB w0 wd s (w.alloc (.cells #[.int .u8 (x.kind : Nat), .string (str x.tx), .int .i64 x.n, .int .i64 x.off, .bool x.col, .bool x.whole] 38)) := by
    obtain ⟨p, bv, gv, h⟩ := h
    exact ⟨p, bv, gv, h.grown (grownBy_alloc w _)⟩
  have hM : (w.alloc (.cells #[.int .u8 (x.kind : Nat), .string (str x.tx), .int .i64 x.n, .int .i64 x.off, .bool x.col, .bool x.whole] 38)).heap[w.heap.size]? = some (.cells #[.int .u8 (x.kind : Nat), .string (str x.tx), .int .i64 x.n, .int .i64 x.off, .bool x.col, .bool x.whole] 38 (0, 0)) := heap_alloc_new _ _
  have hMK : w.heap.size ≠ KB := by
    obtain ⟨p, bv, gv, h⟩ := h
    have := h.lt
    omega
  clear h
  have i0 := cell_of hM 0
  have i1 := cell_of hM 1
  simp only [List.getElem?_toArray, List.getElem?_cons_zero, List.getElem?_cons_succ] at i0 i1
  by_cases k1 : x.kind = 1
  · have z1 : ((x.kind : Int) == 1) = true := by simp; omega
    have HG : Hid (itemS wd s x sz = { s with p := s.p ++ x.tx, col := s.col + (sz : Nat) }) := by unfold Hid itemS; simp [k1]
    obtain ⟨p, bv, gv, h1⟩ := h1
    have cw := writeS_any (h1.grown (grown_d _)) x.tx ok.tx (by have := ok.len; omega)
    clear h1 ok k1
    go_enter Try.func23, Try.ntmps23
    go_wp2_with fail
    refine wp_region_held_drew (S := (fun u => u.cell? ⟨w.heap.size, 1, none⟩ = some (.string (str x.tx)))) (by kernel_rfl) i1 (fun hHeld => ?_)
    refine take_dst 0 (some 11) rfl rfl (by kernel_rfl) (by kernel_rfl) (by kernel_rfl) (fun _ _ _ h => h) (v := ?_) (Or.inl ⟨by rfl, ?_⟩) (by assumption) ?_
    rotate_left
    · (intro w hSw; (try dsimp only at hSw); go_simp; try with_reducible rfl)
    simp only [Act.put, List.setIfInBounds_toArray, List.set_cons_zero, List.set_cons_succ]
    refine take_dst 1 (some 12) rfl rfl (by kernel_rfl) (by kernel_rfl) (by kernel_rfl) (fun _ _ _ h => h) (v := ?_) (Or.inl ⟨by rfl, ?_⟩) (by assumption) ?_
    rotate_left
    · (intro w hSw; (try dsimp only at hSw); go_simp; try with_reducible rfl)
    simp only [Act.put, List.setIfInBounds_toArray, List.set_cons_zero, List.set_cons_succ]
    refine take_dst 2 (some 13) rfl rfl (by kernel_rfl) (by kernel_rfl) (by kernel_rfl) (fun _ _ _ h => h) (v := ?_) (Or.inl ⟨by rfl, ?_⟩) (by assumption) ?_
    rotate_left
    · (intro w hSw; (try dsimp only at hSw); go_simp; try with_reducible rfl)
    simp only [Act.put, List.setIfInBounds_toArray, List.set_cons_zero, List.set_cons_succ]
    refine take_dst 3 (some 14) rfl rfl (by kernel_rfl) (by kernel_rfl) (by kernel_rfl) (fun _ _ _ h => h) (v := ?_) (Or.inl ⟨by rfl, ?_⟩) (by assumption) ?_
    rotate_left
    · (intro w hSw; (try dsimp only at hSw); go_simp; try with_reducible rfl)
    simp only [Act.put, List.setIfInBounds_toArray, List.set_cons_zero, List.set_cons_succ]
    refine take_dst 4 (some 15) rfl rfl (by kernel_rfl) (by kernel_rfl) (by kernel_rfl) (fun _ _ _ h => h) (v := ?_) (Or.inl ⟨by rfl, ?_⟩) (by assumption) ?_
    rotate_left
    · (intro w hSw; (try dsimp only at hSw); go_simp; try with_reducible rfl)
    simp only [Act.put, List.setIfInBounds_toArray, List.set_cons_zero, List.set_cons_succ]
    refine wpAnyH_ready (rs := [5]) (by kernel_rfl) (by simp) ?_
    refine AllReadyH.cons rfl (fun K hK => ?_) AllReadyH.nil
    go_simp
    refine cw.mono ?_
    rintro e w3 ⟨rfl, ⟨p', bv', h3⟩, hk3⟩
    have j1 := cell_of (hk3 _ _ 38 hM hMK (by decide)) 1
    simp only [List.getElem?_toArray, List.getElem?_cons_zero, List.getElem?_cons_succ] at j1
    have c3 := h3.c3
    have f3 := h3.free 3
    have H4 := hidden (h3.column (s.col + (sz : Nat)))
    refine hK.out _ _ j1 (fun hHeld1 => ?_)
    clear hK K cw h3 hk3 hM j1 hHeld hHeld1
    refine wpAnyH_done (by kernel_rfl) ?_ _
    go_wp2_with fail
    go_end0
    rw [HG.out]
    exact ⟨rfl, _, _, _, H4.out⟩
  have z1 : ((x.kind : Int) == 1) = false := by simp; omega
  by_cases k2 : x.kind = 2
  · have z2 : ((x.kind : Int) == 2) = true := by simp; omega
    have HG : Hid (itemS wd s x sz = gapS s x (decide ((sz : Int) ≤ wd - s.col))) := by unfold Hid itemS; simp [k2]
    have hA : ∀ u : World, u.heap[w.heap.size]? = some (.cells #[.int .u8 (x.kind : Nat), .string (str x.tx), .int .i64 x.n, .int .i64 x.off, .bool x.col, .bool x.whole] 38 (0, 0)) → u.cell? ⟨w.heap.size, 0, none⟩ = some (.int .u8 (x.kind : Nat)) ∧ u.cell? ⟨w.heap.size, 1, none⟩ = some (.string (str x.tx)) ∧ u.cell? ⟨w.heap.size, 2, none⟩ = some (.int .i64 x.n) ∧ u.cell? ⟨w.heap.size, 3, none⟩ = some (.int .i64 x.off) ∧ u.cell? ⟨w.heap.size, 4, none⟩ = some (.bool x.col) ∧ u.cell? ⟨w.heap.size, 5, none⟩ = some (.bool x.whole) := fun u hu => ⟨by rw [cell_of hu]; rfl, by rw [cell_of hu]; rfl, by rw [cell_of hu]; rfl, by rw [cell_of hu]; rfl, by rw [cell_of hu]; rfl, by rw [cell_of hu]; rfl⟩
    have hA1 := hA _ (show (w.alloc (.cells #[.int .u8 (x.kind : Nat), .string (str x.tx), .int .i64 x.n, .int .i64 x.off, .bool x.col, .bool x.whole] 38)).drew.heap[w.heap.size]? = _ from hM)
    obtain ⟨p, bv, gv, h1⟩ := h1
    have cf := fits_any (h1.grown (grown_d _)) sz hsz hc
    have HA1 := hidden hA1
    have hMl : w.heap.size < (w.alloc (.cells #[.int .u8 (x.kind : Nat), .string (str x.tx), .int .i64 x.n, .int .i64 x.off, .bool x.col, .bool x.whole] 38)).drew.heap.size := by show w.heap.size < (w.alloc (.cells #[.int .u8 (x.kind : Nat), .string (str x.tx), .int .i64 x.n, .int .i64 x.off, .bool x.col, .bool x.whole] 38)).heap.size; simp
    have HOk := hidden ok
    generalize decide ((sz : Int) ≤ wd - s.col) = fits at *
    clear h1 ok k2 hA1
    go_enter Try.func23, Try.ntmps23
    go_wp2_with fail
    refine wp_region_held_drew (S := (fun u => True)) (by kernel_rfl) trivial (fun hHeld => ?_)
    refine take_dst 0 (some 27) rfl rfl (by kernel_rfl) (by kernel_rfl) (by kernel_rfl) (fun _ _ _ h => h) (v := ?_) (Or.inl ⟨by rfl, ?_⟩) (by assumption) ?_
    rotate_left
    · (intro w hSw; (try dsimp only at hSw); go_simp; try with_reducible rfl)
    simp only [Act.put, List.setIfInBounds_toArray, List.set_cons_zero, List.set_cons_succ]
    refine take_dst 2 (some 29) rfl rfl (by kernel_rfl) (by kernel_rfl) (by kernel_rfl) (fun _ _ _ h => h) (v := ?_) (Or.inl ⟨by rfl, ?_⟩) (by assumption) ?_
    rotate_left
    · (intro w hSw; (try dsimp only at hSw); go_simp; try with_reducible rfl)
    simp only [Act.put, List.setIfInBounds_toArray, List.set_cons_zero, List.set_cons_succ]
    refine take_dst 3 (some 30) rfl rfl (by kernel_rfl) (by kernel_rfl) (by kernel_rfl) (fun _ _ _ h => h) (v := ?_) (Or.inl ⟨by rfl, ?_⟩) (by assumption) ?_
    rotate_left
    · (intro w hSw; (try dsimp only at hSw); go_simp; try with_reducible rfl)
    simp only [Act.put, List.setIfInBounds_toArray, List.set_cons_zero, List.set_cons_succ]
    obtain ⟨j0, j1, j2, j3, j4, j5⟩ := HA1.out
    have hMd : (w.alloc (.cells #[.int .u8 (x.kind : Nat), .string (str x.tx), .int .i64 x.n, .int .i64 x.off, .bool x.col, .bool x.whole] 38)).drew.heap[w.heap.size]? = some (.cells #[.int .u8 (x.kind : Nat), .string (str x.tx), .int .i64 x.n, .int .i64 x.off, .bool x.col, .bool x.whole] 38 (0, 0)) := hM
    clear hM i0 i1
    have HMd := hidden hMd
    clear hMd
    generalize (w.alloc (.cells #[.int .u8 (x.kind : Nat), .string (str x.tx), .int .i64 x.n, .int .i64 x.off, .bool x.col, .bool x.whole] 38)).drew = Wd at *
    refine wpAnyH_ready (rs := [1, 4]) (by kernel_rfl) (by simp) ?_
    refine AllReadyH.cons rfl (fun K hK => ?_) (AllReadyH.cons rfl (fun K hK => ?_) AllReadyH.nil)
    · go_simp
      refine hK.out _ _ trivial (fun hHeld1 => ?_)
      clear hK K j0 j1 j2 j3 j4 j5
      refine wpAnyH_ready (rs := [4]) (by kernel_rfl) (by simp) ?_
      refine AllReadyH.cons rfl (fun K hK => ?_) AllReadyH.nil
      go_simp
      refine cf.mono ?_
      rintro e w3 ⟨rfl, h3, hb3⟩
      have cg := gap_any (s := s) ⟨_, _, _, h3⟩ x HOk.out fits hc hlen hg hi
      refine hK.out _ _ trivial (fun hHeld2 => ?_)
      clear hK K h3 hb3 cf
      refine wpAnyH_ready (rs := [5]) (by kernel_rfl) (by simp) ?_
      refine AllReadyH.cons rfl (fun K hK => ?_) AllReadyH.nil
      go_simp
      refine cg.mono ?_
      rintro e w4 ⟨rfl, h4⟩
      have H4 := hidden h4
      refine hK.out _ _ trivial (fun hHeld3 => ?_)
      clear hK K cg h4
      refine wpAnyH_done (by kernel_rfl) ?_ _
      go_wp2_with fail
      go_end0
      rw [HG.out]
      exact ⟨rfl, H4.out⟩
    · go_simp
      refine cf.mono ?_
      rintro e w3 ⟨rfl, h3, hb3⟩
      have hM3 := (hb3.block _ (Array.getElem?_eq_some_iff.1 HMd.out).1).trans HMd.out
      obtain ⟨m0, m1, m2, m3, m4, m5⟩ := hA _ hM3
      have cg := gap_any (s := s) ⟨_, _, _, h3⟩ x HOk.out fits hc hlen hg hi
      refine hK.out _ _ trivial (fun hHeld2 => ?_)
      clear hK K h3 hb3 cf hM3 hA j0 j1 j2 j3 j4 j5
      refine wpAnyH_ready (rs := [1]) (by kernel_rfl) (by simp) ?_
      refine AllReadyH.cons rfl (fun K hK => ?_) AllReadyH.nil
      go_simp
      refine hK.out _ _ trivial (fun hHeld1 => ?_)
      clear hK K m0 m1 m2 m3 m4 m5
      refine wpAnyH_ready (rs := [5]) (by kernel_rfl) (by simp) ?_
      refine AllReadyH.cons rfl (fun K hK => ?_) AllReadyH.nil
      go_simp
      refine cg.mono ?_
      rintro e w4 ⟨rfl, h4⟩
      have H4 := hidden h4
      refine hK.out _ _ trivial (fun hHeld3 => ?_)
      clear hK K cg h4
      refine wpAnyH_done (by kernel_rfl) ?_ _
      go_wp2_with fail
      go_end0
      rw [HG.out]
      exact ⟨rfl, H4.out⟩
  have z2 : ((x.kind : Int) == 2) = false := by simp; omega
  by_cases k3 : x.kind = 3
  · have z3 : ((x.kind : Int) == 3) = true := by simp; omega
    have HG : Hid (itemS wd s x sz = begS s x (decide ((sz : Int) ≤ wd - s.col))) := by unfold Hid itemS; simp [k3]
    have hA : ∀ u : World, u.heap[w.heap.size]? = some (.cells #[.int .u8 (x.kind : Nat), .string (str x.tx), .int .i64 x.n, .int .i64 x.off, .bool x.col, .bool x.whole] 38 (0, 0)) → u.cell? ⟨w.heap.size, 0, none⟩ = some (.int .u8 (x.kind : Nat)) ∧ u.cell? ⟨w.heap.size, 1, none⟩ = some (.string (str x.tx)) ∧ u.cell? ⟨w.heap.size, 2, none⟩ = some (.int .i64 x.n) ∧ u.cell? ⟨w.heap.size, 3, none⟩ = some (.int .i64 x.off) ∧ u.cell? ⟨w.heap.size, 4, none⟩ = some (.bool x.col) ∧ u.cell? ⟨w.heap.size, 5, none⟩ = some (.bool x.whole) := fun u hu => ⟨by rw [cell_of hu]; rfl, by rw [cell_of hu]; rfl, by rw [cell_of hu]; rfl, by rw [cell_of hu]; rfl, by rw [cell_of hu]; rfl, by rw [cell_of hu]; rfl⟩
    have hA1 := hA _ (show (w.alloc (.cells #[.int .u8 (x.kind : Nat), .string (str x.tx), .int .i64 x.n, .int .i64 x.off, .bool x.col, .bool x.whole] 38)).drew.heap[w.heap.size]? = _ from hM)
    obtain ⟨p, bv, gv, h1⟩ := h1
    have cf := fits_any (h1.grown (grown_d _)) sz hsz hc
    have HA1 := hidden hA1
    have hMl : w.heap.size < (w.alloc (.cells #[.int .u8 (x.kind : Nat), .string (str x.tx), .int .i64 x.n, .int .i64 x.off, .bool x.col, .bool x.whole] 38)).drew.heap.size := by show w.heap.size < (w.alloc (.cells #[.int .u8 (x.kind : Nat), .string (str x.tx), .int .i64 x.n, .int .i64 x.off, .bool x.col, .bool x.whole] 38)).heap.size; simp
    have HOk := hidden ok
    generalize decide ((sz : Int) ≤ wd - s.col) = fits at *
    clear h1 ok k3 hA1
    go_enter Try.func23, Try.ntmps23
    go_wp2_with fail
    refine wp_region_held_drew (S := (fun u => True)) (by kernel_rfl) trivial (fun hHeld => ?_)
    refine take_dst 0 (some 35) rfl rfl (by kernel_rfl) (by kernel_rfl) (by kernel_rfl) (fun _ _ _ h => h) (v := ?_) (Or.inl ⟨by rfl, ?_⟩) (by assumption) ?_
    rotate_left
    · (intro w hSw; (try dsimp only at hSw); go_simp; try with_reducible rfl)
    simp only [Act.put, List.setIfInBounds_toArray, List.set_cons_zero, List.set_cons_succ]
    refine take_dst 2 (some 37) rfl rfl (by kernel_rfl) (by kernel_rfl) (by kernel_rfl) (fun _ _ _ h => h) (v := ?_) (Or.inl ⟨by rfl, ?_⟩) (by assumption) ?_
    rotate_left
    · (intro w hSw; (try dsimp only at hSw); go_simp; try with_reducible rfl)
    simp only [Act.put, List.setIfInBounds_toArray, List.set_cons_zero, List.set_cons_succ]
    refine take_dst 3 (some 38) rfl rfl (by kernel_rfl) (by kernel_rfl) (by kernel_rfl) (fun _ _ _ h => h) (v := ?_) (Or.inl ⟨by rfl, ?_⟩) (by assumption) ?_
    rotate_left
    · (intro w hSw; (try dsimp only at hSw); go_simp; try with_reducible rfl)
    simp only [Act.put, List.setIfInBounds_toArray, List.set_cons_zero, List.set_cons_succ]
    obtain ⟨j0, j1, j2, j3, j4, j5⟩ := HA1.out
    have hMd : (w.alloc (.cells #[.int .u8 (x.kind : Nat), .string (str x.tx), .int .i64 x.n, .int .i64 x.off, .bool x.col, .bool x.whole] 38)).drew.heap[w.heap.size]? = some (.cells #[.int .u8 (x.kind : Nat), .string (str x.tx), .int .i64 x.n, .int .i64 x.off, .bool x.col, .bool x.whole] 38 (0, 0)) := hM
    clear hM i0 i1
    have HMd := hidden hMd
    clear hMd
    generalize (w.alloc (.cells #[.int .u8 (x.kind : Nat), .string (str x.tx), .int .i64 x.n, .int .i64 x.off, .bool x.col, .bool x.whole] 38)).drew = Wd at *
    refine wpAnyH_ready (rs := [1, 4]) (by kernel_rfl) (by simp) ?_
    refine AllReadyH.cons rfl (fun K hK => ?_) (AllReadyH.cons rfl (fun K hK => ?_) AllReadyH.nil)
    · go_simp
      refine hK.out _ _ trivial (fun hHeld1 => ?_)
      clear hK K j0 j1 j2 j3 j4 j5
      refine wpAnyH_ready (rs := [4]) (by kernel_rfl) (by simp) ?_
      refine AllReadyH.cons rfl (fun K hK => ?_) AllReadyH.nil
      go_simp
      refine cf.mono ?_
      rintro e w3 ⟨rfl, h3, hb3⟩
      have cg := begin_any (s := s) ⟨_, _, _, h3⟩ x HOk.out fits hc hg hi
      refine hK.out _ _ trivial (fun hHeld2 => ?_)
      clear hK K h3 hb3 cf
      refine wpAnyH_ready (rs := [5]) (by kernel_rfl) (by simp) ?_
      refine AllReadyH.cons rfl (fun K hK => ?_) AllReadyH.nil
      go_simp
      refine cg.mono ?_
      rintro e w4 ⟨rfl, h4⟩
      have H4 := hidden h4
      refine hK.out _ _ trivial (fun hHeld3 => ?_)
      clear hK K cg h4
      refine wpAnyH_done (by kernel_rfl) ?_ _
      go_wp2_with fail
      go_end0
      rw [HG.out]
      exact ⟨rfl, H4.out⟩
    · go_simp
      refine cf.mono ?_
      rintro e w3 ⟨rfl, h3, hb3⟩
      have hM3 := (hb3.block _ (Array.getElem?_eq_some_iff.1 HMd.out).1).trans HMd.out
      obtain ⟨m0, m1, m2, m3, m4, m5⟩ := hA _ hM3
      have cg := begin_any (s := s) ⟨_, _, _, h3⟩ x HOk.out fits hc hg hi
      refine hK.out _ _ trivial (fun hHeld2 => ?_)
      clear hK K h3 hb3 cf hM3 hA j0 j1 j2 j3 j4 j5
      refine wpAnyH_ready (rs := [1]) (by kernel_rfl) (by simp) ?_
      refine AllReadyH.cons rfl (fun K hK => ?_) AllReadyH.nil
      go_simp
      refine hK.out _ _ trivial (fun hHeld1 => ?_)
      clear hK K m0 m1 m2 m3 m4 m5
      refine wpAnyH_ready (rs := [5]) (by kernel_rfl) (by simp) ?_
      refine AllReadyH.cons rfl (fun K hK => ?_) AllReadyH.nil
      go_simp
      refine cg.mono ?_
      rintro e w4 ⟨rfl, h4⟩
      have H4 := hidden h4
      refine hK.out _ _ trivial (fun hHeld3 => ?_)
      clear hK K cg h4
      refine wpAnyH_done (by kernel_rfl) ?_ _
      go_wp2_with fail
      go_end0
      rw [HG.out]
      exact ⟨rfl, H4.out⟩
  have z3 : ((x.kind : Int) == 3) = false := by simp; omega
  by_cases k4 : x.kind = 4
  · have z4 : ((x.kind : Int) == 4) = true := by simp; omega
    obtain ⟨q, col, g, gs⟩ := s
    cases gs with
    | nil =>
      have HG : Hid (itemS wd ⟨q, col, g, []⟩ x sz = ⟨q, col, g, []⟩) := by unfold Hid itemS; simp [k4]
      have H1 := hidden h1
      obtain ⟨p, bv, gv, h1⟩ := h1
      obtain ⟨va, vc, rfl⟩ := row_slice h1.grow
      have c4 : (w.alloc (.cells #[.int .u8 (x.kind : Nat), .string (str x.tx), .int .i64 x.n, .int .i64 x.off, .bool x.col, .bool x.whole] 38)).cell? ⟨KB, 4, none⟩ = some (.slice va 1 vc) := h1.c4
      clear h1 hM ok k4
      go_enter Try.func23, Try.ntmps23
      go_wp2_with fail
      go_end0
      rw [HG.out]
      exact ⟨rfl, H1.out⟩
    | cons g1 gs =>
      have HG : Hid (itemS wd ⟨q, col, g, g1 :: gs⟩ x sz = ⟨q, col, g1, gs⟩) := by unfold Hid itemS; simp [k4]
      obtain ⟨p, bv, gv, h1⟩ := h1
      have h1 : PR B KB w0 (w.alloc (.cells #[.int .u8 (x.kind : Nat), .string (str x.tx), .int .i64 x.n, .int .i64 x.off, .bool x.col, .bool x.whole] 38)) p bv gv wd col q ((g1 :: gs).reverse ++ [g]) := h1
      obtain ⟨va, vc, rfl⟩ := row_slice h1.grow
      have hl : ((g1 :: gs).reverse ++ [g]).length = gs.length + 2 := by simp
      have hl2 : ((g1 :: gs).reverse).length = gs.length + 1 := by simp
      have hcut := rowG_cut h1.grow
      rw [hl2] at hcut
      have hcap : gs.length + 2 ≤ vc := by
        rcases h1.grow.2 with ⟨e, h0⟩ | ⟨gb, cp, cur, e, hbg, hgg, hnc, hcm, hcs, ht⟩
        · simp at h0
        · injection e with e1 e2 e3
          rw [hl] at hnc
          omega
      have c4 : (w.alloc (.cells #[.int .u8 (x.kind : Nat), .string (str x.tx), .int .i64 x.n, .int .i64 x.off, .bool x.col, .bool x.whole] 38)).cell? ⟨KB, 4, none⟩ = some (.slice va (gs.length + 2) vc) := by rw [h1.c4, hl]
      have f4 := h1.free 4
      have hg1 : gs.length + 1 ≤ 1000 := by simpa using hg
      have H2 := hidden (h1.groups (v' := .slice va (gs.length + 1) vc) (G' := gs.reverse ++ [g1]) (by rw [show (gs.reverse ++ [g1]).length = gs.length + 1 by simp, ← List.reverse_cons]; exact hcut) ⟨rfl, rfl, rfl, Nat.le_refl _, fun _ _ _ => rfl⟩)
      clear h1 hM ok k4 hcut hl hl2 hg
      generalize gs.length = m at *
      go_enter Try.func23, Try.ntmps23
      go_wp2_with fail
      go_end0
      rw [HG.out]
      exact ⟨rfl, _, _, _, H2.out⟩
  have z4 : ((x.kind : Int) == 4) = false := by simp; omega
  have HG : Hid (itemS wd s x sz = s) := by unfold Hid itemS; simp [k1, k2, k3, k4]
  have H1 := hidden h1
  clear h1 hM ok k1 k2 k3 k4
  go_enter Try.func23, Try.ntmps23
  go_wp2_with fail
  go_end0
  rw [HG.out]
  exact ⟨rfl, H1.out⟩
end Go.Proofs.PlatenLayout
