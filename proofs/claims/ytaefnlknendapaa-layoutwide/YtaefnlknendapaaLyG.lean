/- What begin of the printer comes to. -/
import Derived.Test.YtaefnlknendapaaLyF
namespace Go.Proofs.PlatenLayout
open Go Go.RowKit Go.Shelf
set_option linter.unusedVariables false
set_option maxRecDepth 100000

/-- A group begun. -/
def begS (s : Ly) (x : It) (fits : Bool) : Ly := { s with g := ⟨fits, x.whole, (if x.col then s.col else s.g.ind) + x.off⟩, gs := s.g :: s.gs }
theorem one3 (a : Int) (b c : Bool) : ∀ u ∈ [Value.int .i64 a, Value.bool b, Value.bool c], u.oneCell' = true := by
  intro u hu
  simp at hu
  rcases hu with rfl | rfl | rfl <;> rfl
set_option maxHeartbeats 4000000 in
theorem begin_any {B KB : Nat} {w0 w : World} {wd : Int} {s : Ly} (h : PM B KB w0 wd s w) (x : It) (ok : OkIt x) (fits : Bool) (hc : 0 ≤ s.col ∧ s.col ≤ 1000000) (hg : s.gs.length ≤ 1000) (hi : -1100000000000 ≤ s.g.ind ∧ s.g.ind ≤ 1100000000000) :
    Calls Try.prog 33 #[.pointer (some ⟨KB, 0, none⟩), .agg #[.int .u8 (x.kind : Nat), .string (str x.tx), .int .i64 x.n, .int .i64 x.off, .bool x.col, .bool x.whole], .bool fits] w fun e w' => e = .returned (.tuple #[]) ∧ PM B KB w0 wd (begS s x fits) w' := by
  obtain ⟨i78, hi78, hz78, hy78, hb78⟩ := info_parts info78
  obtain ⟨q, col, ⟨fl, wh, ind⟩, gs⟩ := s
  obtain ⟨p, bv, gv, h⟩ := h
  simp only at h hc hg hi
  have h1 := h.grown (grownBy_alloc w (.cells #[.int .u8 (x.kind : Nat), .string (str x.tx), .int .i64 x.n, .int .i64 x.off, .bool x.col, .bool x.whole] 38))
  have ci := inner_any h1 (by rw [List.length_reverse]; exact hg)
  have hM : (w.alloc (.cells #[.int .u8 (x.kind : Nat), .string (str x.tx), .int .i64 x.n, .int .i64 x.off, .bool x.col, .bool x.whole] 38)).heap[w.heap.size]? = some (.cells #[.int .u8 (x.kind : Nat), .string (str x.tx), .int .i64 x.n, .int .i64 x.off, .bool x.col, .bool x.whole] 38 (0, 0)) := heap_alloc_new _ _
  have hMK : w.heap.size ≠ KB := by have := h.lt; omega
  clear h h1
  have hoff := ok.off
  clear ok
  have hfd : ∀ w : World, (Instr.field 78 (.agg #[.int .i64 ind, .bool fl, .bool wh]) 0).run Try.prog w = .ok (.int .i64 ind) w := fun _ => by kernel_rfl
  go_enter Try.func33, Try.ntmps33
  go_wp2_with fail
  refine ci.mono ?_
  rintro e w2 ⟨rfl, h2, hb2⟩
  clear ci
  have hM3 := (hb2.block _ (Array.getElem?_eq_some_iff.1 hM).1).trans hM
  have H3 := hidden h2
  have c3 := h2.c3
  generalize w.heap.size = M at *
  clear hb2 hM h2
  have i3 := cell_of hM3 3
  have i4 := cell_of hM3 4
  have i5 := cell_of hM3 5
  simp only [List.getElem?_toArray, List.getElem?_cons_zero, List.getElem?_cons_succ] at i3 i4 i5
  have HM3 := hidden hM3
  clear hM3
  obtain ⟨xc, hxc⟩ : ∃ xc, x.col = xc := ⟨_, rfl⟩
  rw [hxc] at i4
  cases xc with
  | true =>
    have HE0 : Hid ((if x.col then col else ind) = col) := by unfold Hid; rw [hxc]; rfl
    have he1 : -1100000000000 ≤ col ∧ col ≤ 1100000000000 := by omega
    clear hxc
    go_wp2_with fail
    have wr0 : IntKind.i64.wrap (col + x.off) = col + x.off := IntWalk.i64_in _ (by omega)
    refine wp_region_held_drew (S := (fun u => u.cell? ⟨M, 3, none⟩ = some (.int .i64 x.off) ∧ u.cell? ⟨M, 5, none⟩ = some (.bool x.whole))) (by kernel_rfl) ⟨i3, i5⟩ (fun hHeld => ?_)
    refine take_dst 0 (some 16) rfl rfl (by kernel_rfl) (by kernel_rfl) (by kernel_rfl) (fun _ _ _ h => h) (v := ?_) (Or.inl ⟨by rfl, ?_⟩) (by assumption) ?_
    rotate_left
    · (intro w hSw; (try dsimp only at hSw); go_simp; try with_reducible rfl)
    simp only [Act.put, List.setIfInBounds_toArray, List.set_cons_zero, List.set_cons_succ]
    refine take_dst 1 (some 17) rfl rfl (by kernel_rfl) (by kernel_rfl) (by kernel_rfl) (fun _ _ _ h => h) (v := ?_) (Or.inl ⟨by rfl, ?_⟩) (by assumption) ?_
    rotate_left
    · (intro w hSw; (try dsimp only at hSw); go_simp; try with_reducible rfl)
    simp only [Act.put, List.setIfInBounds_toArray, List.set_cons_zero, List.set_cons_succ]
    refine take_dst 2 (some 18) rfl rfl (by kernel_rfl) (by kernel_rfl) (by kernel_rfl) (fun _ _ _ h => h) (v := ?_) (Or.inl ⟨by rfl, ?_⟩) (by assumption) ?_
    rotate_left
    · (intro w hSw; (try dsimp only at hSw); go_simp; try with_reducible rfl)
    simp only [Act.put, List.setIfInBounds_toArray, List.set_cons_zero, List.set_cons_succ]
    refine take_dst 3 (some 19) rfl rfl (by kernel_rfl) (by kernel_rfl) (by kernel_rfl) (fun _ _ _ h => h) (v := ?_) (Or.inl ⟨by rfl, ?_⟩) (by assumption) ?_
    rotate_left
    · (intro w hSw; (try dsimp only at hSw); go_simp; try with_reducible rfl)
    simp only [Act.put, List.setIfInBounds_toArray, List.set_cons_zero, List.set_cons_succ]
    refine take_dst 5 (some 21) rfl rfl (by kernel_rfl) (by kernel_rfl) (by kernel_rfl) (fun _ _ _ h => h) (v := ?_) (Or.inl ⟨by rfl, ?_⟩) (by assumption) ?_
    rotate_left
    · (intro w hSw; (try dsimp only at hSw); go_simp; try with_reducible rfl)
    simp only [Act.put, List.setIfInBounds_toArray, List.set_cons_zero, List.set_cons_succ]
    refine take_dst 6 (some 22) rfl rfl (by kernel_rfl) (by kernel_rfl) (by kernel_rfl) (fun _ _ _ h => h) (v := ?_) (Or.inl ⟨by rfl, ?_⟩) (by assumption) ?_
    rotate_left
    · (intro w hSw; (try dsimp only at hSw); go_simp; try with_reducible rfl)
    simp only [Act.put, List.setIfInBounds_toArray, List.set_cons_zero, List.set_cons_succ]
    refine take_dst 7 (some 23) rfl rfl (by kernel_rfl) (by kernel_rfl) (by kernel_rfl) (fun _ _ _ h => h) (v := ?_) (Or.inl ⟨by rfl, ?_⟩) (by assumption) ?_
    rotate_left
    · (intro w hSw; (try dsimp only at hSw); go_simp; try with_reducible rfl)
    simp only [Act.put, List.setIfInBounds_toArray, List.set_cons_zero, List.set_cons_succ]
    refine take_dst 8 (some 24) rfl rfl (by kernel_rfl) (by kernel_rfl) (by kernel_rfl) (fun _ _ _ h => h) (v := ?_) (Or.inl ⟨by rfl, ?_⟩) (by assumption) ?_
    rotate_left
    · (intro w hSw; (try dsimp only at hSw); go_simp; try with_reducible rfl)
    simp only [Act.put, List.setIfInBounds_toArray, List.set_cons_zero, List.set_cons_succ]
    refine take_dst 9 (some 25) rfl rfl (by kernel_rfl) (by kernel_rfl) (by kernel_rfl) (fun _ _ _ h => h) (v := ?_) (Or.inl ⟨by rfl, ?_⟩) (by assumption) ?_
    rotate_left
    · (intro w hSw; (try dsimp only at hSw); go_simp; try with_reducible rfl)
    simp only [Act.put, List.setIfInBounds_toArray, List.set_cons_zero, List.set_cons_succ]
    refine take_dst 10 (some 26) rfl rfl (by kernel_rfl) (by kernel_rfl) (by kernel_rfl) (fun _ _ _ h => h) (v := ?_) (Or.inl ⟨by rfl, ?_⟩) (by assumption) ?_
    rotate_left
    · (intro w hSw; (try dsimp only at hSw); go_simp; try with_reducible rfl)
    simp only [Act.put, List.setIfInBounds_toArray, List.set_cons_zero, List.set_cons_succ]
    refine take_dst 11 (some 27) rfl rfl (by kernel_rfl) (by kernel_rfl) (by kernel_rfl) (fun _ _ _ h => h) (v := ?_) (Or.inl ⟨by rfl, ?_⟩) (by assumption) ?_
    rotate_left
    · (intro w hSw; (try dsimp only at hSw); go_simp; try with_reducible rfl)
    simp only [Act.put, List.setIfInBounds_toArray, List.set_cons_zero, List.set_cons_succ]
    refine take_dst 12 (some 28) rfl rfl (by kernel_rfl) (by kernel_rfl) (by kernel_rfl) (fun _ _ _ h => h) (v := ?_) (Or.inl ⟨by rfl, ?_⟩) (by assumption) ?_
    rotate_left
    · (intro w hSw; (try dsimp only at hSw); go_simp; try with_reducible rfl)
    simp only [Act.put, List.setIfInBounds_toArray, List.set_cons_zero, List.set_cons_succ]
    have HSd := hidden (H3.out.grown (grown_d w2))
    have hMd : w2.drew.heap[M]? = some (.cells #[.int .u8 (x.kind : Nat), .string (str x.tx), .int .i64 x.n, .int .i64 x.off, .bool x.col, .bool x.whole] 38 (0, 0)) := HM3.out
    clear H3 HM3 i3 i4 i5
    generalize w2.drew = Wd at *
    have HSA := hidden (HSd.out.grown (grownBy_alloc Wd (.cells #[.int .i64 (col + x.off), .bool fits, .bool x.whole] 78)))
    have hMA := (Below.heap_alloc Wd (.cells #[.int .i64 (col + x.off), .bool fits, .bool x.whole] 78) _ (Array.getElem?_eq_some_iff.1 hMd).1).trans hMd
    have kd5 : Wd.cell? ⟨M, 3, none⟩ = some (.int .i64 x.off) ∧ Wd.cell? ⟨M, 5, none⟩ = some (.bool x.whole) := ⟨by rw [cell_of hMd]; rfl, by rw [cell_of hMd]; rfl⟩
    have kA : (Wd.alloc (.cells #[.int .i64 (col + x.off), .bool fits, .bool x.whole] 78)).cell? ⟨M, 3, none⟩ = some (.int .i64 x.off) ∧ (Wd.alloc (.cells #[.int .i64 (col + x.off), .bool fits, .bool x.whole] 78)).cell? ⟨M, 5, none⟩ = some (.bool x.whole) := ⟨by rw [cell_of hMA]; rfl, by rw [cell_of hMA]; rfl⟩
    have hgrow : (Wd.alloc (.cells #[.int .i64 (col + x.off), .bool fits, .bool x.whole] 78)).ownsRow B 78 3 gv (gs.length + 1) (rowG (gs.reverse ++ [⟨fl, wh, ind⟩])) := by
      have h9 := HSA.out.grow
      rw [show (gs.reverse ++ [(⟨fl, wh, ind⟩ : Gr)]).length = gs.length + 1 by simp] at h9
      exact h9
    have d4 := HSd.out.c4
    have e4 := HSA.out.c4
    have KD := hidden kd5
    have KA := hidden kA
    clear kd5 kA
    refine wpAnyH_ready (rs := [4, 13]) (by kernel_rfl) (by simp) ?_
    refine AllReadyH.cons rfl (fun K hK => ?_) (AllReadyH.cons rfl (fun K hK => ?_) AllReadyH.nil)
    · go_simp
      refine hK.out _ _ KD.out (fun hHeld1 => ?_)
      clear hK K hHeld1 e4 d4
      refine wpAnyH_ready (rs := [13]) (by kernel_rfl) (by simp) ?_
      refine AllReadyH.cons rfl (fun K hK => ?_) AllReadyH.nil
      · go_simp
        refine hK.out _ _ KA.out (fun hHeld2 => ?_)
        clear hK K hHeld2 hHeld
        refine wpAnyH_ready (rs := [14]) (by kernel_rfl) (by simp) ?_
        refine AllReadyH.cons rfl (fun K hK => ?_) AllReadyH.nil
        refine step_append_wh rfl (.tmp 20) (.tmp 29) 54 rfl B 78 i78 (.agg #[.int .i64 0, .bool false, .bool false]) 3 16 Try.underlying54 hi78 hz78 hy78 hb78 rfl (by decide) gv (gs.length + 1) (rowG (gs.reverse ++ ([⟨fl, wh, ind⟩] : List Gr))) (by simp [Act.eval]) hgrow ⟨Wd.heap.size, 0, none⟩ 1 1 [.int .i64 (col + x.off), .bool fits, .bool x.whole] (by simp [Act.eval]) rfl (cells_new Wd 78 [.int .i64 (col + x.off), .bool fits, .bool x.whole]) (one3 _ _ _) (by unfold maxLen; omega) (by omega) HSA.out.sz (by decide) ?_
        intro v' w7 hr7 hg7 _
        obtain ⟨ua, uc, rfl⟩ := row_slice hr7.out
        have S8 := HSA.out.groups (G' := gs.reverse ++ [⟨fl, wh, ind⟩] ++ [⟨fits, x.whole, col + x.off⟩]) (by rw [show (gs.reverse ++ [(⟨fl, wh, ind⟩ : Gr)] ++ [(⟨fits, x.whole, col + x.off⟩ : Gr)]).length = gs.length + 1 + 1 by simp, rowG_app]; exact hr7.out) hg7.out
        have hK7 := (hg7.out.block KB HSA.out.lt (fun e => HSA.out.gown e.symm)).trans HSA.out.head
        have d3 : w7.cell? ⟨KB, 4, none⟩ = some gv := by rw [cell_of hK7]; rfl
        have f3 : w7.frozen? ⟨KB, 4, none⟩ = false := frozen_of_row w7 KB 4 _ 59 hK7
        have hM7 := (hg7.out.block M (Array.getElem?_eq_some_iff.1 hMA).1 (fun e => row_head HSA.out.grow hMA (by decide) e.symm)).trans hMA
        have k7 : w7.cell? ⟨M, 3, none⟩ = some (.int .i64 x.off) ∧ w7.cell? ⟨M, 5, none⟩ = some (.bool x.whole) := ⟨by rw [cell_of hM7]; rfl, by rw [cell_of hM7]; rfl⟩
        have hM8 := fun u => (set_other w7 KB 4 u M hMK).trans hM7
        have k8 : ∀ u, (w7.setCell ⟨KB, 4, none⟩ u).cell? ⟨M, 3, none⟩ = some (.int .i64 x.off) ∧ (w7.setCell ⟨KB, 4, none⟩ u).cell? ⟨M, 5, none⟩ = some (.bool x.whole) := fun u => ⟨by rw [cell_of (hM8 u)]; rfl, by rw [cell_of (hM8 u)]; rfl⟩
        have HS8 := hidden S8
        have K7 := hidden k7
        have K8 := hidden k8
        clear hr7 hg7 hK7 hM7 hM8 S8 k7 k8
        refine hK.out _ _ K7.out (fun hHeld3 => ?_)
        clear hK K
        refine take_dst 15 (some 31) rfl rfl (by kernel_rfl) (by kernel_rfl) (by kernel_rfl) (fun _ _ _ h => h) (v := ?_) (Or.inl ⟨by rfl, ?_⟩) (by assumption) ?_
        rotate_left
        · (intro w hSw; (try dsimp only at hSw); go_simp; try with_reducible rfl)
        simp only [Act.put, List.setIfInBounds_toArray]
        refine take_dst 16 (some 32) rfl rfl (by kernel_rfl) (by kernel_rfl) (by kernel_rfl) (fun _ _ _ h => h) (v := ?_) (Or.inl ⟨by rfl, ?_⟩) (by assumption) ?_
        rotate_left
        · (intro w hSw; (try dsimp only at hSw); go_simp; try with_reducible rfl)
        simp only [Act.put]
        refine wpAnyH_ready (rs := [17]) (by kernel_rfl) (by simp) ?_
        refine AllReadyH.cons rfl (fun K hK => ?_) AllReadyH.nil
        go_simp
        refine hK.out _ _ (K8.out _) (fun hHeld4 => ?_)
        clear hK K
        refine wpAnyH_done (by kernel_rfl) ?_ _
        clear hHeld3 hHeld4 d3 f3
        go_wp2_with fail
        go_end0
        have h8 : PR B KB w0 (w7.setCell ⟨KB, 4, none⟩ (.slice ua (gs.length + 1 + 1) uc)) p bv (.slice ua (gs.length + 1 + 1) uc) wd col q (((⟨fl, wh, ind⟩ : Gr) :: gs).reverse ++ [⟨fits, x.whole, (if x.col then col else ind) + x.off⟩]) := by
          rw [List.reverse_cons, HE0.out]
          exact HS8.out
        exact ⟨rfl, p, bv, _, h8⟩
    · go_simp
      refine hK.out _ _ KA.out (fun hHeld1 => ?_)
      clear hK K hHeld1 d4
      refine wpAnyH_ready (rs := [4]) (by kernel_rfl) (by simp) ?_
      refine AllReadyH.cons rfl (fun K hK => ?_) AllReadyH.nil
      · go_simp
        refine hK.out _ _ KA.out (fun hHeld2 => ?_)
        clear hK K hHeld2 hHeld e4
        refine wpAnyH_ready (rs := [14]) (by kernel_rfl) (by simp) ?_
        refine AllReadyH.cons rfl (fun K hK => ?_) AllReadyH.nil
        refine step_append_wh rfl (.tmp 20) (.tmp 29) 54 rfl B 78 i78 (.agg #[.int .i64 0, .bool false, .bool false]) 3 16 Try.underlying54 hi78 hz78 hy78 hb78 rfl (by decide) gv (gs.length + 1) (rowG (gs.reverse ++ ([⟨fl, wh, ind⟩] : List Gr))) (by simp [Act.eval]) hgrow ⟨Wd.heap.size, 0, none⟩ 1 1 [.int .i64 (col + x.off), .bool fits, .bool x.whole] (by simp [Act.eval]) rfl (cells_new Wd 78 [.int .i64 (col + x.off), .bool fits, .bool x.whole]) (one3 _ _ _) (by unfold maxLen; omega) (by omega) HSA.out.sz (by decide) ?_
        intro v' w7 hr7 hg7 _
        obtain ⟨ua, uc, rfl⟩ := row_slice hr7.out
        have S8 := HSA.out.groups (G' := gs.reverse ++ [⟨fl, wh, ind⟩] ++ [⟨fits, x.whole, col + x.off⟩]) (by rw [show (gs.reverse ++ [(⟨fl, wh, ind⟩ : Gr)] ++ [(⟨fits, x.whole, col + x.off⟩ : Gr)]).length = gs.length + 1 + 1 by simp, rowG_app]; exact hr7.out) hg7.out
        have hK7 := (hg7.out.block KB HSA.out.lt (fun e => HSA.out.gown e.symm)).trans HSA.out.head
        have d3 : w7.cell? ⟨KB, 4, none⟩ = some gv := by rw [cell_of hK7]; rfl
        have f3 : w7.frozen? ⟨KB, 4, none⟩ = false := frozen_of_row w7 KB 4 _ 59 hK7
        have hM7 := (hg7.out.block M (Array.getElem?_eq_some_iff.1 hMA).1 (fun e => row_head HSA.out.grow hMA (by decide) e.symm)).trans hMA
        have k7 : w7.cell? ⟨M, 3, none⟩ = some (.int .i64 x.off) ∧ w7.cell? ⟨M, 5, none⟩ = some (.bool x.whole) := ⟨by rw [cell_of hM7]; rfl, by rw [cell_of hM7]; rfl⟩
        have hM8 := fun u => (set_other w7 KB 4 u M hMK).trans hM7
        have k8 : ∀ u, (w7.setCell ⟨KB, 4, none⟩ u).cell? ⟨M, 3, none⟩ = some (.int .i64 x.off) ∧ (w7.setCell ⟨KB, 4, none⟩ u).cell? ⟨M, 5, none⟩ = some (.bool x.whole) := fun u => ⟨by rw [cell_of (hM8 u)]; rfl, by rw [cell_of (hM8 u)]; rfl⟩
        have HS8 := hidden S8
        have K7 := hidden k7
        have K8 := hidden k8
        clear hr7 hg7 hK7 hM7 hM8 S8 k7 k8
        refine hK.out _ _ K7.out (fun hHeld3 => ?_)
        clear hK K
        refine take_dst 15 (some 31) rfl rfl (by kernel_rfl) (by kernel_rfl) (by kernel_rfl) (fun _ _ _ h => h) (v := ?_) (Or.inl ⟨by rfl, ?_⟩) (by assumption) ?_
        rotate_left
        · (intro w hSw; (try dsimp only at hSw); go_simp; try with_reducible rfl)
        simp only [Act.put, List.setIfInBounds_toArray]
        refine take_dst 16 (some 32) rfl rfl (by kernel_rfl) (by kernel_rfl) (by kernel_rfl) (fun _ _ _ h => h) (v := ?_) (Or.inl ⟨by rfl, ?_⟩) (by assumption) ?_
        rotate_left
        · (intro w hSw; (try dsimp only at hSw); go_simp; try with_reducible rfl)
        simp only [Act.put]
        refine wpAnyH_ready (rs := [17]) (by kernel_rfl) (by simp) ?_
        refine AllReadyH.cons rfl (fun K hK => ?_) AllReadyH.nil
        go_simp
        refine hK.out _ _ (K8.out _) (fun hHeld4 => ?_)
        clear hK K
        refine wpAnyH_done (by kernel_rfl) ?_ _
        clear hHeld3 hHeld4 d3 f3
        go_wp2_with fail
        go_end0
        have h8 : PR B KB w0 (w7.setCell ⟨KB, 4, none⟩ (.slice ua (gs.length + 1 + 1) uc)) p bv (.slice ua (gs.length + 1 + 1) uc) wd col q (((⟨fl, wh, ind⟩ : Gr) :: gs).reverse ++ [⟨fits, x.whole, (if x.col then col else ind) + x.off⟩]) := by
          rw [List.reverse_cons, HE0.out]
          exact HS8.out
        exact ⟨rfl, p, bv, _, h8⟩
  | false =>
    have HE0 : Hid ((if x.col then col else ind) = ind) := by unfold Hid; rw [hxc]; rfl
    clear hxc
    go_wp2_with fail
    have wr0 : IntKind.i64.wrap (ind + x.off) = ind + x.off := IntWalk.i64_in _ (by omega)
    refine wp_region_held_drew (S := (fun u => u.cell? ⟨M, 3, none⟩ = some (.int .i64 x.off) ∧ u.cell? ⟨M, 5, none⟩ = some (.bool x.whole))) (by kernel_rfl) ⟨i3, i5⟩ (fun hHeld => ?_)
    refine take_dst 0 (some 16) rfl rfl (by kernel_rfl) (by kernel_rfl) (by kernel_rfl) (fun _ _ _ h => h) (v := ?_) (Or.inl ⟨by rfl, ?_⟩) (by assumption) ?_
    rotate_left
    · (intro w hSw; (try dsimp only at hSw); go_simp; try with_reducible rfl)
    simp only [Act.put, List.setIfInBounds_toArray, List.set_cons_zero, List.set_cons_succ]
    refine take_dst 1 (some 17) rfl rfl (by kernel_rfl) (by kernel_rfl) (by kernel_rfl) (fun _ _ _ h => h) (v := ?_) (Or.inl ⟨by rfl, ?_⟩) (by assumption) ?_
    rotate_left
    · (intro w hSw; (try dsimp only at hSw); go_simp; try with_reducible rfl)
    simp only [Act.put, List.setIfInBounds_toArray, List.set_cons_zero, List.set_cons_succ]
    refine take_dst 2 (some 18) rfl rfl (by kernel_rfl) (by kernel_rfl) (by kernel_rfl) (fun _ _ _ h => h) (v := ?_) (Or.inl ⟨by rfl, ?_⟩) (by assumption) ?_
    rotate_left
    · (intro w hSw; (try dsimp only at hSw); go_simp; try with_reducible rfl)
    simp only [Act.put, List.setIfInBounds_toArray, List.set_cons_zero, List.set_cons_succ]
    refine take_dst 3 (some 19) rfl rfl (by kernel_rfl) (by kernel_rfl) (by kernel_rfl) (fun _ _ _ h => h) (v := ?_) (Or.inl ⟨by rfl, ?_⟩) (by assumption) ?_
    rotate_left
    · (intro w hSw; (try dsimp only at hSw); go_simp; try with_reducible rfl)
    simp only [Act.put, List.setIfInBounds_toArray, List.set_cons_zero, List.set_cons_succ]
    refine take_dst 5 (some 21) rfl rfl (by kernel_rfl) (by kernel_rfl) (by kernel_rfl) (fun _ _ _ h => h) (v := ?_) (Or.inl ⟨by rfl, ?_⟩) (by assumption) ?_
    rotate_left
    · (intro w hSw; (try dsimp only at hSw); go_simp; try with_reducible rfl)
    simp only [Act.put, List.setIfInBounds_toArray, List.set_cons_zero, List.set_cons_succ]
    refine take_dst 6 (some 22) rfl rfl (by kernel_rfl) (by kernel_rfl) (by kernel_rfl) (fun _ _ _ h => h) (v := ?_) (Or.inl ⟨by rfl, ?_⟩) (by assumption) ?_
    rotate_left
    · (intro w hSw; (try dsimp only at hSw); go_simp; try with_reducible rfl)
    simp only [Act.put, List.setIfInBounds_toArray, List.set_cons_zero, List.set_cons_succ]
    refine take_dst 7 (some 23) rfl rfl (by kernel_rfl) (by kernel_rfl) (by kernel_rfl) (fun _ _ _ h => h) (v := ?_) (Or.inl ⟨by rfl, ?_⟩) (by assumption) ?_
    rotate_left
    · (intro w hSw; (try dsimp only at hSw); go_simp; try with_reducible rfl)
    simp only [Act.put, List.setIfInBounds_toArray, List.set_cons_zero, List.set_cons_succ]
    refine take_dst 8 (some 24) rfl rfl (by kernel_rfl) (by kernel_rfl) (by kernel_rfl) (fun _ _ _ h => h) (v := ?_) (Or.inl ⟨by rfl, ?_⟩) (by assumption) ?_
    rotate_left
    · (intro w hSw; (try dsimp only at hSw); go_simp; try with_reducible rfl)
    simp only [Act.put, List.setIfInBounds_toArray, List.set_cons_zero, List.set_cons_succ]
    refine take_dst 9 (some 25) rfl rfl (by kernel_rfl) (by kernel_rfl) (by kernel_rfl) (fun _ _ _ h => h) (v := ?_) (Or.inl ⟨by rfl, ?_⟩) (by assumption) ?_
    rotate_left
    · (intro w hSw; (try dsimp only at hSw); go_simp; try with_reducible rfl)
    simp only [Act.put, List.setIfInBounds_toArray, List.set_cons_zero, List.set_cons_succ]
    refine take_dst 10 (some 26) rfl rfl (by kernel_rfl) (by kernel_rfl) (by kernel_rfl) (fun _ _ _ h => h) (v := ?_) (Or.inl ⟨by rfl, ?_⟩) (by assumption) ?_
    rotate_left
    · (intro w hSw; (try dsimp only at hSw); go_simp; try with_reducible rfl)
    simp only [Act.put, List.setIfInBounds_toArray, List.set_cons_zero, List.set_cons_succ]
    refine take_dst 11 (some 27) rfl rfl (by kernel_rfl) (by kernel_rfl) (by kernel_rfl) (fun _ _ _ h => h) (v := ?_) (Or.inl ⟨by rfl, ?_⟩) (by assumption) ?_
    rotate_left
    · (intro w hSw; (try dsimp only at hSw); go_simp; try with_reducible rfl)
    simp only [Act.put, List.setIfInBounds_toArray, List.set_cons_zero, List.set_cons_succ]
    refine take_dst 12 (some 28) rfl rfl (by kernel_rfl) (by kernel_rfl) (by kernel_rfl) (fun _ _ _ h => h) (v := ?_) (Or.inl ⟨by rfl, ?_⟩) (by assumption) ?_
    rotate_left
    · (intro w hSw; (try dsimp only at hSw); go_simp; try with_reducible rfl)
    simp only [Act.put, List.setIfInBounds_toArray, List.set_cons_zero, List.set_cons_succ]
    have HSd := hidden (H3.out.grown (grown_d w2))
    have hMd : w2.drew.heap[M]? = some (.cells #[.int .u8 (x.kind : Nat), .string (str x.tx), .int .i64 x.n, .int .i64 x.off, .bool x.col, .bool x.whole] 38 (0, 0)) := HM3.out
    clear H3 HM3 i3 i4 i5
    generalize w2.drew = Wd at *
    have HSA := hidden (HSd.out.grown (grownBy_alloc Wd (.cells #[.int .i64 (ind + x.off), .bool fits, .bool x.whole] 78)))
    have hMA := (Below.heap_alloc Wd (.cells #[.int .i64 (ind + x.off), .bool fits, .bool x.whole] 78) _ (Array.getElem?_eq_some_iff.1 hMd).1).trans hMd
    have kd5 : Wd.cell? ⟨M, 3, none⟩ = some (.int .i64 x.off) ∧ Wd.cell? ⟨M, 5, none⟩ = some (.bool x.whole) := ⟨by rw [cell_of hMd]; rfl, by rw [cell_of hMd]; rfl⟩
    have kA : (Wd.alloc (.cells #[.int .i64 (ind + x.off), .bool fits, .bool x.whole] 78)).cell? ⟨M, 3, none⟩ = some (.int .i64 x.off) ∧ (Wd.alloc (.cells #[.int .i64 (ind + x.off), .bool fits, .bool x.whole] 78)).cell? ⟨M, 5, none⟩ = some (.bool x.whole) := ⟨by rw [cell_of hMA]; rfl, by rw [cell_of hMA]; rfl⟩
    have hgrow : (Wd.alloc (.cells #[.int .i64 (ind + x.off), .bool fits, .bool x.whole] 78)).ownsRow B 78 3 gv (gs.length + 1) (rowG (gs.reverse ++ [⟨fl, wh, ind⟩])) := by
      have h9 := HSA.out.grow
      rw [show (gs.reverse ++ [(⟨fl, wh, ind⟩ : Gr)]).length = gs.length + 1 by simp] at h9
      exact h9
    have d4 := HSd.out.c4
    have e4 := HSA.out.c4
    have KD := hidden kd5
    have KA := hidden kA
    clear kd5 kA
    refine wpAnyH_ready (rs := [4, 13]) (by kernel_rfl) (by simp) ?_
    refine AllReadyH.cons rfl (fun K hK => ?_) (AllReadyH.cons rfl (fun K hK => ?_) AllReadyH.nil)
    · go_simp
      refine hK.out _ _ KD.out (fun hHeld1 => ?_)
      clear hK K hHeld1 e4 d4
      refine wpAnyH_ready (rs := [13]) (by kernel_rfl) (by simp) ?_
      refine AllReadyH.cons rfl (fun K hK => ?_) AllReadyH.nil
      · go_simp
        refine hK.out _ _ KA.out (fun hHeld2 => ?_)
        clear hK K hHeld2 hHeld
        refine wpAnyH_ready (rs := [14]) (by kernel_rfl) (by simp) ?_
        refine AllReadyH.cons rfl (fun K hK => ?_) AllReadyH.nil
        refine step_append_wh rfl (.tmp 20) (.tmp 29) 54 rfl B 78 i78 (.agg #[.int .i64 0, .bool false, .bool false]) 3 16 Try.underlying54 hi78 hz78 hy78 hb78 rfl (by decide) gv (gs.length + 1) (rowG (gs.reverse ++ ([⟨fl, wh, ind⟩] : List Gr))) (by simp [Act.eval]) hgrow ⟨Wd.heap.size, 0, none⟩ 1 1 [.int .i64 (ind + x.off), .bool fits, .bool x.whole] (by simp [Act.eval]) rfl (cells_new Wd 78 [.int .i64 (ind + x.off), .bool fits, .bool x.whole]) (one3 _ _ _) (by unfold maxLen; omega) (by omega) HSA.out.sz (by decide) ?_
        intro v' w7 hr7 hg7 _
        obtain ⟨ua, uc, rfl⟩ := row_slice hr7.out
        have S8 := HSA.out.groups (G' := gs.reverse ++ [⟨fl, wh, ind⟩] ++ [⟨fits, x.whole, ind + x.off⟩]) (by rw [show (gs.reverse ++ [(⟨fl, wh, ind⟩ : Gr)] ++ [(⟨fits, x.whole, ind + x.off⟩ : Gr)]).length = gs.length + 1 + 1 by simp, rowG_app]; exact hr7.out) hg7.out
        have hK7 := (hg7.out.block KB HSA.out.lt (fun e => HSA.out.gown e.symm)).trans HSA.out.head
        have d3 : w7.cell? ⟨KB, 4, none⟩ = some gv := by rw [cell_of hK7]; rfl
        have f3 : w7.frozen? ⟨KB, 4, none⟩ = false := frozen_of_row w7 KB 4 _ 59 hK7
        have hM7 := (hg7.out.block M (Array.getElem?_eq_some_iff.1 hMA).1 (fun e => row_head HSA.out.grow hMA (by decide) e.symm)).trans hMA
        have k7 : w7.cell? ⟨M, 3, none⟩ = some (.int .i64 x.off) ∧ w7.cell? ⟨M, 5, none⟩ = some (.bool x.whole) := ⟨by rw [cell_of hM7]; rfl, by rw [cell_of hM7]; rfl⟩
        have hM8 := fun u => (set_other w7 KB 4 u M hMK).trans hM7
        have k8 : ∀ u, (w7.setCell ⟨KB, 4, none⟩ u).cell? ⟨M, 3, none⟩ = some (.int .i64 x.off) ∧ (w7.setCell ⟨KB, 4, none⟩ u).cell? ⟨M, 5, none⟩ = some (.bool x.whole) := fun u => ⟨by rw [cell_of (hM8 u)]; rfl, by rw [cell_of (hM8 u)]; rfl⟩
        have HS8 := hidden S8
        have K7 := hidden k7
        have K8 := hidden k8
        clear hr7 hg7 hK7 hM7 hM8 S8 k7 k8
        refine hK.out _ _ K7.out (fun hHeld3 => ?_)
        clear hK K
        refine take_dst 15 (some 31) rfl rfl (by kernel_rfl) (by kernel_rfl) (by kernel_rfl) (fun _ _ _ h => h) (v := ?_) (Or.inl ⟨by rfl, ?_⟩) (by assumption) ?_
        rotate_left
        · (intro w hSw; (try dsimp only at hSw); go_simp; try with_reducible rfl)
        simp only [Act.put, List.setIfInBounds_toArray]
        refine take_dst 16 (some 32) rfl rfl (by kernel_rfl) (by kernel_rfl) (by kernel_rfl) (fun _ _ _ h => h) (v := ?_) (Or.inl ⟨by rfl, ?_⟩) (by assumption) ?_
        rotate_left
        · (intro w hSw; (try dsimp only at hSw); go_simp; try with_reducible rfl)
        simp only [Act.put]
        refine wpAnyH_ready (rs := [17]) (by kernel_rfl) (by simp) ?_
        refine AllReadyH.cons rfl (fun K hK => ?_) AllReadyH.nil
        go_simp
        refine hK.out _ _ (K8.out _) (fun hHeld4 => ?_)
        clear hK K
        refine wpAnyH_done (by kernel_rfl) ?_ _
        clear hHeld3 hHeld4 d3 f3
        go_wp2_with fail
        go_end0
        have h8 : PR B KB w0 (w7.setCell ⟨KB, 4, none⟩ (.slice ua (gs.length + 1 + 1) uc)) p bv (.slice ua (gs.length + 1 + 1) uc) wd col q (((⟨fl, wh, ind⟩ : Gr) :: gs).reverse ++ [⟨fits, x.whole, (if x.col then col else ind) + x.off⟩]) := by
          rw [List.reverse_cons, HE0.out]
          exact HS8.out
        exact ⟨rfl, p, bv, _, h8⟩
    · go_simp
      refine hK.out _ _ KA.out (fun hHeld1 => ?_)
      clear hK K hHeld1 d4
      refine wpAnyH_ready (rs := [4]) (by kernel_rfl) (by simp) ?_
      refine AllReadyH.cons rfl (fun K hK => ?_) AllReadyH.nil
      · go_simp
        refine hK.out _ _ KA.out (fun hHeld2 => ?_)
        clear hK K hHeld2 hHeld e4
        refine wpAnyH_ready (rs := [14]) (by kernel_rfl) (by simp) ?_
        refine AllReadyH.cons rfl (fun K hK => ?_) AllReadyH.nil
        refine step_append_wh rfl (.tmp 20) (.tmp 29) 54 rfl B 78 i78 (.agg #[.int .i64 0, .bool false, .bool false]) 3 16 Try.underlying54 hi78 hz78 hy78 hb78 rfl (by decide) gv (gs.length + 1) (rowG (gs.reverse ++ ([⟨fl, wh, ind⟩] : List Gr))) (by simp [Act.eval]) hgrow ⟨Wd.heap.size, 0, none⟩ 1 1 [.int .i64 (ind + x.off), .bool fits, .bool x.whole] (by simp [Act.eval]) rfl (cells_new Wd 78 [.int .i64 (ind + x.off), .bool fits, .bool x.whole]) (one3 _ _ _) (by unfold maxLen; omega) (by omega) HSA.out.sz (by decide) ?_
        intro v' w7 hr7 hg7 _
        obtain ⟨ua, uc, rfl⟩ := row_slice hr7.out
        have S8 := HSA.out.groups (G' := gs.reverse ++ [⟨fl, wh, ind⟩] ++ [⟨fits, x.whole, ind + x.off⟩]) (by rw [show (gs.reverse ++ [(⟨fl, wh, ind⟩ : Gr)] ++ [(⟨fits, x.whole, ind + x.off⟩ : Gr)]).length = gs.length + 1 + 1 by simp, rowG_app]; exact hr7.out) hg7.out
        have hK7 := (hg7.out.block KB HSA.out.lt (fun e => HSA.out.gown e.symm)).trans HSA.out.head
        have d3 : w7.cell? ⟨KB, 4, none⟩ = some gv := by rw [cell_of hK7]; rfl
        have f3 : w7.frozen? ⟨KB, 4, none⟩ = false := frozen_of_row w7 KB 4 _ 59 hK7
        have hM7 := (hg7.out.block M (Array.getElem?_eq_some_iff.1 hMA).1 (fun e => row_head HSA.out.grow hMA (by decide) e.symm)).trans hMA
        have k7 : w7.cell? ⟨M, 3, none⟩ = some (.int .i64 x.off) ∧ w7.cell? ⟨M, 5, none⟩ = some (.bool x.whole) := ⟨by rw [cell_of hM7]; rfl, by rw [cell_of hM7]; rfl⟩
        have hM8 := fun u => (set_other w7 KB 4 u M hMK).trans hM7
        have k8 : ∀ u, (w7.setCell ⟨KB, 4, none⟩ u).cell? ⟨M, 3, none⟩ = some (.int .i64 x.off) ∧ (w7.setCell ⟨KB, 4, none⟩ u).cell? ⟨M, 5, none⟩ = some (.bool x.whole) := fun u => ⟨by rw [cell_of (hM8 u)]; rfl, by rw [cell_of (hM8 u)]; rfl⟩
        have HS8 := hidden S8
        have K7 := hidden k7
        have K8 := hidden k8
        clear hr7 hg7 hK7 hM7 hM8 S8 k7 k8
        refine hK.out _ _ K7.out (fun hHeld3 => ?_)
        clear hK K
        refine take_dst 15 (some 31) rfl rfl (by kernel_rfl) (by kernel_rfl) (by kernel_rfl) (fun _ _ _ h => h) (v := ?_) (Or.inl ⟨by rfl, ?_⟩) (by assumption) ?_
        rotate_left
        · (intro w hSw; (try dsimp only at hSw); go_simp; try with_reducible rfl)
        simp only [Act.put, List.setIfInBounds_toArray]
        refine take_dst 16 (some 32) rfl rfl (by kernel_rfl) (by kernel_rfl) (by kernel_rfl) (fun _ _ _ h => h) (v := ?_) (Or.inl ⟨by rfl, ?_⟩) (by assumption) ?_
        rotate_left
        · (intro w hSw; (try dsimp only at hSw); go_simp; try with_reducible rfl)
        simp only [Act.put]
        refine wpAnyH_ready (rs := [17]) (by kernel_rfl) (by simp) ?_
        refine AllReadyH.cons rfl (fun K hK => ?_) AllReadyH.nil
        go_simp
        refine hK.out _ _ (K8.out _) (fun hHeld4 => ?_)
        clear hK K
        refine wpAnyH_done (by kernel_rfl) ?_ _
        clear hHeld3 hHeld4 d3 f3
        go_wp2_with fail
        go_end0
        have h8 : PR B KB w0 (w7.setCell ⟨KB, 4, none⟩ (.slice ua (gs.length + 1 + 1) uc)) p bv (.slice ua (gs.length + 1 + 1) uc) wd col q (((⟨fl, wh, ind⟩ : Gr) :: gs).reverse ++ [⟨fits, x.whole, (if x.col then col else ind) + x.off⟩]) := by
          rw [List.reverse_cons, HE0.out]
          exact HS8.out
        exact ⟨rfl, p, bv, _, h8⟩
end Go.Proofs.PlatenLayout
