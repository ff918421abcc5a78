/- What Close comes to, where no transaction is forgotten. -/
import Derived.Test.YtibdhahkkejnjaaPsI
namespace Go.Proofs.PlatenPiece
open Go Go.RowKit
set_option linter.unusedVariables false
set_option maxRecDepth 100000

theorem cells1e (X : World) (a : Value) : ∀ j u, [a][j]? = some u → (X.alloc (.cells #[a] 49)).cell? ((⟨X.heap.size, 0, none⟩ : Addr).add j) = some u := by
  intro j u hj
  match j, hj with
  | 0, hj => simp at hj; subst hj; simp [Addr.add]
  | j + 1, hj => simp at hj

section
variable {B : Nat} {w w3 : World} {H T : Nat} {l : List Nat} {c : Nat} {O : Nat → Prop} {ov dv uv : Value} {op : List Ed} {dn ud : List (Value × List Ed)}

set_option maxHeartbeats 2000000 in
theorem close_none (h : HP B w H T l c O ov dv uv [] dn ud) : Calls Try.prog 42 #[.pointer (some ⟨H, 0, none⟩)] w fun q w' => (∃ v, q = .returned v) ∧ w' = w := by
  obtain ⟨oa, oc, rfl⟩ := row_slice h.orow
  have c1 := h.cells.2.1
  simp only [List.length_nil] at c1
  clear h
  go_enter Try.func42, Try.ntmps42
  go_wp2
  refine bodyPost_ret (results_none rfl _ _ _) rfl ?_
  exact ⟨⟨_, rfl⟩, rfl⟩
set_option maxHeartbeats 2000000 in
theorem close_nil (w : World) : Calls Try.prog 42 #[.pointer none] w fun q w' => (∃ v, q = .returned v) ∧ w' = w := by
  go_enter Try.func42, Try.ntmps42
  go_wp2
  refine bodyPost_ret (results_none rfl _ _ _) rfl ?_
  exact ⟨⟨_, rfl⟩, rfl⟩

set_option maxHeartbeats 4000000 in
theorem close_some (h : HP B w H T l c O ov dv uv op dn ud) (h0 : 0 < op.length) (hop : op.length ≤ 100000) (hdn : dn.length < 1000) :
    Calls Try.prog 42 #[.pointer (some ⟨H, 0, none⟩)] w fun q w' => (∃ v, q = .returned v) ∧ ∃ dv', HP B w' H T l c O (.slice none 0 0) dv' uv [] (dn ++ [(ov, op)]) ud ∧ Kept (HOwn H O ov dv uv dn ud) w w' ∧ (∀ k, k < w.heap.size → HOwn H O (.slice none 0 0) dv' uv (dn ++ [(ov, op)]) ud k → HOwn H O ov dv uv dn ud k) := by
  obtain ⟨oa, oc, rfl⟩ := row_slice h.orow
  obtain ⟨i0, hi, hz0, hz1, hz2⟩ := info_parts info49
  have c1 := h.cells.2.1
  have c2 := h.cells.2.2.1
  have HH := hidden h
  have H0 := hidden h0
  have Hdn := hidden hdn
  have hz : ¬ ((op.length : Int) = 0) := by omega
  have HH1 := hidden ((h.grown (grownBy_alloc w (.cells #[.slice oa op.length oc] 49))).grown (grown_drew _))
  have HK1 := hidden (kept_none (O := HOwn H O (.slice oa op.length oc) dv uv dn ud) (grown_tr (grownBy_alloc w (.cells #[.slice oa op.length oc] 49)) (grown_drew _)))
  have x1 := HH1.out.cells.2.1
  have x2 := HH1.out.cells.2.2.1
  clear h h0 hop hdn
  go_enter Try.func42, Try.ntmps42
  go_wp2_with fail
  refine wp_region_held_drew (S := (fun u => u.cell? ⟨H, 1, none⟩ = some (.slice oa op.length oc))) (by kernel_rfl) c1 (fun hHeld => ?_)
  have c2d : w.drew.cell? ⟨H, 2, none⟩ = some dv := c2
  refine take_dst 0 (some 12) rfl rfl (by kernel_rfl) (by kernel_rfl) (by kernel_rfl) (fun _ _ _ h => h) (v := ?_) (Or.inl ⟨by rfl, ?_⟩) (by assumption) ?_
  rotate_left
  · (intro w hSw; (try dsimp only at hSw); go_simp; try with_reducible rfl)
  simp only [Act.put, List.setIfInBounds_toArray, List.set_cons_zero, List.set_cons_succ]
  refine take_dst 1 (some 13) rfl rfl (by kernel_rfl) (by kernel_rfl) (by kernel_rfl) (fun _ _ _ h => h) (v := ?_) (Or.inl ⟨by rfl, ?_⟩) (by assumption) ?_
  rotate_left
  · (intro w hSw; (try dsimp only at hSw); go_simp; try with_reducible rfl)
  simp only [Act.put, List.setIfInBounds_toArray, List.set_cons_zero, List.set_cons_succ]
  refine take_dst 2 (some 14) rfl rfl (by kernel_rfl) (by kernel_rfl) (by kernel_rfl) (fun _ _ _ h => h) (v := ?_) (Or.inl ⟨by rfl, ?_⟩) (by assumption) ?_
  rotate_left
  · (intro w hSw; (try dsimp only at hSw); go_simp; try with_reducible rfl)
  simp only [Act.put, List.setIfInBounds_toArray, List.set_cons_zero, List.set_cons_succ]
  refine take_dst 3 (some 15) rfl rfl (by kernel_rfl) (by kernel_rfl) (by kernel_rfl) (fun _ _ _ h => h) (v := ?_) (Or.inl ⟨by rfl, ?_⟩) (by assumption) ?_
  rotate_left
  · (intro w hSw; (try dsimp only at hSw); go_simp; try with_reducible rfl)
  simp only [Act.put, List.setIfInBounds_toArray, List.set_cons_zero, List.set_cons_succ]
  refine take_dst 5 (some 17) rfl rfl (by kernel_rfl) (by kernel_rfl) (by kernel_rfl) (fun _ _ _ h => h) (v := ?_) (Or.inl ⟨by rfl, ?_⟩) (by assumption) ?_
  rotate_left
  · (intro w hSw; (try dsimp only at hSw); go_simp; try with_reducible rfl)
  simp only [Act.put, List.setIfInBounds_toArray, List.set_cons_zero, List.set_cons_succ]
  refine take_dst 6 (some 18) rfl rfl (by kernel_rfl) (by kernel_rfl) (by kernel_rfl) (fun _ _ _ h => h) (v := ?_) (Or.inl ⟨by rfl, ?_⟩) (by assumption) ?_
  rotate_left
  · (intro w hSw; (try dsimp only at hSw); go_simp; try with_reducible rfl)
  simp only [Act.put, List.setIfInBounds_toArray, List.set_cons_zero, List.set_cons_succ]
  refine take_dst 7 (some 19) rfl rfl (by kernel_rfl) (by kernel_rfl) (by kernel_rfl) (fun _ _ _ h => h) (v := ?_) (Or.inl ⟨by rfl, ?_⟩) (by assumption) ?_
  rotate_left
  · (intro w hSw; (try dsimp only at hSw); go_simp; try with_reducible rfl)
  simp only [Act.put, List.setIfInBounds_toArray, List.set_cons_zero, List.set_cons_succ]
  refine take_dst 8 (some 20) rfl rfl (by kernel_rfl) (by kernel_rfl) (by kernel_rfl) (fun _ _ _ h => h) (v := ?_) (Or.inl ⟨by rfl, ?_⟩) (by assumption) ?_
  rotate_left
  · (intro w hSw; (try dsimp only at hSw); go_simp; try with_reducible rfl)
  simp only [Act.put, List.setIfInBounds_toArray, List.set_cons_zero, List.set_cons_succ]
  refine wpAnyH_ready (rs := [4, 9]) (by kernel_rfl) (by simp) ?_
  refine AllReadyH.cons rfl (fun K hK => ?_) (AllReadyH.cons rfl (fun K hK => ?_) AllReadyH.nil)
  · go_simp
    refine hK.out _ _ c1 (fun hHeld1 => ?_)
    clear hK K
    refine wpAnyH_ready (rs := [9]) (by kernel_rfl) (by simp) ?_
    refine AllReadyH.cons rfl (fun K hK => ?_) AllReadyH.nil
    go_simp
    refine hK.out _ _ x1 (fun hHeld2 => ?_)
    clear hK K hHeld hHeld1 hHeld2
    refine wpAnyH_ready (rs := [10]) (by kernel_rfl) (by simp) ?_
    refine AllReadyH.cons rfl (fun K hK => ?_) AllReadyH.nil
    refine step_append_wh rfl (.tmp 16) (.tmp 21) 48 rfl B 49 i0 (.slice none 0 0) 1 24 Try.underlying48 hi hz0 hz1 hz2 rfl (by decide) dv dn.length (dn.map (·.1)) (by simp [Act.eval]) HH1.out.drow ⟨w.heap.size, 0, none⟩ 1 1 [.slice oa op.length oc] (by simp [Act.eval]) rfl (cells1e w _) (by intro u hu; simp at hu; subst hu; rfl) (by have := Hdn.out; unfold maxLen; omega) (by have := Hdn.out; omega) HH1.out.bs (by decide) ?_
    intro v' w8 hr8 hg8 hw8
    obtain ⟨hP, hKp, hO9⟩ := HH1.out.shut H0.out hr8.out hg8.out hw8.out
    have HP9 := hidden hP
    have HK9 : Hid (Kept (HOwn H O (.slice oa op.length oc) dv uv dn ud) w ((w8.setCell ⟨H, 2, none⟩ v').setCell ⟨H, 1, none⟩ (.slice none 0 0))) := HK1.out.trans hKp (fun _ _ h => h)
    have HO9 : Hid (∀ k, k < w.heap.size → HOwn H O (.slice none 0 0) v' uv (dn ++ [(.slice oa op.length oc, op)]) ud k → HOwn H O (.slice oa op.length oc) dv uv dn ud k) := fun k hk ho => hO9 k (Nat.lt_of_lt_of_le hk HK1.out.size) ho
    have hd8 : w8.heap[H]? = some (.cells #[.pointer (some ⟨T, 0, none⟩), .slice oa op.length oc, dv, uv] 91 (0, 0)) := (hg8.out.block H HH1.out.lt (fun e => row_head HH1.out.drow HH1.out.head (by decide) e.symm)).trans HH1.out.head
    have e1 : w8.cell? ⟨H, 1, none⟩ = some (.slice oa op.length oc) := by simp only [World.cell?, hd8]; rfl
    have e2 : w8.cell? ⟨H, 2, none⟩ = some dv := by simp only [World.cell?, hd8]; rfl
    have f1 : w8.frozen? ⟨H, 1, none⟩ = false := frozen_of_row w8 H 1 _ 91 hd8
    have f2 : w8.frozen? ⟨H, 2, none⟩ = false := frozen_of_row w8 H 2 _ 91 hd8
    obtain ⟨va, vc, rfl⟩ := row_slice hr8.out
    have e3 : (w8.setCell ⟨H, 2, none⟩ (.slice va (dn.length + 1) vc)).cell? ⟨H, 1, none⟩ = some (.slice oa op.length oc) := by
      have := heap_setCell_same w8 H 2 _ 91 (.slice va (dn.length + 1) vc) hd8
      simp only [World.cell?, this]; rfl
    clear hr8 hg8 hw8 hP hKp hO9 hd8
    refine hK.out _ _ e1 (fun hHeld4 => ?_)
    clear hK K
    refine take_dst 11 (some 23) rfl rfl (by kernel_rfl) (by kernel_rfl) (by kernel_rfl) (fun _ _ _ h => h) (v := ?_) (Or.inl ⟨by rfl, ?_⟩) (by assumption) ?_
    rotate_left
    · (intro w hSw; (try dsimp only at hSw); go_simp; try with_reducible rfl)
    simp only [Act.put, List.setIfInBounds_toArray]
    refine take_dst 12 (some 24) rfl rfl (by kernel_rfl) (by kernel_rfl) (by kernel_rfl) (fun _ _ _ h => h) (v := ?_) (Or.inl ⟨by rfl, ?_⟩) (by assumption) ?_
    rotate_left
    · (intro w hSw; (try dsimp only at hSw); go_simp; try with_reducible rfl)
    simp only [Act.put]
    refine wpAnyH_ready (rs := [13]) (by kernel_rfl) (by simp) ?_
    refine AllReadyH.cons rfl (fun K hK => ?_) AllReadyH.nil
    go_simp
    refine hK.out _ _ e3 (fun hHeld5 => ?_)
    clear hK K
    refine wpAnyH_done (by kernel_rfl) ?_ _
    clear hHeld4 hHeld5
    have e4 : ¬ ((1000 : Int) < (dn.length : Int) + 1) := by have := Hdn.out; omega
    go_wp2_with fail
    go_end0
    exact ⟨⟨_, rfl⟩, _, HP9.out, HK9.out, HO9.out⟩
  · go_simp
    refine hK.out _ _ x1 (fun hHeld1 => ?_)
    clear hK K
    refine wpAnyH_ready (rs := [4]) (by kernel_rfl) (by simp) ?_
    refine AllReadyH.cons rfl (fun K hK => ?_) AllReadyH.nil
    go_simp
    refine hK.out _ _ x1 (fun hHeld2 => ?_)
    clear hK K hHeld hHeld1 hHeld2
    refine wpAnyH_ready (rs := [10]) (by kernel_rfl) (by simp) ?_
    refine AllReadyH.cons rfl (fun K hK => ?_) AllReadyH.nil
    refine step_append_wh rfl (.tmp 16) (.tmp 21) 48 rfl B 49 i0 (.slice none 0 0) 1 24 Try.underlying48 hi hz0 hz1 hz2 rfl (by decide) dv dn.length (dn.map (·.1)) (by simp [Act.eval]) HH1.out.drow ⟨w.heap.size, 0, none⟩ 1 1 [.slice oa op.length oc] (by simp [Act.eval]) rfl (cells1e w _) (by intro u hu; simp at hu; subst hu; rfl) (by have := Hdn.out; unfold maxLen; omega) (by have := Hdn.out; omega) HH1.out.bs (by decide) ?_
    intro v' w8 hr8 hg8 hw8
    obtain ⟨hP, hKp, hO9⟩ := HH1.out.shut H0.out hr8.out hg8.out hw8.out
    have HP9 := hidden hP
    have HK9 : Hid (Kept (HOwn H O (.slice oa op.length oc) dv uv dn ud) w ((w8.setCell ⟨H, 2, none⟩ v').setCell ⟨H, 1, none⟩ (.slice none 0 0))) := HK1.out.trans hKp (fun _ _ h => h)
    have HO9 : Hid (∀ k, k < w.heap.size → HOwn H O (.slice none 0 0) v' uv (dn ++ [(.slice oa op.length oc, op)]) ud k → HOwn H O (.slice oa op.length oc) dv uv dn ud k) := fun k hk ho => hO9 k (Nat.lt_of_lt_of_le hk HK1.out.size) ho
    have hd8 : w8.heap[H]? = some (.cells #[.pointer (some ⟨T, 0, none⟩), .slice oa op.length oc, dv, uv] 91 (0, 0)) := (hg8.out.block H HH1.out.lt (fun e => row_head HH1.out.drow HH1.out.head (by decide) e.symm)).trans HH1.out.head
    have e1 : w8.cell? ⟨H, 1, none⟩ = some (.slice oa op.length oc) := by simp only [World.cell?, hd8]; rfl
    have e2 : w8.cell? ⟨H, 2, none⟩ = some dv := by simp only [World.cell?, hd8]; rfl
    have f1 : w8.frozen? ⟨H, 1, none⟩ = false := frozen_of_row w8 H 1 _ 91 hd8
    have f2 : w8.frozen? ⟨H, 2, none⟩ = false := frozen_of_row w8 H 2 _ 91 hd8
    obtain ⟨va, vc, rfl⟩ := row_slice hr8.out
    have e3 : (w8.setCell ⟨H, 2, none⟩ (.slice va (dn.length + 1) vc)).cell? ⟨H, 1, none⟩ = some (.slice oa op.length oc) := by
      have := heap_setCell_same w8 H 2 _ 91 (.slice va (dn.length + 1) vc) hd8
      simp only [World.cell?, this]; rfl
    clear hr8 hg8 hw8 hP hKp hO9 hd8
    refine hK.out _ _ e1 (fun hHeld4 => ?_)
    clear hK K
    refine take_dst 11 (some 23) rfl rfl (by kernel_rfl) (by kernel_rfl) (by kernel_rfl) (fun _ _ _ h => h) (v := ?_) (Or.inl ⟨by rfl, ?_⟩) (by assumption) ?_
    rotate_left
    · (intro w hSw; (try dsimp only at hSw); go_simp; try with_reducible rfl)
    simp only [Act.put, List.setIfInBounds_toArray]
    refine take_dst 12 (some 24) rfl rfl (by kernel_rfl) (by kernel_rfl) (by kernel_rfl) (fun _ _ _ h => h) (v := ?_) (Or.inl ⟨by rfl, ?_⟩) (by assumption) ?_
    rotate_left
    · (intro w hSw; (try dsimp only at hSw); go_simp; try with_reducible rfl)
    simp only [Act.put]
    refine wpAnyH_ready (rs := [13]) (by kernel_rfl) (by simp) ?_
    refine AllReadyH.cons rfl (fun K hK => ?_) AllReadyH.nil
    go_simp
    refine hK.out _ _ e3 (fun hHeld5 => ?_)
    clear hK K
    refine wpAnyH_done (by kernel_rfl) ?_ _
    clear hHeld4 hHeld5
    have e4 : ¬ ((1000 : Int) < (dn.length : Int) + 1) := by have := Hdn.out; omega
    go_wp2_with fail
    go_end0
    exact ⟨⟨_, rfl⟩, _, HP9.out, HK9.out, HO9.out⟩
end
end Go.Proofs.PlatenPiece
