/- The document's Close, backs, Cancel, Undo, Redo, Same. -/
import Derived.Test.YtibdhahkkejnjaaPuC
import Derived.Test.YtibdhahkkejnjaaPsM
namespace Go.Proofs.PlatenPiece
open Go Go.RowKit
set_option linter.unusedVariables false
set_option maxRecDepth 100000

section
variable {B : Nat} {w0 w : World} {X : Nat → Prop} {M : Nat} {l : List Nat} {pv dv gv nv : Value} {now : List Ed} {dn gn : List (Value × List Ed)}
set_option maxHeartbeats 2000000 in
theorem rclose_none (h : RX B w0 X M w l pv dv gv nv [] dn gn) (hd : dn.length ≤ 1000) : Calls Try.prog 52 #[.pointer (some ⟨M, 0, none⟩)] w fun q w' => (∃ v, q = .returned v) ∧ w' = w := by
  obtain ⟨da, dc, rfl⟩ := row_slice h.rp.drow
  obtain ⟨na, nc, rfl⟩ := row_slice h.rp.nrow
  have c1 := h.rp.cells.2.1
  have c3 := h.rp.cells.2.2.2
  have hz : ¬ ((1000 : Int) < (dn.length : Int)) := by omega
  simp only [List.length_nil] at c3
  clear h
  go_enter Try.func52, Try.ntmps52
  go_wp2
  go_end0
  exact ⟨⟨_, rfl⟩, rfl⟩

set_option maxHeartbeats 4000000 in
theorem rclose_some (h : RX B w0 X M w l pv dv gv nv now dn gn) (h0 : 0 < now.length) (hnow : now.length ≤ 100000) (hd : dn.length < 1000) :
    Calls Try.prog 52 #[.pointer (some ⟨M, 0, none⟩)] w fun q w' => (∃ v, q = .returned v) ∧ ∃ dv', RX B w0 X M w' l pv dv' gv (.slice none 0 0) [] (dn ++ [(nv, now)]) gn := by
  obtain ⟨i0, hi, hz0, hz1, hz2⟩ := info_parts info49
  obtain ⟨da, dc, rfl⟩ := row_slice h.rp.drow
  obtain ⟨na, nc, rfl⟩ := row_slice h.rp.nrow
  have HR := hidden (h.grown (grown_drew w))
  have c3 := h.rp.cells.2.2.2
  obtain ⟨N, hN⟩ : ∃ N, now.length = N := ⟨_, rfl⟩
  have HN := hidden hN
  have h0z : (0 : Int) < (N : Int) := by omega
  have hz : ¬ ((1000 : Int) < ((dn.length : Int) + 1)) := by omega
  rw [hN] at c3
  have H0 := hidden h0
  clear h hN h0
  go_enter Try.func52, Try.ntmps52
  go_wp2_with fail
  refine wp_region_held_drew (S := (fun u : World => u.cell? ⟨M, 3, none⟩ = some (.slice na N nc))) (by kernel_rfl) (by exact c3) (fun hHeld => ?_)
  clear c3
  have HC : Hid (∀ {u : World} {a b c : Value}, RP B u M l a b c (.slice na now.length nc) now dn gn → u.cell? ⟨M, 3, none⟩ = some (.slice na N nc)) := fun hu => by rw [← HN.out]; exact hu.cells.2.2.2
  generalize w.drew = W at *
  refine take_dst 0 (some 8) rfl rfl (by kernel_rfl) (by kernel_rfl) (by kernel_rfl) (fun _ _ _ h => h) (v := ?_) (Or.inl ⟨by rfl, ?_⟩) (by assumption) ?_
  rotate_left
  · (intro w hSw; (try dsimp only at hSw); go_simp; try with_reducible rfl)
  simp only [Act.put, List.setIfInBounds_toArray, List.set_cons_zero, List.set_cons_succ]
  refine take_dst 1 (some 9) rfl rfl (by kernel_rfl) (by kernel_rfl) (by kernel_rfl) (fun _ _ _ h => h) (v := ?_) (Or.inl ⟨by rfl, ?_⟩) (by assumption) ?_
  rotate_left
  · (intro w hSw; (try dsimp only at hSw); go_simp; try with_reducible rfl)
  simp only [Act.put, List.setIfInBounds_toArray, List.set_cons_zero, List.set_cons_succ]
  refine take_dst 2 (some 10) rfl rfl (by kernel_rfl) (by kernel_rfl) (by kernel_rfl) (fun _ _ _ h => h) (v := ?_) (Or.inl ⟨by rfl, ?_⟩) (by assumption) ?_
  rotate_left
  · (intro w hSw; (try dsimp only at hSw); go_simp; try with_reducible rfl)
  simp only [Act.put, List.setIfInBounds_toArray, List.set_cons_zero, List.set_cons_succ]
  refine take_dst 3 (some 11) rfl rfl (by kernel_rfl) (by kernel_rfl) (by kernel_rfl) (fun _ _ _ h => h) (v := ?_) (Or.inl ⟨by rfl, ?_⟩) (by assumption) ?_
  rotate_left
  · (intro w hSw; (try dsimp only at hSw); go_simp; try with_reducible rfl)
  simp only [Act.put, List.setIfInBounds_toArray, List.set_cons_zero, List.set_cons_succ]
  refine take_dst 5 (some 13) rfl rfl (by kernel_rfl) (by kernel_rfl) (by kernel_rfl) (fun _ _ _ h => h) (v := ?_) (Or.inl ⟨by rfl, ?_⟩) (by assumption) ?_
  rotate_left
  · (intro w hSw; (try dsimp only at hSw); go_simp; try with_reducible rfl)
  simp only [Act.put, List.setIfInBounds_toArray, List.set_cons_zero, List.set_cons_succ]
  refine take_dst 6 (some 14) rfl rfl (by kernel_rfl) (by kernel_rfl) (by kernel_rfl) (fun _ _ _ h => h) (v := ?_) (Or.inl ⟨by rfl, ?_⟩) (by assumption) ?_
  rotate_left
  · (intro w hSw; (try dsimp only at hSw); go_simp; try with_reducible rfl)
  simp only [Act.put, List.setIfInBounds_toArray, List.set_cons_zero, List.set_cons_succ]
  refine take_dst 7 (some 15) rfl rfl (by kernel_rfl) (by kernel_rfl) (by kernel_rfl) (fun _ _ _ h => h) (v := ?_) (Or.inl ⟨by rfl, ?_⟩) (by assumption) ?_
  rotate_left
  · (intro w hSw; (try dsimp only at hSw); go_simp; try with_reducible rfl)
  simp only [Act.put, List.setIfInBounds_toArray, List.set_cons_zero, List.set_cons_succ]
  refine take_dst 8 (some 16) rfl rfl (by kernel_rfl) (by kernel_rfl) (by kernel_rfl) (fun _ _ _ h => h) (v := ?_) (Or.inl ⟨by rfl, ?_⟩) (by assumption) ?_
  rotate_left
  · (intro w hSw; (try dsimp only at hSw); go_simp; try with_reducible rfl)
  simp only [Act.put, List.setIfInBounds_toArray, List.set_cons_zero, List.set_cons_succ]
  have c1 := HR.out.rp.cells.2.1
  have HR7 := hidden (HR.out.grown (grownBy_alloc W (.cells #[.slice na N nc] 49)))
  have c17 := HR7.out.rp.cells.2.1
  refine wpAnyH_ready (rs := [4, 9]) (by kernel_rfl) (by simp) ?_
  refine AllReadyH.cons rfl (fun K hK => ?_) (AllReadyH.cons rfl (fun K hK => ?_) AllReadyH.nil)
  · go_simp
    refine hK.out _ _ (HC.out HR.out.rp) (fun hHeld1 => ?_)
    clear hK K hHeld
    refine wpAnyH_ready (rs := [9]) (by kernel_rfl) (by simp) ?_
    refine AllReadyH.cons rfl (fun K hK => ?_) AllReadyH.nil
    go_simp
    refine hK.out _ _ (HC.out HR7.out.rp) (fun hHeld2 => ?_)
    clear hK K hHeld1 c1 c17
    refine wpAnyH_ready (rs := [10]) (by kernel_rfl) (by simp) ?_
    refine AllReadyH.cons rfl (fun K hK => ?_) AllReadyH.nil
    refine step_append_wh rfl (.tmp 12) (.tmp 17) 48 rfl B 49 i0 (.slice none 0 0) 1 24 Try.underlying48 hi hz0 hz1 hz2 rfl (by decide) (.slice da dn.length dc) dn.length (dn.map (·.1)) (by simp [Act.eval]) HR7.out.rp.drow ⟨W.heap.size, 0, none⟩ 1 1 [.slice na N nc] (by simp [Act.eval]) rfl (cells1e _ _) (by intro u hu; simp at hu; subst hu; rfl) (by unfold maxLen; omega) (by omega) HR7.out.rp.bs (by decide) ?_
    intro v' w8 hr8 hg8 hw8
    obtain ⟨za, zc, rfl⟩ := row_slice hr8.out
    have HR9 : Hid (RX B w0 X M ((w8.setCell ⟨M, 1, none⟩ (.slice za (dn.length + 1) zc)).setCell ⟨M, 3, none⟩ (.slice none 0 0)) l pv (.slice za (dn.length + 1) zc) gv (.slice none 0 0) [] (dn ++ [(.slice na now.length nc, now)]) gn) := HR7.out.shut H0.out hg8.out (by rw [HN.out]; exact hr8.out) hw8.out
    have hM8 := HR7.out.head3 hg8.out (row_head HR7.out.rp.drow HR7.out.rp.head (by decide))
    have d1 := (head_cells hM8).2.1
    have d3 : w8.cell? ⟨M, 3, none⟩ = some (.slice na N nc) := by rw [← HN.out]; exact (head_cells hM8).2.2.2
    have f1 : w8.frozen? ⟨M, 1, none⟩ = false := frozen_of_row w8 M 1 _ 51 hM8
    have hM9 := heap_setCell_same w8 M 1 _ 51 (.slice za (dn.length + 1) zc) hM8
    have d9 : (w8.setCell ⟨M, 1, none⟩ (.slice za (dn.length + 1) zc)).cell? ⟨M, 3, none⟩ = some (.slice na N nc) := by rw [← HN.out]; exact (head_cells hM9).2.2.2
    have f9 : (w8.setCell ⟨M, 1, none⟩ (.slice za (dn.length + 1) zc)).frozen? ⟨M, 3, none⟩ = false := frozen_of_row _ M 3 _ 51 hM9
    have d10 := HR9.out.rp.cells.2.1
    clear hr8 hg8 hw8 hM8 hM9
    refine hK.out _ _ d3 (fun hHeld4 => ?_)
    clear hK K
    refine take_dst 11 (some 19) rfl rfl (by kernel_rfl) (by kernel_rfl) (by kernel_rfl) (fun _ _ _ h => h) (v := ?_) (Or.inl ⟨by rfl, ?_⟩) (by assumption) ?_
    rotate_left
    · (intro w hSw; (try dsimp only at hSw); go_simp; try with_reducible rfl)
    simp only [Act.put, List.setIfInBounds_toArray]
    refine take_dst 12 (some 20) rfl rfl (by kernel_rfl) (by kernel_rfl) (by kernel_rfl) (fun _ _ _ h => h) (v := ?_) (Or.inl ⟨by rfl, ?_⟩) (by assumption) ?_
    rotate_left
    · (intro w hSw; (try dsimp only at hSw); go_simp; try with_reducible rfl)
    simp only [Act.put]
    refine wpAnyH_ready (rs := [13]) (by kernel_rfl) (by simp) ?_
    refine AllReadyH.cons rfl (fun K hK => ?_) AllReadyH.nil
    go_simp
    refine hK.out _ _ d9 (fun hHeld5 => ?_)
    clear hK K
    refine wpAnyH_done (by kernel_rfl) ?_ _
    clear hHeld4 hHeld5 HR7 HR HC d1 d3 f1
    generalize (w8.setCell ⟨M, 1, none⟩ (.slice za (dn.length + 1) zc)) = W9 at *
    go_wp2
    go_end0
    exact ⟨⟨_, rfl⟩, _, HR9.out⟩
  · go_simp
    refine hK.out _ _ (HC.out HR7.out.rp) (fun hHeld1 => ?_)
    clear hK K hHeld
    refine wpAnyH_ready (rs := [4]) (by kernel_rfl) (by simp) ?_
    refine AllReadyH.cons rfl (fun K hK => ?_) AllReadyH.nil
    go_simp
    refine hK.out _ _ (HC.out HR7.out.rp) (fun hHeld2 => ?_)
    clear hK K hHeld1 c1 c17
    refine wpAnyH_ready (rs := [10]) (by kernel_rfl) (by simp) ?_
    refine AllReadyH.cons rfl (fun K hK => ?_) AllReadyH.nil
    refine step_append_wh rfl (.tmp 12) (.tmp 17) 48 rfl B 49 i0 (.slice none 0 0) 1 24 Try.underlying48 hi hz0 hz1 hz2 rfl (by decide) (.slice da dn.length dc) dn.length (dn.map (·.1)) (by simp [Act.eval]) HR7.out.rp.drow ⟨W.heap.size, 0, none⟩ 1 1 [.slice na N nc] (by simp [Act.eval]) rfl (cells1e _ _) (by intro u hu; simp at hu; subst hu; rfl) (by unfold maxLen; omega) (by omega) HR7.out.rp.bs (by decide) ?_
    intro v' w8 hr8 hg8 hw8
    obtain ⟨za, zc, rfl⟩ := row_slice hr8.out
    have HR9 : Hid (RX B w0 X M ((w8.setCell ⟨M, 1, none⟩ (.slice za (dn.length + 1) zc)).setCell ⟨M, 3, none⟩ (.slice none 0 0)) l pv (.slice za (dn.length + 1) zc) gv (.slice none 0 0) [] (dn ++ [(.slice na now.length nc, now)]) gn) := HR7.out.shut H0.out hg8.out (by rw [HN.out]; exact hr8.out) hw8.out
    have hM8 := HR7.out.head3 hg8.out (row_head HR7.out.rp.drow HR7.out.rp.head (by decide))
    have d1 := (head_cells hM8).2.1
    have d3 : w8.cell? ⟨M, 3, none⟩ = some (.slice na N nc) := by rw [← HN.out]; exact (head_cells hM8).2.2.2
    have f1 : w8.frozen? ⟨M, 1, none⟩ = false := frozen_of_row w8 M 1 _ 51 hM8
    have hM9 := heap_setCell_same w8 M 1 _ 51 (.slice za (dn.length + 1) zc) hM8
    have d9 : (w8.setCell ⟨M, 1, none⟩ (.slice za (dn.length + 1) zc)).cell? ⟨M, 3, none⟩ = some (.slice na N nc) := by rw [← HN.out]; exact (head_cells hM9).2.2.2
    have f9 : (w8.setCell ⟨M, 1, none⟩ (.slice za (dn.length + 1) zc)).frozen? ⟨M, 3, none⟩ = false := frozen_of_row _ M 3 _ 51 hM9
    have d10 := HR9.out.rp.cells.2.1
    clear hr8 hg8 hw8 hM8 hM9
    refine hK.out _ _ d3 (fun hHeld4 => ?_)
    clear hK K
    refine take_dst 11 (some 19) rfl rfl (by kernel_rfl) (by kernel_rfl) (by kernel_rfl) (fun _ _ _ h => h) (v := ?_) (Or.inl ⟨by rfl, ?_⟩) (by assumption) ?_
    rotate_left
    · (intro w hSw; (try dsimp only at hSw); go_simp; try with_reducible rfl)
    simp only [Act.put, List.setIfInBounds_toArray]
    refine take_dst 12 (some 20) rfl rfl (by kernel_rfl) (by kernel_rfl) (by kernel_rfl) (fun _ _ _ h => h) (v := ?_) (Or.inl ⟨by rfl, ?_⟩) (by assumption) ?_
    rotate_left
    · (intro w hSw; (try dsimp only at hSw); go_simp; try with_reducible rfl)
    simp only [Act.put]
    refine wpAnyH_ready (rs := [13]) (by kernel_rfl) (by simp) ?_
    refine AllReadyH.cons rfl (fun K hK => ?_) AllReadyH.nil
    go_simp
    refine hK.out _ _ d9 (fun hHeld5 => ?_)
    clear hK K
    refine wpAnyH_done (by kernel_rfl) ?_ _
    clear hHeld4 hHeld5 HR7 HR HC d1 d3 f1
    generalize (w8.setCell ⟨M, 1, none⟩ (.slice za (dn.length + 1) zc)) = W9 at *
    go_wp2
    go_end0
    exact ⟨⟨_, rfl⟩, _, HR9.out⟩

/-- A row of edits grows that is none of the past's. -/
theorem rx_out {s n : Nat} {v : Value} {xs : List Value} {w1 : World} (h : RX B w0 X M w l pv dv gv nv now dn gn) (hv : w.ownsRow s 57 3 v n xs) (hs : w0.heap.size ≤ s) (hfix : ∀ k, (k = M ∨ dv.ownBlock = some k ∨ gv.ownBlock = some k ∨ nv.ownBlock = some k ∨ ∃ t ∈ dn ++ gn, t.1.ownBlock = some k) → k < s) (hg : w.grownBy w1 v.ownBlock) : RX B w0 X M w1 l pv dv gv nv now dn gn := by
  refine ⟨⟨hg.os.trans h.kept.os, hg.tape.trans h.kept.tape, hg.output.trans h.kept.output, Nat.le_trans h.kept.size hg.size, fun k hk hx => (hg.block k (Nat.lt_of_lt_of_le hk h.kept.size) (fun e => ?_)).trans (h.kept.block k hk hx)⟩, h.rp.same hg.size (fun k hk => hg.block k (h.rp.own k hk).2 (fun e => ?_)), h.sub⟩
  · have := (own_lt_row hv e.symm).1
    omega
  · have h1 := (own_lt_row hv e.symm).1
    rcases hk with hk | hk | hk
    · have := hfix k (Or.inl hk); omega
    · exact row_ne h.rp.prow hv (by decide) hk e.symm
    · have := hfix k (Or.inr hk); omega
theorem run_at {a b : List Nat} {es : List Ed} {k : Nat} {e : Ed} (h : Run a es b) (he : es[k]? = some e) : okE ((es.take k).foldl appL a) e := by
  have hk : k < es.length := (List.getElem?_eq_some_iff.1 he).1
  have h2 : Run a (es.take k ++ es.drop k) b := by rw [List.take_append_drop]; exact h
  obtain ⟨t, h3, h4⟩ := run_app.1 h2
  rw [h3.fold]
  rw [List.drop_eq_getElem_cons hk] at h4
  have := h4.1
  rwa [(List.getElem?_eq_some_iff.1 he).2] at this
theorem run_lim {a b : List Nat} {es : List Ed} (k : Nat) (h : Run a es b) (ha : a.length ≤ 65536) : ((es.take k).foldl appL a).length ≤ 65536 := by
  have h2 : Run a (es.take k ++ es.drop k) b := by rw [List.take_append_drop]; exact h
  obtain ⟨t, h3, h4⟩ := run_app.1 h2
  rw [h3.fold]
  exact h3.lim ha

set_option maxHeartbeats 4000000 in
theorem rbacks (h : RX B w0 X M w l pv dv gv nv now dn gn) (hl : l.length ≤ 65536) (es : List Ed) (hes : es.length ≤ 100000) (lz : List Nat) (hrun : Run l (backsL es) lz) (v : Value) (hv : w.ownsRow B 57 3 v es.length (rowE es)) :
    Calls Try.prog 63 #[.pointer (some ⟨M, 0, none⟩), v] w fun q w' => ∃ vo pv', q = .returned vo ∧ w'.ownsRow w.heap.size 57 3 vo es.length (rowE (backsL es)) ∧ RX B w0 X M w' lz pv' dv gv nv now dn gn := by
  obtain ⟨i0, hi, hz0, hz1, hz2⟩ := info_parts info57e
  obtain ⟨N, hN⟩ : ∃ N, es.length = N := ⟨_, rfl⟩
  have HN := hidden hN
  have hsM := h.rp.lt
  have hvt : ∀ g, v.ownBlock = some g → g < w.heap.size ∧ g ≠ M := fun g hg => ⟨(own_lt_row hv hg).2, fun e => row_head hv h.rp.head (by decide) (by rw [← e]; exact hg)⟩
  have Hvt := hidden hvt
  have H0s := hidden h.kept.size
  have Hfix : Hid (∀ k, (k = M ∨ dv.ownBlock = some k ∨ gv.ownBlock = some k ∨ nv.ownBlock = some k ∨ ∃ t ∈ dn ++ gn, t.1.ownBlock = some k) → k < w.heap.size) := fun k hk => by
    rcases hk with hk | hk
    · exact (h.rp.own k (Or.inl hk)).2
    · exact (h.rp.own k (Or.inr (Or.inr hk))).2
  obtain ⟨va, vc, rfl⟩ := row_slice hv
  rw [hN] at hv hes Hvt ⊢
  have HR := hidden h
  have HV := hidden hv
  have Hl := hidden hl
  have Hrun := hidden hrun
  have qN : IntKind.i64.wrap ((N : Int) - 1) = (N : Int) - 1 := IntWalk.i64_in _ (by omega)
  clear h hv hl hrun hvt hN
  go_enter Try.func63, Try.ntmps63
  go_wp2
  go_loopw [5, 6] (fun out i wr => ∃ (k : Nat) (pv' : Value), k ≤ N ∧ i = .int .i64 ((N : Int) - 1 - (k : Int)) ∧ RX B w0 X M wr ((bks es k).foldl appL l) pv' dv gv nv now dn gn ∧ wr.ownsRow B 57 3 (.slice va N vc) N (rowE es) ∧ wr.ownsRow w.heap.size 57 3 out k (rowE (bks es k)) ∧ w.heap.size ≤ wr.heap.size) (fun _ i _ => (intOf i + 1).toNat)
  case atStart => exact ⟨0, pv, Nat.zero_le _, by simp, HR.out, HV.out, World.ownsRow_nil _ _ _ _, Nat.le_refl _⟩
  case round =>
    obtain ⟨k, pv', hk, hik, hR, hV, hO, hsz⟩ := hrel
    by_cases hlt : k < N
    · obtain ⟨m, hm⟩ : ∃ m : Nat, (N : Int) - 1 - (k : Int) = (m : Int) := ⟨N - 1 - k, by omega⟩
      rw [hm] at hik
      subst hik
      have hmN : m < N := by omega
      have hidx : es.length - 1 - k = m := by have := HN.out; omega
      obtain ⟨e, he⟩ : ∃ e, es[m]? = some e := ⟨_, List.getElem?_eq_getElem (by have := HN.out; omega)⟩
      obtain ⟨g, cap, hg⟩ := own_some hV (by omega)
      simp only [Value.slice.injEq, true_and] at hg
      obtain ⟨rfl, rfl⟩ := hg
      obtain ⟨x0, x1, x2⟩ := row_cells3 hV he
      obtain ⟨hgs, hgM⟩ := Hvt.out g rfl
      have hsucc := bks_succ es k e (by rw [hidx]; exact he) (by have := HN.out; omega)
      have hbe : (backsL es)[k]? = some e.back := by
        unfold backsL
        rw [List.getElem?_map, List.getElem?_reverse (by have := HN.out; omega), hidx, he]
        rfl
      have hok : okE ((bks es k).foldl appL l) e.back := run_at Hrun.out hbe
      have hlk : ((bks es k).foldl appL l).length ≤ 65536 := run_lim k Hrun.out Hl.out
      obtain ⟨oa, oc, rfl⟩ := row_slice hO
      have hm0 : (0 : Int) ≤ (m : Int) := by omega
      have hmz : (m : Int) < (N : Int) := by omega
      have q3 : IntKind.i64.wrap ((m : Int) - 1) = (m : Int) - 1 := IntWalk.i64_in _ (by omega)
      have Hsucc := hidden hsucc
      have Hok := hidden hok
      have Hlk := hidden hlk
      have HR1 := hidden hR
      have HV1 := hidden hV
      have HO1 := hidden hO
      have Hm := hidden hm
      generalize hT : (bks es k).foldl appL l = t at *
      have HT := hidden hT
      clear hsucc hok hlk hR hV hO he hidx hm hbe hT
      go_wp2_with fail
      refine (rback _ _ _ _).mono ?_
      rintro q w1 ⟨rfl, hb1⟩
      have hg1 := grown_of_below hb1
      have hga := grown_tr hg1 (grownBy_alloc w1 (.cells #[.int .i64 e.at', .string e.new, .string e.old] 57))
      have HR2 := hidden ((HR1.out.grown hga).grown (grown_drew _))
      have HV2 : Hid ((w1.alloc (.cells #[.int .i64 e.at', .string e.new, .string e.old] 57)).drew.ownsRow B 57 3 (.slice (some ⟨g, 0, none⟩) N vc) N (rowE es)) := row_grown (row_grown HV1.out hga (by simp)) (grown_drew _) (by simp)
      have HO2 : Hid ((w1.alloc (.cells #[.int .i64 e.at', .string e.new, .string e.old] 57)).drew.ownsRow w.heap.size 57 3 (.slice oa k oc) k (rowE (bks es k))) := row_grown (row_grown HO1.out hga (by simp)) (grown_drew _) (by simp)
      have HB2 : Hid (BoxE w1.heap.size e.back (w1.alloc (.cells #[.int .i64 e.at', .string e.new, .string e.old] 57)).drew) := heap_alloc_new _ _
      have hs2 : w.heap.size ≤ w1.heap.size := by have := hg1.size; omega
      have hob : Value.ownBlock (.slice oa k oc) ≠ some w1.heap.size := fun q => by have := (own_lt_row HO1.out q).2; have := hg1.size; omega
      have hneM : w1.heap.size ≠ M := by omega
      have hsd : (w1.alloc (.cells #[.int .i64 e.at', .string e.new, .string e.old] 57)).drew.heap.size = w1.heap.size + 1 := by simp [World.drew]
      clear hb1 hg1 hga HR1 HV1 HO1 x0 x1 x2
      go_wp2_with fail
      have HS : Hid (∀ u, BoxE w1.heap.size e.back u → (fun u : World => u.cell? ⟨w1.heap.size, 0, none⟩ = some (.int .i64 e.at') ∧ u.cell? ⟨w1.heap.size, 1, none⟩ = some (.string e.new) ∧ u.cell? ⟨w1.heap.size, 2, none⟩ = some (.string e.old)) u) := fun u hu => hu.cells
      refine wp_region_held_drew (S := (fun u : World => u.cell? ⟨w1.heap.size, 0, none⟩ = some (.int .i64 e.at') ∧ u.cell? ⟨w1.heap.size, 1, none⟩ = some (.string e.new) ∧ u.cell? ⟨w1.heap.size, 2, none⟩ = some (.string e.old))) (by kernel_rfl) (HS.out _ HB2.out) (fun hHeld => ?_)
      generalize (w1.alloc (.cells #[.int .i64 e.at', .string e.new, .string e.old] 57)).drew = W2 at *
      refine take_dst 0 (some 20) rfl rfl (by kernel_rfl) (by kernel_rfl) (by kernel_rfl) (fun _ _ _ h => h) (v := ?_) (Or.inl ⟨by rfl, ?_⟩) (by assumption) ?_
      rotate_left
      · (intro w hSw; (try dsimp only at hSw); go_simp; try with_reducible rfl)
      simp only [Act.put, List.setIfInBounds_toArray, List.set_cons_zero, List.set_cons_succ]
      refine take_dst 1 (some 21) rfl rfl (by kernel_rfl) (by kernel_rfl) (by kernel_rfl) (fun _ _ _ h => h) (v := ?_) (Or.inl ⟨by rfl, ?_⟩) (by assumption) ?_
      rotate_left
      · (intro w hSw; (try dsimp only at hSw); go_simp; try with_reducible rfl)
      simp only [Act.put, List.setIfInBounds_toArray, List.set_cons_zero, List.set_cons_succ]
      refine take_dst 2 (some 22) rfl rfl (by kernel_rfl) (by kernel_rfl) (by kernel_rfl) (fun _ _ _ h => h) (v := ?_) (Or.inl ⟨by rfl, ?_⟩) (by assumption) ?_
      rotate_left
      · (intro w hSw; (try dsimp only at hSw); go_simp; try with_reducible rfl)
      simp only [Act.put, List.setIfInBounds_toArray, List.set_cons_zero, List.set_cons_succ]
      refine take_dst 3 (some 23) rfl rfl (by kernel_rfl) (by kernel_rfl) (by kernel_rfl) (fun _ _ _ h => h) (v := ?_) (Or.inl ⟨by rfl, ?_⟩) (by assumption) ?_
      rotate_left
      · (intro w hSw; (try dsimp only at hSw); go_simp; try with_reducible rfl)
      simp only [Act.put, List.setIfInBounds_toArray, List.set_cons_zero, List.set_cons_succ]
      refine take_dst 5 (some 25) rfl rfl (by kernel_rfl) (by kernel_rfl) (by kernel_rfl) (fun _ _ _ h => h) (v := ?_) (Or.inl ⟨by rfl, ?_⟩) (by assumption) ?_
      rotate_left
      · (intro w hSw; (try dsimp only at hSw); go_simp; try with_reducible rfl)
      simp only [Act.put, List.setIfInBounds_toArray, List.set_cons_zero, List.set_cons_succ]
      refine wpAnyH_ready (rs := [4]) (by kernel_rfl) (by simp) ?_
      refine AllReadyH.cons rfl (fun K hK => ?_) AllReadyH.nil
      have c0 := HR2.out.rp.cells.1
      obtain ⟨pa, pc, rfl⟩ := row_slice HR2.out.rp.prow
      go_simp
      refine hK.out _ _ (HS.out _ HB2.out) (fun hHeld1 => ?_)
      clear hK K hHeld
      refine wpAnyH_ready (rs := [6]) (by kernel_rfl) (by simp) ?_
      refine AllReadyH.cons rfl (fun K hK => ?_) AllReadyH.nil
      go_simp
      refine (rput e.back HR2.out.rp.prow Hlk.out ⟨Hok.out.1.1, Hok.out.1.2.1⟩).mono ?_
      rintro q w4 ⟨x4, rfl, hL4⟩
      rw [← Hok.out.app] at hL4
      have hg4 := grown_of_below hL4.2
      have HR5 := hidden (HR2.out.setP hg4 hL4.1)
      have HB4 := hidden (HB2.out.but hg4 (by simp))
      have hM4 := HR2.out.head3 hg4 (by simp)
      have f0 : w4.frozen? ⟨M, 0, none⟩ = false := frozen_of_row w4 M 0 _ 51 hM4
      have d0 := (head_cells hM4).1
      have hs5 : w1.heap.size + 1 ≤ w4.heap.size := by have := hg4.size; omega
      obtain ⟨xa, xc, rfl⟩ := row_slice hL4.1
      have HB5 := hidden (HB4.out.set (j := 0) hneM (.slice xa (appL t e.back).length xc))
      have HV5 : Hid ((w4.setCell ⟨M, 0, none⟩ (.slice xa (appL t e.back).length xc)).ownsRow B 57 3 (.slice (some ⟨g, 0, none⟩) N vc) N (rowE es)) := row_grown (row_grown HV2.out hg4 (by simp)) (grownBy_set w4 M 0 _) (fun q hq e => by simp only [Value.ownBlock, Option.some.injEq] at hq e; omega)
      have HO5 : Hid ((w4.setCell ⟨M, 0, none⟩ (.slice xa (appL t e.back).length xc)).ownsRow w.heap.size 57 3 (.slice oa k oc) k (rowE (bks es k))) := row_grown (row_grown HO2.out hg4 (by simp)) (grownBy_set w4 M 0 _) (fun q hq e => by have := (own_lt_row HO2.out hq).1; simp only [Option.some.injEq] at e; omega)
      have hs6 : (w4.setCell ⟨M, 0, none⟩ (.slice xa (appL t e.back).length xc)).heap.size = w4.heap.size := by simp
      clear hL4 hg4 hM4
      refine hK.out _ _ (HS.out _ HB4.out) (fun hHeld2 => ?_)
      clear hK K hHeld1 c0
      refine take_dst 7 (some 27) rfl rfl (by kernel_rfl) (by kernel_rfl) (by kernel_rfl) (fun _ _ _ h => h) (v := ?_) (Or.inl ⟨by rfl, ?_⟩) (by assumption) ?_
      rotate_left
      · (intro w hSw; (try dsimp only at hSw); go_simp; try with_reducible rfl)
      simp only [Act.put, List.setIfInBounds_toArray, List.set_cons_zero, List.set_cons_succ]
      refine take_dst 8 (some 28) rfl rfl (by kernel_rfl) (by kernel_rfl) (by kernel_rfl) (fun _ _ _ h => h) (v := ?_) (Or.inl ⟨by rfl, ?_⟩) (by assumption) ?_
      rotate_left
      · (intro w hSw; (try dsimp only at hSw); go_simp; try with_reducible rfl)
      simp only [Act.put, List.setIfInBounds_toArray, List.set_cons_zero, List.set_cons_succ]
      refine wpAnyH_ready (rs := [9]) (by kernel_rfl) (by simp) ?_
      refine AllReadyH.cons rfl (fun K hK => ?_) AllReadyH.nil
      go_simp
      refine hK.out _ _ (HS.out _ HB5.out) (fun hHeld3 => ?_)
      clear hK K
      refine wpAnyH_done (by kernel_rfl) ?_ _
      clear hHeld2 hHeld3 HB4 HR2 HB2 HV2 HO2 d0 f0 HS hsd
      generalize (w4.setCell ⟨M, 0, none⟩ (.slice xa (appL t e.back).length xc)) = W5 at *
      obtain ⟨y0, y1, y2⟩ := HB5.out.cells
      have hg7 := grownBy_alloc W5 (.cells #[.int .i64 e.at', .string e.new, .string e.old] 57)
      have HR7 := hidden (HR5.out.grown hg7)
      have HV7 := hidden (row_grown HV5.out hg7 (by simp))
      have HO7 := hidden (row_grown HO5.out hg7 (by simp))
      have hs7 : w.heap.size ≤ (W5.alloc (.cells #[.int .i64 e.at', .string e.new, .string e.old] 57)).heap.size := by simp; omega
      dsimp only [Ed.back] at y0 y1 y2
      clear HR5 HV5 HO5 HB5 hg7
      go_wp2_with (at_builtin; refine wpList_append_at _ rfl _ _ 49 rfl w.heap.size 57 i0 (.agg #[.int .i64 0, .string ⟨#[]⟩, .string ⟨#[]⟩]) 3 40 Try.underlying49 hi hz0 hz1 hz2 rfl (by decide) _ _ _ rfl HO7.out ⟨W5.heap.size, 0, none⟩ 1 1 e.back.row (by simp [Act.eval]) rfl (cells3e _ _ _ _) (by intro u hu; simp [Ed.row] at hu; rcases hu with rfl | rfl | rfl <;> rfl) (by unfold maxLen; omega) (by omega) hs7 (by decide) ?_; intro v5 w9 hr9 hg9 hw9; have hq := row_slice hr9; obtain ⟨za, zc, rfl⟩ := hq; have HR9 := hidden (rx_out HR7.out HO7.out H0s.out Hfix.out hg9); have HV9 := hidden (row_grown HV7.out hg9 (fun q hq e => by have := (own_lt_row HO7.out e).1; simp only [Value.ownBlock, Option.some.injEq] at hq; omega)); have HO9 := hidden hr9; have hs9 := Nat.le_trans hs7 hg9.size; clear hr9 hg9 hw9)
      go_roundw
      case rel =>
        refine ⟨k + 1, .slice xa (appL t e.back).length xc, by omega, by push_cast; have := Hm.out; congr 1; omega, ?_, HV9.out, ?_, hs9⟩
        · rw [Hsucc.out, List.foldl_append, HT.out]
          exact HR9.out
        · rw [Hsucc.out, rowE_app, show rowE [e.back] = e.back.row by simp [rowE]]
          exact HO9.out
      case measure => simp [intOf]
    · have hkN : k = N := by omega
      subst hkN
      rw [show (k : Int) - 1 - (k : Int) = -1 by omega] at hik
      subst hik
      have hall : bks es k = backsL es := by rw [← HN.out, bks_all]; rfl
      rw [hall] at hR hO
      rw [Hrun.out.fold] at hR
      obtain ⟨oa, oc, rfl⟩ := row_slice hO
      have HR1 := hidden hR
      have HO1 := hidden hO
      clear hR hO hV hall
      go_wp2
      go_ret
      exact ⟨_, _, rfl, HO1.out, HR1.out⟩
end
end Go.Proofs.PlatenPiece

namespace Go.Proofs.PlatenPiece
open Go Go.RowKit
set_option linter.unusedVariables false
set_option maxRecDepth 100000

theorem cut1 {w : World} {B g n cap : Nat} {xs : List Value} {v : Value} (h : w.ownsRow B 49 1 (.slice (some ⟨g, 0, none⟩) (n + 1) cap) (n + 1) (xs ++ [v])) : w.ownsRow B 49 1 (.slice (some ⟨g, 0, none⟩) n cap) n xs ∧ n + 1 ≤ cap ∧ w.cell? ⟨g, n, none⟩ = some v := by
  have hx : xs.length = n := by have := h.1; rw [List.length_append, List.length_singleton] at this; omega
  have hc := h.cells (g := g) rfl n v (by rw [List.getElem?_append_right (by omega), hx]; simp)
  rw [Addr.add_lit, Nat.zero_add] at hc
  obtain ⟨h0, h1⟩ := h
  rcases h1 with ⟨e, _⟩ | ⟨g', cap', cur, e, e2, e3, e4, e5, e6, e7⟩
  · cases e
  · simp only [Value.slice.injEq, Option.some.injEq, Addr.mk.injEq, and_true, true_and] at e
    obtain ⟨rfl, rfl⟩ := e
    refine ⟨⟨by omega, Or.inr ⟨g, cap, cur, rfl, e2, e3, by omega, e5, e6, ?_⟩⟩, e4, hc⟩
    have := congrArg (List.take n) e7
    rw [List.take_take, List.take_left' hx] at this
    rw [Nat.mul_one]
    rwa [Nat.min_eq_left (by omega)] at this

section
variable {B : Nat} {w0 w w3 : World} {X : Nat → Prop} {M : Nat} {l : List Nat} {pv dv gv nv dv' gv' : Value} {now : List Ed} {dn gn dn' gn' : List (Value × List Ed)}
theorem RX.setD (h : RX B w0 X M w l pv dv gv nv now dn gn) (hg : w.grownBy w3 dv.ownBlock) (hL : ∀ t ∈ dn', TrAt B w nv t ∧ ∀ k, k < w0.heap.size → t.1.ownBlock = some k → X k) (hr : w3.ownsRow B 49 1 dv' dn'.length (dn'.map (·.1))) (hw : dv'.ownBlock = dv.ownBlock ∨ dv'.ownBlock = some w.heap.size) :
    RX B w0 X M (w3.setCell ⟨M, 1, none⟩ dv') l pv dv' gv nv now dn' gn ∧ (∀ t, TrAt B w nv t → TrAt B (w3.setCell ⟨M, 1, none⟩ dv') nv t) := by
  obtain ⟨a, b, c, d⟩ := h.rp.setD h.wide hg (fun t ht => (hL t ht).1) (fun t ht k hk hb => by rcases Nat.lt_or_ge k w0.heap.size with q | q; exact Or.inl ((hL t ht).2 k q hb); exact Or.inr q) hr hw
  exact ⟨h.of a b c, d⟩
theorem RX.setG (h : RX B w0 X M w l pv dv gv nv now dn gn) (hg : w.grownBy w3 gv.ownBlock) (hL : ∀ t ∈ gn', TrAt B w nv t ∧ ∀ k, k < w0.heap.size → t.1.ownBlock = some k → X k) (hr : w3.ownsRow B 49 1 gv' gn'.length (gn'.map (·.1))) (hw : gv'.ownBlock = gv.ownBlock ∨ gv'.ownBlock = some w.heap.size) :
    RX B w0 X M (w3.setCell ⟨M, 2, none⟩ gv') l pv dv gv' nv now dn gn' ∧ (∀ t, TrAt B w nv t → TrAt B (w3.setCell ⟨M, 2, none⟩ gv') nv t) := by
  obtain ⟨a, b, c, d⟩ := h.rp.setG h.wide hg (fun t ht => (hL t ht).1) (fun t ht k hk hb => by rcases Nat.lt_or_ge k w0.heap.size with q | q; exact Or.inl ((hL t ht).2 k q hb); exact Or.inr q) hr (by rcases hw with e | e; exact Or.inl e; exact Or.inr (Or.inr e))
  exact ⟨h.of a b c, d⟩
theorem RX.tr (h : RX B w0 X M w l pv dv gv nv now dn gn) {t : Value × List Ed} (ht : t ∈ dn ++ gn) : TrAt B w nv t ∧ ∀ k, k < w0.heap.size → t.1.ownBlock = some k → X k := ⟨h.rp.trs t ht, fun k hk q => h.sub k hk (Or.inr (Or.inr (Or.inr (Or.inr (Or.inr ⟨t, ht, q⟩)))))⟩
theorem mem_snoc {α : Type} {P : α → Prop} {L : List α} {x : α} (h : ∀ p ∈ L, P p) (hx : P x) : ∀ p ∈ L ++ [x], P p := by
  intro p hp
  rcases List.mem_append.1 hp with hp | hp
  · exact h p hp
  · simp only [List.mem_singleton] at hp
    subst hp
    exact hx
theorem up_row {b : Nat} {v : Value} {n : Nat} {xs : List Value} {s s' : Nat} {e : TypeId} (h : w.ownsRow s' e b v n xs) (hs : s ≤ s') : w.ownsRow s e b v n xs := by
  obtain ⟨q0, q1⟩ := h
  refine ⟨q0, ?_⟩
  rcases q1 with q1 | ⟨g', cap', cur, e1, e2, e3⟩
  · exact Or.inl q1
  · exact Or.inr ⟨g', cap', cur, e1, Nat.le_trans hs e2, e3⟩

set_option maxHeartbeats 2000000 in
theorem rcancel (h : RX B w0 X M w l pv dv gv nv now dn gn) (hl : l.length ≤ 65536) (hnow : now.length ≤ 100000) (lz : List Nat) (hrun : Run l (backsL now) lz) :
    Calls Try.prog 41 #[.pointer (some ⟨M, 0, none⟩)] w fun q w' => ∃ vo pv', q = .returned vo ∧ w'.ownsRow w.heap.size 57 3 vo now.length (rowE (backsL now)) ∧ RX B w0 X M w' lz pv' dv gv (.slice none 0 0) [] dn gn := by
  have c3 := h.rp.cells.2.2.2
  have f3 := h.rp.free 3
  have h1 := h.setN (now' := []) (grownBy_refl w nv.ownBlock) (World.ownsRow_nil _ _ _ _) (Or.inr (Or.inl rfl))
  have hr1 := row_grown h.rp.nrow (grownBy_set w M 3 (.slice none 0 0)) (fun k hk e => row_head h.rp.nrow h.rp.head (by decide) (by rw [hk, e]))
  have C2 := hidden (rbacks h1 hl now hnow lz hrun nv hr1)
  have hsz : (w.setCell ⟨M, 3, none⟩ (.slice none 0 0)).heap.size = w.heap.size := by simp
  rw [hsz] at C2
  obtain ⟨oa, oc, rfl⟩ := row_slice h.rp.nrow
  clear h h1 hr1 hrun hl
  go_enter Try.func41, Try.ntmps41
  go_wp2_with fail
  refine C2.out.mono ?_
  rintro q w2 ⟨vo, pv', rfl, hr2, h2⟩
  obtain ⟨va, vc, rfl⟩ := row_slice hr2
  have HR2 := hidden hr2
  have H2 := hidden h2
  clear hr2 h2 C2
  go_wp2
  go_ret
  exact ⟨_, _, rfl, HR2.out, H2.out⟩

set_option maxHeartbeats 2000000 in
theorem rundo_none (h : RX B w0 X M w l pv dv gv nv [] [] gn) : Calls Try.prog 53 #[.pointer (some ⟨M, 0, none⟩)] w fun q w' => q = .returned (.tuple #[.slice none 0 0, .int .i64 7]) ∧ w' = w := by
  have c1 := rclose_none h (by simp)
  obtain ⟨da, dc, rfl⟩ := row_slice h.rp.drow
  have d1 := h.rp.cells.2.1
  simp only [List.length_nil] at d1
  clear h
  go_enter Try.func53, Try.ntmps53
  go_wp2_with fail
  refine c1.mono ?_
  rintro q w1 ⟨⟨v, rfl⟩, rfl⟩
  clear c1
  go_wp2
  go_ret2
  exact ⟨rfl, rfl⟩

set_option maxHeartbeats 2000000 in
theorem rredo_none {P : World → Prop} (hcl : Calls Try.prog 52 #[.pointer (some ⟨M, 0, none⟩)] w fun q w' => (∃ v, q = .returned v) ∧ (∃ dv nv dn, RX B w0 X M w' l pv dv gv nv [] dn []) ∧ P w') :
    Calls Try.prog 54 #[.pointer (some ⟨M, 0, none⟩)] w fun q w' => q = .returned (.tuple #[.slice none 0 0, .int .i64 7]) ∧ P w' := by
  have Hcl := hidden hcl
  clear hcl
  go_enter Try.func54, Try.ntmps54
  go_wp2_with fail
  refine Hcl.out.mono ?_
  rintro q w1 ⟨⟨v, rfl⟩, ⟨dv1, nv1, dn1, h1⟩, hP⟩
  obtain ⟨da, dc, rfl⟩ := row_slice h1.rp.grow
  have c2 := h1.rp.cells.2.2.1
  simp only [List.length_nil] at c2
  have HP' := hidden hP
  clear h1 Hcl hP
  go_wp2
  go_ret2
  exact ⟨rfl, HP'.out⟩

set_option maxHeartbeats 4000000 in
theorem rundo_of {d0 : List (Value × List Ed)} {t : Value × List Ed} (hcl : Calls Try.prog 52 #[.pointer (some ⟨M, 0, none⟩)] w fun q w' => (∃ v, q = .returned v) ∧ ∃ dv' nv', RX B w0 X M w' l pv dv' gv nv' [] (d0 ++ [t]) gn ∧ w.heap.size ≤ w'.heap.size)
    (hl : l.length ≤ 65536) (ht : t.2.length ≤ 100000) (hd : d0.length ≤ 100000) (hgn : gn.length ≤ 100000) (lz : List Nat) (hrun : Run l (backsL t.2) lz) :
    Calls Try.prog 53 #[.pointer (some ⟨M, 0, none⟩)] w fun q w' => ∃ vo pv' dv' gv' nv', q = .returned (.tuple #[vo, .int .i64 0]) ∧ w'.ownsRow w.heap.size 57 3 vo t.2.length (rowE (backsL t.2)) ∧ RX B w0 X M w' lz pv' dv' gv' nv' [] d0 (gn ++ [t]) := by
  obtain ⟨i0, hi, hz0, hz1, hz2⟩ := info_parts info49
  obtain ⟨tv, te⟩ := t
  dsimp only at ht hrun ⊢
  have Hcl := hidden hcl
  have Hl := hidden hl
  have Ht := hidden ht
  have Hgn := hidden hgn
  have Hrun := hidden hrun
  clear hcl hl ht hgn hrun
  go_enter Try.func53, Try.ntmps53
  go_wp2_with fail
  refine Hcl.out.mono ?_
  rintro q w1 ⟨⟨v1, rfl⟩, dv1, nv1, h1, hsz1⟩
  have hr1 := h1.rp.drow
  rw [List.length_append, List.length_singleton, List.map_append, List.map_singleton] at hr1
  obtain ⟨g, cap, rfl⟩ := own_some hr1 (by omega)
  obtain ⟨k1, k2, k3⟩ := cut1 hr1
  dsimp only at k3
  have ht1 := h1.tr (t := (tv, te)) (by simp)
  have htr1 : w1.ownsRow B 57 3 tv te.length (rowE te) := ht1.1.1
  obtain ⟨ta, tc, rfl⟩ := row_slice htr1
  have c1 := h1.rp.cells.2.1
  have f1 := h1.rp.free 1
  obtain ⟨h2, hT2⟩ := h1.setD (dn' := d0) (dv' := .slice (some ⟨g, 0, none⟩) d0.length cap) (grownBy_refl w1 _) (fun p hp => h1.tr (by simp [hp])) k1 (Or.inl rfl)
  have hsz2 : (w1.setCell ⟨M, 1, none⟩ (.slice (some ⟨g, 0, none⟩) d0.length cap)).heap.size = w1.heap.size := by simp
  have HT2 := hidden (hT2 _ ht1.1)
  have HTX := hidden ht1.2
  have H2 := hidden h2
  have q1 : IntKind.i64.wrap ((d0.length : Int) + 1 - 1) = (d0.length : Int) := by rw [show (d0.length : Int) + 1 - 1 = (d0.length : Int) by omega]; exact IntWalk.i64_in _ (by omega)
  have hnz : ¬ ((d0.length : Int) + 1 = 0) := by omega
  have hcap : (d0.length : Int) ≤ (cap : Int) := by omega
  have c2 := h2.rp.cells.2.2.1
  have hg3 := grownBy_alloc (w1.setCell ⟨M, 1, none⟩ (.slice (some ⟨g, 0, none⟩) d0.length cap)) (.cells #[.slice ta te.length tc] 49)
  have H3 := hidden (h2.grown hg3)
  have HT3 : Hid (TrAt B ((w1.setCell ⟨M, 1, none⟩ (.slice (some ⟨g, 0, none⟩) d0.length cap)).alloc (.cells #[.slice ta te.length tc] 49)) nv1 (.slice ta te.length tc, te)) := tr_grown HT2.out hg3 (by simp)
  obtain ⟨ga, gc, rfl⟩ := row_slice h2.rp.grow
  clear Hcl h1 hr1 k1 ht1 htr1 h2 hT2 hg3
  go_wp2_with (at_builtin; refine wpList_append_at _ rfl _ _ 48 rfl B 49 i0 (.slice none 0 0) 1 24 Try.underlying48 hi hz0 hz1 hz2 rfl (by decide) _ _ _ rfl H3.out.rp.grow ⟨(w1.setCell ⟨M, 1, none⟩ (.slice (some ⟨g, 0, none⟩) d0.length cap)).heap.size, 0, none⟩ 1 1 [.slice ta te.length tc] (by simp [Act.eval]) rfl (cells1e _ _) (by intro u hu; simp at hu; subst hu; rfl) (by have := Hgn.out; unfold maxLen; omega) (by have := Hgn.out; omega) H3.out.rp.bs (by decide) ?_; intro v5 w5 hr5 hg5 hw5; have hq := row_slice hr5; obtain ⟨va, vc, rfl⟩ := hq; have hM5 := H3.out.head3 hg5 (row_head H3.out.rp.grow H3.out.rp.head (by decide)); have e2 := (head_cells hM5).2.2.1; have g2 : w5.frozen? ⟨M, 2, none⟩ = false := frozen_of_row w5 M 2 _ 51 hM5; have HSG := hidden (H3.out.setG (gn' := gn ++ [(.slice ta te.length tc, te)]) hg5 (mem_snoc (fun p hp => H3.out.tr (List.mem_append_right _ hp)) ⟨HT3.out, HTX.out⟩) (by rw [List.length_append, List.length_singleton, List.map_append, List.map_singleton]; exact hr5) hw5); have hsz5 := hg5.size; clear hr5 hg5 hw5 hM5)
  obtain ⟨h6, hT6⟩ := HSG.out
  have C7 := hidden (rbacks h6 Hl.out te Ht.out lz Hrun.out _ (hT6 _ HT3.out).1)
  have hsz6 : (w5.setCell ⟨M, 2, none⟩ (.slice va (gn.length + 1) vc)).heap.size = w5.heap.size := by simp
  have hsz7 : w.heap.size ≤ (w5.setCell ⟨M, 2, none⟩ (.slice va (gn.length + 1) vc)).heap.size := by simp at hsz5 hsz6 ⊢; omega
  clear HSG h6 hT6 e2 g2 c1 f1 c2 k3 hsz5 hsz6 hsz2 H2 H3 HT2 HT3
  refine C7.out.mono ?_
  rintro q w7 ⟨vo, pv', rfl, hr7, h7⟩
  obtain ⟨xa, xc, rfl⟩ := row_slice hr7
  have HR7 := hidden (up_row hr7 hsz7)
  have H7 := hidden h7
  clear hr7 h7 C7
  go_wp2
  go_ret2
  exact ⟨_, _, _, _, _, rfl, HR7.out, H7.out⟩

set_option maxHeartbeats 4000000 in
theorem rredo_of {g0 : List (Value × List Ed)} {t : Value × List Ed} (h : RX B w0 X M w l pv dv gv nv [] dn (g0 ++ [t]))
    (hl : l.length ≤ 65536) (ht : t.2.length ≤ 100000) (hd : dn.length ≤ 1000) (hgn : g0.length ≤ 100000) (lz : List Nat) (hrun : Run l t.2 lz) :
    Calls Try.prog 54 #[.pointer (some ⟨M, 0, none⟩)] w fun q w' => ∃ vo pv' dv' gv', q = .returned (.tuple #[vo, .int .i64 0]) ∧ w'.ownsRow B 57 3 vo t.2.length (rowE t.2) ∧ RX B w0 X M w' lz pv' dv' gv' nv [] (dn ++ [t]) g0 := by
  obtain ⟨i0, hi, hz0, hz1, hz2⟩ := info_parts info49
  obtain ⟨tv, te⟩ := t
  dsimp only at ht hrun ⊢
  have hr1 := h.rp.grow
  rw [List.length_append, List.length_singleton, List.map_append, List.map_singleton] at hr1
  obtain ⟨g, cap, rfl⟩ := own_some hr1 (by omega)
  obtain ⟨k1, k2, k3⟩ := cut1 hr1
  dsimp only at k3
  have ht1 := h.tr (t := (tv, te)) (by simp)
  have htr1 : w.ownsRow B 57 3 tv te.length (rowE te) := ht1.1.1
  have hte0 : 0 < te.length := ht1.1.2.2
  obtain ⟨gt, tc, rfl⟩ := own_some htr1 hte0
  have c1 := h.rp.cells.2.2.1
  have f1 := h.rp.free 2
  have CC := hidden (rclose_none h hd)
  obtain ⟨h2, hT2⟩ := h.setG (gn' := g0) (gv' := .slice (some ⟨g, 0, none⟩) g0.length cap) (grownBy_refl w _) (fun p hp => h.tr (by simp [hp])) k1 (Or.inl rfl)
  have HT2 := hidden (hT2 _ ht1.1)
  have HTX := hidden ht1.2
  have q1 : IntKind.i64.wrap ((g0.length : Int) + 1 - 1) = (g0.length : Int) := by rw [show (g0.length : Int) + 1 - 1 = (g0.length : Int) by omega]; exact IntWalk.i64_in _ (by omega)
  have hnz : ¬ ((g0.length : Int) + 1 = 0) := by omega
  have hcap : (g0.length : Int) ≤ (cap : Int) := by omega
  have c2 := h2.rp.cells.2.1
  have hg3 := grownBy_alloc (w.setCell ⟨M, 2, none⟩ (.slice (some ⟨g, 0, none⟩) g0.length cap)) (.cells #[.slice (some ⟨gt, 0, none⟩) te.length tc] 49)
  have H3 := hidden (h2.grown hg3)
  have HT3 : Hid (TrAt B ((w.setCell ⟨M, 2, none⟩ (.slice (some ⟨g, 0, none⟩) g0.length cap)).alloc (.cells #[.slice (some ⟨gt, 0, none⟩) te.length tc] 49)) nv (.slice (some ⟨gt, 0, none⟩) te.length tc, te)) := tr_grown HT2.out hg3 (by simp)
  obtain ⟨da, dc, rfl⟩ := row_slice h2.rp.drow
  have hgtM : gt ≠ M := fun e => row_head htr1 h.rp.head (by decide) (by rw [← e]; rfl)
  have Hl := hidden hl
  have Ht := hidden ht
  have Hd := hidden hd
  have Hrun := hidden hrun
  clear h hr1 k1 ht1 htr1 h2 hT2 hg3 hl ht hd hrun HT2
  go_enter Try.func54, Try.ntmps54
  go_wp2_with fail
  refine CC.out.mono ?_
  rintro q w1 ⟨⟨v1, rfl⟩, rfl⟩
  clear CC
  go_wp2_with (at_builtin; refine wpList_append_at _ rfl _ _ 48 rfl B 49 i0 (.slice none 0 0) 1 24 Try.underlying48 hi hz0 hz1 hz2 rfl (by decide) _ _ _ rfl H3.out.rp.drow ⟨(w1.setCell ⟨M, 2, none⟩ (.slice (some ⟨g, 0, none⟩) g0.length cap)).heap.size, 0, none⟩ 1 1 [.slice (some ⟨gt, 0, none⟩) te.length tc] (by simp [Act.eval]) rfl (cells1e _ _) (by intro u hu; simp at hu; subst hu; rfl) (by have := Hd.out; unfold maxLen; omega) (by have := Hd.out; omega) H3.out.rp.bs (by decide) ?_; intro v5 w5 hr5 hg5 hw5; have hq := row_slice hr5; obtain ⟨va, vc, rfl⟩ := hq; have hM5 := H3.out.head3 hg5 (row_head H3.out.rp.drow H3.out.rp.head (by decide)); have e2 := (head_cells hM5).2.1; have g2 : w5.frozen? ⟨M, 1, none⟩ = false := frozen_of_row w5 M 1 _ 51 hM5; have HSG := hidden (H3.out.setD (dn' := dn ++ [(.slice (some ⟨gt, 0, none⟩) te.length tc, te)]) hg5 (mem_snoc (fun p hp => H3.out.tr (List.mem_append_left _ hp)) ⟨HT3.out, HTX.out⟩) (by rw [List.length_append, List.length_singleton, List.map_append, List.map_singleton]; exact hr5) hw5); clear hr5 hg5 hw5 hM5)
  obtain ⟨h6, hT6⟩ := HSG.out
  have H6 := hidden h6
  clear HSG h6 hT6 e2 g2 c1 f1 c2 k3 H3 HT3 HTX
  generalize (w5.setCell ⟨M, 1, none⟩ (.slice va (dn.length + 1) vc)) = W6 at *
  obtain ⟨N, hN⟩ : ∃ N, te.length = N := ⟨_, rfl⟩
  have HN := hidden hN
  rw [hN] at H6 Ht ⊢
  have hte : N ≤ 100000 := Ht.out
  clear hN
  go_loopw [6] (fun i wr => ∃ (k : Nat) (pv' : Value), k ≤ N ∧ i = .int .i64 (k : Nat) ∧ RX B w0 X M wr ((te.take k).foldl appL l) pv' (.slice va (dn.length + 1) vc) (.slice (some ⟨g, 0, none⟩) g0.length cap) nv [] (dn ++ [(.slice (some ⟨gt, 0, none⟩) N tc, te)]) g0) (fun i _ => N - (intOf i).toNat)
  case atStart => exact ⟨0, pv, Nat.zero_le _, rfl, H6.out⟩
  case round =>
    obtain ⟨k, pv', hk, rfl, hR⟩ := hrel
    have htr := (hR.tr (t := (.slice (some ⟨gt, 0, none⟩) N tc, te)) (by simp)).1.1
    dsimp only at htr
    rw [HN.out] at htr
    by_cases hlt : k < N
    · obtain ⟨e, he⟩ : ∃ e, te[k]? = some e := ⟨_, List.getElem?_eq_getElem (by have := HN.out; omega)⟩
      have hkz : (k : Int) < (N : Int) := by omega
      have q3 : IntKind.i64.wrap ((k : Int) + 1) = ((k + 1 : Nat) : Int) := by push_cast; exact IntWalk.i64_in _ (by omega)
      have Hs : Hid ((te.take (k + 1)).foldl appL l = appL ((te.take k).foldl appL l) e) := by
        unfold Hid
        rw [List.take_add_one, he, Option.toList_some, List.foldl_append]; rfl
      have hok : okE ((te.take k).foldl appL l) e := run_at Hrun.out he
      have hlk : ((te.take k).foldl appL l).length ≤ 65536 := run_lim k Hrun.out Hl.out
      generalize (te.take k).foldl appL l = x at *
      have Hok := hidden hok
      have Hlk := hidden hlk
      have HR2 := hidden (hR.grown (grown_drew wr))
      have HV2 : Hid (wr.drew.ownsRow B 57 3 (.slice (some ⟨gt, 0, none⟩) N tc) N (rowE te)) := row_grown htr (grown_drew wr) (by simp)
      have HS : Hid (∀ u : World, u.ownsRow B 57 3 (.slice (some ⟨gt, 0, none⟩) N tc) N (rowE te) → (fun u : World => u.cell? ⟨gt, k * 3, none⟩ = some (.int .i64 e.at') ∧ u.cell? ⟨gt, k * 3 + 1, none⟩ = some (.string e.old) ∧ u.cell? ⟨gt, k * 3 + 2, none⟩ = some (.string e.new)) u) := fun u hu => row_cells3 hu he
      obtain ⟨pa, pc, rfl⟩ := row_slice hR.rp.prow
      clear hok hlk hR htr he
      go_wp2_with fail
      refine wp_region_held_drew (S := (fun u : World => u.cell? ⟨gt, k * 3, none⟩ = some (.int .i64 e.at') ∧ u.cell? ⟨gt, k * 3 + 1, none⟩ = some (.string e.old) ∧ u.cell? ⟨gt, k * 3 + 2, none⟩ = some (.string e.new))) (by kernel_rfl) (HS.out _ HV2.out) (fun hHeld => ?_)
      generalize wr.drew = W2 at *
      refine take_dst 0 (some 50) rfl rfl (by kernel_rfl) (by kernel_rfl) (by kernel_rfl) (fun _ _ _ h => h) (v := ?_) (Or.inl ⟨by rfl, ?_⟩) (by assumption) ?_
      rotate_left
      · (intro w hSw; (try dsimp only at hSw); go_simp; try with_reducible rfl)
      simp only [Act.put, List.setIfInBounds_toArray, List.set_cons_zero, List.set_cons_succ]
      refine take_dst 1 (some 51) rfl rfl (by kernel_rfl) (by kernel_rfl) (by kernel_rfl) (fun _ _ _ h => h) (v := ?_) (Or.inl ⟨by rfl, ?_⟩) (by assumption) ?_
      rotate_left
      · (intro w hSw; (try dsimp only at hSw); go_simp; try with_reducible rfl)
      simp only [Act.put, List.setIfInBounds_toArray, List.set_cons_zero, List.set_cons_succ]
      refine take_dst 2 (some 52) rfl rfl (by kernel_rfl) (by kernel_rfl) (by kernel_rfl) (fun _ _ _ h => h) (v := ?_) (Or.inl ⟨by rfl, ?_⟩) (by assumption) ?_
      rotate_left
      · (intro w hSw; (try dsimp only at hSw); go_simp; try with_reducible rfl)
      simp only [Act.put, List.setIfInBounds_toArray, List.set_cons_zero, List.set_cons_succ]
      refine take_dst 3 (some 53) rfl rfl (by kernel_rfl) (by kernel_rfl) (by kernel_rfl) (fun _ _ _ h => h) (v := ?_) (Or.inl ⟨by rfl, ?_⟩) (by assumption) ?_
      rotate_left
      · (intro w hSw; (try dsimp only at hSw); go_simp; try with_reducible rfl)
      simp only [Act.put, List.setIfInBounds_toArray, List.set_cons_zero, List.set_cons_succ]
      refine take_dst 5 (some 55) rfl rfl (by kernel_rfl) (by kernel_rfl) (by kernel_rfl) (fun _ _ _ h => h) (v := ?_) (Or.inl ⟨by rfl, ?_⟩) (by assumption) ?_
      rotate_left
      · (intro w hSw; (try dsimp only at hSw); go_simp; try with_reducible rfl)
      simp only [Act.put, List.setIfInBounds_toArray, List.set_cons_zero, List.set_cons_succ]
      refine take_dst 6 (some 56) rfl rfl (by kernel_rfl) (by kernel_rfl) (by kernel_rfl) (fun _ _ _ h => h) (v := ?_) (Or.inl ⟨by rfl, ?_⟩) (by assumption) ?_
      rotate_left
      · (intro w hSw; (try dsimp only at hSw); go_simp; try with_reducible rfl)
      simp only [Act.put, List.setIfInBounds_toArray, List.set_cons_zero, List.set_cons_succ]
      refine take_dst 7 (some 57) rfl rfl (by kernel_rfl) (by kernel_rfl) (by kernel_rfl) (fun _ _ _ h => h) (v := ?_) (Or.inl ⟨by rfl, ?_⟩) (by assumption) ?_
      rotate_left
      · (intro w hSw; (try dsimp only at hSw); go_simp; try with_reducible rfl)
      simp only [Act.put, List.setIfInBounds_toArray, List.set_cons_zero, List.set_cons_succ]
      refine take_dst 8 (some 58) rfl rfl (by kernel_rfl) (by kernel_rfl) (by kernel_rfl) (fun _ _ _ h => h) (v := ?_) (Or.inl ⟨by rfl, ?_⟩) (by assumption) ?_
      rotate_left
      · (intro w hSw; (try dsimp only at hSw); go_simp; try with_reducible rfl)
      simp only [Act.put, List.setIfInBounds_toArray, List.set_cons_zero, List.set_cons_succ]
      refine wpAnyH_ready (rs := [4]) (by kernel_rfl) (by simp) ?_
      refine AllReadyH.cons rfl (fun K hK => ?_) AllReadyH.nil
      have c0 := HR2.out.rp.cells.1
      go_simp
      refine hK.out _ _ (HS.out _ HV2.out) (fun hHeld1 => ?_)
      clear hK K hHeld
      refine wpAnyH_ready (rs := [9]) (by kernel_rfl) (by simp) ?_
      refine AllReadyH.cons rfl (fun K hK => ?_) AllReadyH.nil
      go_simp
      refine (rput e HR2.out.rp.prow Hlk.out ⟨Hok.out.1.1, Hok.out.1.2.1⟩).mono ?_
      rintro q w4 ⟨x4, rfl, hL4⟩
      rw [← Hok.out.app] at hL4
      have hg4 := grown_of_below hL4.2
      have HR5 := hidden (HR2.out.setP hg4 hL4.1)
      have HV4 := hidden (row_grown HV2.out hg4 (by simp))
      have hM4 := HR2.out.head3 hg4 (by simp)
      have f0 : w4.frozen? ⟨M, 0, none⟩ = false := frozen_of_row w4 M 0 _ 51 hM4
      have d0 := (head_cells hM4).1
      obtain ⟨xa, xc, rfl⟩ := row_slice hL4.1
      have HV5 : Hid ((w4.setCell ⟨M, 0, none⟩ (.slice xa (appL x e).length xc)).ownsRow B 57 3 (.slice (some ⟨gt, 0, none⟩) N tc) N (rowE te)) := row_grown HV4.out (grownBy_set w4 M 0 _) (fun q hq e => by simp only [Value.ownBlock, Option.some.injEq] at hq e; omega)
      clear hL4 hg4 hM4
      refine hK.out _ _ (HS.out _ HV4.out) (fun hHeld2 => ?_)
      clear hK K hHeld1 c0
      refine take_dst 10 (some 60) rfl rfl (by kernel_rfl) (by kernel_rfl) (by kernel_rfl) (fun _ _ _ h => h) (v := ?_) (Or.inl ⟨by rfl, ?_⟩) (by assumption) ?_
      rotate_left
      · (intro w hSw; (try dsimp only at hSw); go_simp; try with_reducible rfl)
      simp only [Act.put, List.setIfInBounds_toArray, List.set_cons_zero, List.set_cons_succ]
      refine take_dst 11 (some 61) rfl rfl (by kernel_rfl) (by kernel_rfl) (by kernel_rfl) (fun _ _ _ h => h) (v := ?_) (Or.inl ⟨by rfl, ?_⟩) (by assumption) ?_
      rotate_left
      · (intro w hSw; (try dsimp only at hSw); go_simp; try with_reducible rfl)
      simp only [Act.put, List.setIfInBounds_toArray, List.set_cons_zero, List.set_cons_succ]
      refine wpAnyH_ready (rs := [12]) (by kernel_rfl) (by simp) ?_
      refine AllReadyH.cons rfl (fun K hK => ?_) AllReadyH.nil
      go_simp
      refine hK.out _ _ (HS.out _ HV5.out) (fun hHeld3 => ?_)
      clear hK K
      refine wpAnyH_done (by kernel_rfl) ?_ _
      clear hHeld2 hHeld3 HV4 HR2 HV2 d0 f0 HS HV5
      generalize (w4.setCell ⟨M, 0, none⟩ (.slice xa (appL x e).length xc)) = W5 at *
      go_wp2
      go_roundw
      case rel => exact ⟨k + 1, .slice xa (appL x e).length xc, by omega, rfl, by rw [Hs.out]; exact HR5.out⟩
      case measure => simp [intOf]; omega
    · have hkz : ¬ ((k : Int) < (N : Int)) := by omega
      obtain rfl : k = N := by omega
      have hall : te.take k = te := List.take_of_length_le (by have := HN.out; omega)
      rw [hall, Hrun.out.fold] at hR
      have HR1 := hidden hR
      have HV1 := hidden htr
      clear hR htr hall
      go_wp2
      go_ret2
      obtain rfl := HN.out
      exact ⟨_, rfl, HV1.out, _, _, _, HR1.out⟩

set_option maxHeartbeats 2000000 in
theorem rsame_some (g g' c c' B B' n : Nat) (es : List Ed) (hn : es.length = n) (hes : n ≤ 100000) (hv : w.ownsRow B 57 3 (.slice (some ⟨g, 0, none⟩) n c) n (rowE es)) (hv' : w.ownsRow B' 57 3 (.slice (some ⟨g', 0, none⟩) n c') n (rowE es)) :
    Calls Try.prog 40 #[.slice (some ⟨g, 0, none⟩) n c, .slice (some ⟨g', 0, none⟩) n c'] w fun q w' => q = .returned (.bool true) ∧ w.grownBy w' none := by
  have HG : Hid (∀ k, k < n → ∃ e : Ed, ∀ wr, Below w.heap.size w wr → (wr.cell? ⟨g, k * 3, none⟩ = some (.int .i64 e.at') ∧ wr.cell? ⟨g, k * 3 + 1, none⟩ = some (.string e.old) ∧ wr.cell? ⟨g, k * 3 + 2, none⟩ = some (.string e.new)) ∧ (wr.cell? ⟨g', k * 3, none⟩ = some (.int .i64 e.at') ∧ wr.cell? ⟨g', k * 3 + 1, none⟩ = some (.string e.old) ∧ wr.cell? ⟨g', k * 3 + 2, none⟩ = some (.string e.new))) := fun k hk => by
    obtain ⟨e, he⟩ : ∃ e, es[k]? = some e := ⟨_, List.getElem?_eq_getElem (by omega)⟩
    exact ⟨e, fun wr hb => ⟨row_cells3 (row_grown hv (grown_of_below hb) (by simp)) he, row_cells3 (row_grown hv' (grown_of_below hb) (by simp)) he⟩⟩
  clear hv hv' hn
  go_enter Try.func40, Try.ntmps40
  go_wp2
  go_loopw [5] (fun i wr => ∃ k : Nat, k ≤ n ∧ i = .int .i64 k ∧ Below w.heap.size w wr) (fun i _ => n - (intOf i).toNat)
  case atStart => exact ⟨0, Nat.zero_le _, rfl, Below.refl _ _⟩
  case round =>
    obtain ⟨k, hk, rfl, hb⟩ := hrel
    by_cases hlt : k < n
    · obtain ⟨e, hh⟩ := HG.out k hlt
      obtain ⟨⟨g1, g2, g3⟩, g4, g5, g6⟩ := hh wr hb
      have hkz : (k : Int) < (n : Int) := by omega
      clear hh
      go_wp2
      go_quiet (fail)
      go_wp2
      go_roundw
      case rel => exact ⟨k + 1, by omega, by go_num, ⟨hb.os, hb.tape, hb.output, hb.size, hb.block⟩⟩
      case measure => simp [intOf]; omega
    · have hz : ¬ ((k : Int) < (n : Int)) := by omega
      go_wp2
      go_ret
      exact ⟨rfl, grown_of_below hb⟩
set_option maxHeartbeats 2000000 in
theorem rsame_none (a a' : Option Addr) (c c' : Nat) : Calls Try.prog 40 #[.slice a 0 c, .slice a' 0 c'] w fun q w' => q = .returned (.bool true) ∧ w.grownBy w' none := by
  go_enter Try.func40, Try.ntmps40
  go_wp2
  go_loopw [5] (fun i wr => i = .int .i64 0 ∧ wr = w) (fun _ _ => 0)
  case atStart => exact ⟨rfl, rfl⟩
  case round =>
    obtain ⟨rfl, rfl⟩ := hrel
    go_wp2
    go_ret
    exact ⟨rfl, grownBy_refl _ _⟩
theorem rsame {b b' : Nat} {v v' : Value} {es : List Ed} (hes : es.length ≤ 100000) (hv : w.ownsRow b 57 3 v es.length (rowE es)) (hv' : w.ownsRow b' 57 3 v' es.length (rowE es)) :
    Calls Try.prog 40 #[v, v'] w fun q w' => q = .returned (.bool true) ∧ w.grownBy w' none := by
  rcases Nat.eq_zero_or_pos es.length with h0 | h0
  · obtain ⟨a, c, rfl⟩ := row_slice hv
    obtain ⟨a', c', rfl⟩ := row_slice hv'
    rw [h0]
    exact rsame_none _ _ _ _
  · obtain ⟨g, c, rfl⟩ := own_some hv h0
    obtain ⟨g', c', rfl⟩ := own_some hv' h0
    exact rsame_some g g' c c' b b' _ es rfl hes hv hv'
end
end Go.Proofs.PlatenPiece
