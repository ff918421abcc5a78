/- What halve comes to: the walk. -/
import Derived.Test.YtibdhahkkejnjaaTabD
namespace Go.Proofs.PlatenPiece
open Go Go.RowKit
set_option linter.unusedVariables false

set_option maxHeartbeats 16000000 in
set_option maxRecDepth 100000 in
theorem halve_tab (B T : Nat) (pv : Value) (ps : List Pc) (s a : Int) (i n : Nat) (p : Pc) (w : World) (h : Tab B w T pv ps s a) (hB : B ≤ w.heap.size) (hN : ps.length ≤ 100000) (hp : ps[i]? = some p) (h0 : 0 < n) (hn : n < p.l.length) (hl : p.l.length ≤ 65536) (hk : -1000000000 ≤ p.k ∧ p.k ≤ 1000000000) :
    Calls Try.prog 72 #[.pointer (some ⟨T, 0, none⟩), .int .i64 i, .int .i64 n] w fun e w' => e = .returned (.tuple #[]) ∧ ∃ pv' q1 q2, Tab B w' T pv' (ps.take i ++ ([⟨q1, p.l.take n, p.k - (p.l.length - n : Nat)⟩, ⟨q2, p.l.drop n, p.k⟩] ++ ps.drop (i + 1))) s a ∧ Kept (Own T pv ps) w w' ∧ (∀ k, k < w.heap.size → Own T pv' (ps.take i ++ ([⟨q1, p.l.take n, p.k - (p.l.length - n : Nat)⟩, ⟨q2, p.l.drop n, p.k⟩] ++ ps.drop (i + 1))) k → Own T pv ps k) := by
  have hi : i < ps.length := (List.getElem?_eq_some_iff.1 hp).1
  have hpm : p ∈ ps := List.mem_of_getElem? hp
  obtain ⟨g, cap, rfl, hcap, hgT, hgw, hBg⟩ := h.form i hi
  obtain ⟨hx0, hx1⟩ := h.part i p hp
  have hc0 := h.c0
  obtain ⟨q, c, hpv, hqc, hqm, hqs⟩ := (h.good p hpm).src
  have Htab := hidden h
  have Hqs := hidden hqs
  rw [hpv] at hx0
  unfold maxLen at hqm
  obtain ⟨N, hNe⟩ : ∃ N, ps.length = N := ⟨_, rfl⟩
  obtain ⟨L, hLe⟩ : ∃ L, p.l.length = L := ⟨_, rfl⟩
  obtain ⟨k, hke⟩ : ∃ k, p.k = k := ⟨_, rfl⟩
  rw [hke] at hx1 hk
  rw [hLe] at hx0 hn hl hqc
  rw [hNe] at hc0 hN hi hcap
  have HNe := hidden hNe
  rw [hNe] at Htab
  have HLe := hidden hLe
  have Hke := hidden hke
  have Hpv := hidden hpv
  have Hp := hidden hp
  clear h hp hpm hqs hpv hNe hLe hke
  have z1 : (n : Int) ≤ (L : Int) := by omega
  have z2 : (n : Int) ≤ (c : Int) := by omega
  have z3 : (L : Int) ≤ (c : Int) := by omega
  have z4 : ¬ (c = n) := by omega
  have z5 : (i : Int) < (N : Int) := by omega
  have hw1 : IntKind.i64.wrap ((L : Int) - (n : Int)) = (L : Int) - (n : Int) := IntWalk.i64_in _ (by omega)
  have hw2 : IntKind.i64.wrap (k - ((L : Int) - (n : Int))) = k - ((L : Int) - (n : Int)) := IntWalk.i64_in _ (by omega)
  have hw3 : IntKind.i64.wrap ((i : Int) + 1) = (i : Int) + 1 := IntWalk.i64_in _ (by omega)
  have HSrc1 : Hid (Src w (.slice (some ⟨q, 0, none⟩) n c) (p.l.take n)) := by
    refine Or.inr ⟨_, _, by rw [List.length_take, Nat.min_eq_left (by rw [HLe.out]; omega)], fun j u hj => Hqs.out j u ?_⟩
    have : bytesV (p.l.take n) = (bytesV p.l).take n := by simp [bytesV]
    rw [this, List.getElem?_take] at hj
    split at hj
    · exact hj
    · cases hj
  have HSrc2 : Hid (Src w (.slice (some ⟨q, n, none⟩) (L - n) (c - n)) (p.l.drop n)) := by
    refine Or.inr ⟨_, _, by rw [List.length_drop, HLe.out], fun j u hj => ?_⟩
    have : bytesV (p.l.drop n) = (bytesV p.l).drop n := by simp [bytesV]
    rw [this, List.getElem?_drop] at hj
    have := Hqs.out _ _ hj
    rw [Addr.add_lit] at this ⊢
    rw [← this]
    congr 2
    omega
  have hW0 := grownBy_alloc w (Obj.cells #[Value.slice (some ⟨q, 0, none⟩) L c, Value.int IntKind.i64 k] 81)
  have hW1 : (w.alloc (Obj.cells #[Value.slice (some ⟨q, 0, none⟩) L c, Value.int IntKind.i64 k] 81)).cell? ⟨w.heap.size, 0, none⟩ = some (Value.slice (some ⟨q, 0, none⟩) L c) := cell_of_row _ _ _ _ _ _ (heap_alloc_new w _)
  have hW2 : (w.alloc (Obj.cells #[Value.slice (some ⟨q, 0, none⟩) L c, Value.int IntKind.i64 k] 81)).cell? ⟨w.heap.size, 1, none⟩ = some (Value.int IntKind.i64 k) := cell_of_row _ _ _ _ _ _ (heap_alloc_new w _)
  have hW3 : w.heap.size < (w.alloc (Obj.cells #[Value.slice (some ⟨q, 0, none⟩) L c, Value.int IntKind.i64 k] 81)).heap.size := by simp
  go_enter Try.func72, Try.ntmps72
  go_wp2_with fail
  generalize w.alloc (Obj.cells #[Value.slice (some ⟨q, 0, none⟩) L c, Value.int IntKind.i64 k] 81) = W at *
  obtain ⟨X0, hX0⟩ : ∃ X0, w.heap.size = X0 := ⟨_, rfl⟩
  rw [hX0] at hW1 hW2 hW3 ⊢
  have hl1 : (p.l.take n).length = n := by rw [List.length_take, Nat.min_eq_left (by rw [HLe.out]; omega)]
  have hl2 : (p.l.drop n).length = L - n := by rw [List.length_drop, HLe.out]
  have Hown1 := hidden (fun u (hu : W.grownBy u none) => own_any _ _ u (by rw [hl1]; omega) ((HSrc1.out.below (below_of_grown hW0)).below (below_of_grown hu)))
  rw [hl1] at Hown1
  have HSrc2' := hidden (HSrc2.out.below (below_of_grown hW0))
  have hHW0 := hidden hW0
  have Hl1 := hidden hl1
  have Hl2 := hidden hl2
  obtain ⟨l1, hl1e⟩ : ∃ l1, p.l.take n = l1 := ⟨_, rfl⟩
  obtain ⟨l2, hl2e⟩ : ∃ l2, p.l.drop n = l2 := ⟨_, rfl⟩
  rw [hl1e] at Hown1 Hl1
  rw [hl2e] at HSrc2' Hl2
  have Hl1e := hidden hl1e
  have Hl2e := hidden hl2e
  clear hW0 hl1 hl2 HSrc1 HSrc2 hl1e hl2e
  go_region_held3 (fun u => (u.cell? ⟨X0, 0, none⟩ = some (Value.slice (some ⟨q, 0, none⟩) L c) ∧ u.cell? ⟨X0, 1, none⟩ = some (Value.int IntKind.i64 k)) ∧ Rl W u) (first | assumption | exact Rl.all hW1 hW2 (by (go_split_ands; repeat (first | assumption | exact Rl.refl _ | apply Rl.alloc | apply Rl.drew | (refine Rl.set ?_ _ _ _ (by omega)) | (refine Rl.own ?_ (by assumption)))))) ((refine (Hown1.out _ (by (go_split_ands; repeat (first | assumption | exact Rl.refl _ | apply Rl.alloc | apply Rl.drew | (refine Rl.set ?_ _ _ _ (by omega)) | (refine Rl.own ?_ (by assumption)))))).mono ?_; rintro e w1 ⟨rfl, hq1, hg1⟩; try (first | have hz := after_alloc hg1 | have hz := after_alloc2 hg1; obtain ⟨hz0, hz1, hz2, hz3⟩ := hz)))
  · have U := uniA (k := k - ((L : Int) - (n : Int))) (n := n) hq1 hg1
    generalize (w1.alloc (.cells #[.slice (some ⟨W.heap.size, 0, none⟩) n n, .int .i64 (k - ((L : Int) - (n : Int)))] 81)) = W2 at *
    generalize w1.heap.size = X at U ⊢
    generalize W.heap.size = Q at U ⊢
    clear hq1 hg1
    have HU := hidden U
    have hY0 : W2.cell? ⟨X0, 0, none⟩ = some (Value.slice (some ⟨q, 0, none⟩) L c) := U.rl.cell hW1 (by simp)
    have hY1 : W2.cell? ⟨X0, 1, none⟩ = some (Value.int IntKind.i64 k) := U.rl.cell hW2 (by simp)
    have Hown2 := hidden (fun u (hu : W2.grownBy u none) => own_any _ l2 u (by rw [Hl2.out]; omega) ((HSrc2'.out.below (below_of_grown U.rl)).below (below_of_grown hu)))
    rw [Hl2.out] at Hown2
    clear U hW1 hW2
    go_wp2_with fail
    go_region_held3 (fun u => (u.cell? ⟨X0, 0, none⟩ = some (Value.slice (some ⟨q, 0, none⟩) L c) ∧ u.cell? ⟨X0, 1, none⟩ = some (Value.int IntKind.i64 k)) ∧ Rl W2 u) (first | assumption | exact Rl.all hY0 hY1 (by (go_split_ands; repeat (first | assumption | exact Rl.refl _ | apply Rl.alloc | apply Rl.drew | (refine Rl.set ?_ _ _ _ (by omega)) | (refine Rl.own ?_ (by assumption)))))) ((refine (Hown2.out _ (by (go_split_ands; repeat (first | assumption | exact Rl.refl _ | apply Rl.alloc | apply Rl.drew | (refine Rl.set ?_ _ _ _ (by omega)) | (refine Rl.own ?_ (by assumption)))))).mono ?_; rintro e w1 ⟨rfl, hq1, hg1⟩; try (first | have hz := after_alloc hg1 | have hz := after_alloc2 hg1; obtain ⟨hz0, hz1, hz2, hz3⟩ := hz)))
    · have U2 := uniA (k := k) (n := L - n) hq1 hg1
      generalize (w1.alloc (.cells #[.slice (some ⟨W2.heap.size, 0, none⟩) (L - n) (L - n), .int .i64 k] 81)) = W3 at *
      generalize w1.heap.size = Y at U2 ⊢
      generalize W2.heap.size = R at U2 ⊢
      clear hq1 hg1
      have HU2 := hidden U2
      have hRl := U2.rl.own' HU.out.rl hHW0.out
      have Hrep := hidden (fun u (hu : Rl W3 u) vb hvb (hv : u.heap[vb]? = some (.cells #[.slice (some ⟨Q, 0, none⟩) n n, .int .i64 (k - ((L : Int) - (n : Int))), .slice (some ⟨R, 0, none⟩) (L - n) (L - n), .int .i64 k] 81 (0, 0))) => halve_rep (u := u) (vb := vb) (Q1 := Q) (Q2 := R) (l1 := l1) (l2 := l2) Htab.out HNe.out hN hB hi (Rl.own hRl hu) (Rl.blk hu (Rl.blk HU2.out.rl HU.out.q)) (Rl.blk hu HU2.out.q) (Nat.le_trans hHW0.out.size HU.out.bq) (Nat.le_trans hHW0.out.size (Nat.le_trans HU.out.rl.size HU2.out.bq)) (by have h1 := (Array.getElem?_eq_some_iff.1 HU.out.q).1; have h2 := HU2.out.bq; omega) Hl1.out Hl2.out h0 (by omega) (by omega) (by omega) hvb hv)
      have hT0 : W3.cell? ⟨T, 0, none⟩ = some (Value.slice (some ⟨g, 0, none⟩) N cap) := hRl.cell hc0 (by simp)
      have hx0' : W3.cell? ⟨X, 0, none⟩ = some (Value.slice (some ⟨Q, 0, none⟩) n n) := U2.rl.cell HU.out.c0 (by simp)
      have hx1' : W3.cell? ⟨X, 1, none⟩ = some (Value.int .i64 (k - ((L : Int) - (n : Int)))) := U2.rl.cell HU.out.c1 (by simp)
      have hy0' := U2.c0
      have hy1' := U2.c1
      clear U2
      go_wp2_with fail
      have hTW3 : T < W3.heap.size := Nat.lt_of_lt_of_le Htab.out.lt hRl.size
      have hTa : (W3.alloc (.cells #[.slice (some ⟨Q, 0, none⟩) n n, .int .i64 (k - ((L : Int) - (n : Int))), .slice (some ⟨R, 0, none⟩) (L - n) (L - n), .int .i64 k] 81)).cell? ⟨T, 0, none⟩ = some (Value.slice (some ⟨g, 0, none⟩) N cap) := (grownBy_alloc W3 _).cell hT0 (by simp)
      go_region_with (refine (Hrep.out _ (by (go_split_ands; repeat (first | assumption | exact Rl.refl _ | apply Rl.alloc | apply Rl.drew | (refine Rl.set ?_ _ _ _ (by omega)) | (refine Rl.own ?_ (by assumption))))) _ hRl.size (by exact heap_alloc_new W3 _)).mono ?_; rintro e w5 ⟨g', cap', rfl, Hfin, hcT, hfT, hs5, hb5⟩)
      all_goals
        have Hfin' := Hfin.out
        rw [show k - ((L : Int) - (n : Int)) = p.k - ((p.l.length - n : Nat) : Int) by rw [Hke.out, HLe.out]; omega] at Hfin'
        rw [← Hl1e.out, ← Hl2e.out, ← Hke.out] at Hfin'
        clear Hfin
        have HF := hidden Hfin'
        clear Hfin'
        go_wp2
        go_end0
        exact ⟨rfl, _, _, _, HF.out⟩
    · have U2 := uniB (k := k) (n := L - n) hq1 hg1
      clear hz0 hz1 hz2 hz3
      generalize ((w1.setCell ⟨W2.heap.size, 0, none⟩ (.slice (some ⟨W2.heap.size + 1, 0, none⟩) (L - n) (L - n))).setCell ⟨W2.heap.size, 1, none⟩ (.int .i64 k)) = W3 at *
      generalize W2.heap.size + 1 = R at U2 ⊢
      generalize W2.heap.size = Y at U2 ⊢
      clear hq1 hg1
      have HU2 := hidden U2
      have hRl := U2.rl.own' HU.out.rl hHW0.out
      have Hrep := hidden (fun u (hu : Rl W3 u) vb hvb (hv : u.heap[vb]? = some (.cells #[.slice (some ⟨Q, 0, none⟩) n n, .int .i64 (k - ((L : Int) - (n : Int))), .slice (some ⟨R, 0, none⟩) (L - n) (L - n), .int .i64 k] 81 (0, 0))) => halve_rep (u := u) (vb := vb) (Q1 := Q) (Q2 := R) (l1 := l1) (l2 := l2) Htab.out HNe.out hN hB hi (Rl.own hRl hu) (Rl.blk hu (Rl.blk HU2.out.rl HU.out.q)) (Rl.blk hu HU2.out.q) (Nat.le_trans hHW0.out.size HU.out.bq) (Nat.le_trans hHW0.out.size (Nat.le_trans HU.out.rl.size HU2.out.bq)) (by have h1 := (Array.getElem?_eq_some_iff.1 HU.out.q).1; have h2 := HU2.out.bq; omega) Hl1.out Hl2.out h0 (by omega) (by omega) (by omega) hvb hv)
      have hT0 : W3.cell? ⟨T, 0, none⟩ = some (Value.slice (some ⟨g, 0, none⟩) N cap) := hRl.cell hc0 (by simp)
      have hx0' : W3.cell? ⟨X, 0, none⟩ = some (Value.slice (some ⟨Q, 0, none⟩) n n) := U2.rl.cell HU.out.c0 (by simp)
      have hx1' : W3.cell? ⟨X, 1, none⟩ = some (Value.int .i64 (k - ((L : Int) - (n : Int)))) := U2.rl.cell HU.out.c1 (by simp)
      have hy0' := U2.c0
      have hy1' := U2.c1
      clear U2
      go_wp2_with fail
      have hTW3 : T < W3.heap.size := Nat.lt_of_lt_of_le Htab.out.lt hRl.size
      have hTa : (W3.alloc (.cells #[.slice (some ⟨Q, 0, none⟩) n n, .int .i64 (k - ((L : Int) - (n : Int))), .slice (some ⟨R, 0, none⟩) (L - n) (L - n), .int .i64 k] 81)).cell? ⟨T, 0, none⟩ = some (Value.slice (some ⟨g, 0, none⟩) N cap) := (grownBy_alloc W3 _).cell hT0 (by simp)
      go_region_with (refine (Hrep.out _ (by (go_split_ands; repeat (first | assumption | exact Rl.refl _ | apply Rl.alloc | apply Rl.drew | (refine Rl.set ?_ _ _ _ (by omega)) | (refine Rl.own ?_ (by assumption))))) _ hRl.size (by exact heap_alloc_new W3 _)).mono ?_; rintro e w5 ⟨g', cap', rfl, Hfin, hcT, hfT, hs5, hb5⟩)
      all_goals
        have Hfin' := Hfin.out
        rw [show k - ((L : Int) - (n : Int)) = p.k - ((p.l.length - n : Nat) : Int) by rw [Hke.out, HLe.out]; omega] at Hfin'
        rw [← Hl1e.out, ← Hl2e.out, ← Hke.out] at Hfin'
        clear Hfin
        have HF := hidden Hfin'
        clear Hfin'
        go_wp2
        go_end0
        exact ⟨rfl, _, _, _, HF.out⟩
  · have U := uniB (k := k - ((L : Int) - (n : Int))) (n := n) hq1 hg1
    clear hz0 hz1 hz2 hz3
    generalize ((w1.setCell ⟨W.heap.size, 0, none⟩ (.slice (some ⟨W.heap.size + 1, 0, none⟩) n n)).setCell ⟨W.heap.size, 1, none⟩ (.int .i64 (k - ((L : Int) - (n : Int))))) = W2 at *
    generalize W.heap.size + 1 = Q at U ⊢
    generalize W.heap.size = X at U ⊢
    clear hq1 hg1
    have HU := hidden U
    have hY0 : W2.cell? ⟨X0, 0, none⟩ = some (Value.slice (some ⟨q, 0, none⟩) L c) := U.rl.cell hW1 (by simp)
    have hY1 : W2.cell? ⟨X0, 1, none⟩ = some (Value.int IntKind.i64 k) := U.rl.cell hW2 (by simp)
    have Hown2 := hidden (fun u (hu : W2.grownBy u none) => own_any _ l2 u (by rw [Hl2.out]; omega) ((HSrc2'.out.below (below_of_grown U.rl)).below (below_of_grown hu)))
    rw [Hl2.out] at Hown2
    clear U hW1 hW2
    go_wp2_with fail
    go_region_held3 (fun u => (u.cell? ⟨X0, 0, none⟩ = some (Value.slice (some ⟨q, 0, none⟩) L c) ∧ u.cell? ⟨X0, 1, none⟩ = some (Value.int IntKind.i64 k)) ∧ Rl W2 u) (first | assumption | exact Rl.all hY0 hY1 (by (go_split_ands; repeat (first | assumption | exact Rl.refl _ | apply Rl.alloc | apply Rl.drew | (refine Rl.set ?_ _ _ _ (by omega)) | (refine Rl.own ?_ (by assumption)))))) ((refine (Hown2.out _ (by (go_split_ands; repeat (first | assumption | exact Rl.refl _ | apply Rl.alloc | apply Rl.drew | (refine Rl.set ?_ _ _ _ (by omega)) | (refine Rl.own ?_ (by assumption)))))).mono ?_; rintro e w1 ⟨rfl, hq1, hg1⟩; try (first | have hz := after_alloc hg1 | have hz := after_alloc2 hg1; obtain ⟨hz0, hz1, hz2, hz3⟩ := hz)))
    · have U2 := uniA (k := k) (n := L - n) hq1 hg1
      generalize (w1.alloc (.cells #[.slice (some ⟨W2.heap.size, 0, none⟩) (L - n) (L - n), .int .i64 k] 81)) = W3 at *
      generalize w1.heap.size = Y at U2 ⊢
      generalize W2.heap.size = R at U2 ⊢
      clear hq1 hg1
      have HU2 := hidden U2
      have hRl := U2.rl.own' HU.out.rl hHW0.out
      have Hrep := hidden (fun u (hu : Rl W3 u) vb hvb (hv : u.heap[vb]? = some (.cells #[.slice (some ⟨Q, 0, none⟩) n n, .int .i64 (k - ((L : Int) - (n : Int))), .slice (some ⟨R, 0, none⟩) (L - n) (L - n), .int .i64 k] 81 (0, 0))) => halve_rep (u := u) (vb := vb) (Q1 := Q) (Q2 := R) (l1 := l1) (l2 := l2) Htab.out HNe.out hN hB hi (Rl.own hRl hu) (Rl.blk hu (Rl.blk HU2.out.rl HU.out.q)) (Rl.blk hu HU2.out.q) (Nat.le_trans hHW0.out.size HU.out.bq) (Nat.le_trans hHW0.out.size (Nat.le_trans HU.out.rl.size HU2.out.bq)) (by have h1 := (Array.getElem?_eq_some_iff.1 HU.out.q).1; have h2 := HU2.out.bq; omega) Hl1.out Hl2.out h0 (by omega) (by omega) (by omega) hvb hv)
      have hT0 : W3.cell? ⟨T, 0, none⟩ = some (Value.slice (some ⟨g, 0, none⟩) N cap) := hRl.cell hc0 (by simp)
      have hx0' : W3.cell? ⟨X, 0, none⟩ = some (Value.slice (some ⟨Q, 0, none⟩) n n) := U2.rl.cell HU.out.c0 (by simp)
      have hx1' : W3.cell? ⟨X, 1, none⟩ = some (Value.int .i64 (k - ((L : Int) - (n : Int)))) := U2.rl.cell HU.out.c1 (by simp)
      have hy0' := U2.c0
      have hy1' := U2.c1
      clear U2
      go_wp2_with fail
      have hTW3 : T < W3.heap.size := Nat.lt_of_lt_of_le Htab.out.lt hRl.size
      have hTa : (W3.alloc (.cells #[.slice (some ⟨Q, 0, none⟩) n n, .int .i64 (k - ((L : Int) - (n : Int))), .slice (some ⟨R, 0, none⟩) (L - n) (L - n), .int .i64 k] 81)).cell? ⟨T, 0, none⟩ = some (Value.slice (some ⟨g, 0, none⟩) N cap) := (grownBy_alloc W3 _).cell hT0 (by simp)
      go_region_with (refine (Hrep.out _ (by (go_split_ands; repeat (first | assumption | exact Rl.refl _ | apply Rl.alloc | apply Rl.drew | (refine Rl.set ?_ _ _ _ (by omega)) | (refine Rl.own ?_ (by assumption))))) _ hRl.size (by exact heap_alloc_new W3 _)).mono ?_; rintro e w5 ⟨g', cap', rfl, Hfin, hcT, hfT, hs5, hb5⟩)
      all_goals
        have Hfin' := Hfin.out
        rw [show k - ((L : Int) - (n : Int)) = p.k - ((p.l.length - n : Nat) : Int) by rw [Hke.out, HLe.out]; omega] at Hfin'
        rw [← Hl1e.out, ← Hl2e.out, ← Hke.out] at Hfin'
        clear Hfin
        have HF := hidden Hfin'
        clear Hfin'
        go_wp2
        go_end0
        exact ⟨rfl, _, _, _, HF.out⟩
    · have U2 := uniB (k := k) (n := L - n) hq1 hg1
      clear hz0 hz1 hz2 hz3
      generalize ((w1.setCell ⟨W2.heap.size, 0, none⟩ (.slice (some ⟨W2.heap.size + 1, 0, none⟩) (L - n) (L - n))).setCell ⟨W2.heap.size, 1, none⟩ (.int .i64 k)) = W3 at *
      generalize W2.heap.size + 1 = R at U2 ⊢
      generalize W2.heap.size = Y at U2 ⊢
      clear hq1 hg1
      have HU2 := hidden U2
      have hRl := U2.rl.own' HU.out.rl hHW0.out
      have Hrep := hidden (fun u (hu : Rl W3 u) vb hvb (hv : u.heap[vb]? = some (.cells #[.slice (some ⟨Q, 0, none⟩) n n, .int .i64 (k - ((L : Int) - (n : Int))), .slice (some ⟨R, 0, none⟩) (L - n) (L - n), .int .i64 k] 81 (0, 0))) => halve_rep (u := u) (vb := vb) (Q1 := Q) (Q2 := R) (l1 := l1) (l2 := l2) Htab.out HNe.out hN hB hi (Rl.own hRl hu) (Rl.blk hu (Rl.blk HU2.out.rl HU.out.q)) (Rl.blk hu HU2.out.q) (Nat.le_trans hHW0.out.size HU.out.bq) (Nat.le_trans hHW0.out.size (Nat.le_trans HU.out.rl.size HU2.out.bq)) (by have h1 := (Array.getElem?_eq_some_iff.1 HU.out.q).1; have h2 := HU2.out.bq; omega) Hl1.out Hl2.out h0 (by omega) (by omega) (by omega) hvb hv)
      have hT0 : W3.cell? ⟨T, 0, none⟩ = some (Value.slice (some ⟨g, 0, none⟩) N cap) := hRl.cell hc0 (by simp)
      have hx0' : W3.cell? ⟨X, 0, none⟩ = some (Value.slice (some ⟨Q, 0, none⟩) n n) := U2.rl.cell HU.out.c0 (by simp)
      have hx1' : W3.cell? ⟨X, 1, none⟩ = some (Value.int .i64 (k - ((L : Int) - (n : Int)))) := U2.rl.cell HU.out.c1 (by simp)
      have hy0' := U2.c0
      have hy1' := U2.c1
      clear U2
      go_wp2_with fail
      have hTW3 : T < W3.heap.size := Nat.lt_of_lt_of_le Htab.out.lt hRl.size
      have hTa : (W3.alloc (.cells #[.slice (some ⟨Q, 0, none⟩) n n, .int .i64 (k - ((L : Int) - (n : Int))), .slice (some ⟨R, 0, none⟩) (L - n) (L - n), .int .i64 k] 81)).cell? ⟨T, 0, none⟩ = some (Value.slice (some ⟨g, 0, none⟩) N cap) := (grownBy_alloc W3 _).cell hT0 (by simp)
      go_region_with (refine (Hrep.out _ (by (go_split_ands; repeat (first | assumption | exact Rl.refl _ | apply Rl.alloc | apply Rl.drew | (refine Rl.set ?_ _ _ _ (by omega)) | (refine Rl.own ?_ (by assumption))))) _ hRl.size (by exact heap_alloc_new W3 _)).mono ?_; rintro e w5 ⟨g', cap', rfl, Hfin, hcT, hfT, hs5, hb5⟩)
      all_goals
        have Hfin' := Hfin.out
        rw [show k - ((L : Int) - (n : Int)) = p.k - ((p.l.length - n : Nat) : Int) by rw [Hke.out, HLe.out]; omega] at Hfin'
        rw [← Hl1e.out, ← Hl2e.out, ← Hke.out] at Hfin'
        clear Hfin
        have HF := hidden Hfin'
        clear Hfin'
        go_wp2
        go_end0
        exact ⟨rfl, _, _, _, HF.out⟩
end Go.Proofs.PlatenPiece
