/- What apply comes to. -/
import Derived.Test.YtibdhahkkejnjaaPsD
namespace Go.Proofs.PlatenPiece
open Go Go.RowKit
set_option linter.unusedVariables false
set_option maxRecDepth 100000

/-- The cells of a history's head and of an edit that apply reads. -/
structure Ap (H T b : Nat) (e : Ed) (u : World) : Prop where
  hH : ∃ x, u.heap[H]? = some (.cells x 91 (0, 0)) ∧ x[0]? = some (.pointer (some ⟨T, 0, none⟩))
  hb : u.heap[b]? = some (.cells #[.int .i64 e.at', .string e.old, .string e.new] 57 (0, 0))
theorem Ap.cells {H T b : Nat} {e : Ed} {u : World} (h : Ap H T b e u) : u.cell? ⟨H, 0, none⟩ = some (.pointer (some ⟨T, 0, none⟩)) ∧ u.cell? ⟨b, 0, none⟩ = some (.int .i64 e.at') ∧ u.cell? ⟨b, 1, none⟩ = some (.string e.old) ∧ u.cell? ⟨b, 2, none⟩ = some (.string e.new) := by
  obtain ⟨x, hx, h0⟩ := h.hH
  simp [World.cell?, hx, h.hb, h0]

theorem Ap.kept {B H T b c : Nat} {e : Ed} {u u' : World} {l : List Nat} {O : Nat → Prop} (h : Ap H T b e u) (hT : Tx B u T l c O) (hK : Kept O u u') : Ap H T b e u' := by
  have hne : ∀ k x t, u.heap[k]? = some (.cells x t (0, 0)) → t = 91 ∨ t = 57 → ¬ O k := by
    intro k x t hk ht ho
    obtain ⟨x', t', hx', ht'⟩ := hT.ty k ho
    rw [hx'] at hk
    simp only [Option.some.injEq, Obj.cells.injEq] at hk
    obtain ⟨_, rfl, _⟩ := hk
    rcases ht with rfl | rfl <;> rcases ht' with h | h | h <;> exact absurd h (by decide)
  obtain ⟨x, hx, h0⟩ := h.hH
  exact ⟨⟨x, by rw [hK.block H (Array.getElem?_eq_some_iff.1 hx).1 (hne H _ _ hx (Or.inl rfl))]; exact hx, h0⟩, by rw [hK.block b (Array.getElem?_eq_some_iff.1 h.hb).1 (hne b _ _ h.hb (Or.inr rfl))]; exact h.hb⟩
theorem Ap.drew {H T b : Nat} {e : Ed} {u : World} (h : Ap H T b e u) : Ap H T b e u.drew := ⟨h.hH, h.hb⟩
theorem Tx.drew {B : Nat} {w : World} {T c : Nat} {l : List Nat} {O : Nat → Prop} (h : Tx B w T l c O) : Tx B w.drew T l c O := h.same (Nat.le_refl _) (fun _ _ => rfl)
theorem kept_drew (O : Nat → Prop) (w : World) : Kept O w w.drew := ⟨rfl, rfl, rfl, Nat.le_refl _, fun _ _ _ => rfl⟩

/-- []byte(s). -/
theorem conv_src (w : World) (s : ByteArray) : ∃ cap w2, (convert 9 22 (.string s)).run Try.prog w = .ok (.slice (some ⟨w.heap.size, 0, none⟩) s.size cap) w2 ∧ PlatenPiece.Src w2 (.slice (some ⟨w.heap.size, 0, none⟩) s.size cap) (bts s) ∧ w.grownBy w2 none := by
  refine ⟨_, _, run_bytes_of_string (P := Try.prog) w 9 22 5 s Try.underlying9 Try.underlying22 Try.underlying5, Or.inr ⟨_, _, by rw [bts_len], fun j u hj => ?_⟩, ?_⟩
  · rw [Addr.add_lit, Nat.zero_add]
    have hh : ∀ o, (w.drew.alloc o).heap[w.heap.size]? = some o := fun o => heap_alloc_new w.drew o
    simp only [World.cell?, hh]
    have hj' : j < s.data.toList.length := by
      have := (List.getElem?_eq_some_iff.1 hj).1
      simpa [bytesV, bts] using this
    have hj2 : j < s.size := by simpa using hj'
    rw [← hj]
    simp [bytesRow, bytesV, bts, Array.getElem?_append, hj2]
  · exact ⟨rfl, rfl, rfl, by simp, fun k hk _ => Below.heap_alloc w.drew _ k hk⟩

set_option maxHeartbeats 2000000 in
theorem apply_any {B H T c : Nat} {w : World} {l : List Nat} {O : Nat → Prop} (h : Tx B w T l c O) (hc : c + 1 ≤ 4500) (x : Array Value) (hH : w.heap[H]? = some (.cells x 91 (0, 0))) (h0 : x[0]? = some (.pointer (some ⟨T, 0, none⟩))) (e : Ed) :
    Calls Try.prog 57 #[.pointer (some ⟨H, 0, none⟩), .agg #[.int .i64 e.at', .string e.old, .string e.new]] w fun q w' => (∃ v, q = .returned v) ∧ ∃ O', Tx B w' T (appL l e) (c + 2) O' ∧ Kept O w w' ∧ (∀ k, k < w.heap.size → O' k → O k) := by
  have hHl := (Array.getElem?_eq_some_iff.1 hH).1
  have hg0 := grownBy_alloc w (.cells #[.int .i64 e.at', .string e.old, .string e.new] 57)
  have A0 : Ap H T w.heap.size e (w.alloc (.cells #[.int .i64 e.at', .string e.old, .string e.new] 57)) := ⟨⟨x, (Below.heap_alloc _ _ _ hHl).trans hH, h0⟩, heap_alloc_new _ _⟩
  have HT := hidden (h.grown hg0)
  have HK := hidden (kept_none (O := O) hg0)
  obtain ⟨a0, a1, a2, a3⟩ := A0.cells
  have HA := hidden A0
  have Hc := hidden hc
  clear h hH h0 A0 hc hHl hg0
  go_enter Try.func57, Try.ntmps57
  go_wp2_with fail
  generalize (w.alloc (.cells #[.int .i64 e.at', .string e.old, .string e.new] 57)) = W at *
  have HALL0 : Hid (∀ u, Ap H T w.heap.size e u → u.cell? ⟨H, 0, none⟩ = some (.pointer (some ⟨T, 0, none⟩)) ∧ u.cell? ⟨w.heap.size, 0, none⟩ = some (.int .i64 e.at') ∧ u.cell? ⟨w.heap.size, 1, none⟩ = some (.string e.old)) := fun u hu => ⟨hu.cells.1, hu.cells.2.1, hu.cells.2.2.1⟩
  refine wp_region_held_drew (S := (fun u => u.cell? ⟨H, 0, none⟩ = some (.pointer (some ⟨T, 0, none⟩)) ∧ u.cell? ⟨w.heap.size, 0, none⟩ = some (.int .i64 e.at') ∧ u.cell? ⟨w.heap.size, 1, none⟩ = some (.string e.old))) (by kernel_rfl) (HALL0.out _ HA.out.drew) (fun hHeld => ?_)
  refine take_dst 0 (some 4) rfl rfl (by kernel_rfl) (by kernel_rfl) (by kernel_rfl) (fun _ _ _ h => h) (v := ?_) (Or.inl ⟨by rfl, ?_⟩) (by assumption) ?_
  rotate_left
  · (intro w hSw; (try dsimp only at hSw); go_simp; try with_reducible rfl)
  simp only [Act.put, List.setIfInBounds_toArray, List.set_cons_zero, List.set_cons_succ]
  refine take_dst 1 (some 5) rfl rfl (by kernel_rfl) (by kernel_rfl) (by kernel_rfl) (fun _ _ _ h => h) (v := ?_) (Or.inl ⟨by rfl, ?_⟩) (by assumption) ?_
  rotate_left
  · (intro w hSw; (try dsimp only at hSw); go_simp; try with_reducible rfl)
  simp only [Act.put, List.setIfInBounds_toArray, List.set_cons_zero, List.set_cons_succ]
  refine take_dst 2 (some 6) rfl rfl (by kernel_rfl) (by kernel_rfl) (by kernel_rfl) (fun _ _ _ h => h) (v := ?_) (Or.inl ⟨by rfl, ?_⟩) (by assumption) ?_
  rotate_left
  · (intro w hSw; (try dsimp only at hSw); go_simp; try with_reducible rfl)
  simp only [Act.put, List.setIfInBounds_toArray, List.set_cons_zero, List.set_cons_succ]
  refine take_dst 3 (some 7) rfl rfl (by kernel_rfl) (by kernel_rfl) (by kernel_rfl) (fun _ _ _ h => h) (v := ?_) (Or.inl ⟨by rfl, ?_⟩) (by assumption) ?_
  rotate_left
  · (intro w hSw; (try dsimp only at hSw); go_simp; try with_reducible rfl)
  simp only [Act.put, List.setIfInBounds_toArray, List.set_cons_zero, List.set_cons_succ]
  refine take_dst 4 (some 8) rfl rfl (by kernel_rfl) (by kernel_rfl) (by kernel_rfl) (fun _ _ _ h => h) (v := ?_) (Or.inl ⟨by rfl, ?_⟩) (by assumption) ?_
  rotate_left
  · (intro w hSw; (try dsimp only at hSw); go_simp; try with_reducible rfl)
  simp only [Act.put, List.setIfInBounds_toArray, List.set_cons_zero, List.set_cons_succ]
  refine take_dst 5 (some 9) rfl rfl (by kernel_rfl) (by kernel_rfl) (by kernel_rfl) (fun _ _ _ h => h) (v := ?_) (Or.inl ⟨by rfl, ?_⟩) (by assumption) ?_
  rotate_left
  · (intro w hSw; (try dsimp only at hSw); go_simp; try with_reducible rfl)
  simp only [Act.put, List.setIfInBounds_toArray, List.set_cons_zero, List.set_cons_succ]
  refine take_dst 6 (some 10) rfl rfl (by kernel_rfl) (by kernel_rfl) (by kernel_rfl) (fun _ _ _ h => h) (v := ?_) (Or.inl ⟨by rfl, ?_⟩) (by assumption) ?_
  rotate_left
  · (intro w hSw; (try dsimp only at hSw); go_simp; try with_reducible rfl)
  simp only [Act.put, List.setIfInBounds_toArray, List.set_cons_zero, List.set_cons_succ]
  refine take_dst 7 (some 11) rfl rfl (by kernel_rfl) (by kernel_rfl) (by kernel_rfl) (fun _ _ _ h => h) (v := ?_) (Or.inl ⟨by rfl, ?_⟩) (by assumption) ?_
  rotate_left
  · (intro w hSw; (try dsimp only at hSw); go_simp; try with_reducible rfl)
  simp only [Act.put, List.setIfInBounds_toArray, List.set_cons_zero, List.set_cons_succ]
  refine take_dst 8 (some 12) rfl rfl (by kernel_rfl) (by kernel_rfl) (by kernel_rfl) (fun _ _ _ h => h) (v := ?_) (Or.inl ⟨by rfl, ?_⟩) (by assumption) ?_
  rotate_left
  · (intro w hSw; (try dsimp only at hSw); go_simp; try with_reducible rfl)
  simp only [Act.put, List.setIfInBounds_toArray, List.set_cons_zero, List.set_cons_succ]
  refine wpAnyH_ready (rs := [9]) (by kernel_rfl) (by simp) ?_
  refine AllReadyH.cons rfl (fun K hK => ?_) AllReadyH.nil
  go_simp
  refine (tx_del HT.out.drew (by have := Hc.out; omega) e.at' e.old.size).mono ?_
  rintro q w1 ⟨⟨v1, rfl⟩, O1, hT1, hK1, hO1⟩
  refine hK.out _ _ (HALL0.out _ (HA.out.drew.kept HT.out.drew hK1)) (fun hHeld2 => ?_)
  clear hK K hHeld hHeld2 HALL0
  refine wpAnyH_done (by kernel_rfl) ?_ _
  have HA1 := hidden (HA.out.drew.kept HT.out.drew hK1)
  have HK1 := hidden (HK.out.trans ((kept_drew O W).trans hK1 (fun _ _ h => h)) (fun _ _ h => h))
  have HO1 : Hid (∀ k, k < w.heap.size → O1 k → O k) := fun k hk ho => hO1 k (Nat.lt_of_lt_of_le hk HK.out.size) ho
  obtain ⟨b0, b1, b2, b3⟩ := HA1.out.cells
  have HT1 := hidden hT1
  clear a0 a1 a2 a3 hT1 hK1 hO1 HA
  obtain ⟨cap, w2, hcv, hs2, hg2⟩ := conv_src w1.drew e.new
  have hz2 : w1.heap.size ≤ w2.heap.size := hg2.size
  have hcv : (convert 9 22 (.string e.new)).run Try.prog w1.drew = .ok (.slice (some ⟨w1.heap.size, 0, none⟩) e.new.size cap) w2 := hcv
  have c2 := tx_ins (HT1.out.drew.grown hg2) (by have := Hc.out; omega) e.at' (bts e.new) (by rw [bts_len]; exact e.hn) _ hs2 (fun b hb ho => by
    simp only [Value.ownBlock, Option.some.injEq] at hb
    have := (HT1.out.own b ho).2
    have hq : w1.drew.heap.size = w1.heap.size := rfl
    omega)
  have C2 := hidden c2
  have HK2 := hidden (HK1.out.trans (O' := O) ((kept_drew O w1).trans (kept_none (O := O) hg2) (fun _ _ h => h)) (fun _ _ h => h))
  have HA2 := hidden (HA1.out.drew.kept (HT1.out.drew) (kept_none (O := O1) hg2))
  have HT2 := hidden (HT1.out.drew.grown hg2)
  clear c2 hs2 hg2
  have HALL : Hid (∀ u, Ap H T w.heap.size e u → u.cell? ⟨H, 0, none⟩ = some (.pointer (some ⟨T, 0, none⟩)) ∧ u.cell? ⟨w.heap.size, 0, none⟩ = some (.int .i64 e.at') ∧ u.cell? ⟨w.heap.size, 2, none⟩ = some (.string e.new)) := fun u hu => ⟨hu.cells.1, hu.cells.2.1, hu.cells.2.2.2⟩
  go_wp2_with fail
  refine wp_region_held_drew (S := (fun u => u.cell? ⟨H, 0, none⟩ = some (.pointer (some ⟨T, 0, none⟩)) ∧ u.cell? ⟨w.heap.size, 0, none⟩ = some (.int .i64 e.at') ∧ u.cell? ⟨w.heap.size, 2, none⟩ = some (.string e.new))) (by kernel_rfl) (HALL.out _ HA1.out.drew) (fun hHeld => ?_)
  refine take_dst 0 (some 14) rfl rfl (by kernel_rfl) (by kernel_rfl) (by kernel_rfl) (fun _ _ _ h => h) (v := ?_) (Or.inl ⟨by rfl, ?_⟩) (by assumption) ?_
  rotate_left
  · (intro w hSw; (try dsimp only at hSw); go_simp; try with_reducible rfl)
  simp only [Act.put, List.setIfInBounds_toArray, List.set_cons_zero, List.set_cons_succ]
  refine take_dst 1 (some 15) rfl rfl (by kernel_rfl) (by kernel_rfl) (by kernel_rfl) (fun _ _ _ h => h) (v := ?_) (Or.inl ⟨by rfl, ?_⟩) (by assumption) ?_
  rotate_left
  · (intro w hSw; (try dsimp only at hSw); go_simp; try with_reducible rfl)
  simp only [Act.put, List.setIfInBounds_toArray, List.set_cons_zero, List.set_cons_succ]
  refine take_dst 2 (some 16) rfl rfl (by kernel_rfl) (by kernel_rfl) (by kernel_rfl) (fun _ _ _ h => h) (v := ?_) (Or.inl ⟨by rfl, ?_⟩) (by assumption) ?_
  rotate_left
  · (intro w hSw; (try dsimp only at hSw); go_simp; try with_reducible rfl)
  simp only [Act.put, List.setIfInBounds_toArray, List.set_cons_zero, List.set_cons_succ]
  refine take_dst 3 (some 17) rfl rfl (by kernel_rfl) (by kernel_rfl) (by kernel_rfl) (fun _ _ _ h => h) (v := ?_) (Or.inl ⟨by rfl, ?_⟩) (by assumption) ?_
  rotate_left
  · (intro w hSw; (try dsimp only at hSw); go_simp; try with_reducible rfl)
  simp only [Act.put, List.setIfInBounds_toArray, List.set_cons_zero, List.set_cons_succ]
  refine take_dst 4 (some 18) rfl rfl (by kernel_rfl) (by kernel_rfl) (by kernel_rfl) (fun _ _ _ h => h) (v := ?_) (Or.inl ⟨by rfl, ?_⟩) (by assumption) ?_
  rotate_left
  · (intro w hSw; (try dsimp only at hSw); go_simp; try with_reducible rfl)
  simp only [Act.put, List.setIfInBounds_toArray, List.set_cons_zero, List.set_cons_succ]
  refine take_dst 5 (some 19) rfl rfl (by kernel_rfl) (by kernel_rfl) (by kernel_rfl) (fun _ _ _ h => h) (v := ?_) (Or.inl ⟨by rfl, ?_⟩) (by assumption) ?_
  rotate_left
  · (intro w hSw; (try dsimp only at hSw); go_simp; try with_reducible rfl)
  simp only [Act.put, List.setIfInBounds_toArray, List.set_cons_zero, List.set_cons_succ]
  refine take_dst 6 (some 20) rfl rfl (by kernel_rfl) (by kernel_rfl) (by kernel_rfl) (fun _ _ _ h => h) (v := ?_) (Or.inl ⟨by rfl, ?_⟩) (by assumption) ?_
  rotate_left
  · (intro w hSw; (try dsimp only at hSw); go_simp; try with_reducible rfl)
  simp only [Act.put, List.setIfInBounds_toArray, List.set_cons_zero, List.set_cons_succ]
  refine take_dst 7 (some 21) rfl rfl (by kernel_rfl) (by kernel_rfl) (by kernel_rfl) (fun _ _ _ h => h) (v := ?_) (Or.inl ⟨by rfl, ?_⟩) (by assumption) ?_
  rotate_left
  · (intro w hSw; (try dsimp only at hSw); go_simp; try with_reducible rfl)
  simp only [Act.put, List.setIfInBounds_toArray, List.set_cons_zero, List.set_cons_succ]
  refine wpAnyH_ready (rs := [8]) (by kernel_rfl) (by simp) ?_
  refine AllReadyH.cons rfl (fun K hK => ?_) AllReadyH.nil
  go_simp
  refine hK.out _ _ (HALL.out _ HA2.out) (fun hHeld2 => ?_)
  clear hK K
  refine wpAnyH_ready (rs := [9]) (by kernel_rfl) (by simp) ?_
  refine AllReadyH.cons rfl (fun K hK => ?_) AllReadyH.nil
  go_simp
  refine C2.out.mono ?_
  rintro q w3 ⟨⟨v3, rfl⟩, O3, hT3, hK3, hO3⟩
  refine hK.out _ _ (HALL.out _ (HA2.out.kept HT2.out hK3)) (fun hHeld3 => ?_)
  clear hK K hHeld hHeld2 hHeld3
  refine wpAnyH_done (by kernel_rfl) ?_ _
  have hT3 : Hid (Tx B w3 T (appL l e) (c + 2) O3) := hT3
  have HK3 := hidden (HK2.out.trans hK3 (fun i hi ho => HO1.out i hi ho))
  have HO3 : Hid (∀ k, k < w.heap.size → O3 k → O k) := fun k hk ho => HO1.out k hk (hO3 k (Nat.lt_of_lt_of_le hk HK2.out.size) ho)
  clear hK3 hO3 C2
  go_wp2_with fail
  go_end0
  exact ⟨⟨_, rfl⟩, O3, hT3, HK3.out, HO3.out⟩
end Go.Proofs.PlatenPiece
