/- What strings.Clone, past.own, past.Back, past.Move come to. -/
import Derived.Test.YtibdhahkkejnjaaCallsA
import Derived.Lib.Strings
import Derived.Lib.Walk

import Derived.Lib.UnsafeStr
import Derived.Lib.BufferWrite
import Derived.Lib.Hide

import Derived.Laws.MakeOwn
namespace Go.Proofs.PlatenPiece
open Go Go.RowKit
set_option linter.unusedVariables false

set_option maxHeartbeats 4000000 in
set_option maxRecDepth 100000 in
theorem lite_clone (s : ByteArray) (w : World) (hlim : s.size ≤ 281474976710656) :
    Calls Try.prog 76 #[.string s] w fun e w' => e = .returned (.string s) ∧ Below w.heap.size w w' := by
  by_cases h0 : s.size = 0
  · have hs : s = ⟨#[]⟩ := by
      apply ByteArray.ext
      exact Array.eq_empty_of_size_eq_zero h0
    subst hs
    go_enter Try.func76, Try.ntmps76
    go_wp2
    go_ret
    exact ⟨rfl, Below.refl _ _⟩
  · obtain ⟨i0, hi, hz0, hz1, hz2⟩ := info_parts info5
    have hinfo : (Try.prog.info? 5).map (·.size) = some 1 := by rw [hi]; simp [hz1]
    have hco : Try.prog.cellsOf 5 = 1 := by simp [Program.cellsOf, hi, hz1]
    obtain ⟨M, hM⟩ : ∃ M, M = madeCells (Value.int .u8 0).cells (((s.size : Nat) : Int).toNat * i0.size) := ⟨_, rfl⟩
    have hMs : M.size = s.size := by rw [hM, size_madeCells, hz1]; simp
    have hmk : ∀ W : World, (Instr.makeSlice 22 (.int .i64 (s.size : Int)) (.int .i64 (s.size : Int))).run Try.prog W = .ok (.slice (some ⟨W.heap.size, 0, none⟩) s.size s.size) (W.alloc (.cells M 5)) := fun W => by
      have h := run_make (P := Try.prog) W 22 5 i0 (.int .u8 0) Try.underlying22 hi hz0 .i64 .i64 (s.size : Int) (s.size : Int) (by omega) (by omega) (by rw [hz2]; omega) (by omega)
      rw [← hM] at h
      simpa using h
    clear hM
    have hcp := Lib.run_copy_row_string (P := Try.prog) (w.alloc (.cells M 5)) 22 9 3 5 w.heap.size 0 s.size s.size s M 5 Try.underlying22 hinfo (heap_alloc_new w _) (Nat.le_refl _) (by omega)
    obtain ⟨Y, hY⟩ : ∃ Y, Y = (M.toList.take 0 ++ Lib.byteCells s.data.toList ++ M.toList.drop (0 + s.size)).toArray := ⟨_, rfl⟩
    rw [← hY] at hcp
    have hYl : Y.toList = Lib.byteCells s.data.toList := by
      rw [hY, List.toList_toArray, List.take_zero, List.nil_append, List.drop_of_length_le (by rw [Array.length_toList]; omega), List.append_nil]
    have hYs : Y.size = s.size := by rw [← Array.length_toList, hYl, Lib.byteCells_length, ← Lib.size_eq]
    have hgY : ((w.alloc (.cells M 5)).setRow w.heap.size Y).heap[w.heap.size]? = some (.cells Y 5 (0, 0)) := setRow_heap _ _ M _ 5 (0, 0) (heap_alloc_new w _)
    have hne : s.data.toList ≠ [] := fun e => h0 (by rw [Lib.size_eq, e]; rfl)
    have hUS := Lib.run_unsafeString_row (P := Try.prog) ((w.alloc (.cells M 5)).setRow w.heap.size Y) 113 3 9 5 Try.underlying113 hco w.heap.size Y.size (by unfold World.shape?; rw [hgY]) s.data.toList hne (by rw [← Lib.size_eq]; omega) (by rw [← Lib.size_eq]; omega)
      (fun j x hx => Lib.cells_of_row hgY Y.size j _ (by rw [List.take_of_length_le (by rw [Array.length_toList]; exact Nat.le_refl _), hYl]; simp [Lib.byteCells, hx]))
    rw [← Lib.size_eq] at hUS
    clear hY
    go_enter Try.func76, Try.ntmps76
    go_wp2
    go_ret
    have hb1 : Below w.heap.size w (w.alloc (.cells M 5)) := (Below.refl _ w).alloc (Nat.le_refl _) _
    have hb2 : Below w.heap.size (w.alloc (.cells M 5)) ((w.alloc (.cells M 5)).setRow w.heap.size Y) := ⟨rfl, rfl, rfl, by simp, fun k hk => setRow_other _ _ _ _ (by omega)⟩
    exact ⟨rfl, Lib.below_freeze (hb1.trans hb2) (p := ⟨w.heap.size, 0, none⟩) (Nat.le_refl _) _⟩

set_option maxHeartbeats 1000000 in
theorem str_clone (s : ByteArray) (w : World) (hlim : s.size ≤ 281474976710656) :
    Calls Try.prog 71 #[.string s] w fun e w' => e = .returned (.string s) ∧ Below w.heap.size w w' := by
  have c := lite_clone s w hlim
  clear hlim
  go_enter Try.func71, Try.ntmps71
  go_wp2_with fail
  refine c.mono ?_
  rintro e w' ⟨rfl, hb⟩
  go_wp2
  go_ret
  exact ⟨rfl, hb⟩

theorem take_dst {P : Program} {md : Region.Mode} {ops : Array Oper} {Q : Exit → Act → World → Prop} {S : World → Prop} (i : Nat) (d : Option Nat) {oi : Oper} {v : Value} {fuel : Nat} {listed : Array Bool} {a : Act} {w : World} (hi : ops[i]? = some oi) (hd : oi.dst = d)
    (hs : Region.noSelect ops = true) (hf : Region.free md ops listed i = true) (hr : (Region.ready md ops listed).contains i = true)
    (hQ : ∀ c a w, Q (.panic c) (a.put d v) w → Q (.panic c) a w) (hy : YieldsIf P ops S oi v a) (hS : S w)
    (h : wpAnyH P md ops Q S fuel (listed.setIfInBounds i true) (a.put d v) w) : wpAnyH P md ops Q S (fuel + 1) listed a w := by
  subst hd
  exact wpAnyH_take hi hs hf hr hQ hy hS h
theorem size57e : (Try.prog.info? 57).map (·.size) = some 3 := by kernel_rfl
/-- Three cells of a block stand, and all that lay below does. -/
structure Ed3 (W : World) (b : Nat) (x y z : Value) (u : World) : Prop where
  rel : Below W.heap.size W u
  c0 : u.cell? ⟨b, 0, none⟩ = some x
  c1 : u.cell? ⟨b, 1, none⟩ = some y
  c2 : u.cell? ⟨b, 2, none⟩ = some z
theorem Ed3.next {W u u' : World} {b : Nat} {x y z : Value} (h : Ed3 W b x y z u) (hb : Below u.heap.size u u') : Ed3 W b x y z u' :=
  ⟨h.rel.trans (hb.mono h.rel.size), by rw [hb.cell (World.block_lt_of_cell? _ _ h.c0)]; exact h.c0, by rw [hb.cell (World.block_lt_of_cell? _ _ h.c1)]; exact h.c1, by rw [hb.cell (World.block_lt_of_cell? _ _ h.c2)]; exact h.c2⟩
theorem Ed3.drew {W u : World} {b : Nat} {x y z : Value} (h : Ed3 W b x y z u) : Ed3 W b x y z u.drew := ⟨h.rel.drew, h.c0, h.c1, h.c2⟩

/-- Six cells of two blocks stand, and all that lay below does. -/
structure Ed6 (W : World) (b : Nat) (x y z : Value) (u : World) : Prop where
  rel : Below W.heap.size W u
  h0 : u.heap[b]? = some (.cells #[x, y, z] 57 (0, 0))
  h1 : u.heap[b + 1]? = some (.cells #[.int .i64 0, .string ⟨#[]⟩, .string ⟨#[]⟩] 57 (0, 0))
theorem Ed6.next {W u u' : World} {b : Nat} {x y z : Value} (h : Ed6 W b x y z u) (hb : Below u.heap.size u u') : Ed6 W b x y z u' :=
  ⟨h.rel.trans (hb.mono h.rel.size), by rw [hb.block b (Array.getElem?_eq_some_iff.1 h.h0).1]; exact h.h0, by rw [hb.block _ (Array.getElem?_eq_some_iff.1 h.h1).1]; exact h.h1⟩
theorem Ed6.drew {W u : World} {b : Nat} {x y z : Value} (h : Ed6 W b x y z u) : Ed6 W b x y z u.drew := ⟨h.rel.drew, h.h0, h.h1⟩
theorem Ed6.cells {W u : World} {b : Nat} {x y z : Value} (h : Ed6 W b x y z u) : u.cell? ⟨b, 0, none⟩ = some x ∧ u.cell? ⟨b, 1, none⟩ = some y ∧ u.cell? ⟨b, 2, none⟩ = some z := by
  simp [World.cell?, h.h0]
theorem Ed6.free {W u : World} {b : Nat} {x y z : Value} (h : Ed6 W b x y z u) (j : Nat) : u.frozen? ⟨b + 1, j, none⟩ = false := frozen_of_row u (b + 1) j _ 57 h.h1
theorem Ed6.cells1 {W u : World} {b : Nat} {x y z : Value} (h : Ed6 W b x y z u) : u.cell? ⟨b + 1, 0, none⟩ = some (.int .i64 0) ∧ u.cell? ⟨b + 1, 1, none⟩ = some (.string ⟨#[]⟩) ∧ u.cell? ⟨b + 1, 2, none⟩ = some (.string ⟨#[]⟩) := by
  simp [World.cell?, h.h1]

set_option maxHeartbeats 4000000 in
set_option maxRecDepth 100000 in
theorem ed_own (at' : Int) (o n : ByteArray) (w : World) (ho : o.size ≤ 281474976710656) (hn : n.size ≤ 281474976710656) :
    Calls Try.prog 60 #[.agg #[.int .i64 at', .string o, .string n]] w fun e w' => e = .returned (.agg #[.int .i64 at', .string o, .string n]) ∧ Below w.heap.size w w' := by
  have Ho := hidden ho
  have Hn := hidden hn
  clear ho hn
  go_enter Try.func60, Try.ntmps60
  go_wp2_with fail
  have F0 : Ed6 w w.heap.size (.int .i64 at') (.string o) (.string n) ((w.alloc (.cells #[.int .i64 at', .string o, .string n] 57)).alloc (.cells #[.int .i64 0, .string ⟨#[]⟩, .string ⟨#[]⟩] 57)) :=
    ⟨((Below.refl _ _).alloc (Nat.le_refl _) _).alloc (by simp) _, by rw [Below.heap_alloc _ _ _ (by simp)]; exact heap_alloc_new _ _, by rw [show w.heap.size + 1 = (w.alloc (.cells #[.int .i64 at', .string o, .string n] 57)).heap.size by simp]; exact heap_alloc_new _ _⟩
  generalize ((w.alloc (.cells #[.int .i64 at', .string o, .string n] 57)).alloc (.cells #[.int .i64 0, .string ⟨#[]⟩, .string ⟨#[]⟩] 57)) = W at *
  have HALL : Hid (∀ u, Ed6 w w.heap.size (.int .i64 at') (.string o) (.string n) u → u.cell? ⟨w.heap.size, 0, none⟩ = some (.int .i64 at') ∧ u.cell? ⟨w.heap.size, 1, none⟩ = some (.string o) ∧ u.cell? ⟨w.heap.size, 2, none⟩ = some (.string n)) := fun u hu => hu.cells
  have HF0 := hidden F0
  clear F0
  refine wp_region_held_drew (S := (fun u => u.cell? ⟨w.heap.size, 0, none⟩ = some (.int .i64 at') ∧ u.cell? ⟨w.heap.size, 1, none⟩ = some (.string o) ∧ u.cell? ⟨w.heap.size, 2, none⟩ = some (.string n))) (by kernel_rfl) (HALL.out _ HF0.out.drew) (fun hHeld => ?_)
  refine take_dst 0 (some 3) rfl rfl (by kernel_rfl) (by kernel_rfl) (by kernel_rfl) (fun _ _ _ h => h) (v := ?_) (Or.inl ⟨by rfl, ?_⟩) (by assumption) ?_
  rotate_left
  · (intro w hSw; (try dsimp only at hSw); go_simp; try with_reducible rfl)
  simp only [Act.put, List.setIfInBounds_toArray, List.set_cons_zero, List.set_cons_succ]
  refine take_dst 1 (some 4) rfl rfl (by kernel_rfl) (by kernel_rfl) (by kernel_rfl) (fun _ _ _ h => h) (v := ?_) (Or.inl ⟨by rfl, ?_⟩) (by assumption) ?_
  rotate_left
  · (intro w hSw; (try dsimp only at hSw); go_simp; try with_reducible rfl)
  simp only [Act.put, List.setIfInBounds_toArray, List.set_cons_zero, List.set_cons_succ]
  refine take_dst 2 (some 5) rfl rfl (by kernel_rfl) (by kernel_rfl) (by kernel_rfl) (fun _ _ _ h => h) (v := ?_) (Or.inl ⟨by rfl, ?_⟩) (by assumption) ?_
  rotate_left
  · (intro w hSw; (try dsimp only at hSw); go_simp; try with_reducible rfl)
  simp only [Act.put, List.setIfInBounds_toArray, List.set_cons_zero, List.set_cons_succ]
  refine take_dst 3 (some 6) rfl rfl (by kernel_rfl) (by kernel_rfl) (by kernel_rfl) (fun _ _ _ h => h) (v := ?_) (Or.inl ⟨by rfl, ?_⟩) (by assumption) ?_
  rotate_left
  · (intro w hSw; (try dsimp only at hSw); go_simp; try with_reducible rfl)
  simp only [Act.put, List.setIfInBounds_toArray, List.set_cons_zero, List.set_cons_succ]
  refine take_dst 5 (some 8) rfl rfl (by kernel_rfl) (by kernel_rfl) (by kernel_rfl) (fun _ _ _ h => h) (v := ?_) (Or.inl ⟨by rfl, ?_⟩) (by assumption) ?_
  rotate_left
  · (intro w hSw; (try dsimp only at hSw); go_simp; try with_reducible rfl)
  simp only [Act.put, List.setIfInBounds_toArray, List.set_cons_zero, List.set_cons_succ]
  refine take_dst 6 (some 9) rfl rfl (by kernel_rfl) (by kernel_rfl) (by kernel_rfl) (fun _ _ _ h => h) (v := ?_) (Or.inl ⟨by rfl, ?_⟩) (by assumption) ?_
  rotate_left
  · (intro w hSw; (try dsimp only at hSw); go_simp; try with_reducible rfl)
  simp only [Act.put, List.setIfInBounds_toArray, List.set_cons_zero, List.set_cons_succ]
  refine wpAnyH_ready (rs := [4]) (by kernel_rfl) (by simp) ?_
  refine AllReadyH.cons rfl (fun K hK => ?_) AllReadyH.nil
  go_simp
  refine (str_clone o _ Ho.out).mono ?_
  rintro e w1 ⟨rfl, hb1⟩
  have HF1 := hidden (HF0.out.drew.next hb1)
  clear hb1
  refine hK.out _ _ (HALL.out _ HF1.out) (fun hHeld2 => ?_)
  clear hK K hHeld HF0
  refine wpAnyH_ready (rs := [7]) (by kernel_rfl) (by simp) ?_
  refine AllReadyH.cons rfl (fun K hK => ?_) AllReadyH.nil
  go_simp
  refine (str_clone n _ Hn.out).mono ?_
  rintro e w2 ⟨rfl, hb2⟩
  have F2 := HF1.out.next hb2
  have HF2 := hidden F2
  clear hb2
  refine hK.out _ _ (HALL.out _ HF2.out) (fun hHeld3 => ?_)
  clear hK K hHeld2 HF1
  refine take_dst 8 (some 11) rfl rfl (by kernel_rfl) (by kernel_rfl) (by kernel_rfl) (fun _ _ _ h => h) (v := ?_) (Or.inl ⟨by rfl, ?_⟩) (by assumption) ?_
  rotate_left
  · (intro w hSw; (try dsimp only at hSw); go_simp; try with_reducible rfl)
  simp only [Act.put, List.setIfInBounds_toArray, List.set_cons_zero, List.set_cons_succ]
  refine wpAnyH_ready (rs := [9]) (by kernel_rfl) (by simp) ?_
  refine AllReadyH.cons rfl (fun K hK => ?_) AllReadyH.nil
  obtain ⟨v0, v1, v2⟩ := F2.cells1
  have v3 := F2.free 0
  have v4 := F2.free 1
  have v5 := F2.free 2
  have HB : Hid (Below w.heap.size w (((w2.setCell ⟨w.heap.size + 1, 0, none⟩ (.int .i64 at')).setCell ⟨w.heap.size + 1, 1, none⟩ (.string o)).setCell ⟨w.heap.size + 1, 2, none⟩ (.string n))) := ((F2.rel.setCell (p := ⟨w.heap.size + 1, 0, none⟩) (by simp) _).setCell (p := ⟨w.heap.size + 1, 1, none⟩) (by simp) _).setCell (p := ⟨w.heap.size + 1, 2, none⟩) (by simp) _
  have HH : Hid ((((w2.setCell ⟨w.heap.size + 1, 0, none⟩ (.int .i64 at')).setCell ⟨w.heap.size + 1, 1, none⟩ (.string o)).setCell ⟨w.heap.size + 1, 2, none⟩ (.string n)).heap[w.heap.size + 1]? = some (.cells #[.int .i64 at', .string o, .string n] 57 (0, 0))) := by
    unfold Hid
    have q1 := heap_setCell_same w2 (w.heap.size + 1) 0 _ 57 (.int .i64 at') F2.h1
    have q2 := heap_setCell_same _ (w.heap.size + 1) 1 _ 57 (.string o) q1
    have q3 := heap_setCell_same _ (w.heap.size + 1) 2 _ 57 (.string n) q2
    rw [q3]; rfl
  have HH0 : (((w2.setCell ⟨w.heap.size + 1, 0, none⟩ (.int .i64 at')).setCell ⟨w.heap.size + 1, 1, none⟩ (.string o)).setCell ⟨w.heap.size + 1, 2, none⟩ (.string n)).heap[w.heap.size]? = some (.cells #[.int .i64 at', .string o, .string n] 57 (0, 0)) := by
    rw [heap_setCell_other _ _ _ _ (by simp), heap_setCell_other _ _ _ _ (by simp), heap_setCell_other _ _ _ _ (by simp)]
    exact F2.h0
  have HC : Hid ((((w2.setCell ⟨w.heap.size + 1, 0, none⟩ (.int .i64 at')).setCell ⟨w.heap.size + 1, 1, none⟩ (.string o)).setCell ⟨w.heap.size + 1, 2, none⟩ (.string n)).cell? ⟨w.heap.size, 0, none⟩ = some (.int .i64 at') ∧ (((w2.setCell ⟨w.heap.size + 1, 0, none⟩ (.int .i64 at')).setCell ⟨w.heap.size + 1, 1, none⟩ (.string o)).setCell ⟨w.heap.size + 1, 2, none⟩ (.string n)).cell? ⟨w.heap.size, 1, none⟩ = some (.string o) ∧ (((w2.setCell ⟨w.heap.size + 1, 0, none⟩ (.int .i64 at')).setCell ⟨w.heap.size + 1, 1, none⟩ (.string o)).setCell ⟨w.heap.size + 1, 2, none⟩ (.string n)).cell? ⟨w.heap.size, 2, none⟩ = some (.string n)) := ⟨by simp only [World.cell?, HH0]; rfl, by simp only [World.cell?, HH0]; rfl, by simp only [World.cell?, HH0]; rfl⟩
  clear F2 HF2 HH0 hHeld3
  go_simp
  refine hK.out _ _ HC.out (fun hHeld4 => ?_)
  clear hK K hHeld4 HC
  refine wpAnyH_done (by kernel_rfl) ?_ _
  go_wp2
  refine bodyPost_ret (results_cell_row rfl _ _ (w.heap.size + 1) 57 #[.int .i64 at', .string o, .string n] (0, 0) _ rfl HH.out Try.underlying57 rfl size57e) rfl ⟨rfl, HB.out⟩
end Go.Proofs.PlatenPiece
