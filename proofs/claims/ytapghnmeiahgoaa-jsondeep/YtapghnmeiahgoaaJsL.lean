/- The document's machine in memory; what its atom and one come to. -/
import Derived.Test.YtapghnmeiahgoaaJsK
namespace Go.Proofs.PlatenJson
open Go Go.RowKit
set_option linter.unusedVariables false
set_option maxRecDepth 100000

theorem info5 : (Try.prog.info? 5).map (fun i => (i.zero, i.size, i.bytes)) = some (some (.int .u8 0), 1, 1) := by kernel_rfl
/-- What is open, the outermost first, as cells. -/
def rowB (S : List Nat) : List Value := S.reverse.map fun c => Value.int .u8 (c : Nat)
theorem rowB_cons (c : Nat) (S : List Nat) : rowB (c :: S) = rowB S ++ [.int .u8 (c : Nat)] := by simp [rowB]
theorem rowB_len (S : List Nat) : (rowB S).length = S.length := by simp [rowB]
def strOf (l : List Nat) : ByteArray := ⟨(l.map fun c => UInt8.ofNat c).toArray⟩

/-- The machine at block K, with all its own blocks from B on. -/
structure MS (B K : Nat) (w0 w : World) (sv lv : Value) (st : Nat) (S : List Nat) (fr : Nat) (nm : Bool) (left : ByteArray) (cnt : Nat) (T : List Tk) : Prop where
  low : B ≤ K
  bs : B ≤ w.heap.size
  head : w.heap[K]? = some (.cells #[.int .u8 (st : Nat), sv, .int .i64 (fr : Nat), .bool nm, .string left, .int .i64 (cnt : Nat), lv] 41 (0, 0))
  srow : w.ownsRow B 5 1 sv S.length (rowB S)
  lrow : w.ownsRow B 33 3 lv T.length (rowT T)
  bel : Below B w0 w
def MM (B K : Nat) (w0 w : World) (M : Mc) : Prop := ∃ sv lv, MS B K w0 w sv lv M.st M.stack M.fr M.nm (strOf M.left) M.cnt M.l

section
variable {B K : Nat} {w0 w w' : World} {sv lv : Value} {st : Nat} {S : List Nat} {fr : Nat} {nm : Bool} {left : ByteArray} {cnt : Nat} {T : List Tk}
theorem MS.lt (h : MS B K w0 w sv lv st S fr nm left cnt T) : K < w.heap.size := (Array.getElem?_eq_some_iff.1 h.head).1
theorem MS.c0 (h : MS B K w0 w sv lv st S fr nm left cnt T) : w.cell? ⟨K, 0, none⟩ = some (.int .u8 (st : Nat)) := by simp [World.cell?, h.head]
theorem MS.c1 (h : MS B K w0 w sv lv st S fr nm left cnt T) : w.cell? ⟨K, 1, none⟩ = some sv := by simp [World.cell?, h.head]
theorem MS.c2 (h : MS B K w0 w sv lv st S fr nm left cnt T) : w.cell? ⟨K, 2, none⟩ = some (.int .i64 (fr : Nat)) := by simp [World.cell?, h.head]
theorem MS.c3 (h : MS B K w0 w sv lv st S fr nm left cnt T) : w.cell? ⟨K, 3, none⟩ = some (.bool nm) := by simp [World.cell?, h.head]
theorem MS.c4 (h : MS B K w0 w sv lv st S fr nm left cnt T) : w.cell? ⟨K, 4, none⟩ = some (.string left) := by simp [World.cell?, h.head]
theorem MS.c5 (h : MS B K w0 w sv lv st S fr nm left cnt T) : w.cell? ⟨K, 5, none⟩ = some (.int .i64 (cnt : Nat)) := by simp [World.cell?, h.head]
theorem MS.c6 (h : MS B K w0 w sv lv st S fr nm left cnt T) : w.cell? ⟨K, 6, none⟩ = some lv := by simp [World.cell?, h.head]
theorem MS.free (h : MS B K w0 w sv lv st S fr nm left cnt T) (j : Nat) : w.frozen? ⟨K, j, none⟩ = false := frozen_of_row w K j _ 41 h.head
theorem MS.sown (h : MS B K w0 w sv lv st S fr nm left cnt T) : sv.ownBlock ≠ some K := row_head h.srow h.head (by decide)
theorem MS.lown (h : MS B K w0 w sv lv st S fr nm left cnt T) : lv.ownBlock ≠ some K := row_head h.lrow h.head (by decide)
theorem MS.grown (h : MS B K w0 w sv lv st S fr nm left cnt T) (hg : w.grownBy w' none) : MS B K w0 w' sv lv st S fr nm left cnt T where
  low := h.low
  bs := Nat.le_trans h.bs hg.size
  head := (hg.block K h.lt (by simp)).trans h.head
  srow := row_same h.srow (fun k hk => hg.block k (h.srow.lt k hk).2 (by simp))
  lrow := row_same h.lrow (fun k hk => hg.block k (h.lrow.lt k hk).2 (by simp))
  bel := h.bel.grown hg h.bs (by simp)
/-- One of its own cells has changed, but no row. -/
theorem MS.store (h : MS B K w0 w sv lv st S fr nm left cnt T) {c : Nat} {u : Value} {st' fr' cnt' : Nat} {nm' : Bool} {left' : ByteArray}
    (hc : #[.int .u8 (st : Nat), sv, .int .i64 (fr : Nat), .bool nm, .string left, .int .i64 (cnt : Nat), lv].set! c u = #[.int .u8 (st' : Nat), sv, .int .i64 (fr' : Nat), .bool nm', .string left', .int .i64 (cnt' : Nat), lv]) :
    MS B K w0 (w.setCell ⟨K, c, none⟩ u) sv lv st' S fr' nm' left' cnt' T where
  low := h.low
  bs := by simpa using h.bs
  head := by rw [← hc]; exact heap_setCell_same w K c _ 41 u h.head
  srow := row_same h.srow (fun k hk => heap_setCell_other _ _ _ _ (fun e => h.sown (by rw [hk, e])))
  lrow := row_same h.lrow (fun k hk => heap_setCell_other _ _ _ _ (fun e => h.lown (by rw [hk, e])))
  bel := h.bel.setCell (p := ⟨K, c, none⟩) h.low u
theorem MS.state (h : MS B K w0 w sv lv st S fr nm left cnt T) (s : Nat) : MS B K w0 (w.setCell ⟨K, 0, none⟩ (.int .u8 (s : Nat))) sv lv s S fr nm left cnt T := h.store (by simp)
theorem MS.from' (h : MS B K w0 w sv lv st S fr nm left cnt T) (s : Nat) : MS B K w0 (w.setCell ⟨K, 2, none⟩ (.int .i64 (s : Nat))) sv lv st S s nm left cnt T := h.store (by simp)
theorem MS.name (h : MS B K w0 w sv lv st S fr nm left cnt T) (s : Bool) : MS B K w0 (w.setCell ⟨K, 3, none⟩ (.bool s)) sv lv st S fr s left cnt T := h.store (by simp)
theorem MS.word (h : MS B K w0 w sv lv st S fr nm left cnt T) (s : ByteArray) : MS B K w0 (w.setCell ⟨K, 4, none⟩ (.string s)) sv lv st S fr nm s cnt T := h.store (by simp)
theorem MS.count (h : MS B K w0 w sv lv st S fr nm left cnt T) (s : Nat) : MS B K w0 (w.setCell ⟨K, 5, none⟩ (.int .i64 (s : Nat))) sv lv st S fr nm left s T := h.store (by simp)
/-- A token more. -/
theorem MS.push (h : MS B K w0 w sv lv st S fr nm left cnt T) {w3 : World} {v' : Value} {t : Tk} (hr : w3.ownsRow B 33 3 v' (T.length + 1) (rowT T ++ rowT [t])) (hg : w.grownBy w3 lv.ownBlock) :
    MS B K w0 (w3.setCell ⟨K, 6, none⟩ v') sv v' st S fr nm left cnt (T ++ [t]) where
  low := h.low
  bs := by simpa using Nat.le_trans h.bs hg.size
  head := by
    have hh3 := (hg.block K h.lt (fun e => h.lown e.symm)).trans h.head
    have := heap_setCell_same w3 K 6 _ 41 v' hh3
    simpa using this
  srow := row_same h.srow (fun k hk => by
    rw [heap_setCell_other _ _ _ _ (fun e => h.sown (by rw [hk, e]))]
    exact hg.block k (h.srow.lt k hk).2 (fun e => row_ne h.srow h.lrow (by decide) hk e.symm))
  lrow := by
    have hh3 := (hg.block K h.lt (fun e => h.lown e.symm)).trans h.head
    have n2 := row_head hr hh3 (by decide)
    rw [List.length_append, List.length_singleton, rowT_app]
    exact row_same hr (fun k hk => heap_setCell_other _ _ _ _ (fun e => n2 (by rw [hk, e])))
  bel := (h.bel.grown hg h.bs (fun k e => (h.lrow.lt k e).1)).setCell (p := ⟨K, 6, none⟩) h.low _
/-- Another list, or object, is open. -/
theorem MS.open' (h : MS B K w0 w sv lv st S fr nm left cnt T) {w3 : World} {v' : Value} {c : Nat} (hr : w3.ownsRow B 5 1 v' (S.length + 1) (rowB S ++ [.int .u8 (c : Nat)])) (hg : w.grownBy w3 sv.ownBlock) :
    MS B K w0 (w3.setCell ⟨K, 1, none⟩ v') v' lv st (c :: S) fr nm left cnt T where
  low := h.low
  bs := by simpa using Nat.le_trans h.bs hg.size
  head := by
    have hh3 := (hg.block K h.lt (fun e => h.sown e.symm)).trans h.head
    have := heap_setCell_same w3 K 1 _ 41 v' hh3
    simpa using this
  srow := by
    have hh3 := (hg.block K h.lt (fun e => h.sown e.symm)).trans h.head
    have n2 := row_head hr hh3 (by decide)
    rw [List.length_cons, rowB_cons]
    exact row_same hr (fun k hk => heap_setCell_other _ _ _ _ (fun e => n2 (by rw [hk, e])))
  lrow := row_same h.lrow (fun k hk => by
    rw [heap_setCell_other _ _ _ _ (fun e => h.lown (by rw [hk, e]))]
    exact hg.block k (h.lrow.lt k hk).2 (fun e => row_ne h.lrow h.srow (by decide) hk e.symm))
  bel := (h.bel.grown hg h.bs (fun k e => (h.srow.lt k e).1)).setCell (p := ⟨K, 1, none⟩) h.low _
/-- The innermost one is shut. -/
theorem MS.shut {c : Nat} {a : Option Addr} {cap : Nat} (h : MS B K w0 w (.slice a (S.length + 1) cap) lv st (c :: S) fr nm left cnt T) :
    MS B K w0 (w.setCell ⟨K, 1, none⟩ (.slice a S.length cap)) (.slice a S.length cap) lv st S fr nm left cnt T where
  low := h.low
  bs := by simpa using h.bs
  head := by
    have := heap_setCell_same w K 1 _ 41 (.slice a S.length cap) h.head
    simpa using this
  srow := by
    have hs := h.srow
    rcases hs.2 with ⟨e, h0⟩ | ⟨g, cp, cur, e, hbg, hg, hnc, hcm, hcs, ht⟩
    · simp at h0
    · injection e with e1 e2 e3
      subst e1 e3
      have hK : g ≠ K := fun e => h.sown (by simp [Value.ownBlock, e])
      refine ⟨by simp [rowB_len], Or.inr ⟨g, _, cur, rfl, hbg, (heap_setCell_other _ _ _ _ (fun e => hK e)).trans hg, by simp at hnc; omega, hcm, hcs, ?_⟩⟩
      rw [rowB_cons] at ht
      have := congrArg (List.take S.length) ht
      rw [List.take_take, List.take_left' (rowB_len S)] at this
      simpa [Nat.min_eq_left] using this
  lrow := row_same h.lrow (fun k hk => heap_setCell_other _ _ _ _ (fun e => h.lown (by rw [hk, e])))
  bel := h.bel.setCell (p := ⟨K, 1, none⟩) h.low _
end
set_option maxHeartbeats 2000000 in
theorem atom_any {B K' : Nat} {w0 w : World} {M : Mc} (h : MM B K' w0 w M) (i : Nat) (hs : M.fr ≤ i) (hib : i ≤ 1000000) (hT : M.l.length ≤ 1000000) :
    Calls Try.prog 19 #[.pointer (some ⟨K', 0, none⟩), .int .i64 (i : Nat)] w fun e w' => e = .returned (.tuple #[]) ∧ MM B K' w0 w' (atom M i) := by
  obtain ⟨i0, hi, hz0, hz1, hz2⟩ := info_parts info33
  obtain ⟨sv, lv, h⟩ := h
  have H := hidden (h.grown (grown_d w))
  clear h
  obtain ⟨st, S, fr, nm, left0, cnt, T⟩ := M
  simp only at H hs hT
  generalize hleft : strOf left0 = left at H
  go_enter Try.func19, Try.ntmps19
  go_wp2_with fail
  have wr1 : IntKind.i64.wrap ((i : Int) - (fr : Int)) = (i : Int) - (fr : Int) := IntWalk.i64_in _ (by omega)
  refine wp_region_held_drew (S := (fun u => u.cell? ⟨K', 2, none⟩ = some (.int .i64 (fr : Nat)))) (by kernel_rfl) H.out.c2 (fun hHeld => ?_)
  generalize w.drew = w1 at *
  have C1 : Hid (w1.cell? ⟨K', 2, none⟩ = some (.int .i64 (fr : Nat))) := H.out.c2
  refine take_dst 0 (some 4) rfl rfl (by kernel_rfl) (by kernel_rfl) (by kernel_rfl) (fun _ _ _ h => h) (v := ?_) (Or.inl ⟨by rfl, ?_⟩) (by assumption) ?_
  rotate_left
  · (intro w hSw; (try dsimp only at hSw); go_simp; try with_reducible rfl)
  simp only [Act.put, List.setIfInBounds_toArray, List.set_cons_zero, List.set_cons_succ]
  refine take_dst 1 (some 5) rfl rfl (by kernel_rfl) (by kernel_rfl) (by kernel_rfl) (fun _ _ _ h => h) (v := ?_) (Or.inl ⟨by rfl, ?_⟩) (by assumption) ?_
  rotate_left
  · (intro w hSw; (try dsimp only at hSw); go_simp; try with_reducible rfl)
  simp only [Act.put, List.setIfInBounds_toArray, List.set_cons_zero, List.set_cons_succ]
  refine take_dst 2 (some 6) rfl rfl (by kernel_rfl) (by kernel_rfl) (by kernel_rfl) (fun _ _ _ h => h) (v := ?_) (Or.inl ⟨by rfl, ?_⟩) (by assumption) ?_
  rotate_left
  · (intro w hSw; (try dsimp only at hSw); go_simp; try with_reducible rfl)
  simp only [Act.put, List.setIfInBounds_toArray, List.set_cons_zero, List.set_cons_succ]
  refine take_dst 3 (some 7) rfl rfl (by kernel_rfl) (by kernel_rfl) (by kernel_rfl) (fun _ _ _ h => h) (v := ?_) (Or.inl ⟨by rfl, ?_⟩) (by assumption) ?_
  rotate_left
  · (intro w hSw; (try dsimp only at hSw); go_simp; try with_reducible rfl)
  simp only [Act.put, List.setIfInBounds_toArray, List.set_cons_zero, List.set_cons_succ]
  refine take_dst 5 (some 9) rfl rfl (by kernel_rfl) (by kernel_rfl) (by kernel_rfl) (fun _ _ _ h => h) (v := ?_) (Or.inl ⟨by rfl, ?_⟩) (by assumption) ?_
  rotate_left
  · (intro w hSw; (try dsimp only at hSw); go_simp; try with_reducible rfl)
  simp only [Act.put, List.setIfInBounds_toArray, List.set_cons_zero, List.set_cons_succ]
  refine take_dst 6 (some 10) rfl rfl (by kernel_rfl) (by kernel_rfl) (by kernel_rfl) (fun _ _ _ h => h) (v := ?_) (Or.inl ⟨by rfl, ?_⟩) (by assumption) ?_
  rotate_left
  · (intro w hSw; (try dsimp only at hSw); go_simp; try with_reducible rfl)
  simp only [Act.put, List.setIfInBounds_toArray, List.set_cons_zero, List.set_cons_succ]
  refine take_dst 7 (some 11) rfl rfl (by kernel_rfl) (by kernel_rfl) (by kernel_rfl) (fun _ _ _ h => h) (v := ?_) (Or.inl ⟨by rfl, ?_⟩) (by assumption) ?_
  rotate_left
  · (intro w hSw; (try dsimp only at hSw); go_simp; try with_reducible rfl)
  simp only [Act.put, List.setIfInBounds_toArray, List.set_cons_zero, List.set_cons_succ]
  refine take_dst 8 (some 12) rfl rfl (by kernel_rfl) (by kernel_rfl) (by kernel_rfl) (fun _ _ _ h => h) (v := ?_) (Or.inl ⟨by rfl, ?_⟩) (by assumption) ?_
  rotate_left
  · (intro w hSw; (try dsimp only at hSw); go_simp; try with_reducible rfl)
  simp only [Act.put, List.setIfInBounds_toArray, List.set_cons_zero, List.set_cons_succ]
  refine take_dst 9 (some 13) rfl rfl (by kernel_rfl) (by kernel_rfl) (by kernel_rfl) (fun _ _ _ h => h) (v := ?_) (Or.inl ⟨by rfl, ?_⟩) (by assumption) ?_
  rotate_left
  · (intro w hSw; (try dsimp only at hSw); go_simp; try with_reducible rfl)
  simp only [Act.put, List.setIfInBounds_toArray, List.set_cons_zero, List.set_cons_succ]
  refine take_dst 10 (some 14) rfl rfl (by kernel_rfl) (by kernel_rfl) (by kernel_rfl) (fun _ _ _ h => h) (v := ?_) (Or.inl ⟨by rfl, ?_⟩) (by assumption) ?_
  rotate_left
  · (intro w hSw; (try dsimp only at hSw); go_simp; try with_reducible rfl)
  simp only [Act.put, List.setIfInBounds_toArray, List.set_cons_zero, List.set_cons_succ]
  refine take_dst 11 (some 15) rfl rfl (by kernel_rfl) (by kernel_rfl) (by kernel_rfl) (fun _ _ _ h => h) (v := ?_) (Or.inl ⟨by rfl, ?_⟩) (by assumption) ?_
  rotate_left
  · (intro w hSw; (try dsimp only at hSw); go_simp; try with_reducible rfl)
  simp only [Act.put, List.setIfInBounds_toArray, List.set_cons_zero, List.set_cons_succ]
  refine take_dst 12 (some 16) rfl rfl (by kernel_rfl) (by kernel_rfl) (by kernel_rfl) (fun _ _ _ h => h) (v := ?_) (Or.inl ⟨by rfl, ?_⟩) (by assumption) ?_
  rotate_left
  · (intro w hSw; (try dsimp only at hSw); go_simp; try with_reducible rfl)
  simp only [Act.put, List.setIfInBounds_toArray, List.set_cons_zero, List.set_cons_succ]
  refine take_dst 13 (some 17) rfl rfl (by kernel_rfl) (by kernel_rfl) (by kernel_rfl) (fun _ _ _ h => h) (v := ?_) (Or.inl ⟨by rfl, ?_⟩) (by assumption) ?_
  rotate_left
  · (intro w hSw; (try dsimp only at hSw); go_simp; try with_reducible rfl)
  simp only [Act.put, List.setIfInBounds_toArray, List.set_cons_zero, List.set_cons_succ]
  refine take_dst 14 (some 18) rfl rfl (by kernel_rfl) (by kernel_rfl) (by kernel_rfl) (fun _ _ _ h => h) (v := ?_) (Or.inl ⟨by rfl, ?_⟩) (by assumption) ?_
  rotate_left
  · (intro w hSw; (try dsimp only at hSw); go_simp; try with_reducible rfl)
  simp only [Act.put, List.setIfInBounds_toArray, List.set_cons_zero, List.set_cons_succ]
  refine take_dst 15 (some 19) rfl rfl (by kernel_rfl) (by kernel_rfl) (by kernel_rfl) (fun _ _ _ h => h) (v := ?_) (Or.inl ⟨by rfl, ?_⟩) (by assumption) ?_
  rotate_left
  · (intro w hSw; (try dsimp only at hSw); go_simp; try with_reducible rfl)
  simp only [Act.put, List.setIfInBounds_toArray, List.set_cons_zero, List.set_cons_succ]
  have H1 := hidden (H.out.grown (grownBy_alloc w1 (.cells #[.int .u8 5, .int .i64 (fr : Nat), .int .i64 ((i : Int) - (fr : Int))] 33)))
  have c3 := H.out.c6
  refine wpAnyH_ready (rs := [4, 16]) (by kernel_rfl) (by simp) ?_
  refine AllReadyH.cons rfl (fun K hK => ?_) (AllReadyH.cons rfl (fun K hK => ?_) AllReadyH.nil)
  · go_simp
    refine hK.out _ _ C1.out (fun hHeld1 => ?_)
    clear hK K hHeld1
    refine wpAnyH_ready (rs := [16]) (by kernel_rfl) (by simp) ?_
    refine AllReadyH.cons rfl (fun K hK => ?_) AllReadyH.nil
    go_simp
    refine hK.out _ _ H1.out.c2 (fun hHeld2 => ?_)
    clear hK K hHeld2 c3
    generalize hW : w1 = W at *
    refine wpAnyH_ready (rs := [17]) (by kernel_rfl) (by simp) ?_
    refine AllReadyH.cons rfl (fun K hK => ?_) AllReadyH.nil
    refine step_append_wh rfl (.tmp 8) (.tmp 20) 24 rfl B 33 i0 (.agg #[.int .u8 0, .int .i64 0, .int .i64 0]) 3 24 Try.underlying24 hi hz0 hz1 hz2 rfl (by decide) lv T.length (rowT T) (by simp [Act.eval]) H1.out.lrow ⟨W.heap.size, 0, none⟩ 1 1 [.int .u8 5, .int .i64 (fr : Nat), .int .i64 ((i : Int) - (fr : Int))] (by simp [Act.eval]) rfl (cells3e _ _ _ _ _) (by intro u hu; simp at hu; rcases hu with rfl | rfl | rfl <;> rfl) (by unfold maxLen; omega) (by omega) H1.out.bs (by decide) ?_
    intro v' w3 hr3 hg3 _
    have HP : Hid (MS B K' w0 (w3.setCell ⟨K', 6, none⟩ v') sv v' st S fr nm left cnt (T ++ [(5, fr, i - fr)])) := H1.out.push (by rw [rowT_one, show (((i - fr : Nat) : Nat) : Int) = (i : Int) - (fr : Int) by omega]; exact hr3.out) hg3.out
    have hd3 : w3.heap[K']? = some (.cells #[.int .u8 (st : Nat), sv, .int .i64 (fr : Nat), .bool nm, .string left, .int .i64 (cnt : Nat), lv] 41 (0, 0)) := (hg3.out.block K' H1.out.lt (fun e => H1.out.lown e.symm)).trans H1.out.head
    have e1 : w3.cell? ⟨K', 2, none⟩ = some (.int .i64 (fr : Nat)) := by simp only [World.cell?, hd3]; rfl
    have e3 : w3.cell? ⟨K', 6, none⟩ = some lv := by simp only [World.cell?, hd3]; rfl
    have f3 : w3.frozen? ⟨K', 6, none⟩ = false := frozen_of_row w3 K' 6 _ 41 hd3
    obtain ⟨va, vc, rfl⟩ := row_slice hr3.out
    have E1 : Hid ((w3.setCell ⟨K', 6, none⟩ (.slice va (T.length + 1) vc)).cell? ⟨K', 2, none⟩ = some (.int .i64 (fr : Nat))) := HP.out.c2
    have E3 := hidden e1
    clear hr3 hg3 hd3
    refine hK.out _ _ E3.out (fun hHeld4 => ?_)
    clear hK K
    refine take_dst 18 (some 22) rfl rfl (by kernel_rfl) (by kernel_rfl) (by kernel_rfl) (fun _ _ _ h => h) (v := ?_) (Or.inl ⟨by rfl, ?_⟩) (by assumption) ?_
    rotate_left
    · (intro w hSw; (try dsimp only at hSw); go_simp; try with_reducible rfl)
    simp only [Act.put, List.setIfInBounds_toArray]
    refine take_dst 19 (some 23) rfl rfl (by kernel_rfl) (by kernel_rfl) (by kernel_rfl) (fun _ _ _ h => h) (v := ?_) (Or.inl ⟨by rfl, ?_⟩) (by assumption) ?_
    rotate_left
    · (intro w hSw; (try dsimp only at hSw); go_simp; try with_reducible rfl)
    simp only [Act.put]
    refine wpAnyH_ready (rs := [20]) (by kernel_rfl) (by simp) ?_
    refine AllReadyH.cons rfl (fun K hK => ?_) AllReadyH.nil
    go_simp
    refine hK.out _ _ E1.out (fun hHeld5 => ?_)
    clear hK K
    refine wpAnyH_done (by kernel_rfl) ?_ _
    clear hHeld4 hHeld5 e1 e3 f3
    generalize w3.setCell ⟨K', 6, none⟩ (.slice va (T.length + 1) vc) = w4 at *
    have c0 := HP.out.c0
    have f0 := HP.out.free 0
    have H5 := hidden (HP.out.state 5)
    have c3 := HP.out.c3
    have f3 := HP.out.free 3
    cases nm with
    | true =>
      have H6 := hidden (H5.out.state 4)
      have H7 := hidden (H6.out.name false)
      go_wp2_with fail
      go_end0
      subst hleft
      exact ⟨rfl, _, _, by simpa [atom] using H7.out⟩
    | false =>
      go_wp2_with fail
      go_end0
      subst hleft
      exact ⟨rfl, _, _, by simpa [atom] using H5.out⟩
  · go_simp
    refine hK.out _ _ H1.out.c2 (fun hHeld1 => ?_)
    clear hK K hHeld1
    have c31 := H1.out.c6
    refine wpAnyH_ready (rs := [4]) (by kernel_rfl) (by simp) ?_
    refine AllReadyH.cons rfl (fun K hK => ?_) AllReadyH.nil
    go_simp
    refine hK.out _ _ H1.out.c2 (fun hHeld2 => ?_)
    clear hK K hHeld2 c31 c3
    generalize hW : w1 = W at *
    refine wpAnyH_ready (rs := [17]) (by kernel_rfl) (by simp) ?_
    refine AllReadyH.cons rfl (fun K hK => ?_) AllReadyH.nil
    refine step_append_wh rfl (.tmp 8) (.tmp 20) 24 rfl B 33 i0 (.agg #[.int .u8 0, .int .i64 0, .int .i64 0]) 3 24 Try.underlying24 hi hz0 hz1 hz2 rfl (by decide) lv T.length (rowT T) (by simp [Act.eval]) H1.out.lrow ⟨W.heap.size, 0, none⟩ 1 1 [.int .u8 5, .int .i64 (fr : Nat), .int .i64 ((i : Int) - (fr : Int))] (by simp [Act.eval]) rfl (cells3e _ _ _ _ _) (by intro u hu; simp at hu; rcases hu with rfl | rfl | rfl <;> rfl) (by unfold maxLen; omega) (by omega) H1.out.bs (by decide) ?_
    intro v' w3 hr3 hg3 _
    have HP : Hid (MS B K' w0 (w3.setCell ⟨K', 6, none⟩ v') sv v' st S fr nm left cnt (T ++ [(5, fr, i - fr)])) := H1.out.push (by rw [rowT_one, show (((i - fr : Nat) : Nat) : Int) = (i : Int) - (fr : Int) by omega]; exact hr3.out) hg3.out
    have hd3 : w3.heap[K']? = some (.cells #[.int .u8 (st : Nat), sv, .int .i64 (fr : Nat), .bool nm, .string left, .int .i64 (cnt : Nat), lv] 41 (0, 0)) := (hg3.out.block K' H1.out.lt (fun e => H1.out.lown e.symm)).trans H1.out.head
    have e1 : w3.cell? ⟨K', 2, none⟩ = some (.int .i64 (fr : Nat)) := by simp only [World.cell?, hd3]; rfl
    have e3 : w3.cell? ⟨K', 6, none⟩ = some lv := by simp only [World.cell?, hd3]; rfl
    have f3 : w3.frozen? ⟨K', 6, none⟩ = false := frozen_of_row w3 K' 6 _ 41 hd3
    obtain ⟨va, vc, rfl⟩ := row_slice hr3.out
    have E1 : Hid ((w3.setCell ⟨K', 6, none⟩ (.slice va (T.length + 1) vc)).cell? ⟨K', 2, none⟩ = some (.int .i64 (fr : Nat))) := HP.out.c2
    have E3 := hidden e1
    clear hr3 hg3 hd3
    refine hK.out _ _ E3.out (fun hHeld4 => ?_)
    clear hK K
    refine take_dst 18 (some 22) rfl rfl (by kernel_rfl) (by kernel_rfl) (by kernel_rfl) (fun _ _ _ h => h) (v := ?_) (Or.inl ⟨by rfl, ?_⟩) (by assumption) ?_
    rotate_left
    · (intro w hSw; (try dsimp only at hSw); go_simp; try with_reducible rfl)
    simp only [Act.put, List.setIfInBounds_toArray]
    refine take_dst 19 (some 23) rfl rfl (by kernel_rfl) (by kernel_rfl) (by kernel_rfl) (fun _ _ _ h => h) (v := ?_) (Or.inl ⟨by rfl, ?_⟩) (by assumption) ?_
    rotate_left
    · (intro w hSw; (try dsimp only at hSw); go_simp; try with_reducible rfl)
    simp only [Act.put]
    refine wpAnyH_ready (rs := [20]) (by kernel_rfl) (by simp) ?_
    refine AllReadyH.cons rfl (fun K hK => ?_) AllReadyH.nil
    go_simp
    refine hK.out _ _ E1.out (fun hHeld5 => ?_)
    clear hK K
    refine wpAnyH_done (by kernel_rfl) ?_ _
    clear hHeld4 hHeld5 e1 e3 f3
    generalize w3.setCell ⟨K', 6, none⟩ (.slice va (T.length + 1) vc) = w4 at *
    have c0 := HP.out.c0
    have f0 := HP.out.free 0
    have H5 := hidden (HP.out.state 5)
    have c3 := HP.out.c3
    have f3 := HP.out.free 3
    cases nm with
    | true =>
      have H6 := hidden (H5.out.state 4)
      have H7 := hidden (H6.out.name false)
      go_wp2_with fail
      go_end0
      subst hleft
      exact ⟨rfl, _, _, by simpa [atom] using H7.out⟩
    | false =>
      go_wp2_with fail
      go_end0
      subst hleft
      exact ⟨rfl, _, _, by simpa [atom] using H5.out⟩
set_option maxHeartbeats 2000000 in
theorem one_any {B K : Nat} {w0 w : World} {M : Mc} (h : MM B K w0 w M) (k i s : Nat) (hT : M.l.length ≤ 1000000) :
    Calls Try.prog 31 #[.pointer (some ⟨K, 0, none⟩), .int .u8 (k : Nat), .int .i64 (i : Nat), .int .u8 (s : Nat)] w fun e w' => e = .returned (.tuple #[]) ∧ MM B K w0 w' (one M k i s) := by
  obtain ⟨i0, hi, hz0, hz1, hz2⟩ := info_parts info33
  obtain ⟨sv, lv, h⟩ := h
  obtain ⟨st, S, fr, nm, left0, cnt, T⟩ := M
  simp only at h hT
  have c6 := h.c6
  have H1 := hidden (h.grown (grownBy_alloc w (.cells #[.int .u8 (k : Nat), .int .i64 (i : Nat), .int .i64 1] 33)))
  have hown := H1.out.lrow
  clear h
  go_enter Try.func31, Try.ntmps31
  go_wp2_with (at_builtin; refine wpList_append_at _ rfl _ _ 24 rfl B 33 i0 (.agg #[.int .u8 0, .int .i64 0, .int .i64 0]) 3 24 Try.underlying24 hi hz0 hz1 hz2 rfl (by decide) _ _ _ rfl hown ⟨w.heap.size, 0, none⟩ 1 1 [.int .u8 (k : Nat), .int .i64 (i : Nat), .int .i64 1] rfl rfl ?c1 ?c2 ?c3 ?c4 ?c5 ?c6 ?_)
  case c1 => exact cells3e _ _ _ _ _
  case c2 => intro u hu; simp at hu; rcases hu with rfl | rfl | rfl <;> rfl
  case c3 => unfold maxLen; omega
  case c4 => omega
  case c5 => exact H1.out.bs
  case c6 => decide
  intro v' w3 hr3 hg3 _
  have HP : Hid (MS B K w0 (w3.setCell ⟨K, 6, none⟩ v') sv v' st S fr nm (strOf left0) cnt (T ++ [(k, i, 1)])) := H1.out.push (by rw [rowT_one]; exact hr3) hg3
  have hd3 := (hg3.block K H1.out.lt (fun e => H1.out.lown e.symm)).trans H1.out.head
  have e3 : w3.cell? ⟨K, 6, none⟩ = some lv := by simp only [World.cell?, hd3]; rfl
  have f3 : w3.frozen? ⟨K, 6, none⟩ = false := frozen_of_row w3 K 6 _ 41 hd3
  have c0 := HP.out.c0
  have f0 := HP.out.free 0
  obtain ⟨va, vc, rfl⟩ := row_slice hr3
  have H5 := hidden (HP.out.state s)
  clear hr3 hg3 hd3 hown
  go_wp2_with fail
  go_end0
  exact ⟨rfl, _, _, by simpa [one] using H5.out⟩
end Go.Proofs.PlatenJson
