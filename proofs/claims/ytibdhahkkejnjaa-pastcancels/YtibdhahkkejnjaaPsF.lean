/- What fits comes to. -/
import Derived.Test.YtibdhahkkejnjaaPsE
namespace Go.Proofs.PlatenPiece
open Go Go.RowKit
set_option linter.unusedVariables false
set_option maxRecDepth 100000

/-- Old stands there. -/
def fitsL (l : List Nat) (e : Ed) : Prop := 0 ≤ e.at' ∧ e.at' + (e.old.size : Int) ≤ (l.length : Int) ∧ (l.drop e.at'.toNat).take e.old.size = bts e.old

theorem str_of (l : List Nat) (hl : ∀ c ∈ l, c < 256) (s : ByteArray) : (⟨(l.map UInt8.ofNat).toArray⟩ : ByteArray) = s ↔ l = bts s := by
  constructor
  · rintro rfl
    unfold bts
    rw [List.toList_toArray, List.map_map]
    symm
    rw [List.map_eq_iff]
    intro i
    cases h : l[i]? with
    | none => simp
    | some c =>
      have := hl c (List.mem_of_getElem? h)
      simp
      omega
  · rintro rfl
    apply ByteArray.ext
    apply Array.toList_inj.1
    rw [List.toList_toArray, bts, List.map_map]
    refine (List.map_congr_left (g := id) (fun x _ => ?_)).trans (List.map_id _)
    exact UInt8.ofNat_toNat

theorem str_beq (a b : ByteArray) : (a.toList == b.toList) = true ↔ a = b := by
  rw [beq_iff_eq, ByteArray.toList_eq, ByteArray.toList_eq]
  constructor
  · intro h
    exact ByteArray.ext (Array.toList_inj.1 h)
  · rintro rfl
    rfl
theorem grown_tr {a b c : World} (h : a.grownBy b none) (k : b.grownBy c none) : a.grownBy c none :=
  ⟨k.os.trans h.os, k.tape.trans h.tape, k.output.trans h.output, Nat.le_trans h.size k.size, fun i hi _ => (k.block i (Nat.lt_of_lt_of_le hi h.size) (by simp)).trans (h.block i hi (by simp))⟩
theorem grown_drew (w : World) : w.grownBy w.drew none := ⟨rfl, rfl, rfl, Nat.le_refl _, fun _ _ _ => rfl⟩

set_option maxHeartbeats 2000000 in
theorem fits_any {B H T c : Nat} {w : World} {l : List Nat} {O : Nat → Prop} (h : Tx B w T l c O) (hl : ∀ c ∈ l, c < 256) (hc : c ≤ 4500) (x : Array Value) (hH : w.heap[H]? = some (.cells x 91 (0, 0))) (h0 : x[0]? = some (.pointer (some ⟨T, 0, none⟩))) (e : Ed) :
    Calls Try.prog 59 #[.pointer (some ⟨H, 0, none⟩), .agg #[.int .i64 e.at', .string e.old, .string e.new]] w fun q w' => (∃ r, q = .returned (.bool r) ∧ (r = true ↔ fitsL l e)) ∧ w.grownBy w' none := by
  have hHl := (Array.getElem?_eq_some_iff.1 hH).1
  have hg0 := grownBy_alloc w (.cells #[.int .i64 e.at', .string e.old, .string e.new] 57)
  have A0 : Ap H T w.heap.size e (w.alloc (.cells #[.int .i64 e.at', .string e.old, .string e.new] 57)) := ⟨⟨x, (Below.heap_alloc _ _ _ hHl).trans hH, h0⟩, heap_alloc_new _ _⟩
  have HT := hidden (h.grown hg0)
  have HG := hidden hg0
  have HA := hidden A0
  have HL := hidden hl
  have Hc := hidden hc
  have HALL0 : Hid (∀ u, Ap H T w.heap.size e u → u.cell? ⟨H, 0, none⟩ = some (.pointer (some ⟨T, 0, none⟩)) ∧ u.cell? ⟨w.heap.size, 0, none⟩ = some (.int .i64 e.at') ∧ u.cell? ⟨w.heap.size, 1, none⟩ = some (.string e.old)) := fun u hu => ⟨hu.cells.1, hu.cells.2.1, hu.cells.2.2.1⟩
  clear h hH h0 A0 hc hHl hg0 hl
  go_enter Try.func59, Try.ntmps59
  go_wp2_with fail
  generalize (w.alloc (.cells #[.int .i64 e.at', .string e.old, .string e.new] 57)) = W at *
  refine wp_region_held_drew (S := (fun u => u.cell? ⟨H, 0, none⟩ = some (.pointer (some ⟨T, 0, none⟩)) ∧ u.cell? ⟨w.heap.size, 0, none⟩ = some (.int .i64 e.at') ∧ u.cell? ⟨w.heap.size, 1, none⟩ = some (.string e.old))) (by kernel_rfl) (HALL0.out _ HA.out.drew) (fun hHeld => ?_)
  refine take_dst 0 (some 8) rfl rfl (by kernel_rfl) (by kernel_rfl) (by kernel_rfl) (fun _ _ _ h => h) (v := ?_) (Or.inl ⟨by rfl, ?_⟩) (by assumption) ?_
  rotate_left
  · (intro w hSw; (try dsimp only at hSw); go_simp; try with_reducible rfl)
  simp only [Act.put, List.setIfInBounds_toArray, List.set_cons_zero, List.set_cons_succ]
  refine take_dst 1 (some 9) rfl rfl (by kernel_rfl) (by kernel_rfl) (by kernel_rfl) (fun _ _ _ h => h) (v := ?_) (Or.inl ⟨by rfl, ?_⟩) (by assumption) ?_
  rotate_left
  · (intro w hSw; (try dsimp only at hSw); go_simp; try with_reducible rfl)
  simp only [Act.put, List.setIfInBounds_toArray, List.set_cons_zero, List.set_cons_succ]
  refine take_dst 2 (some 10) rfl rfl (by kernel_rfl) (by kernel_rfl) (by kernel_rfl) (fun _ _ _ h => h) (v := ?_) (Or.inl ⟨by rfl, ?_⟩) (by assumption) ?_
  rotate_left
  · (intro w hSw; (try dsimp only at hSw); go_simp; try with_reducible rfl)
  simp only [Act.put, List.setIfInBounds_toArray, List.set_cons_zero, List.set_cons_succ]
  refine take_dst 3 (some 11) rfl rfl (by kernel_rfl) (by kernel_rfl) (by kernel_rfl) (fun _ _ _ h => h) (v := ?_) (Or.inl ⟨by rfl, ?_⟩) (by assumption) ?_
  rotate_left
  · (intro w hSw; (try dsimp only at hSw); go_simp; try with_reducible rfl)
  simp only [Act.put, List.setIfInBounds_toArray, List.set_cons_zero, List.set_cons_succ]
  refine take_dst 4 (some 12) rfl rfl (by kernel_rfl) (by kernel_rfl) (by kernel_rfl) (fun _ _ _ h => h) (v := ?_) (Or.inl ⟨by rfl, ?_⟩) (by assumption) ?_
  rotate_left
  · (intro w hSw; (try dsimp only at hSw); go_simp; try with_reducible rfl)
  simp only [Act.put, List.setIfInBounds_toArray, List.set_cons_zero, List.set_cons_succ]
  refine take_dst 5 (some 13) rfl rfl (by kernel_rfl) (by kernel_rfl) (by kernel_rfl) (fun _ _ _ h => h) (v := ?_) (Or.inl ⟨by rfl, ?_⟩) (by assumption) ?_
  rotate_left
  · (intro w hSw; (try dsimp only at hSw); go_simp; try with_reducible rfl)
  simp only [Act.put, List.setIfInBounds_toArray, List.set_cons_zero, List.set_cons_succ]
  refine take_dst 6 (some 14) rfl rfl (by kernel_rfl) (by kernel_rfl) (by kernel_rfl) (fun _ _ _ h => h) (v := ?_) (Or.inl ⟨by rfl, ?_⟩) (by assumption) ?_
  rotate_left
  · (intro w hSw; (try dsimp only at hSw); go_simp; try with_reducible rfl)
  simp only [Act.put, List.setIfInBounds_toArray, List.set_cons_zero, List.set_cons_succ]
  refine take_dst 7 (some 15) rfl rfl (by kernel_rfl) (by kernel_rfl) (by kernel_rfl) (fun _ _ _ h => h) (v := ?_) (Or.inl ⟨by rfl, ?_⟩) (by assumption) ?_
  rotate_left
  · (intro w hSw; (try dsimp only at hSw); go_simp; try with_reducible rfl)
  simp only [Act.put, List.setIfInBounds_toArray, List.set_cons_zero, List.set_cons_succ]
  refine take_dst 8 (some 16) rfl rfl (by kernel_rfl) (by kernel_rfl) (by kernel_rfl) (fun _ _ _ h => h) (v := ?_) (Or.inl ⟨by rfl, ?_⟩) (by assumption) ?_
  rotate_left
  · (intro w hSw; (try dsimp only at hSw); go_simp; try with_reducible rfl)
  simp only [Act.put, List.setIfInBounds_toArray, List.set_cons_zero, List.set_cons_succ]
  refine wpAnyH_ready (rs := [9]) (by kernel_rfl) (by simp) ?_
  refine AllReadyH.cons rfl (fun K hK => ?_) AllReadyH.nil
  go_simp
  by_cases hy : 0 ≤ e.at' ∧ e.at' + (e.old.size : Int) ≤ (l.length : Int)
  · obtain ⟨m, hm⟩ : ∃ m : Nat, e.at' = m := ⟨e.at'.toNat, by omega⟩
    have Hm := hidden hm
    rw [hm]
    refine (tx_slice HT.out.drew Hc.out m e.old.size (by omega)).mono ?_
    rintro q w1 ⟨rfl, hh1, hg1⟩
    refine hK.out _ _ (HALL0.out _ (HA.out.drew.kept HT.out.drew (kept_none (O := O) hg1))) (fun hHeld2 => ?_)
    clear hK K
    refine take_dst 10 (some 7) rfl rfl (by kernel_rfl) (by kernel_rfl) (by kernel_rfl) (fun _ _ _ h => h) (v := ?_) (Or.inl ⟨by rfl, ?_⟩) (by assumption) ?_
    rotate_left
    · (intro w hSw; (try dsimp only at hSw); go_simp; try with_reducible rfl)
    simp only [Act.put, List.setIfInBounds_toArray, List.set_cons_zero, List.set_cons_succ]
    refine take_dst 11 (some 18) rfl rfl (by kernel_rfl) (by kernel_rfl) (by kernel_rfl) (fun _ _ _ h => h) (v := ?_) (Or.inl ⟨by rfl, ?_⟩) (by assumption) ?_
    rotate_left
    · (intro w hSw; (try dsimp only at hSw); go_simp; try with_reducible rfl)
    simp only [Act.put, List.setIfInBounds_toArray, List.set_cons_zero, List.set_cons_succ]
    refine take_dst 12 (some 19) rfl rfl (by kernel_rfl) (by kernel_rfl) (by kernel_rfl) (fun _ _ _ h => h) (v := ?_) (Or.inl ⟨by rfl, ?_⟩) (by assumption) ?_
    rotate_left
    · (intro w hSw; (try dsimp only at hSw); go_simp; try with_reducible rfl)
    simp only [Act.put, List.setIfInBounds_toArray, List.set_cons_zero, List.set_cons_succ]
    refine take_dst 13 (some 5) rfl rfl (by kernel_rfl) (by kernel_rfl) (by kernel_rfl) (fun _ _ _ h => h) (v := ?_) (Or.inl ⟨by rfl, ?_⟩) (by assumption) ?_
    rotate_left
    · (intro w hSw; (try dsimp only at hSw); go_simp; try with_reducible rfl)
    simp only [Act.put, List.setIfInBounds_toArray, List.set_cons_zero, List.set_cons_succ]
    refine take_dst 14 (some 6) rfl rfl (by kernel_rfl) (by kernel_rfl) (by kernel_rfl) (fun _ _ _ h => h) (v := ?_) (Or.inl ⟨by rfl, ?_⟩) (by assumption) ?_
    rotate_left
    · (intro w hSw; (try dsimp only at hSw); go_simp; try with_reducible rfl)
    simp only [Act.put, List.setIfInBounds_toArray, List.set_cons_zero, List.set_cons_succ]
    refine wpAnyH_done (by kernel_rfl) ?_ _
    have hb : Hid (∀ c ∈ (l.drop m).take e.old.size, c < 256) := fun c hc => HL.out c (List.mem_of_mem_drop (List.mem_of_mem_take hc))
    have hlen : ((l.drop m).take e.old.size).length = e.old.size := by rw [List.length_take, List.length_drop]; omega
    have hcv := conv_back W.heap.size e.old.size _ hb.out w1 hh1
    rw [hlen] at hcv
    obtain ⟨q1, q2, q3⟩ := hHeld2
    have HR : Hid ((⟨(((l.drop m).take e.old.size).map UInt8.ofNat).toArray⟩ : ByteArray) = e.old ↔ fitsL l e) := by
      unfold Hid
      rw [str_of _ hb.out]
      unfold fitsL
      rw [Hm.out]
      constructor
      · intro h
        refine ⟨by omega, by have := hy.2; omega, ?_⟩
        simpa using h
      · intro h
        simpa using h.2.2
    generalize (⟨(((l.drop m).take e.old.size).map UInt8.ofNat).toArray⟩ : ByteArray) = sx at *
    have HG1 : Hid (w.grownBy w1 none) := grown_tr HG.out (grown_tr (grown_drew W) hg1)
    clear hh1 hlen hm hy hHeld hg1
    go_wp2_with fail
    go_ret
    exact ⟨⟨_, rfl, (str_beq _ _).trans HR.out⟩, HG1.out⟩
  · refine (tx_slice_no HT.out.drew e.at' e.old.size (by omega)).mono ?_
    rintro q w1 ⟨rfl, rfl⟩
    refine hK.out _ _ (HALL0.out _ HA.out.drew) (fun hHeld2 => ?_)
    clear hK K
    refine take_dst 10 (some 7) rfl rfl (by kernel_rfl) (by kernel_rfl) (by kernel_rfl) (fun _ _ _ h => h) (v := ?_) (Or.inl ⟨by rfl, ?_⟩) (by assumption) ?_
    rotate_left
    · (intro w hSw; (try dsimp only at hSw); go_simp; try with_reducible rfl)
    simp only [Act.put, List.setIfInBounds_toArray, List.set_cons_zero, List.set_cons_succ]
    refine take_dst 11 (some 18) rfl rfl (by kernel_rfl) (by kernel_rfl) (by kernel_rfl) (fun _ _ _ h => h) (v := ?_) (Or.inl ⟨by rfl, ?_⟩) (by assumption) ?_
    rotate_left
    · (intro w hSw; (try dsimp only at hSw); go_simp; try with_reducible rfl)
    simp only [Act.put, List.setIfInBounds_toArray, List.set_cons_zero, List.set_cons_succ]
    refine take_dst 12 (some 19) rfl rfl (by kernel_rfl) (by kernel_rfl) (by kernel_rfl) (fun _ _ _ h => h) (v := ?_) (Or.inl ⟨by rfl, ?_⟩) (by assumption) ?_
    rotate_left
    · (intro w hSw; (try dsimp only at hSw); go_simp; try with_reducible rfl)
    simp only [Act.put, List.setIfInBounds_toArray, List.set_cons_zero, List.set_cons_succ]
    refine take_dst 13 (some 5) rfl rfl (by kernel_rfl) (by kernel_rfl) (by kernel_rfl) (fun _ _ _ h => h) (v := ?_) (Or.inl ⟨by rfl, ?_⟩) (by assumption) ?_
    rotate_left
    · (intro w hSw; (try dsimp only at hSw); go_simp; try with_reducible rfl)
    simp only [Act.put, List.setIfInBounds_toArray, List.set_cons_zero, List.set_cons_succ]
    refine take_dst 14 (some 6) rfl rfl (by kernel_rfl) (by kernel_rfl) (by kernel_rfl) (fun _ _ _ h => h) (v := ?_) (Or.inl ⟨by rfl, ?_⟩) (by assumption) ?_
    rotate_left
    · (intro w hSw; (try dsimp only at hSw); go_simp; try with_reducible rfl)
    simp only [Act.put, List.setIfInBounds_toArray, List.set_cons_zero, List.set_cons_succ]
    refine wpAnyH_done (by kernel_rfl) ?_ _
    have HG1 : Hid (w.grownBy W.drew none) := grown_tr HG.out (grown_drew W)
    have HR : Hid (¬ fitsL l e) := fun h => hy ⟨h.1, h.2.1⟩
    clear hHeld hHeld2 hy
    go_wp2_with fail
    go_ret
    exact ⟨⟨_, rfl, by simpa using HR.out⟩, HG1.out⟩
end Go.Proofs.PlatenPiece
