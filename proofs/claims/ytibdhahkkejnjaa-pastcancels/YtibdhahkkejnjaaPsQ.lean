/- What Do comes to where the edit is refused, or changes nothing. -/
import Derived.Test.YtibdhahkkejnjaaPsP
namespace Go.Proofs.PlatenPiece
open Go Go.RowKit
set_option linter.unusedVariables false
set_option maxRecDepth 100000

section
variable {B : Nat} {w w3 : World} {H T : Nat} {l : List Nat} {c : Nat} {O : Nat → Prop} {ov dv uv : Value} {op : List Ed} {dn ud : List (Value × List Ed)}
set_option maxHeartbeats 4000000 in
theorem do_same (h : HP B w H T l c O ov dv uv op dn ud) (hl : ∀ c ∈ l, c < 256) (hc : c + 1 ≤ 4500) (e : Ed) (hf : fitsL l e) (hm : l.length + e.new.size ≤ 65536 + e.old.size) (hne : e.old = e.new) :
    Calls Try.prog 37 #[.pointer (some ⟨H, 0, none⟩), .agg #[.int .i64 e.at', .string e.old, .string e.new]] w fun q w' => q = .returned (.int .i64 0) ∧ w.grownBy w' none := by
  have hg0 := grownBy_alloc w (.cells #[.int .i64 e.at', .string e.old, .string e.new] 57)
  have HH := hidden (h.grown hg0)
  have HG := hidden hg0
  have hbx : (w.alloc (.cells #[.int .i64 e.at', .string e.old, .string e.new] 57)).heap[w.heap.size]? = some (.cells #[.int .i64 e.at', .string e.old, .string e.new] 57 (0, 0)) := heap_alloc_new _ _
  have HB := hidden hbx
  have HO0 := hidden (h.own)
  have Hl := hidden hl
  have Hc := hidden hc
  have Hf := hidden hf
  have Hne := hidden hne
  have Hm := hidden hm
  obtain ⟨b0, b1, b2⟩ : (w.alloc (.cells #[.int .i64 e.at', .string e.old, .string e.new] 57)).cell? ⟨w.heap.size, 0, none⟩ = some (.int .i64 e.at') ∧ (w.alloc (.cells #[.int .i64 e.at', .string e.old, .string e.new] 57)).cell? ⟨w.heap.size, 1, none⟩ = some (.string e.old) ∧ (w.alloc (.cells #[.int .i64 e.at', .string e.old, .string e.new] 57)).cell? ⟨w.heap.size, 2, none⟩ = some (.string e.new) := ⟨by simp only [World.cell?, hbx]; rfl, by simp only [World.cell?, hbx]; rfl, by simp only [World.cell?, hbx]; rfl⟩
  clear h hl hc hf hm hne hg0 hbx
  go_enter Try.func37, Try.ntmps37
  go_wp2_with fail
  generalize (w.alloc (.cells #[.int .i64 e.at', .string e.old, .string e.new] 57)) = W at *
  refine (fits_any HH.out.tx Hl.out (by have := Hc.out; omega) _ HH.out.head rfl e).mono ?_
  rintro q w1 ⟨⟨r, rfl, hr⟩, hg1⟩
  obtain rfl : r = true := hr.2 Hf.out
  have HH1 := hidden (HH.out.grown hg1)
  have HG1 := hidden (grown_tr HG.out hg1)
  have HB1 : Hid (w1.heap[w.heap.size]? = some (.cells #[.int .i64 e.at', .string e.old, .string e.new] 57 (0, 0))) := (hg1.block w.heap.size (Array.getElem?_eq_some_iff.1 HB.out).1 (by simp)).trans HB.out
  clear b0 b1 b2 hr hg1 HH HB HG
  go_wp2_with fail
  have HALL0 : Hid (∀ u, Ap H T w.heap.size e u → u.cell? ⟨H, 0, none⟩ = some (.pointer (some ⟨T, 0, none⟩)) ∧ u.cell? ⟨w.heap.size, 1, none⟩ = some (.string e.old) ∧ u.cell? ⟨w.heap.size, 2, none⟩ = some (.string e.new)) := fun u hu => ⟨hu.cells.1, hu.cells.2.2.1, hu.cells.2.2.2⟩
  have HA1 := hidden ((HH1.out.ap HB1.out).drew)
  have hle : e.old.size ≤ l.length := by have := Hf.out; unfold fitsL at this; omega
  have hlim := HH1.out.tx.lim
  have hnw := e.hn
  have how := e.ho
  obtain ⟨n, hn⟩ : ∃ n, l.length = n := ⟨_, rfl⟩
  obtain ⟨o, ho⟩ : ∃ o, e.old.size = o := ⟨_, rfl⟩
  obtain ⟨m, hm⟩ : ∃ m, e.new.size = m := ⟨_, rfl⟩
  have hm2 := Hm.out
  rw [hn] at hlim hle hm2
  rw [ho] at hle hm2 how
  rw [hm] at hm2 hnw
  have w1' : IntKind.i64.wrap ((n : Int) - (o : Int)) = (n : Int) - (o : Int) := IntWalk.i64_in _ (by omega)
  have w2' : IntKind.i64.wrap ((n : Int) - (o : Int) + (m : Int)) = (n : Int) - (o : Int) + (m : Int) := IntWalk.i64_in _ (by omega)
  have w3' : ¬ ((65536 : Int) < (n : Int) - (o : Int) + (m : Int)) := by omega
  refine wp_region_held_drew (S := (fun u => u.cell? ⟨H, 0, none⟩ = some (.pointer (some ⟨T, 0, none⟩)) ∧ u.cell? ⟨w.heap.size, 1, none⟩ = some (.string e.old) ∧ u.cell? ⟨w.heap.size, 2, none⟩ = some (.string e.new))) (by kernel_rfl) (HALL0.out _ HA1.out) (fun hHeld => ?_)
  refine take_dst 0 (some 13) rfl rfl (by kernel_rfl) (by kernel_rfl) (by kernel_rfl) (fun _ _ _ h => h) (v := ?_) (Or.inl ⟨by rfl, ?_⟩) (by assumption) ?_
  rotate_left
  · (intro w hSw; (try dsimp only at hSw); go_simp; try with_reducible rfl)
  simp only [Act.put, List.setIfInBounds_toArray, List.set_cons_zero, List.set_cons_succ]
  refine take_dst 1 (some 14) rfl rfl (by kernel_rfl) (by kernel_rfl) (by kernel_rfl) (fun _ _ _ h => h) (v := ?_) (Or.inl ⟨by rfl, ?_⟩) (by assumption) ?_
  rotate_left
  · (intro w hSw; (try dsimp only at hSw); go_simp; try with_reducible rfl)
  simp only [Act.put, List.setIfInBounds_toArray, List.set_cons_zero, List.set_cons_succ]
  refine take_dst 2 (some 15) rfl rfl (by kernel_rfl) (by kernel_rfl) (by kernel_rfl) (fun _ _ _ h => h) (v := ?_) (Or.inl ⟨by rfl, ?_⟩) (by assumption) ?_
  rotate_left
  · (intro w hSw; (try dsimp only at hSw); go_simp; try with_reducible rfl)
  simp only [Act.put, List.setIfInBounds_toArray, List.set_cons_zero, List.set_cons_succ]
  refine take_dst 3 (some 16) rfl rfl (by kernel_rfl) (by kernel_rfl) (by kernel_rfl) (fun _ _ _ h => h) (v := ?_) (Or.inl ⟨by rfl, ?_⟩) (by assumption) ?_
  rotate_left
  · (intro w hSw; (try dsimp only at hSw); go_simp; try with_reducible rfl)
  simp only [Act.put, List.setIfInBounds_toArray, List.set_cons_zero, List.set_cons_succ]
  refine take_dst 5 (some 18) rfl rfl (by kernel_rfl) (by kernel_rfl) (by kernel_rfl) (fun _ _ _ h => h) (v := ?_) (Or.inl ⟨by rfl, ?_⟩) (by assumption) ?_
  rotate_left
  · (intro w hSw; (try dsimp only at hSw); go_simp; try with_reducible rfl)
  simp only [Act.put, List.setIfInBounds_toArray, List.set_cons_zero, List.set_cons_succ]
  refine take_dst 6 (some 19) rfl rfl (by kernel_rfl) (by kernel_rfl) (by kernel_rfl) (fun _ _ _ h => h) (v := ?_) (Or.inl ⟨by rfl, ?_⟩) (by assumption) ?_
  rotate_left
  · (intro w hSw; (try dsimp only at hSw); go_simp; try with_reducible rfl)
  simp only [Act.put, List.setIfInBounds_toArray, List.set_cons_zero, List.set_cons_succ]
  refine take_dst 7 (some 20) rfl rfl (by kernel_rfl) (by kernel_rfl) (by kernel_rfl) (fun _ _ _ h => h) (v := ?_) (Or.inl ⟨by rfl, ?_⟩) (by assumption) ?_
  rotate_left
  · (intro w hSw; (try dsimp only at hSw); go_simp; try with_reducible rfl)
  simp only [Act.put, List.setIfInBounds_toArray, List.set_cons_zero, List.set_cons_succ]
  refine take_dst 9 (some 22) rfl rfl (by kernel_rfl) (by kernel_rfl) (by kernel_rfl) (fun _ _ _ h => h) (v := ?_) (Or.inl ⟨by rfl, ?_⟩) (by assumption) ?_
  rotate_left
  · (intro w hSw; (try dsimp only at hSw); go_simp; try with_reducible rfl)
  simp only [Act.put, List.setIfInBounds_toArray, List.set_cons_zero, List.set_cons_succ]
  refine take_dst 10 (some 23) rfl rfl (by kernel_rfl) (by kernel_rfl) (by kernel_rfl) (fun _ _ _ h => h) (v := ?_) (Or.inl ⟨by rfl, ?_⟩) (by assumption) ?_
  rotate_left
  · (intro w hSw; (try dsimp only at hSw); go_simp; try with_reducible rfl)
  simp only [Act.put, List.setIfInBounds_toArray, List.set_cons_zero, List.set_cons_succ]
  refine take_dst 11 (some 24) rfl rfl (by kernel_rfl) (by kernel_rfl) (by kernel_rfl) (fun _ _ _ h => h) (v := ?_) (Or.inl ⟨by rfl, ?_⟩) (by assumption) ?_
  rotate_left
  · (intro w hSw; (try dsimp only at hSw); go_simp; try with_reducible rfl)
  simp only [Act.put, List.setIfInBounds_toArray, List.set_cons_zero, List.set_cons_succ]
  refine wpAnyH_ready (rs := [4]) (by kernel_rfl) (by simp) ?_
  refine AllReadyH.cons rfl (fun K hK => ?_) AllReadyH.nil
  go_simp
  refine (tx_len HH1.out.tx.drew).mono ?_
  rintro q w2 ⟨rfl, rfl⟩
  refine hK.out _ _ (HALL0.out _ HA1.out) (fun hHeld2 => ?_)
  clear hK K
  refine take_dst 8 (some 21) rfl rfl (by kernel_rfl) (by kernel_rfl) (by kernel_rfl) (fun _ _ _ h => h) (v := ?_) (Or.inl ⟨by rfl, ?_⟩) (by assumption) ?_
  rotate_left
  · (intro w hSw; (try dsimp only at hSw); go_simp; try with_reducible rfl)
  simp only [Act.put, List.setIfInBounds_toArray, List.set_cons_zero, List.set_cons_succ]
  refine take_dst 12 (some 25) rfl rfl (by kernel_rfl) (by kernel_rfl) (by kernel_rfl) (fun _ _ _ h => h) (v := ?_) (Or.inl ⟨by rfl, ?_⟩) (by assumption) ?_
  rotate_left
  · (intro w hSw; (try dsimp only at hSw); go_simp; try with_reducible rfl)
  simp only [Act.put, List.setIfInBounds_toArray, List.set_cons_zero, List.set_cons_succ]
  refine take_dst 13 (some 26) rfl rfl (by kernel_rfl) (by kernel_rfl) (by kernel_rfl) (fun _ _ _ h => h) (v := ?_) (Or.inl ⟨by rfl, ?_⟩) (by assumption) ?_
  rotate_left
  · (intro w hSw; (try dsimp only at hSw); go_simp; try with_reducible rfl)
  simp only [Act.put, List.setIfInBounds_toArray, List.set_cons_zero, List.set_cons_succ]
  refine wpAnyH_done (by kernel_rfl) ?_ _
  clear hn ho hm w1' w2' hlim hle hm2 how hnw
  have HH2 := hidden (HH1.out.grown (grown_drew w1))
  have HB2 : Hid (w1.drew.heap[w.heap.size]? = some (.cells #[.int .i64 e.at', .string e.old, .string e.new] 57 (0, 0))) := HB1.out
  have HG2 := hidden (grown_tr HG1.out (grown_drew w1))
  clear HH1 HB1 HG1 HA1 hHeld hHeld2
  generalize w1.drew = W2 at *
  obtain ⟨b0, b1, b2⟩ : W2.cell? ⟨w.heap.size, 0, none⟩ = some (.int .i64 e.at') ∧ W2.cell? ⟨w.heap.size, 1, none⟩ = some (.string e.old) ∧ W2.cell? ⟨w.heap.size, 2, none⟩ = some (.string e.new) := ⟨by simp only [World.cell?, HB2.out]; rfl, by simp only [World.cell?, HB2.out]; rfl, by simp only [World.cell?, HB2.out]; rfl⟩
  have hs : (e.old.toList == e.new.toList) = true := (str_beq _ _).2 Hne.out
  have HG := hidden HG2.out
  clear HH2 HB2 HG2 Hne
  go_wp2_with fail
  go_ret
  exact ⟨rfl, HG.out⟩
set_option maxHeartbeats 4000000 in
theorem do_long (h : HP B w H T l c O ov dv uv op dn ud) (hl : ∀ c ∈ l, c < 256) (hc : c + 1 ≤ 4500) (e : Ed) (hf : fitsL l e) (hm : 65536 + e.old.size < l.length + e.new.size) :
    Calls Try.prog 37 #[.pointer (some ⟨H, 0, none⟩), .agg #[.int .i64 e.at', .string e.old, .string e.new]] w fun q w' => q = .returned (.int .i64 4) ∧ w.grownBy w' none := by
  have hg0 := grownBy_alloc w (.cells #[.int .i64 e.at', .string e.old, .string e.new] 57)
  have HH := hidden (h.grown hg0)
  have HG := hidden hg0
  have hbx : (w.alloc (.cells #[.int .i64 e.at', .string e.old, .string e.new] 57)).heap[w.heap.size]? = some (.cells #[.int .i64 e.at', .string e.old, .string e.new] 57 (0, 0)) := heap_alloc_new _ _
  have HB := hidden hbx
  have HO0 := hidden (h.own)
  have Hl := hidden hl
  have Hc := hidden hc
  have Hf := hidden hf
  have Hm := hidden hm
  obtain ⟨b0, b1, b2⟩ : (w.alloc (.cells #[.int .i64 e.at', .string e.old, .string e.new] 57)).cell? ⟨w.heap.size, 0, none⟩ = some (.int .i64 e.at') ∧ (w.alloc (.cells #[.int .i64 e.at', .string e.old, .string e.new] 57)).cell? ⟨w.heap.size, 1, none⟩ = some (.string e.old) ∧ (w.alloc (.cells #[.int .i64 e.at', .string e.old, .string e.new] 57)).cell? ⟨w.heap.size, 2, none⟩ = some (.string e.new) := ⟨by simp only [World.cell?, hbx]; rfl, by simp only [World.cell?, hbx]; rfl, by simp only [World.cell?, hbx]; rfl⟩
  clear h hl hc hf hm hg0 hbx
  go_enter Try.func37, Try.ntmps37
  go_wp2_with fail
  generalize (w.alloc (.cells #[.int .i64 e.at', .string e.old, .string e.new] 57)) = W at *
  refine (fits_any HH.out.tx Hl.out (by have := Hc.out; omega) _ HH.out.head rfl e).mono ?_
  rintro q w1 ⟨⟨r, rfl, hr⟩, hg1⟩
  obtain rfl : r = true := hr.2 Hf.out
  have HH1 := hidden (HH.out.grown hg1)
  have HG1 := hidden (grown_tr HG.out hg1)
  have HB1 : Hid (w1.heap[w.heap.size]? = some (.cells #[.int .i64 e.at', .string e.old, .string e.new] 57 (0, 0))) := (hg1.block w.heap.size (Array.getElem?_eq_some_iff.1 HB.out).1 (by simp)).trans HB.out
  clear b0 b1 b2 hr hg1 HH HB HG
  go_wp2_with fail
  have HALL0 : Hid (∀ u, Ap H T w.heap.size e u → u.cell? ⟨H, 0, none⟩ = some (.pointer (some ⟨T, 0, none⟩)) ∧ u.cell? ⟨w.heap.size, 1, none⟩ = some (.string e.old) ∧ u.cell? ⟨w.heap.size, 2, none⟩ = some (.string e.new)) := fun u hu => ⟨hu.cells.1, hu.cells.2.2.1, hu.cells.2.2.2⟩
  have HA1 := hidden ((HH1.out.ap HB1.out).drew)
  have hle : e.old.size ≤ l.length := by have := Hf.out; unfold fitsL at this; omega
  have hlim := HH1.out.tx.lim
  have hnw := e.hn
  have how := e.ho
  obtain ⟨n, hn⟩ : ∃ n, l.length = n := ⟨_, rfl⟩
  obtain ⟨o, ho⟩ : ∃ o, e.old.size = o := ⟨_, rfl⟩
  obtain ⟨m, hm⟩ : ∃ m, e.new.size = m := ⟨_, rfl⟩
  have hm2 := Hm.out
  rw [hn] at hlim hle hm2
  rw [ho] at hle hm2 how
  rw [hm] at hm2 hnw
  have w1' : IntKind.i64.wrap ((n : Int) - (o : Int)) = (n : Int) - (o : Int) := IntWalk.i64_in _ (by omega)
  have w2' : IntKind.i64.wrap ((n : Int) - (o : Int) + (m : Int)) = (n : Int) - (o : Int) + (m : Int) := IntWalk.i64_in _ (by omega)
  have w3' : (65536 : Int) < (n : Int) - (o : Int) + (m : Int) := by omega
  refine wp_region_held_drew (S := (fun u => u.cell? ⟨H, 0, none⟩ = some (.pointer (some ⟨T, 0, none⟩)) ∧ u.cell? ⟨w.heap.size, 1, none⟩ = some (.string e.old) ∧ u.cell? ⟨w.heap.size, 2, none⟩ = some (.string e.new))) (by kernel_rfl) (HALL0.out _ HA1.out) (fun hHeld => ?_)
  refine take_dst 0 (some 13) rfl rfl (by kernel_rfl) (by kernel_rfl) (by kernel_rfl) (fun _ _ _ h => h) (v := ?_) (Or.inl ⟨by rfl, ?_⟩) (by assumption) ?_
  rotate_left
  · (intro w hSw; (try dsimp only at hSw); go_simp; try with_reducible rfl)
  simp only [Act.put, List.setIfInBounds_toArray, List.set_cons_zero, List.set_cons_succ]
  refine take_dst 1 (some 14) rfl rfl (by kernel_rfl) (by kernel_rfl) (by kernel_rfl) (fun _ _ _ h => h) (v := ?_) (Or.inl ⟨by rfl, ?_⟩) (by assumption) ?_
  rotate_left
  · (intro w hSw; (try dsimp only at hSw); go_simp; try with_reducible rfl)
  simp only [Act.put, List.setIfInBounds_toArray, List.set_cons_zero, List.set_cons_succ]
  refine take_dst 2 (some 15) rfl rfl (by kernel_rfl) (by kernel_rfl) (by kernel_rfl) (fun _ _ _ h => h) (v := ?_) (Or.inl ⟨by rfl, ?_⟩) (by assumption) ?_
  rotate_left
  · (intro w hSw; (try dsimp only at hSw); go_simp; try with_reducible rfl)
  simp only [Act.put, List.setIfInBounds_toArray, List.set_cons_zero, List.set_cons_succ]
  refine take_dst 3 (some 16) rfl rfl (by kernel_rfl) (by kernel_rfl) (by kernel_rfl) (fun _ _ _ h => h) (v := ?_) (Or.inl ⟨by rfl, ?_⟩) (by assumption) ?_
  rotate_left
  · (intro w hSw; (try dsimp only at hSw); go_simp; try with_reducible rfl)
  simp only [Act.put, List.setIfInBounds_toArray, List.set_cons_zero, List.set_cons_succ]
  refine take_dst 5 (some 18) rfl rfl (by kernel_rfl) (by kernel_rfl) (by kernel_rfl) (fun _ _ _ h => h) (v := ?_) (Or.inl ⟨by rfl, ?_⟩) (by assumption) ?_
  rotate_left
  · (intro w hSw; (try dsimp only at hSw); go_simp; try with_reducible rfl)
  simp only [Act.put, List.setIfInBounds_toArray, List.set_cons_zero, List.set_cons_succ]
  refine take_dst 6 (some 19) rfl rfl (by kernel_rfl) (by kernel_rfl) (by kernel_rfl) (fun _ _ _ h => h) (v := ?_) (Or.inl ⟨by rfl, ?_⟩) (by assumption) ?_
  rotate_left
  · (intro w hSw; (try dsimp only at hSw); go_simp; try with_reducible rfl)
  simp only [Act.put, List.setIfInBounds_toArray, List.set_cons_zero, List.set_cons_succ]
  refine take_dst 7 (some 20) rfl rfl (by kernel_rfl) (by kernel_rfl) (by kernel_rfl) (fun _ _ _ h => h) (v := ?_) (Or.inl ⟨by rfl, ?_⟩) (by assumption) ?_
  rotate_left
  · (intro w hSw; (try dsimp only at hSw); go_simp; try with_reducible rfl)
  simp only [Act.put, List.setIfInBounds_toArray, List.set_cons_zero, List.set_cons_succ]
  refine take_dst 9 (some 22) rfl rfl (by kernel_rfl) (by kernel_rfl) (by kernel_rfl) (fun _ _ _ h => h) (v := ?_) (Or.inl ⟨by rfl, ?_⟩) (by assumption) ?_
  rotate_left
  · (intro w hSw; (try dsimp only at hSw); go_simp; try with_reducible rfl)
  simp only [Act.put, List.setIfInBounds_toArray, List.set_cons_zero, List.set_cons_succ]
  refine take_dst 10 (some 23) rfl rfl (by kernel_rfl) (by kernel_rfl) (by kernel_rfl) (fun _ _ _ h => h) (v := ?_) (Or.inl ⟨by rfl, ?_⟩) (by assumption) ?_
  rotate_left
  · (intro w hSw; (try dsimp only at hSw); go_simp; try with_reducible rfl)
  simp only [Act.put, List.setIfInBounds_toArray, List.set_cons_zero, List.set_cons_succ]
  refine take_dst 11 (some 24) rfl rfl (by kernel_rfl) (by kernel_rfl) (by kernel_rfl) (fun _ _ _ h => h) (v := ?_) (Or.inl ⟨by rfl, ?_⟩) (by assumption) ?_
  rotate_left
  · (intro w hSw; (try dsimp only at hSw); go_simp; try with_reducible rfl)
  simp only [Act.put, List.setIfInBounds_toArray, List.set_cons_zero, List.set_cons_succ]
  refine wpAnyH_ready (rs := [4]) (by kernel_rfl) (by simp) ?_
  refine AllReadyH.cons rfl (fun K hK => ?_) AllReadyH.nil
  go_simp
  refine (tx_len HH1.out.tx.drew).mono ?_
  rintro q w2 ⟨rfl, rfl⟩
  refine hK.out _ _ (HALL0.out _ HA1.out) (fun hHeld2 => ?_)
  clear hK K
  refine take_dst 8 (some 21) rfl rfl (by kernel_rfl) (by kernel_rfl) (by kernel_rfl) (fun _ _ _ h => h) (v := ?_) (Or.inl ⟨by rfl, ?_⟩) (by assumption) ?_
  rotate_left
  · (intro w hSw; (try dsimp only at hSw); go_simp; try with_reducible rfl)
  simp only [Act.put, List.setIfInBounds_toArray, List.set_cons_zero, List.set_cons_succ]
  refine take_dst 12 (some 25) rfl rfl (by kernel_rfl) (by kernel_rfl) (by kernel_rfl) (fun _ _ _ h => h) (v := ?_) (Or.inl ⟨by rfl, ?_⟩) (by assumption) ?_
  rotate_left
  · (intro w hSw; (try dsimp only at hSw); go_simp; try with_reducible rfl)
  simp only [Act.put, List.setIfInBounds_toArray, List.set_cons_zero, List.set_cons_succ]
  refine take_dst 13 (some 26) rfl rfl (by kernel_rfl) (by kernel_rfl) (by kernel_rfl) (fun _ _ _ h => h) (v := ?_) (Or.inl ⟨by rfl, ?_⟩) (by assumption) ?_
  rotate_left
  · (intro w hSw; (try dsimp only at hSw); go_simp; try with_reducible rfl)
  simp only [Act.put, List.setIfInBounds_toArray, List.set_cons_zero, List.set_cons_succ]
  refine wpAnyH_done (by kernel_rfl) ?_ _
  clear hn ho hm w1' w2' hlim hle hm2 how hnw
  have HH2 := hidden (HH1.out.grown (grown_drew w1))
  have HB2 : Hid (w1.drew.heap[w.heap.size]? = some (.cells #[.int .i64 e.at', .string e.old, .string e.new] 57 (0, 0))) := HB1.out
  have HG2 := hidden (grown_tr HG1.out (grown_drew w1))
  clear HH1 HB1 HG1 HA1 hHeld hHeld2
  generalize w1.drew = W2 at *
  obtain ⟨b0, b1, b2⟩ : W2.cell? ⟨w.heap.size, 0, none⟩ = some (.int .i64 e.at') ∧ W2.cell? ⟨w.heap.size, 1, none⟩ = some (.string e.old) ∧ W2.cell? ⟨w.heap.size, 2, none⟩ = some (.string e.new) := ⟨by simp only [World.cell?, HB2.out]; rfl, by simp only [World.cell?, HB2.out]; rfl, by simp only [World.cell?, HB2.out]; rfl⟩
  have HG := hidden HG2.out
  clear HH2 HB2 HG2
  go_wp2_with fail
  go_ret
  exact ⟨rfl, HG.out⟩
end
end Go.Proofs.PlatenPiece
