/- What the document's Whole comes to. -/
import Derived.Test.YtjdjacnlobjmgaaDoorLnK
namespace Go.Proofs.PlatenLines
open Go.RowKit Go.Shelf Go.Proofs.PlatenGlyph
set_option linter.unusedVariables false

set_option maxHeartbeats 2000000 in
theorem rwhole_up (v : Value) (n : Nat) (f : Nat → Nat) (j k : Nat) (w : World) (hn : n ≤ 100000) (h : IsRow w v n f) (hjk : j ≤ k) (hk : k ≤ lc f n) :
    Calls Tryd.prog 19 #[v, .int .i64 j, .int .i64 k] w fun e w' => e = .returned (.tuple #[.agg #[.int .i64 (beg f n j : Nat), .int .i64 (min (fin f n k + 1) n - beg f n j : Nat)], .bool true]) ∧ Below w.heap.size w w' := by
  have hb0 : Below w.heap.size w (w.alloc (.cells #[.int .i64 0, .int .i64 0] 32)) := (Below.refl _ _).alloc (Nat.le_refl _) _
  have c := spans_any v n f (w.alloc (.cells #[.int .i64 0, .int .i64 0] 32)) hn (h.below hb0)
  have hle := lc_le f n
  have hbf := beg_le_fin hk
  have hfn := fin_le (f := f) (n := n) (k := k)
  have hbj := beg_mono (f := f) (n := n) (show j ≤ k by omega) hk
  have e0 : ((beg f n k : Nat) : Int) + ((fin f n k - beg f n k : Nat) : Int) = fin f n k := by omega
  have e1 : k < lc f n → ((min (fin f n k + 1) n - beg f n j : Nat) : Int) = ((beg f n k : Nat) : Int) + ((fin f n k - beg f n k : Nat) : Int) + 1 - (beg f n j : Nat) := fun hlt => by have := (fin_end hlt).1; omega
  have e2 : ¬ k < lc f n → ((min (fin f n k + 1) n - beg f n j : Nat) : Int) = ((beg f n k : Nat) : Int) + ((fin f n k - beg f n k : Nat) : Int) - (beg f n j : Nat) := fun hlt => by
    have : fin f n k = n := by unfold fin; rw [if_neg hlt]
    omega
  obtain ⟨R, hR⟩ : ∃ R, ((min (fin f n k + 1) n - beg f n j : Nat) : Int) = R := ⟨_, rfl⟩
  rw [hR] at e1 e2 ⊢
  have HE1 := hidden e1
  have HE2 := hidden e2
  have Hb := hidden hb0
  have z1 : ¬ ((j : Int) < 0) := by omega
  have z2 : ¬ ((k : Int) ≥ (lc f n : Int) + 1) := by omega
  have z3 : (0 : Int) ≤ (k : Int) := by omega
  have z4 : (k : Int) < (lc f n : Int) + 1 := by omega
  have z5 : (0 : Int) ≤ (j : Int) := by omega
  have z6 : (j : Int) < (lc f n : Int) + 1 := by omega
  have hab : ¬ ((j : Int) > (k : Int)) := by omega
  clear hb0 h e1 e2 hR e0
  go_enter Tryd.func19, Tryd.ntmps19
  go_wp2_with fail
  refine c.mono ?_
  rintro e w2 ⟨l, rfl, ⟨g, cap, hbg, rfl, hcap, hl⟩, hb2⟩
  have hz : w.heap.size + 1 ≤ w2.heap.size := by have := hb2.size; simp at this; omega
  obtain ⟨hc, hf⟩ := bcell hb2
  have h0 : w2.cell? ⟨w.heap.size, 0, none⟩ = some (.int .i64 0) := by rw [hc _ _ (by simp)]; simp
  have h1 : w2.cell? ⟨w.heap.size, 1, none⟩ = some (.int .i64 0) := by rw [hc _ _ (by simp)]; simp
  have h2 : w2.frozen? ⟨w.heap.size, 0, none⟩ = false := by rw [hf _ _ (by simp)]; simp
  have h3 : w2.frozen? ⟨w.heap.size, 1, none⟩ = false := by rw [hf _ _ (by simp)]; simp
  have Hfin := hidden (Hb.out.trans (hb2.mono Hb.out.size))
  have hgn : g ≠ w.heap.size := by have : w.heap.size + 1 ≤ g := by simpa using hbg
                                   omega
  have hgn' : w.heap.size ≠ g := Ne.symm hgn
  obtain ⟨k1, k2⟩ := hl k (by omega)
  obtain ⟨j1, _⟩ := hl j (by omega)
  clear hb2 hc hf hl c
  have b1 : beg f n k ≤ 100000 := by omega
  have b2 : fin f n k - beg f n k ≤ 100000 := by omega
  have b3 : beg f n j ≤ 100000 := by omega
  generalize fin f n k - beg f n k = M at *
  generalize beg f n k = B at *
  obtain ⟨A, hA⟩ : ∃ A, beg f n j = A := ⟨_, rfl⟩
  rw [hA] at j1 b3 HE1 HE2
  have HA := hidden hA
  clear hA
  go_wp2_with fail
  go_region_held3 (fun u => u.cell? ⟨g, k * 2, none⟩ = some (.int .i64 B) ∧ u.cell? ⟨g, k * 2 + 1, none⟩ = some (.int .i64 M)) (go_keep) (fail)
  rw [IntWalk.i64_in ((B : Int) + (M : Int)) (by omega)]
  by_cases hlt : k < lc f n
  · have z7 : (k : Int) < (lc f n : Int) := by omega
    have HR := hidden (HE1.out hlt)
    go_wp2_with fail
    clear hlt HE1 HE2 k1 k2 z1 z2 z3 z4 hab z7
    go_region_held3 (fun u => u.cell? ⟨g, j * 2, none⟩ = some (.int .i64 A)) (go_keep) (fail)
    rw [IntWalk.i64_in ((B : Int) + (M : Int) + 1 - A) (by omega)]
    go_wp2
    refine bodyPost_ret (v := .tuple #[.agg #[.int .i64 A, .int .i64 ((B : Int) + (M : Int) + 1 - A)], .bool true]) (by simp [results, Tryd.results19, go_sem, h0, h1]) rfl ⟨by rw [HR.out, HA.out], ?_⟩
    exact (((Hfin.out.setCell (Nat.le_refl _) _).setCell (Nat.le_refl _) _).drew).drew
  · have z7 : ¬ (k : Int) < (lc f n : Int) := by omega
    have HR := hidden (HE2.out hlt)
    go_wp2_with fail
    clear hlt HE1 HE2 k1 k2 z1 z2 z3 z4 hab z7
    go_region_held3 (fun u => u.cell? ⟨g, j * 2, none⟩ = some (.int .i64 A)) (go_keep) (fail)
    rw [IntWalk.i64_in ((B : Int) + (M : Int) - A) (by omega)]
    go_wp2
    refine bodyPost_ret (v := .tuple #[.agg #[.int .i64 A, .int .i64 ((B : Int) + (M : Int) - A)], .bool true]) (by simp [results, Tryd.results19, go_sem, h0, h1]) rfl ⟨by rw [HR.out, HA.out], ?_⟩
    exact (((Hfin.out.setCell (Nat.le_refl _) _).setCell (Nat.le_refl _) _).drew).drew

set_option maxHeartbeats 2000000 in
theorem rwhole_down (v : Value) (n : Nat) (f : Nat → Nat) (j k : Nat) (w : World) (hn : n ≤ 100000) (h : IsRow w v n f) (hjk : j < k) (hk : k ≤ lc f n) :
    Calls Tryd.prog 19 #[v, .int .i64 k, .int .i64 j] w fun e w' => e = .returned (.tuple #[.agg #[.int .i64 (beg f n j : Nat), .int .i64 (min (fin f n k + 1) n - beg f n j : Nat)], .bool true]) ∧ Below w.heap.size w w' := by
  have hb0 : Below w.heap.size w (w.alloc (.cells #[.int .i64 0, .int .i64 0] 32)) := (Below.refl _ _).alloc (Nat.le_refl _) _
  have c := spans_any v n f (w.alloc (.cells #[.int .i64 0, .int .i64 0] 32)) hn (h.below hb0)
  have hle := lc_le f n
  have hbf := beg_le_fin hk
  have hfn := fin_le (f := f) (n := n) (k := k)
  have hbj := beg_mono (f := f) (n := n) (show j ≤ k by omega) hk
  have e0 : ((beg f n k : Nat) : Int) + ((fin f n k - beg f n k : Nat) : Int) = fin f n k := by omega
  have e1 : k < lc f n → ((min (fin f n k + 1) n - beg f n j : Nat) : Int) = ((beg f n k : Nat) : Int) + ((fin f n k - beg f n k : Nat) : Int) + 1 - (beg f n j : Nat) := fun hlt => by have := (fin_end hlt).1; omega
  have e2 : ¬ k < lc f n → ((min (fin f n k + 1) n - beg f n j : Nat) : Int) = ((beg f n k : Nat) : Int) + ((fin f n k - beg f n k : Nat) : Int) - (beg f n j : Nat) := fun hlt => by
    have : fin f n k = n := by unfold fin; rw [if_neg hlt]
    omega
  obtain ⟨R, hR⟩ : ∃ R, ((min (fin f n k + 1) n - beg f n j : Nat) : Int) = R := ⟨_, rfl⟩
  rw [hR] at e1 e2 ⊢
  have HE1 := hidden e1
  have HE2 := hidden e2
  have Hb := hidden hb0
  have z1 : ¬ ((j : Int) < 0) := by omega
  have z2 : ¬ ((k : Int) ≥ (lc f n : Int) + 1) := by omega
  have z3 : (0 : Int) ≤ (k : Int) := by omega
  have z4 : (k : Int) < (lc f n : Int) + 1 := by omega
  have z5 : (0 : Int) ≤ (j : Int) := by omega
  have z6 : (j : Int) < (lc f n : Int) + 1 := by omega
  have hab : ((k : Int) > (j : Int)) := by omega
  clear hb0 h e1 e2 hR e0
  go_enter Tryd.func19, Tryd.ntmps19
  go_wp2_with fail
  refine c.mono ?_
  rintro e w2 ⟨l, rfl, ⟨g, cap, hbg, rfl, hcap, hl⟩, hb2⟩
  have hz : w.heap.size + 1 ≤ w2.heap.size := by have := hb2.size; simp at this; omega
  obtain ⟨hc, hf⟩ := bcell hb2
  have h0 : w2.cell? ⟨w.heap.size, 0, none⟩ = some (.int .i64 0) := by rw [hc _ _ (by simp)]; simp
  have h1 : w2.cell? ⟨w.heap.size, 1, none⟩ = some (.int .i64 0) := by rw [hc _ _ (by simp)]; simp
  have h2 : w2.frozen? ⟨w.heap.size, 0, none⟩ = false := by rw [hf _ _ (by simp)]; simp
  have h3 : w2.frozen? ⟨w.heap.size, 1, none⟩ = false := by rw [hf _ _ (by simp)]; simp
  have Hfin := hidden (Hb.out.trans (hb2.mono Hb.out.size))
  have hgn : g ≠ w.heap.size := by have : w.heap.size + 1 ≤ g := by simpa using hbg
                                   omega
  have hgn' : w.heap.size ≠ g := Ne.symm hgn
  obtain ⟨k1, k2⟩ := hl k (by omega)
  obtain ⟨j1, _⟩ := hl j (by omega)
  clear hb2 hc hf hl c
  have b1 : beg f n k ≤ 100000 := by omega
  have b2 : fin f n k - beg f n k ≤ 100000 := by omega
  have b3 : beg f n j ≤ 100000 := by omega
  generalize fin f n k - beg f n k = M at *
  generalize beg f n k = B at *
  obtain ⟨A, hA⟩ : ∃ A, beg f n j = A := ⟨_, rfl⟩
  rw [hA] at j1 b3 HE1 HE2
  have HA := hidden hA
  clear hA
  go_wp2_with fail
  go_region_held3 (fun u => u.cell? ⟨g, k * 2, none⟩ = some (.int .i64 B) ∧ u.cell? ⟨g, k * 2 + 1, none⟩ = some (.int .i64 M)) (go_keep) (fail)
  rw [IntWalk.i64_in ((B : Int) + (M : Int)) (by omega)]
  by_cases hlt : k < lc f n
  · have z7 : (k : Int) < (lc f n : Int) := by omega
    have HR := hidden (HE1.out hlt)
    go_wp2_with fail
    clear hlt HE1 HE2 k1 k2 z1 z2 z3 z4 hab z7
    go_region_held3 (fun u => u.cell? ⟨g, j * 2, none⟩ = some (.int .i64 A)) (go_keep) (fail)
    rw [IntWalk.i64_in ((B : Int) + (M : Int) + 1 - A) (by omega)]
    go_wp2
    refine bodyPost_ret (v := .tuple #[.agg #[.int .i64 A, .int .i64 ((B : Int) + (M : Int) + 1 - A)], .bool true]) (by simp [results, Tryd.results19, go_sem, h0, h1]) rfl ⟨by rw [HR.out, HA.out], ?_⟩
    exact (((Hfin.out.setCell (Nat.le_refl _) _).setCell (Nat.le_refl _) _).drew).drew
  · have z7 : ¬ (k : Int) < (lc f n : Int) := by omega
    have HR := hidden (HE2.out hlt)
    go_wp2_with fail
    clear hlt HE1 HE2 k1 k2 z1 z2 z3 z4 hab z7
    go_region_held3 (fun u => u.cell? ⟨g, j * 2, none⟩ = some (.int .i64 A)) (go_keep) (fail)
    rw [IntWalk.i64_in ((B : Int) + (M : Int) - A) (by omega)]
    go_wp2
    refine bodyPost_ret (v := .tuple #[.agg #[.int .i64 A, .int .i64 ((B : Int) + (M : Int) - A)], .bool true]) (by simp [results, Tryd.results19, go_sem, h0, h1]) rfl ⟨by rw [HR.out, HA.out], ?_⟩
    exact (((Hfin.out.setCell (Nat.le_refl _) _).setCell (Nat.le_refl _) _).drew).drew

theorem wAt_nat {f : Nat → Nat} {n j k : Nat} {a b : Int} (hy : hasW f n a b = true) (h1 : min a b = j) (h2 : max a b = k) :
    wAt f n a b = beg f n j ∧ wN f n a b = min (fin f n k + 1) n - beg f n j ∧ k ≤ lc f n ∧ j ≤ k := by
  have hh := hasW_iff.1 hy
  have hj : j ≤ lc f n := by omega
  have hk : k ≤ lc f n := by omega
  have hbf := beg_le_fin hk
  unfold wAt wN wEnd
  rw [if_pos hy, if_pos hy, h1, h2, sAt_yes hj, sAt_yes hk, sN_yes hk, show beg f n k + (fin f n k - beg f n k) = fin f n k by omega]
  exact ⟨rfl, rfl, hk, by omega⟩

theorem rwhole_any (v : Value) (n : Nat) (f : Nat → Nat) (a b : Int) (w : World) (hn : n ≤ 100000) (h : IsRow w v n f) :
    Calls Tryd.prog 19 #[v, .int .i64 a, .int .i64 b] w fun e w' => e = .returned (.tuple #[.agg #[.int .i64 (wAt f n a b : Nat), .int .i64 (wN f n a b : Nat)], .bool (hasW f n a b)]) ∧ Below w.heap.size w w' := by
  cases hy : hasW f n a b with
  | false =>
    have e1 : wAt f n a b = 0 := by unfold wAt; rw [hy]; rfl
    have e2 : wN f n a b = 0 := by unfold wN; rw [hy]; rfl
    rw [e1, e2]
    exact rwhole_no v n f a b w hn h hy
  | true =>
    have hh := hasW_iff.1 hy
    by_cases hab : a ≤ b
    · obtain ⟨j, rfl⟩ := Int.eq_ofNat_of_zero_le (show 0 ≤ a by omega)
      obtain ⟨k, rfl⟩ := Int.eq_ofNat_of_zero_le (show 0 ≤ b by omega)
      obtain ⟨e1, e2, hk, hjk⟩ := wAt_nat (j := j) (k := k) hy (by omega) (by omega)
      rw [e1, e2]
      exact rwhole_up v n f j k w hn h hjk hk
    · obtain ⟨k, rfl⟩ := Int.eq_ofNat_of_zero_le (show 0 ≤ a by omega)
      obtain ⟨j, rfl⟩ := Int.eq_ofNat_of_zero_le (show 0 ≤ b by omega)
      obtain ⟨e1, e2, hk, hjk⟩ := wAt_nat (j := j) (k := k) hy (by omega) (by omega)
      rw [e1, e2]
      exact rwhole_down v n f j k w hn h (by omega) hk
end Go.Proofs.PlatenLines
