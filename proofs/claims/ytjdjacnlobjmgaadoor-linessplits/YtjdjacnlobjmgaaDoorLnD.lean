/- What lines.Whole comes to, at any bytes and any two numbers of lines. -/
import Derived.Test.YtjdjacnlobjmgaaDoorLnC
namespace Go.Proofs.PlatenLines
open Go.RowKit Go.Shelf Go.Proofs.PlatenGlyph
set_option linter.unusedVariables false

theorem bcell {W w1 : World} (hb : Below W.heap.size W w1) : (∀ b o, b < W.heap.size → w1.cell? ⟨b, o, none⟩ = W.cell? ⟨b, o, none⟩) ∧ (∀ b o, b < W.heap.size → w1.frozen? ⟨b, o, none⟩ = W.frozen? ⟨b, o, none⟩) :=
  ⟨fun b o h => hb.cell (p := ⟨b, o, none⟩) h, fun b o h => hb.frozen (p := ⟨b, o, none⟩) h⟩

/-- Are both lines there? Where the lesser one begins; how many bytes there are up to the greater one's end, and it. -/
def hasW (f : Nat → Nat) (n : Nat) (a b : Int) : Bool := has f n (min a b) && has f n (max a b)
def wAt (f : Nat → Nat) (n : Nat) (a b : Int) : Nat := if hasW f n a b then sAt f n (min a b) else 0
def wEnd (f : Nat → Nat) (n : Nat) (b : Int) : Nat := min (sAt f n b + sN f n b + 1) n
def wN (f : Nat → Nat) (n : Nat) (a b : Int) : Nat := if hasW f n a b then wEnd f n (max a b) - sAt f n (min a b) else 0

theorem sAt_le (f : Nat → Nat) (n : Nat) (l : Int) : sAt f n l + sN f n l ≤ n := by
  by_cases hy : 0 ≤ l ∧ l ≤ lc f n
  · obtain ⟨k, rfl⟩ := Int.eq_ofNat_of_zero_le hy.1
    rw [sAt_yes (show k ≤ lc f n by omega), sN_yes (show k ≤ lc f n by omega)]
    have := beg_le_fin (show k ≤ lc f n by omega)
    have := fin_le (f := f) (n := n) (k := k)
    omega
  · rw [sAt_no hy, sN_no hy]; omega
theorem has_iff {f : Nat → Nat} {n : Nat} {l : Int} : has f n l = true ↔ (0 ≤ l ∧ l ≤ lc f n) := by simp [has]
theorem wEnd_ge {f : Nat → Nat} {n : Nat} {a b : Int} (h : hasW f n a b = true) : sAt f n (min a b) ≤ wEnd f n (max a b) := by
  unfold hasW at h
  rw [Bool.and_eq_true, has_iff, has_iff] at h
  obtain ⟨h1, h2⟩ := h
  obtain ⟨j, hj⟩ := Int.eq_ofNat_of_zero_le h1.1
  obtain ⟨k, hk⟩ := Int.eq_ofNat_of_zero_le h2.1
  have hjk : j ≤ k := by omega
  rw [hj] at h1 ⊢
  rw [hk] at h2 ⊢
  unfold wEnd
  rw [sAt_yes (show j ≤ lc f n by omega), sAt_yes (show k ≤ lc f n by omega), sN_yes (show k ≤ lc f n by omega)]
  have := beg_mono (f := f) (n := n) hjk (by omega)
  have := beg_le_fin (show k ≤ lc f n by omega)
  have := beg_le_n (f := f) (n := n) (show j ≤ lc f n by omega)
  omega

set_option maxHeartbeats 1000000 in
theorem whole_no (v : Value) (n : Nat) (f : Nat → Nat) (a b : Int) (w : World) (hn : n ≤ 1000000) (h : IsRow w v n f) (ha : a ≤ 9223372036854775807) (hb : b ≤ 9223372036854775807) (hy : has f n (min a b) = false) :
    Calls Tryd.prog 18 #[v, .int .i64 a, .int .i64 b] w fun e w' => e = .returned (.tuple #[.agg #[.int .i64 0, .int .i64 0], .bool false]) ∧ Below w.heap.size w w' := by
  have hb0 : Below w.heap.size w (w.alloc (.cells #[.int .i64 0, .int .i64 0] 32)) := (Below.refl _ _).alloc (Nat.le_refl _) _
  have c := start_any v n f (min a b) (w.alloc (.cells #[.int .i64 0, .int .i64 0] 32)) hn (h.below hb0) (by omega)
  rw [hy] at c
  generalize sAt f n (min a b) = A at *
  have Hb := hidden hb0
  clear hb0 h hy
  go_enter Tryd.func18, Tryd.ntmps18
  go_wp2_with fail
  refine c.mono ?_
  rintro e w' ⟨rfl, rfl⟩
  go_wp2
  exact bodyPost_ret (v := .tuple #[.agg #[.int .i64 0, .int .i64 0], .bool false]) (by simp [results, Tryd.results18, go_sem]) rfl ⟨rfl, Hb.out⟩

set_option maxHeartbeats 1000000 in
theorem whole_no2 (v : Value) (n : Nat) (f : Nat → Nat) (a b : Int) (w : World) (hn : n ≤ 1000000) (h : IsRow w v n f) (ha : a ≤ 9223372036854775807) (hb : b ≤ 9223372036854775807) (hy : has f n (min a b) = true) (hy2 : has f n (max a b) = false) :
    Calls Tryd.prog 18 #[v, .int .i64 a, .int .i64 b] w fun e w' => e = .returned (.tuple #[.agg #[.int .i64 0, .int .i64 0], .bool false]) ∧ Below w.heap.size w w' := by
  have hb0 : Below w.heap.size w (w.alloc (.cells #[.int .i64 0, .int .i64 0] 32)) := (Below.refl _ _).alloc (Nat.le_refl _) _
  have c := start_any v n f (min a b) (w.alloc (.cells #[.int .i64 0, .int .i64 0] 32)) hn (h.below hb0) (by omega)
  have c2 := span_any v n f (max a b) (w.alloc (.cells #[.int .i64 0, .int .i64 0] 32)) hn (h.below hb0) (by omega)
  rw [hy] at c
  rw [hy2] at c2
  generalize sAt f n (min a b) = A at *
  generalize sAt f n (max a b) = B at *
  generalize sN f n (max a b) = M at *
  have Hb := hidden hb0
  clear hb0 h hy hy2
  go_enter Tryd.func18, Tryd.ntmps18
  go_wp2_with fail
  refine c.mono ?_
  rintro e w' ⟨rfl, rfl⟩
  go_wp2_with fail
  refine c2.mono ?_
  rintro e w2 ⟨rfl, hb2⟩
  have hz : w.heap.size + 1 ≤ w2.heap.size := by have := hb2.size; simp at this; omega
  obtain ⟨hc, hf⟩ := bcell hb2
  have h0 : w2.cell? ⟨w.heap.size, 0, none⟩ = some (.int .i64 0) := by rw [hc _ _ (by simp)]; simp
  have h1 : w2.cell? ⟨w.heap.size, 1, none⟩ = some (.int .i64 0) := by rw [hc _ _ (by simp)]; simp
  have h2 : w2.frozen? ⟨w.heap.size, 0, none⟩ = false := by rw [hf _ _ (by simp)]; simp
  have h3 : w2.frozen? ⟨w.heap.size, 1, none⟩ = false := by rw [hf _ _ (by simp)]; simp
  have hne : w.heap.size ≠ w2.heap.size := by omega
  have k0 : ∀ o, (w2.alloc o).cell? ⟨w.heap.size, 0, none⟩ = some (.int .i64 0) := fun o => by rw [World.cell?_alloc_old _ _ _ hne]; exact h0
  have k1 : ∀ o, (w2.alloc o).cell? ⟨w.heap.size, 1, none⟩ = some (.int .i64 0) := fun o => by rw [World.cell?_alloc_old _ _ _ hne]; exact h1
  have k2 : ∀ o, (w2.alloc o).frozen? ⟨w.heap.size, 0, none⟩ = false := fun o => by rw [World.frozen?_alloc_old _ _ _ hne]; exact h2
  have k3 : ∀ o, (w2.alloc o).frozen? ⟨w.heap.size, 1, none⟩ = false := fun o => by rw [World.frozen?_alloc_old _ _ _ hne]; exact h3
  have Hfin := hidden (Hb.out.trans (hb2.mono Hb.out.size))
  clear hb2 hc hf h0 h1 h2 h3 hne
  go_wp2
  refine bodyPost_ret (v := .tuple #[.agg #[.int .i64 0, .int .i64 0], .bool false]) (by simp [results, Tryd.results18, go_sem, k0, k1]) rfl ⟨rfl, ?_⟩
  exact ((Hfin.out.alloc (by omega) _).setCell (Nat.le_refl _) _).setCell (Nat.le_refl _) _

set_option maxHeartbeats 1000000 in
theorem whole_yes (v : Value) (n : Nat) (f : Nat → Nat) (a b : Int) (w : World) (hn : n ≤ 1000000) (h : IsRow w v n f) (ha : a ≤ 9223372036854775807) (hb : b ≤ 9223372036854775807) (hy : has f n (min a b) = true) (hy2 : has f n (max a b) = true) :
    Calls Tryd.prog 18 #[v, .int .i64 a, .int .i64 b] w fun e w' => e = .returned (.tuple #[.agg #[.int .i64 (sAt f n (min a b) : Nat), .int .i64 (wEnd f n (max a b) - sAt f n (min a b) : Nat)], .bool true]) ∧ Below w.heap.size w w' := by
  have hb0 : Below w.heap.size w (w.alloc (.cells #[.int .i64 0, .int .i64 0] 32)) := (Below.refl _ _).alloc (Nat.le_refl _) _
  have c := start_any v n f (min a b) (w.alloc (.cells #[.int .i64 0, .int .i64 0] 32)) hn (h.below hb0) (by omega)
  have c2 := span_any v n f (max a b) (w.alloc (.cells #[.int .i64 0, .int .i64 0] 32)) hn (h.below hb0) (by omega)
  have hle := sAt_le f n (max a b)
  have hge := wEnd_ge (f := f) (n := n) (a := a) (b := b) (by unfold hasW; rw [hy, hy2]; rfl)
  have he : ((wEnd f n (max a b) - sAt f n (min a b) : Nat) : Int) = min ((sAt f n (max a b) : Int) + (sN f n (max a b) : Int) + 1) n - (sAt f n (min a b) : Int) := by unfold wEnd at *; omega
  have hA : sAt f n (min a b) ≤ 1000000 := by have := sAt_le f n (min a b); omega
  rw [he]
  clear he hge
  rw [hy] at c
  rw [hy2] at c2
  generalize sAt f n (min a b) = A at *
  generalize sAt f n (max a b) = B at *
  generalize sN f n (max a b) = M at *
  have Hb := hidden hb0
  obtain ⟨ea, cap, rfl⟩ := h.len
  clear hb0 h hy hy2
  go_enter Tryd.func18, Tryd.ntmps18
  go_wp2_with fail
  refine c.mono ?_
  rintro e w' ⟨rfl, rfl⟩
  go_wp2_with fail
  refine c2.mono ?_
  rintro e w2 ⟨rfl, hb2⟩
  have hz : w.heap.size + 1 ≤ w2.heap.size := by have := hb2.size; simp at this; omega
  obtain ⟨hc, hf⟩ := bcell hb2
  have h0 : w2.cell? ⟨w.heap.size, 0, none⟩ = some (.int .i64 0) := by rw [hc _ _ (by simp)]; simp
  have h1 : w2.cell? ⟨w.heap.size, 1, none⟩ = some (.int .i64 0) := by rw [hc _ _ (by simp)]; simp
  have h2 : w2.frozen? ⟨w.heap.size, 0, none⟩ = false := by rw [hf _ _ (by simp)]; simp
  have h3 : w2.frozen? ⟨w.heap.size, 1, none⟩ = false := by rw [hf _ _ (by simp)]; simp
  have hne : w.heap.size ≠ w2.heap.size := by omega
  have k0 : ∀ o, (w2.alloc o).cell? ⟨w.heap.size, 0, none⟩ = some (.int .i64 0) := fun o => by rw [World.cell?_alloc_old _ _ _ hne]; exact h0
  have k1 : ∀ o, (w2.alloc o).cell? ⟨w.heap.size, 1, none⟩ = some (.int .i64 0) := fun o => by rw [World.cell?_alloc_old _ _ _ hne]; exact h1
  have k2 : ∀ o, (w2.alloc o).frozen? ⟨w.heap.size, 0, none⟩ = false := fun o => by rw [World.frozen?_alloc_old _ _ _ hne]; exact h2
  have k3 : ∀ o, (w2.alloc o).frozen? ⟨w.heap.size, 1, none⟩ = false := fun o => by rw [World.frozen?_alloc_old _ _ _ hne]; exact h3
  have Hfin := hidden (Hb.out.trans (hb2.mono Hb.out.size))
  clear hb2 hc hf h0 h1 h2 h3 hne
  go_wp2
  refine bodyPost_ret (v := .tuple #[.agg #[.int .i64 A, .int .i64 (min ((B : Int) + (M : Int) + 1) n - A)], .bool true]) (by simp [results, Tryd.results18, go_sem, k0, k1]) rfl ⟨rfl, ?_⟩
  exact ((Hfin.out.alloc (by omega) _).setCell (Nat.le_refl _) _).setCell (Nat.le_refl _) _

theorem whole_any (v : Value) (n : Nat) (f : Nat → Nat) (a b : Int) (w : World) (hn : n ≤ 1000000) (h : IsRow w v n f) (ha : a ≤ 9223372036854775807) (hb : b ≤ 9223372036854775807) :
    Calls Tryd.prog 18 #[v, .int .i64 a, .int .i64 b] w fun e w' => e = .returned (.tuple #[.agg #[.int .i64 (wAt f n a b : Nat), .int .i64 (wN f n a b : Nat)], .bool (hasW f n a b)]) ∧ Below w.heap.size w w' := by
  unfold wAt wN hasW
  cases h1 : has f n (min a b) with
  | false => exact whole_no v n f a b w hn h ha hb h1
  | true =>
    cases h2 : has f n (max a b) with
    | false => exact whole_no2 v n f a b w hn h ha hb h1 h2
    | true => exact whole_yes v n f a b w hn h ha hb h1 h2
end Go.Proofs.PlatenLines
