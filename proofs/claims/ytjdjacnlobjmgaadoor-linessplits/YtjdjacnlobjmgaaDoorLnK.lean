/- What the document's Whole comes to. -/
import Derived.Test.YtjdjacnlobjmgaaDoorLnJ
import Derived.Deep.RegionHeld3
namespace Go.Proofs.PlatenLines
open Go.RowKit Go.Shelf Go.Proofs.PlatenGlyph
set_option linter.unusedVariables false

theorem hasW_iff {f : Nat → Nat} {n : Nat} {a b : Int} : hasW f n a b = true ↔ (0 ≤ min a b ∧ max a b ≤ lc f n) := by
  unfold hasW
  rw [Bool.and_eq_true, has_iff, has_iff]
  constructor
  · rintro ⟨⟨h1, h2⟩, h3, h4⟩; exact ⟨h1, h4⟩
  · rintro ⟨h1, h2⟩; exact ⟨⟨h1, by omega⟩, by omega, h2⟩

set_option maxHeartbeats 2000000 in
theorem rwhole_no (v : Value) (n : Nat) (f : Nat → Nat) (a b : Int) (w : World) (hn : n ≤ 100000) (h : IsRow w v n f) (hy : hasW f n a b = false) :
    Calls Tryd.prog 19 #[v, .int .i64 a, .int .i64 b] w fun e w' => e = .returned (.tuple #[.agg #[.int .i64 0, .int .i64 0], .bool false]) ∧ Below w.heap.size w w' := by
  have hb0 : Below w.heap.size w (w.alloc (.cells #[.int .i64 0, .int .i64 0] 32)) := (Below.refl _ _).alloc (Nat.le_refl _) _
  have c := spans_any v n f (w.alloc (.cells #[.int .i64 0, .int .i64 0] 32)) hn (h.below hb0)
  have hno : ¬ (0 ≤ min a b ∧ max a b ≤ lc f n) := fun hh => by rw [hasW_iff.2 hh] at hy; cases hy
  have hle := lc_le f n
  have Hb := hidden hb0
  clear hb0 h hy
  by_cases hab : a > b
  · by_cases hneg : b < 0
    · clear hno
      go_enter Tryd.func19, Tryd.ntmps19
      go_wp2_with fail
      refine c.mono ?_
      rintro e w2 ⟨l, rfl, ⟨g, cap, hbg, rfl, hcap, hl⟩, hb2⟩
      have hz : w.heap.size + 1 ≤ w2.heap.size := by have := hb2.size; simp at this; omega
      obtain ⟨hc, hf⟩ := bcell hb2
      have h0 : w2.cell? ⟨w.heap.size, 0, none⟩ = some (.int .i64 0) := by rw [hc _ _ (by simp)]; simp
      have h1 : w2.cell? ⟨w.heap.size, 1, none⟩ = some (.int .i64 0) := by rw [hc _ _ (by simp)]; simp
      have h2 : w2.frozen? ⟨w.heap.size, 0, none⟩ = false := by rw [hf _ _ (by simp)]; simp
      have h3 : w2.frozen? ⟨w.heap.size, 1, none⟩ = false := by rw [hf _ _ (by simp)]; simp
      have Hfin := hidden (Hb.out.trans (hb2.mono Hb.out.size))
      clear hb2 hc hf hl
      go_wp2
      refine bodyPost_ret (v := .tuple #[.agg #[.int .i64 0, .int .i64 0], .bool false]) (by simp [results, Tryd.results19, go_sem, h0, h1]) rfl ⟨rfl, ?_⟩
      exact (Hfin.out.setCell (Nat.le_refl _) _).setCell (Nat.le_refl _) _
    · have hov : a ≥ (lc f n : Int) + 1 := by omega
      clear hno
      go_enter Tryd.func19, Tryd.ntmps19
      go_wp2_with fail
      refine c.mono ?_
      rintro e w2 ⟨l, rfl, ⟨g, cap, hbg, rfl, hcap, hl⟩, hb2⟩
      have hz : w.heap.size + 1 ≤ w2.heap.size := by have := hb2.size; simp at this; omega
      obtain ⟨hc, hf⟩ := bcell hb2
      have h0 : w2.cell? ⟨w.heap.size, 0, none⟩ = some (.int .i64 0) := by rw [hc _ _ (by simp)]; simp
      have h1 : w2.cell? ⟨w.heap.size, 1, none⟩ = some (.int .i64 0) := by rw [hc _ _ (by simp)]; simp
      have h2 : w2.frozen? ⟨w.heap.size, 0, none⟩ = false := by rw [hf _ _ (by simp)]; simp
      have h3 : w2.frozen? ⟨w.heap.size, 1, none⟩ = false := by rw [hf _ _ (by simp)]; simp
      have Hfin := hidden (Hb.out.trans (hb2.mono Hb.out.size))
      clear hb2 hc hf hl
      go_wp2
      refine bodyPost_ret (v := .tuple #[.agg #[.int .i64 0, .int .i64 0], .bool false]) (by simp [results, Tryd.results19, go_sem, h0, h1]) rfl ⟨rfl, ?_⟩
      exact (Hfin.out.setCell (Nat.le_refl _) _).setCell (Nat.le_refl _) _
  · by_cases hneg : a < 0
    · clear hno
      go_enter Tryd.func19, Tryd.ntmps19
      go_wp2_with fail
      refine c.mono ?_
      rintro e w2 ⟨l, rfl, ⟨g, cap, hbg, rfl, hcap, hl⟩, hb2⟩
      have hz : w.heap.size + 1 ≤ w2.heap.size := by have := hb2.size; simp at this; omega
      obtain ⟨hc, hf⟩ := bcell hb2
      have h0 : w2.cell? ⟨w.heap.size, 0, none⟩ = some (.int .i64 0) := by rw [hc _ _ (by simp)]; simp
      have h1 : w2.cell? ⟨w.heap.size, 1, none⟩ = some (.int .i64 0) := by rw [hc _ _ (by simp)]; simp
      have h2 : w2.frozen? ⟨w.heap.size, 0, none⟩ = false := by rw [hf _ _ (by simp)]; simp
      have h3 : w2.frozen? ⟨w.heap.size, 1, none⟩ = false := by rw [hf _ _ (by simp)]; simp
      have Hfin := hidden (Hb.out.trans (hb2.mono Hb.out.size))
      clear hb2 hc hf hl
      go_wp2
      refine bodyPost_ret (v := .tuple #[.agg #[.int .i64 0, .int .i64 0], .bool false]) (by simp [results, Tryd.results19, go_sem, h0, h1]) rfl ⟨rfl, ?_⟩
      exact (Hfin.out.setCell (Nat.le_refl _) _).setCell (Nat.le_refl _) _
    · have hov : b ≥ (lc f n : Int) + 1 := by omega
      clear hno
      go_enter Tryd.func19, Tryd.ntmps19
      go_wp2_with fail
      refine c.mono ?_
      rintro e w2 ⟨l, rfl, ⟨g, cap, hbg, rfl, hcap, hl⟩, hb2⟩
      have hz : w.heap.size + 1 ≤ w2.heap.size := by have := hb2.size; simp at this; omega
      obtain ⟨hc, hf⟩ := bcell hb2
      have h0 : w2.cell? ⟨w.heap.size, 0, none⟩ = some (.int .i64 0) := by rw [hc _ _ (by simp)]; simp
      have h1 : w2.cell? ⟨w.heap.size, 1, none⟩ = some (.int .i64 0) := by rw [hc _ _ (by simp)]; simp
      have h2 : w2.frozen? ⟨w.heap.size, 0, none⟩ = false := by rw [hf _ _ (by simp)]; simp
      have h3 : w2.frozen? ⟨w.heap.size, 1, none⟩ = false := by rw [hf _ _ (by simp)]; simp
      have Hfin := hidden (Hb.out.trans (hb2.mono Hb.out.size))
      clear hb2 hc hf hl
      go_wp2
      refine bodyPost_ret (v := .tuple #[.agg #[.int .i64 0, .int .i64 0], .bool false]) (by simp [results, Tryd.results19, go_sem, h0, h1]) rfl ⟨rfl, ?_⟩
      exact (Hfin.out.setCell (Nat.le_refl _) _).setCell (Nat.le_refl _) _

end Go.Proofs.PlatenLines
