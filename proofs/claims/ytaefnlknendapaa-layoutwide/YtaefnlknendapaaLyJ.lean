/- What is printed stays within bounds; the program's way to print and the document's come to the same. -/
import Derived.Test.YtaefnlknendapaaLyH
namespace Go.Proofs.PlatenLayout
open Go Go.RowKit Go.Shelf
set_option linter.unusedVariables false

structure LI (i : Nat) (s : Ly) : Prop where
  c0 : 0 ≤ s.col
  cp : s.col ≤ (s.p.length : Nat)
  gn : s.gs.length ≤ i
  ind : ∀ g ∈ s.g :: s.gs, -(70000 + 1048576 * (i : Int)) ≤ g.ind ∧ g.ind ≤ 70000 + 1048576 * (i : Int)
  byt : ∀ c ∈ s.p, c < 256
theorem li_start : LI 0 s0 where
  c0 := Int.le_refl _
  cp := Int.le_refl _
  gn := Nat.le_refl _
  ind := fun g hg => by
    simp [s0] at hg
    subst hg
    exact ⟨by simp, by simp⟩
  byt := fun c hc => by simp [s0] at hc
theorem sp_len (n : Nat) : (sp n).length = n := by simp [sp]
theorem stepL_gap (w : Int) (s : Ly) (x : It) (r : List It) (k : x.kind = 2) : stepL w s x r = (if s.g.flat = true ∨ (s.g.whole = false ∧ ((size (x :: r) : Nat) : Int) ≤ w - s.col) then { s with p := s.p ++ sp x.n.toNat, col := s.col + (x.n.toNat : Nat) } else { s with p := s.p ++ [10] ++ sp (s.g.ind + x.off).toNat, col := ((s.g.ind + x.off).toNat : Nat) }) := by
  simp [stepL, k]
theorem itemS_gap (w : Int) (s : Ly) (x : It) (sz : Nat) (k : x.kind = 2) : itemS w s x sz = (if s.g.flat = true ∨ (s.g.whole = false ∧ (sz : Int) ≤ w - s.col) then { s with p := s.p ++ sp (capN x.n), col := s.col + (capN x.n : Nat) } else { s with p := s.p ++ [10] ++ sp (capN (s.g.ind + x.off)), col := (capN (s.g.ind + x.off) : Nat) }) := by
  simp [itemS, gapS, k]
theorem capN_eq {n : Int} (h : n.toNat ≤ 65536) : capN n = n.toNat := by unfold capN; omega
theorem capN_big {n : Int} (h : 65536 < n.toNat) : capN n = 65537 := by unfold capN; omega
theorem capN_le (n : Int) : capN n ≤ 65537 := by unfold capN; omega
/-- Both ways to print come to the same, where it isn't too much. -/
theorem item_eq {w : Int} {s : Ly} {x : It} {r : List It} (h : (stepL w s x r).p.length ≤ most) : itemS w s x (size (x :: r)) = stepL w s x r := by
  by_cases k1 : x.kind = 1
  · simp [itemS, stepL, k1]
  by_cases k2 : x.kind = 2
  · rw [stepL_gap w s x r k2] at h ⊢
    rw [itemS_gap w s x _ k2]
    split at h
    · rename_i hc
      have hn : x.n.toNat ≤ 65536 := by
        have h' : (s.p ++ sp x.n.toNat).length ≤ 65536 := h
        rw [List.length_append, sp_len] at h'
        omega
      rw [if_pos hc, if_pos hc, capN_eq hn]
    · rename_i hc
      have hn : (s.g.ind + x.off).toNat ≤ 65536 := by
        have h' : (s.p ++ [10] ++ sp (s.g.ind + x.off).toNat).length ≤ 65536 := h
        rw [List.length_append, sp_len] at h'
        omega
      rw [if_neg hc, if_neg hc, capN_eq hn]
  by_cases k3 : x.kind = 3
  · simp [itemS, stepL, begS, k3]
  by_cases k4 : x.kind = 4
  · simp only [itemS, stepL, k4]
    cases s.gs <;> rfl
  · simp [itemS, stepL, k1, k2, k3, k4]
theorem item_big {w : Int} {s : Ly} {x : It} {r : List It} (h : most < (stepL w s x r).p.length) : most < (itemS w s x (size (x :: r))).p.length := by
  by_cases k2 : x.kind = 2
  · rw [stepL_gap w s x r k2] at h
    rw [itemS_gap w s x _ k2]
    split at h
    · rename_i hc
      rw [if_pos hc]
      have h' : 65536 < (s.p ++ sp x.n.toNat).length := h
      show 65536 < (s.p ++ sp (capN x.n)).length
      rw [List.length_append, sp_len] at h' ⊢
      unfold capN
      omega
    · rename_i hc
      rw [if_neg hc]
      have h' : 65536 < (s.p ++ [10] ++ sp (s.g.ind + x.off).toNat).length := h
      show 65536 < (s.p ++ [10] ++ sp (capN (s.g.ind + x.off))).length
      rw [List.length_append, sp_len] at h' ⊢
      unfold capN
      omega
  · by_cases k1 : x.kind = 1
    · have e : itemS w s x (size (x :: r)) = stepL w s x r := by simp [itemS, stepL, k1]
      rw [e]; exact h
    by_cases k3 : x.kind = 3
    · have e : itemS w s x (size (x :: r)) = stepL w s x r := by simp [itemS, stepL, begS, k3]
      rw [e]; exact h
    by_cases k4 : x.kind = 4
    · have e : itemS w s x (size (x :: r)) = stepL w s x r := by
        simp only [itemS, stepL, k4]
        cases s.gs <;> rfl
      rw [e]; exact h
    · have e : itemS w s x (size (x :: r)) = stepL w s x r := by simp [itemS, stepL, k1, k2, k3, k4]
      rw [e]; exact h
theorem item_len {w : Int} {s : Ly} {x : It} {sz : Nat} (ok : OkIt x) : (itemS w s x sz).p.length ≤ s.p.length + 200000 := by
  have h1 := ok.len
  by_cases k2 : x.kind = 2
  · rw [itemS_gap w s x _ k2]
    have h2 := capN_le x.n
    have h3 := capN_le (s.g.ind + x.off)
    split
    · show (s.p ++ sp (capN x.n)).length ≤ _
      rw [List.length_append, sp_len]; omega
    · show (s.p ++ [10] ++ sp (capN (s.g.ind + x.off))).length ≤ _
      rw [List.length_append, sp_len, List.length_append, List.length_singleton]; omega
  · by_cases k1 : x.kind = 1
    · simp [itemS, k1]; omega
    by_cases k3 : x.kind = 3
    · simp [itemS, begS, k3]
    by_cases k4 : x.kind = 4
    · unfold itemS
      rw [if_neg k1, if_neg k2, if_neg k3, if_pos k4]
      cases s.gs <;> simp
    · simp [itemS, k1, k2, k3, k4]
theorem size_tx {x : It} {r : List It} (k : x.kind = 1) : size (x :: r) = x.ch := by simp [size, k, It.own]
/-- An item more, within bounds. -/
theorem li_step {w : Int} {s : Ly} {x : It} {r : List It} {i : Nat} (h : LI i s) (ok : OkIt x) (hm : s.p.length ≤ most) (hm2 : (stepL w s x r).p.length ≤ most) : LI (i + 1) (stepL w s x r) := by
  have hc0 := h.c0
  have hcp := h.cp
  have hoff := ok.off
  have wid : ∀ g ∈ s.g :: s.gs, -(70000 + 1048576 * ((i + 1 : Nat) : Int)) ≤ g.ind ∧ g.ind ≤ 70000 + 1048576 * ((i + 1 : Nat) : Int) := fun g hg => by
    have := h.ind g hg
    omega
  have hgn := h.gn
  have spb : ∀ n, ∀ c ∈ sp n, c < 256 := sp_lt
  by_cases k1 : x.kind = 1
  · have e : stepL w s x r = { s with p := s.p ++ x.tx, col := s.col + (x.ch : Nat) } := by simp [stepL, k1, size_tx k1]
    have hch : x.ch ≤ x.tx.length := by rw [ok.ch]; exact PlatenGlyph.cnt_le _ _
    rw [e]
    refine ⟨?_, ?_, by show s.gs.length ≤ i + 1; omega, wid, ?_⟩
    · show 0 ≤ s.col + (x.ch : Nat); omega
    · show s.col + (x.ch : Nat) ≤ ((s.p ++ x.tx).length : Nat)
      rw [List.length_append]; omega
    · intro c hc
      rcases List.mem_append.1 hc with q | q
      · exact h.byt c q
      · exact ok.tx c q
  by_cases k2 : x.kind = 2
  · rw [stepL_gap w s x r k2] at hm2 ⊢
    split
    · refine ⟨?_, ?_, by show s.gs.length ≤ i + 1; omega, wid, ?_⟩
      · show 0 ≤ s.col + (x.n.toNat : Nat); omega
      · show s.col + (x.n.toNat : Nat) ≤ ((s.p ++ sp x.n.toNat).length : Nat)
        rw [List.length_append, sp_len]; omega
      · intro c hc
        rcases List.mem_append.1 hc with q | q
        · exact h.byt c q
        · exact spb _ c q
    · refine ⟨?_, ?_, by show s.gs.length ≤ i + 1; omega, wid, ?_⟩
      · show 0 ≤ (((s.g.ind + x.off).toNat : Nat) : Int); omega
      · show (((s.g.ind + x.off).toNat : Nat) : Int) ≤ ((s.p ++ [10] ++ sp (s.g.ind + x.off).toNat).length : Nat)
        rw [List.length_append, sp_len]; omega
      · intro c hc
        rcases List.mem_append.1 hc with q | q
        · rcases List.mem_append.1 q with q | q
          · exact h.byt c q
          · simp at q; omega
        · exact spb _ c q
  by_cases k3 : x.kind = 3
  · have e : stepL w s x r = { s with g := ⟨decide (((size (x :: r) : Nat) : Int) ≤ w - s.col), x.whole, (if x.col then s.col else s.g.ind) + x.off⟩, gs := s.g :: s.gs } := by simp [stepL, k3]
    rw [e]
    refine ⟨hc0, hcp, by show (s.g :: s.gs).length ≤ i + 1; simp; omega, ?_, h.byt⟩
    intro g hg
    rcases List.mem_cons.1 hg with q | q
    · rw [q]
      show -(70000 + 1048576 * ((i + 1 : Nat) : Int)) ≤ (if x.col then s.col else s.g.ind) + x.off ∧ (if x.col then s.col else s.g.ind) + x.off ≤ 70000 + 1048576 * ((i + 1 : Nat) : Int)
      have hm' : s.p.length ≤ 65536 := hm
      have := h.ind s.g (by simp)
      split <;> omega
    · exact wid g q
  by_cases k4 : x.kind = 4
  · cases hgs : s.gs with
    | nil =>
      have e : stepL w s x r = s := by simp [stepL, k4, hgs]
      rw [e]
      exact ⟨hc0, hcp, by omega, wid, h.byt⟩
    | cons a t =>
      have e : stepL w s x r = { s with g := a, gs := t } := by simp [stepL, k4, hgs]
      rw [e]
      refine ⟨hc0, hcp, ?_, ?_, h.byt⟩
      · rw [hgs] at hgn; simp at hgn; show t.length ≤ i + 1; omega
      · intro g hg
        have hg : g ∈ a :: t := hg
        exact wid g (by rw [hgs]; exact List.mem_cons_of_mem _ hg)
  · have e : stepL w s x r = s := by simp [stepL, k1, k2, k3, k4]
    rw [e]
    exact ⟨hc0, hcp, by omega, wid, h.byt⟩
end Go.Proofs.PlatenLayout
