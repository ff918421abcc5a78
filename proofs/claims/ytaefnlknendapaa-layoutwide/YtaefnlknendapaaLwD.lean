/- A group of words; a built slice of items. -/
import Derived.Test.YtaefnlknendapaaLwC
namespace Go.Proofs.PlatenLayout
open Go Go.RowKit Go.Shelf
set_option linter.unusedVariables false
set_option maxRecDepth 100000

theorem row_new (B : Nat) (w : World) (l : List It) (hB : B ≤ w.heap.size) (hl : l.length ≤ 1000) : (w.alloc (.cells (rowI l).toArray 38)).ownsRow B 38 6 (.slice (some ⟨w.heap.size, 0, none⟩) l.length l.length) l.length (rowI l) := by
  refine ⟨rowI_len l, Or.inr ⟨w.heap.size, l.length, (rowI l).toArray, rfl, hB, heap_alloc_new w _, Nat.le_refl _, by unfold maxLen; omega, by simp [rowI_len], ?_⟩⟩
  rw [List.take_of_length_le (by simp [rowI_len])]
theorem s120 : str [120] = ({ data := #[120] } : ByteArray) := by decide +kernel
theorem s32 : str [32] = ({ data := #[32] } : ByteArray) := by decide +kernel
theorem s10 : str [10] = ({ data := #[10] } : ByteArray) := by decide +kernel
def gIt (off : Nat) : It := ⟨3, [], 0, 0, (off : Nat), false, true⟩
theorem ok_g {off : Nat} (h : off < 256) : OkIt (gIt off) := ⟨by show 3 < 256; decide, ok_en.tx, ok_en.len, ok_en.ch, ok_en.n, by show (-1048576 : Int) ≤ (off : Int) ∧ (off : Int) ≤ 1048576; omega⟩
def wv (g : Nat → List Nat) : Nat → List (List Nat)
  | 0 => []
  | k + 1 => wv g k ++ [g k]
theorem wv_len (g : Nat → List Nat) (k : Nat) : (wv g k).length = k := by
  induction k with
  | zero => rfl
  | succ k ih => show (wv g k ++ [g k]).length = _; rw [List.length_append, ih]; rfl
/-- The items after k words. -/
def gl (g : Nat → List Nat) (off k : Nat) : List It := txIt [120] :: gIt off :: V (wv g k)
theorem gl_succ (g : Nat → List Nat) (off k : Nat) : gl g off (k + 1) = gl g off k ++ [bkIt, txIt (g k)] := by
  show txIt [120] :: gIt off :: V (wv g k ++ [g k]) = _
  rw [V_snoc]
  rfl
theorem gl_len (g : Nat → List Nat) (off k : Nat) : (gl g off k).length = 2 + 2 * k := by
  induction k with
  | zero => rfl
  | succ k ih => rw [gl_succ, List.length_append, ih]; simp; omega
theorem gl_ok {g : Nat → List Nat} (hg : ∀ i, ∃ k, k ≤ 9 ∧ g i = letters.take k) {off : Nat} (ho : off < 256) (k : Nat) : ∀ x ∈ gl g off k ++ [enIt], OkIt x := by
  intro x hx
  rcases List.mem_append.1 hx with h | h
  · induction k with
    | zero =>
      simp [gl, wv, V] at h
      rcases h with h | h
      · rw [h]; exact ⟨by decide, by decide, by decide, by decide +kernel, by decide, by decide⟩
      · rw [h]; exact ok_g ho
    | succ k ih =>
      rw [gl_succ] at h
      rcases List.mem_append.1 h with h | h
      · exact ih (List.mem_append.2 (Or.inl h)) h
      · obtain ⟨m, h1, h2⟩ := hg k
        simp at h
        rcases h with h | h
        · rw [h]; exact ok_bk
        · rw [h, h2]; exact ok_tx (by omega)
  · simp at h; rw [h]; exact ok_en
theorem flatV_len {g : Nat → List Nat} (hg : ∀ i, ∃ k, k ≤ 9 ∧ g i = letters.take k) (k : Nat) : (flatV (wv g k)).length ≤ 10 * k := by
  induction k with
  | zero => exact Nat.le_refl _
  | succ k ih =>
    obtain ⟨m, h1, h2⟩ := hg k
    have := (lets_cnt m (by omega)).2.1
    show (flatV (wv g k ++ [g k])).length ≤ _
    rw [flatV_snoc, List.length_append, h2, List.length_cons]
    omega
theorem far_len {g : Nat → List Nat} (hg : ∀ i, ∃ k, k ≤ 9 ∧ g i = letters.take k) (off k : Nat) (ho : off < 256) : (far off (wv g k)).length ≤ 300 * k := by
  induction k with
  | zero => exact Nat.le_refl _
  | succ k ih =>
    obtain ⟨m, h1, h2⟩ := hg k
    have := (lets_cnt m (by omega)).2.1
    show (far off (wv g k ++ [g k])).length ≤ _
    rw [far_snoc, List.length_append, h2, List.length_append, List.length_append]
    have : (sp off).length = off := List.length_replicate
    have : ([10] : List Nat).length = 1 := rfl
    omega
theorem gl_lay {g : Nat → List Nat} (hg : ∀ i, ∃ k, k ≤ 9 ∧ g i = letters.take k) {off : Nat} (ho : off < 256) (k : Nat) (hk : k ≤ 40) (w : Int) :
    lay w (gl g off k ++ [enIt]) s0 = some (if (((120 :: flatV (wv g k)).length : Nat) : Int) ≤ w ∨ k = 0 then 120 :: flatV (wv g k) else 120 :: far off (wv g k)) := by
  have h1 := flatV_len hg k
  have h2 := far_len hg off k ho
  have h := whole w off (wv g k) (by omega) (by omega)
  have h0 : (wv g k = []) = (k = 0) := by
    apply propext
    constructor
    · intro e; have := wv_len g k; rw [e] at this; exact this.symm
    · intro e; rw [e]; rfl
  simp only [h0] at h
  exact h
theorem sp_succ (j : Nat) : sp (j + 1) = sp j ++ [32] := by unfold sp; rw [List.replicate_succ']
end Go.Proofs.PlatenLayout
