/- Words of letters as items; bytes of strings. -/
import Derived.Test.YtaefnlknendapaaLwB
import Derived.Test.YtaefnlknendapaaLyO
namespace Go.Proofs.PlatenLayout
open Go Go.RowKit Go.Shelf
set_option linter.unusedVariables false
set_option maxRecDepth 100000

theorem str_byte {q : List Nat} {S : ByteArray} (e : str q = S) (hq : ∀ c ∈ q, c < 256) {j D : Nat} (hj : q[j]? = some D) (hs : j < S.size) : ((S[j]'hs).toNat : Int) = (D : Nat) := by
  have hjq := (List.getElem?_eq_some_iff.1 hj).1
  have hD := (List.getElem?_eq_some_iff.1 hj).2
  have h1 := hq _ (List.getElem_mem hjq)
  rw [hD] at h1
  have h2 : S[j]'hs = UInt8.ofNat D := by
    subst e
    rw [← hD]
    show (str q).data[j]'_ = _
    simp [str]
  rw [h2]
  simp
  omega
theorem lets_str : ∀ k, k < 27 → ({ data := #[97, 98, 99, 100, 101, 102, 103, 104, 105, 106, 107, 108, 109, 110, 111, 112, 113, 114, 115, 116, 117, 118, 119, 120, 121, 122] } : ByteArray).extract 0 k = str (letters.take k) := by decide +kernel
theorem lets_cnt : ∀ k, k < 27 → PlatenGlyph.cnt (fun j => (letters.take k).getD j 0) (letters.take k).length = k ∧ (letters.take k).length = k ∧ (∀ c ∈ letters.take k, c < 256 ∧ c ≠ 10 ∧ c ≠ 32) := by decide +kernel
theorem ok_tx {k : Nat} (h : k < 27) : OkIt (txIt (letters.take k)) := by
  obtain ⟨c1, c2, c3⟩ := lets_cnt k h
  exact ⟨by show 1 < 256; decide, fun c hc => (c3 c hc).1, by show (letters.take k).length ≤ 70000; omega, c2.trans c1.symm, by show (-1048576 : Int) ≤ 0 ∧ (0 : Int) ≤ 1048576; decide, by show (-1048576 : Int) ≤ 0 ∧ (0 : Int) ≤ 1048576; decide⟩
theorem ok_bk : OkIt bkIt := ⟨by decide, by decide, by decide, by decide +kernel, by decide, by decide⟩
theorem ok_en : OkIt enIt := ⟨by decide, by decide, by decide, by decide +kernel, by decide, by decide⟩
/-- The first k words, each a break before it but the first. -/
def wl (g : Nat → List Nat) : Nat → List It
  | 0 => []
  | k + 1 => wl g k ++ (if k = 0 then [txIt (g k)] else [bkIt, txIt (g k)])
theorem wl_eq (g : Nat → List Nat) (k : Nat) : wl g (k + 1) = txIt (g 0) :: V ((List.range k).map fun i => g (i + 1)) := by
  induction k with
  | zero => rfl
  | succ k ih =>
    show wl g (k + 1) ++ (if k + 1 = 0 then _ else _) = _
    rw [ih, if_neg (by omega), List.range_succ, List.map_append]
    show _ = txIt (g 0) :: V (_ ++ [g (k + 1)])
    rw [V_snoc]
    rfl
theorem wl_len (g : Nat → List Nat) (k : Nat) : (wl g k).length ≤ 2 * k := by
  induction k with
  | zero => exact Nat.le_refl _
  | succ k ih =>
    show (wl g k ++ _).length ≤ _
    rw [List.length_append]
    split <;> simp <;> omega
theorem wl_ok {g : Nat → List Nat} (hg : ∀ i, ∃ k, k < 27 ∧ g i = letters.take k) (k : Nat) (hk : k ≤ 100) : OkL (wl g k) := by
  refine ⟨by have := wl_len g k; omega, ?_⟩
  clear hk
  induction k with
  | zero => intro x hx; simp [wl] at hx
  | succ k ih =>
    intro x hx
    obtain ⟨m, h1, h2⟩ := hg k
    rcases List.mem_append.1 hx with h | h
    · exact ih x h
    · split at h
      · simp at h; rw [h, h2]; exact ok_tx h1
      · simp at h
        rcases h with h | h
        · rw [h]; exact ok_bk
        · rw [h, h2]; exact ok_tx h1
theorem wl_over {g : Nat → List Nat} (hg : ∀ i, ∃ k, 1 ≤ k ∧ k ≤ 20 ∧ g i = letters.take k) (k : Nat) (hk : k ≤ 100) (w : Int) (hw : 0 ≤ w) : ∃ q, lay w (wl g k) s0 = some q ∧ okL w q 0 1 := by
  cases k with
  | zero => exact ⟨[], rfl, fun h => absurd h.2 (by decide)⟩
  | succ k =>
    rw [wl_eq]
    refine over w hw (g 0) _ (fun y hy => ?_) (by simp; omega)
    have : ∃ i, y = g i := by
      rcases List.mem_cons.1 hy with h | h
      · exact ⟨0, h⟩
      · obtain ⟨i, _, h⟩ := List.mem_map.1 h
        exact ⟨i + 1, h.symm⟩
    obtain ⟨i, rfl⟩ := this
    obtain ⟨m, h1, h2, h3⟩ := hg i
    rw [h3]
    obtain ⟨_, c2, c3⟩ := lets_cnt m (by omega)
    exact ⟨fun a ha => (c3 a ha).2, by omega, by omega⟩
theorem okL_at {w : Int} {q : List Nat} {j c k D : Nat} (hj : q[j]? = some D) (h : okL w (q.drop j) c k) : if D = 10 then ¬ ((w < (c : Nat)) ∧ 1 < k) ∧ okL w (q.drop (j + 1)) 0 1 else okL w (q.drop (j + 1)) (c + 1) (if D = 32 then k + 1 else k) := by
  obtain ⟨h1, h2⟩ := List.getElem?_eq_some_iff.1 hj
  rw [List.drop_eq_getElem_cons h1, h2] at h
  exact h
theorem okL_end {w : Int} {q : List Nat} {j c k : Nat} (hj : q.length ≤ j) (h : okL w (q.drop j) c k) : ¬ ((w < (c : Nat)) ∧ 1 < k) := by
  rw [List.drop_of_length_le hj] at h
  exact h
/-- The letters of a word, by its byte. -/
def wd20 (c : Nat) : List Nat := letters.take (1 + c % 20)
def wd9 (c : Nat) : List Nat := letters.take (1 + c % 9)
end Go.Proofs.PlatenLayout
