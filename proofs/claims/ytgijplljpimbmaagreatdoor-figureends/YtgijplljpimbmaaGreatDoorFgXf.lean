/- A number's text, as readFloat takes it apart. -/
import Derived.Test.YtgijplljpimbmaaGreatDoorFgRa
import Derived.Test.YtgijplljpimbmaaGreatDoorFgP
namespace Go.Proofs.PlatenFigure
set_option linter.unusedVariables false

theorem getD_drop' (l : List UInt8) (i j : Nat) : l.getD (i + j) 0 = (l.drop i).getD j 0 := by
  rw [List.getD_eq_getElem?_getD, List.getD_eq_getElem?_getD, List.getElem?_drop]
theorem getD_left (a b : List UInt8) {j : Nat} (h : j < a.length) : (a ++ b).getD j 0 = a.getD j 0 := by
  rw [List.getD_eq_getElem?_getD, List.getD_eq_getElem?_getD, List.getElem?_append_left h]
theorem getD_right (a b : List UInt8) (j : Nat) : (a ++ b).getD (a.length + j) 0 = b.getD j 0 := by
  rw [List.getD_eq_getElem?_getD, List.getD_eq_getElem?_getD, List.getElem?_append_right (by omega), Nat.add_sub_cancel_left]
theorem all_get {p : UInt8 → Bool} {a : List UInt8} (h : a.all p = true) {j : Nat} (hj : j < a.length) : p (a.getD j 0) = true := by
  rw [List.getD_eq_getElem?_getD, List.getElem?_eq_getElem hj]
  exact List.all_eq_true.1 h _ (List.getElem_mem hj)
theorem foldR_dot (l : List UInt8) (i0 : Nat) : ∀ k, (∀ j, j < k → (l.getD (i0 + j) 0).toNat ≠ 46) → (foldR l i0 k).dot = false
  | 0, _ => rfl
  | k + 1, h => by
    have ih := foldR_dot l i0 k (fun j hj => h j (by omega))
    have hc := h k (by omega)
    show (stepR (foldR l i0 k) (l.getD (i0 + k) 0)).dot = false
    unfold stepR
    rw [if_neg hc]
    split
    · exact ih
    · split
      · exact ih
      · exact ih
theorem num_of (l : List UInt8) (h : Nm (l.drop (sg1 l))) : ∃ pm pe neg eneg, Num l (sg1 l) pm pe neg eneg := by
  obtain ⟨a, f, x, ht, ⟨ha0, ha⟩, hf, hx⟩ := h
  have hsl := (sg1_le l).1
  have hlen : l.length = sg1 l + (a.length + (f.length + x.length)) := by
    have := congrArg List.length ht
    rw [List.length_drop, List.length_append, List.length_append] at this
    omega
  have hap : 0 < a.length := List.length_pos_iff.2 ha0
  have gA : ∀ j, j < a.length → l.getD (sg1 l + j) 0 = a.getD j 0 := fun j hj => by rw [getD_drop', ht, getD_left _ _ hj]
  have gF : ∀ j, j < f.length → l.getD (sg1 l + (a.length + j)) 0 = f.getD j 0 := fun j hj => by rw [getD_drop', ht, getD_right, getD_left _ _ hj]
  have gX : ∀ j, l.getD (sg1 l + (a.length + (f.length + j))) 0 = x.getD j 0 := fun j => by rw [getD_drop', ht, getD_right, getD_right]
  have dA : ∀ j, j < a.length → dg (l.getD (sg1 l + j) 0) = true := fun j hj => by rw [gA j hj]; exact all_get ha hj
  have n46 : ∀ c : UInt8, dg c = true → c.toNat ≠ 46 := fun c hc e => by simp only [dg, decide_eq_true_eq] at hc; omega
  have hd0 : dg (l.getD (sg1 l) 0) = true := dA 0 hap
  have hsg : ∃ neg, (sg1 l = 0 ∧ neg = false ∧ 48 ≤ (l.getD 0 0).toNat) ∨ (sg1 l = 1 ∧ ((neg = false ∧ (l.getD 0 0).toNat = 43) ∨ (neg = true ∧ (l.getD 0 0).toNat = 45))) := by
    by_cases q : 0 < l.length ∧ ((l.getD 0 0).toNat = 45 ∨ (l.getD 0 0).toNat = 43)
    · have h1 : sg1 l = 1 := by unfold sg1; rw [if_pos q]
      rcases q.2 with h | h
      · exact ⟨true, Or.inr ⟨h1, Or.inr ⟨rfl, h⟩⟩⟩
      · exact ⟨false, Or.inr ⟨h1, Or.inl ⟨rfl, h⟩⟩⟩
    · have h1 : sg1 l = 0 := by unfold sg1; rw [if_neg q]
      rw [h1] at hd0
      simp only [dg, decide_eq_true_eq] at hd0
      exact ⟨false, Or.inl ⟨h1, rfl, hd0.1⟩⟩
  obtain ⟨neg, hsg⟩ := hsg
  have hF : ∀ j, j < f.length → mc (f.getD j 0) = true ∧ (j ≠ 0 → dg (f.getD j 0) = true) := by
    rcases hf with rfl | ⟨b, rfl, hb⟩
    · intro j hj; simp at hj
    · intro j hj
      cases j with
      | zero => exact ⟨show mc 46 = true by decide, fun e => absurd rfl e⟩
      | succ j =>
        have : dg ((46 :: b).getD (j + 1) 0) = true := by
          show dg (b.getD j 0) = true
          exact all_get hb.2 (by simpa using hj)
        refine ⟨?_, fun _ => this⟩
        simp only [dg, mc, decide_eq_true_eq] at this ⊢
        omega
  have hms : ∀ i, sg1 l ≤ i → i < sg1 l + (a.length + f.length) → mc (l.getD i 0) = true := by
    intro i h1 h2
    obtain ⟨j, rfl⟩ : ∃ j, i = sg1 l + j := ⟨i - sg1 l, by omega⟩
    rcases Nat.lt_or_ge j a.length with h3 | h3
    · have := dA j h3
      simp only [dg, mc, decide_eq_true_eq] at this ⊢
      omega
    · obtain ⟨k, rfl⟩ : ∃ k, j = a.length + k := ⟨j - a.length, by omega⟩
      rw [gF k (by omega)]
      exact (hF k (by omega)).1
  have hone : ∀ k, sg1 l + k < sg1 l + (a.length + f.length) → (l.getD (sg1 l + k) 0).toNat = 46 → (foldR l (sg1 l) k).dot = false := by
    intro k h1 h2
    have hk : k = a.length := by
      rcases Nat.lt_or_ge k a.length with h3 | h3
      · exact absurd h2 (n46 _ (dA k h3))
      · obtain ⟨j, rfl⟩ : ∃ j, k = a.length + j := ⟨k - a.length, by omega⟩
        by_cases hj : j = 0
        · omega
        · rw [gF j (by omega)] at h2
          exact absurd h2 (n46 _ ((hF j (by omega)).2 hj))
    rw [hk]
    exact foldR_dot l _ _ (fun j hj => n46 _ (dA j hj))
  rcases hx with rfl | ⟨e, u, rfl, he, hu0, hu⟩
  · refine ⟨sg1 l + (a.length + f.length), sg1 l + (a.length + f.length), neg, false, hsg, by omega, by omega, hms, hd0, hone, Or.inl ⟨?_, rfl, rfl⟩⟩
    rw [hlen]; simp
  · have hux : 0 < (u.drop (sg1 u)).length := List.length_pos_iff.2 hu0
    have hsu := sg1_le u
    rw [List.length_drop] at hux
    have he' : (l.getD (sg1 l + (a.length + f.length)) 0).toNat = 101 ∨ (l.getD (sg1 l + (a.length + f.length)) 0).toNat = 69 := by
      have := gX 0
      rw [show sg1 l + (a.length + (f.length + 0)) = sg1 l + (a.length + f.length) by omega] at this
      rw [this]
      simpa [isE] using he
    have gU : ∀ j, l.getD (sg1 l + (a.length + f.length) + 1 + j) 0 = u.getD j 0 := fun j => by
      have := gX (1 + j)
      rw [show sg1 l + (a.length + (f.length + (1 + j))) = sg1 l + (a.length + f.length) + 1 + j by omega] at this
      rw [this, Nat.add_comm 1 j]
      rfl
    have hdu : ∀ i, sg1 l + (a.length + f.length) + 1 + sg1 u ≤ i → i < l.length → dg (l.getD i 0) = true := by
      intro i h1 h2
      obtain ⟨j, rfl⟩ : ∃ j, i = sg1 l + (a.length + f.length) + 1 + (sg1 u + j) := ⟨i - (sg1 l + (a.length + f.length) + 1 + sg1 u), by omega⟩
      rw [gU, getD_drop']
      refine all_get hu ?_
      rw [List.length_drop]
      rw [hlen, List.length_cons] at h2
      omega
    have hul : l.length = sg1 l + (a.length + f.length) + 1 + u.length := by rw [hlen, List.length_cons]; omega
    by_cases q : 0 < u.length ∧ ((u.getD 0 0).toNat = 45 ∨ (u.getD 0 0).toNat = 43)
    · have h1 : sg1 u = 1 := by unfold sg1; rw [if_pos q]
      rw [h1] at hdu hux
      have g0 := gU 0
      rw [Nat.add_zero] at g0
      rcases q.2 with h | h
      · exact ⟨sg1 l + (a.length + f.length), sg1 l + (a.length + f.length) + 2, neg, true, hsg, by omega, by omega, hms, hd0, hone, Or.inr ⟨by omega, by omega, he', hdu, Or.inr ⟨rfl, Or.inr ⟨rfl, by rw [g0]; exact h⟩⟩⟩⟩
      · exact ⟨sg1 l + (a.length + f.length), sg1 l + (a.length + f.length) + 2, neg, false, hsg, by omega, by omega, hms, hd0, hone, Or.inr ⟨by omega, by omega, he', hdu, Or.inr ⟨rfl, Or.inl ⟨rfl, by rw [g0]; exact h⟩⟩⟩⟩
    · have h1 : sg1 u = 0 := by unfold sg1; rw [if_neg q]
      rw [h1] at hdu hux
      exact ⟨sg1 l + (a.length + f.length), sg1 l + (a.length + f.length) + 1, neg, false, hsg, by omega, by omega, hms, hd0, hone, Or.inr ⟨by omega, by omega, he', hdu, Or.inl ⟨rfl, rfl⟩⟩⟩
end Go.Proofs.PlatenFigure
