/- Plain arithmetic: two texts one behind the other have as many signs as both, or up to three fewer. -/
import Derived.Test.YtjdjacnlobjmgaaDoorCallsJ
namespace Go.Proofs.PlatenGlyph
set_option linter.unusedVariables false

theorem nth_congr {f g : Nat → Nat} {n : Nat} (h : ∀ j, j < n → f j = g j) : ∀ k, nth f n k = nth g n k
  | 0 => rfl
  | k + 1 => by
    show nth f n k + szAt f n (nth f n k) = nth g n k + szAt g n (nth g n k)
    rw [nth_congr h k, szAt_congr h]

theorem cnt_congr {f g : Nat → Nat} {n : Nat} (h : ∀ j, j < n → f j = g j) : cnt f n = cnt g n :=
  cnt_eq (by rw [nth_congr h]; exact cnt_end g n) fun j hj => by rw [nth_congr h]; exact cnt_lt hj

/-- The first signs of a text are those of its beginning, as far as they lie in it. -/
theorem nth_first {f : Nat → Nat} {N n k : Nat} (hn : n ≤ N) (hk : nth f N k ≤ n) : ∀ t, t ≤ k → nth f n t = nth f N t
  | 0, _ => rfl
  | t + 1, h => by
    have ih := nth_first hn hk t (by omega)
    have h1 : nth f N (t + 1) ≤ n := Nat.le_trans (nth_mono f N h) hk
    have h2 := nth_succ_le f N t
    show nth f n t + szAt f n (nth f n t) = nth f N t + szAt f N (nth f N t)
    rw [ih]
    by_cases hx : nth f N t < n
    · have h3 : nth f N t + szAt f N (nth f N t) ≤ n := h1
      rw [szAt_less hn hx h3]
    · have e : nth f N t = n := by omega
      by_cases hN : n < N
      · have := nth_strict (f := f) (n := N) (j := t) (k := t + 1) (by omega) (by omega)
        omega
      · rw [szAt_out (by omega), szAt_out (by omega)]

theorem join_cnt (h : Nat → Nat) (n N : Nat) (hn : n ≤ N) :
    cnt h N ≤ cnt h n + cnt (fun j => h (n + j)) (N - n) ∧ cnt h n + cnt (fun j => h (n + j)) (N - n) ≤ cnt h N + 3 := by
  by_cases hN : n = N
  · subst hN
    rw [Nat.sub_self]
    have : cnt (fun j => h (n + j)) 0 = 0 := rfl
    omega
  obtain ⟨k, h1, h2⟩ := nth_cover h N n (by omega)
  have hkc : k < cnt h N := (cnt_iff h N k).1 (by omega)
  by_cases hi : nth h N k = n
  · have a := cnt_head hi (by omega)
    have b := cnt_tail hi (by omega)
    omega
  obtain ⟨i, hie⟩ : ∃ i, nth h N k = i := ⟨_, rfl⟩
  obtain ⟨e, hee⟩ : ∃ e, nth h N (k + 1) = e := ⟨_, rfl⟩
  have hes : i + szAt h N i = e := by rw [← hee, ← hie]; rfl
  have heN : e ≤ N := by rw [← hee]; exact nth_le _ _ _
  have hs4 := szAt_le4 h N i
  have inner : ∀ j, i < j → j < e → 128 ≤ h j ∧ h j ≤ 191 := fun j a b => szAt_inner (n := N) (i := i) a (by omega)
  -- the first text
  have c1 : cnt h n = k + (n - i) := by
    have base := nth_first (f := h) hn (show nth h N k ≤ n by omega) k (Nat.le_refl _)
    have step : ∀ t, t ≤ n - i → nth h n (k + t) = i + t := by
      intro t
      induction t with
      | zero => intro _; rw [Nat.add_zero, base, hie]; rfl
      | succ t ih =>
        intro ht
        have := ih (by omega)
        show nth h n (k + t) + szAt h n (nth h n (k + t)) = i + (t + 1)
        rw [this]
        have : szAt h n (i + t) = 1 := by
          by_cases t0 : t = 0
          · subst t0
            exact szAt_cut (n := N) (by omega) hn (by rw [Nat.add_zero]; omega)
          · exact szAt_cont (by omega) (by have := inner (i + t) (by omega) (by omega); omega)
        omega
    refine cnt_eq (by rw [step (n - i) (Nat.le_refl _)]; omega) fun j hj => ?_
    by_cases hjk : j < k
    · rw [nth_first (f := h) hn (show nth h N k ≤ n by omega) j (by omega)]
      have := nth_strict (f := h) (n := N) hjk (cnt_lt (by omega))
      omega
    · have := step (j - k) (by omega)
      rw [show k + (j - k) = j by omega] at this
      omega
  -- the second text
  have c2 : cnt (fun j => h (n + j)) (N - n) = (e - n) + (cnt h N - (k + 1)) := by
    have step : ∀ t, t ≤ e - n → nth (fun j => h (n + j)) (N - n) t = t := by
      intro t
      induction t with
      | zero => intro _; rfl
      | succ t ih =>
        intro ht
        have := ih (by omega)
        show nth (fun j => h (n + j)) (N - n) t + szAt (fun j => h (n + j)) (N - n) (nth (fun j => h (n + j)) (N - n) t) = t + 1
        rw [this, szAt_shift h N n t hn, szAt_cont (by omega) (by have := inner (n + t) (by omega) (by omega); omega)]
    have far : ∀ t, nth (fun j => h (n + j)) (N - n) ((e - n) + t) + n = nth h N (k + 1 + t) := by
      intro t
      induction t with
      | zero => rw [Nat.add_zero, step _ (Nat.le_refl _), Nat.add_zero, hee]; omega
      | succ t ih =>
        show nth (fun j => h (n + j)) (N - n) ((e - n) + t) + szAt (fun j => h (n + j)) (N - n) (nth (fun j => h (n + j)) (N - n) ((e - n) + t)) + n = nth h N (k + 1 + t) + szAt h N (nth h N (k + 1 + t))
        rw [szAt_shift h N n _ hn, ← ih, show n + nth (fun j => h (n + j)) (N - n) ((e - n) + t) = nth (fun j => h (n + j)) (N - n) ((e - n) + t) + n by omega]
        omega
    refine cnt_eq ?_ fun j hj => ?_
    · have := far (cnt h N - (k + 1))
      rw [show k + 1 + (cnt h N - (k + 1)) = cnt h N by omega, cnt_end] at this
      omega
    · by_cases hje : j ≤ e - n
      · by_cases hlast : j = e - n
        · have f0 := far 0
          have : nth h N (k + 1 + 0) < N := cnt_lt (by omega)
          rw [Nat.add_zero] at f0
          rw [hlast]; omega
        · rw [step j hje]; omega
      · have fj := far (j - (e - n))
        rw [show (e - n) + (j - (e - n)) = j by omega] at fj
        have : nth h N (k + 1 + (j - (e - n))) < N := cnt_lt (by omega)
        omega
  omega

end Go.Proofs.PlatenGlyph
