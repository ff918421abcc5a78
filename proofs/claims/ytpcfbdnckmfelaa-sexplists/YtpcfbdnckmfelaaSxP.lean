/- No token begins behind the byte at hand. -/
import Derived.Test.YtpcfbdnckmfelaaSxJ
namespace Go.Proofs.PlatenSexp
set_option linter.unusedVariables false

theorem start_at {M : Sm} {c i : Nat} (h : ∀ t ∈ M.l, t.2.1 ≤ i) : ∀ t ∈ (start M c i).2.l, t.2.1 ≤ i := by
  unfold start
  intro t ht
  split at ht
  · simp at ht; rcases ht with ht | rfl; exact h t ht; simp
  split at ht
  · exact h t ht
  split at ht
  · split at ht
    · exact h t ht
    · simp at ht; rcases ht with ht | rfl; exact h t ht; simp
  split at ht
  · exact h t ht
  split at ht
  · exact h t ht
  · exact h t ht
theorem feedB_at {M : Sm} {c i : Nat} (h : ∀ t ∈ M.l, t.2.1 ≤ i) : ∀ t ∈ (feedB M c i).2.l, t.2.1 ≤ i := by
  unfold feedB
  intro t ht
  split at ht
  · exact h t ht
  split at ht
  · exact h t ht
  split at ht
  · simp at ht; rcases ht with ht | rfl; exact h t ht; simp
  · exact start_at h t ht
theorem snoc_at {l : List Tk} {i a b c : Nat} (h : ∀ t ∈ l, t.2.1 ≤ i) (hb : b ≤ i) : ∀ t ∈ l ++ [(a, b, c)], t.2.1 ≤ i := by
  intro t ht
  simp at ht
  rcases ht with ht | rfl
  · exact h t ht
  · exact hb
theorem feed_at {M : Sm} {c i : Nat} (h : ∀ t ∈ M.l, t.2.1 ≤ i) (hf : M.fr ≤ i) : ∀ t ∈ (feed M c i).2.l, t.2.1 ≤ i := by
  unfold feed
  split
  · split
    · exact snoc_at h hf
    split
    · exact h
    · exact h
  split
  · exact h
  split
  · split
    · exact h
    · exact feedB_at (snoc_at h hf)
  split
  · split
    · exact snoc_at h hf
    · exact feedB_at (snoc_at h hf)
  · exact feedB_at h
theorem fin_at {M : Sm} {i : Nat} (h : ∀ t ∈ M.l, t.2.1 ≤ i) (hf : M.fr ≤ i) : ∀ t ∈ (fin' M i).1, t.2.1 ≤ i := by
  have key : ∀ M : Sm, (∀ t ∈ M.l, t.2.1 ≤ i) → ∀ t ∈ (finA M i).1, t.2.1 ≤ i := fun M h => by
    unfold finA
    split
    · intro t ht; cases ht
    · exact h
  unfold fin'
  split
  · exact key _ (snoc_at h hf)
  · exact key _ h
theorem run_at (f : Nat → Nat) : ∀ (k i : Nat) (M : Sm), (∀ t ∈ M.l, t.2.1 ≤ i) → Iv M i → ∀ t ∈ (run f k i M).1, t.2.1 ≤ i + k
  | 0, i, M, h, v => fin_at h v.fr
  | k + 1, i, M, h, v => by
    unfold run
    split
    · rename_i q
      intro t ht
      have := run_at f k (i + 1) _ (fun t ht => Nat.le_succ_of_le (feed_at h v.fr t ht)) (feed_iv v q) t ht
      omega
    · intro t ht; cases ht
theorem ans_at (f : Nat → Nat) (n : Nat) : ∀ t ∈ (ans f n).1, t.2.1 ≤ n := fun t ht => by
  have := run_at f (n - 0) 0 M0 (fun t ht => by cases ht) iv0 t ht
  omega
end Go.Proofs.PlatenSexp
