/- A text parted where a sign begins: the signs and columns of its parts. What the program's At comes to. -/
import Derived.Test.YtjdjacnlobjmgaaDoorCallsI
namespace Go.Proofs.PlatenGlyph
open Go.RowKit Go.Shelf
set_option linter.unusedVariables false

theorem nth_head {f : Nat → Nat} {n j k : Nat} (hj : nth f n j = k) : ∀ i, i ≤ j → nth f k i = nth f n i
  | 0, _ => rfl
  | i + 1, h => by
    have ih := nth_head hj i (by omega)
    have hkn : k ≤ n := by rw [← hj]; exact nth_le _ _ _
    have h1 : nth f n (i + 1) ≤ k := by rw [← hj]; exact nth_mono f n h
    have h2 := nth_succ_le f n i
    show nth f k i + szAt f k (nth f k i) = nth f n i + szAt f n (nth f n i)
    rw [ih]
    by_cases hx : nth f n i < k
    · have h3 : nth f n i + szAt f n (nth f n i) ≤ k := h1
      rw [szAt_less hkn hx h3]
    · have e : nth f n i = k := by omega
      by_cases hn : k < n
      · have := nth_strict (f := f) (n := n) (j := i) (k := j) (by omega) (by omega)
        omega
      · rw [szAt_out (by omega), szAt_out (by omega)]

theorem cnt_head {f : Nat → Nat} {n j k : Nat} (hj : nth f n j = k) (hc : j ≤ cnt f n) : cnt f k = j := by
  refine cnt_eq (by rw [nth_head hj j (Nat.le_refl _)]; exact hj) fun i hi => ?_
  rw [nth_head hj i (by omega), ← hj]
  exact nth_strict hi (cnt_lt (by omega))

theorem wid_head {f : Nat → Nat} {n j k : Nat} (hj : nth f n j = k) (hc : j ≤ cnt f n) (col tab : Nat) : ∀ i, i ≤ j → wid f k col tab i = wid f n col tab i
  | 0, _ => rfl
  | i + 1, h => by
    have ih := wid_head hj hc col tab i (by omega)
    have h1 : nth f n i < n := cnt_lt (by omega)
    have h2 : nth f k i < k := cnt_lt (by rw [cnt_head hj hc]; omega)
    rw [wid_succ h1, wid_succ h2, ih, nth_head hj i (by omega)]

theorem wide_head {f : Nat → Nat} {n j k : Nat} (hj : nth f n j = k) (hc : j ≤ cnt f n) (col tab : Nat) : wide f k col tab = wid f n col tab j := by
  unfold wide
  rw [cnt_head hj hc, wid_head hj hc col tab j (Nat.le_refl _)]

theorem nth_tail {f : Nat → Nat} {n j k : Nat} (hj : nth f n j = k) : ∀ i, nth (fun x => f (k + x)) (n - k) i + k = nth f n (j + i)
  | 0 => by show 0 + k = _; rw [Nat.zero_add]; exact hj.symm
  | i + 1 => by
    have ih := nth_tail hj i
    have hkn : k ≤ n := by rw [← hj]; exact nth_le _ _ _
    show nth (fun x => f (k + x)) (n - k) i + szAt (fun x => f (k + x)) (n - k) (nth (fun x => f (k + x)) (n - k) i) + k = nth f n (j + i) + szAt f n (nth f n (j + i))
    rw [szAt_shift f n k _ hkn, ← ih]
    rw [show k + nth (fun x => f (k + x)) (n - k) i = nth (fun x => f (k + x)) (n - k) i + k by omega]
    omega

theorem cnt_tail {f : Nat → Nat} {n j k : Nat} (hj : nth f n j = k) (hc : j ≤ cnt f n) : cnt (fun x => f (k + x)) (n - k) = cnt f n - j := by
  have hkn : k ≤ n := by rw [← hj]; exact nth_le _ _ _
  refine cnt_eq ?_ fun i hi => ?_
  · have := nth_tail hj (cnt f n - j)
    rw [show j + (cnt f n - j) = cnt f n by omega, cnt_end] at this
    omega
  · have := nth_tail hj i
    have h2 : nth f n (j + i) < n := cnt_lt (by omega)
    omega

theorem wid_tail {f : Nat → Nat} {n j k : Nat} (hj : nth f n j = k) (hc : j ≤ cnt f n) (col tab : Nat) : ∀ i, i ≤ cnt f n - j → wid (fun x => f (k + x)) (n - k) (wid f n col tab j) tab i = wid f n col tab (j + i)
  | 0, _ => rfl
  | i + 1, h => by
    have ih := wid_tail hj hc col tab i (by omega)
    have h1 : nth f n (j + i) < n := cnt_lt (by omega)
    have h2 : nth (fun x => f (k + x)) (n - k) i < n - k := cnt_lt (by rw [cnt_tail hj hc]; omega)
    have e := nth_tail hj i
    rw [wid_succ h2, ih, ← Nat.add_assoc, wid_succ h1]
    show stp _ (f (k + nth (fun x => f (k + x)) (n - k) i)) tab = _
    rw [show k + nth (fun x => f (k + x)) (n - k) i = nth f n (j + i) by omega]

theorem wide_tail {f : Nat → Nat} {n j k : Nat} (hj : nth f n j = k) (hc : j ≤ cnt f n) (col tab : Nat) : wide (fun x => f (k + x)) (n - k) (wide f k col tab) tab = wide f n col tab := by
  rw [wide_head hj hc]
  unfold wide
  rw [cnt_tail hj hc, wid_tail hj hc col tab _ (Nat.le_refl _), show j + (cnt f n - j) = cnt f n by omega]

end Go.Proofs.PlatenGlyph
