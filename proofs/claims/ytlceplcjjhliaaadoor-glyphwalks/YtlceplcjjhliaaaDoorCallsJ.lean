/- A text parted where a sign begins: the signs and columns of its parts. What the program's At comes to. -/
import Derived.Test.YtlceplcjjhliaaaDoorCallsI
namespace Go.Proofs.PlatenGlyph
open Go.RowKit Go.Shelf
set_option linter.unusedVariables false

theorem nth_head {f : Nat → Nat} {n j k : Nat} (hj : nth f n j = k) : ∀ i, i ≤ j → nth f k i = nth f n i
  | 0, _ => rfl
  | i + 1, h => by
    have ih := nth_head hj i (by omega)
    have hkn : k ≤ n := by rw [← hj]; exact nth_le _ _ _
    have h1 : nth f n (i + 1) ≤ k := by rw [← hj]; exact nth_mono f n h
    have h2 := nth_succ_le f n i
    show nth f k i + szAt f k (nth f k i) = nth f n i + szAt f n (nth f n i)
    rw [ih]
    by_cases hx : nth f n i < k
    · have h3 : nth f n i + szAt f n (nth f n i) ≤ k := h1
      rw [szAt_less hkn hx h3]
    · have e : nth f n i = k := by omega
      by_cases hn : k < n
      · have := nth_strict (f := f) (n := n) (j := i) (k := j) (by omega) (by omega)
        omega
      · rw [szAt_out (by omega), szAt_out (by omega)]

theorem cnt_head {f : Nat → Nat} {n j k : Nat} (hj : nth f n j = k) (hc : j ≤ cnt f n) : cnt f k = j := by
  refine cnt_eq (by rw [nth_head hj j (Nat.le_refl _)]; exact hj) fun i hi => ?_
  rw [nth_head hj i (by omega), ← hj]
  exact nth_strict hi (cnt_lt (by omega))

theorem wid_head {f : Nat → Nat} {n j k : Nat} (hj : nth f n j = k) (hc : j ≤ cnt f n) (col tab : Nat) : ∀ i, i ≤ j → wid f k col tab i = wid f n col tab i
  | 0, _ => rfl
  | i + 1, h => by
    have ih := wid_head hj hc col tab i (by omega)
    have h1 : nth f n i < n := cnt_lt (by omega)
    have h2 : nth f k i < k := cnt_lt (by rw [cnt_head hj hc]; omega)
    rw [wid_succ h1, wid_succ h2, ih, nth_head hj i (by omega)]

theorem wide_head {f : Nat → Nat} {n j k : Nat} (hj : nth f n j = k) (hc : j ≤ cnt f n) (col tab : Nat) : wide f k col tab = wid f n col tab j := by
  unfold wide
  rw [cnt_head hj hc, wid_head hj hc col tab j (Nat.le_refl _)]

theorem nth_tail {f : Nat → Nat} {n j k : Nat} (hj : nth f n j = k) : ∀ i, nth (fun x => f (k + x)) (n - k) i + k = nth f n (j + i)
  | 0 => by show 0 + k = _; rw [Nat.zero_add]; exact hj.symm
  | i + 1 => by
    have ih := nth_tail hj i
    have hkn : k ≤ n := by rw [← hj]; exact nth_le _ _ _
    show nth (fun x => f (k + x)) (n - k) i + szAt (fun x => f (k + x)) (n - k) (nth (fun x => f (k + x)) (n - k) i) + k = nth f n (j + i) + szAt f n (nth f n (j + i))
    rw [szAt_shift f n k _ hkn, ← ih]
    rw [show k + nth (fun x => f (k + x)) (n - k) i = nth (fun x => f (k + x)) (n - k) i + k by omega]
    omega

theorem cnt_tail {f : Nat → Nat} {n j k : Nat} (hj : nth f n j = k) (hc : j ≤ cnt f n) : cnt (fun x => f (k + x)) (n - k) = cnt f n - j := by
  have hkn : k ≤ n := by rw [← hj]; exact nth_le _ _ _
  refine cnt_eq ?_ fun i hi => ?_
  · have := nth_tail hj (cnt f n - j)
    rw [show j + (cnt f n - j) = cnt f n by omega, cnt_end] at this
    omega
  · have := nth_tail hj i
    have h2 : nth f n (j + i) < n := cnt_lt (by omega)
    omega

theorem wid_tail {f : Nat → Nat} {n j k : Nat} (hj : nth f n j = k) (hc : j ≤ cnt f n) (col tab : Nat) : ∀ i, i ≤ cnt f n - j → wid (fun x => f (k + x)) (n - k) (wid f n col tab j) tab i = wid f n col tab (j + i)
  | 0, _ => rfl
  | i + 1, h => by
    have ih := wid_tail hj hc col tab i (by omega)
    have h1 : nth f n (j + i) < n := cnt_lt (by omega)
    have h2 : nth (fun x => f (k + x)) (n - k) i < n - k := cnt_lt (by rw [cnt_tail hj hc]; omega)
    have e := nth_tail hj i
    rw [wid_succ h2, ih, ← Nat.add_assoc, wid_succ h1]
    show stp _ (f (k + nth (fun x => f (k + x)) (n - k) i)) tab = _
    rw [show k + nth (fun x => f (k + x)) (n - k) i = nth f n (j + i) by omega]

theorem wide_tail {f : Nat → Nat} {n j k : Nat} (hj : nth f n j = k) (hc : j ≤ cnt f n) (col tab : Nat) : wide (fun x => f (k + x)) (n - k) (wide f k col tab) tab = wide f n col tab := by
  rw [wide_head hj hc]
  unfold wide
  rw [cnt_tail hj hc, wid_tail hj hc col tab _ (Nat.le_refl _), show j + (cnt f n - j) = cnt f n by omega]

set_option maxHeartbeats 1000000 in
theorem at_row (f : Nat → Nat) (b off n cap col tab : Nat) (w : World) (hf : ∀ j, f j < 256) (hn : n ≤ 100000) (hcap : n ≤ cap) (hT : Lib.Utf8Tabs 0 1 w) (hc : Cells w b off n f)
    (hcol : col ≤ 1000000) (h1 : 1 ≤ tab) (ht : tab ≤ 1000) :
    Calls Tryd.prog 30 #[.slice (some ⟨b, off, none⟩) n cap, .int .i64 col, .int .i64 tab] w fun e w' => ∃ x : Nat, e = .returned (.int .i64 x) ∧ IsAt f n col tab x ∧ Below w.heap.size w w' := by
  have hcn := cnt_le f n
  have HCE := hidden' (cnt_end f n)
  go_enter Tryd.func30, Tryd.ntmps30
  go_wp2
  go_loopw [7, 8] (fun c a w' => ∃ k : Nat, k ≤ cnt f n ∧ c = .int .i64 (wid f n 0 tab k : Nat) ∧ a = .int .i64 (nth f n k : Nat) ∧ Below w.heap.size w w' ∧ ∀ j, j < k → wid f n 0 tab (j + 1) ≤ col) (fun _ a _ => n - (intOf a).toNat)
  case atStart => exact ⟨0, Nat.zero_le _, rfl, rfl, Below.refl _ _, fun j hj => absurd hj (Nat.not_lt_zero _)⟩
  case round =>
    obtain ⟨k, hk, rfl, rfl, hb, hall⟩ := hrel
    have hend : nth f n k < n ∨ (nth f n k = n ∧ k = cnt f n) := by
      by_cases hlt : nth f n k < n
      · exact Or.inl hlt
      · refine Or.inr ⟨by have := nth_le f n k; omega, ?_⟩
        have := cnt_iff f n k; omega
    rcases hend with hlt | ⟨hlt, hkc⟩
    · have hk1 : k + 1 ≤ cnt f n := (cnt_iff f n k).1 hlt
      have hT' := tabs_below hT hb
      have hc' := hc.below hb
      have hcell := hc' _ hlt
      have hw := wid_le f n 0 tab h1 k
      have hkn : k ≤ n := Nat.le_trans hk (cnt_le f n)
      have hm : k * tab ≤ 100000 * 1000 := Nat.mul_le_mul (by omega) ht
      have hx := hf (nth f n k)
      have e1 := wid_succ (col := 0) (tab := tab) hlt
      have cs := step_any (wid f n 0 tab k) (f (nth f n k)) tab wr (by omega) (hf _) h1 (by omega)
      rw [← e1] at cs
      by_cases hgt : col < wid f n 0 tab (k + 1)
      · have HF : Hid (IsAt f n col tab (nth f n k)) := ⟨k, hk, rfl, hall, fun _ => hgt⟩
        have hgz : (col : Int) < (wid f n 0 tab (k + 1) : Nat) := by omega
        clear e1 hT hc hT' hc' hm hall
        generalize wid f n 0 tab (k + 1) = W' at *
        generalize wid f n 0 tab k = W at *
        generalize f (nth f n k) = x at *
        generalize nth f n k = A at *
        go_wp2_with (go_at_call 26; refine cs.mono ?_; rintro e w1 ⟨rfl, rfl⟩)
        go_ret
        exact ⟨A, rfl, HF.out, hb⟩
      · have HR : Hid (∀ j, j < k + 1 → wid f n 0 tab (j + 1) ≤ col) := fun j hj => by
          by_cases e : j = k
          · subst e; omega
          · exact hall j (by omega)
        have hgz : ¬ ((col : Int) < (wid f n 0 tab (k + 1) : Nat)) := by omega
        have cn := next_in f b off n cap (nth f n k) wr hf (by omega) hcap hT' hc' hlt
        have hs4 := szAt_le4 f n (nth f n k)
        have hs1 := szAt_pos (f := f) hlt
        have E2 : Hid (nth f n (k + 1) = nth f n k + szAt f n (nth f n k)) := rfl
        obtain ⟨W', hW'⟩ : ∃ W', wid f n 0 tab (k + 1) = W' := ⟨_, rfl⟩
        rw [hW'] at cs hgz
        have HW' := hidden' hW'
        clear e1 hT hc hT' hc' hm hall hgt hW'
        generalize szAt f n (nth f n k) = s at *
        generalize wid f n 0 tab k = W at *
        generalize f (nth f n k) = x at *
        generalize nth f n k = A at *
        go_wp2_with (first | (go_at_call 26; refine cs.mono ?_; rintro e w1 ⟨rfl, rfl⟩) | (go_at_call 15; refine cn.mono ?_; rintro e w1 ⟨rfl, hb1⟩))
        go_roundw
        case rel => exact ⟨k + 1, hk1, by rw [HW'.out], by rw [E2.out]; go_num, hb.trans (hb1.mono hb.size), HR.out⟩
        case measure => simp [intOf]; omega
    · have hz : ¬ ((nth f n k : Int) < (n : Int)) := by omega
      have HF : Hid (IsAt f n col tab n) := ⟨k, hk, hlt.symm, hall, fun hh => by omega⟩
      clear hkc hlt hall
      generalize wid f n 0 tab k = W at *
      generalize nth f n k = A at *
      go_wp2
      go_ret
      exact ⟨n, rfl, HF.out, hb⟩

set_option maxHeartbeats 400000 in
theorem at_any (v : Value) (f : Nat → Nat) (n col tab : Nat) (w : World) (hn : n ≤ 100000) (hT : Lib.Utf8Tabs 0 1 w) (h : IsBytes w v n f) (hcol : col ≤ 1000000) (h1 : 1 ≤ tab) (ht : tab ≤ 1000) :
    Calls Tryd.prog 30 #[v, .int .i64 col, .int .i64 tab] w fun e w' => ∃ x : Nat, e = .returned (.int .i64 x) ∧ IsAt f n col tab x ∧ Below w.heap.size w w' := by
  obtain ⟨hf, _, h⟩ := h
  rcases h with ⟨_, _, rfl, rfl⟩ | ⟨b, off, cap, rfl, hcap, hc⟩
  · have Hfin : Hid (IsAt f 0 col tab 0) := ⟨0, Nat.zero_le _, rfl, fun j hj => absurd hj (Nat.not_lt_zero _), fun hh => absurd hh (by rw [cnt_nil]; exact Nat.lt_irrefl _)⟩
    clear hT
    go_enter Tryd.func30, Tryd.ntmps30
    go_wp2
    go_loop [7, 8] (fun c a => c = .int .i64 0 ∧ a = .int .i64 0) (fun _ _ => 0)
    case atStart => exact ⟨rfl, rfl⟩
    case round =>
      obtain ⟨rfl, rfl⟩ := hrel
      go_wp2
      go_ret
      exact ⟨0, rfl, Hfin.out, Below.refl _ _⟩
  · exact at_row f b off n cap col tab w hf hn hcap hT hc hcol h1 ht
end Go.Proofs.PlatenGlyph
