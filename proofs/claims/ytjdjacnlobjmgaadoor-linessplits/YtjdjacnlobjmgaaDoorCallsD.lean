/- What glyph.Wide and glyph.Floor come to. -/
import Derived.Test.YtjdjacnlobjmgaaDoorCallsC
namespace Go.Proofs.PlatenGlyph
open Go.RowKit Go.Shelf
set_option linter.unusedVariables false

/-- The column behind the first k signs. -/
def wid (f : Nat → Nat) (n col tab : Nat) : Nat → Nat
  | 0 => col
  | k + 1 => if nth f n k < n then stp (wid f n col tab k) (f (nth f n k)) tab else wid f n col tab k
/-- The column behind all of them. -/
def wide (f : Nat → Nat) (n col tab : Nat) : Nat := wid f n col tab (cnt f n)

theorem wid_le (f : Nat → Nat) (n col tab : Nat) (h : 1 ≤ tab) : ∀ k, wid f n col tab k ≤ col + k * tab
  | 0 => by simp [wid]
  | k + 1 => by
    have ih := wid_le f n col tab h k
    have := stp_lt (wid f n col tab k) (f (nth f n k)) tab h
    unfold wid
    rw [Nat.add_mul]
    split <;> omega

set_option maxHeartbeats 400000 in
theorem wide_row (f : Nat → Nat) (b off n cap col tab : Nat) (w : World) (hf : ∀ j, f j < 256) (hn : n ≤ 100000) (hcap : n ≤ cap) (hT : Lib.Utf8Tabs 1 2 w) (hc : Cells w b off n f)
    (hcol : col ≤ 1000000) (h1 : 1 ≤ tab) (ht : tab ≤ 1000) :
    Calls Tryd.prog 36 #[.slice (some ⟨b, off, none⟩) n cap, .int .i64 col, .int .i64 tab] w fun e w' => e = .returned (.int .i64 (wide f n col tab)) ∧ Below w.heap.size w w' := by
  go_enter Tryd.func36, Tryd.ntmps36
  go_wp2
  go_loopw [1, 7] (fun c a w' => ∃ k : Nat, k ≤ cnt f n ∧ c = .int .i64 (wid f n col tab k : Nat) ∧ a = .int .i64 (nth f n k : Nat) ∧ Below w.heap.size w w') (fun _ a _ => n - (intOf a).toNat)
  case atStart => exact ⟨0, Nat.zero_le _, rfl, rfl, Below.refl _ _⟩
  case round =>
    obtain ⟨k, hk, rfl, rfl, hb⟩ := hrel
    have hend : nth f n k < n ∨ (nth f n k = n ∧ k = cnt f n) := by
      by_cases hlt : nth f n k < n
      · exact Or.inl hlt
      · refine Or.inr ⟨by have := nth_le f n k; omega, ?_⟩
        have := cnt_iff f n k; omega
    rcases hend with hlt | ⟨hlt, hkc⟩
    · have hk1 : k + 1 ≤ cnt f n := (cnt_iff f n k).1 hlt
      have hT' := tabs_below hT hb
      have hc' := hc.below hb
      have hcell := hc' _ hlt
      have hw := wid_le f n col tab h1 k
      have hkn : k ≤ n := Nat.le_trans hk (cnt_le f n)
      have hm : k * tab ≤ 100000 * 1000 := Nat.mul_le_mul (by omega) ht
      have hx := hf (nth f n k)
      have e1 : wid f n col tab (k + 1) = stp (wid f n col tab k) (f (nth f n k)) tab := by simp only [wid]; rw [if_pos hlt]
      have e2 : nth f n (k + 1) = nth f n k + szAt f n (nth f n k) := rfl
      have cs := step_any (wid f n col tab k) (f (nth f n k)) tab wr (by omega) (hf _) h1 (by omega)
      have cn := next_in f b off n cap (nth f n k) wr hf (by omega) hcap hT' hc' hlt
      have hs4 := szAt_le4 f n (nth f n k)
      have hs1 := szAt_pos (f := f) hlt
      have E1 : Hid (wid f n col tab (k + 1) = stp (wid f n col tab k) (f (nth f n k)) tab) := e1
      have E2 : Hid (nth f n (k + 1) = nth f n k + szAt f n (nth f n k)) := e2
      clear e1 e2 hT hc hT' hc' hm
      generalize szAt f n (nth f n k) = s at *
      generalize stp (wid f n col tab k) (f (nth f n k)) tab = W' at *
      generalize wid f n col tab k = W at *
      generalize f (nth f n k) = x at *
      generalize nth f n k = A at *
      go_wp2_with (first | (go_at_call 46; refine cs.mono ?_; rintro e w1 ⟨rfl, rfl⟩) | (go_at_call 45; refine cn.mono ?_; rintro e w1 ⟨rfl, hb1⟩))
      go_roundw
      case rel => exact ⟨k + 1, hk1, by rw [E1.out], by rw [E2.out]; go_num, hb.trans (hb1.mono hb.size)⟩
      case measure => simp [intOf]; omega
    · have hz : ¬ ((nth f n k : Int) < (n : Int)) := by omega
      have Hfin : Hid (wide f n col tab = wid f n col tab k) := by unfold Hid wide; rw [← hkc]
      clear hkc hlt
      generalize wid f n col tab k = W at *
      generalize nth f n k = A at *
      go_wp2
      go_ret
      exact ⟨by rw [Hfin.out]; rfl, hb⟩

theorem cnt_nil (f : Nat → Nat) : cnt f 0 = 0 := rfl

set_option maxHeartbeats 400000 in
theorem wide_any (v : Value) (f : Nat → Nat) (n col tab : Nat) (w : World) (hn : n ≤ 100000) (hT : Lib.Utf8Tabs 1 2 w) (h : IsBytes w v n f) (hcol : col ≤ 1000000) (h1 : 1 ≤ tab) (ht : tab ≤ 1000) :
    Calls Tryd.prog 36 #[v, .int .i64 col, .int .i64 tab] w fun e w' => e = .returned (.int .i64 (wide f n col tab)) ∧ Below w.heap.size w w' := by
  obtain ⟨hf, _, h⟩ := h
  rcases h with ⟨_, _, rfl, rfl⟩ | ⟨b, off, cap, rfl, hcap, hc⟩
  · have Hfin : Hid (wide f 0 col tab = col) := rfl
    clear hT
    go_enter Tryd.func36, Tryd.ntmps36
    go_wp2
    go_loop [1, 7] (fun c a => c = .int .i64 col ∧ a = .int .i64 0) (fun _ _ => 0)
    case atStart => exact ⟨rfl, rfl⟩
    case round =>
      obtain ⟨rfl, rfl⟩ := hrel
      go_wp2
      go_ret
      exact ⟨by rw [Hfin.out]; rfl, Below.refl _ _⟩
  · exact wide_row f b off n cap col tab w hf hn hcap hT hc hcol h1 ht

/-- The last sign that begins at i or ahead of it, of the first k. -/
def flr (f : Nat → Nat) (n i : Nat) : Nat → Nat
  | 0 => 0
  | k + 1 => if nth f n k ≤ i then nth f n k else flr f n i k
def flo (f : Nat → Nat) (n i : Nat) : Nat := flr f n i (cnt f n)
def floorZ (f : Nat → Nat) (n : Nat) (a : Int) : Int := if a ≤ 0 then 0 else if (n : Int) ≤ a then n else (flo f n a.toNat : Int)

theorem flo_of {f : Nat → Nat} {n i k : Nat} (hi : i < n) (h1 : nth f n k ≤ i) (h2 : i < nth f n (k + 1)) : flo f n i = nth f n k := by
  have hk : k < cnt f n := (cnt_iff f n k).1 (by omega)
  have : ∀ d, flr f n i (k + 1 + d) = nth f n k := by
    intro d
    induction d with
    | zero => simp only [flr]; rw [if_pos h1]
    | succ d ih =>
      show (if nth f n (k + 1 + d) ≤ i then nth f n (k + 1 + d) else flr f n i (k + 1 + d)) = nth f n k
      have := nth_mono f n (show k + 1 ≤ k + 1 + d by omega)
      rw [if_neg (by omega), ih]
  have := this (cnt f n - (k + 1))
  rwa [show k + 1 + (cnt f n - (k + 1)) = cnt f n by omega] at this

theorem flo_start {f : Nat → Nat} {n i st : Nat} (hi : i < n) (hs : st ≤ i) (hc : ¬ (128 ≤ f st ∧ f st ≤ 191)) (h : i < st + szAt f n st) : flo f n i = st := by
  obtain ⟨k, hk⟩ := nth_start (f := f) (n := n) (i := st) (by omega) hc
  rw [flo_of hi (k := k) (by omega) (by show i < nth f n k + szAt f n (nth f n k); rw [hk]; exact h), hk]

theorem flo_self {f : Nat → Nat} {n i : Nat} (hi : i < n) (H : ∀ j, j < i → i ≤ j + 3 → 194 ≤ f j → i < j + szAt f n j → False) : flo f n i = i := by
  obtain ⟨k, h1, h2⟩ := nth_cover f n i hi
  rw [flo_of hi h1 h2]
  by_cases e : nth f n k = i
  · exact e
  · have h2' : i < nth f n k + szAt f n (nth f n k) := h2
    have h4 := szAt_le4 f n (nth f n k)
    exact absurd (H (nth f n k) (by omega) (by omega) (szAt_head (n := n) (by omega)) h2') id

end Go.Proofs.PlatenGlyph
