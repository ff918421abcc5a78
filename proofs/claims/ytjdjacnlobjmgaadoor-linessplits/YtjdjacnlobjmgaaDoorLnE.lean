/- What bytes.LastIndexByte (for a line end), lines.Column, lines.Indent, lines.Bare come to. -/
import Derived.Test.YtjdjacnlobjmgaaDoorLnD
namespace Go.Proofs.PlatenLines
open Go.RowKit Go.Shelf Go.Proofs.PlatenGlyph
set_option linter.unusedVariables false

theorem lc_free {f : Nat → Nat} {j : Nat} : ∀ d, (∀ x, j ≤ x → x < j + d → f x ≠ 10) → lc f (j + d) = lc f j
  | 0, _ => rfl
  | d + 1, h => by
    rw [← Nat.add_assoc, lc_no (h (j + d) (by omega) (by omega))]
    exact lc_free d (fun x h1 h2 => h x h1 (by omega))
theorem last_beg {f : Nat → Nat} {j k : Nat} (hjk : j ≤ k) (h : ∀ x, j ≤ x → x < k → f x ≠ 10) (hj : j = 0 ∨ f (j - 1) = 10) : beg f k (lc f k) = j := by
  have e := lc_free (f := f) (j := j) (k - j) (fun x h1 h2 => h x h1 (by omega))
  rw [show j + (k - j) = k by omega] at e
  rw [e]
  rcases hj with rfl | hj
  · rfl
  · cases j with
    | zero => rfl
    | succ i =>
      simp at hj
      rw [lc_yes hj, beg_succ, endAt_of (by omega) hj]
theorem beg_pre {f : Nat → Nat} {n k j : Nat} (hk : k ≤ n) (hj : j ≤ lc f k) : beg f k j = beg f n j := by
  cases j with
  | zero => rfl
  | succ i =>
    rw [beg_succ, beg_succ]
    obtain ⟨h1, h2, h3⟩ := endAt_spec (show i < lc f k by omega)
    have := endAt_of (f := f) (n := n) (j := endAt f k i) (by omega) h2
    rw [h3] at this
    rw [this]

set_option maxHeartbeats 1000000 in
theorem last_row (f : Nat → Nat) (b off n cap : Nat) (w : World) (hf : ∀ j, f j < 256) (hn : n ≤ 1000000) (hcap : n ≤ cap) (hc : Cells w b off n f) :
    Calls Tryd.prog 44 #[.slice (some ⟨b, off, none⟩) n cap, .int .u8 10] w fun e w' => e = .returned (.int .i64 ((beg f n (lc f n) : Nat) - 1 : Int)) ∧ w' = w := by
  have Hfin : ∀ j, j ≤ n → (∀ x, j ≤ x → x < n → f x ≠ 10) → (j = 0 ∨ f (j - 1) = 10) → beg f n (lc f n) = j := fun j h1 h2 h3 => last_beg h1 h2 h3
  have HF := hidden Hfin
  generalize beg f n (lc f n) = R at *
  clear Hfin
  go_enter Tryd.func44, Tryd.ntmps44
  go_wp2
  go_loop [5] (fun i => ∃ j : Nat, j ≤ n ∧ i = .int .i64 ((j : Int) - 1) ∧ ∀ x, j ≤ x → x < n → f x ≠ 10) (fun i => (intOf i + 1).toNat)
  case atStart => exact ⟨n, Nat.le_refl _, rfl, fun x h1 h2 => by omega⟩
  case round =>
    obtain ⟨j, hj, rfl, hfree⟩ := hrel
    by_cases h0 : j = 0
    · subst h0
      have HR := hidden (HF.out 0 hj hfree (Or.inl rfl))
      clear hfree
      go_wp2
      go_ret
      exact ⟨by rw [HR.out]; rfl, rfl⟩
    · obtain ⟨i, rfl⟩ : ∃ i, j = i + 1 := ⟨j - 1, by omega⟩
      have e1 : (((i + 1 : Nat) : Int) - 1) = (i : Int) := by omega
      have g := hc i (by omega)
      have hx := hf i
      rw [e1]
      by_cases h10 : f i = 10
      · have HR := hidden (HF.out (i + 1) hj hfree (Or.inr (by simpa using h10)))
        have hb : ((f i : Int) == 10) = true := by simp [h10]
        clear hfree h10 hc
        generalize f i = y at *
        go_wp2
        go_ret
        exact ⟨by rw [HR.out, e1]; rfl, rfl⟩
      · have HR : Hid (∀ x, i ≤ x → x < n → f x ≠ 10) := fun x h1 h2 => by
          by_cases e : x = i
          · rw [e]; exact h10
          · exact hfree x (by omega) h2
        have hb : ((f i : Int) == 10) = false := by simp; omega
        clear hfree h10 hc e1
        generalize f i = y at *
        go_wp2
        go_round
        case rel => exact ⟨i, by omega, rfl, HR.out⟩
        case measure => simp [intOf]
set_option maxHeartbeats 400000 in
theorem last_none (ea : Option Addr) (w : World) :
    Calls Tryd.prog 44 #[.slice ea 0 0, .int .u8 10] w fun e w' => e = .returned (.int .i64 (-1)) ∧ w' = w := by
  go_enter Tryd.func44, Tryd.ntmps44
  go_wp2
  go_loop [5] (fun i => i = .int .i64 (-1)) (fun i => 0)
  case atStart => rfl
  case round =>
    subst hrel
    go_wp2
    go_ret
    exact ⟨rfl, rfl⟩
set_option maxHeartbeats 400000 in
theorem last_any (v : Value) (n : Nat) (f : Nat → Nat) (w : World) (hn : n ≤ 1000000) (h : IsRow w v n f) :
    Calls Tryd.prog 35 #[v, .int .u8 10] w fun e w' => e = .returned (.int .i64 ((beg f n (lc f n) : Nat) - 1 : Int)) ∧ w' = w := by
  have c : Calls Tryd.prog 44 #[v, .int .u8 10] w fun e w' => e = .returned (.int .i64 ((beg f n (lc f n) : Nat) - 1 : Int)) ∧ w' = w := by
    obtain ⟨hf, _, h⟩ := h
    rcases h with ⟨ea, rfl, rfl⟩ | ⟨b, off, cap, rfl, hcap, hc⟩
    · exact last_none ea w
    · exact last_row f b off n cap w hf hn hcap hc
  clear h
  generalize beg f n (lc f n) = R at *
  go_enter Tryd.func35, Tryd.ntmps35
  go_wp2_with fail
  refine c.mono ?_
  rintro e w' ⟨rfl, rfl⟩
  go_wp2
  go_ret
  exact ⟨rfl, rfl⟩

/-- The column of a place. -/
def colAt (f : Nat → Nat) (n : Nat) (a : Int) (tab : Nat) : Nat :=
  wide (fun j => f (beg f n (lc f (clamp n a)) + j)) (clamp n a - beg f n (lc f (clamp n a))) 0 tab

theorem max1 (tab : Int) (T : Nat) (hT : max tab 1 = T) : 1 ≤ T := by omega

set_option maxHeartbeats 1000000 in
theorem column_any (v : Value) (n : Nat) (f : Nat → Nat) (a tab : Int) (T : Nat) (w : World) (hn : n ≤ 100000) (h : IsRow w v n f) (hmT : max tab 1 = T) (ht : T ≤ 1000) (hT : Lib.Utf8Tabs 1 2 w) :
    Calls Tryd.prog 25 #[v, .int .i64 a, .int .i64 tab] w fun e w' => e = .returned (.int .i64 (colAt f n a T : Nat)) ∧ Below w.heap.size w w' := by
  have c1 := before_any v n f a w h
  have hl := clamp_le n a
  have h1 : 1 ≤ T := by omega
  unfold colAt
  rw [← beg_pre hl (Nat.le_refl _)]
  generalize clamp n a = k at *
  obtain ⟨B, hB⟩ : ∃ B, beg f k (lc f k) = B := ⟨_, rfl⟩
  have hBk : B ≤ k := by rw [← hB]; exact beg_le_n (Nat.le_refl _)
  rw [hB]
  have HB := hidden hB
  obtain ⟨R, hR⟩ : ∃ R, wide (fun j => f (B + j)) (k - B) 0 T = R := ⟨_, rfl⟩
  rw [hR]
  have HR := hidden hR
  clear h hB hR
  go_enter Tryd.func25, Tryd.ntmps25
  go_wp2_with fail
  refine c1.mono ?_
  rintro e w' ⟨v', rfl, hr, rfl⟩
  have c2 := last_any v' k f _ (by omega) hr
  rw [HB.out] at c2
  have Hr := hidden hr
  clear hr c1
  go_wp2_with fail
  refine c2.mono ?_
  rintro e w' ⟨rfl, rfl⟩
  obtain ⟨hf, _, hr⟩ := Hr.out
  have z0 : ((B : Int) - 1 + 1) = B := by omega
  rcases hr with ⟨ea, rfl, rfl⟩ | ⟨b, off, cap, rfl, hcap, hc⟩
  · obtain rfl : B = 0 := by omega
    have c3 := wide_any (.slice ea 0 0) (fun j => f (0 + j)) 0 0 T w' (by omega) hT ⟨fun j => hf _, by omega, Or.inl ⟨_, _, rfl, rfl⟩⟩ (by omega) h1 ht
    rw [HR.out] at c3
    clear hf hT c2 Hr
    cases ea with
    | none =>
      go_wp2_with fail
      refine c3.mono ?_
      rintro e w2 ⟨rfl, hb⟩
      go_wp2
      go_ret
      exact ⟨rfl, hb⟩
    | some x =>
      go_wp2_with fail
      refine c3.mono ?_
      rintro e w2 ⟨rfl, hb⟩
      go_wp2
      go_ret
      exact ⟨rfl, hb⟩
  · by_cases z2 : cap = B
    · subst z2
      have hk : k = cap := by omega
      subst hk
      have c3 := wide_any (.slice (some ⟨b, off, none⟩) 0 0) (fun j => f (k + j)) 0 0 T w' (by omega) hT ⟨fun j => hf _, by omega, Or.inl ⟨_, _, rfl, rfl⟩⟩ (by omega) h1 ht
      rw [Nat.sub_self] at HR
      rw [HR.out] at c3
      clear hf hT c2 Hr hc
      go_wp2_with fail
      refine c3.mono ?_
      rintro e w2 ⟨rfl, hb⟩
      go_wp2
      go_ret
      exact ⟨rfl, hb⟩
    · have c3 := wide_any (.slice (some ⟨b, off + B, none⟩) (k - B) (cap - B)) (fun j => f (B + j)) (k - B) 0 T w' (by omega) hT
        ⟨fun j => hf _, by omega, Or.inr ⟨b, off + B, cap - B, rfl, by omega, hc.tail B⟩⟩ (by omega) h1 ht
      rw [HR.out] at c3
      clear hf hT c2 Hr hc
      go_wp2_with fail
      refine c3.mono ?_
      rintro e w2 ⟨rfl, hb⟩
      go_wp2
      go_ret
      exact ⟨rfl, hb⟩
end Go.Proofs.PlatenLines
