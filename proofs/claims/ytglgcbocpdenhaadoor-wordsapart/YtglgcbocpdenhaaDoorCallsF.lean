/- What the document's Last comes to, at any bytes and any place. -/
import Derived.Test.YtglgcbocpdenhaaDoorCallsE
namespace Go.Proofs.PlatenGlyph
open Go.RowKit Go.Shelf
set_option linter.unusedVariables false

theorem lastAt_found {f : Nat → Nat} {k m : Nat} (h2 : 2 ≤ m) (h4 : m ≤ 4) (hk : m ≤ k) (hno : ∀ j, 2 ≤ j → j < m → szAt f k (k - j) ≠ j) (h : szAt f k (k - m) = m) : lastAt f k = m := by
  have : m = 2 ∨ m = 3 ∨ m = 4 := by omega
  rcases this with rfl | rfl | rfl
  · exact last2 hk h
  · exact last3 hk (fun c => hno 2 (by omega) (by omega) c.2) h
  · exact last4 hk (fun c => hno 2 (by omega) (by omega) c.2) (fun c => hno 3 (by omega) (by omega) c.2) h
theorem lastAt_none {f : Nat → Nat} {k m : Nat} (h0 : 0 < k) (hm : m = 5 ∨ k < m) (hno : ∀ j, 2 ≤ j → j < m → szAt f k (k - j) ≠ j) : lastAt f k = 1 :=
  last1 (by omega) (fun c => hno 2 (by omega) (by omega) c.2) (fun c => hno 3 (by omega) (by omega) c.2) (fun c => hno 4 (by omega) (by omega) c.2)

set_option maxHeartbeats 400000 in
theorem rlast_out (v : Value) (f : Nat → Nat) (n : Nat) (a : Int) (w : World) (h : IsBytes w v n f) (ha : ¬ (0 < a ∧ a ≤ n)) :
    Calls Tryd.prog 33 #[v, .int .i64 a] w fun e w' => e = .returned (.int .i64 0) ∧ w' = w := by
  obtain ⟨hf, hn, h⟩ := h
  rcases h with ⟨ea, ecap, rfl, rfl⟩ | ⟨b, off, cap, rfl, hc, hr⟩
  · by_cases h0 : a ≤ 0
    · go_enter Tryd.func33, Tryd.ntmps33
      go_wp2
      go_ret
      exact ⟨rfl, rfl⟩
    · have h1 : 0 < a := by omega
      go_enter Tryd.func33, Tryd.ntmps33
      go_wp2
      go_ret
      exact ⟨rfl, rfl⟩
  · clear hr
    by_cases h0 : a ≤ 0
    · go_enter Tryd.func33, Tryd.ntmps33
      go_wp2
      go_ret
      exact ⟨rfl, rfl⟩
    · have h1 : (n : Int) < a := by omega
      go_enter Tryd.func33, Tryd.ntmps33
      go_wp2
      go_ret
      exact ⟨rfl, rfl⟩

set_option maxHeartbeats 400000 in
theorem rlast_in (f : Nat → Nat) (b off n cap k : Nat) (w : World) (hf : ∀ j, f j < 256) (hn : n ≤ 9223372036854775806) (hcap : n ≤ cap) (hc : Cells w b off n f) (h0 : 0 < k) (hk : k ≤ n) :
    Calls Tryd.prog 33 #[.slice (some ⟨b, off, none⟩) n cap, .int .i64 k] w fun e w' => e = .returned (.int .i64 (lastAt f k)) ∧ w' = w := by
  have g0 : ¬ ((k : Int) ≤ 0) := by omega
  have g1 : ¬ ((n : Int) < (k : Int)) := by omega
  go_enter Tryd.func33, Tryd.ntmps33
  go_wp2
  go_loop [5] (fun i => ∃ m : Nat, 2 ≤ m ∧ m ≤ 5 ∧ i = .int .i64 m ∧ ∀ j, 2 ≤ j → j < m → szAt f k (k - j) ≠ j) (fun i => 5 - (intOf i).toNat)
  case atStart => exact ⟨2, by omega, by omega, rfl, fun j h1 h2 => by omega⟩
  case round =>
    obtain ⟨m, hm2, hm5, rfl, hno⟩ := hrel
    by_cases h4 : m ≤ 4
    · have h4' : (m : Int) ≤ 4 := by omega
      by_cases hmk : m ≤ k
      · have hmk' : (m : Int) ≤ (k : Int) := by omega
        obtain ⟨d, hd⟩ : ∃ d, k - m = d := ⟨_, rfl⟩
        have hsub : (k : Int) - (m : Int) = (d : Int) := by omega
        have cz := size_in f b off k cap d w hf (by omega) (hc.head hk) (by omega)
        by_cases hs : szAt f k d = m
        · have Hfin : Hid (lastAt f k = m) := lastAt_found hm2 h4 hmk hno (by rw [hd]; exact hs)
          rw [hs] at cz
          clear hno hc hs hd
          go_wp2_with (go_at_call 35; refine cz.mono ?_; rintro e w1 ⟨rfl, rfl⟩)
          go_ret
          exact ⟨by rw [Hfin.out]; rfl, rfl⟩
        · have hnext : Hid (∀ j, 2 ≤ j → j < m + 1 → szAt f k (k - j) ≠ j) := fun j h1 h2 => by
            by_cases e : j = m
            · subst e; rw [hd]; exact hs
            · exact hno j h1 (by omega)
          have hb : (((szAt f k d : Nat) : Int) == (m : Int)) = false := by simp; omega
          clear hno hc hs hd
          generalize szAt f k d = s at *
          go_wp2_with (go_at_call 35; refine cz.mono ?_; rintro e w1 ⟨rfl, rfl⟩)
          go_round
          case rel => exact ⟨m + 1, by omega, by omega, by go_num, hnext.out⟩
          case measure => simp [intOf]; omega
      · have hmk' : ¬ ((m : Int) ≤ (k : Int)) := by omega
        have Hfin : Hid (lastAt f k = 1) := lastAt_none h0 (Or.inr (by omega)) hno
        clear hno hc
        go_wp2
        go_ret
        exact ⟨by rw [Hfin.out]; rfl, rfl⟩
    · have h4' : ¬ ((m : Int) ≤ 4) := by omega
      have Hfin : Hid (lastAt f k = 1) := lastAt_none h0 (Or.inl (by omega)) hno
      clear hno hc
      go_wp2
      go_ret
      exact ⟨by rw [Hfin.out]; rfl, rfl⟩

theorem rlast_any (v : Value) (f : Nat → Nat) (n : Nat) (a : Int) (w : World) (h : IsBytes w v n f) :
    Calls Tryd.prog 33 #[v, .int .i64 a] w fun e w' => e = .returned (.int .i64 (prevZ f n a)) ∧ w' = w := by
  by_cases ha : 0 < a ∧ a ≤ n
  · obtain ⟨hf, hn, h⟩ := h
    rcases h with ⟨_, _, rfl, rfl⟩ | ⟨b, off, cap, rfl, hcap, hc⟩
    · omega
    · have hk : ((a.toNat : Nat) : Int) = a := Int.toNat_of_nonneg (by omega)
      have := rlast_in f b off n cap a.toNat w hf hn hcap hc (by omega) (by omega)
      rw [hk] at this
      unfold prevZ
      rw [if_pos ha]
      exact this
  · unfold prevZ
    rw [if_neg ha]
    exact rlast_out v f n a w h ha
end Go.Proofs.PlatenGlyph
