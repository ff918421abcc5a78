/- What the document's Floor, Wide and At and the program's At come to. -/
import Derived.Test.YtlceplcjjhliaaaDoorCallsG
namespace Go.Proofs.PlatenGlyph
open Go.RowKit Go.Shelf
set_option linter.unusedVariables false

set_option maxHeartbeats 400000 in
theorem starts_none (a : Option Addr) (cap : Nat) (w : World) :
    Calls Tryd.prog 23 #[.slice a 0 cap] w fun e w' => e = .returned (.slice none 0 0) ∧ w' = w := by
  go_enter Tryd.func23, Tryd.ntmps23
  go_wp2
  go_loop [3, 4] (fun l a => l = .slice none 0 0 ∧ a = .int .i64 0) (fun _ _ => 0)
  case atStart => exact ⟨rfl, rfl⟩
  case round =>
    obtain ⟨rfl, rfl⟩ := hrel
    go_wp2
    go_ret
    exact ⟨rfl, rfl⟩

theorem starts_any (v : Value) (f : Nat → Nat) (n : Nat) (w : World) (hn : n ≤ 100000) (h : IsBytes w v n f) :
    Calls Tryd.prog 23 #[v] w fun e w' => ∃ l, e = .returned l ∧ IsInts w' l (cnt f n) (nth f n) ∧ Below w.heap.size w w' := by
  obtain ⟨hf, _, h⟩ := h
  rcases h with ⟨_, _, rfl, rfl⟩ | ⟨b, off, cap, rfl, hcap, hc⟩
  · exact (starts_none _ _ w).mono fun e w' ⟨he, hw⟩ => ⟨_, he, Or.inl ⟨rfl, rfl⟩, hw ▸ Below.refl _ _⟩
  · exact (starts_row f b off n cap w hf hn hcap hc).mono fun e w' ⟨l, he, ho, hb⟩ => ⟨l, he, isInts_of ho, hb⟩

theorem isBytes_len {w : World} {v : Value} {n : Nat} {f : Nat → Nat} (h : IsBytes w v n f) : ∃ a cap, v = .slice a n cap := by
  rcases h.2.2 with ⟨a, cap, rfl, rfl⟩ | ⟨b, off, cap, rfl, _, _⟩
  · exact ⟨_, _, rfl⟩
  · exact ⟨_, _, rfl⟩

/-- The document's Floor, of any place. -/
def rfloorZ (f : Nat → Nat) (n : Nat) (a : Int) : Int := if (n : Int) ≤ a then n else if a < 0 then 0 else (flo f n a.toNat : Int)

def flrZ (f : Nat → Nat) (n : Nat) (a : Int) (k : Nat) : Nat := if a < 0 then 0 else flr f n a.toNat k
theorem flrZ_succ (f : Nat → Nat) (n : Nat) (a : Int) (k : Nat) : flrZ f n a (k + 1) = if (nth f n k : Int) ≤ a then nth f n k else flrZ f n a k := by
  unfold flrZ
  by_cases h : a < 0
  · rw [if_pos h, if_pos h, if_neg (by omega)]
  · rw [if_neg h, if_neg h]
    simp only [flr]
    by_cases h2 : nth f n k ≤ a.toNat
    · rw [if_pos h2, if_pos (by omega)]
    · rw [if_neg h2, if_neg (by omega)]

set_option maxHeartbeats 1000000 in
theorem rfloor_any (v : Value) (f : Nat → Nat) (n : Nat) (a : Int) (w : World) (hn : n ≤ 100000) (h : IsBytes w v n f) :
    Calls Tryd.prog 20 #[v, .int .i64 a] w fun e w' => e = .returned (.int .i64 (rfloorZ f n a)) ∧ Below w.heap.size w w' := by
  have cs := starts_any v f n w hn h
  obtain ⟨ea, ecap, rfl⟩ := isBytes_len h
  clear h
  by_cases h1 : (n : Int) ≤ a
  · have Hfin : Hid (rfloorZ f n a = n) := by unfold Hid rfloorZ; rw [if_pos h1]
    have h2 : a ≥ (n : Int) := by omega
    go_enter Tryd.func20, Tryd.ntmps20
    go_wp2
    go_ret
    exact ⟨by rw [Hfin.out]; rfl, Below.refl _ _⟩
  · have Hfin : Hid (rfloorZ f n a = (flrZ f n a (cnt f n) : Nat)) := by
      unfold Hid rfloorZ flrZ flo; rw [if_neg h1]; split <;> rfl
    have h2 : ¬ (a ≥ (n : Int)) := by omega
    have hcn := cnt_le f n
    go_enter Tryd.func20, Tryd.ntmps20
    go_wp2_with fail
    refine cs.mono ?_
    rintro e w1 ⟨l, rfl, hl, hb⟩
    rcases hl with ⟨rfl, hc0⟩ | ⟨g, cap, rfl, hl⟩
    · have Hf0 : Hid (flrZ f n a (cnt f n) = 0) := by unfold Hid flrZ; rw [hc0]; simp [flr]
      clear hc0 cs
      go_wp2
      go_loop [5, 7] (fun x i => x = .int .i64 0 ∧ i = .int .i64 0) (fun _ _ => 0)
      case atStart => exact ⟨rfl, rfl⟩
      case round =>
        obtain ⟨rfl, rfl⟩ := hrel
        go_wp2
        go_ret
        exact ⟨by rw [Hfin.out, Hf0.out]; rfl, hb⟩
    · clear cs
      obtain ⟨c, hc⟩ : ∃ c, cnt f n = c := ⟨_, rfl⟩
      rw [hc] at hl hcn
      rw [hc]
      have HC := hidden' hc
      clear hc
      go_wp2
      go_loop [5, 7] (fun x i => ∃ k : Nat, k ≤ c ∧ i = .int .i64 k ∧ x = .int .i64 (flrZ f n a k : Nat)) (fun _ i => c - (intOf i).toNat)
      case atStart => exact ⟨0, Nat.zero_le _, rfl, by unfold flrZ flr; simp⟩
      case round =>
        obtain ⟨k, hk, rfl, rfl⟩ := hrel
        by_cases hlt : k < c
        · have hcell := hl k hlt
          have hs := flrZ_succ f n a k
          by_cases hle : (nth f n k : Int) ≤ a
          · have HS : Hid (flrZ f n a (k + 1) = nth f n k) := by unfold Hid; rw [hs, if_pos hle]
            clear hs hl
            generalize nth f n k = A at *
            generalize flrZ f n a k = X at *
            go_wp2
            go_round
            case rel => exact ⟨k + 1, by omega, by go_num, by rw [HS.out]⟩
            case measure => simp [intOf]; omega
          · have HS : Hid (flrZ f n a (k + 1) = flrZ f n a k) := by unfold Hid; rw [hs, if_neg hle]
            clear hs hl
            generalize nth f n k = A at *
            generalize flrZ f n a k = X at *
            go_wp2
            go_round
            case rel => exact ⟨k + 1, by omega, by go_num, by rw [HS.out]⟩
            case measure => simp [intOf]; omega
        · have hkc : k = c := by omega
          subst hkc
          have HF : Hid (rfloorZ f n a = (flrZ f n a k : Nat)) := by unfold Hid; rw [Hfin.out, HC.out]
          clear hl
          generalize flrZ f n a k = X at *
          go_wp2
          go_ret
          exact ⟨by rw [HF.out]; rfl, hb⟩
end Go.Proofs.PlatenGlyph
