/- What lines.start and lines.Span come to, at any bytes and any number of a line. -/
import Derived.Test.YtjdjacnlobjmgaaDoorLnA
import Derived.Shelf.Bytes.SlIndexAt
namespace Go.Proofs.PlatenLines
open Go.RowKit Go.Shelf Go.Proofs.PlatenGlyph
set_option linter.unusedVariables false

theorem index_empty (a : Option Addr) (c : Nat) (hc : a = none → c = 0) (w : World) :
    Calls Tryd.prog 31 #[.slice a 0 c, .int .u8 10] w fun e w' => e = .returned (.int .i64 (-1)) ∧ w' = w := by
  cases a with
  | none =>
    obtain rfl := hc rfl
    exact Any.bytes_IndexByte_nil Tryd.lays187 10 w
  | some x => exact Any.bytes_IndexByte_at Tryd.lays187 x 0 c [] 10 w rfl (fun i hi => absurd hi (Nat.not_lt_zero _))

set_option maxHeartbeats 1000000 in
theorem start_yes (f : Nat → Nat) (b off n cap k : Nat) (w : World) (hf : ∀ j, f j < 256) (hn : n ≤ 1000000) (hcap : n ≤ cap) (hc : Cells w b off n f) (hk : k ≤ lc f n) :
    Calls Tryd.prog 30 #[.slice (some ⟨b, off, none⟩) n cap, .int .i64 k] w fun e w' => e = .returned (.tuple #[.int .i64 (beg f n k : Nat), .bool true]) ∧ w' = w := by
  have hkn : k ≤ 1000000 := by have := lc_le f n; omega
  have h0 : ¬ ((k : Int) < 0) := by omega
  have HC := hidden hc
  have HF := hidden hf
  have HK := hidden hk
  clear hc hf hk
  go_enter Tryd.func30, Tryd.ntmps30
  go_wp2
  go_loop [6, 11] (fun a i => ∃ j : Nat, j ≤ k ∧ i = .int .i64 j ∧ a = .int .i64 (beg f n j : Nat)) (fun _ i => k - (intOf i).toNat)
  case atStart => exact ⟨0, Nat.zero_le _, rfl, rfl⟩
  case round =>
    obtain ⟨j, hj, rfl, rfl⟩ := hrel
    by_cases hlt : j < k
    · have hjl : j < lc f n := Nat.lt_of_lt_of_le hlt HK.out
      have hbf := beg_le_fin (Nat.le_of_lt hjl)
      have hfe := (fin_end hjl).1
      have c := index_row f b off n cap (beg f n j) w (by omega) HC.out
      rw [index_line HF.out hjl] at c
      have hnx := beg_next hjl
      have e2 : beg f n (j + 1) = beg f n j + (fin f n j - beg f n j + 1) := by omega
      have HN := hidden e2
      clear hnx e2 hjl
      generalize fin f n j = F at *
      generalize beg f n j = A at *
      obtain ⟨d, hd⟩ : ∃ d, F - A = d := ⟨_, rfl⟩
      rw [hd] at c HN
      have hd1 : d ≤ 1000000 := by omega
      clear hd
      have z1 : ¬ ((A : Int) > (n : Int)) := by omega
      have z2 : ¬ (cap = A) := by omega
      go_wp2_with fail
      refine c.mono ?_
      rintro e w' ⟨rfl, rfl⟩
      go_wp2
      go_round
      case rel => exact ⟨j + 1, by omega, by go_num, by rw [HN.out]; go_num⟩
      case measure => simp [intOf]; omega
    · obtain rfl : j = k := by omega
      go_wp2
      go_ret2
      exact ⟨rfl, rfl⟩

set_option maxHeartbeats 1000000 in
theorem start_over (f : Nat → Nat) (b off n cap : Nat) (l : Int) (w : World) (hf : ∀ j, f j < 256) (hn : n ≤ 1000000) (hcap : n ≤ cap) (hc : Cells w b off n f) (hl : (lc f n : Int) < l) (hl2 : l ≤ 9223372036854775807) :
    Calls Tryd.prog 30 #[.slice (some ⟨b, off, none⟩) n cap, .int .i64 l] w fun e w' => e = .returned (.tuple #[.int .i64 0, .bool false]) ∧ w' = w := by
  have hkn : lc f n ≤ 1000000 := by have := lc_le f n; omega
  have h0 : ¬ (l < 0) := by omega
  have HC := hidden hc
  have HF := hidden hf
  clear hc hf
  go_enter Tryd.func30, Tryd.ntmps30
  go_wp2
  go_loop [6, 11] (fun a i => ∃ j : Nat, j ≤ lc f n ∧ i = .int .i64 j ∧ a = .int .i64 (beg f n j : Nat)) (fun _ i => lc f n - (intOf i).toNat)
  case atStart => exact ⟨0, Nat.zero_le _, rfl, rfl⟩
  case round =>
    obtain ⟨j, hj, rfl, rfl⟩ := hrel
    have z0 : (j : Int) < l := by omega
    by_cases hjl : j < lc f n
    · have hbf := beg_le_fin (Nat.le_of_lt hjl)
      have hfe := (fin_end hjl).1
      have c := index_row f b off n cap (beg f n j) w (by omega) HC.out
      rw [index_line HF.out hjl] at c
      have hnx := beg_next hjl
      have e2 : beg f n (j + 1) = beg f n j + (fin f n j - beg f n j + 1) := by omega
      have HN := hidden e2
      clear hnx e2
      generalize fin f n j = F at *
      generalize beg f n j = A at *
      obtain ⟨d, hd⟩ : ∃ d, F - A = d := ⟨_, rfl⟩
      rw [hd] at c HN
      have hd1 : d ≤ 1000000 := by omega
      clear hd
      have z1 : ¬ ((A : Int) > (n : Int)) := by omega
      have z2 : ¬ (cap = A) := by omega
      go_wp2_with fail
      refine c.mono ?_
      rintro e w' ⟨rfl, rfl⟩
      go_wp2
      go_round
      case rel => exact ⟨j + 1, by omega, by go_num, by rw [HN.out]; go_num⟩
      case measure => simp [intOf]; omega
    · obtain rfl : j = lc f n := by omega
      have hbn := beg_le_n (Nat.le_refl (lc f n))
      have c := index_row f b off n cap (beg f n (lc f n)) w (by omega) HC.out
      rw [index_last HF.out] at c
      generalize beg f n (lc f n) = A at *
      by_cases z2 : cap = A
      · subst z2
        have hnA : n = cap := by omega
        subst hnA
        have c' := index_empty (some ⟨b, off, none⟩) 0 (fun h => by cases h) w
        clear c
        go_wp2_with fail
        refine c'.mono ?_
        rintro e w' ⟨rfl, rfl⟩
        go_wp2
        go_ret2
        exact ⟨rfl, rfl⟩
      · go_wp2_with fail
        refine c.mono ?_
        rintro e w' ⟨rfl, rfl⟩
        go_wp2
        go_ret2
        exact ⟨rfl, rfl⟩
set_option maxHeartbeats 400000 in
theorem start_neg (v : Value) (l : Int) (w : World) (hl : l < 0) :
    Calls Tryd.prog 30 #[v, .int .i64 l] w fun e w' => e = .returned (.tuple #[.int .i64 0, .bool false]) ∧ w' = w := by
  go_enter Tryd.func30, Tryd.ntmps30
  go_wp2
  go_ret2
  exact ⟨rfl, rfl⟩
set_option maxHeartbeats 400000 in
theorem start_none0 (ea : Option Addr) (w : World) :
    Calls Tryd.prog 30 #[.slice ea 0 0, .int .i64 0] w fun e w' => e = .returned (.tuple #[.int .i64 0, .bool true]) ∧ w' = w := by
  go_enter Tryd.func30, Tryd.ntmps30
  go_wp2
  go_loop [6, 11] (fun a i => a = .int .i64 0 ∧ i = .int .i64 0) (fun _ i => 0)
  case atStart => exact ⟨rfl, rfl⟩
  case round =>
    obtain ⟨rfl, rfl⟩ := hrel
    go_wp2
    go_ret2
    exact ⟨rfl, rfl⟩
set_option maxHeartbeats 400000 in
theorem start_none1 (ea : Option Addr) (l : Int) (w : World) (hl : 0 < l) (hl2 : l ≤ 9223372036854775807) :
    Calls Tryd.prog 30 #[.slice ea 0 0, .int .i64 l] w fun e w' => e = .returned (.tuple #[.int .i64 0, .bool false]) ∧ w' = w := by
  have c := index_empty ea 0 (fun _ => rfl) w
  have h0 : ¬ (l < 0) := by omega
  cases ea with
  | none =>
    go_enter Tryd.func30, Tryd.ntmps30
    go_wp2
    go_loop [6, 11] (fun a i => a = .int .i64 0 ∧ i = .int .i64 0) (fun _ i => 0)
    case atStart => exact ⟨rfl, rfl⟩
    case round =>
      obtain ⟨rfl, rfl⟩ := hrel
      go_wp2_with fail
      refine c.mono ?_
      rintro e w' ⟨rfl, rfl⟩
      go_wp2
      go_ret2
      exact ⟨rfl, rfl⟩
  | some x =>
    go_enter Tryd.func30, Tryd.ntmps30
    go_wp2
    go_loop [6, 11] (fun a i => a = .int .i64 0 ∧ i = .int .i64 0) (fun _ i => 0)
    case atStart => exact ⟨rfl, rfl⟩
    case round =>
      obtain ⟨rfl, rfl⟩ := hrel
      go_wp2_with fail
      refine c.mono ?_
      rintro e w' ⟨rfl, rfl⟩
      go_wp2
      go_ret2
      exact ⟨rfl, rfl⟩

/-- Is there such a line? Where it begins, and how many bytes it has (0, if there is none). -/
def has (f : Nat → Nat) (n : Nat) (l : Int) : Bool := decide (0 ≤ l ∧ l ≤ lc f n)
def sAt (f : Nat → Nat) (n : Nat) (l : Int) : Nat := if 0 ≤ l ∧ l ≤ lc f n then beg f n l.toNat else 0
def sN (f : Nat → Nat) (n : Nat) (l : Int) : Nat := if 0 ≤ l ∧ l ≤ lc f n then fin f n l.toNat - beg f n l.toNat else 0
theorem has_yes {f : Nat → Nat} {n : Nat} {l : Int} (h : 0 ≤ l ∧ l ≤ lc f n) : has f n l = true := by simp [has, h]
theorem has_no {f : Nat → Nat} {n : Nat} {l : Int} (h : ¬ (0 ≤ l ∧ l ≤ lc f n)) : has f n l = false := by simp only [has, h, decide_false]
theorem sAt_no {f : Nat → Nat} {n : Nat} {l : Int} (h : ¬ (0 ≤ l ∧ l ≤ lc f n)) : sAt f n l = 0 := by rw [sAt, if_neg h]
theorem sN_no {f : Nat → Nat} {n : Nat} {l : Int} (h : ¬ (0 ≤ l ∧ l ≤ lc f n)) : sN f n l = 0 := by rw [sN, if_neg h]
theorem sAt_yes {f : Nat → Nat} {n k : Nat} (h : k ≤ lc f n) : sAt f n k = beg f n k := by rw [sAt, if_pos ⟨by omega, by omega⟩]; rfl
theorem sN_yes {f : Nat → Nat} {n k : Nat} (h : k ≤ lc f n) : sN f n k = fin f n k - beg f n k := by rw [sN, if_pos ⟨by omega, by omega⟩]; rfl

theorem start_any (v : Value) (n : Nat) (f : Nat → Nat) (l : Int) (w : World) (hn : n ≤ 1000000) (h : IsRow w v n f) (hl : l ≤ 9223372036854775807) :
    Calls Tryd.prog 30 #[v, .int .i64 l] w fun e w' => e = .returned (.tuple #[.int .i64 (sAt f n l : Nat), .bool (has f n l)]) ∧ w' = w := by
  obtain ⟨hf, _, h⟩ := h
  by_cases hy : 0 ≤ l ∧ l ≤ lc f n
  · obtain ⟨k, rfl⟩ := Int.eq_ofNat_of_zero_le hy.1
    rw [has_yes hy, sAt_yes (show k ≤ lc f n by omega)]
    rcases h with ⟨ea, rfl, rfl⟩ | ⟨b, off, cap, rfl, hcap, hc⟩
    · have : k = 0 := by have := lc_zero f; omega
      subst this
      exact start_none0 ea w
    · exact start_yes f b off n cap k w hf hn hcap hc (by omega)
  · rw [has_no hy, sAt_no hy]
    by_cases hneg : l < 0
    · exact start_neg v l w hneg
    · rcases h with ⟨ea, rfl, rfl⟩ | ⟨b, off, cap, rfl, hcap, hc⟩
      · exact start_none1 ea l w (by have := lc_zero f; omega) hl
      · exact start_over f b off n cap l w hf hn hcap hc (by omega) hl
end Go.Proofs.PlatenLines
