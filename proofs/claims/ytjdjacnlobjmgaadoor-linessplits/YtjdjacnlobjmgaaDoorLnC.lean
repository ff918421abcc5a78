/- What lines.Span and lines.Whole come to, at any bytes and any numbers of lines. -/
import Derived.Test.YtjdjacnlobjmgaaDoorLnB
namespace Go.Proofs.PlatenLines
open Go.RowKit Go.Shelf Go.Proofs.PlatenGlyph
set_option linter.unusedVariables false

def spanV (a m : Nat) : Value := .agg #[.int .i64 a, .int .i64 m]

set_option maxHeartbeats 1000000 in
theorem span_no (v : Value) (n : Nat) (f : Nat → Nat) (l : Int) (w : World) (hn : n ≤ 1000000) (h : IsRow w v n f) (hl : l ≤ 9223372036854775807) (hy : ¬ (0 ≤ l ∧ l ≤ lc f n)) :
    Calls Tryd.prog 17 #[v, .int .i64 l] w fun e w' => e = .returned (.tuple #[.agg #[.int .i64 0, .int .i64 0], .bool false]) ∧ Below w.heap.size w w' := by
  have hb0 : Below w.heap.size w (w.alloc (.cells #[.int .i64 0, .int .i64 0] 32)) := (Below.refl _ _).alloc (Nat.le_refl _) _
  have c := start_any v n f l (w.alloc (.cells #[.int .i64 0, .int .i64 0] 32)) hn (h.below hb0) hl
  rw [has_no hy, sAt_no hy] at c
  have Hb := hidden hb0
  clear hb0 h hy
  go_enter Tryd.func17, Tryd.ntmps17
  go_wp2_with fail
  refine c.mono ?_
  rintro e w' ⟨rfl, rfl⟩
  go_wp2
  exact bodyPost_ret (v := .tuple #[.agg #[.int .i64 0, .int .i64 0], .bool false]) (by simp [results, Tryd.results17, go_sem]) rfl ⟨rfl, Hb.out⟩

set_option maxHeartbeats 1000000 in
theorem span_yes (f : Nat → Nat) (b off n cap k : Nat) (w : World) (hf : ∀ j, f j < 256) (hn : n ≤ 1000000) (hcap : n ≤ cap) (hc : Cells w b off n f) (hk : k ≤ lc f n) :
    Calls Tryd.prog 17 #[.slice (some ⟨b, off, none⟩) n cap, .int .i64 k] w fun e w' => e = .returned (.tuple #[.agg #[.int .i64 (beg f n k : Nat), .int .i64 (fin f n k - beg f n k : Nat)], .bool true]) ∧ Below w.heap.size w w' := by
  have hb0 : Below w.heap.size w (w.alloc (.cells #[.int .i64 0, .int .i64 0] 32)) := (Below.refl _ _).alloc (Nat.le_refl _) _
  have hkn := lc_le f n
  have c := start_yes f b off n cap k (w.alloc (.cells #[.int .i64 0, .int .i64 0] 32)) hf hn hcap (hc.below hb0) hk
  have ci := index_row f b off n cap (beg f n k) (w.alloc (.cells #[.int .i64 0, .int .i64 0] 32)) (beg_le_n hk) (hc.below hb0)
  have hbn := beg_le_n hk
  have hbf := beg_le_fin hk
  have hfn := fin_le (f := f) (n := n) (k := k)
  clear hb0 hc
  by_cases hlt : k < lc f n
  · rw [index_line hf hlt] at ci
    obtain ⟨d, hd⟩ : ∃ d, fin f n k - beg f n k = d := ⟨_, rfl⟩
    have hfe := (fin_end hlt).1
    rw [hd] at ci ⊢
    generalize fin f n k = F at *
    generalize beg f n k = A at *
    have hd1 : d ≤ 1000000 := by omega
    have z2 : ¬ (cap = A) := by omega
    clear hd hf hk hkn hlt
    go_enter Tryd.func17, Tryd.ntmps17
    go_wp2_with fail
    refine c.mono ?_
    rintro e w' ⟨rfl, rfl⟩
    go_wp2_with fail
    refine ci.mono ?_
    rintro e w' ⟨rfl, rfl⟩
    go_wp2
    refine bodyPost_ret (v := .tuple #[.agg #[.int .i64 A, .int .i64 d], .bool true]) (by simp [results, Tryd.results17, go_sem]) rfl ⟨rfl, ?_⟩
    exact (Below.refl _ _).alloc (Nat.le_refl _) _
  · obtain rfl : k = lc f n := by omega
    rw [index_last hf] at ci
    rw [fin_last]
    generalize beg f n (lc f n) = A at *
    have e2 : ((n - A : Nat) : Int) = (n : Int) - (A : Int) := by omega
    rw [e2]
    clear e2
    by_cases z2 : cap = A
    · subst z2
      have hnA : n = cap := by omega
      subst hnA
      have c' := index_empty (some ⟨b, off, none⟩) 0 (fun h => by cases h) (w.alloc (.cells #[.int .i64 0, .int .i64 0] 32))
      clear ci hf hk
      go_enter Tryd.func17, Tryd.ntmps17
      go_wp2_with fail
      refine c.mono ?_
      rintro e w' ⟨rfl, rfl⟩
      go_wp2_with fail
      refine c'.mono ?_
      rintro e w' ⟨rfl, rfl⟩
      go_wp2
      refine bodyPost_ret (v := .tuple #[.agg #[.int .i64 n, .int .i64 ((n : Int) - n)], .bool true]) (by simp [results, Tryd.results17, go_sem]) rfl ⟨rfl, ?_⟩
      exact (Below.refl _ _).alloc (Nat.le_refl _) _
    · clear hf hk
      go_enter Tryd.func17, Tryd.ntmps17
      go_wp2_with fail
      refine c.mono ?_
      rintro e w' ⟨rfl, rfl⟩
      go_wp2_with fail
      refine ci.mono ?_
      rintro e w' ⟨rfl, rfl⟩
      go_wp2
      refine bodyPost_ret (v := .tuple #[.agg #[.int .i64 A, .int .i64 ((n : Int) - A)], .bool true]) (by simp [results, Tryd.results17, go_sem]) rfl ⟨rfl, ?_⟩
      exact (Below.refl _ _).alloc (Nat.le_refl _) _

set_option maxHeartbeats 1000000 in
theorem span_none (ea : Option Addr) (w : World) :
    Calls Tryd.prog 17 #[.slice ea 0 0, .int .i64 0] w fun e w' => e = .returned (.tuple #[.agg #[.int .i64 0, .int .i64 0], .bool true]) ∧ Below w.heap.size w w' := by
  have hb0 : Below w.heap.size w (w.alloc (.cells #[.int .i64 0, .int .i64 0] 32)) := (Below.refl _ _).alloc (Nat.le_refl _) _
  have c := start_none0 ea (w.alloc (.cells #[.int .i64 0, .int .i64 0] 32))
  have ci := index_empty ea 0 (fun _ => rfl) (w.alloc (.cells #[.int .i64 0, .int .i64 0] 32))
  have Hb := hidden hb0
  clear hb0
  cases ea with
  | none =>
    go_enter Tryd.func17, Tryd.ntmps17
    go_wp2_with fail
    refine c.mono ?_
    rintro e w' ⟨rfl, rfl⟩
    go_wp2_with fail
    refine ci.mono ?_
    rintro e w' ⟨rfl, rfl⟩
    go_wp2
    exact bodyPost_ret (v := .tuple #[.agg #[.int .i64 0, .int .i64 0], .bool true]) (by simp [results, Tryd.results17, go_sem]) rfl ⟨rfl, Hb.out⟩
  | some x =>
    go_enter Tryd.func17, Tryd.ntmps17
    go_wp2_with fail
    refine c.mono ?_
    rintro e w' ⟨rfl, rfl⟩
    go_wp2_with fail
    refine ci.mono ?_
    rintro e w' ⟨rfl, rfl⟩
    go_wp2
    exact bodyPost_ret (v := .tuple #[.agg #[.int .i64 0, .int .i64 0], .bool true]) (by simp [results, Tryd.results17, go_sem]) rfl ⟨rfl, Hb.out⟩

theorem span_any (v : Value) (n : Nat) (f : Nat → Nat) (l : Int) (w : World) (hn : n ≤ 1000000) (h : IsRow w v n f) (hl : l ≤ 9223372036854775807) :
    Calls Tryd.prog 17 #[v, .int .i64 l] w fun e w' => e = .returned (.tuple #[.agg #[.int .i64 (sAt f n l : Nat), .int .i64 (sN f n l : Nat)], .bool (has f n l)]) ∧ Below w.heap.size w w' := by
  by_cases hy : 0 ≤ l ∧ l ≤ lc f n
  · obtain ⟨hf, _, h⟩ := h
    obtain ⟨k, rfl⟩ := Int.eq_ofNat_of_zero_le hy.1
    rw [has_yes hy, sAt_yes (show k ≤ lc f n by omega), sN_yes (show k ≤ lc f n by omega)]
    rcases h with ⟨ea, rfl, rfl⟩ | ⟨b, off, cap, rfl, hcap, hc⟩
    · have : k = 0 := by have := lc_zero f; omega
      subst this
      exact span_none ea w
    · exact span_yes f b off n cap k w hf hn hcap hc (by omega)
  · rw [has_no hy, sAt_no hy, sN_no hy]
    exact span_no v n f l w hn h hl hy
end Go.Proofs.PlatenLines
