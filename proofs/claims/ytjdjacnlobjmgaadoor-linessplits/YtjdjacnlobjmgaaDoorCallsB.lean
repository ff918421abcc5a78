/- What glyph.Next, glyph.Prev, glyph.Count and the document's Size, Last come to, at any bytes and any place. -/
import Derived.Test.YtjdjacnlobjmgaaDoorBytes
namespace Go.Proofs.PlatenGlyph
open Go.RowKit Go.Shelf Go.Lib
set_option linter.unusedVariables false

/-- A slice of n bytes; byte j is f j. -/
def IsBytes (w : World) (v : Value) (n : Nat) (f : Nat → Nat) : Prop :=
  (∀ j, f j < 256) ∧ n ≤ 9223372036854775806 ∧ ((∃ a cap, v = .slice a 0 cap ∧ n = 0) ∨ ∃ b off cap, v = .slice (some ⟨b, off, none⟩) n cap ∧ n ≤ cap ∧ Cells w b off n f)

theorem Cells.below {w w' : World} {b off n : Nat} {f : Nat → Nat} (h : Cells w b off n f) (hb : Below w.heap.size w w') : Cells w' b off n f := by
  intro j hj
  have hc := h j hj
  rw [hb.cell (p := ⟨b, off + j, none⟩) (World.block_lt_of_cell? _ _ hc)]
  exact hc

theorem IsBytes.below {w w' : World} {v : Value} {n : Nat} {f : Nat → Nat} (h : IsBytes w v n f) (hb : Below w.heap.size w w') : IsBytes w' v n f := by
  obtain ⟨hf, hn, h⟩ := h
  refine ⟨hf, hn, ?_⟩
  rcases h with h | ⟨b, off, cap, hv, hc, hr⟩
  · exact Or.inl h
  · exact Or.inr ⟨b, off, cap, hv, hc, hr.below hb⟩

theorem tabs_below {w w' : World} (h : Lib.Utf8Tabs 1 2 w) (hb : Below w.heap.size w w') : Lib.Utf8Tabs 1 2 w' := by
  unfold Lib.Utf8Tabs at *
  refine ⟨fun c hc => ?_, fun i hi => ⟨?_, ?_⟩⟩
  · have := h.1 c hc
    rw [hb.cell (World.block_lt_of_cell? _ _ this)]; exact this
  · have := (h.2 i hi).1
    rw [hb.cell (World.block_lt_of_cell? _ _ this)]; exact this
  · have := (h.2 i hi).2
    rw [hb.cell (World.block_lt_of_cell? _ _ this)]; exact this

def nextZ (f : Nat → Nat) (n : Nat) (at' : Int) : Int := if 0 ≤ at' ∧ at' < n then (szAt f n at'.toNat : Int) else 0
def prevZ (f : Nat → Nat) (n : Nat) (at' : Int) : Int := if 0 < at' ∧ at' ≤ n then (lastAt f at'.toNat : Int) else 0

set_option maxHeartbeats 400000 in
theorem next_out (v : Value) (f : Nat → Nat) (n : Nat) (a : Int) (w : World) (h : IsBytes w v n f) (ha : ¬ (0 ≤ a ∧ a < n)) :
    Calls Tryd.prog 45 #[v, .int .i64 a] w fun e w' => e = .returned (.int .i64 0) ∧ w' = w := by
  obtain ⟨hf, hn, h⟩ := h
  rcases h with ⟨ea, ecap, rfl, rfl⟩ | ⟨b, off, cap, rfl, hc, hr⟩
  · by_cases h0 : a < 0
    · go_enter Tryd.func45, Tryd.ntmps45
      go_wp2
      go_ret
      exact ⟨rfl, rfl⟩
    · have h1 : a ≥ 0 := by omega
      go_enter Tryd.func45, Tryd.ntmps45
      go_wp2
      go_ret
      exact ⟨rfl, rfl⟩
  · clear hr
    by_cases h0 : a < 0
    · go_enter Tryd.func45, Tryd.ntmps45
      go_wp2
      go_ret
      exact ⟨rfl, rfl⟩
    · have h1 : a ≥ (n : Int) := by omega
      go_enter Tryd.func45, Tryd.ntmps45
      go_wp2
      go_ret
      exact ⟨rfl, rfl⟩

set_option maxHeartbeats 400000 in
theorem next_in (f : Nat → Nat) (b off n cap k : Nat) (w : World) (hf : ∀ j, f j < 256) (hn : n ≤ 9223372036854775806) (hcap : n ≤ cap) (hT : Lib.Utf8Tabs 1 2 w) (hc : Cells w b off n f) (hk : k < n) :
    Calls Tryd.prog 45 #[.slice (some ⟨b, off, none⟩) n cap, .int .i64 k] w fun e w' => e = .returned (.int .i64 (szAt f n k)) ∧ Below w.heap.size w w' := by
  have c : Calls Tryd.prog 57 #[.slice (some ⟨b, off + k, none⟩) (n - k) (cap - k)] w fun e w' => ∃ r : Int, e = .returned (.tuple #[.int .i32 r, .int .i64 (szAt f n k)]) ∧ Below w.heap.size w w' := by
    have := decodeRune_any (fun j => f (k + j)) b (off + k) (n - k) (cap - k) w (fun j => hf _) hT (hc.tail k)
    rwa [szAt_shift f n k 0 (by omega)] at this
  clear hc hT
  have h0 : ¬ ((k : Int) < 0) := by omega
  have h1 : ¬ ((k : Int) ≥ (n : Int)) := by omega
  generalize szAt f n k = s at *
  go_enter Tryd.func45, Tryd.ntmps45
  go_wp2_with fail
  refine c.mono ?_
  rintro e w' ⟨r, rfl, hb⟩
  go_wp2
  go_ret
  exact ⟨rfl, hb⟩

theorem next_any (v : Value) (f : Nat → Nat) (n : Nat) (a : Int) (w : World) (hT : Lib.Utf8Tabs 1 2 w) (h : IsBytes w v n f) :
    Calls Tryd.prog 45 #[v, .int .i64 a] w fun e w' => e = .returned (.int .i64 (nextZ f n a)) ∧ Below w.heap.size w w' := by
  by_cases ha : 0 ≤ a ∧ a < n
  · obtain ⟨hf, hn, h⟩ := h
    rcases h with ⟨ea, ecap, rfl, rfl⟩ | ⟨b, off, cap, rfl, hcap, hc⟩
    · omega
    · have hk : ((a.toNat : Nat) : Int) = a := Int.toNat_of_nonneg ha.1
      have := next_in f b off n cap a.toNat w hf hn hcap hT hc (by omega)
      rw [hk] at this
      unfold nextZ
      rw [if_pos ha]
      exact this
  · unfold nextZ
    rw [if_neg ha]
    exact (next_out v f n a w h ha).mono fun e w' ⟨he, hw⟩ => ⟨he, hw ▸ Below.refl _ _⟩

end Go.Proofs.PlatenGlyph
