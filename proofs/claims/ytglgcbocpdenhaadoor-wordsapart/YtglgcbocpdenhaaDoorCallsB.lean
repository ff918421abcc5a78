/- What glyph.Next, glyph.Prev, glyph.Count and the document's Size, Last come to, at any bytes and any place. -/
import Derived.Test.YtglgcbocpdenhaaDoorCallsA
namespace Go.Proofs.PlatenGlyph
open Go.RowKit Go.Shelf Go.Lib
set_option linter.unusedVariables false

/-- A slice of n bytes; byte j is f j. -/
def IsBytes (w : World) (v : Value) (n : Nat) (f : Nat → Nat) : Prop :=
  (∀ j, f j < 256) ∧ n ≤ 9223372036854775806 ∧ ((∃ a cap, v = .slice a 0 cap ∧ n = 0) ∨ ∃ b off cap, v = .slice (some ⟨b, off, none⟩) n cap ∧ n ≤ cap ∧ Cells w b off n f)

theorem Cells.below {w w' : World} {b off n : Nat} {f : Nat → Nat} (h : Cells w b off n f) (hb : Below w.heap.size w w') : Cells w' b off n f := by
  intro j hj
  have hc := h j hj
  rw [hb.cell (p := ⟨b, off + j, none⟩) (World.block_lt_of_cell? _ _ hc)]
  exact hc

theorem IsBytes.below {w w' : World} {v : Value} {n : Nat} {f : Nat → Nat} (h : IsBytes w v n f) (hb : Below w.heap.size w w') : IsBytes w' v n f := by
  obtain ⟨hf, hn, h⟩ := h
  refine ⟨hf, hn, ?_⟩
  rcases h with h | ⟨b, off, cap, hv, hc, hr⟩
  · exact Or.inl h
  · exact Or.inr ⟨b, off, cap, hv, hc, hr.below hb⟩

theorem tabs_below {w w' : World} (h : Lib.Utf8Tabs 0 1 w) (hb : Below w.heap.size w w') : Lib.Utf8Tabs 0 1 w' := by
  unfold Lib.Utf8Tabs at *
  refine ⟨fun c hc => ?_, fun i hi => ⟨?_, ?_⟩⟩
  · have := h.1 c hc
    rw [hb.cell (World.block_lt_of_cell? _ _ this)]; exact this
  · have := (h.2 i hi).1
    rw [hb.cell (World.block_lt_of_cell? _ _ this)]; exact this
  · have := (h.2 i hi).2
    rw [hb.cell (World.block_lt_of_cell? _ _ this)]; exact this

def nextZ (f : Nat → Nat) (n : Nat) (at' : Int) : Int := if 0 ≤ at' ∧ at' < n then (szAt f n at'.toNat : Int) else 0
def prevZ (f : Nat → Nat) (n : Nat) (at' : Int) : Int := if 0 < at' ∧ at' ≤ n then (lastAt f at'.toNat : Int) else 0

set_option maxHeartbeats 400000 in
theorem prev_out (v : Value) (f : Nat → Nat) (n : Nat) (a : Int) (w : World) (h : IsBytes w v n f) (ha : ¬ (0 < a ∧ a ≤ n)) :
    Calls Tryd.prog 32 #[v, .int .i64 a] w fun e w' => e = .returned (.int .i64 0) ∧ w' = w := by
  obtain ⟨hf, hn, h⟩ := h
  rcases h with ⟨ea, ecap, rfl, rfl⟩ | ⟨b, off, cap, rfl, hc, hr⟩
  · by_cases h0 : a ≤ 0
    · go_enter Tryd.func32, Tryd.ntmps32
      go_wp2
      go_ret
      exact ⟨rfl, rfl⟩
    · have h1 : 0 < a := by omega
      go_enter Tryd.func32, Tryd.ntmps32
      go_wp2
      go_ret
      exact ⟨rfl, rfl⟩
  · clear hr
    by_cases h0 : a ≤ 0
    · go_enter Tryd.func32, Tryd.ntmps32
      go_wp2
      go_ret
      exact ⟨rfl, rfl⟩
    · have h1 : (n : Int) < a := by omega
      go_enter Tryd.func32, Tryd.ntmps32
      go_wp2
      go_ret
      exact ⟨rfl, rfl⟩

set_option maxHeartbeats 400000 in
theorem prev_in (f : Nat → Nat) (b off n cap k : Nat) (w : World) (hf : ∀ j, f j < 256) (hn : n ≤ 9223372036854775806) (hcap : n ≤ cap) (hT : Lib.Utf8Tabs 0 1 w) (hc : Cells w b off n f) (hk : 0 < k) (hkn : k ≤ n) :
    Calls Tryd.prog 32 #[.slice (some ⟨b, off, none⟩) n cap, .int .i64 k] w fun e w' => e = .returned (.int .i64 (lastAt f k)) ∧ Below w.heap.size w w' := by
  have c := decodeLastRune_any f b off k cap w hf (by omega) (by omega) hT (hc.head hkn)
  clear hc hT
  have h0 : ¬ ((k : Int) ≤ 0) := by omega
  have h1 : ¬ ((n : Int) < (k : Int)) := by omega
  generalize lastAt f k = s at *
  go_enter Tryd.func32, Tryd.ntmps32
  go_wp2_with fail
  refine c.mono ?_
  rintro e w' ⟨r, rfl, hb⟩
  go_wp2
  go_ret
  exact ⟨rfl, hb⟩

theorem prev_any (v : Value) (f : Nat → Nat) (n : Nat) (a : Int) (w : World) (hT : Lib.Utf8Tabs 0 1 w) (h : IsBytes w v n f) :
    Calls Tryd.prog 32 #[v, .int .i64 a] w fun e w' => e = .returned (.int .i64 (prevZ f n a)) ∧ Below w.heap.size w w' := by
  by_cases ha : 0 < a ∧ a ≤ n
  · obtain ⟨hf, hn, h⟩ := h
    rcases h with ⟨ea, ecap, rfl, rfl⟩ | ⟨b, off, cap, rfl, hcap, hc⟩
    · omega
    · have hk : ((a.toNat : Nat) : Int) = a := Int.toNat_of_nonneg (by omega)
      have := prev_in f b off n cap a.toNat w hf hn hcap hT hc (by omega) (by omega)
      rw [hk] at this
      unfold prevZ
      rw [if_pos ha]
      exact this
  · unfold prevZ
    rw [if_neg ha]
    exact (prev_out v f n a w h ha).mono fun e w' ⟨he, hw⟩ => ⟨he, hw ▸ Below.refl _ _⟩

end Go.Proofs.PlatenGlyph
