/- What the document's Floor, Wide and At and the program's At come to. -/
import Derived.Test.YtjdjacnlobjmgaaDoorCallsG
namespace Go.Proofs.PlatenGlyph
open Go.RowKit Go.Shelf
set_option linter.unusedVariables false

set_option maxHeartbeats 400000 in
theorem starts_none (a : Option Addr) (cap : Nat) (w : World) :
    Calls Tryd.prog 47 #[.slice a 0 cap] w fun e w' => e = .returned (.slice none 0 0) ∧ w' = w := by
  go_enter Tryd.func47, Tryd.ntmps47
  go_wp2
  go_loop [3, 4] (fun l a => l = .slice none 0 0 ∧ a = .int .i64 0) (fun _ _ => 0)
  case atStart => exact ⟨rfl, rfl⟩
  case round =>
    obtain ⟨rfl, rfl⟩ := hrel
    go_wp2
    go_ret
    exact ⟨rfl, rfl⟩

theorem starts_any (v : Value) (f : Nat → Nat) (n : Nat) (w : World) (hn : n ≤ 100000) (h : IsBytes w v n f) :
    Calls Tryd.prog 47 #[v] w fun e w' => ∃ l, e = .returned l ∧ IsInts w' l (cnt f n) (nth f n) ∧ Below w.heap.size w w' := by
  obtain ⟨hf, _, h⟩ := h
  rcases h with ⟨_, _, rfl, rfl⟩ | ⟨b, off, cap, rfl, hcap, hc⟩
  · exact (starts_none _ _ w).mono fun e w' ⟨he, hw⟩ => ⟨_, he, Or.inl ⟨rfl, rfl⟩, hw ▸ Below.refl _ _⟩
  · exact (starts_row f b off n cap w hf hn hcap hc).mono fun e w' ⟨l, he, ho, hb⟩ => ⟨l, he, isInts_of ho, hb⟩

theorem isBytes_len {w : World} {v : Value} {n : Nat} {f : Nat → Nat} (h : IsBytes w v n f) : ∃ a cap, v = .slice a n cap := by
  rcases h.2.2 with ⟨a, cap, rfl, rfl⟩ | ⟨b, off, cap, rfl, _, _⟩
  · exact ⟨_, _, rfl⟩
  · exact ⟨_, _, rfl⟩

/-- The document's Floor, of any place. -/
def rfloorZ (f : Nat → Nat) (n : Nat) (a : Int) : Int := if (n : Int) ≤ a then n else if a < 0 then 0 else (flo f n a.toNat : Int)

def flrZ (f : Nat → Nat) (n : Nat) (a : Int) (k : Nat) : Nat := if a < 0 then 0 else flr f n a.toNat k
theorem flrZ_succ (f : Nat → Nat) (n : Nat) (a : Int) (k : Nat) : flrZ f n a (k + 1) = if (nth f n k : Int) ≤ a then nth f n k else flrZ f n a k := by
  unfold flrZ
  by_cases h : a < 0
  · rw [if_pos h, if_pos h, if_neg (by omega)]
  · rw [if_neg h, if_neg h]
    simp only [flr]
    by_cases h2 : nth f n k ≤ a.toNat
    · rw [if_pos h2, if_pos (by omega)]
    · rw [if_neg h2, if_neg (by omega)]

end Go.Proofs.PlatenGlyph
