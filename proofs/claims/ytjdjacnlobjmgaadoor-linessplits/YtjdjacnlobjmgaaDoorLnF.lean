/- What lines.Indent, lines.Bare and the document's Indent come to. -/
import Derived.Test.YtjdjacnlobjmgaaDoorLnE
namespace Go.Proofs.PlatenLines
open Go.RowKit Go.Shelf Go.Proofs.PlatenGlyph
set_option linter.unusedVariables false

/-- k blanks, and no more. -/
def IsInd (f : Nat → Nat) (n k : Nat) : Prop := k ≤ n ∧ (∀ j, j < k → blankB (f j) = true) ∧ (k < n → blankB (f k) = false)
theorem isInd_eq {f : Nat → Nat} {n k l : Nat} (hk : IsInd f n k) (hl : IsInd f n l) : k = l := by
  obtain ⟨k1, k2, k3⟩ := hk
  obtain ⟨l1, l2, l3⟩ := hl
  by_cases c : k < l
  · have h1 := l2 k c
    have h2 := k3 (by omega)
    rw [h1] at h2; cases h2
  · by_cases d : l < k
    · have h1 := k2 l d
      have h2 := l3 (by omega)
      rw [h1] at h2; cases h2
    · omega
/-- A string's bytes. -/
def byt (s : ByteArray) (j : Nat) : Nat := (s.data.toList.getD j 0).toNat
theorem byt_lt (s : ByteArray) (j : Nat) : byt s j < 256 := UInt8.toNat_lt _
theorem byt_get (s : ByteArray) (j : Nat) (h : j < s.size) : s[j].toNat = byt s j := by
  unfold byt
  rw [List.getD_eq_getElem?_getD, List.getElem?_eq_getElem (by simpa using h)]
  rfl

set_option maxHeartbeats 1000000 in
theorem indent_any (s : ByteArray) (w : World) (hs : s.size ≤ 1000000) :
    Calls Tryd.prog 22 #[.string s] w fun e w' => ∃ k : Nat, e = .returned (.int .i64 k) ∧ IsInd (byt s) s.size k ∧ w' = w := by
  go_enter Tryd.func22, Tryd.ntmps22
  go_wp2
  go_loop [6] (fun i => ∃ k : Nat, k ≤ s.size ∧ i = .int .i64 k ∧ ∀ j, j < k → blankB (byt s j) = true) (fun i => s.size - (intOf i).toNat)
  case atStart => exact ⟨0, Nat.zero_le _, rfl, fun j hj => absurd hj (Nat.not_lt_zero _)⟩
  case round =>
    obtain ⟨k, hk, rfl, hall⟩ := hrel
    by_cases hlt : k < s.size
    · have hg := byt_get s k hlt
      have c := blank_any (byt s k) w (byt_lt s k)
      have HG := hidden hg
      have HA := hidden hall
      clear hg hall
      cases hbl : blankB (byt s k) with
      | true =>
        rw [hbl] at c
        have HB := hidden hbl
        clear hbl
        go_wp2_with fail
        rw [HG.out]
        refine c.mono ?_
        rintro e w' ⟨rfl, rfl⟩
        go_wp2
        go_round
        case rel =>
          refine ⟨k + 1, by omega, by go_num, fun j hj => ?_⟩
          by_cases e : j = k
          · rw [e]; exact HB.out
          · exact HA.out j (by omega)
        case measure => simp [intOf]; omega
      | false =>
        rw [hbl] at c
        have HB := hidden hbl
        clear hbl
        go_wp2_with fail
        rw [HG.out]
        refine c.mono ?_
        rintro e w' ⟨rfl, rfl⟩
        go_wp2
        go_ret
        exact ⟨k, rfl, ⟨hk, HA.out, fun _ => HB.out⟩, rfl⟩
    · obtain rfl : k = s.size := by omega
      have HA := hidden hall
      clear hall
      go_wp2
      go_ret
      exact ⟨s.size, rfl, ⟨hk, HA.out, fun h => absurd h (Nat.lt_irrefl _)⟩, rfl⟩

set_option maxHeartbeats 400000 in
theorem bare_any (s : ByteArray) (w : World) (hs : s.size ≤ 1000000) :
    Calls Tryd.prog 24 #[.string s] w fun e w' => ∃ k : Nat, e = .returned (.bool ((k : Int) == (s.size : Int))) ∧ IsInd (byt s) s.size k ∧ w' = w := by
  have c := indent_any s w hs
  go_enter Tryd.func24, Tryd.ntmps24
  go_wp2_with fail
  refine c.mono ?_
  rintro e w' ⟨k, rfl, hk, rfl⟩
  have HK := hidden hk
  clear hk
  go_wp2
  go_ret
  exact ⟨k, rfl, HK.out, rfl⟩

set_option maxHeartbeats 1000000 in
theorem rindent_row (f : Nat → Nat) (b off n cap : Nat) (w : World) (hf : ∀ j, f j < 256) (hn : n ≤ 1000000) (hcap : n ≤ cap) (hc : Cells w b off n f) :
    Calls Tryd.prog 23 #[.slice (some ⟨b, off, none⟩) n cap] w fun e w' => ∃ k : Nat, e = .returned (.int .i64 k) ∧ IsInd f n k ∧ w' = w := by
  go_enter Tryd.func23, Tryd.ntmps23
  go_wp2
  go_loop [3] (fun i => ∃ k : Nat, k ≤ n ∧ i = .int .i64 k ∧ ∀ j, j < k → blankB (f j) = true) (fun i => n - (intOf i).toNat)
  case atStart => exact ⟨0, Nat.zero_le _, rfl, fun j hj => absurd hj (Nat.not_lt_zero _)⟩
  case round =>
    obtain ⟨k, hk, rfl, hall⟩ := hrel
    have HA := hidden hall
    clear hall
    by_cases hlt : k < n
    · have c := rblank_any (f k) w (hf k)
      have g := hc k hlt
      have hlz : ((k : Int) < (n : Int)) := by omega
      cases hbl : blankB (f k) with
      | true =>
        rw [hbl] at c
        have HB := hidden hbl
        clear hbl hc
        go_wp2_with fail
        refine c.mono ?_
        rintro e w' ⟨rfl, rfl⟩
        go_wp2
        go_round
        case rel =>
          refine ⟨k + 1, by omega, by go_num, fun j hj => ?_⟩
          by_cases e : j = k
          · rw [e]; exact HB.out
          · exact HA.out j (by omega)
        case measure => simp [intOf]; omega
      | false =>
        rw [hbl] at c
        have HB := hidden hbl
        clear hbl hc
        go_wp2_with fail
        refine c.mono ?_
        rintro e w' ⟨rfl, rfl⟩
        go_wp2
        go_ret
        exact ⟨k, rfl, ⟨hk, HA.out, fun _ => HB.out⟩, rfl⟩
    · obtain rfl : k = n := by omega
      clear hc
      go_wp2
      go_ret
      exact ⟨k, rfl, ⟨hk, HA.out, fun h => absurd h (Nat.lt_irrefl _)⟩, rfl⟩
end Go.Proofs.PlatenLines
