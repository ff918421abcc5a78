/- What the document's Wide and At and the program's At come to. -/
import Derived.Test.YtjdjacnlobjmgaaDoorCallsH
namespace Go.Proofs.PlatenGlyph
open Go.RowKit Go.Shelf
set_option linter.unusedVariables false

theorem wid_succ {f : Nat → Nat} {n col tab k : Nat} (h : nth f n k < n) : wid f n col tab (k + 1) = stp (wid f n col tab k) (f (nth f n k)) tab := by
  simp only [wid]; rw [if_pos h]

set_option maxHeartbeats 1000000 in
theorem rwide_any (v : Value) (f : Nat → Nat) (n col tab : Nat) (w : World) (hn : n ≤ 100000) (h : IsBytes w v n f) (hcol : col ≤ 1000000) (h1 : 1 ≤ tab) (ht : tab ≤ 1000) :
    Calls Tryd.prog 37 #[v, .int .i64 col, .int .i64 tab] w fun e w' => e = .returned (.int .i64 (wide f n col tab)) ∧ Below w.heap.size w w' := by
  have cs := starts_any v f n w hn h
  have hcn := cnt_le f n
  by_cases h0 : cnt f n = 0
  · have Hfin : Hid (wide f n col tab = col) := by unfold Hid wide; rw [h0]; rfl
    obtain ⟨ea, ecap, rfl⟩ := isBytes_len h
    clear h
    rw [h0] at cs
    clear h0 hcn
    go_enter Tryd.func37, Tryd.ntmps37
    go_wp2_with fail
    refine cs.mono ?_
    rintro e w1 ⟨l, rfl, hl, hb⟩
    rcases hl with ⟨rfl, hc0⟩ | ⟨g, cap, rfl, hl⟩
    · clear cs hc0
      go_wp2
      go_loop [1, 8] (fun c i => c = .int .i64 col ∧ i = .int .i64 0) (fun _ _ => 0)
      case atStart => exact ⟨rfl, rfl⟩
      case round =>
        obtain ⟨rfl, rfl⟩ := hrel
        go_wp2
        go_ret
        exact ⟨by rw [Hfin.out]; rfl, hb⟩
    · clear cs hl
      go_wp2
      go_loop [1, 8] (fun c i => c = .int .i64 col ∧ i = .int .i64 0) (fun _ _ => 0)
      case atStart => exact ⟨rfl, rfl⟩
      case round =>
        obtain ⟨rfl, rfl⟩ := hrel
        go_wp2
        go_ret
        exact ⟨by rw [Hfin.out]; rfl, hb⟩
  · obtain ⟨hf, _, h⟩ := h
    rcases h with ⟨_, _, rfl, rfl⟩ | ⟨b, off, cap, rfl, hcap, hc⟩
    · exact absurd rfl h0
    obtain ⟨c, hcc⟩ : ∃ c, cnt f n = c := ⟨_, rfl⟩
    have Hfin : Hid (wide f n col tab = wid f n col tab c) := by unfold Hid wide; rw [hcc]
    have hlts : ∀ k, k < c → nth f n k < n := fun k hk => cnt_lt (by omega)
    rw [hcc] at cs h0 hcn
    clear hcc
    go_enter Tryd.func37, Tryd.ntmps37
    go_wp2_with fail
    refine cs.mono ?_
    rintro e w1 ⟨l, rfl, hl, hb⟩
    have hc1 := hc.below hb
    rcases hl with ⟨rfl, hc0⟩ | ⟨g, gcap, rfl, hl⟩
    · exact absurd hc0 h0
    clear cs hc
    go_wp2
    go_loop [1, 8] (fun x i => ∃ k : Nat, k ≤ c ∧ i = .int .i64 k ∧ x = .int .i64 (wid f n col tab k : Nat)) (fun _ i => c - (intOf i).toNat)
    case atStart => exact ⟨0, Nat.zero_le _, rfl, rfl⟩
    case round =>
      obtain ⟨k, hk, rfl, rfl⟩ := hrel
      by_cases hlt : k < c
      · have hkn := hlts k hlt
        have g1 := hl k hlt
        have g2 := hc1 _ hkn
        have hw := wid_le f n col tab h1 k
        have hm : k * tab ≤ 100000 * 1000 := Nat.mul_le_mul (by omega) ht
        have hx := hf (nth f n k)
        have HS := hidden' (wid_succ (col := col) (tab := tab) hkn)
        have cz := rstep_any (wid f n col tab k) (f (nth f n k)) tab w1 (by omega) hx h1 (by omega)
        clear hl hc1 hm
        generalize stp (wid f n col tab k) (f (nth f n k)) tab = W' at *
        generalize wid f n col tab k = W at *
        generalize f (nth f n k) = x at *
        generalize nth f n k = A at *
        go_wp2_with (go_at_call 48; refine cz.mono ?_; rintro e w2 ⟨rfl, rfl⟩)
        go_round
        case rel => exact ⟨k + 1, by omega, by go_num, by rw [HS.out]⟩
        case measure => simp [intOf]; omega
      · have hkc : k = c := by omega
        subst hkc
        clear hl hc1
        generalize wid f n col tab k = X at *
        go_wp2
        go_ret
        exact ⟨by rw [Hfin.out]; rfl, hb⟩

/-- The first sign behind which the column is above col. -/
def IsAt (f : Nat → Nat) (n col tab x : Nat) : Prop :=
  ∃ k, k ≤ cnt f n ∧ x = nth f n k ∧ (∀ j, j < k → wid f n 0 tab (j + 1) ≤ col) ∧ (k < cnt f n → col < wid f n 0 tab (k + 1))

theorem isAt_eq {f : Nat → Nat} {n col tab x y : Nat} (hx : IsAt f n col tab x) (hy : IsAt f n col tab y) : x = y := by
  obtain ⟨k, k1, rfl, k2, k3⟩ := hx
  obtain ⟨l, l1, rfl, l2, l3⟩ := hy
  have : k = l := by
    by_cases c : k < l
    · have := l2 k c; have := k3 (by omega); omega
    · by_cases d : l < k
      · have := k2 l d; have := l3 (by omega); omega
      · omega
  rw [this]

end Go.Proofs.PlatenGlyph
