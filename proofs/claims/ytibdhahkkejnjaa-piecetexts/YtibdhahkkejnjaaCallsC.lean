/- What slices.Replace comes to, for one element of two cells in whose place two come. -/
import Derived.Test.YtibdhahkkejnjaaCallsB
namespace Go.Proofs.PlatenPiece
open Go Go.RowKit
set_option linter.unusedVariables false

theorem ownsRow_cut {w : World} {B g n cap i : Nat} {xs : List Value} (h : w.ownsRow B 81 2 (.slice (some ⟨g, 0, none⟩) n cap) n xs) (hi : i ≤ n) :
    w.ownsRow B 81 2 (.slice (some ⟨g, 0, none⟩) i cap) i (xs.take (2 * i)) := by
  obtain ⟨hl, h⟩ := h
  rcases h with ⟨h0, _⟩ | ⟨g', cap', cur, he, hB, hh, hnc, hcm, hcs, htk⟩
  · cases h0
  · simp only [Value.slice.injEq, Option.some.injEq, Addr.mk.injEq, and_true, true_and] at he
    obtain ⟨rfl, rfl⟩ := he
    refine ⟨by rw [List.length_take, hl]; omega, Or.inr ⟨_, _, cur, rfl, hB, hh, by omega, hcm, hcs, ?_⟩⟩
    rw [← htk, List.take_take]
    congr 1
    omega

theorem ownBlock_some (a : Addr) (n c : Nat) : (Value.slice (some a) n c).ownBlock = some a.block := rfl

set_option maxHeartbeats 2000000 in
set_option maxRecDepth 100000 in
/-- The last element. -/
theorem replace_end (g n cap vb B : Nat) (xs : List Value) (t l t' l' : Value) (w : World) (hn : n ≤ 1000000) (hown : w.ownsRow B 81 2 (.slice (some ⟨g, 0, none⟩) (n + 1) cap) (n + 1) xs) (hB : B ≤ w.heap.size)
    (hv : w.heap[vb]? = some (.cells #[t, l, t', l'] 81 (0, 0))) (h1 : ∀ u ∈ [t, l, t', l'], u.oneCell' = true) :
    Calls Try.prog 77 #[.slice (some ⟨g, 0, none⟩) (n + 1) cap, .int .i64 n, .int .i64 ((n + 1 : Nat) : Int), .slice (some ⟨vb, 0, none⟩) 2 2] w fun e w' => ∃ pv', e = .returned pv' ∧ w'.ownsRow B 81 2 pv' (n + 2) (xs.take (2 * n) ++ [t, l, t', l']) ∧ w.grownBy w' (some g) ∧ (pv'.ownBlock = some g ∨ pv'.ownBlock = some w.heap.size) := by
  obtain ⟨i0, hi, hz0, hz1, hz2⟩ := info_parts info57
  have hnews : ∀ j u, [t, l, t', l'][j]? = some u → w.cell? ((⟨vb, 0, none⟩ : Addr).add j) = some u := by
    intro j u hj
    match j, hj with
    | 0, hj => simp at hj; subst hj; simp [Addr.add, World.cell?, hv]
    | 1, hj => simp at hj; subst hj; simp [Addr.add, World.cell?, hv]
    | 2, hj => simp at hj; subst hj; simp [Addr.add, World.cell?, hv]
    | 3, hj => simp at hj; subst hj; simp [Addr.add, World.cell?, hv]
    | j + 4, hj => simp at hj
  have Hnews := hidden hnews
  have Hone := hidden h1
  have hcut := ownsRow_cut hown (i := n) (by omega)
  have Hcut := hidden hcut
  have hcap : n + 1 ≤ cap ∧ cap ≤ 9223372036854775807 := by
    rcases hown.2 with ⟨h0, _⟩ | ⟨g', cap', cur, he, _, _, hnc, hcm, _, _⟩
    · cases h0
    · simp only [Value.slice.injEq, Option.some.injEq, Addr.mk.injEq, and_true, true_and] at he
      obtain ⟨_, rfl⟩ := he
      unfold maxLen at hcm
      omega
  obtain ⟨hc1, hc2⟩ := hcap
  clear hnews h1 hown hcut hv
  obtain ⟨TK, hTK⟩ : ∃ TK, xs.take (2 * n) = TK := ⟨_, rfl⟩
  rw [hTK] at Hcut ⊢
  clear hTK
  have z1 : ¬ ((n : Int) = ((n + 1 : Nat) : Int)) := by omega
  have z2 : ¬ (cap = n) := by omega
  go_enter Try.func77, Try.ntmps77
  go_wp2_with (at_builtin; refine wpList_append_at _ rfl _ _ 76 rfl B 81 i0 (.agg #[.slice none 0 0, .int .i64 0]) 2 32 Try.underlying76 hi hz0 hz1 hz2 rfl (by decide) _ _ _ rfl Hcut.out ⟨vb, 0, none⟩ 2 2 [t, l, t', l'] rfl rfl Hnews.out Hone.out ?c3 ?c4 hB (by decide) ?_)
  case c3 => unfold maxLen; omega
  case c4 => omega
  intro v' w1 hown' hgrow hat'
  have H1 := hidden hown'
  have H2 := hidden hgrow
  have H3 := hidden hat'
  have hv' : ∃ a c, v' = .slice (some a) (n + 2) c := by
    rcases hown'.2 with ⟨_, h0⟩ | ⟨g', cap', cur, he, _⟩
    · simp at h0
    · exact ⟨_, _, he⟩
  obtain ⟨a, c, rfl⟩ := hv'
  clear hown' hgrow hat'
  go_wp2
  go_ret
  exact ⟨_, rfl, H1.out, H2.out, H3.out⟩
end Go.Proofs.PlatenPiece
