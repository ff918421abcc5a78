/- What the document's Join comes to: a new row of both texts' bytes. -/
import Derived.Test.YtjdjacnlobjmgaaDoorCallsL
import Derived.Test.YtjdjacnlobjmgaaDoorJoinM
import Derived.Laws.AppendOwnNone
namespace Go.Proofs.PlatenGlyph
open Go.RowKit Go.Shelf
set_option linter.unusedVariables false

def listOf (f : Nat → Nat) (n : Nat) : List Nat := (List.range n).map f
theorem listOf_len (f : Nat → Nat) (n : Nat) : (listOf f n).length = n := by simp [listOf]
theorem listOf_mem {f : Nat → Nat} (hf : ∀ j, f j < 256) (n : Nat) : ∀ c, c ∈ listOf f n → c < 256 := by
  intro c hc
  obtain ⟨i, _, rfl⟩ := List.mem_map.1 hc
  exact hf i
theorem listOf_getD {f : Nat → Nat} {n j : Nat} (h : j < n) : (listOf f n).getD j 0 = f j := by
  rw [listOf, List.getD_eq_getElem?_getD, List.getElem?_map, List.getElem?_range h]; rfl

/-- A slice that may be appended: the nil one, or one with an address. -/
def Src (w : World) (v : Value) (n : Nat) (f : Nat → Nat) : Prop :=
  (v = .slice none 0 0 ∧ n = 0) ∨ ∃ ad cap, v = .slice (some ad) n cap ∧ ∀ j u, (bytesV (listOf f n))[j]? = some u → w.cell? (ad.add j) = some u

theorem src_row {w : World} {b off n cap : Nat} {f : Nat → Nat} (hc : Cells w b off n f) : Src w (.slice (some ⟨b, off, none⟩) n cap) n f := by
  refine Or.inr ⟨_, _, rfl, fun j u hj => ?_⟩
  by_cases hjn : j < n
  · rw [bytesV, listOf, List.map_map, List.getElem?_map, List.getElem?_range hjn] at hj
    have := hc j hjn
    simp at hj
    subst hj
    by_cases h0 : j = 0
    · subst h0; simpa [Addr.add] using this
    · simpa [Addr.add, h0] using this
  · rw [List.getElem?_eq_none (by simp [bytesV, listOf]; omega)] at hj; cases hj

theorem src_empty {w : World} (ad : Addr) (cap : Nat) (f : Nat → Nat) : Src w (.slice (some ad) 0 cap) 0 f :=
  Or.inr ⟨_, _, rfl, fun j u hj => by simp [bytesV, listOf] at hj⟩

theorem Src.below {w w' : World} {v : Value} {n : Nat} {f : Nat → Nat} (h : Src w v n f) (hb : Below w.heap.size w w') : Src w' v n f := by
  rcases h with h | ⟨ad, cap, hv, hc⟩
  · exact Or.inl h
  · refine Or.inr ⟨ad, cap, hv, fun j u hj => ?_⟩
    have := hc j u hj
    rw [hb.cell (p := ad.add j) (World.block_lt_of_cell? _ _ this)]
    exact this

theorem bytesV_app (l m : List Nat) : bytesV (l ++ m) = bytesV l ++ bytesV m := by simp [bytesV]
theorem bytesV_len (l : List Nat) : (bytesV l).length = l.length := by simp [bytesV]
theorem bytesV_one (l : List Nat) : ∀ u ∈ bytesV l, u.oneCell' = true := by
  intro u hu
  obtain ⟨c, _, rfl⟩ := List.mem_map.1 hu
  rfl

/-- Behind an append to a row of the call's own, of bytes that lie somewhere. -/
theorem below_append' {B : Nat} {e : TypeId} {w wr w1 : World} {v : Value} {n : Nat} {xs : List Value} (hB : B ≤ wr.heap.size) (hown : wr.ownsRow B e 1 v n xs) (hnx : Below B w wr) (hg : wr.grownBy w1 v.ownBlock) : Below B w w1 :=
  hnx.grown hg hB (fun j hj => (hown.lt j hj).1)

set_option maxHeartbeats 1000000 in
theorem join_any (v v' : Value) (n m : Nat) (f g : Nat → Nat) (w : World) (hn : n ≤ 100000) (hm : m ≤ 100000) (hv : Src w v n f) (hv' : Src w v' m g) :
    Calls Tryd.prog 27 #[v, v'] w fun e w' => ∃ x, e = .returned x ∧ Laid w w' x (listOf f n ++ listOf g m) := by
  obtain ⟨i0, hi, hz0, hz1, hz2⟩ := info_parts info5
  have nil0 : w.ownsRow w.heap.size 5 1 (.slice none 0 0) 0 [] := World.ownsRow_nil _ _ _ _
  rcases hv with ⟨rfl, rfl⟩ | ⟨ad, cap, rfl, hc⟩
  · rcases hv' with ⟨rfl, rfl⟩ | ⟨ad', cap', rfl, hc'⟩
    · go_enter Tryd.func27, Tryd.ntmps27
      go_wp2_with (at_builtin; refine wpList_append_own_none rfl _ _ 22 rfl w.heap.size 5 i0 1 Tryd.underlying22 hi _ _ _ rfl nil0 rfl ?_)
      go_ret
      exact ⟨_, rfl, nil0, Below.refl _ _⟩
    · have hlen := listOf_len g m
      have HC := hidden' hc'
      clear hc'
      go_enter Tryd.func27, Tryd.ntmps27
      go_wp2_with (first
        | (at_builtin; refine wpList_append_own_none rfl _ _ 22 rfl w.heap.size 5 i0 1 Tryd.underlying22 hi _ _ _ rfl nil0 rfl ?_)
        | (at_builtin; refine wpList_append_own _ rfl _ _ 22 rfl w.heap.size 5 i0 (.int .u8 0) 1 1 Tryd.underlying22 hi hz0 hz1 hz2 rfl (by decide) _ _ _ rfl nil0 ad' m cap' (bytesV (listOf g m)) rfl ?c0 ?c1 ?c2 ?c3 ?c4 ?c5 ?_))
      case c0 => rw [bytesV_len, hlen, Nat.mul_one]
      case c1 => exact HC.out
      case c2 => exact bytesV_one _
      case c3 => unfold maxLen; omega
      case c4 => omega
      case c5 => exact Nat.le_refl _
      intro x w1 hown' hgrow _
      have HL : Hid (Laid w w1 x (listOf g m)) := ⟨by rw [hlen]; simpa using hown', below_append' (Nat.le_refl _) nil0 (Below.refl _ _) hgrow⟩
      clear hown' hgrow
      go_wp2
      go_ret
      exact ⟨_, rfl, HL.out⟩
  · have hlen := listOf_len f n
    have HC0 := hidden' hc
    have HC' := hidden' hv'
    clear hc hv'
    go_enter Tryd.func27, Tryd.ntmps27
    go_wp2_with (at_builtin; refine wpList_append_own _ rfl _ _ 22 rfl w.heap.size 5 i0 (.int .u8 0) 1 1 Tryd.underlying22 hi hz0 hz1 hz2 rfl (by decide) _ _ _ rfl nil0 ad n cap (bytesV (listOf f n)) rfl ?c0 ?c1 ?c2 ?c3 ?c4 ?c5 ?_)
    case c0 => rw [bytesV_len, hlen, Nat.mul_one]
    case c1 => exact HC0.out
    case c2 => exact bytesV_one _
    case c3 => unfold maxLen; omega
    case c4 => omega
    case c5 => exact Nat.le_refl _
    intro x w1 hown' hgrow _
    have hb1 := below_append' (Nat.le_refl _) nil0 (Below.refl _ _) hgrow
    have own1 : w1.ownsRow w.heap.size 5 1 x n (bytesV (listOf f n)) := by simpa using hown'
    have sz1 := hb1.size
    rcases HC'.out.below hb1 with ⟨rfl, rfl⟩ | ⟨ad', cap', rfl, hc'⟩
    · have HL : Hid (Laid w w1 x (listOf f n ++ listOf g 0)) := ⟨by
        have : listOf g 0 = [] := rfl
        rw [this, List.append_nil, hlen]; exact own1, hb1⟩
      clear hown' hgrow hb1
      go_wp2_with (at_builtin; refine wpList_append_own_none rfl _ _ 22 rfl w.heap.size 5 i0 1 Tryd.underlying22 hi _ _ _ rfl own1 rfl ?_)
      go_ret
      exact ⟨_, rfl, HL.out⟩
    · have hlen' := listOf_len g m
      have HC1 := hidden' hc'
      have Hb1 := hidden' hb1
      clear hown' hgrow hb1 hc'
      go_wp2_with (at_builtin; refine wpList_append_own _ rfl _ _ 22 rfl w.heap.size 5 i0 (.int .u8 0) 1 1 Tryd.underlying22 hi hz0 hz1 hz2 rfl (by decide) _ _ _ rfl own1 ad' m cap' (bytesV (listOf g m)) rfl ?c0 ?c1 ?c2 ?c3 ?c4 ?c5 ?_)
      case c0 => rw [bytesV_len, hlen', Nat.mul_one]
      case c1 => exact HC1.out
      case c2 => exact bytesV_one _
      case c3 => unfold maxLen; omega
      case c4 => omega
      case c5 => exact sz1
      intro y w2 hown2 hgrow2 _
      have HL : Hid (Laid w w2 y (listOf f n ++ listOf g m)) := ⟨by rw [List.length_append, hlen, hlen', bytesV_app]; exact hown2, below_append' sz1 own1 Hb1.out hgrow2⟩
      clear hown2 hgrow2
      go_wp2
      go_ret
      exact ⟨_, rfl, HL.out⟩
end Go.Proofs.PlatenGlyph
