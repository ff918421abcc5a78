/- What the document's Starts comes to: a new row of the places at which signs begin. -/
import Derived.Test.YtjdjacnlobjmgaaDoorCallsE
namespace Go.Proofs.PlatenGlyph
open Go.RowKit Go.Shelf
set_option linter.unusedVariables false

theorem info3 : (Tryd.prog.info? 3).map (fun i => (i.zero, i.size, i.bytes)) = some (some (.int .i64 0), 1, 8) := by kernel_rfl
theorem info5 : (Tryd.prog.info? 5).map (fun i => (i.zero, i.size, i.bytes)) = some (some (.int .u8 0), 1, 1) := by kernel_rfl

/-- Behind an append to a row of the call's own. -/
theorem below_append {B : Nat} {e : TypeId} {w wr w1 : World} {v : Value} {n : Nat} {xs : List Value} {o : Obj} (hB : B ≤ wr.heap.size) (hown : wr.ownsRow B e 1 v n xs) (hnx : Below B w wr) (hg : (wr.alloc o).grownBy w1 v.ownBlock) : Below B w w1 :=
  (hnx.alloc hB o).grown hg (by simp; omega) (fun j hj => (hown.lt j hj).1)

def startsL (f : Nat → Nat) (n k : Nat) : List Value := (List.range k).map fun i => Value.int .i64 (nth f n i : Nat)
theorem startsL_succ (f : Nat → Nat) (n k : Nat) : startsL f n (k + 1) = startsL f n k ++ [Value.int .i64 (nth f n k : Nat)] := by
  simp [startsL, List.range_succ]

/-- A slice of c integers. -/
def IsInts (w : World) (v : Value) (c : Nat) (x : Nat → Nat) : Prop :=
  (v = .slice none 0 0 ∧ c = 0) ∨ ∃ g cap, v = .slice (some ⟨g, 0, none⟩) c cap ∧ ∀ i, i < c → w.cell? ⟨g, i, none⟩ = some (.int .i64 (x i : Nat))

theorem isInts_of {w : World} {base : Nat} {v : Value} {c : Nat} {x : Nat → Nat} (h : w.ownsRow base 3 1 v c ((List.range c).map fun i => Value.int .i64 (x i : Nat))) : IsInts w v c x := by
  obtain ⟨_, h⟩ := h
  rcases h with ⟨rfl, rfl⟩ | ⟨g, cap, cur, rfl, _, hh, hc, _, hs, ht⟩
  · exact Or.inl ⟨rfl, rfl⟩
  · refine Or.inr ⟨g, cap, rfl, fun i hi => ?_⟩
    have h1 : (cur.toList.take (c * 1))[i]? = some (Value.int .i64 (x i : Nat)) := by
      rw [ht, List.getElem?_map, List.getElem?_range hi]; rfl
    rw [List.getElem?_take, if_pos (by omega), Array.getElem?_toList] at h1
    simp only [World.cell?, hh]
    simpa using h1

theorem IsInts.below {w w' : World} {v : Value} {c : Nat} {x : Nat → Nat} (h : IsInts w v c x) (hb : Below w.heap.size w w') : IsInts w' v c x := by
  rcases h with h | ⟨g, cap, hv, hc⟩
  · exact Or.inl h
  · refine Or.inr ⟨g, cap, hv, fun i hi => ?_⟩
    have := hc i hi
    rw [hb.cell (p := ⟨g, i, none⟩) (World.block_lt_of_cell? _ _ this)]
    exact this

set_option maxHeartbeats 1000000 in
theorem starts_row (f : Nat → Nat) (b off n cap : Nat) (w : World) (hf : ∀ j, f j < 256) (hn : n ≤ 100000) (hcap : n ≤ cap) (hc : Cells w b off n f) :
    Calls Tryd.prog 47 #[.slice (some ⟨b, off, none⟩) n cap] w fun e w' => ∃ v, e = .returned v ∧ w'.ownsRow w.heap.size 3 1 v (cnt f n) (startsL f n (cnt f n)) ∧ Below w.heap.size w w' := by
  obtain ⟨i0, hi, hz0, hz1, hz2⟩ := info_parts info3
  go_enter Tryd.func47, Tryd.ntmps47
  go_wp2
  go_loopw [3, 4] (fun v a wr => ∃ k : Nat, k ≤ cnt f n ∧ a = .int .i64 (nth f n k : Nat) ∧ wr.ownsRow w.heap.size 3 1 v k (startsL f n k) ∧ Below w.heap.size w wr) (fun _ a _ => n - (intOf a).toNat)
  case atStart => exact ⟨0, Nat.zero_le _, rfl, World.ownsRow_nil _ _ _ _, Below.refl _ _⟩
  case round =>
    obtain ⟨k, hk, rfl, hown, hnx⟩ := hrel
    have hcn := cnt_le f n
    have hend : nth f n k < n ∨ (nth f n k = n ∧ k = cnt f n) := by
      by_cases hlt : nth f n k < n
      · exact Or.inl hlt
      · refine Or.inr ⟨by have := nth_le f n k; omega, ?_⟩
        have := cnt_iff f n k; omega
    rcases hend with hlt | ⟨hlt, hkc⟩
    · have hk1 : k + 1 ≤ cnt f n := (cnt_iff f n k).1 hlt
      have hs4 := szAt_le4 f n (nth f n k)
      have hs1 := szAt_pos (f := f) hlt
      have hsu := startsL_succ f n k
      have Hlt := hidden' hlt
      have Hsu := hidden' hsu
      clear hsu
      obtain ⟨A, hA⟩ : ∃ A, nth f n k = A := ⟨_, rfl⟩
      rw [hA] at hlt
      have HA := hidden' hA
      rw [hA]
      clear hA
      go_wp2_with (at_builtin; refine wpList_append_own _ rfl _ _ 25 rfl w.heap.size 3 i0 (.int .i64 0) 1 8 Tryd.underlying25 hi hz0 hz1 hz2 rfl (by decide) _ _ _ rfl (hown.alloc _) ⟨wr.heap.size, 0, none⟩ 1 1 [.int .i64 A] rfl rfl ?c1 ?c2 ?c3 ?c4 ?c5 ?_)
      case c1 =>
        intro j u hj
        match j, hj with
        | 0, hj => simp at hj; subst hj; simp [Addr.add]
      case c2 => intro u hu; simp at hu; subst hu; rfl
      case c3 => unfold maxLen; omega
      case c4 => omega
      case c5 => have := hnx.size; simp; omega
      intro v' w1 hown' hgrow _
      have hb1 := below_append hnx.size hown hnx hgrow
      have hw1 : w1.ownsRow w.heap.size 3 1 v' (k + 1) (startsL f n (k + 1)) := by rw [Hsu.out, HA.out]; exact hown'
      have cz := size_in f b off n cap A w1 hf (by omega) (hc.below hb1) hlt
      have HN : Hid (nth f n (k + 1) = A + szAt f n A) := by unfold Hid; rw [← HA.out]; rfl
      have Hb1 := hidden' hb1
      have Hw1 := hidden' hw1
      rw [HA.out] at hs4 hs1
      clear hown' hgrow hown hb1 hw1 hnx hc
      generalize szAt f n A = s at *
      go_wp2_with (go_at_call 59; refine cz.mono ?_; rintro e w2 ⟨rfl, rfl⟩)
      go_roundw
      case rel => exact ⟨k + 1, hk1, by rw [HN.out]; go_num, Hw1.out, Hb1.out⟩
      case measure => simp [intOf]; omega
    · have hz : ¬ ((nth f n k : Int) < (n : Int)) := by omega
      have Hown : Hid (wr.ownsRow w.heap.size 3 1 u3 (cnt f n) (startsL f n (cnt f n))) := by unfold Hid; rw [← hkc]; exact hown
      clear hkc hlt hown
      generalize nth f n k = A at *
      go_wp2
      go_ret
      exact ⟨_, rfl, Hown.out, hnx⟩
end Go.Proofs.PlatenGlyph
