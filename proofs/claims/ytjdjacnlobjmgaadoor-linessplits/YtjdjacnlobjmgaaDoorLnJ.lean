/- What the document's Spans comes to: a new row of all lines, where each begins and how many bytes it has. -/
import Derived.Test.YtjdjacnlobjmgaaDoorLnH
namespace Go.Proofs.PlatenLines
open Go.RowKit Go.Shelf Go.Proofs.PlatenGlyph
set_option linter.unusedVariables false

theorem info32 : (Tryd.prog.info? 32).map (fun i => (i.zero, i.size, i.bytes)) = some (some (.agg #[.int .i64 0, .int .i64 0]), 2, 16) := by kernel_rfl

theorem below_append2 {B s : Nat} {e : TypeId} {w wr w1 : World} {v : Value} {n : Nat} {xs : List Value} {o : Obj} (hB : B ≤ wr.heap.size) (hown : wr.ownsRow B e s v n xs) (hnx : Below B w wr) (hg : (wr.alloc o).grownBy w1 v.ownBlock) : Below B w w1 :=
  (hnx.alloc hB o).grown hg (by simp; omega) (fun j hj => (hown.lt j hj).1)

/-- The first k lines, cell by cell. -/
def spansV (f : Nat → Nat) (n : Nat) : Nat → List Value
  | 0 => []
  | k + 1 => spansV f n k ++ [.int .i64 (beg f n k : Nat), .int .i64 (fin f n k - beg f n k : Nat)]
theorem spansV_len (f : Nat → Nat) (n : Nat) : ∀ k, (spansV f n k).length = k * 2
  | 0 => rfl
  | k + 1 => by rw [spansV, List.length_append, spansV_len f n k]; simp; omega
theorem spansV_get (f : Nat → Nat) (n : Nat) : ∀ k i, i < k → (spansV f n k)[i * 2]? = some (.int .i64 (beg f n i : Nat)) ∧ (spansV f n k)[i * 2 + 1]? = some (.int .i64 (fin f n i - beg f n i : Nat))
  | 0, i, h => absurd h (Nat.not_lt_zero _)
  | k + 1, i, h => by
    have hl := spansV_len f n k
    by_cases e : i = k
    · subst e
      rw [spansV, List.getElem?_append_right (by omega), List.getElem?_append_right (by omega), hl]
      constructor
      · simp
      · rw [show i * 2 + 1 - i * 2 = 1 by omega]; rfl
    · have ih := spansV_get f n k i (by omega)
      rw [spansV, List.getElem?_append_left (by omega), List.getElem?_append_left (by omega)]
      exact ih

/-- A slice of all lines, in a block that isn't below base. -/
def IsSpans (base : Nat) (w : World) (v : Value) (f : Nat → Nat) (n : Nat) : Prop :=
  ∃ g cap, base ≤ g ∧ v = .slice (some ⟨g, 0, none⟩) (lc f n + 1) cap ∧ lc f n + 1 ≤ cap ∧ ∀ i, i < lc f n + 1 → w.cell? ⟨g, i * 2, none⟩ = some (.int .i64 (beg f n i : Nat)) ∧ w.cell? ⟨g, i * 2 + 1, none⟩ = some (.int .i64 (fin f n i - beg f n i : Nat))
theorem IsSpans.below {base : Nat} {w w' : World} {v : Value} {n : Nat} {f : Nat → Nat} (h : IsSpans base w v f n) (hb : Below w.heap.size w w') : IsSpans base w' v f n := by
  obtain ⟨g, cap, hbg, hv, hcap, hc⟩ := h
  refine ⟨g, cap, hbg, hv, hcap, fun i hi => ?_⟩
  obtain ⟨h1, h2⟩ := hc i hi
  rw [hb.cell (p := ⟨g, i * 2, none⟩) (World.block_lt_of_cell? _ _ h1), hb.cell (p := ⟨g, i * 2 + 1, none⟩) (World.block_lt_of_cell? _ _ h2)]
  exact ⟨h1, h2⟩
theorem isSpans_of {w : World} {base : Nat} {v : Value} {f : Nat → Nat} {n : Nat} (h : w.ownsRow base 32 2 v (lc f n + 1) (spansV f n (lc f n + 1))) : IsSpans base w v f n := by
  have hcl := fun g => h.cells (g := g)
  rcases h.2 with ⟨rfl, h0⟩ | ⟨g, cap, cur, rfl, hbg, hg, hnc, hcm, hcs, htake⟩
  · omega
  · refine ⟨g, cap, hbg, rfl, hnc, fun i hi => ?_⟩
    obtain ⟨h1, h2⟩ := spansV_get f n (lc f n + 1) i hi
    have g1 := hcl g rfl _ _ h1
    have g2 := hcl g rfl _ _ h2
    have ea : ∀ j, (⟨g, 0, none⟩ : Addr).add j = ⟨g, j, none⟩ := fun j => by unfold Addr.add; split <;> simp_all
    rw [ea] at g1 g2
    exact ⟨g1, g2⟩

set_option maxHeartbeats 2000000 in
theorem spans_any (v : Value) (n : Nat) (f : Nat → Nat) (w : World) (hn : n ≤ 100000) (h : IsRow w v n f) :
    Calls Tryd.prog 16 #[v] w fun e w' => ∃ l, e = .returned l ∧ IsSpans w.heap.size w' l f n ∧ Below w.heap.size w w' := by
  have ce := ends_any v n f w hn h
  obtain ⟨i0, hi, hz0, hz1, hz2⟩ := info_parts info32
  have hle := lc_le f n
  obtain ⟨ea, cap, rfl⟩ := h.len
  clear h
  go_enter Tryd.func16, Tryd.ntmps16
  go_wp2_with fail
  refine ce.mono ?_
  rintro e w1 ⟨l, rfl, hl, hb⟩
  obtain ⟨la, lcap, hlv, hlc⟩ : ∃ la lcap, l = .slice la (lc f n) lcap ∧ ∀ wr, Below w1.heap.size w1 wr → ∀ i, i < lc f n → ∃ g, la = some ⟨g, 0, none⟩ ∧ wr.cell? ⟨g, i, none⟩ = some (.int .i64 (endAt f n i : Nat)) := by
    rcases hl with ⟨rfl, h0⟩ | ⟨g, gcap, rfl, hl⟩
    · exact ⟨none, 0, by rw [h0], fun wr _ i hi => by omega⟩
    · refine ⟨some ⟨g, 0, none⟩, gcap, rfl, fun wr hbb i hi => ⟨g, rfl, ?_⟩⟩
      have := hl i hi
      rw [hbb.cell (p := ⟨g, i, none⟩) (World.block_lt_of_cell? _ _ this)]
      exact this
  subst hlv
  have HL := hidden hlc
  have Hb := hidden hb
  clear hl hlc hb ce
  go_wp2
  go_loopw [3, 4, 6] (fun v a i wr => ∃ k : Nat, k ≤ lc f n ∧ i = .int .i64 (k : Nat) ∧ a = .int .i64 (beg f n k : Nat) ∧ wr.ownsRow w1.heap.size 32 2 v k (spansV f n k) ∧ Below w1.heap.size w1 wr) (fun _ _ i _ => lc f n - (intOf i).toNat)
  case atStart => exact ⟨0, Nat.zero_le _, rfl, rfl, World.ownsRow_nil _ _ _ _, Below.refl _ _⟩
  case round =>
    obtain ⟨k, hk, rfl, rfl, hown, hnx⟩ := hrel
    by_cases hlt : k < lc f n
    · obtain ⟨g, rfl, g1⟩ := HL.out wr hnx k hlt
      have hbf := beg_le_fin hk
      have hfn := fin_le (f := f) (n := n) (k := k)
      have hfe := (fin_end hlt).1
      have HN := hidden (beg_next hlt)
      have Hsu : Hid (spansV f n (k + 1) = spansV f n k ++ [.int .i64 (beg f n k : Nat), .int .i64 (fin f n k - beg f n k : Nat)]) := rfl
      have eF := fin_in hlt
      rw [← eF] at g1
      have e1 : ((fin f n k - beg f n k : Nat) : Int) = (fin f n k : Int) - (beg f n k : Int) := by omega
      have HL2 : Hid (∀ wr, Below w1.heap.size w1 wr → wr.cell? ⟨g, k, none⟩ = some (.int .i64 (fin f n k : Nat))) := fun wr hbb => by
        obtain ⟨g', hg, g2⟩ := HL.out wr hbb k hlt
        obtain rfl : g = g' := by simpa using hg
        rw [eF]; exact g2
      rw [e1] at Hsu
      clear eF e1
      obtain ⟨F, hF⟩ : ∃ F, fin f n k = F := ⟨_, rfl⟩
      obtain ⟨A, hA⟩ : ∃ A, beg f n k = A := ⟨_, rfl⟩
      rw [hF] at hbf hfn hfe HN Hsu g1 HL2
      rw [hA] at hbf Hsu ⊢
      clear hF hA
      go_wp2_with (at_builtin; refine wpList_append_own _ rfl _ _ 29 rfl w1.heap.size 32 i0 (.agg #[.int .i64 0, .int .i64 0]) 2 16 Tryd.underlying29 hi hz0 hz1 hz2 rfl (by decide) _ _ _ rfl (hown.alloc _) ⟨wr.heap.size, 0, none⟩ 1 1 [.int .i64 A, .int .i64 ((F : Int) - A)] rfl rfl ?c1 ?c2 ?c3 ?c4 ?c5 ?_)
      case c1 =>
        intro j u hj
        match j, hj with
        | 0, hj => simp at hj; subst hj; simp [Addr.add]
        | 1, hj => simp at hj; subst hj; simp [Addr.add]
      case c2 =>
        intro u hu
        simp at hu
        rcases hu with rfl | rfl <;> rfl
      case c3 => unfold maxLen; omega
      case c4 => omega
      case c5 => have := hnx.size; simp; omega
      intro v' w2 hown' hgrow _
      have hb2 := below_append2 hnx.size hown hnx hgrow
      have g2 := HL2.out w2 hb2
      have Hw2 : Hid (w2.ownsRow w1.heap.size 32 2 v' (k + 1) (spansV f n (k + 1))) := by unfold Hid; rw [Hsu.out]; exact hown'
      have Hb2 := hidden hb2
      clear hown' hgrow hown hnx hb2 g1
      go_wp2
      go_roundw
      case rel => exact ⟨k + 1, by omega, by go_num, by rw [HN.out]; go_num, Hw2.out, Hb2.out⟩
      case measure => simp [intOf]; omega
    · obtain rfl : k = lc f n := by omega
      have hbn := beg_le_n (Nat.le_refl (lc f n))
      have e1 : ((fin f n (lc f n) - beg f n (lc f n) : Nat) : Int) = (n : Int) - (beg f n (lc f n) : Int) := by rw [fin_last]; omega
      have Hsu : Hid (spansV f n (lc f n + 1) = spansV f n (lc f n) ++ [.int .i64 (beg f n (lc f n) : Nat), .int .i64 ((n : Int) - (beg f n (lc f n) : Nat))]) := by unfold Hid; rw [← e1]; rfl
      clear e1
      generalize beg f n (lc f n) = A at *
      go_wp2_with (at_builtin; refine wpList_append_own _ rfl _ _ 29 rfl w1.heap.size 32 i0 (.agg #[.int .i64 0, .int .i64 0]) 2 16 Tryd.underlying29 hi hz0 hz1 hz2 rfl (by decide) _ _ _ rfl (hown.alloc _) ⟨wr.heap.size, 0, none⟩ 1 1 [.int .i64 A, .int .i64 ((n : Int) - A)] rfl rfl ?c1 ?c2 ?c3 ?c4 ?c5 ?_)
      case c1 =>
        intro j u hj
        match j, hj with
        | 0, hj => simp at hj; subst hj; simp [Addr.add]
        | 1, hj => simp at hj; subst hj; simp [Addr.add]
      case c2 =>
        intro u hu
        simp at hu
        rcases hu with rfl | rfl <;> rfl
      case c3 => unfold maxLen; omega
      case c4 => omega
      case c5 => have := hnx.size; simp; omega
      intro v' w2 hown' hgrow _
      have hb2 := below_append2 hnx.size hown hnx hgrow
      have Hw2 : Hid (IsSpans w.heap.size w2 v' f n) := by
        obtain ⟨g, cap, q1, q2⟩ := isSpans_of (base := w1.heap.size) (f := f) (n := n) (by rw [Hsu.out]; exact hown')
        exact ⟨g, cap, Nat.le_trans Hb.out.size q1, q2⟩
      have Hb2 := hidden (Hb.out.trans (hb2.mono Hb.out.size))
      clear hown' hgrow hown hnx hb2
      go_wp2
      go_ret
      exact ⟨_, rfl, Hw2.out, Hb2.out⟩
end Go.Proofs.PlatenLines
