/- Two texts with a line end between: where lines are in them, and columns; the row that the document's Join lays. -/
import Derived.Test.YtjdjacnlobjmgaaDoorLnN
namespace Go.Proofs.PlatenLines
open Go.RowKit Go.Shelf Go.Proofs.PlatenGlyph
set_option linter.unusedVariables false

theorem wid_congr {f g : Nat → Nat} {n col tab : Nat} (h : ∀ j, j < n → f j = g j) : ∀ k, wid f n col tab k = wid g n col tab k
  | 0 => rfl
  | k + 1 => by
    simp only [wid]
    rw [nth_congr h k, wid_congr h k]
    by_cases hk : nth g n k < n
    · rw [if_pos hk, if_pos hk, h _ hk]
    · rw [if_neg hk, if_neg hk]
theorem wide_congr {f g : Nat → Nat} {n col tab : Nat} (h : ∀ j, j < n → f j = g j) : wide f n col tab = wide g n col tab := by
  unfold wide; rw [cnt_congr h, wid_congr h]

/-- F is f's n bytes, a line end, and g's m bytes. -/
structure Both (F f g : Nat → Nat) (n m : Nat) : Prop where
  lo : ∀ j, j < n → F j = f j
  mid : F n = 10
  hi : ∀ j, j < m → F (n + 1 + j) = g j

theorem Both.lc {F f g : Nat → Nat} {n m : Nat} (h : Both F f g n m) {k : Nat} (hk : k ≤ m) : lc F (n + 1 + k) = lc f n + 1 + lc g k := by
  rw [lc_shift k (fun j hj => h.hi j (by omega)), lc_yes h.mid, lc_congr h.lo]
theorem Both.lcn {F f g : Nat → Nat} {n m : Nat} (h : Both F f g n m) : PlatenLines.lc F n = PlatenLines.lc f n := lc_congr h.lo
theorem Both.beg {F f g : Nat → Nat} {n m : Nat} (h : Both F f g n m) {i : Nat} (hi : i ≤ PlatenLines.lc g m) : beg F (n + 1 + m) (PlatenLines.lc f n + 1 + i) = n + 1 + PlatenLines.beg g m i := by
  cases i with
  | zero =>
    have := endAt_of (f := F) (n := n + 1 + m) (j := n) (by omega) h.mid
    rw [h.lcn] at this
    rw [Nat.add_zero, beg_succ, this, beg_zero]
  | succ i =>
    obtain ⟨e1, e2, e3⟩ := endAt_spec (f := g) (n := m) (k := i) (by omega)
    have hF : F (n + 1 + endAt g m i) = 10 := by rw [h.hi _ e1]; exact e2
    have := endAt_of (f := F) (n := n + 1 + m) (j := n + 1 + endAt g m i) (by omega) hF
    rw [h.lc (by omega), e3] at this
    rw [← Nat.add_assoc, beg_succ, this, beg_succ]
    omega
theorem clamp_nat {n k : Nat} (h : k ≤ n) : clamp n (k : Int) = k := by unfold clamp; omega
theorem Both.col {F f g : Nat → Nat} {n m : Nat} (h : Both F f g n m) {k T : Nat} (hk : k ≤ m) : colAt F (n + 1 + m) ((n + 1 + k : Nat) : Int) T = colAt g m (k : Int) T := by
  unfold colAt
  rw [clamp_nat hk, clamp_nat (show n + 1 + k ≤ n + 1 + m by omega), h.lc hk, h.beg (lc_mono g hk)]
  have hb := (of_line (f := g) hk).2.1
  rw [show n + 1 + k - (n + 1 + PlatenLines.beg g m (PlatenLines.lc g k)) = k - PlatenLines.beg g m (PlatenLines.lc g k) by omega]
  refine wide_congr fun j hj => ?_
  show F (n + 1 + PlatenLines.beg g m (PlatenLines.lc g k) + j) = _
  rw [Nat.add_assoc (n + 1), h.hi _ (by omega)]

theorem IsRow.src {w : World} {v : Value} {n : Nat} {f : Nat → Nat} (h : IsRow w v n f) : Src w v n f := by
  rcases h.2.2 with ⟨a, rfl, rfl⟩ | ⟨b, off, cap, rfl, _, hc⟩
  · cases a with
    | none => exact Or.inl ⟨rfl, rfl⟩
    | some x => exact src_empty x 0 f
  · exact src_row hc
theorem listOf_self (l : List Nat) : listOf (fun j => l.getD j 0) l.length = l := by
  apply List.ext_getElem?
  intro i
  by_cases hi : i < l.length
  · rw [listOf, List.getElem?_map, List.getElem?_range hi, List.getElem?_eq_getElem hi]
    simp [List.getD_eq_getElem?_getD, List.getElem?_eq_getElem hi]
  · rw [List.getElem?_eq_none (by rw [listOf_len]; omega), List.getElem?_eq_none (by omega)]
theorem isRow_own {w : World} {base : Nat} {v : Value} {l : List Nat} (hl : ∀ c, c ∈ l → c < 256) (hn : l.length ≤ 1000000) (h : w.ownsRow base 5 1 v l.length (bytesV l)) : IsRow w v l.length (fun j => l.getD j 0) := by
  have hb := isBytes_own hl hn h
  refine ⟨hb.1, by omega, ?_⟩
  obtain ⟨_, h⟩ := h
  rcases h with ⟨rfl, h0⟩ | ⟨g, cap, cur, rfl, _, hh, hc, _, hs, ht⟩
  · exact Or.inl ⟨none, rfl, h0⟩
  · refine Or.inr ⟨g, 0, cap, rfl, hc, fun i hi => ?_⟩
    have h1 : (cur.toList.take (l.length * 1))[i]? = some (Value.int .u8 (l.getD i 0 : Nat)) := by
      rw [ht, bytesV, List.getElem?_map, List.getD_eq_getElem?_getD, List.getElem?_eq_getElem hi]; rfl
    rw [List.getElem?_take, if_pos (by omega), Array.getElem?_toList] at h1
    simp only [World.cell?, hh]
    simpa using h1

theorem both_of (f g : Nat → Nat) (n m : Nat) : Both (fun j => ((listOf f n ++ [10]) ++ listOf g m).getD j 0) f g n m := by
  have l1 := listOf_len f n
  have l2 := listOf_len g m
  have l3 : (listOf f n ++ [10]).length = n + 1 := by simp [l1]
  refine ⟨fun j hj => ?_, ?_, fun j hj => ?_⟩
  · show ((listOf f n ++ [10]) ++ listOf g m).getD j 0 = f j
    rw [List.getD_eq_getElem?_getD, List.getElem?_append_left (by omega), List.getElem?_append_left (by omega), ← List.getD_eq_getElem?_getD, listOf_getD hj]
  · show ((listOf f n ++ [10]) ++ listOf g m).getD n 0 = 10
    rw [List.getD_eq_getElem?_getD, List.getElem?_append_left (by omega), List.getElem?_append_right (by omega), l1]
    simp
  · show ((listOf f n ++ [10]) ++ listOf g m).getD (n + 1 + j) 0 = g j
    rw [List.getD_eq_getElem?_getD, List.getElem?_append_right (by omega), l3, show n + 1 + j - (n + 1) = j by omega, ← List.getD_eq_getElem?_getD, listOf_getD hj]
theorem both_len (f g : Nat → Nat) (n m : Nat) : ((listOf f n ++ [10]) ++ listOf g m).length = n + 1 + m := by
  simp [listOf_len]; omega

/-- Both Joins: p, a line end, q. -/
theorem src_ten {w : World} (cap : Nat) : Src (w.alloc (.cells #[.int .u8 10] 5)) (.slice (some ⟨w.heap.size, 0, none⟩) 1 cap) 1 (fun _ => 10) :=
  src_row (b := w.heap.size) (off := 0) (fun j hj => by obtain rfl : j = 0 := by omega
                                                        simp)
theorem join1 (v : Value) (n : Nat) (f : Nat → Nat) (w : World) (hn : n ≤ 1000) (h : IsRow w v n f) :
    Calls Tryd.prog 27 #[v, .slice (some ⟨w.heap.size, 0, none⟩) 1 1] (w.alloc (.cells #[.int .u8 10] 5)) fun e w' => ∃ x, e = .returned x ∧ Laid (w.alloc (.cells #[.int .u8 10] 5)) w' x (listOf f n ++ [10]) := by
  have hb0 : Below w.heap.size w (w.alloc (.cells #[.int .u8 10] 5)) := (Below.refl _ _).alloc (Nat.le_refl _) _
  exact join_any v _ n 1 f (fun _ => 10) (w.alloc (.cells #[.int .u8 10] 5)) (by omega) (by omega) (h.below hb0).src (src_ten 1)
theorem join2 (v v' : Value) (l : List Nat) (m : Nat) (g : Nat → Nat) (base : Nat) (w : World) (hl : ∀ c, c ∈ l → c < 256) (hn : l.length ≤ 1001) (hm : m ≤ 1000) (hown : w.ownsRow base 5 1 v l.length (bytesV l)) (h : IsRow w v' m g) :
    Calls Tryd.prog 27 #[v, v'] w fun e w' => ∃ x, e = .returned x ∧ Laid w w' x (l ++ listOf g m) := by
  have := join_any v v' l.length m (fun j => l.getD j 0) g w (by omega) (by omega) (isRow_own hl (by omega) hown).src h.src
  rw [listOf_self] at this
  exact this
end Go.Proofs.PlatenLines
