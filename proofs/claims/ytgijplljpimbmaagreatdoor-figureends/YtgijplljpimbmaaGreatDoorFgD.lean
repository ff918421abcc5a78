/- What figure.counted, fraction, exponent, Len come to. -/
import Derived.Test.YtgijplljpimbmaaGreatDoorFgC
namespace Go.Proofs.PlatenFigure
open Go.RowKit Go.Shelf
set_option linter.unusedVariables false

theorem strs_alloc (w : World) (ps : List (List UInt8)) (T : TypeId) : Strs (w.alloc (.cells (ps.map fun p => Value.string (S p)).toArray T)) w.heap.size ps := by
  intro j hj
  rw [World.cell?_alloc_new, List.getElem?_toArray, List.getElem?_map, List.getElem?_eq_getElem hj, List.getD_eq_getElem?_getD, List.getElem?_eq_getElem hj]
  rfl

set_option maxHeartbeats 1000000 in
theorem counted_any (s : ByteArray) (n : Nat) (w : World) (hs : s.size ≤ 1000000) (hn : n ≤ s.size) :
    Calls Tryz.prog 46 #[.string s, .int .i64 n] w fun e w' => e = .returned (.int .i64 (cnt (L s) n : Nat)) ∧ w' = w := by
  have HX : Hid (cnt (L s) n = if n = 0 ∨ nd ((L s).drop n) = 0 then 0 else n + nd ((L s).drop n)) := rfl
  by_cases h0 : n = 0
  · have HY : Hid (cnt (L s) n = 0) := by unfold Hid; rw [HX.out]; simp [h0]
    have c := digits_any s w hs
    clear HX
    generalize cnt (L s) n = x at *
    generalize nd (L s) = d at *
    subst h0
    go_enter Tryz.func46, Tryz.ntmps46
    go_wp2_with fail
    refine c.mono ?_
    rintro e w' ⟨rfl, rfl⟩
    go_wp2
    go_ret
    exact ⟨by rw [HY.out]; rfl, rfl⟩
  · have c := digits_any (s.extract n s.size) w (by rw [size_from s n hn]; omega)
    rw [L_from] at c
    have hle := nd_le ((L s).drop n)
    rw [List.length_drop, len_L] at hle
    generalize cnt (L s) n = x at *
    generalize nd ((L s).drop n) = d at *
    by_cases h1 : d = 0
    · have HY : Hid (x = 0) := by unfold Hid; rw [HX.out]; simp [h1]
      clear HX
      subst h1
      have h2 : ((n : Int) == 0) = false := by simp [h0]
      go_enter Tryz.func46, Tryz.ntmps46
      go_wp2_with fail
      refine c.mono ?_
      rintro e w' ⟨rfl, rfl⟩
      go_wp2
      go_ret
      exact ⟨by rw [HY.out]; rfl, rfl⟩
    · have HY : Hid ((x : Int) = n + d) := by unfold Hid; rw [HX.out]; simp [h0, h1]
      clear HX
      have h2 : ((n : Int) == 0) = false := by simp [h0]
      have h3 : ((d : Int) == 0) = false := by simp [h1]
      go_enter Tryz.func46, Tryz.ntmps46
      go_wp2_with fail
      refine c.mono ?_
      rintro e w' ⟨rfl, rfl⟩
      go_wp2
      go_ret
      exact ⟨by rw [HY.out]; rfl, rfl⟩

theorem short_of {ps : List (List UInt8)} (h : (ps.all fun p => decide (p.length ≤ 100)) = true) : ∀ j, j < ps.length → (ps.getD j []).length ≤ 100 := by
  intro j hj
  rw [List.getD_eq_getElem?_getD, List.getElem?_eq_getElem hj]
  have := List.all_eq_true.1 h ps[j] (List.getElem_mem hj)
  simpa using this
theorem pfx_le (l : List UInt8) : ∀ ps, pfx l ps ≤ l.length
  | [] => Nat.zero_le _
  | p :: ps => by
    unfold pfx
    split
    · rename_i h
      exact List.IsPrefix.length_le (List.isPrefixOf_iff_prefix.1 h)
    · exact pfx_le l ps

set_option maxHeartbeats 1000000 in
theorem frac_any (s : ByteArray) (w : World) (hs : s.size ≤ 1000000) :
    Calls Tryz.prog 33 #[.string s] w fun e w' => e = .returned (.int .i64 (frac (L s) : Nat)) ∧ Below w.heap.size w w' := by
  have c1 := prefix_any s w.heap.size 1 [[46]] (w.alloc (.cells #[.string ⟨#[46]⟩] 9)) rfl (by omega) (short_of (ps := [[46]]) (by decide)) (strs_alloc w [[46]] 9)
  have c2 := counted_any s (pfx (L s) [[46]]) (w.alloc (.cells #[.string ⟨#[46]⟩] 9)) hs (pfx_le _ _)
  have hb : Below w.heap.size w (w.alloc (.cells #[.string ⟨#[46]⟩] 9)) := (Below.refl _ _).alloc (Nat.le_refl _) _
  have HB := hidden hb
  clear hb
  have hp : pfx (L s) [[46]] ≤ s.size := pfx_le _ _
  rw [show cnt (L s) (pfx (L s) [[46]]) = frac (L s) from rfl] at c2
  generalize pfx (L s) [[46]] = x at *
  generalize frac (L s) = y at *
  go_enter Tryz.func33, Tryz.ntmps33
  go_wp2_with fail
  refine c1.mono ?_
  rintro e w' ⟨rfl, rfl⟩
  go_wp2_with fail
  refine c2.mono ?_
  rintro e w' ⟨rfl, rfl⟩
  go_wp2
  go_ret
  exact ⟨rfl, HB.out⟩

theorem cnt_le (l : List UInt8) (n : Nat) (h : n ≤ l.length) : cnt l n ≤ l.length := by
  unfold cnt
  have := nd_le (l.drop n)
  rw [List.length_drop] at this
  split <;> omega

set_option maxHeartbeats 1000000 in
theorem expo_any (s : ByteArray) (w : World) (hs : s.size ≤ 1000000) :
    Calls Tryz.prog 34 #[.string s] w fun e w' => e = .returned (.int .i64 (expo (L s) : Nat)) ∧ Below w.heap.size w w' := by
  have c1 := prefix_any s w.heap.size 2 [[101], [69]] (w.alloc (.cells #[.string ⟨#[101]⟩, .string ⟨#[69]⟩] 9)) rfl (by omega) (short_of (ps := [[101], [69]]) (by decide)) (strs_alloc w [[101], [69]] 9)
  have hp : pfx (L s) [[101], [69]] ≤ s.size := pfx_le _ _
  have HX : Hid (expo (L s) = if pfx (L s) [[101], [69]] = 0 then 0 else cnt (L s) (pfx (L s) [[101], [69]] + pfx ((L s).drop (pfx (L s) [[101], [69]])) [[45], [43]])) := rfl
  by_cases h0 : pfx (L s) [[101], [69]] = 0
  · have HY : Hid (expo (L s) = 0) := by unfold Hid; rw [HX.out, if_pos h0]
    rw [h0] at c1
    clear HX h0 hp
    generalize expo (L s) = y at *
    have hb : Below w.heap.size w (w.alloc (.cells #[.string ⟨#[101]⟩, .string ⟨#[69]⟩] 9)) := (Below.refl _ _).alloc (Nat.le_refl _) _
    have HB := hidden hb
    clear hb
    go_enter Tryz.func34, Tryz.ntmps34
    go_wp2_with fail
    refine c1.mono ?_
    rintro e w' ⟨rfl, rfl⟩
    go_wp2
    go_ret
    exact ⟨by rw [HY.out]; rfl, HB.out⟩
  · have h1 := if_neg h0 ▸ HX.out
    clear HX
    have hq : pfx (L s) [[101], [69]] + pfx ((L s).drop (pfx (L s) [[101], [69]])) [[45], [43]] ≤ s.size := by
      have := pfx_le ((L s).drop (pfx (L s) [[101], [69]])) [[45], [43]]
      rw [List.length_drop, len_L] at this
      omega
    generalize hm : pfx (L s) [[101], [69]] = m at *
    have HM := hidden hm
    clear hm
    have c2 := fun w2 => prefix_any (s.extract m s.size) (w.heap.size + 1) 2 [[45], [43]] w2 rfl (by omega) (short_of (ps := [[45], [43]]) (by decide))
    rw [L_from] at c2
    have c3 := fun w2 => counted_any s (m + pfx ((L s).drop m) [[45], [43]]) w2 hs hq
    rw [← h1] at c3
    clear h1
    generalize pfx ((L s).drop m) [[45], [43]] = x at *
    generalize expo (L s) = y at *
    have h2 : ((m : Int) == 0) = false := by simp [h0]
    have hz : (w.alloc (.cells #[.string ⟨#[101]⟩, .string ⟨#[69]⟩] 9)).heap.size = w.heap.size + 1 := by simp
    have cs := strs_alloc (w.alloc (.cells #[.string ⟨#[101]⟩, .string ⟨#[69]⟩] 9)) [[45], [43]] 9
    rw [hz] at cs
    have c2 := c2 _ cs
    have hb : Below w.heap.size w ((w.alloc (.cells #[.string ⟨#[101]⟩, .string ⟨#[69]⟩] 9)).alloc (.cells ([[45], [43]].map fun p => Value.string (S p)).toArray 9)) := ((Below.refl _ _).alloc (Nat.le_refl _) _).alloc (by simp) _
    have HB := hidden hb
    have c3 := c3 ((w.alloc (.cells #[.string ⟨#[101]⟩, .string ⟨#[69]⟩] 9)).alloc (.cells ([[45], [43]].map fun p => Value.string (S p)).toArray 9))
    rw [Int.natCast_add] at c3
    clear cs hz hb
    go_enter Tryz.func34, Tryz.ntmps34
    go_wp2_with fail
    refine c1.mono ?_
    rintro e w' ⟨rfl, rfl⟩
    go_wp2_with fail
    refine c2.mono ?_
    rintro e w' ⟨rfl, rfl⟩
    go_wp2_with fail
    refine c3.mono ?_
    rintro e w' ⟨rfl, rfl⟩
    go_wp2
    go_ret
    exact ⟨rfl, HB.out⟩
end Go.Proofs.PlatenFigure
