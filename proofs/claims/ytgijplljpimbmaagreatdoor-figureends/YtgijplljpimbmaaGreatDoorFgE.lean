/- What figure.Len comes to. -/
import Derived.Test.YtgijplljpimbmaaGreatDoorFgD
namespace Go.Proofs.PlatenFigure
open Go.RowKit Go.Shelf
set_option linter.unusedVariables false

theorem frac_le (l : List UInt8) : frac l ≤ l.length := cnt_le _ _ (pfx_le _ _)
theorem expo_le (l : List UInt8) : expo l ≤ l.length := by
  unfold expo
  split
  · exact Nat.zero_le _
  · refine cnt_le _ _ ?_
    have h1 := pfx_le l [[101], [69]]
    have h2 := pfx_le (l.drop (pfx l [[101], [69]])) [[45], [43]]
    rw [List.length_drop] at h2
    omega
theorem wrd_word (l : List UInt8) : wrd l = 0 ∨ wrd l = 3 := by
  unfold wrd pfx pfx pfx
  split
  · exact .inr rfl
  · split
    · exact .inr rfl
    · exact .inl rfl

set_option maxHeartbeats 2000000 in
theorem len_any (s : ByteArray) (w : World) (hs : s.size ≤ 1000000) :
    Calls Tryz.prog 13 #[.string s] w fun e w' => e = .returned (.int .i64 (flen (L s) : Nat)) ∧ Below w.heap.size w w' := by
  have c1 := prefix_any s w.heap.size 2 [[45], [43]] (w.alloc (.cells #[.string ⟨#[45]⟩, .string ⟨#[43]⟩] 9)) rfl (by omega) (short_of (ps := [[45], [43]]) (by decide)) (strs_alloc w [[45], [43]] 9)
  change Calls _ _ _ _ (fun e w' => e = .returned (.int .i64 (sgn (L s) : Nat)) ∧ _) at c1
  have hst : sgn (L s) ≤ s.size := pfx_le _ _
  have HX : Hid (flen (L s) = if 0 < wrd ((L s).drop (sgn (L s))) then sgn (L s) + wrd ((L s).drop (sgn (L s))) else if nd ((L s).drop (sgn (L s))) = 0 then 0 else tail1 (L s) (sgn (L s) + nd ((L s).drop (sgn (L s))))) := rfl
  generalize sgn (L s) = st at *
  have hz : (w.alloc (.cells #[.string ⟨#[45]⟩, .string ⟨#[43]⟩] 9)).heap.size = w.heap.size + 1 := by simp
  have cs := strs_alloc (w.alloc (.cells #[.string ⟨#[45]⟩, .string ⟨#[43]⟩] 9)) [[110, 97, 110], [105, 110, 102]] 9
  rw [hz] at cs
  have c2 := prefix_any (s.extract st s.size) (w.heap.size + 1) 2 [[110, 97, 110], [105, 110, 102]] _ rfl (by omega) (short_of (ps := [[110, 97, 110], [105, 110, 102]]) (by decide)) cs
  rw [L_from] at c2
  change Calls _ _ _ _ (fun e w' => e = .returned (.int .i64 (wrd ((L s).drop st) : Nat)) ∧ _) at c2
  have hb : Below w.heap.size w ((w.alloc (.cells #[.string ⟨#[45]⟩, .string ⟨#[43]⟩] 9)).alloc (.cells ([[110, 97, 110], [105, 110, 102]].map fun p => Value.string (S p)).toArray 9)) := ((Below.refl _ _).alloc (Nat.le_refl _) _).alloc (by simp) _
  have HB := hidden hb
  have hwd := wrd_word ((L s).drop st)
  have hnd := nd_le ((L s).drop st)
  rw [List.length_drop, len_L] at hnd
  have c3 := fun w2 => digits_any (s.extract st s.size) w2 (by rw [size_from s st hst]; omega)
  rw [L_from] at c3
  generalize hw0 : wrd ((L s).drop st) = wd at *
  have HW := hidden hw0
  clear hw0 cs
  by_cases h0 : 0 < wd
  · have HY : Hid ((flen (L s) : Int) = st + wd) := by unfold Hid; rw [HX.out, if_pos h0]; omega
    have hwd3 : wd ≤ 3 := by omega
    clear HX hb c3 hwd
    generalize flen (L s) = y at *
    generalize nd ((L s).drop st) = n at *
    go_enter Tryz.func13, Tryz.ntmps13
    go_wp2_with fail
    refine c1.mono ?_
    rintro e w' ⟨rfl, rfl⟩
    go_wp2_with fail
    refine c2.mono ?_
    rintro e w' ⟨rfl, rfl⟩
    go_wp2
    go_ret
    exact ⟨by rw [HY.out]; rfl, HB.out⟩
  · obtain rfl : wd = 0 := by omega
    by_cases h1 : nd ((L s).drop st) = 0
    · have HY : Hid (flen (L s) = 0) := by unfold Hid; rw [HX.out, if_neg h0, if_pos h1]
      rw [h1] at c3
      clear HX hb hwd h1 hnd h0
      generalize flen (L s) = y at *
      go_enter Tryz.func13, Tryz.ntmps13
      go_wp2_with fail
      refine c1.mono ?_
      rintro e w' ⟨rfl, rfl⟩
      go_wp2_with fail
      refine c2.mono ?_
      rintro e w' ⟨rfl, rfl⟩
      go_wp2_with fail
      refine (c3 _).mono ?_
      rintro e w' ⟨rfl, rfl⟩
      go_wp2
      go_ret
      exact ⟨by rw [HY.out]; rfl, HB.out⟩
    · have HY : Hid (flen (L s) = tail1 (L s) (st + nd ((L s).drop st))) := by unfold Hid; rw [HX.out, if_neg h0, if_neg h1]
      clear HX hwd h0
      have h2 : ((nd ((L s).drop st) : Nat) == (0 : Int)) = false := by simp [h1]
      generalize hn : nd ((L s).drop st) = n at *
      have HN := hidden hn
      clear hn
      have hen : st + n ≤ s.size := by omega
      have c4 := fun w2 => frac_any (s.extract (st + n) s.size) w2 (by rw [size_from s _ hen]; omega)
      rw [L_from] at c4
      have hf := frac_le ((L s).drop (st + n))
      rw [List.length_drop, len_L] at hf
      have HY2 : Hid (flen (L s) = (st + n + frac ((L s).drop (st + n))) + expo ((L s).drop (st + n + frac ((L s).drop (st + n))))) := HY.out
      clear HY
      generalize hf0 : frac ((L s).drop (st + n)) = f at *
      have HF := hidden hf0
      clear hf0
      have hen2 : st + n + f ≤ s.size := by omega
      have c5 := fun w2 => expo_any (s.extract (st + n + f) s.size) w2 (by rw [size_from s _ hen2]; omega)
      rw [L_from] at c5
      have hx := expo_le ((L s).drop (st + n + f))
      rw [List.length_drop, len_L] at hx
      have HY : Hid ((flen (L s) : Int) = (st : Int) + n + f + expo ((L s).drop (st + n + f))) := by unfold Hid; rw [HY2.out]; omega
      clear HY2
      generalize expo ((L s).drop (st + n + f)) = x at *
      generalize flen (L s) = y at *
      clear hb
      go_enter Tryz.func13, Tryz.ntmps13
      go_wp2_with fail
      refine c1.mono ?_
      rintro e w' ⟨rfl, rfl⟩
      go_wp2_with fail
      refine c2.mono ?_
      rintro e w' ⟨rfl, rfl⟩
      go_wp2_with fail
      refine (c3 _).mono ?_
      rintro e w' ⟨rfl, rfl⟩
      go_wp2_with fail
      refine (c4 _).mono ?_
      rintro e w3 ⟨rfl, hb3⟩
      have HB3 := HB.out.trans (hb3.mono HB.out.size)
      have HB4 := hidden HB3
      have c5 := c5 w3
      clear hb3 HB3
      go_wp2_with fail
      refine c5.mono ?_
      rintro e w4 ⟨rfl, hb4⟩
      have HB5 := hidden (HB4.out.trans (hb4.mono HB4.out.size))
      clear hb4
      go_wp2
      go_ret
      exact ⟨by rw [HY.out]; rfl, HB5.out⟩
end Go.Proofs.PlatenFigure
