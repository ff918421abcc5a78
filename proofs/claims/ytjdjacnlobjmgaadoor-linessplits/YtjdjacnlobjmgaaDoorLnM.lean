/- What the document's Tab and Column come to. -/
import Derived.Test.YtjdjacnlobjmgaaDoorLnL
namespace Go.Proofs.PlatenLines
open Go.RowKit Go.Shelf Go.Proofs.PlatenGlyph
set_option linter.unusedVariables false

theorem kept_cell {W w' : World} {p : Addr} {x : Value} (hb : Below W.heap.size W w') (h : W.cell? p = some x) : w'.cell? p = some x := by
  rw [hb.cell (World.block_lt_of_cell? _ _ h)]; exact h

set_option maxHeartbeats 400000 in
theorem tab_any (tab : Int) (T : Nat) (w : World) (hmT : max tab 1 = T) :
    Calls Tryd.prog 38 #[.int .i64 tab] w fun e w' => e = .returned (.int .i64 T) ∧ w' = w := by
  by_cases h : tab < 1
  · obtain rfl : T = 1 := by omega
    clear hmT
    go_enter Tryd.func38, Tryd.ntmps38
    go_wp2
    go_ret
    exact ⟨rfl, rfl⟩
  · obtain rfl : tab = T := by omega
    clear hmT
    go_enter Tryd.func38, Tryd.ntmps38
    go_wp2
    go_ret
    exact ⟨rfl, rfl⟩

theorem clamp_clamp (n : Nat) (a : Int) : clamp n (clamp n a : Nat) = clamp n a := by
  have := clamp_z n a
  have := clamp_z n (clamp n a : Nat)
  have := clamp_le n a
  omega

/-- Behind some calls: what was there is as it was. -/
def Rel (w u : World) : Prop := Below w.heap.size w u
theorem Rel.drew {w u : World} (h : Rel w u) : Rel w u.drew := Below.drew h
theorem Rel.next {w u u' : World} (h : Rel w u) (hb : Below u.heap.size u u') : Rel w u' := Below.trans h (hb.mono h.size)
theorem Rel.refl (w : World) : Rel w w := Below.refl _ _

set_option maxHeartbeats 2000000 in
theorem rcolumn_row (f : Nat → Nat) (b off n cap : Nat) (a tab : Int) (T : Nat) (w : World) (hf : ∀ j, f j < 256) (hn : n ≤ 100000) (hcap : n ≤ cap) (hc : Cells w b off n f) (hmT : max tab 1 = T) (ht : T ≤ 1000) :
    Calls Tryd.prog 26 #[.slice (some ⟨b, off, none⟩) n cap, .int .i64 a, .int .i64 tab] w fun e w' => e = .returned (.int .i64 (colAt f n a T : Nat)) ∧ Below w.heap.size w w' := by
  have hl := clamp_le n a
  have hz := clamp_z n a
  have hcc := clamp_clamp n a
  have h1 : 1 ≤ T := by omega
  have hv : IsRow w (.slice (some ⟨b, off, none⟩) n cap) n f := ⟨hf, by omega, Or.inr ⟨b, off, cap, rfl, hcap, hc⟩⟩
  unfold colAt
  have HS : Hid (∀ u, Rel w u → Calls Tryd.prog 16 #[.slice (some ⟨b, off, none⟩) n cap] u fun e w' => ∃ l, e = .returned l ∧ IsSpans u.heap.size w' l f n ∧ Rel w w' ∧ Below u.heap.size u w') := fun u hu =>
    (spans_any _ n f u (by omega) (hv.below hu)).mono fun e w' ⟨l, he, hl, hb⟩ => ⟨l, he, hl, hu.next hb, hb⟩
  have HO : Hid (∀ u, Rel w u → Calls Tryd.prog 15 #[.slice (some ⟨b, off, none⟩) n cap, .int .i64 (clamp n a : Nat)] u fun e w' => e = .returned (.int .i64 (lc f (clamp n a) : Nat)) ∧ Rel w w' ∧ Below u.heap.size u w') := fun u hu => by
    have := rof_any _ n f (clamp n a : Nat) u (by omega) (hv.below hu)
    rw [hcc] at this
    exact this.mono fun e w' ⟨he, hb⟩ => ⟨he, hu.next hb, hb⟩
  have hk := lc_mono f hl
  have hBk := (of_line (f := f) hl).2.1
  have hll := lc_le f n
  obtain ⟨B, hB⟩ : ∃ B, beg f n (lc f (clamp n a)) = B := ⟨_, rfl⟩
  rw [hB] at hBk ⊢
  have HB := hidden hB
  obtain ⟨R, hR⟩ : ∃ R, wide (fun j => f (B + j)) (clamp n a - B) 0 T = R := ⟨_, rfl⟩
  rw [hR]
  have HW : Hid (∀ u, Rel w u → Calls Tryd.prog 37 #[.slice (some ⟨b, off + B, none⟩) (clamp n a - B) (cap - B), .int .i64 0, .int .i64 T] u fun e w' => e = .returned (.int .i64 R) ∧ Rel w w') := fun u hu => by
    have := rwide_any (.slice (some ⟨b, off + B, none⟩) (clamp n a - B) (cap - B)) (fun j => f (B + j)) (clamp n a - B) 0 T u (by omega)
      ⟨fun j => hf _, by omega, Or.inr ⟨b, off + B, cap - B, rfl, by omega, ((hc.below hu).head hl).tail B⟩⟩ (by omega) h1 ht
    rw [hR] at this
    exact this.mono fun e w' ⟨he, hb⟩ => ⟨he, hu.next hb⟩
  have HW0 : Hid (clamp n a - B = 0 → ∀ u, Rel w u → Calls Tryd.prog 37 #[.slice (some ⟨b, off, none⟩) 0 0, .int .i64 0, .int .i64 T] u fun e w' => e = .returned (.int .i64 R) ∧ Rel w w') := fun h0 u hu => by
    have := rwide_any (.slice (some ⟨b, off, none⟩) 0 0) (fun j => f (B + j)) 0 0 T u (by omega)
      ⟨fun j => hf _, by omega, Or.inl ⟨_, _, rfl, rfl⟩⟩ (by omega) h1 ht
    rw [h0] at hR
    rw [hR] at this
    exact this.mono fun e w' ⟨he, hb⟩ => ⟨he, hu.next hb⟩
  have HT : Hid (∀ u, Rel w u → Calls Tryd.prog 38 #[.int .i64 tab] u fun e w' => e = .returned (.int .i64 T) ∧ Rel w w') := fun u hu =>
    (tab_any tab T u hmT).mono fun e w' ⟨he, hw⟩ => ⟨he, hw ▸ hu⟩
  clear hB hR hc hf hv hmT hcc
  generalize clamp n a = k at *
  generalize lc f k = K at *
  have z1 : (0 : Int) ≤ (K : Int) := by omega
  have z2 : (K : Int) < (lc f n : Int) + 1 := by omega
  by_cases h0 : a < 0
  · obtain rfl : k = 0 := by omega
    obtain rfl : B = 0 := by omega
    have z9 : ¬ ((0 : Int) > (n : Int)) := by omega
    clear hz
    go_enter Tryd.func26, Tryd.ntmps26
    go_wp2_with fail
    refine (HS.out _ (Rel.refl _)).mono ?_
    rintro e w1 ⟨l, rfl, ⟨g, gcap, hbg, rfl, hgc, hl1⟩, r1, b1⟩
    have g1 := (hl1 K (by omega)).1
    rw [HB.out] at g1
    clear hl1 b1
    go_wp2_with fail
    refine (HO.out _ r1).mono ?_
    rintro e w2 ⟨rfl, r2, b2⟩
    have g2 := kept_cell b2 g1
    clear b2 g1 r1
    go_wp2_with fail
    clear HS HO HB g2
    have HW' : Hid (∀ u, Rel w u → Calls Tryd.prog 37 #[.slice (some ⟨b, off, none⟩) 0 cap, .int .i64 0, .int .i64 T] u fun e w' => e = .returned (.int .i64 R) ∧ Rel w w') := fun u hu => HW.out u hu
    clear HW HW0
    go_region_held3 (fun u => Rel w u) (first | assumption | exact Rel.drew (by assumption)) (first
      | (go_at_call 38; refine (HT.out _ ?_).mono ?_; (first | assumption | exact Rel.drew (by assumption)); rintro e w4 ⟨rfl, r4⟩)
      | (go_at_call 37; refine (HW'.out _ ?_).mono ?_; (first | assumption | exact Rel.drew (by assumption)); rintro e w5 ⟨rfl, r5⟩))
    all_goals go_wp2
    all_goals go_ret
    all_goals exact ⟨rfl, by assumption⟩
  · by_cases h9 : a > (n : Int)
    · obtain rfl : k = n := by omega
      have zz1 : (B : Int) ≤ (k : Int) := by omega
      have zz2 : (k : Int) ≤ (cap : Int) := by omega
      have zz3 : (B : Int) ≤ (cap : Int) := by omega
      clear hz
      go_enter Tryd.func26, Tryd.ntmps26
      go_wp2_with fail
      refine (HS.out _ (Rel.refl _)).mono ?_
      rintro e w1 ⟨l, rfl, ⟨g, gcap, hbg, rfl, hgc, hl1⟩, r1, b1⟩
      have g1 := (hl1 K (by omega)).1
      rw [HB.out] at g1
      clear hl1 b1
      go_wp2_with fail
      refine (HO.out _ r1).mono ?_
      rintro e w2 ⟨rfl, r2, b2⟩
      have g2 := kept_cell b2 g1
      clear b2 g1 r1
      go_wp2_with fail
      clear HS HO HB g2
      rcases Nat.eq_zero_or_pos B with hB0 | hB0
      · subst hB0
        have HW' : Hid (∀ u, Rel w u → Calls Tryd.prog 37 #[.slice (some ⟨b, off, none⟩) k cap, .int .i64 0, .int .i64 T] u fun e w' => e = .returned (.int .i64 R) ∧ Rel w w') := fun u hu => HW.out u hu
        clear HW HW0
        go_region_held3 (fun u => Rel w u) (first | assumption | exact Rel.drew (by assumption)) (first
          | (go_at_call 38; refine (HT.out _ ?_).mono ?_; (first | assumption | exact Rel.drew (by assumption)); rintro e w4 ⟨rfl, r4⟩)
          | (go_at_call 37; refine (HW'.out _ ?_).mono ?_; (first | assumption | exact Rel.drew (by assumption)); rintro e w5 ⟨rfl, r5⟩))
        all_goals go_wp2
        all_goals go_ret
        all_goals exact ⟨rfl, by assumption⟩
      · have hB0' : ¬ B = 0 := by omega
        by_cases hcB : cap = B
        · subst hcB
          have HW' := hidden (HW0.out (by omega))
          have hkc : k = cap := by omega
          clear HW HW0
          go_region_held3 (fun u => Rel w u) (first | assumption | exact Rel.drew (by assumption)) (first
            | (go_at_call 38; refine (HT.out _ ?_).mono ?_; (first | assumption | exact Rel.drew (by assumption)); rintro e w4 ⟨rfl, r4⟩)
            | (go_at_call 37; refine (HW'.out _ ?_).mono ?_; (first | assumption | exact Rel.drew (by assumption)); rintro e w5 ⟨rfl, r5⟩))
          all_goals go_wp2
          all_goals go_ret
          all_goals exact ⟨rfl, by assumption⟩
        · clear HW0
          go_region_held3 (fun u => Rel w u) (first | assumption | exact Rel.drew (by assumption)) (first
            | (go_at_call 38; refine (HT.out _ ?_).mono ?_; (first | assumption | exact Rel.drew (by assumption)); rintro e w4 ⟨rfl, r4⟩)
            | (go_at_call 37; refine (HW.out _ ?_).mono ?_; (first | assumption | exact Rel.drew (by assumption)); rintro e w5 ⟨rfl, r5⟩))
          all_goals go_wp2
          all_goals go_ret
          all_goals exact ⟨rfl, by assumption⟩
    · obtain rfl : a = k := by omega
      have zz1 : (B : Int) ≤ (k : Int) := by omega
      have zz2 : (k : Int) ≤ (cap : Int) := by omega
      have zz3 : (B : Int) ≤ (cap : Int) := by omega
      clear hz
      go_enter Tryd.func26, Tryd.ntmps26
      go_wp2_with fail
      refine (HS.out _ (Rel.refl _)).mono ?_
      rintro e w1 ⟨l, rfl, ⟨g, gcap, hbg, rfl, hgc, hl1⟩, r1, b1⟩
      have g1 := (hl1 K (by omega)).1
      rw [HB.out] at g1
      clear hl1 b1
      go_wp2_with fail
      refine (HO.out _ r1).mono ?_
      rintro e w2 ⟨rfl, r2, b2⟩
      have g2 := kept_cell b2 g1
      clear b2 g1 r1
      go_wp2_with fail
      clear HS HO HB g2
      rcases Nat.eq_zero_or_pos B with hB0 | hB0
      · subst hB0
        have HW' : Hid (∀ u, Rel w u → Calls Tryd.prog 37 #[.slice (some ⟨b, off, none⟩) k cap, .int .i64 0, .int .i64 T] u fun e w' => e = .returned (.int .i64 R) ∧ Rel w w') := fun u hu => HW.out u hu
        clear HW HW0
        go_region_held3 (fun u => Rel w u) (first | assumption | exact Rel.drew (by assumption)) (first
          | (go_at_call 38; refine (HT.out _ ?_).mono ?_; (first | assumption | exact Rel.drew (by assumption)); rintro e w4 ⟨rfl, r4⟩)
          | (go_at_call 37; refine (HW'.out _ ?_).mono ?_; (first | assumption | exact Rel.drew (by assumption)); rintro e w5 ⟨rfl, r5⟩))
        all_goals go_wp2
        all_goals go_ret
        all_goals exact ⟨rfl, by assumption⟩
      · have hB0' : ¬ B = 0 := by omega
        by_cases hcB : cap = B
        · subst hcB
          have HW' := hidden (HW0.out (by omega))
          have hkc : k = cap := by omega
          clear HW HW0
          go_region_held3 (fun u => Rel w u) (first | assumption | exact Rel.drew (by assumption)) (first
            | (go_at_call 38; refine (HT.out _ ?_).mono ?_; (first | assumption | exact Rel.drew (by assumption)); rintro e w4 ⟨rfl, r4⟩)
            | (go_at_call 37; refine (HW'.out _ ?_).mono ?_; (first | assumption | exact Rel.drew (by assumption)); rintro e w5 ⟨rfl, r5⟩))
          all_goals go_wp2
          all_goals go_ret
          all_goals exact ⟨rfl, by assumption⟩
        · clear HW0
          go_region_held3 (fun u => Rel w u) (first | assumption | exact Rel.drew (by assumption)) (first
            | (go_at_call 38; refine (HT.out _ ?_).mono ?_; (first | assumption | exact Rel.drew (by assumption)); rintro e w4 ⟨rfl, r4⟩)
            | (go_at_call 37; refine (HW.out _ ?_).mono ?_; (first | assumption | exact Rel.drew (by assumption)); rintro e w5 ⟨rfl, r5⟩))
          all_goals go_wp2
          all_goals go_ret
          all_goals exact ⟨rfl, by assumption⟩
end Go.Proofs.PlatenLines
