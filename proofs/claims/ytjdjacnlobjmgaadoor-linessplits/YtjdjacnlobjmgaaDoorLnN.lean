/- What the document's Column comes to, of nothing too. -/
import Derived.Test.YtjdjacnlobjmgaaDoorLnM
namespace Go.Proofs.PlatenLines
open Go.RowKit Go.Shelf Go.Proofs.PlatenGlyph
set_option linter.unusedVariables false

set_option maxHeartbeats 2000000 in
theorem rcolumn_none (ea : Option Addr) (f : Nat → Nat) (a tab : Int) (T : Nat) (w : World) (hf : ∀ j, f j < 256) (hmT : max tab 1 = T) (ht : T ≤ 1000) :
    Calls Tryd.prog 26 #[.slice ea 0 0, .int .i64 a, .int .i64 tab] w fun e w' => e = .returned (.int .i64 0) ∧ Below w.heap.size w w' := by
  have h1 : 1 ≤ T := by omega
  have hv : IsRow w (.slice ea 0 0) 0 f := ⟨hf, by omega, Or.inl ⟨ea, rfl, rfl⟩⟩
  have HS : Hid (∀ u, Rel w u → Calls Tryd.prog 16 #[.slice ea 0 0] u fun e w' => ∃ l, e = .returned l ∧ IsSpans u.heap.size w' l f 0 ∧ Rel w w' ∧ Below u.heap.size u w') := fun u hu =>
    (spans_any _ 0 f u (by omega) (hv.below hu)).mono fun e w' ⟨l, he, hl, hb⟩ => ⟨l, he, hl, hu.next hb, hb⟩
  have HO : Hid (∀ u, Rel w u → Calls Tryd.prog 15 #[.slice ea 0 0, .int .i64 0] u fun e w' => e = .returned (.int .i64 0) ∧ Rel w w' ∧ Below u.heap.size u w') := fun u hu =>
    (rof_any _ 0 f 0 u (by omega) (hv.below hu)).mono fun e w' ⟨he, hb⟩ => ⟨he, hu.next hb, hb⟩
  have HW : Hid (∀ u, Rel w u → Calls Tryd.prog 37 #[.slice ea 0 0, .int .i64 0, .int .i64 T] u fun e w' => e = .returned (.int .i64 0) ∧ Rel w w') := fun u hu =>
    (rwide_any (.slice ea 0 0) f 0 0 T u (by omega) ⟨hf, by omega, Or.inl ⟨_, _, rfl, rfl⟩⟩ (by omega) h1 ht).mono fun e w' ⟨he, hb⟩ => ⟨he, hu.next hb⟩
  have HT : Hid (∀ u, Rel w u → Calls Tryd.prog 38 #[.int .i64 tab] u fun e w' => e = .returned (.int .i64 T) ∧ Rel w w') := fun u hu =>
    (tab_any tab T u hmT).mono fun e w' ⟨he, hw⟩ => ⟨he, hw ▸ hu⟩
  have hl0 : lc f 0 = 0 := rfl
  clear hf hv hmT
  cases ea with
  | none =>
    by_cases h0 : a < 0
    · have h00 := h0
      go_enter Tryd.func26, Tryd.ntmps26
      go_wp2_with fail
      refine (HS.out _ (Rel.refl _)).mono ?_
      rintro e w1 ⟨l, rfl, ⟨g, gcap, hbg, rfl, hgc, hl1⟩, r1, b1⟩
      have g1 := (hl1 0 (by omega)).1
      rw [beg_zero] at g1
      clear hl1 b1
      go_wp2_with fail
      refine (HO.out _ r1).mono ?_
      rintro e w2 ⟨rfl, r2, b2⟩
      have g2 := kept_cell b2 g1
      clear b2 g1 r1
      go_wp2_with fail
      clear HS HO g2
      go_region_held3 (fun u => Rel w u) (first | assumption | exact Rel.drew (by assumption)) (first
        | (go_at_call 38; refine (HT.out _ ?_).mono ?_; (first | assumption | exact Rel.drew (by assumption)); rintro e w4 ⟨rfl, r4⟩)
        | (go_at_call 37; refine (HW.out _ ?_).mono ?_; (first | assumption | exact Rel.drew (by assumption)); rintro e w5 ⟨rfl, r5⟩))
      all_goals go_wp2
      all_goals go_ret
      all_goals exact ⟨rfl, by assumption⟩
    · by_cases h9 : a > 0
      · have h99 := h9
        go_enter Tryd.func26, Tryd.ntmps26
        go_wp2_with fail
        refine (HS.out _ (Rel.refl _)).mono ?_
        rintro e w1 ⟨l, rfl, ⟨g, gcap, hbg, rfl, hgc, hl1⟩, r1, b1⟩
        have g1 := (hl1 0 (by omega)).1
        rw [beg_zero] at g1
        clear hl1 b1
        go_wp2_with fail
        refine (HO.out _ r1).mono ?_
        rintro e w2 ⟨rfl, r2, b2⟩
        have g2 := kept_cell b2 g1
        clear b2 g1 r1
        go_wp2_with fail
        clear HS HO g2
        go_region_held3 (fun u => Rel w u) (first | assumption | exact Rel.drew (by assumption)) (first
          | (go_at_call 38; refine (HT.out _ ?_).mono ?_; (first | assumption | exact Rel.drew (by assumption)); rintro e w4 ⟨rfl, r4⟩)
          | (go_at_call 37; refine (HW.out _ ?_).mono ?_; (first | assumption | exact Rel.drew (by assumption)); rintro e w5 ⟨rfl, r5⟩))
        all_goals go_wp2
        all_goals go_ret
        all_goals exact ⟨rfl, by assumption⟩
      · obtain rfl : a = 0 := by omega
        go_enter Tryd.func26, Tryd.ntmps26
        go_wp2_with fail
        refine (HS.out _ (Rel.refl _)).mono ?_
        rintro e w1 ⟨l, rfl, ⟨g, gcap, hbg, rfl, hgc, hl1⟩, r1, b1⟩
        have g1 := (hl1 0 (by omega)).1
        rw [beg_zero] at g1
        clear hl1 b1
        go_wp2_with fail
        refine (HO.out _ r1).mono ?_
        rintro e w2 ⟨rfl, r2, b2⟩
        have g2 := kept_cell b2 g1
        clear b2 g1 r1
        go_wp2_with fail
        clear HS HO g2
        go_region_held3 (fun u => Rel w u) (first | assumption | exact Rel.drew (by assumption)) (first
          | (go_at_call 38; refine (HT.out _ ?_).mono ?_; (first | assumption | exact Rel.drew (by assumption)); rintro e w4 ⟨rfl, r4⟩)
          | (go_at_call 37; refine (HW.out _ ?_).mono ?_; (first | assumption | exact Rel.drew (by assumption)); rintro e w5 ⟨rfl, r5⟩))
        all_goals go_wp2
        all_goals go_ret
        all_goals exact ⟨rfl, by assumption⟩
  | some x =>
    by_cases h0 : a < 0
    · have h00 := h0
      go_enter Tryd.func26, Tryd.ntmps26
      go_wp2_with fail
      refine (HS.out _ (Rel.refl _)).mono ?_
      rintro e w1 ⟨l, rfl, ⟨g, gcap, hbg, rfl, hgc, hl1⟩, r1, b1⟩
      have g1 := (hl1 0 (by omega)).1
      rw [beg_zero] at g1
      clear hl1 b1
      go_wp2_with fail
      refine (HO.out _ r1).mono ?_
      rintro e w2 ⟨rfl, r2, b2⟩
      have g2 := kept_cell b2 g1
      clear b2 g1 r1
      go_wp2_with fail
      clear HS HO g2
      go_region_held3 (fun u => Rel w u) (first | assumption | exact Rel.drew (by assumption)) (first
        | (go_at_call 38; refine (HT.out _ ?_).mono ?_; (first | assumption | exact Rel.drew (by assumption)); rintro e w4 ⟨rfl, r4⟩)
        | (go_at_call 37; refine (HW.out _ ?_).mono ?_; (first | assumption | exact Rel.drew (by assumption)); rintro e w5 ⟨rfl, r5⟩))
      all_goals go_wp2
      all_goals go_ret
      all_goals exact ⟨rfl, by assumption⟩
    · by_cases h9 : a > 0
      · have h99 := h9
        go_enter Tryd.func26, Tryd.ntmps26
        go_wp2_with fail
        refine (HS.out _ (Rel.refl _)).mono ?_
        rintro e w1 ⟨l, rfl, ⟨g, gcap, hbg, rfl, hgc, hl1⟩, r1, b1⟩
        have g1 := (hl1 0 (by omega)).1
        rw [beg_zero] at g1
        clear hl1 b1
        go_wp2_with fail
        refine (HO.out _ r1).mono ?_
        rintro e w2 ⟨rfl, r2, b2⟩
        have g2 := kept_cell b2 g1
        clear b2 g1 r1
        go_wp2_with fail
        clear HS HO g2
        go_region_held3 (fun u => Rel w u) (first | assumption | exact Rel.drew (by assumption)) (first
          | (go_at_call 38; refine (HT.out _ ?_).mono ?_; (first | assumption | exact Rel.drew (by assumption)); rintro e w4 ⟨rfl, r4⟩)
          | (go_at_call 37; refine (HW.out _ ?_).mono ?_; (first | assumption | exact Rel.drew (by assumption)); rintro e w5 ⟨rfl, r5⟩))
        all_goals go_wp2
        all_goals go_ret
        all_goals exact ⟨rfl, by assumption⟩
      · obtain rfl : a = 0 := by omega
        go_enter Tryd.func26, Tryd.ntmps26
        go_wp2_with fail
        refine (HS.out _ (Rel.refl _)).mono ?_
        rintro e w1 ⟨l, rfl, ⟨g, gcap, hbg, rfl, hgc, hl1⟩, r1, b1⟩
        have g1 := (hl1 0 (by omega)).1
        rw [beg_zero] at g1
        clear hl1 b1
        go_wp2_with fail
        refine (HO.out _ r1).mono ?_
        rintro e w2 ⟨rfl, r2, b2⟩
        have g2 := kept_cell b2 g1
        clear b2 g1 r1
        go_wp2_with fail
        clear HS HO g2
        go_region_held3 (fun u => Rel w u) (first | assumption | exact Rel.drew (by assumption)) (first
          | (go_at_call 38; refine (HT.out _ ?_).mono ?_; (first | assumption | exact Rel.drew (by assumption)); rintro e w4 ⟨rfl, r4⟩)
          | (go_at_call 37; refine (HW.out _ ?_).mono ?_; (first | assumption | exact Rel.drew (by assumption)); rintro e w5 ⟨rfl, r5⟩))
        all_goals go_wp2
        all_goals go_ret
        all_goals exact ⟨rfl, by assumption⟩

theorem rcolumn_any (v : Value) (n : Nat) (f : Nat → Nat) (a tab : Int) (T : Nat) (w : World) (hn : n ≤ 100000) (h : IsRow w v n f) (hmT : max tab 1 = T) (ht : T ≤ 1000) :
    Calls Tryd.prog 26 #[v, .int .i64 a, .int .i64 tab] w fun e w' => e = .returned (.int .i64 (colAt f n a T : Nat)) ∧ Below w.heap.size w w' := by
  obtain ⟨hf, _, h⟩ := h
  rcases h with ⟨ea, rfl, rfl⟩ | ⟨b, off, cap, rfl, hcap, hc⟩
  · have e : colAt f 0 a T = 0 := by
      unfold colAt
      have : clamp 0 a = 0 := by have := clamp_le 0 a; omega
      rw [this]
      rfl
    rw [e]
    exact rcolumn_none ea f a tab T w hf hmT ht
  · exact rcolumn_row f b off n cap a tab T w hf hn hcap hc hmT ht
end Go.Proofs.PlatenLines
