/- What FigureGrows comes to, where strconv.ParseFloat answers at each number's text. -/
import Derived.Test.YtgijplljpimbmaaGreatDoorKG
namespace Go.Proofs.PlatenFigure
open Go.RowKit
set_option linter.unusedVariables false
set_option linter.unusedSimpArgs false

theorem L_app (a b : ByteArray) : L (a ++ b) = L a ++ L b := by
  unfold L; simp
set_option maxRecDepth 20000 in
set_option maxHeartbeats 4000000 in
theorem grows_law (H : Parses 60) (s : ByteArray) (w : World) (hL : Lay w) :
    Calls Tryz.prog 11 #[.string s] w fun e w' => e = .returned (.bool true) ∧ Below w.heap.size w w' := by
  have c0 := reads_any w hL
  have HL := hidden hL
  clear hL
  by_cases hs : 60 < s.size
  · clear H
    go_enter Tryz.func11, Tryz.ntmps11
    go_wp2_with fail
    refine c0.mono ?_
    rintro e w1 ⟨rfl, hb⟩
    have HB := hidden hb
    have c1 := reads_any w1 (HL.out.below hb)
    clear hb c0
    go_wp2_with fail
    refine c1.mono ?_
    rintro e w2 ⟨rfl, hb2⟩
    have HB2 := hidden (HB.out.trans (hb2.mono HB.out.size))
    clear hb2
    go_wp2_with fail
    go_ret
    exact ⟨rfl, HB2.out⟩
  · have hz : (s ++ ⟨#[32]⟩ : ByteArray).size = s.size + 1 := by rw [ByteArray.size_append]; rfl
    have c1 := fun w2 => len_any s w2 (by omega)
    have c2 := fun w2 => rlen_any s w2 (by omega)
    rw [rlen_eq] at c2
    have c4 := fun w2 => fread_no (s ++ ⟨#[32]⟩) w2 (by omega) (by rw [L_app]; exact ris_blank _)
    have c5 := fun w2 => len_any (s ++ ⟨#[32]⟩) w2 (by omega)
    rw [L_app, show L (⟨#[32]⟩ : ByteArray) = [32] from rfl, flen_blank] at c5
    have c6 := fun w2 => fbits 0 w2
    have hle := flen_le (L s)
    rw [len_L] at hle
    have hLs : L (s.extract 0 (flen (L s))) = (L s).take (flen (L s)) := by rw [L_ext]; simp
    have hes : (s.extract 0 (flen (L s))).size = flen (L s) := by rw [ByteArray.size_extract]; omega
    obtain ⟨n0, hn0⟩ : ∃ n0, n0 = flen (L s) := ⟨_, rfl⟩
    have hres : (¬ 0 < n0 ∧ ∀ w2, Lay w2 → Calls Tryz.prog 15 #[.string (s.extract 0 (flen (L s)))] w2 fun e w' => e = .returned (.tuple #[.float .f64 0, .bool false]) ∧ Below w2.heap.size w2 w') ∨
        (0 < n0 ∧ ∃ x : Nat, ∀ w2, Lay w2 → Calls Tryz.prog 15 #[.string (s.extract 0 (flen (L s)))] w2 fun e w' => e = .returned (.tuple #[.float .f64 x, .bool true]) ∧ Below w2.heap.size w2 w') := by
      by_cases h0 : 0 < flen (L s)
      · have hr : ris (L (s.extract 0 (flen (L s)))) = true := by rw [hLs]; exact flen_ris h0
        obtain ⟨x, hx, hv⟩ := H.rval (s.extract 0 (flen (L s))) (by omega) hr
        exact .inr ⟨by omega, x, fun w2 hL2 => fread_yes _ x w2 hL2 (by omega) hr hv⟩
      · have hr : ris (L (s.extract 0 (flen (L s)))) = false := by
          rw [hLs, show flen (L s) = 0 by omega]; rfl
        exact .inl ⟨by omega, fun w2 _ => fread_no _ w2 (by omega) hr⟩
    clear H hLs hes hz
    rw [← hn0] at c1 c2 c5 hle hres
    clear hn0
    rcases hres with ⟨h0, c3⟩ | ⟨h0, x, c3⟩
    all_goals
      have HC3 := hidden c3
      clear c3
      go_enter Tryz.func11, Tryz.ntmps11
      go_wp2_with fail
      refine c0.mono ?_
      rintro e w1 ⟨rfl, hb⟩
      have HB := hidden hb
      clear hb c0
      go_wp2_with fail
      refine (c1 _).mono ?_
      rintro e w2 ⟨rfl, hb2⟩
      have HB2 := hidden (HB.out.trans (hb2.mono HB.out.size))
      clear hb2
      go_wp2_with fail
      refine (c2 _).mono ?_
      rintro e w3 ⟨rfl, rfl⟩
      have c3 := HC3.out w3 (HL.out.below HB2.out)
      go_wp2_with fail
      refine c3.mono ?_
      rintro e w4 ⟨rfl, hb3⟩
      have HB3 := hidden (HB2.out.trans (hb3.mono HB2.out.size))
      clear hb3
      go_wp2_with fail
      refine (c4 _).mono ?_
      rintro e w5 ⟨rfl, hb4⟩
      have HB4 := hidden (HB3.out.trans (hb4.mono HB3.out.size))
      clear hb4
      go_wp2_with fail
      refine (c5 _).mono ?_
      rintro e w6 ⟨rfl, hb5⟩
      have HB5 := hidden (HB4.out.trans (hb5.mono HB4.out.size))
      clear hb5
      go_wp2_with fail
      go_ret
      exact ⟨by simp, HB5.out⟩
end Go.Proofs.PlatenFigure
