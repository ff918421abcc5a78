/- What FigureReads comes to, where strconv.ParseFloat answers at each number's text. -/
import Derived.Test.YtgijplljpimbmaaGreatDoorFgRb
namespace Go.Proofs.PlatenFigure
open Go.RowKit
set_option linter.unusedVariables false
set_option linter.unusedSimpArgs false

/-- strconv.ParseFloat answers one number at each number's text of that length at most, but nan. -/
def Parses (n : Nat) : Prop := ∀ s : ByteArray, s.size ≤ n → ris (L s) = true → ((L s).getD ((L s).length - 1) 0).toNat ≠ 110 → ∃ x, x < 18446744073709551616 ∧ PF s x
theorem Parses.rval {n : Nat} (H : Parses n) (s : ByteArray) (hs : s.size ≤ n) (hr : ris (L s) = true) : ∃ x, x < 18446744073709551616 ∧ rval s x := by
  by_cases h : ((L s).getD ((L s).length - 1) 0).toNat = 110
  · exact ⟨9221120237041090561, by omega, .inl ⟨h, rfl⟩⟩
  · obtain ⟨x, hx, hp⟩ := H s hs hr h
    exact ⟨x, hx, .inr ⟨h, hp⟩⟩
theorem same_self (x : Nat) (hx : x < 18446744073709551616) (w : World) :
    Calls Tryz.prog 18 #[.float .f64 x, .float .f64 x] w fun e w' => e = .returned (.bool true) ∧ w' = w := by
  obtain ⟨T, hT⟩ := top_there
  have c := rsame_any x x w hx hx
  rw [(same_key hT hx hx).2] at c
  simpa using c

set_option maxRecDepth 20000 in
set_option maxHeartbeats 4000000 in
theorem reads_law (H : Parses 60) (s : ByteArray) (w : World) (hL : Lay w) :
    Calls Tryz.prog 4 #[.string s] w fun e w' => e = .returned (.bool true) ∧ Below w.heap.size w w' := by
  have c0 := reads_any w hL
  have HL := hidden hL
  clear hL
  by_cases hs : 60 < s.size
  · clear H
    go_enter Tryz.func4, Tryz.ntmps4
    go_wp2_with fail
    refine c0.mono ?_
    rintro e w1 ⟨rfl, hb⟩
    have HB := hidden hb
    have c1 := reads_any w1 (HL.out.below hb)
    clear hb c0
    go_wp2_with fail
    refine c1.mono ?_
    rintro e w2 ⟨rfl, hb2⟩
    have HB2 := hidden (HB.out.trans (hb2.mono HB.out.size))
    clear hb2
    go_wp2_with fail
    go_ret
    exact ⟨rfl, HB2.out⟩
  · cases hr : ris (L s)
    · have c1 := fun w2 => fread_no s w2 (by omega) hr
      have c2 := fun w2 => rread_no s w2 (by omega) hr
      have c3 := fun w2 => fbits 0 w2
      clear H hr
      go_enter Tryz.func4, Tryz.ntmps4
      go_wp2_with fail
      refine c0.mono ?_
      rintro e w1 ⟨rfl, hb⟩
      have HB := hidden hb
      clear hb c0
      go_wp2_with fail
      refine (c1 _).mono ?_
      rintro e w2 ⟨rfl, hb2⟩
      have HB2 := hidden (HB.out.trans (hb2.mono HB.out.size))
      clear hb2
      go_wp2_with fail
      refine (c2 _).mono ?_
      rintro e w3 ⟨rfl, rfl⟩
      go_wp2_with fail
      go_ret
      exact ⟨rfl, HB2.out⟩
    · obtain ⟨x, hx, hv⟩ := H.rval s (by omega) hr
      have c1 := fun (w2 : World) (h : Lay w2) => fread_yes s x w2 h (by omega) hr hv
      have c2 := fun (w2 : World) (h : Lay w2) => rread_yes s x w2 h (by omega) hr hv
      have c3 := fun w2 => same_self x hx w2
      have hx2 := hidden hx
      clear H hr hv hx
      go_enter Tryz.func4, Tryz.ntmps4
      go_wp2_with fail
      refine c0.mono ?_
      rintro e w1 ⟨rfl, hb⟩
      have HB := hidden hb
      have c1 := c1 w1 (HL.out.below hb)
      clear hb c0
      go_wp2_with fail
      refine c1.mono ?_
      rintro e w2 ⟨rfl, hb2⟩
      have HB2 := hidden (HB.out.trans (hb2.mono HB.out.size))
      have c2 := c2 w2 (HL.out.below HB2.out)
      clear hb2
      go_wp2_with fail
      refine c2.mono ?_
      rintro e w3 ⟨rfl, hb3⟩
      have HB3 := hidden (HB2.out.trans (hb3.mono HB2.out.size))
      clear hb3
      go_wp2_with fail
      refine (c3 _).mono ?_
      rintro e w4 ⟨rfl, rfl⟩
      go_wp2_with fail
      go_ret
      exact ⟨rfl, HB3.out⟩
end Go.Proofs.PlatenFigure
