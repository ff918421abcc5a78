/- What figure.Read and the document's Read come to, where strconv.ParseFloat's answer at the text is known. -/
import Derived.Test.YtgijplljpimbmaaGreatDoorFgRa
namespace Go.Proofs.PlatenFigure
open Go.RowKit
set_option linter.unusedVariables false
set_option linter.unusedSimpArgs false

/-- strconv.ParseFloat answers the number x, with an error or none. -/
def PFend (x : Nat) (e : Ending) : Prop := ∃ err, e = .returned (.tuple #[.float .f64 x, err])
def PF (s : ByteArray) (x : Nat) : Prop := ∀ w, Lay w → Calls Tryz.prog 39 #[.string s, .int .i64 64] w fun e w' => PFend x e ∧ Below w.heap.size w w'

theorem nan_any (w : World) : Calls Tryz.prog 38 #[] w fun e w' => e = .returned (.float .f64 9221120237041090561) ∧ w' = w := by
  have hc := ffrom 9221120237041090561 w
  go_enter Tryz.func38, Tryz.ntmps38
  go_wp2_with fail
  go_ret
  exact ⟨rfl, rfl⟩
theorem empty_of (s : ByteArray) (h : s.size = 0) : s = ByteArray.empty := by
  apply ByteArray.ext
  exact Array.eq_empty_of_size_eq_zero h

set_option maxRecDepth 20000 in
set_option maxHeartbeats 1000000 in
theorem fread_no (s : ByteArray) (w : World) (hs : s.size ≤ 1000000) (hr : ris (L s) = false) :
    Calls Tryz.prog 15 #[.string s] w fun e w' => e = .returned (.tuple #[.float .f64 0, .bool false]) ∧ Below w.heap.size w w' := by
  by_cases h0 : s.size = 0
  · obtain rfl := empty_of s h0
    have h1 : ByteArray.empty.toList.isEmpty = true := by decide +kernel
    clear h0 hr hs
    have HB := hidden (Below.refl w.heap.size w)
    go_enter Tryz.func15, Tryz.ntmps15
    go_wp2_with fail
    go_ret2
    exact ⟨rfl, HB.out⟩
  · have h1 : s.toList.isEmpty = false := by
      rw [ByteArray.toList_eq]
      cases h : s.data.toList with
      | nil => exact absurd (congrArg List.length h) h0
      | cons a b => rfl
    have hn : flen (L s) ≠ s.size := fun h => by
      have := (is_flen (L s)).2 ⟨by rw [len_L]; omega, h⟩
      rw [hr] at this; cases this
    have c1 := len_any s w hs
    clear hr
    have hn2 : (((flen (L s) : Nat) : Int) == (s.size : Nat)) = false := by simp; omega
    generalize flen (L s) = y at *
    go_enter Tryz.func15, Tryz.ntmps15
    go_wp2_with fail
    refine c1.mono ?_
    rintro e w' ⟨rfl, hb⟩
    have HB := hidden hb
    clear hb
    go_wp2_with fail
    go_ret2
    exact ⟨rfl, HB.out⟩
/-- The number that a number's text is. -/
def rval (s : ByteArray) (x : Nat) : Prop := ((L s).getD ((L s).length - 1) 0).toNat = 110 ∧ x = 9221120237041090561 ∨ ((L s).getD ((L s).length - 1) 0).toNat ≠ 110 ∧ PF s x
set_option maxRecDepth 20000 in
set_option maxHeartbeats 1000000 in
theorem fread_yes (s : ByteArray) (x : Nat) (w : World) (hL : Lay w) (hs : s.size ≤ 1000000) (hr : ris (L s) = true) (hx : rval s x) :
    Calls Tryz.prog 15 #[.string s] w fun e w' => e = .returned (.tuple #[.float .f64 x, .bool true]) ∧ Below w.heap.size w w' := by
  have hfl := (is_flen (L s)).1 hr
  rw [len_L] at hfl
  have h1 : s.toList.isEmpty = false := by
    rw [ByteArray.toList_eq]
    cases h : s.data.toList with
    | nil => exact absurd (congrArg List.length h) (by have := hfl.1; show ¬ (L s).length = 0; rw [len_L]; omega)
    | cons a b => rfl
  have c1 := len_any s w hs
  rw [hfl.2] at c1
  have c2 := fun w2 => Tryz.strings_HasSuffix s ⟨#[110, 97, 110]⟩ w2 (by omega)
  have hn : Lib.hasSuffix s.data.toList ((⟨#[110, 97, 110]⟩ : ByteArray).data.toList) = decide (((L s).getD ((L s).length - 1) 0).toNat = 110) := nan_iff hr
  rw [hn] at c2
  have HL := hidden hL
  clear hL hn hr hfl
  rcases hx with ⟨h110, rfl⟩ | ⟨h110, hp⟩
  · rw [decide_eq_true h110] at c2
    have c3 := fun w2 => nan_any w2
    clear h110
    go_enter Tryz.func15, Tryz.ntmps15
    go_wp2_with fail
    refine c1.mono ?_
    rintro e w' ⟨rfl, hb⟩
    have HB := hidden hb
    clear hb
    go_wp2_with fail
    refine (c2 _).mono ?_
    rintro e w2 ⟨rfl, rfl⟩
    go_wp2_with fail
    refine (c3 _).mono ?_
    rintro e w2 ⟨rfl, rfl⟩
    go_wp2_with fail
    go_ret2
    exact ⟨rfl, HB.out⟩
  · rw [decide_eq_false h110] at c2
    have HP := hidden hp
    clear h110 hp
    go_enter Tryz.func15, Tryz.ntmps15
    go_wp2_with fail
    refine c1.mono ?_
    rintro e w' ⟨rfl, hb⟩
    have c3 := HP.out w' (HL.out.below hb)
    have HB := hidden hb
    clear hb
    go_wp2_with fail
    refine (c2 _).mono ?_
    rintro e w2 ⟨rfl, rfl⟩
    go_wp2_with fail
    refine c3.mono ?_
    rintro e w2 ⟨⟨err, rfl⟩, hb2⟩
    have HB2 := hidden (HB.out.trans (hb2.mono HB.out.size))
    clear hb2
    go_wp2_with fail
    go_ret2
    exact ⟨rfl, HB2.out⟩

set_option maxRecDepth 20000 in
set_option maxHeartbeats 1000000 in
theorem rread_no (s : ByteArray) (w : World) (hs : s.size ≤ 1000000) (hr : ris (L s) = false) :
    Calls Tryz.prog 16 #[.string s] w fun e w' => e = .returned (.tuple #[.float .f64 0, .bool false]) ∧ w' = w := by
  have c1 := ris_any s w hs
  rw [hr] at c1
  clear hr
  go_enter Tryz.func16, Tryz.ntmps16
  go_wp2_with fail
  refine c1.mono ?_
  rintro e w' ⟨rfl, rfl⟩
  go_wp2_with fail
  go_ret2
  exact ⟨rfl, rfl⟩
set_option maxRecDepth 20000 in
set_option maxHeartbeats 1000000 in
theorem rread_yes (s : ByteArray) (x : Nat) (w : World) (hL : Lay w) (hs : s.size ≤ 1000000) (hr : ris (L s) = true) (hx : rval s x) :
    Calls Tryz.prog 16 #[.string s] w fun e w' => e = .returned (.tuple #[.float .f64 x, .bool true]) ∧ Below w.heap.size w w' := by
  have hfl := (is_flen (L s)).1 hr
  rw [len_L] at hfl
  have h0 : 0 < s.size := hfl.1
  clear hfl
  have hg := get_L s (s.size - 1) (by omega)
  have c1 := ris_any s w hs
  rw [hr] at c1
  have hkc : ((s.size : Int) - 1) = ((s.size - 1 : Nat) : Int) := by omega
  have HL := hidden hL
  have HB0 := hidden (Below.refl w.heap.size w)
  clear hL hr
  unfold rval at hx
  rw [len_L] at hx
  generalize (L s).getD (s.size - 1) 0 = c at *
  rcases hx with ⟨h110, rfl⟩ | ⟨h110, hp⟩
  · have c3 := fun w2 => nan_any w2
    go_enter Tryz.func16, Tryz.ntmps16
    go_wp2_with fail
    refine c1.mono ?_
    rintro e w' ⟨rfl, rfl⟩
    go_wp2_with fail
    refine (c3 _).mono ?_
    rintro e w2 ⟨rfl, rfl⟩
    go_wp2_with fail
    go_ret2
    exact ⟨rfl, HB0.out⟩
  · have c3 := hp w HL.out
    have h2 : (((c.toNat : Nat) : Int) == 110) = false := by simp; omega
    clear hp h110
    go_enter Tryz.func16, Tryz.ntmps16
    go_wp2_with fail
    refine c1.mono ?_
    rintro e w' ⟨rfl, rfl⟩
    go_wp2_with fail
    refine c3.mono ?_
    rintro e w2 ⟨⟨err, rfl⟩, hb2⟩
    have HB2 := hidden hb2
    clear hb2
    go_wp2_with fail
    go_ret2
    exact ⟨rfl, HB2.out⟩
end Go.Proofs.PlatenFigure

/- What FigureReads comes to, where strconv.ParseFloat answers at each number's text. -/
namespace Go.Proofs.PlatenFigure
open Go.RowKit
set_option linter.unusedVariables false
set_option linter.unusedSimpArgs false

/-- strconv.ParseFloat answers one number at each number's text of that length at most, but nan. -/
def Parses (n : Nat) : Prop := ∀ s : ByteArray, s.size ≤ n → ris (L s) = true → ((L s).getD ((L s).length - 1) 0).toNat ≠ 110 → ∃ x, x < 18446744073709551616 ∧ PF s x
theorem Parses.rval {n : Nat} (H : Parses n) (s : ByteArray) (hs : s.size ≤ n) (hr : ris (L s) = true) : ∃ x, x < 18446744073709551616 ∧ rval s x := by
  by_cases h : ((L s).getD ((L s).length - 1) 0).toNat = 110
  · exact ⟨9221120237041090561, by omega, .inl ⟨h, rfl⟩⟩
  · obtain ⟨x, hx, hp⟩ := H s hs hr h
    exact ⟨x, hx, .inr ⟨h, hp⟩⟩
theorem same_self (x : Nat) (hx : x < 18446744073709551616) (w : World) :
    Calls Tryz.prog 18 #[.float .f64 x, .float .f64 x] w fun e w' => e = .returned (.bool true) ∧ w' = w := by
  obtain ⟨T, hT⟩ := top_there
  have c := rsame_any x x w hx hx
  rw [(same_key hT hx hx).2] at c
  simpa using c

set_option maxRecDepth 20000 in
set_option maxHeartbeats 4000000 in
theorem reads_law (H : Parses 60) (s : ByteArray) (w : World) (hL : Lay w) :
    Calls Tryz.prog 4 #[.string s] w fun e w' => e = .returned (.bool true) ∧ Below w.heap.size w w' := by
  have c0 := reads_any w hL
  have HL := hidden hL
  clear hL
  by_cases hs : 60 < s.size
  · clear H
    go_enter Tryz.func4, Tryz.ntmps4
    go_wp2_with fail
    refine c0.mono ?_
    rintro e w1 ⟨rfl, hb⟩
    have HB := hidden hb
    have c1 := reads_any w1 (HL.out.below hb)
    clear hb c0
    go_wp2_with fail
    refine c1.mono ?_
    rintro e w2 ⟨rfl, hb2⟩
    have HB2 := hidden (HB.out.trans (hb2.mono HB.out.size))
    clear hb2
    go_wp2_with fail
    go_ret
    exact ⟨rfl, HB2.out⟩
  · cases hr : ris (L s)
    · have c1 := fun w2 => fread_no s w2 (by omega) hr
      have c2 := fun w2 => rread_no s w2 (by omega) hr
      have c3 := fun w2 => fbits 0 w2
      clear H hr
      go_enter Tryz.func4, Tryz.ntmps4
      go_wp2_with fail
      refine c0.mono ?_
      rintro e w1 ⟨rfl, hb⟩
      have HB := hidden hb
      clear hb c0
      go_wp2_with fail
      refine (c1 _).mono ?_
      rintro e w2 ⟨rfl, hb2⟩
      have HB2 := hidden (HB.out.trans (hb2.mono HB.out.size))
      clear hb2
      go_wp2_with fail
      refine (c2 _).mono ?_
      rintro e w3 ⟨rfl, rfl⟩
      go_wp2_with fail
      go_ret
      exact ⟨rfl, HB2.out⟩
    · obtain ⟨x, hx, hv⟩ := H.rval s (by omega) hr
      have c1 := fun (w2 : World) (h : Lay w2) => fread_yes s x w2 h (by omega) hr hv
      have c2 := fun (w2 : World) (h : Lay w2) => rread_yes s x w2 h (by omega) hr hv
      have c3 := fun w2 => same_self x hx w2
      have hx2 := hidden hx
      clear H hr hv hx
      go_enter Tryz.func4, Tryz.ntmps4
      go_wp2_with fail
      refine c0.mono ?_
      rintro e w1 ⟨rfl, hb⟩
      have HB := hidden hb
      have c1 := c1 w1 (HL.out.below hb)
      clear hb c0
      go_wp2_with fail
      refine c1.mono ?_
      rintro e w2 ⟨rfl, hb2⟩
      have HB2 := hidden (HB.out.trans (hb2.mono HB.out.size))
      have c2 := c2 w2 (HL.out.below HB2.out)
      clear hb2
      go_wp2_with fail
      refine c2.mono ?_
      rintro e w3 ⟨rfl, hb3⟩
      have HB3 := hidden (HB2.out.trans (hb3.mono HB2.out.size))
      clear hb3
      go_wp2_with fail
      refine (c3 _).mono ?_
      rintro e w4 ⟨rfl, rfl⟩
      go_wp2_with fail
      go_ret
      exact ⟨rfl, HB3.out⟩
end Go.Proofs.PlatenFigure
