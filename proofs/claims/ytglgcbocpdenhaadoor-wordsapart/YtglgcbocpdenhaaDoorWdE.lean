/- What words.Last and the document's come to. -/
import Derived.Test.YtglgcbocpdenhaaDoorWdD
namespace Go.Proofs.PlatenWords
open Go.RowKit Go.Shelf Go.Proofs.PlatenGlyph
set_option linter.unusedVariables false

theorem lastAt_pos {f : Nat → Nat} {e : Nat} (h : 1 ≤ e) : 1 ≤ lastAt f e ∧ lastAt f e ≤ e := by
  unfold lastAt
  repeat' split
  all_goals omega
def Ls (f : Nat → Nat) (n : Nat) (a : Int) (r : Nat) (ok : Bool) : Prop := (∃ e, IsLast f (lastAt f) n a e ∧ r = e - lastAt f e ∧ ok = true) ∨ (NoLast f (lastAt f) n a ∧ r = 0 ∧ ok = false)
def PL (f : Nat → Nat) (n : Nat) (a : Int) (e : Ending) : Prop := ∃ (r : Nat) (ok : Bool), e = .returned (.tuple #[.int .i64 r, .bool ok]) ∧ Ls f n a r ok
theorem Ls.eq {f : Nat → Nat} {n : Nat} {a : Int} {r s : Nat} {x y : Bool} (h : Ls f n a r x) (k : Ls f n a s y) : r = s ∧ x = y := by
  rcases h with ⟨e, h1, h2, h3⟩ | ⟨h1, h2, h3⟩
  · rcases k with ⟨d, k1, k2, k3⟩ | ⟨k1, k2, k3⟩
    · obtain rfl := isLast_eq h1 k1
      exact ⟨by omega, by rw [h3, k3]⟩
    · exact (last_not h1 k1).elim
  · rcases k with ⟨d, k1, k2, k3⟩ | ⟨k1, k2, k3⟩
    · exact (last_not k1 h1).elim
    · exact ⟨by omega, by rw [h3, k3]⟩

set_option maxHeartbeats 1000000 in
theorem last_out (p : Option Addr) (n cap : Nat) (a : Int) (w : World) (h : (n : Int) ≤ a) :
    Calls Tryd.prog 23 #[.slice p n cap, .int .i64 a] w fun e w' => e = .returned (.tuple #[.int .i64 0, .bool false]) ∧ w' = w := by
  have h1 : a ≥ (n : Int) := h
  go_enter Tryd.func23, Tryd.ntmps23
  go_wp2
  go_ret2
  exact ⟨rfl, rfl⟩

set_option maxHeartbeats 2000000 in
theorem last_in (v : Value) (n : Nat) (f : Nat → Nat) (a mx : Int) (m0 : Nat) (w : World) (hn : n ≤ 100000) (h : IsBytes w v n f) (hT : Lib.Utf8Tabs 0 1 w) (hlo : -9223372036854775808 ≤ a) (ha : a < n)
    (hmx : max a (-1) = mx) (hm0 : mx + 2 = (m0 : Int)) :
    Calls Tryd.prog 23 #[v, .int .i64 a] w fun e w' => PL f n a e ∧ Below w.heap.size w w' := by
  have hf := h.1
  have HV := hidden h
  have HT := hidden hT
  obtain ⟨p, cap, rfl, _⟩ := Row.of h
  have h1 : ¬ (a ≥ (n : Int)) := by omega
  have hmz : mx ≤ 100000 ∧ -1 ≤ mx := by omega
  have HS : Hid (m0 ≤ n + 1 ∧ 1 ≤ m0 ∧ ∀ j, 1 ≤ j → j < m0 → we f n j = true → (j : Int) - (lastAt f j : Int) ≤ a) := ⟨by omega, by omega, fun j h1 h2 _ => by have := lastAt_pos (f := f) h1; omega⟩
  clear h hT
  go_enter Tryd.func23, Tryd.ntmps23
  go_wp2
  go_loopw [6] (fun i wr => ∃ m : Nat, 1 ≤ m ∧ m ≤ n + 1 ∧ i = .int .i64 (m : Nat) ∧ (∀ j, 1 ≤ j → j < m → we f n j = true → (j : Int) - (lastAt f j : Int) ≤ a) ∧ Below w.heap.size w wr) (fun i _ => n + 1 - (intOf i).toNat)
  case atStart => exact ⟨m0, HS.out.2.1, HS.out.1, rfl, HS.out.2.2, Below.refl _ _⟩
  case round =>
    obtain ⟨m, hm1, hm, rfl, hall, hnx⟩ := hrel
    clear hmx hm0 hmz
    by_cases hlt : m ≤ n
    · have cb := ends_any _ f n m wr hf (by omega) (Row.of (HV.out.below hnx)) hm1 hlt
      have hlz : (m : Int) ≤ (n : Int) := by omega
      have Hnx := hidden hnx
      clear hnx
      cases hb : we f n m with
      | false =>
        rw [hb] at cb
        have HA : Hid (∀ j, 1 ≤ j → j < m + 1 → we f n j = true → (j : Int) - (lastAt f j : Int) ≤ a) := fun j h1 h2 h3 => by
          by_cases q : j = m
          · rw [q, hb] at h3; cases h3
          · exact hall j h1 (by omega) h3
        clear hb hall
        go_wp2_with fail
        refine cb.mono ?_
        rintro e w1 ⟨rfl, hb1⟩
        have Hb1 := hidden (Hnx.out.trans (hb1.mono Hnx.out.size))
        clear hb1 cb
        go_wp2
        go_roundw
        case rel => exact ⟨m + 1, by omega, by omega, by go_num, HA.out, Hb1.out⟩
        case measure => simp [intOf]; omega
      | true =>
        rw [hb] at cb
        have hp := lastAt_pos (f := f) hm1
        have HW := hidden hb
        have Hall := hidden hall
        have Hpz : Hid (prevZ f n (m : Int) = (lastAt f m : Int)) := by
          unfold Hid prevZ; rw [if_pos ⟨by omega, by omega⟩]; rfl
        clear hb hall
        go_wp2_with fail
        refine cb.mono ?_
        rintro e w1 ⟨rfl, hb1⟩
        have Hb1 := hidden (Hnx.out.trans (hb1.mono Hnx.out.size))
        have cp := prev_any _ f n m w1 (tabs_below HT.out Hb1.out) (HV.out.below Hb1.out)
        rw [Hpz.out] at cp
        clear hb1 cb Hpz
        by_cases hgt : a < (m : Int) - (lastAt f m : Int)
        · have HF : Hid (Ls f n a (m - lastAt f m) true) := Or.inl ⟨m, ⟨hm1, hlt, HW.out, hgt, Hall.out⟩, rfl, rfl⟩
          have hgz : (m : Int) - (lastAt f m : Int) > a := hgt
          have HE : Hid (((m - lastAt f m : Nat) : Int) = (m : Int) - (lastAt f m : Int)) := by unfold Hid; omega
          clear Hall HW hgt
          generalize m - lastAt f m = r at *
          generalize lastAt f m = y at *
          go_wp2_with fail
          refine cp.mono ?_
          rintro e w2 ⟨rfl, hb2⟩
          have Hb2 := hidden (Hb1.out.trans (hb2.mono Hb1.out.size))
          clear hb2 cp
          go_wp2
          go_ret2
          exact ⟨⟨r, true, by rw [HE.out]; rfl, HF.out⟩, Hb2.out⟩
        · have HA : Hid (∀ j, 1 ≤ j → j < m + 1 → we f n j = true → (j : Int) - (lastAt f j : Int) ≤ a) := fun j h1 h2 h3 => by
            by_cases q : j = m
            · rw [q]; omega
            · exact Hall.out j h1 (by omega) h3
          have hgz : ¬ ((m : Int) - (lastAt f m : Int) > a) := hgt
          clear Hall HW hgt
          generalize lastAt f m = y at *
          go_wp2_with fail
          refine cp.mono ?_
          rintro e w2 ⟨rfl, hb2⟩
          have Hb2 := hidden (Hb1.out.trans (hb2.mono Hb1.out.size))
          clear hb2 cp
          go_wp2
          go_roundw
          case rel => exact ⟨m + 1, by omega, by omega, by go_num, HA.out, Hb2.out⟩
          case measure => simp [intOf]; omega
    · have hlz : ¬ ((m : Int) ≤ (n : Int)) := by omega
      have HF : Hid (Ls f n a 0 false) := Or.inr ⟨fun j h1 h2 h3 => hall j h1 (by omega) h3, rfl, rfl⟩
      have Hnx := hidden hnx
      clear hall hnx
      go_wp2
      go_ret2
      exact ⟨⟨0, false, rfl, HF.out⟩, Hnx.out⟩
theorem last_any (v : Value) (n : Nat) (f : Nat → Nat) (a : Int) (w : World) (hn : n ≤ 100000) (h : IsBytes w v n f) (hT : Lib.Utf8Tabs 0 1 w) (hlo : -9223372036854775808 ≤ a) :
    Calls Tryd.prog 23 #[v, .int .i64 a] w fun e w' => PL f n a e ∧ Below w.heap.size w w' := by
  by_cases ha : a < n
  · exact last_in v n f a (max a (-1)) (max a (-1) + 2).toNat w hn h hT hlo ha rfl (by omega)
  · obtain ⟨p, cap, rfl, _⟩ := Row.of h
    refine (last_out p n cap a w (by omega)).mono fun e w' ⟨he, hw⟩ => ⟨⟨0, false, he, Or.inr ⟨fun j h1 h2 _ => ?_, rfl, rfl⟩⟩, hw ▸ Below.refl _ _⟩
    have := lastAt_pos (f := f) h1
    omega

set_option maxHeartbeats 2000000 in
theorem rlastw_any (v : Value) (n : Nat) (f : Nat → Nat) (a : Int) (w : World) (hn : n ≤ 100000) (h : IsBytes w v n f) :
    Calls Tryd.prog 24 #[v, .int .i64 a] w fun e w' => PL f n a e ∧ Below w.heap.size w w' := by
  have hf := h.1
  have HV := hidden h
  have cw := rwords_any v n f w hf hn (Row.of h)
  obtain ⟨p, cap, rfl, _⟩ := Row.of h
  have hml := wds_len (f := f) hn
  clear h
  go_enter Tryd.func24, Tryd.ntmps24
  go_wp2_with fail
  refine cw.mono ?_
  rintro e w0 ⟨rv, rfl, ⟨ra, rcap, rfl, hrow⟩, hb0⟩
  have Hrow := hidden hrow
  have Hb0 := hidden hb0
  have HV0 := hidden (HV.out.below hb0)
  clear cw hrow hb0
  go_wp2
  go_loopw [7] (fun i wr => ∃ m : Nat, m ≤ (wds f n).length ∧ i = .int .i64 (m : Nat) ∧ (∀ j (hj : j < (wds f n).length), j < m → (((wds f n)[j].1 + (wds f n)[j].2 : Nat) : Int) - (lastAt f ((wds f n)[j].1 + (wds f n)[j].2) : Int) ≤ a) ∧ ∃ q, wr = w0.drewN q) (fun i _ => (wds f n).length - (intOf i).toNat)
  case atStart => exact ⟨0, Nat.zero_le _, rfl, fun j h1 h2 => by omega, 0, rfl⟩
  case round =>
    obtain ⟨m, hm, rfl, hall, q, rfl⟩ := hrel
    by_cases hlt : m < (wds f n).length
    · obtain ⟨g, rfl, hrc, hcells⟩ := Hrow.out (by omega)
      obtain ⟨c1, c2⟩ := hcells m hlt
      rw [getD_eq hlt] at c1 c2
      have hw := wds_we (List.getElem_mem hlt)
      obtain ⟨z, hz⟩ : ∃ z, (wds f n)[m].1 + (wds f n)[m].2 = z := ⟨_, rfl⟩
      have hsum : (((wds f n)[m].1 : Nat) : Int) + (((wds f n)[m].2 : Nat) : Int) = (z : Int) := by omega
      have hlz : (m : Int) < ((wds f n).length : Int) := by omega
      rw [hz] at hw
      have hp := lastAt_pos (f := f) hw.1
      have Hpz : Hid (prevZ f n (z : Int) = (lastAt f z : Int)) := by
        unfold Hid prevZ; rw [if_pos ⟨by omega, by omega⟩]; rfl
      have cl : ∀ q', Calls Tryd.prog 33 #[.slice p n cap, .int .i64 z] (w0.drewN q') fun e w' => e = .returned (.int .i64 (lastAt f z : Int)) ∧ w' = w0.drewN q' := fun q' => by
        have := rlast_any _ f n z (w0.drewN q') (HV0.out.below (below_dN (Below.refl _ _) q'))
        rwa [Hpz.out] at this
      have hx : (wds f n)[m].1 ≤ 100000 := by omega
      have hy : (wds f n)[m].2 ≤ 100000 := by omega
      have hwz : z ≤ n := hw.2.1
      by_cases hgt : a < (z : Int) - (lastAt f z : Int)
      · have HF : Hid (Ls f n a (z - lastAt f z) true) := by
          have := last_found (f := f) (g := lastAt f) (n := n) (a := a) hlt (by rw [hz]; exact hgt) hall
          rw [hz] at this
          exact Or.inl ⟨z, this, rfl, rfl⟩
        have hgz : (z : Int) - (lastAt f z : Int) > a := hgt
        have HE : Hid (((z - lastAt f z : Nat) : Int) = (z : Int) - (lastAt f z : Int)) := by unfold Hid; omega
        clear hall hcells hw hgt hz Hpz
        generalize (wds f n)[m].1 = x at *
        generalize (wds f n)[m].2 = y at *
        generalize z - lastAt f z = r at *
        generalize lastAt f z = t at *
        go_wp2_with fail
        go_quiet (fail)
        go_wp2_with fail
        refine (cl _).mono ?_
        rintro e w2 ⟨rfl, rfl⟩
        go_wp2
        go_ret2
        exact ⟨⟨r, true, by rw [HE.out]; rfl, HF.out⟩, below_dN Hb0.out _⟩
      · have HA : Hid (∀ j (hj : j < (wds f n).length), j < m + 1 → (((wds f n)[j].1 + (wds f n)[j].2 : Nat) : Int) - (lastAt f ((wds f n)[j].1 + (wds f n)[j].2) : Int) ≤ a) := fun j hj h2 => by
          by_cases e : j = m
          · subst e; rw [hz]; omega
          · exact hall j hj (by omega)
        have hgz : ¬ ((z : Int) - (lastAt f z : Int) > a) := hgt
        clear hall hcells hw hgt hz Hpz
        generalize (wds f n)[m].1 = x at *
        generalize (wds f n)[m].2 = y at *
        generalize lastAt f z = t at *
        go_wp2_with fail
        go_quiet (fail)
        go_wp2_with fail
        refine (cl _).mono ?_
        rintro e w2 ⟨rfl, rfl⟩
        go_wp2
        go_roundw
        case rel => exact ⟨m + 1, by omega, by go_num, HA.out, _, rfl⟩
        case measure => simp [intOf]; omega
    · have hlz : ¬ ((m : Int) < ((wds f n).length : Int)) := by omega
      have HF : Hid (Ls f n a 0 false) := Or.inr ⟨last_none (fun j hj => hall j hj (by omega)), rfl, rfl⟩
      clear hall
      go_wp2
      go_ret2
      exact ⟨⟨0, false, rfl, HF.out⟩, below_dN Hb0.out q⟩
end Go.Proofs.PlatenWords
