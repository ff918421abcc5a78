/- What the document's Solid comes to. -/
import Derived.Test.YtglgcbocpdenhaaDoorWdG
import Derived.Test.YtglgcbocpdenhaaDoorWdF
namespace Go.Proofs.PlatenWords
open Go.RowKit Go.Shelf Go.Proofs.PlatenGlyph
set_option linter.unusedVariables false

set_option maxHeartbeats 2000000 in
theorem rsolid_any (v : Value) (n : Nat) (f : Nat → Nat) (w : World) (hf : ∀ j, f j < 256) (hn : n ≤ 100000) (h : Row w v n f) :
    Calls Tryd.prog 18 #[v] w fun e w' => ∃ l, e = .returned l ∧ IsSp w' l (sol f n) ∧ Below w.heap.size w w' := by
  obtain ⟨i0, hi, hz0, hz1, hz2⟩ := info_parts info29
  have HR := hidden h
  obtain ⟨a, cap, rfl, _⟩ := h
  go_enter Tryd.func18, Tryd.ntmps18
  go_wp2
  go_loopw [3, 4] (fun v i wr => ∃ k : Nat, k ≤ n + 1 ∧ i = .int .i64 (k : Nat) ∧ (k ≤ n → k = 0 ∨ sld (f (k - 1)) = false) ∧ wr.ownsRow w.heap.size 29 2 v (sol f (min k n)).length (rowS (sol f (min k n))) ∧ Below w.heap.size w wr) (fun _ i _ => n + 1 - (intOf i).toNat)
  case atStart => exact ⟨0, Nat.zero_le _, rfl, fun _ => Or.inl rfl, by rw [Nat.zero_min]; exact World.ownsRow_nil _ _ _ _, Below.refl _ _⟩
  case round =>
    obtain ⟨k, hk, rfl, hb0, hown, hnx⟩ := hrel
    by_cases hlt : k < n
    · rw [Nat.min_eq_left (Nat.le_of_lt hlt)] at hown
      have HB0 := hidden (hb0 (by omega))
      have hll := sol_len f k
      obtain ⟨a', cap', hv, hrow⟩ := HR.out.below hnx
      injection hv with hv1 hv2 hv3
      subst hv1
      subst hv3
      obtain ⟨b, off, rfl, hcap, hc⟩ := hrow (by omega)
      have Hc := hidden hc
      have g0 := hc k hlt
      have x0 := hf k
      have hlz : (k : Int) < (n : Int) := by omega
      have cc := rclass_any (f k) wr x0
      clear hb0 hrow hv2 hc
      cases hs : sld (f k) with
      | false =>
        have hge : ((cls (f k) : Nat) : Int) < 2 := by have := sld_no.1 hs; omega
        have Hr := hidden (sol_no hs)
        have Hs : Hid (∀ q, q = k → sld (f q) = false) := fun q hq => by rw [hq]; exact hs
        have Hown := hidden hown
        have Hnx := hidden hnx
        clear hs hown hnx
        generalize f k = z at *
        go_wp2_with fail
        refine cc.mono ?_
        rintro e w1 ⟨rfl, rfl⟩
        clear cc g0
        go_wp2
        go_roundw
        case rel => exact ⟨k + 1, by omega, by go_num, fun _ => Or.inr (by rw [Nat.add_sub_cancel]; exact Hs.out k rfl), by rw [Nat.min_eq_left (by omega), Hr.out]; exact Hown.out, Hnx.out⟩
        case measure => simp [intOf]; omega
      | true =>
        have hge : ¬ (((cls (f k) : Nat) : Int) < 2) := by have := sld_iff.1 hs; omega
        have hsz := hnx.size
        have Hnx := hidden hnx
        have Hsf := hidden hf
        have HLs : Hid (∀ q, q = k → sld (f q) = true) := fun q hq => by rw [hq]; exact hs
        clear hs hnx hf
        generalize hy : f k = y at *
        clear hy
        go_wp2_with fail
        refine cc.mono ?_
        rintro e w1 ⟨rfl, rfl⟩
        clear cc g0 x0
        go_wp2
        clear hge
        clear hlz
        have HLt := hidden hlt
        clear hlt
        go_loop [4] (fun i => ∃ z : Nat, k ≤ z ∧ z ≤ n ∧ i = .int .i64 (z : Nat) ∧ ∀ j, k ≤ j → j < z → sld (f j) = true) (fun i => n - (intOf i).toNat)
        case atStart => exact ⟨k, Nat.le_refl _, by have := HLt.out; omega, rfl, fun j h1 h2 => by omega⟩
        case round =>
          obtain ⟨z, hkz, hzn, rfl, hall⟩ := hrel
          by_cases hzl : z < n
          · have g1 := Hc.out z hzl
            have x1 := Hsf.out z
            have c1 := rclass_any (f z) w1 x1
            have hzz : (z : Int) < (n : Int) := by omega
            cases hs2 : sld (f z) with
            | true =>
              have hg2 : ((cls (f z) : Nat) : Int) ≥ 2 := by have := sld_iff.1 hs2; omega
              have HA : Hid (∀ j, k ≤ j → j < z + 1 → sld (f j) = true) := fun j h1 h2 => by
                by_cases e : j = z
                · rw [e]; exact hs2
                · exact hall j h1 (by omega)
              clear hs2 hall
              generalize f z = y1 at *
              go_wp2_with fail
              refine c1.mono ?_
              rintro e w3 ⟨rfl, rfl⟩
              clear c1 g1
              go_wp2
              go_round
              case rel => exact ⟨z + 1, by omega, by omega, by go_num, HA.out⟩
              case measure => simp [intOf]; omega
            | false =>
              have hkz2 : k < z := by
                by_cases e : k = z
                · exfalso
                  have := HLs.out z e.symm
                  rw [hs2] at this; cases this
                · omega
              have hg2 : ¬ (((cls (f z) : Nat) : Int) ≥ 2) := by have := sld_no.1 hs2; omega
              have Hnew : Hid ((z + 1 ≤ n → z + 1 = 0 ∨ sld (f (z + 1 - 1)) = false) ∧ rowS (sol f (min (z + 1) n)) = rowS (sol f k) ++ [.int .i64 (k : Nat), .int .i64 ((z : Int) - k)] ∧ (sol f (min (z + 1) n)).length = (sol f k).length + 1) := by
                unfold Hid
                have e := sol_run (f := f) (q := k) (m := z - k) HB0.out (by omega) (fun j h1 h2 => hall j h1 (by omega))
                rw [show k + (z - k) = z by omega] at e
                rw [Nat.min_eq_left (by omega), sol_no hs2, e, rowS_app, rowS_one]
                exact ⟨fun _ => Or.inr (by rw [Nat.add_sub_cancel]; exact hs2), by rw [show (((z - k : Nat)) : Int) = (z : Int) - k by omega], by simp⟩
              clear hs2 hall HB0
              generalize f z = y1 at *
              generalize sol f k = L at *
              go_wp2_with fail
              refine c1.mono ?_
              rintro e w3 ⟨rfl, rfl⟩
              clear c1 g1
              go_wp2_with (at_builtin; refine wpList_append_own _ rfl _ _ 26 rfl w.heap.size 29 i0 (.agg #[.int .i64 0, .int .i64 0]) 2 16 Tryd.underlying26 hi hz0 hz1 hz2 rfl (by decide) _ _ _ rfl (hown.alloc _) ⟨w3.heap.size, 0, none⟩ 1 1 [.int .i64 k, .int .i64 ((z : Int) - k)] rfl rfl ?c1 ?c2 ?c3 ?c4 ?c5 ?_)
              case c1 =>
                intro j u hj
                match j, hj with
                | 0, hj => simp at hj; subst hj; simp [Addr.add]
                | 1, hj => simp at hj; subst hj; simp [Addr.add]
              case c2 =>
                intro u hu
                simp at hu
                rcases hu with rfl | rfl <;> rfl
              case c3 => unfold maxLen; omega
              case c4 => omega
              case c5 => simp; omega
              intro v' w2 hown' hgrow _
              have Hb2 := hidden (below_append2 hsz hown Hnx.out hgrow)
              have Hw2 := hidden hown'
              clear hown' hgrow hown
              go_wp2
              go_roundw
              case rel => exact ⟨z + 1, by omega, by go_num, Hnew.out.1, by rw [Hnew.out.2.1, Hnew.out.2.2]; exact Hw2.out, Hb2.out⟩
              case measure => simp [intOf]; omega
          · have hzz : ¬ ((z : Int) < (n : Int)) := by omega
            have hkz2 : k < z := by have := HLt.out; omega
            have Hnew : Hid ((z + 1 ≤ n → z + 1 = 0 ∨ sld (f (z + 1 - 1)) = false) ∧ rowS (sol f (min (z + 1) n)) = rowS (sol f k) ++ [.int .i64 (k : Nat), .int .i64 ((z : Int) - k)] ∧ (sol f (min (z + 1) n)).length = (sol f k).length + 1) := by
              unfold Hid
              have e := sol_run (f := f) (q := k) (m := z - k) HB0.out (by omega) (fun j h1 h2 => hall j h1 (by omega))
              rw [show k + (z - k) = z by omega] at e
              rw [Nat.min_eq_right (by omega), show n = z by omega, e, rowS_app, rowS_one]
              exact ⟨fun h => by omega, by rw [show (((z - k : Nat)) : Int) = (z : Int) - k by omega], by simp⟩
            clear hall HB0
            generalize sol f k = L at *
            go_wp2_with (at_builtin; refine wpList_append_own _ rfl _ _ 26 rfl w.heap.size 29 i0 (.agg #[.int .i64 0, .int .i64 0]) 2 16 Tryd.underlying26 hi hz0 hz1 hz2 rfl (by decide) _ _ _ rfl (hown.alloc _) ⟨w1.heap.size, 0, none⟩ 1 1 [.int .i64 k, .int .i64 ((z : Int) - k)] rfl rfl ?c1 ?c2 ?c3 ?c4 ?c5 ?_)
            case c2 => exact ⟨rfl, rfl⟩
            case c3 => first | (unfold maxLen; omega) | omega
            case c4 => omega
            case c5 => first | omega | (simp; omega)
            intro v' w2 hown' hgrow _
            have Hb2 := hidden (below_append2 hsz hown Hnx.out hgrow)
            have Hw2 := hidden hown'
            clear hown' hgrow hown
            go_wp2
            go_roundw
            case rel => exact ⟨z + 1, by omega, by go_num, Hnew.out.1, by rw [Hnew.out.2.1, Hnew.out.2.2]; exact Hw2.out, Hb2.out⟩
            case measure => simp [intOf]; omega
    · rw [Nat.min_eq_right (by omega)] at hown
      have hlz : ¬ ((k : Int) < (n : Int)) := by omega
      have Hs := hidden (isSp_of hown)
      have Hnx := hidden hnx
      clear hown hnx hb0
      go_wp2
      go_ret
      exact ⟨_, rfl, Hs.out, Hnx.out⟩
end Go.Proofs.PlatenWords
