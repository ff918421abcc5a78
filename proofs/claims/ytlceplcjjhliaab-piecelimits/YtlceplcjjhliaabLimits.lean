/- PieceLimits is true of any two numbers: so many bytes there may be, and no more; what is refused changes nothing. -/
import Derived.Test.YtlceplcjjhliaabArgs
import Derived.Test.YtlceplcjjhliaabTabN
namespace Go.Proofs.Ytlceplcjjhliaab.Limits
open Go.ChangeShapes Go.WideShapes Go.ChangeAt Go.RowKit Go.Proofs.PlatenPiece
set_option linter.unusedVariables false

theorem out_size {B : Nat} {w : World} {T : Nat} {pv : Value} {ps : List Pc} {s a : Int} (h : Tab B w T pv ps s a) (g m c : Nat) (hg : w.heap.size ≤ g) : PlatenPiece.Outside (PlatenPiece.Own T pv ps) (.slice (some ⟨g, 0, none⟩) m c) := by
  intro b hb ho
  have h1 : g = b := by simpa [Value.ownBlock] using hb
  have := (h.own_lt ho).2
  omega

/-- The table, and k zeros in it. -/
theorem start (w1 : World) (k : Nat) (hk : 0 < k) (hk2 : k ≤ 65536) (g : Nat) (hsrc : PlatenPiece.Src w1 (.slice (some ⟨g, 0, none⟩) k k) (List.replicate k 0)) :
    Calls Try.prog 10 #[.slice (some ⟨g, 0, none⟩) k k] w1 fun e w' => ∃ T, e = .returned (.tuple #[.pointer (some ⟨T, 0, none⟩), .int .i64 0]) ∧ (∃ pv q, Tab w1.heap.size w' T pv [⟨q, List.replicate k 0, 0⟩] k 0) ∧ w1.grownBy w' none := by
  have h := new_some _ _ w1 hsrc (by rw [List.length_replicate]; exact hk) (by rw [List.length_replicate]; exact hk2)
  rw [List.length_replicate] at h
  exact h.mono fun e w' ⟨he, h1, h2⟩ => ⟨_, he, h1, h2⟩

set_option maxHeartbeats 4000000 in
theorem law (n m : Nat) (w : World) (hn : n < 65536) (hm : m < 65536) :
    Calls Try.prog 6 #[.int .u16 n, .int .u16 m] w fun e w' => e = .returned (.bool true) ∧ Below w.heap.size w w' := by
  have cs := comes_any w
  obtain ⟨i0, hi, hz0, hz1, hz2⟩ := info_parts info5
  obtain ⟨k, hk⟩ : ∃ k : Nat, (65536 : Int) - (n : Int) = k := ⟨65536 - n, by omega⟩
  have hkn : k + n = 65536 := by omega
  have hk0 : 0 < k := by omega
  have hk1 : k ≤ 65536 := by omega
  go_enter Try.func6, Try.ntmps6
  go_wp2_with fail
  refine cs.mono ?_
  rintro e w1 ⟨rfl, hb1⟩
  have Hb1 := hidden hb1
  clear cs hb1
  go_wp2_with (at_make; refine wpList_make_full _ rfl _ _ 22 rfl w1.heap.size 5 i0 (.int .u8 0) 1 Try.underlying22 hi hz0 hz1 _ _ _ _ k rfl rfl rfl rfl ?c1 ?c2 ?c3 ?_)
  case c1 => rw [hz2]; omega
  case c2 => unfold maxLen; omega
  case c3 => exact Nat.le_refl _
  intro w2 hown2 hgr2
  have c2 := start w2 k hk0 hk1 w1.heap.size (made_src hown2)
  have Hb2 := hidden (Hb1.out.trans ((below_of_grown hgr2).mono Hb1.out.size))
  clear hown2 hgr2
  go_wp2_with fail
  refine c2.mono ?_
  rintro e w3 ⟨T, rfl, ⟨pv, q, hT⟩, hg3⟩
  have hB3 : w2.heap.size ≤ w3.heap.size := hg3.size
  have Hb3 := hidden (Hb2.out.trans ((below_of_grown hg3).mono Hb2.out.size))
  have HT := hidden hT
  clear c2 hg3 hT
  have hmw : (0 : Int) ≤ (m : Int) := by omega
  go_wp2_with (at_make; refine wpList_make_full _ rfl _ _ 22 rfl w3.heap.size 5 i0 (.int .u8 0) 1 Try.underlying22 hi hz0 hz1 _ _ _ _ m rfl rfl rfl rfl ?d1 ?d2 ?d3 ?_)
  case d1 => rw [hz2]; omega
  case d2 => unfold maxLen; omega
  case d3 => exact Nat.le_refl _
  intro w4 hown4 hgr4
  have HT4 := hidden (HT.out.grown hgr4)
  have HS4 := hidden (made_src hown4)
  have hB4 : w3.heap.size ≤ w4.heap.size := hgr4.size
  have Hb4 := hidden (Hb3.out.trans ((below_of_grown hgr4).mono Hb3.out.size))
  have HO4 := hidden (out_size HT.out w3.heap.size m m (Nat.le_refl _))
  clear hown4 hgr4 HT
  by_cases hmn : m > n
  · have c5 := insert_long _ T pv _ (k : Int) 0 (k : Int) (some ⟨w3.heap.size, 0, none⟩) m m w4 HT4.out (by omega) (by omega) (by omega) (by omega) (by omega)
    have c6 := len_tab _ T pv _ _ _ w4 HT4.out
    have hmz : (m : Int) > (n : Int) := by omega
    go_wp2_with fail
    refine c5.mono ?_
    rintro e w5 ⟨rfl, rfl⟩
    clear c5
    go_wp2_with fail
    refine c6.mono ?_
    rintro e w6 ⟨rfl, rfl⟩
    clear c6
    go_wp2
    go_ret
    exact ⟨rfl, Hb4.out⟩
  · have hmz : ¬ ((m : Int) > (n : Int)) := by omega
    have c5 : Calls Try.prog 13 #[.pointer (some ⟨T, 0, none⟩), .int .i64 k, .slice (some ⟨w3.heap.size, 0, none⟩) m m] w4 fun e w' => e = .returned (.int .i64 0) ∧ (∃ pv' ps' a', Tab w2.heap.size w' T pv' ps' ((k : Int) + (m : Int)) a') ∧ Below w.heap.size w w' := by
      rcases Nat.eq_zero_or_pos m with h0 | h0
      · subst h0
        exact (insert_zero _ T pv _ (k : Int) 0 (k : Int) (some ⟨w3.heap.size, 0, none⟩) 0 w4 HT4.out (by omega) (by omega) (by omega)).mono fun e w' ⟨he, hw⟩ => ⟨he, ⟨pv, [⟨q, List.replicate k 0, 0⟩], 0, by rw [hw]; simpa using HT4.out⟩, by rw [hw]; exact Hb4.out⟩
      · have hsum : lenSum [⟨q, List.replicate k 0, 0⟩] = k := by simp [lenSum]
        have h := insert_tab w2.heap.size T pv _ _ _ k (.slice (some ⟨w3.heap.size, 0, none⟩) m m) (List.replicate m 0) w4 HT4.out (by omega) (by simp) (by rw [hsum]) (by rw [hsum]; exact Nat.le_refl _) (by rw [hsum, List.length_replicate]; omega) (by rw [List.length_replicate]; exact h0) HS4.out HO4.out (by simp) (by simp)
        rw [List.length_replicate] at h
        refine h.mono fun e w' ⟨he, pv', ps', hT', _, hK, _⟩ => ⟨he, ⟨pv', ps', _, hT'⟩, ?_⟩
        exact Hb4.out.trans ((hK.bel HT4.out (by omega)).mono Hb2.out.size)
    have hm1 : (0 : Int) ≤ 65537 + (m : Int) := by omega
    obtain ⟨j, hj⟩ : ∃ j : Nat, (65537 : Int) + (m : Int) = j := ⟨65537 + m, by omega⟩
    have hj1 : 65536 < j := by omega
    have hj2 : j ≤ 1000000 := by omega
    go_wp2_with fail
    refine c5.mono ?_
    rintro e w5 ⟨rfl, ⟨pv5, ps5, a5, hT5⟩, hb5⟩
    have HT5 := hidden hT5
    have Hb5 := hidden hb5
    clear c5 hT5 hb5
    go_wp2_with (at_make; refine wpList_make_full _ rfl _ _ 22 rfl w5.heap.size 5 i0 (.int .u8 0) 1 Try.underlying22 hi hz0 hz1 _ _ _ _ j rfl rfl rfl rfl ?e1 ?e2 ?e3 ?_)
    case e1 => rw [hz2]; omega
    case e2 => unfold maxLen; omega
    case e3 => exact Nat.le_refl _
    intro w6 hown6 hgr6
    have HT6 := hidden (HT5.out.grown hgr6)
    have Hb6 := hidden (Hb5.out.trans ((below_of_grown hgr6).mono Hb5.out.size))
    have c7 := new_long _ _ w6 (made_src hown6) (by rw [List.length_replicate]; exact hj1) (by rw [List.length_replicate]; exact hj2)
    have c8 := len_tab _ T pv5 _ _ _ w6 HT6.out
    clear hown6 hgr6 HT5
    go_wp2_with fail
    refine c7.mono ?_
    rintro e w7 ⟨rfl, rfl⟩
    clear c7
    go_wp2_with fail
    refine c8.mono ?_
    rintro e w8 ⟨rfl, rfl⟩
    clear c8
    go_wp2
    go_ret
    exact ⟨rfl, Hb6.out⟩

set_option maxRecDepth 100000 in
theorem lifted (os : Os) (started : os.Started) (H : Type) (enc : TypeId × Value → H) :
    ReturnsInHanded {} Try.checked os 6 .any (Rows.pieceLimitsSpec.pre6 enc Try.prog Try.f6 Rows.pieceLimitsRow.domain false) (Rows.pieceLimitsSpec.post enc Try.prog Try.f6 false true false false) := by
  refine returnsInHanded_of_change (C := Try.checked) own started (by kernel_rfl) Try.func6
    (ChangeSpec.witness6 (enc := enc) (C := Try.checked) false ⟨#[], #[.int .u16 0, .int .u16 0], []⟩ 8 (by kernel_rfl) (by kernel_rfl) (by kernel_rfl) (by kernel_rfl)) ?_
  intro W base args ds gs before hval0 hW _ _
  have hval : ∀ (j : Nat) t v, Try.f6.params[j]? = some t → args[j]? = some v → Value.okWide Try.prog W .any base t v := hval0
  have hW' := hW
  obtain ⟨p, q, hA0, hV, rfl, _, _⟩ := hW
  have hA : DataW.TrodAll enc Try.prog W 0 (fun _ => true) true Try.f6.params.toList args.toList ds p := hA0
  rw [Try.params6] at hA hval
  obtain ⟨v0, vs0, d0, ds0, p0, q0, hargs, rfl, rfl, h0, r0⟩ := trodAll_cons hA
  obtain ⟨v1, vs1, d1, ds1, p1, q1, rfl, rfl, rfl, h1, r1⟩ := trodAll_cons r0
  obtain ⟨rfl, rfl, rfl⟩ := trodAll_nil r1
  obtain rfl : args = #[v0, v1] := by cases args; simp_all
  obtain ⟨rfl, rfl⟩ := trodVars_none hV
  obtain ⟨x0, rfl, rfl, rfl, w0⟩ := open_int Try.underlying47 (hval 0 47 v0 rfl rfl) h0
  have b0 : 0 ≤ x0 ∧ x0 ≤ 65535 := by simpa [Lit.wf, IntKind.min, IntKind.max, IntKind.signed, IntKind.bits] using w0
  obtain ⟨c0, rfl⟩ := Int.eq_ofNat_of_zero_le b0.1
  obtain ⟨x1, rfl, rfl, rfl, w1⟩ := open_int Try.underlying47 (hval 1 47 v1 rfl rfl) h1
  have b1 : 0 ≤ x1 ∧ x1 ≤ 65535 := by simpa [Lit.wf, IntKind.min, IntKind.max, IntKind.signed, IntKind.bits] using w1
  obtain ⟨c1, rfl⟩ := Int.eq_ofNat_of_zero_le b1.1
  clear hA0 hval0
  simp only [List.append_nil] at hW'
  refine (law c0 c1 W (by omega) (by omega)).mono fun e W' ⟨he, bel⟩ => ?_
  subst he
  exact ⟨_, rfl, _, _, _, [], _, [], hW', trodAll_mk1 (shut_bool Try.underlying4 _), (trodAll_cons_mk (shut_int Try.underlying47 w0) (trodAll_cons_mk (shut_int Try.underlying47 w1) trodAll_mk0)), rfl, bel.frame _, fun h => by cases h⟩

theorem said : Rows.PieceLimitsSaid :=
  OpenClaim.holds_of_wide 6 Try.f6 rfl rfl rfl rfl rfl rfl rfl ⟨rfl, rfl, rfl, rfl, rfl⟩ rfl rfl rfl rfl rfl (by kernel_rfl) Try.func6 (by kernel_rfl)
    (of_decide_eq_true (by kernel_rfl)) (by unfold Func.isWrapper; first | (rw [if_pos (by decide +kernel)]; kernel_rfl) | (rw [if_neg (by decide +kernel)]; exact ⟨rfl, rfl⟩))
    (fun os started H enc _ => lifted os started H enc)
#print axioms said
end Go.Proofs.Ytlceplcjjhliaab.Limits
