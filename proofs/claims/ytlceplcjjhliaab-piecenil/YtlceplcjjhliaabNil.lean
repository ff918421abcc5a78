/- PieceNil is true of any place, number and bytes: of no table nothing is told, and nothing is done. -/
import Derived.Test.YtlceplcjjhliaabArgs
namespace Go.Proofs.Ytlceplcjjhliaab.Nil
open Go.ChangeShapes Go.WideShapes Go.ChangeAt Go.RowKit Go.Proofs.PlatenPiece
set_option linter.unusedVariables false

theorem IsSrc.len {w : World} {v : Value} {n : Nat} {l : List Nat} (h : IsSrc w v n l) : ∃ a cap, v = .slice a n cap := by
  rcases h.2.2.2 with ⟨rfl, rfl⟩ | ⟨ad, cap, rfl, _⟩
  · exact ⟨_, _, by rw [← h.2.1]; rfl⟩
  · exact ⟨_, _, by rw [h.2.1]⟩

set_option maxHeartbeats 400000 in
theorem long (a m : Int) (v : Value) (n : Nat) (l : List Nat) (w : World) (hv : IsSrc w v n l) (hn : 300 < n) :
    Calls Try.prog 7 #[.int .i64 a, .int .i64 m, v] w fun e w' => e = .returned (.bool true) ∧ Below w.heap.size w w' := by
  have cs := comes_any w
  obtain ⟨ea, cap, rfl⟩ := IsSrc.len hv
  have hnz : 300 < (n : Int) := by omega
  clear hv
  go_enter Try.func7, Try.ntmps7
  go_wp2_with fail
  refine cs.mono ?_
  rintro e w1 ⟨rfl, hb⟩
  have cs2 := comes_any w1
  go_wp2_with fail
  refine cs2.mono ?_
  rintro e w2 ⟨rfl, hb2⟩
  go_wp2
  go_ret
  exact ⟨rfl, hb.trans (hb2.mono hb.size)⟩

set_option maxHeartbeats 400000 in
theorem delete_nil (a n : Int) (w : World) : Calls Try.prog 14 #[.pointer none, .int .i64 a, .int .i64 n] w fun e w' => e = .returned (.int .i64 1) ∧ w' = w := by
  go_enter Try.func14, Try.ntmps14
  go_wp2
  go_ret
  exact ⟨rfl, rfl⟩

theorem slice_nil_any (a m : Int) (w : World) :
    Calls Try.prog 20 #[.pointer none, .int .i64 a, .int .i64 m] w fun e w' => ∃ x c, e = .returned (.tuple #[.slice x 0 c, .bool (decide (a = 0) && decide (m = 0))]) ∧ Below w.heap.size w w' := by
  by_cases h : a = 0 ∧ m = 0
  · obtain ⟨rfl, rfl⟩ := h
    exact (slice_nil w).mono fun e w' ⟨he, hg⟩ => ⟨_, _, he, below_of_grown hg⟩
  · have hb : (decide (a = 0) && decide (m = 0)) = false := by
      rw [Bool.and_eq_false_iff, decide_eq_false_iff_not, decide_eq_false_iff_not]; omega
    rw [hb]
    exact (slice_no (.pointer none) 0 a m w (len_nil w) (by omega) (by omega) (by omega)).mono fun e w' ⟨he, hw⟩ => ⟨_, _, he, hw ▸ Below.refl _ _⟩

set_option maxHeartbeats 2000000 in
theorem short (a m : Int) (v : Value) (n : Nat) (l : List Nat) (w : World) (hv : IsSrc w v n l) (hn : n ≤ 300) :
    Calls Try.prog 7 #[.int .i64 a, .int .i64 m, v] w fun e w' => e = .returned (.bool true) ∧ Below w.heap.size w w' := by
  have cs := comes_any w
  obtain ⟨ea, cap, rfl⟩ := IsSrc.len hv
  have hnz : ¬ (300 < (n : Int)) := by omega
  clear hv
  have t0 : (decide (a = 0) && decide (m = 0)) = ((a == 0) && (m == 0)) := by
    rw [Bool.eq_iff_iff]; simp
  go_enter Try.func7, Try.ntmps7
  go_wp2_with fail
  refine cs.mono ?_
  rintro e w1 ⟨rfl, hb1⟩
  have c1 := slice_nil_any a m w1
  rw [t0] at c1
  have Hb1 := hidden hb1
  clear cs hb1 t0
  go_wp2_with fail
  refine c1.mono ?_
  rintro e w2 ⟨x, xc, rfl, hb2⟩
  have Hb2 := hidden (Hb1.out.trans (hb2.mono Hb1.out.size))
  have c2 := len_nil w2
  have c3 := pieces_nil w2
  have c4 := bytes_nil w2
  clear hb2 c1
  go_wp2_with fail
  refine c2.mono ?_
  rintro e w3 ⟨rfl, rfl⟩
  clear c2
  go_wp2_with fail
  refine c3.mono ?_
  rintro e w4 ⟨rfl, rfl⟩
  clear c3
  go_wp2_with fail
  refine c4.mono ?_
  rintro e w5 ⟨rfl, hg5⟩
  have Hb5 := hidden (Hb2.out.trans ((below_of_grown hg5).mono Hb2.out.size))
  have c5 := insert_bad (.pointer none) 0 a (.slice ea n cap) w5 (Or.inl rfl) (len_nil w5) (by omega) (by omega) (Or.inr rfl)
  have c6 := delete_nil a m w5
  clear hg5 c4
  go_wp2_with fail
  refine c5.mono ?_
  rintro e w6 ⟨rfl, rfl⟩
  clear c5
  go_wp2_with fail
  refine c6.mono ?_
  rintro e w7 ⟨rfl, rfl⟩
  clear c6
  by_cases ha : a = 0
  · subst ha
    go_wp2
    go_ret
    exact ⟨by simp, Hb5.out⟩
  · have hba : (a == 0) = false := by simpa using ha
    go_wp2
    go_ret
    exact ⟨by simp, Hb5.out⟩

theorem law (a m : Int) (v : Value) (n : Nat) (l : List Nat) (w : World) (ha : -9223372036854775808 ≤ a ∧ a ≤ 9223372036854775807) (hm : -9223372036854775808 ≤ m ∧ m ≤ 9223372036854775807) (hv : IsSrc w v n l) :
    Calls Try.prog 7 #[.int .i64 a, .int .i64 m, v] w fun e w' => e = .returned (.bool true) ∧ Below w.heap.size w w' := by
  by_cases hn : 300 < n
  · exact long a m v n l w hv hn
  · exact short a m v n l w hv (by omega)

set_option maxRecDepth 100000 in
theorem lifted (os : Os) (started : os.Started) (H : Type) (enc : TypeId × Value → H) :
    ReturnsInHanded {} Try.checked os 7 .any (Rows.pieceNilSpec.pre6 enc Try.prog Try.f7 Rows.pieceNilRow.domain false) (Rows.pieceNilSpec.post enc Try.prog Try.f7 false true false false) := by
  refine returnsInHanded_of_change (C := Try.checked) own started (by kernel_rfl) Try.func7
    (ChangeSpec.witness6 (enc := enc) (C := Try.checked) false ⟨#[], #[.int .i64 0, .int .i64 0, .slice none 0 0], []⟩ 8 (by kernel_rfl) (by kernel_rfl) (by kernel_rfl) (by kernel_rfl)) ?_
  intro W base args ds gs before hval0 hW _ _
  have hval : ∀ (j : Nat) t v, Try.f7.params[j]? = some t → args[j]? = some v → Value.okWide Try.prog W .any base t v := hval0
  have hW' := hW
  obtain ⟨p, q, hA0, hV, rfl, _, _⟩ := hW
  have hA : DataW.TrodAll enc Try.prog W 0 (fun _ => true) true Try.f7.params.toList args.toList ds p := hA0
  rw [Try.params7] at hA hval
  obtain ⟨v0, vs0, d0, ds0, p0, q0, hargs, rfl, rfl, h0, r0⟩ := trodAll_cons hA
  obtain ⟨v1, vs1, d1, ds1, p1, q1, rfl, rfl, rfl, h1, r1⟩ := trodAll_cons r0
  obtain ⟨v2, vs2, d2, ds2, p2, q2, rfl, rfl, rfl, h2, r2⟩ := trodAll_cons r1
  obtain ⟨rfl, rfl, rfl⟩ := trodAll_nil r2
  obtain rfl : args = #[v0, v1, v2] := by cases args; simp_all
  obtain ⟨rfl, rfl⟩ := trodVars_none hV
  obtain ⟨x0, rfl, rfl, rfl, w0⟩ := open_int Try.underlying3 (hval 0 3 v0 rfl rfl) h0
  have b0 : -9223372036854775808 ≤ x0 ∧ x0 ≤ 9223372036854775807 := by simpa [Lit.wf, IntKind.min, IntKind.max, IntKind.signed, IntKind.bits] using w0
  obtain ⟨x1, rfl, rfl, rfl, w1⟩ := open_int Try.underlying3 (hval 1 3 v1 rfl rfl) h1
  have b1 : -9223372036854775808 ≤ x1 ∧ x1 ≤ 9223372036854775807 := by simpa [Lit.wf, IntKind.min, IntKind.max, IntKind.signed, IntKind.bits] using w1
  have lt2 : ∀ x ∈ p2, x.block < W.heap.size := by obtain ⟨m, hm⟩ := h2; exact DataW.trod_lt m _ _ _ hm
  obtain ⟨n2, f2, g2⟩ := open_src (hval 2 22 v2 rfl rfl) h2
  clear hA0 hval0
  simp only [List.append_nil] at hW'
  refine (law x0 x1 v2 n2 f2 W b0 b1 g2).mono fun e W' ⟨he, bel⟩ => ?_
  subst he
  exact ⟨_, rfl, _, _, _, [], _, [], hW', trodAll_mk1 (shut_bool Try.underlying4 _), (trodAll_cons_mk (shut_int Try.underlying3 w0) (trodAll_cons_mk (shut_int Try.underlying3 w1) (trodAll_cons_mk (Below.trod laidOut (by kernel_rfl) (of_decide_eq_true (by kernel_rfl)) h2 bel lt2) trodAll_mk0))), rfl, bel.frame _, fun h => by cases h⟩

theorem said : Rows.PieceNilSaid :=
  OpenClaim.holds_of_wide 7 Try.f7 rfl rfl rfl rfl rfl rfl rfl ⟨rfl, rfl, rfl, rfl, rfl⟩ rfl rfl rfl rfl rfl (by kernel_rfl) Try.func7 (by kernel_rfl)
    (of_decide_eq_true (by kernel_rfl)) (by unfold Func.isWrapper; first | (rw [if_pos (by decide +kernel)]; kernel_rfl) | (rw [if_neg (by decide +kernel)]; exact ⟨rfl, rfl⟩))
    (fun os started H enc _ => lifted os started H enc)
#print axioms said
end Go.Proofs.Ytlceplcjjhliaab.Nil
