/- layout.Lay gives, for any row of parts and any width, the bytes that the reference gives, or that it is too much. -/
import Derived.Test.YtaefnlknendapaaArgs
import Derived.Test.YtaefnlknendapaaRows
import Derived.Test.YtaefnlknendapaaPtG
import Derived.Test.YtaefnlknendapaaLzE
import Derived.Test.YtaefnlknendapaaLwA
import Derived.ProofKit
import Derived.OpenShut
import Derived.ChangeOld
namespace Go.Proofs.Ytaefnlknendapaa.Lays
open Go Go.ChangeShapes Go.WideShapes Go.ChangeAt Go.RowKit Go.Shelf Go.Proofs.PlatenLayout Go.Proofs.Ytaefnlknendapaa
set_option linter.unusedVariables false
set_option maxRecDepth 100000

set_option maxHeartbeats 1000000 in
theorem long (v : Value) (l : List Pt) (wd : Int) (w : World) (h : IsParts w v l) (hl : 60 < l.length) : Calls Try.prog 4 #[v, .int .i16 wd] w fun e w' => e = .returned (.bool true) ∧ Below w.heap.size w w' := by
  obtain ⟨hll, a, cap, rfl, _⟩ := h
  obtain ⟨n, hn⟩ : ∃ n, l.length = n := ⟨_, rfl⟩
  rw [hn] at hl hll ⊢
  clear hn
  have hz : ((n : Int) > 60) := by omega
  have c := group_any w
  go_enter Try.func4, Try.ntmps4
  go_wp2_with fail
  refine c.mono ?_
  rintro e w1 ⟨rfl, hb1⟩
  have c1 := group_any w1
  have HB1 := hidden hb1
  have hsz := hb1.size
  clear hb1
  go_wp2_with fail
  refine c1.mono ?_
  rintro e w2 ⟨rfl, hb2⟩
  have HB2 := hidden (HB1.out.trans (hb2.mono hsz))
  clear hb2
  go_wp2_with fail
  go_ret
  exact ⟨rfl, HB2.out⟩

set_option maxHeartbeats 2000000 in
theorem law (v : Value) (l : List Pt) (wd : Int) (w : World) (h : IsParts w v l) (hwd : -32768 ≤ wd ∧ wd ≤ 32767) : Calls Try.prog 4 #[v, .int .i16 wd] w fun e w' => e = .returned (.bool true) ∧ Below w.heap.size w w' := by
  by_cases hl : 60 < l.length
  · exact long v l wd w h hl
  have wz : IntKind.i64.wrap wd = wd := IntWalk.i64_in _ (by omega)
  obtain ⟨hll, a, cap, e0, _⟩ := id h
  have HP := hidden h
  clear h
  subst e0
  obtain ⟨n, hn⟩ : ∃ n, l.length = n := ⟨_, rfl⟩
  have hl60 : l.length ≤ 60 := by omega
  rw [hn] at hl hll ⊢
  have hnz : ¬ ((n : Int) > 60) := by omega
  have Hnl := hidden hn
  clear hn
  have c := group_any w
  go_enter Try.func4, Try.ntmps4
  go_wp2_with fail
  refine c.mono ?_
  rintro e w1 ⟨rfl, hb1⟩
  have HB1 := hidden hb1
  have hsz1 := hb1.size
  have ci := items_any (HP.out.below hb1) (by omega)
  rw [Hnl.out] at ci
  have hok := itemsOk HP.out (by omega)
  clear hb1 HP
  go_wp2_with fail
  refine ci.mono ?_
  rintro e w2 ⟨u, rfl, hr2, hb2⟩
  have hB2 := HB1.out.trans (hb2.mono hsz1)
  have HB2 := hidden hB2
  have hsz2 : w.heap.size ≤ w2.heap.size := hB2.size
  obtain ⟨ia, icap, rfl⟩ := row_slice hr2
  have ok := hok
  have hI : IsItems w2 (.slice ia n icap) (l.map itemOf) := isItems_of (by rw [List.length_map, Hnl.out]; exact hr2)
  have HI := hidden hI
  have Hok := hidden ok
  clear hb2 hB2 hr2 HB1
  have c1 := lay_any hI ok wd (by omega)
  have hq := fun q => lay_some (w := wd) (q := q) ok
  obtain ⟨o, ho⟩ : ∃ o, lay wd (l.map itemOf) s0 = o := ⟨_, rfl⟩
  rw [ho] at c1
  simp only [ho] at hq
  have HO := hidden ho
  clear hI ho
  go_wp2_with fail
  refine c1.mono ?_
  rintro e w3 ⟨hres, hb3⟩
  have hI3 := HI.out.below hb3
  have c2 := rlay_any hI3 Hok.out wd (by omega)
  rw [HO.out] at c2
  have hB3 := HB2.out.trans (hb3.mono hsz2)
  have HB3 := hidden hB3
  have hsz3 : w.heap.size ≤ w3.heap.size := hB3.size
  clear hI3 hb3 hB3
  cases o with
  | none =>
    have e1 : e = .returned (.tuple #[.string ByteArray.empty, .int .i64 4]) := hres
    subst e1
    clear hq hres
    go_wp2_with fail
    refine c2.mono ?_
    rintro e w4 ⟨e2, hb4⟩
    have e3 : e = .returned (.tuple #[.slice none 0 0, .bool false]) := e2
    subst e3
    have HB4 := hidden (HB3.out.trans (hb4.mono hsz3))
    clear hb4
    go_wp2_with fail
    go_ret
    exact ⟨rfl, HB4.out⟩
  | some q =>
    obtain ⟨q1, q2⟩ := hq q rfl
    have e1 : e = .returned (.tuple #[.string (str q), .int .i64 0]) := hres
    subst e1
    clear hq hres
    go_wp2_with fail
    refine c2.mono ?_
    rintro e w4 ⟨⟨rv, B, rfl, hBB, hr⟩, hb4⟩
    have HB4 := hidden (HB3.out.trans (hb4.mono hsz3))
    have hcv := conv_row hr q1
    obtain ⟨ra, rc, rfl⟩ := row_slice hr
    obtain ⟨S, hS⟩ : ∃ S, str q = S := ⟨_, rfl⟩
    rw [hS] at hcv ⊢
    clear hb4 hr hS q1
    go_wp2_with fail
    trace_state
    go_ret
    exact ⟨rfl, HB4.out⟩
set_option maxRecDepth 100000 in
theorem lifted (os : Os) (started : os.Started) (H : Type) (enc : TypeId × Value → H) :
    ReturnsInHanded {} Try.checked os 4 .any (Rows.layoutLaysSpec.pre6 enc Try.prog Try.f4 Rows.layoutLaysRow.domain false) (Rows.layoutLaysSpec.post enc Try.prog Try.f4 false true false false) := by
  refine returnsInHanded_of_change (C := Try.checked) own started (by kernel_rfl) Try.func4
    (ChangeSpec.witness6 (enc := enc) (C := Try.checked) false ⟨#[], #[.slice none 0 0, .int .i16 0], []⟩ 8 (by kernel_rfl) (by kernel_rfl) (by kernel_rfl) (by kernel_rfl)) ?_
  intro W base args ds gs before hval0 hW _ _
  have hval : ∀ (j : Nat) t v, Try.f4.params[j]? = some t → args[j]? = some v → Value.okWide Try.prog W .any base t v := hval0
  have hW' := hW
  obtain ⟨p, q, hA0, hV, rfl, _, _⟩ := hW
  have hA : DataW.TrodAll enc Try.prog W 0 (fun _ => true) true Try.f4.params.toList args.toList ds p := hA0
  rw [Try.params4] at hA hval
  obtain ⟨v0, vs0, d0, ds0, p0, q0, hargs, rfl, rfl, h0, r0⟩ := trodAll_cons hA
  obtain ⟨v1, vs1, d1, ds1, p1, q1, rfl, rfl, rfl, h1, r1⟩ := trodAll_cons r0
  obtain ⟨rfl, rfl, rfl⟩ := trodAll_nil r1
  obtain rfl : args = #[v0, v1] := by cases args; simp_all
  obtain ⟨rfl, rfl⟩ := trodVars_none hV
  have lt0 : ∀ x ∈ p0, x.block < W.heap.size := by obtain ⟨m, hm⟩ := h0; exact DataW.trod_lt m _ _ _ hm
  obtain ⟨f0, g0⟩ := open_acts (hval 0 22 v0 rfl rfl) h0
  obtain ⟨x1, rfl, rfl, rfl, w1⟩ := open_int Try.underlying29 (hval 1 29 v1 rfl rfl) h1
  have b1 : -32768 ≤ x1 ∧ x1 ≤ 32767 := by simpa [Lit.wf, IntKind.min, IntKind.max, IntKind.signed, IntKind.bits] using w1
  clear hA0 hval0
  simp only [List.append_nil] at hW'
  refine (law v0 f0 x1 W g0 b1).mono fun e W' ⟨he, bel⟩ => ?_
  subst he
  exact ⟨_, rfl, _, _, _, [], _, [], hW', trodAll_mk1 (shut_bool Try.underlying4 _), (trodAll_cons_mk (Below.trod laidOut (by kernel_rfl) (of_decide_eq_true (by kernel_rfl)) h0 bel lt0) (trodAll_cons_mk (shut_int Try.underlying29 w1) trodAll_mk0)), rfl, bel.frame _, fun h => by cases h⟩

theorem said : Rows.LayoutLaysSaid :=
  OpenClaim.holds_of_wide 4 Try.f4 rfl rfl rfl rfl rfl rfl rfl ⟨rfl, rfl, rfl, rfl, rfl⟩ rfl rfl rfl rfl rfl (by kernel_rfl) Try.func4 (by kernel_rfl)
    (of_decide_eq_true (by kernel_rfl)) (by unfold Func.isWrapper; first | (rw [if_pos (by decide +kernel)]; kernel_rfl) | (rw [if_neg (by decide +kernel)]; exact ⟨rfl, rfl⟩))
    (fun os started H enc _ => lifted os started H enc)
#print axioms said
end Go.Proofs.Ytaefnlknendapaa.Lays
