/- PieceSlices is true of any text, any acts and any two numbers: all that may be sliced is sliced as from one text. -/
import Derived.Test.YtibdhahkkejnjaaPcB
namespace Go.Proofs.Ytibdhahkkejnjaa.PieceSlices
open Go.ChangeShapes Go.WideShapes Go.ChangeAt Go.RowKit Go.Proofs.PlatenPiece
set_option linter.unusedVariables false
set_option maxRecDepth 100000

set_option maxHeartbeats 4000000 in
theorem law (pv : Value) (n : Nat) (l0 : List Nat) (v : Value) (xs : List AP) (at' nn : Int) (w : World) (hs : IsSrc w pv n l0) (hv : IsActsP w v xs) (hat : -9223372036854775808 ≤ at' ∧ at' ≤ 9223372036854775807) (hnn : -9223372036854775808 ≤ nn ∧ nn ≤ 9223372036854775807) :
    Calls Try.prog 4 #[pv, v, .int .i64 at', .int .i64 nn] w fun e w' => e = .returned (.bool true) ∧ Below w.heap.size w w' := by
  obtain ⟨hlt, hln, hn63, hsrc⟩ := hs
  obtain ⟨pa, pc, rfl⟩ : ∃ pa pc, pv = .slice pa n pc := by
    rcases hsrc with ⟨rfl, rfl⟩ | ⟨ad, cap, rfl, _⟩
    · exact ⟨_, _, by rw [← hln]; rfl⟩
    · exact ⟨_, _, by rw [hln]⟩
  obtain ⟨m, hm⟩ : ∃ m, xs.length = m := ⟨_, rfl⟩
  obtain ⟨va, cap, rfl⟩ : ∃ va cap, v = .slice va m cap := by
    obtain ⟨_, va, cap, rfl, _⟩ := hv
    exact ⟨va, cap, by rw [hm]⟩
  have HSrc := hidden hsrc
  have HA := hidden hv
  have Hlt := hidden hlt
  have Hln := hidden hln
  have Hm := hidden hm
  clear hsrc hv hlt hln hm
  go_enter Try.func4, Try.ntmps4
  go_wp2_with fail
  refine (comes_any w).mono ?_
  rintro q w1 ⟨rfl, hb1⟩
  have HB1 := hidden hb1
  clear hb1
  go_wp2_with fail
  refine (fewP_any pa n pc _ xs w1 (HA.out.below HB1.out)).mono ?_
  rintro q w2 ⟨⟨r, rfl, hr⟩, rfl⟩
  have Hr := hidden hr
  clear hr
  cases r with
  | false =>
    go_wp2_with fail
    refine (comes_any w2).mono ?_
    rintro q w3 ⟨rfl, hb3⟩
    have HB3 := hidden (HB1.out.trans (hb3.mono HB1.out.size))
    clear hb3
    go_wp2
    go_ret
    exact ⟨rfl, HB3.out⟩
  | true =>
    obtain ⟨hn60, hm24, hall⟩ := Hr.out (by trivial)
    have Hall := hidden hall
    have hm24' : m ≤ 24 := by rw [← Hm.out]; exact hm24
    have Hl : Hid (l0.length ≤ 100) := by unfold Hid; rw [Hln.out]; exact hn60
    clear hall Hr hm24
    go_wp2_with fail
    refine (Own.new_any _ l0 w2 (HSrc.out.below HB1.out) (by have := Hl.out; omega)).mono ?_
    rintro q w3 ⟨T, tpv, ps, rfl, hT, hf, hp, hk, hg1⟩
    have HX := hidden (tx_begin hT hf hp hk (by have := Hl.out; omega) hg1.size)
    have HG1 := hidden hg1
    clear hT hf hp hk hg1
    go_wp2_with fail
    have HS3 : Hid (PlatenPiece.Src w3 (.slice pa n pc) l0) := (HSrc.out.below HB1.out).below (below_of_grown HG1.out)
    refine (rnew _ l0 w3 HS3.out (by have := Hl.out; omega)).mono ?_
    rintro q w4 ⟨rfl, ⟨lv, hR⟩, hb4⟩
    have HTR := hidden (tr_begin HX.out HG1.out hR hb4)
    clear hR hb4 HX HS3
    go_wp2_with fail
    go_loopw [12] (fun i wr => ∃ (k : Nat) (l : List Nat) (O : Nat → Prop) (lv : Value) (cs : List Rc) (N : Int), k ≤ m ∧ i = .int .i64 (k : Nat) ∧ TR w2.heap.size w2 wr T w3.heap.size l k O lv cs N ∧ cs.map (·.c) = l ∧ (∀ x ∈ l, x < 256) ∧ l.length ≤ 100 + 100 * k ∧ 0 ≤ N ∧ N ≤ 100 * (k : Int)) (fun i _ => m - (intOf i).toNat)
    case atStart => exact ⟨0, l0, _, lv, newC l0, 0, Nat.zero_le _, rfl, HTR.out, newC_c l0, Hlt.out, by have := Hl.out; omega, by omega, by omega⟩
    case round =>
      obtain ⟨k, l, O, lv2, cs, N, hk, rfl, ht, he, hb, hll, hN0, hN1⟩ := hrel
      by_cases hlt : k < m
      · obtain ⟨a, pb, po, ps, ad, ha, hmem, hok, rfl, hP, a0, a1, a2, a3⟩ := actsP_at (HA.out.below HB1.out) ht.bl hlt Hm.out
        have hkz : (k : Int) < (m : Int) := by omega
        have C5 := hidden (doesP ht he hb (by omega) (by omega) ⟨hN0, by omega⟩ a hok (Hall.out a hmem))
        obtain ⟨qa, qc, hq⟩ := src_slice hok.2.2.2.2
        rw [hq] at a3 C5
        clear ht he hb ha hmem hok hq
        go_wp2_with fail
        refine C5.out.mono ?_
        rintro q w6 ⟨l', O', lv', cs', N', rfl, ht', he', hb', hl', hn0, hn1⟩
        have HT' := hidden ht'
        have HE' := hidden he'
        have HB' := hidden hb'
        clear ht' he' hb' a0 a1 a2 a3 C5
        go_wp2
        go_roundw
        case rel => exact ⟨k + 1, l', O', lv', cs', N', by omega, by go_num, HT'.out, HE'.out, HB'.out, by omega, hn0, by push_cast; omega⟩
        case measure => simp [intOf]; omega
      · have hkz : ¬ ((k : Int) < (m : Int)) := by omega
        have C5 := hidden (doesP ht he hb (by omega) (by omega) ⟨hN0, by omega⟩ ⟨2, at', nn, .slice none 0 0, []⟩ ⟨by show 2 < 256; decide, hat, hnn, by simp, Or.inl ⟨rfl, rfl⟩⟩ (by simp))
        clear ht he hb
        go_wp2_with fail
        refine C5.out.mono ?_
        rintro q w6 ⟨l', O', lv', cs', N', rfl, ht', he', hb', hl', hn0, hn1⟩
        have hcl : cs'.length = l'.length := by rw [← he', List.length_map]
        obtain ⟨ra, rc, hrf, _, _⟩ := ht'.rt.form
        have d0 := ht'.rt.c0
        rw [hrf] at d0
        obtain ⟨S, hS⟩ : ∃ S, cs'.length = S := ⟨_, rfl⟩
        rw [hS] at d0
        have C7 := hidden (doesP ht' he' hb' (by omega) (by omega) ⟨hn0, by omega⟩ ⟨2, 0, (S : Int), .slice none 0 0, []⟩ ⟨by show 2 < 256; decide, by simp, by simp; omega, by simp, Or.inl ⟨rfl, rfl⟩⟩ (by simp))
        clear ht' he' hb' C5 hrf
        go_wp2_with fail
        refine C7.out.mono ?_
        rintro q w8 ⟨l3, O3, lv3, cs3, N3, rfl, ht3, _⟩
        have Hb3 := hidden (HB1.out.trans (ht3.bl.mono HB1.out.size))
        clear ht3 C7 d0
        go_wp2
        go_ret
        exact ⟨rfl, Hb3.out⟩

set_option maxRecDepth 100000 in
theorem lifted (os : Os) (started : os.Started) (H : Type) (enc : TypeId × Value → H) :
    ReturnsInHanded {} Try.checked os 4 .any (Rows.pieceSlicesSpec.pre6 enc Try.prog Try.f4 Rows.pieceSlicesRow.domain false) (Rows.pieceSlicesSpec.post enc Try.prog Try.f4 false true false false) := by
  refine returnsInHanded_of_change (C := Try.checked) own started (by kernel_rfl) Try.func4
    (ChangeSpec.witness6 (enc := enc) (C := Try.checked) false ⟨#[], #[.slice none 0 0, .slice none 0 0, .int .i64 0, .int .i64 0], []⟩ 8 (by kernel_rfl) (by kernel_rfl) (by kernel_rfl) (by kernel_rfl)) ?_
  intro W base args ds gs before hval0 hW _ _
  have hval : ∀ (j : Nat) t v, Try.f4.params[j]? = some t → args[j]? = some v → Value.okWide Try.prog W .any base t v := hval0
  have hW' := hW
  obtain ⟨p, q, hA0, hV, rfl, _, _⟩ := hW
  have hA : DataW.TrodAll enc Try.prog W 0 (fun _ => true) true Try.f4.params.toList args.toList ds p := hA0
  rw [Try.params4] at hA hval
  obtain ⟨v0, vs0, d0, ds0, p0, q0, hargs, rfl, rfl, h0, r0⟩ := trodAll_cons hA
  obtain ⟨v1, vs1, d1, ds1, p1, q1, rfl, rfl, rfl, h1, r1⟩ := trodAll_cons r0
  obtain ⟨v2, vs2, d2, ds2, p2, q2, rfl, rfl, rfl, h2, r2⟩ := trodAll_cons r1
  obtain ⟨v3, vs3, d3, ds3, p3, q3, rfl, rfl, rfl, h3, r3⟩ := trodAll_cons r2
  obtain ⟨rfl, rfl, rfl⟩ := trodAll_nil r3
  obtain rfl : args = #[v0, v1, v2, v3] := by cases args; simp_all
  obtain ⟨rfl, rfl⟩ := trodVars_none hV
  have lt0 : ∀ x ∈ p0, x.block < W.heap.size := by obtain ⟨m, hm⟩ := h0; exact DataW.trod_lt m _ _ _ hm
  obtain ⟨n0, f0, g0⟩ := open_src (hval 0 22 v0 rfl rfl) h0
  have lt1 : ∀ x ∈ p1, x.block < W.heap.size := by obtain ⟨m, hm⟩ := h1; exact DataW.trod_lt m _ _ _ hm
  obtain ⟨f1, g1⟩ := open_actsP (hval 1 23 v1 rfl rfl) h1
  obtain ⟨x2, rfl, rfl, rfl, w2⟩ := open_int Try.underlying3 (hval 2 3 v2 rfl rfl) h2
  have b2 : -9223372036854775808 ≤ x2 ∧ x2 ≤ 9223372036854775807 := by simpa [Lit.wf, IntKind.min, IntKind.max, IntKind.signed, IntKind.bits] using w2
  obtain ⟨x3, rfl, rfl, rfl, w3⟩ := open_int Try.underlying3 (hval 3 3 v3 rfl rfl) h3
  have b3 : -9223372036854775808 ≤ x3 ∧ x3 ≤ 9223372036854775807 := by simpa [Lit.wf, IntKind.min, IntKind.max, IntKind.signed, IntKind.bits] using w3
  clear hA0 hval0
  simp only [List.append_nil] at hW'
  refine (law v0 n0 f0 v1 f1 x2 x3 W g0 g1 b2 b3).mono fun e W' ⟨he, bel⟩ => ?_
  subst he
  exact ⟨_, rfl, _, _, _, [], _, [], hW', trodAll_mk1 (shut_bool Try.underlying4 _), (trodAll_cons_mk (Below.trod laidOut (by kernel_rfl) (of_decide_eq_true (by kernel_rfl)) h0 bel lt0) (trodAll_cons_mk (Below.trod laidOut (by kernel_rfl) (of_decide_eq_true (by kernel_rfl)) h1 bel lt1) (trodAll_cons_mk (shut_int Try.underlying3 w2) (trodAll_cons_mk (shut_int Try.underlying3 w3) trodAll_mk0)))), rfl, bel.frame _, fun h => by cases h⟩

theorem said : Rows.PieceSlicesSaid :=
  OpenClaim.holds_of_wide 4 Try.f4 rfl rfl rfl rfl rfl rfl rfl ⟨rfl, rfl, rfl, rfl, rfl⟩ rfl rfl rfl rfl rfl (by kernel_rfl) Try.func4 (by kernel_rfl)
    (of_decide_eq_true (by kernel_rfl)) (by unfold Func.isWrapper; first | (rw [if_pos (by decide +kernel)]; kernel_rfl) | (rw [if_neg (by decide +kernel)]; exact ⟨rfl, rfl⟩))
    (fun os started H enc _ => lifted os started H enc)
#print axioms said
end Go.Proofs.Ytibdhahkkejnjaa.PieceSlices
