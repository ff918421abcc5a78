/- PastActs is true of any text and any acts: the text, the edits that are told, and how many are done and undone, are the document's. -/
import Derived.Test.YtibdhahkkejnjaaPuG
namespace Go.Proofs.Ytibdhahkkejnjaa.PastActs
open Go.ChangeShapes Go.WideShapes Go.ChangeAt Go.RowKit Go.Proofs.PlatenPiece
set_option linter.unusedVariables false
set_option maxRecDepth 100000

set_option maxHeartbeats 4000000 in
theorem law (pv : Value) (n : Nat) (l0 : List Nat) (v : Value) (xs : List AC) (w : World) (hs : IsSrc w pv n l0) (hv : IsActs w v xs) :
    Calls Try.prog 5 #[pv, v] w fun e w' => e = .returned (.bool true) ∧ Below w.heap.size w w' := by
  obtain ⟨hlt, hln, hn63, hsrc⟩ := hs
  obtain ⟨pa, pc, rfl⟩ : ∃ pa pc, pv = .slice pa n pc := by
    rcases hsrc with ⟨rfl, rfl⟩ | ⟨ad, cap, rfl, _⟩
    · exact ⟨_, _, by rw [← hln]; rfl⟩
    · exact ⟨_, _, by rw [hln]⟩
  obtain ⟨m, hm⟩ : ∃ m, xs.length = m := ⟨_, rfl⟩
  obtain ⟨va, cap, rfl⟩ : ∃ va cap, v = .slice va m cap := by
    obtain ⟨_, va, cap, rfl, _⟩ := hv
    exact ⟨va, cap, by rw [hm]⟩
  have HSrc := hidden hsrc
  have HA := hidden hv
  have Hlt := hidden hlt
  have Hln := hidden hln
  have Hm := hidden hm
  clear hsrc hv hlt hln hm
  go_enter Try.func5, Try.ntmps5
  go_wp2_with fail
  refine (moves_any w).mono ?_
  rintro q w1 ⟨rfl, hb1⟩
  have HB1 := hidden hb1
  clear hb1
  go_wp2_with fail
  refine (few_any pa n pc _ xs w1 (HA.out.below HB1.out)).mono ?_
  rintro q w2 ⟨⟨r, rfl, hr⟩, rfl⟩
  have Hr := hidden hr
  clear hr
  cases r with
  | false =>
    go_wp2_with fail
    refine (moves_any w2).mono ?_
    rintro q w3 ⟨rfl, hb3⟩
    have HB3 := hidden (HB1.out.trans (hb3.mono HB1.out.size))
    clear hb3
    go_wp2
    go_ret
    exact ⟨rfl, HB3.out⟩
  | true =>
    obtain ⟨hn60, hm24, hall⟩ := Hr.out rfl
    have Hall := hidden hall
    have hm24' : m ≤ 24 := by rw [← Hm.out]; exact hm24
    have Hl : Hid (l0.length ≤ 60) := by unfold Hid; rw [Hln.out]; exact hn60
    clear hall Hr hm24
    go_wp2_with fail
    refine (Own.new_any _ l0 w2 (HSrc.out.below HB1.out) (by have := Hl.out; omega)).mono ?_
    rintro q w3 ⟨T, tpv, ps, rfl, hT, hf, hp, hk, hg1⟩
    have hX := tx_first hT hf hp hk (by have := Hl.out; omega) hg1.size
    have HX := hidden hX
    have HG1 := hidden hg1
    clear hT hf hp hk hX hg1
    go_wp2_with fail
    refine (past_new HX.out HG1.out.size).mono ?_
    rintro q w4 ⟨rfl, hp2, hg2⟩
    have HP2 := hidden hp2
    have HG2 := hidden hg2
    clear hp2 hg2
    go_wp2_with fail
    have HS2 : Hid (PlatenPiece.Src w4 (.slice pa n pc) l0) := (HSrc.out.below HB1.out).below (below_of_grown (grown_tr HG1.out HG2.out))
    refine (join_src _ _ l0 [] w4 (by have := Hl.out; omega) (by simp) HS2.out (Or.inl ⟨rfl, rfl⟩)).mono ?_
    rintro q w5 ⟨x, rfl, hL3⟩
    rw [List.append_nil] at hL3
    obtain ⟨X0, R0, hpr⟩ := start_pr HP2.out HG1.out HG2.out hL3
    obtain ⟨xa, xc, rfl⟩ := row_slice hL3.1
    have HPR := hidden hpr
    have HI := hidden (inv_first (l0 := l0) (by have := Hl.out; omega) Hlt.out)
    clear hpr hL3 HP2 HX HS2
    go_wp2_with fail
    generalize (w5.alloc (.cells #[.slice xa l0.length xc, .slice none 0 0, .slice none 0 0, .slice none 0 0] 51)) = W at *
    go_loopw [9] (fun i wr => ∃ (k : Nat) (s : Hs) (X R : Nat → Prop), k ≤ m ∧ i = .int .i64 (k : Nat) ∧ PR w2.heap.size w2 wr T w3.heap.size w5.heap.size s s (50 * k) X R ∧ Inv l0 s ∧ s.sz ≤ k) (fun i _ => m - (intOf i).toNat)
    case atStart => exact ⟨0, _, X0, R0, Nat.zero_le _, rfl, HPR.out, HI.out, Nat.le_refl _⟩
    case round =>
      obtain ⟨k, s, X, R, hk, rfl, hp, hi, hsz⟩ := hrel
      by_cases hlt : k < m
      · obtain ⟨a, pb, po, ps, ad, ha, hmem, hok, rfl, hP, a0, a1, a2, a3, a4⟩ := acts_at (HA.out.below HB1.out) hp.bl hlt Hm.out
        have hkz : (k : Int) < (m : Int) := by omega
        have Hp := hidden hp
        have Hi := hidden hi
        obtain ⟨ho, hn⟩ := Hall.out a hmem
        clear hp hi ha hmem
        go_wp2_with fail
        refine (does_any Hp.out Hi.out (by omega) (by omega) a hok ho hn).mono ?_
        rintro q w6 ⟨s', X', R', rfl, hp5, hi5, hz5⟩
        have Hp5 := hidden hp5
        have Hi5 := hidden hi5
        clear hp5 hi5 a0 a1 a2 a3 a4
        go_wp2_with fail
        refine (same_pr Hp5.out Hi5.out (by omega) (by omega)).mono ?_
        rintro q w7 ⟨rfl, hg7⟩
        have Hp7 := hidden (Hp5.out.grown hg7)
        clear hg7
        go_wp2
        go_roundw
        case rel => exact ⟨k + 1, s', X', R', by omega, by go_num, Hp7.out.more (by omega), Hi5.out, by omega⟩
        case measure => simp [intOf]; omega
      · have hkz : ¬ ((k : Int) < (m : Int)) := by omega
        have Hb := hidden (HB1.out.trans (hp.bl.mono HB1.out.size))
        clear hp hi
        go_wp2
        go_ret
        exact ⟨rfl, Hb.out⟩

set_option maxRecDepth 100000 in
theorem lifted (os : Os) (started : os.Started) (H : Type) (enc : TypeId × Value → H) :
    ReturnsInHanded {} Try.checked os 5 .any (Rows.pastActsSpec.pre6 enc Try.prog Try.f5 Rows.pastActsRow.domain false) (Rows.pastActsSpec.post enc Try.prog Try.f5 false true false false) := by
  refine returnsInHanded_of_change (C := Try.checked) own started (by kernel_rfl) Try.func5
    (ChangeSpec.witness6 (enc := enc) (C := Try.checked) false ⟨#[], #[.slice none 0 0, .slice none 0 0], []⟩ 8 (by kernel_rfl) (by kernel_rfl) (by kernel_rfl) (by kernel_rfl)) ?_
  intro W base args ds gs before hval0 hW _ _
  have hval : ∀ (j : Nat) t v, Try.f5.params[j]? = some t → args[j]? = some v → Value.okWide Try.prog W .any base t v := hval0
  have hW' := hW
  obtain ⟨p, q, hA0, hV, rfl, _, _⟩ := hW
  have hA : DataW.TrodAll enc Try.prog W 0 (fun _ => true) true Try.f5.params.toList args.toList ds p := hA0
  rw [Try.params5] at hA hval
  obtain ⟨v0, vs0, d0, ds0, p0, q0, hargs, rfl, rfl, h0, r0⟩ := trodAll_cons hA
  obtain ⟨v1, vs1, d1, ds1, p1, q1, rfl, rfl, rfl, h1, r1⟩ := trodAll_cons r0
  obtain ⟨rfl, rfl, rfl⟩ := trodAll_nil r1
  obtain rfl : args = #[v0, v1] := by cases args; simp_all
  obtain ⟨rfl, rfl⟩ := trodVars_none hV
  have lt0 : ∀ x ∈ p0, x.block < W.heap.size := by obtain ⟨m, hm⟩ := h0; exact DataW.trod_lt m _ _ _ hm
  obtain ⟨n0, f0, g0⟩ := open_src (hval 0 22 v0 rfl rfl) h0
  have lt1 : ∀ x ∈ p1, x.block < W.heap.size := by obtain ⟨m, hm⟩ := h1; exact DataW.trod_lt m _ _ _ hm
  obtain ⟨f1, g1⟩ := open_acts (hval 1 42 v1 rfl rfl) h1
  clear hA0 hval0
  simp only [List.append_nil] at hW'
  refine (law v0 n0 f0 v1 f1 W g0 g1).mono fun e W' ⟨he, bel⟩ => ?_
  subst he
  exact ⟨_, rfl, _, _, _, [], _, [], hW', trodAll_mk1 (shut_bool Try.underlying4 _), (trodAll_cons_mk (Below.trod laidOut (by kernel_rfl) (of_decide_eq_true (by kernel_rfl)) h0 bel lt0) (trodAll_cons_mk (Below.trod laidOut (by kernel_rfl) (of_decide_eq_true (by kernel_rfl)) h1 bel lt1) trodAll_mk0)), rfl, bel.frame _, fun h => by cases h⟩

theorem said : Rows.PastActsSaid :=
  OpenClaim.holds_of_wide 5 Try.f5 rfl rfl rfl rfl rfl rfl rfl ⟨rfl, rfl, rfl, rfl, rfl⟩ rfl rfl rfl rfl rfl (by kernel_rfl) Try.func5 (by kernel_rfl)
    (of_decide_eq_true (by kernel_rfl)) (by unfold Func.isWrapper; first | (rw [if_pos (by decide +kernel)]; kernel_rfl) | (rw [if_neg (by decide +kernel)]; exact ⟨rfl, rfl⟩))
    (fun os started H enc _ => lifted os started H enc)
#print axioms said
end Go.Proofs.Ytibdhahkkejnjaa.PastActs
