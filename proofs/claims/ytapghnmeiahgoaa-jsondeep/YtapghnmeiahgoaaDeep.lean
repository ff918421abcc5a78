/- Lists and objects in one another, so many. -/
import Derived.Test.YtapghnmeiahgoaaDp
namespace Go.Proofs.Ytapghnmeiahgoaa.Deep
open Go.ChangeShapes Go.WideShapes Go.ChangeAt Go.RowKit Go.Proofs.PlatenJson
set_option linter.unusedVariables false
set_option maxRecDepth 100000

set_option maxHeartbeats 8000000 in
theorem law (c0 c1 c2 : Nat) (w : World) (h0 : c0 ≤ 65535) (h1 : c1 ≤ 255) (h2 : c2 ≤ 255) :
    Calls Try.prog 5 #[.int .u16 (c0 : Nat), .int .u8 (c1 : Nat), .int .u8 (c2 : Nat)] w fun e w' => e = .returned (.bool true) ∧ Below w.heap.size w w' := by
  go_enter Try.func5, Try.ntmps5
  go_wp2_with fail
  refine (lists_any w).mono ?_
  rintro e w1 ⟨rfl, hb1⟩
  have B1 := hidden hb1
  clear hb1
  go_wp2_with fail
  have e0 : ((c0 : Nat) : Int) % 600 = ((c0 % 600 : Nat) : Int) := by omega
  rw [e0]
  have hd : c0 % 600 ≤ 599 := by omega
  generalize c0 % 600 = d at *
  clear e0
  go_loopw [7, 8, 10] (fun p q i wr => ∃ (bs : List Bool) (k : Nat), bs.length = k ∧ k ≤ d ∧ i = .int .i64 (k : Nat) ∧ Two w1.heap.size w1 wr p q (OL bs) (bs.map bk)) (fun _ _ i _ => d - (intOf i).toNat)
  case atStart => exact ⟨[], 0, rfl, Nat.zero_le _, rfl, World.ownsRow_nil _ _ _ _, World.ownsRow_nil _ _ _ _, (fun g e => by cases e), Below.refl _ _, Nat.le_refl _⟩
  case round =>
    obtain ⟨bs, k, hbk, hk, rfl, htwo⟩ := hrel
    by_cases hlt : k < d
    · have hlz : (k : Int) < (d : Int) := by omega
      have Hl1 : Hid ((OL bs).length + 4 ≤ 100000 ∧ (OL bs).length + 1 ≤ 100000) := by unfold Hid; have := OL_len bs; omega
      have Hl2 : Hid ((bs.map bk).length + 1 ≤ 100000) := by unfold Hid; rw [List.length_map]; omega
      have HO : Hid (∀ b, OL (bs ++ [b]) = OL bs ++ op b ∧ (bs ++ [b]).map bk = bs.map bk ++ [bk b] ∧ (bs ++ [b]).length = k + 1) := fun b => ⟨OL_snoc bs b, by simp, by simp [hbk]⟩
      generalize hL : OL bs = L at *
      generalize hM : bs.map bk = M at *
      cases hq : (bits BinOp.and IntKind.u8 ((c1 : Nat) : Int) ((2 : Int) ^ (k % 8) % 256) != 0) with
      | true =>
        go_wp2_with (at_builtin; refine app_two rfl _ _ rfl w1.heap.size w1 _ _ L M [123, 34, 34, 58] #[.int .u8 123, .int .u8 34, .int .u8 34, .int .u8 58] rfl htwo rfl 4 rfl (by decide) Hl1.out.1 ?_)
        intro v' w2 ht2
        go_wp2_with (at_builtin; refine app_two rfl _ _ rfl w1.heap.size w1 _ _ M (L ++ [123, 34, 34, 58]) [125] #[.int .u8 125] rfl ht2.swap rfl 1 rfl (by decide) Hl2.out ?_)
        intro v2 w3 ht3
        have ht4 : Two w1.heap.size w1 w3 v' v2 (OL (bs ++ [true])) ((bs ++ [true]).map bk) := by rw [(HO.out true).1, (HO.out true).2.1]; exact ht3.swap
        have Ht4 := hidden ht4
        clear ht4 ht3 ht2 htwo
        go_wp2
        go_roundw
        case rel => exact ⟨bs ++ [true], k + 1, (HO.out true).2.2, by omega, by go_num, Ht4.out⟩
        case measure => simp [intOf]; omega
      | false =>
        go_wp2_with (at_builtin; refine app_two rfl _ _ rfl w1.heap.size w1 _ _ L M [91] #[.int .u8 91] rfl htwo rfl 1 rfl (by decide) Hl1.out.2 ?_)
        intro v' w2 ht2
        go_wp2_with (at_builtin; refine app_two rfl _ _ rfl w1.heap.size w1 _ _ M (L ++ [91]) [93] #[.int .u8 93] rfl ht2.swap rfl 1 rfl (by decide) Hl2.out ?_)
        intro v2 w3 ht3
        have ht4 : Two w1.heap.size w1 w3 v' v2 (OL (bs ++ [false])) ((bs ++ [false]).map bk) := by rw [(HO.out false).1, (HO.out false).2.1]; exact ht3.swap
        have Ht4 := hidden ht4
        clear ht4 ht3 ht2 htwo
        go_wp2
        go_roundw
        case rel => exact ⟨bs ++ [false], k + 1, (HO.out false).2.2, by omega, by go_num, Ht4.out⟩
        case measure => simp [intOf]; omega
    · obtain rfl : k = d := by omega
      have hlz : ¬ ((k : Int) < (k : Int)) := by omega
      have Hbk := hidden hbk
      obtain ⟨xa, xc, rfl, _⟩ := row_ofL (n := k) (L := bs.map bk) (by rw [List.length_map]; exact hbk.symm) (by have := htwo.2.1; rw [List.length_map, hbk] at this; exact this)
      have Hl1 : Hid ((OL bs).length + 1 ≤ 100000) := by unfold Hid; have := OL_len bs; omega
      have Hll : Hid ((OL bs).length ≤ 4 * k) := by unfold Hid; have := OL_len bs; omega
      have HMl : Hid ((bs.map bk).length = k) := by unfold Hid; rw [List.length_map]; exact hbk
      clear hk hlt hbk
      go_wp2_with (at_builtin; refine app_two rfl _ _ rfl w1.heap.size w1 _ _ (OL bs) (bs.map bk) [48] #[.int .u8 48] rfl htwo rfl 1 rfl (by decide) Hl1.out ?_)
      intro v' w2 ht2
      have ht3 : Two w1.heap.size w1 w2 v' (.slice xa k xc) (PL bs 0) (bs.map bk) := by
        have : PL bs 0 = OL bs ++ [48] := by unfold PL; simp
        rw [this]; exact ht2
      clear ht2 htwo
      go_wp2_with fail
      obtain ⟨s, hs⟩ : ∃ s, s = k - c2 % 3 := ⟨_, rfl⟩
      have hsk : s ≤ k := by omega
      go_loopw [7, 11] (fun p i wr2 => ∃ m : Nat, m ≤ s ∧ i = .int .i64 ((k : Int) - 1 - (m : Nat)) ∧ Two w1.heap.size w1 wr2 p (.slice xa k xc) (PL bs m) (bs.map bk)) (fun _ i _ => (intOf i + 1).toNat)
      case atStart => exact ⟨0, Nat.zero_le _, by simp, ht3⟩
      case round =>
        obtain ⟨m, hm, rfl, htwo⟩ := hrel
        by_cases hlt : m < s
        · have z1 : ((c2 : Nat) : Int) % 3 ≤ (k : Int) - 1 - (m : Nat) := by omega
          have hqs : Hid (PL bs (m + 1) = PL bs m ++ [(bs.map bk).getD (k - 1 - m) 0]) := by unfold Hid; rw [PL_succ bs m (by rw [Hbk.out]; omega), Hbk.out]
          obtain ⟨a', cap', hva, hrow⟩ := row_ofL (n := k) (L := bs.map bk) HMl.out.symm (by have := htwo.2.1; rw [HMl.out] at this; exact this)
          injection hva with e1 e2 e3
          subst e1 e3
          obtain ⟨b, off, rfl, hcap, hc⟩ := hrow (by omega)
          obtain ⟨r, hr⟩ : ∃ r, r = k - 1 - m := ⟨_, rfl⟩
          rw [← hr] at hqs
          have er : (k : Int) - 1 - (m : Nat) = (r : Nat) := by omega
          have er2 : ((r : Nat) : Int) - 1 = (k : Int) - 1 - ((m + 1 : Nat) : Int) := by omega
          have z2 : (r : Int) < (k : Int) := by omega
          have g0 := hc r (by omega)
          rw [show fOf (bs.map bk) r = (bs.map bk).getD r 0 from rfl] at g0
          have Hpl : Hid ((PL bs m).length + 1 ≤ 100000) := by unfold Hid; rw [PL_len _ _ (by rw [Hbk.out]; omega)]; have := Hll.out; omega
          rw [er] at z1 ⊢
          clear er hc hrow e2 hr
          generalize (bs.map bk).getD r 0 = y at *
          generalize hL : PL bs m = L at *
          generalize hM : bs.map bk = M at *
          go_wp2_with (at_builtin; refine app_two rfl _ _ rfl w1.heap.size w1 _ _ L M [y] #[.int .u8 (y : Nat)] rfl htwo rfl 1 rfl (by simp) Hpl.out ?_)
          intro v2 w3 ht4
          have Ht4 := hidden ht4
          clear ht4 htwo
          go_wp2
          go_roundw
          case rel => exact ⟨m + 1, by omega, by first | exact er2 | rw [er2] | go_num, by rw [hqs.out]; exact Ht4.out⟩
          case measure => simp [intOf]; omega
        · obtain rfl : m = s := by omega
          have z1 : ¬ (((c2 : Nat) : Int) % 3 ≤ (k : Int) - 1 - (m : Nat)) := by omega
          have hpl := PL_len bs m (by rw [Hbk.out]; omega)
          have hrow := row_ofL (n := (PL bs m).length) rfl htwo.1
          have HB := hidden htwo.2.2.2.1
          have Hlt := hidden (PL_lt bs m)
          have hN : (PL bs m).length ≤ 5000 := by rw [hpl]; have := Hll.out; omega
          have hDeep : 512 < k → ∃ t, ans (fOf (PL bs m)) (PL bs m).length = ([], t, 6) := fun h => ans_deep bs m (by rw [Hbk.out]; omega) (by rw [Hbk.out]; omega)
          have hLev : k ≤ 512 → (m = k → (ans (fOf (PL bs m)) (PL bs m).length).2.2 = 0) ∧ (m < k → (ans (fOf (PL bs m)) (PL bs m).length).2.2 = 5) := fun h => by
            have := ans_lev bs m (by rw [Hbk.out]; omega) (by rw [Hbk.out]; omega)
            rw [Hbk.out] at this
            exact this
          have Hg : Hid (∀ j, fOf (PL bs m) j < 256) := fOf_lt Hlt.out
          clear htwo hlt hpl
          generalize fOf (PL bs m) = g at *
          generalize (PL bs m).length = N at *
          have Hrow := hidden hrow
          have HN := hidden hN
          obtain ⟨va, vc, rfl, _⟩ := hrow
          have HB1 := hidden (B1.out.trans (HB.out.mono B1.out.size))
          have cr := read_any _ N g _ Hg.out (by have := HN.out; omega) Hrow.out
          have Hlen : Hid ((ans g N).1.length ≤ 1000000) := ans_len g N Hg.out (by have := HN.out; omega)
          go_wp2_with fail
          refine cr.mono ?_
          rintro e w4 ⟨tv, rfl, ht, hb4⟩
          have B4 := hidden (HB1.out.trans (hb4.mono HB1.out.size))
          have cd := rread_any _ N g w4 Hg.out (by have := HN.out; omega) (Hrow.out.below hb4)
          have HT := hidden ht
          clear cr hb4 ht
          go_wp2_with fail
          refine cd.mono ?_
          rintro e w5 ⟨tv2, rfl, ht2, hb5⟩
          have B5 := hidden (B4.out.trans (hb5.mono B4.out.size))
          by_cases hk5 : 512 < k
          · obtain ⟨t, ht⟩ := hDeep hk5
            have zk : (512 : Int) < (k : Int) := by omega
            have ht1 := HT.out
            rw [ht] at ht1
            obtain ⟨aa, ac, rfl, _⟩ := ht1
            clear cd ht2 HT hDeep hLev hb5
            rw [ht]
            go_wp2_with fail
            go_ret
            exact ⟨by simp, B5.out⟩
          · have zk : ¬ ((512 : Int) < (k : Int)) := by omega
            obtain ⟨l1, l2⟩ := hLev (by omega)
            have cs := same_any tv tv2 _ w5 Hlen.out (HT.out.below hb5) ht2
            clear cd hb5 ht2 hDeep hLev
            generalize (ans g N).2.1 = x at *
            generalize (ans g N).2.2 = y at *
            go_wp2_with fail
            refine cs.mono ?_
            rintro e w6 ⟨rfl, hb6⟩
            have B6 := hidden (B5.out.trans (hb6.mono B5.out.size))
            clear cs hb6
            by_cases he : c2 % 3 = 0
            · obtain rfl : y = 0 := l1 (by omega)
              have ze : ((c2 : Nat) : Int) % 3 = 0 := by omega
              clear l1 l2
              by_cases h3 : k < 3
              · have z3 : (k : Int) < 3 := by omega
                go_wp2_with fail
                go_ret
                exact ⟨rfl, B6.out⟩
              · have z3 : ¬ ((k : Int) < 3) := by omega
                go_wp2_with fail
                go_ret
                exact ⟨by simp, B6.out⟩
            · have ze : (((c2 : Nat) : Int) % 3 == 0) = false := by simp; omega
              by_cases h3 : k < 3
              · have z3 : (k : Int) < 3 := by omega
                go_wp2_with fail
                go_ret
                exact ⟨rfl, B6.out⟩
              · obtain rfl : y = 5 := l2 (by omega)
                have z3 : ¬ ((k : Int) < 3) := by omega
                clear l1 l2
                go_wp2_with fail
                go_ret
                exact ⟨by simp, B6.out⟩


set_option maxRecDepth 100000 in
theorem lifted (os : Os) (started : os.Started) (H : Type) (enc : TypeId × Value → H) :
    ReturnsInHanded {} Try.checked os 5 .any (Rows.jsonDeepSpec.pre6 enc Try.prog Try.f5 Rows.jsonDeepRow.domain false) (Rows.jsonDeepSpec.post enc Try.prog Try.f5 false true false false) := by
  refine returnsInHanded_of_change (C := Try.checked) own started (by kernel_rfl) Try.func5
    (ChangeSpec.witness6 (enc := enc) (C := Try.checked) false ⟨#[], #[.int .u16 0, .int .u8 0, .int .u8 0], []⟩ 8 (by kernel_rfl) (by kernel_rfl) (by kernel_rfl) (by kernel_rfl)) ?_
  intro W base args ds gs before hval0 hW _ _
  have hval : ∀ (j : Nat) t v, Try.f5.params[j]? = some t → args[j]? = some v → Value.okWide Try.prog W .any base t v := hval0
  have hW' := hW
  obtain ⟨p, q, hA0, hV, rfl, _, _⟩ := hW
  have hA : DataW.TrodAll enc Try.prog W 0 (fun _ => true) true Try.f5.params.toList args.toList ds p := hA0
  rw [Try.params5] at hA hval
  obtain ⟨v0, vs0, d0, ds0, p0, q0, hargs, rfl, rfl, h0, r0⟩ := trodAll_cons hA
  obtain ⟨v1, vs1, d1, ds1, p1, q1, rfl, rfl, rfl, h1, r1⟩ := trodAll_cons r0
  obtain ⟨v2, vs2, d2, ds2, p2, q2, rfl, rfl, rfl, h2, r2⟩ := trodAll_cons r1
  obtain ⟨rfl, rfl, rfl⟩ := trodAll_nil r2
  obtain rfl : args = #[v0, v1, v2] := by cases args; simp_all
  obtain ⟨rfl, rfl⟩ := trodVars_none hV
  obtain ⟨x0, rfl, rfl, rfl, w0⟩ := open_int Try.underlying30 (hval 0 30 v0 rfl rfl) h0
  have b0 : 0 ≤ x0 ∧ x0 ≤ 65535 := by simpa [Lit.wf, IntKind.min, IntKind.max, IntKind.signed, IntKind.bits] using w0
  obtain ⟨c0, rfl⟩ := Int.eq_ofNat_of_zero_le b0.1
  obtain ⟨x1, rfl, rfl, rfl, w1⟩ := open_int Try.underlying5 (hval 1 5 v1 rfl rfl) h1
  have b1 : 0 ≤ x1 ∧ x1 ≤ 255 := by simpa [Lit.wf, IntKind.min, IntKind.max, IntKind.signed, IntKind.bits] using w1
  obtain ⟨c1, rfl⟩ := Int.eq_ofNat_of_zero_le b1.1
  obtain ⟨x2, rfl, rfl, rfl, w2⟩ := open_int Try.underlying5 (hval 2 5 v2 rfl rfl) h2
  have b2 : 0 ≤ x2 ∧ x2 ≤ 255 := by simpa [Lit.wf, IntKind.min, IntKind.max, IntKind.signed, IntKind.bits] using w2
  obtain ⟨c2, rfl⟩ := Int.eq_ofNat_of_zero_le b2.1
  clear hA0 hval0
  simp only [List.append_nil] at hW'
  refine (law c0 c1 c2 W (by omega) (by omega) (by omega)).mono fun e W' ⟨he, bel⟩ => ?_
  subst he
  exact ⟨_, rfl, _, _, _, [], _, [], hW', trodAll_mk1 (shut_bool Try.underlying4 _), (trodAll_cons_mk (shut_int Try.underlying30 w0) (trodAll_cons_mk (shut_int Try.underlying5 w1) (trodAll_cons_mk (shut_int Try.underlying5 w2) trodAll_mk0))), rfl, bel.frame _, fun h => by cases h⟩

theorem said : Rows.JsonDeepSaid :=
  OpenClaim.holds_of_wide 5 Try.f5 rfl rfl rfl rfl rfl rfl rfl ⟨rfl, rfl, rfl, rfl, rfl⟩ rfl rfl rfl rfl rfl (by kernel_rfl) Try.func5 (by kernel_rfl)
    (of_decide_eq_true (by kernel_rfl)) (by unfold Func.isWrapper; first | (rw [if_pos (by decide +kernel)]; kernel_rfl) | (rw [if_neg (by decide +kernel)]; exact ⟨rfl, rfl⟩))
    (fun os started H enc _ => lifted os started H enc)
#print axioms said
end Go.Proofs.Ytapghnmeiahgoaa.Deep
