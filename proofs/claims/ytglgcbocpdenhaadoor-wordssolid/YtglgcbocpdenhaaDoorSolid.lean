/- WordsSolid is true of any bytes: the pieces without blanks and line ends, with the blanks and line ends, are as many bytes as the text has; and they are the document's. No condition but the card's own: Go's two tables of unicode/utf8 hold what the library's text lays. -/
import Derived.Test.YtglgcbocpdenhaaDoorArgs
import Derived.Test.YtglgcbocpdenhaaDoorWdI
import Derived.Test.YtglgcbocpdenhaaDoorCards
import Derived.Test.YtglgcbocpdenhaaDoorTie
namespace Go.Proofs.YtglgcbocpdenhaaDoor.Solid
open Go.ChangeShapes Go.WideShapes Go.ChangeAt Go.ChangeMaps Go.RowKit Go.Proofs.PlatenGlyph Go.Proofs.PlatenWords
set_option linter.unusedVariables false

set_option maxHeartbeats 400000 in
theorem long (v : Value) (n : Nat) (f : Nat → Nat) (w : World) (hv : IsArg w v n f) (hn : 300 < n) (hT : Lib.Utf8Tabs 0 1 w) :
    Calls Tryd.prog 5 #[v] w fun e w' => e = .returned (.bool true) ∧ Below w.heap.size w w' := by
  have cs := ex_any w hT
  have HT := hidden hT
  obtain ⟨ea, cap, rfl⟩ := hv.val
  have hnz : 300 < (n : Int) := by omega
  clear hT hv
  go_enter Tryd.func5, Tryd.ntmps5
  go_wp2_with fail
  refine cs.mono ?_
  rintro e w1 ⟨rfl, hb⟩
  have cs2 := ex_any w1 (tabs_below HT.out hb)
  go_wp2_with fail
  refine cs2.mono ?_
  rintro e w2 ⟨rfl, hb2⟩
  go_wp2
  go_ret
  exact ⟨rfl, hb.trans (hb2.mono hb.size)⟩

set_option maxRecDepth 20000 in
set_option maxHeartbeats 4000000 in
theorem law (v : Value) (n : Nat) (f : Nat → Nat) (w : World) (hv : IsArg w v n f) (hT : Lib.Utf8Tabs 0 1 w) :
    Calls Tryd.prog 5 #[v] w fun e w' => e = .returned (.bool true) ∧ Below w.heap.size w w' := by
  by_cases hn : 300 < n
  · exact long v n f w hv hn hT
  have cs := ex_any w hT
  have HT := hidden hT
  have HV := hidden (hv.bytes (by omega))
  have hf := HV.out.1
  have hnz : ¬ (300 < (n : Int)) := by omega
  obtain ⟨ea, cap, rfl⟩ := hv.val
  clear hT hv
  go_enter Tryd.func5, Tryd.ntmps5
  go_wp2_with fail
  refine cs.mono ?_
  rintro e w1 ⟨rfl, hb⟩
  have V1 := hidden (HV.out.below hb)
  have B1 := hidden hb
  clear cs hb HV
  have c1 := solid_any _ n f w1 hf (by omega) (Row.of V1.out)
  have hml := sol_len f n
  have Hsum := hidden (sum_ns f n)
  have HR : Hid (∀ w2, Row w2 (.slice ea n cap) n f → Calls Tryd.prog 18 #[.slice ea n cap] w2 fun e w' => ∃ l, e = .returned l ∧ IsSp w' l (sol f n) ∧ Below w2.heap.size w2 w') := fun w2 h => rsolid_any _ n f w2 hf (by omega) h
  generalize sol f n = R at *
  have hml2 : R.length ≤ 300 := by omega
  clear hml
  go_wp2_with fail
  refine c1.mono ?_
  rintro e w2 ⟨rv, rfl, hsp, hb2⟩
  have HSp := hidden hsp
  obtain ⟨ra, rcap, rfl, hrow⟩ := hsp
  have Hrow := hidden hrow
  have B2 := hidden (B1.out.trans (hb2.mono B1.out.size))
  have V2 := hidden (V1.out.below hb2)
  obtain ⟨ea', cap', hva, hvrow⟩ := Row.of V2.out
  injection hva with hva1 hva2 hva3
  subst hva1
  subst hva3
  have HVrow := hidden hvrow
  clear hb2 c1 hrow hva2 hvrow V1 B1
  go_wp2
  go_loop [4, 5] (fun c i => ∃ k : Nat, k ≤ R.length ∧ i = .int .i64 (k : Nat) ∧ c = .int .i64 (sumN (R.take k) : Nat)) (fun _ i => R.length - (intOf i).toNat)
  case atStart => exact ⟨0, Nat.zero_le _, rfl, rfl⟩
  case round =>
    obtain ⟨k, hk, rfl, rfl⟩ := hrel
    by_cases hlt : k < R.length
    · obtain ⟨g, rfl, hrc, hcells⟩ := Hrow.out (by omega)
      obtain ⟨-, c2⟩ := hcells k hlt
      have Hs := hidden (sumN_take_succ (l := R) hlt)
      have h1 := sumN_take_le R (k + 1)
      have hsn := Hsum.out
      have hlz : (k : Int) < (R.length : Int) := by omega
      have hbig : sumN (R.take k) + (R.getD k (0, 0)).2 ≤ 300 := by rw [← Hs.out]; omega
      clear hcells h1 hsn
      generalize (R.getD k (0, 0)).2 = m at *
      generalize hcc : sumN (R.take k) = c at *
      clear hcc
      go_wp2
      go_round
      case rel => exact ⟨k + 1, by omega, by go_num, by rw [Hs.out]; go_num⟩
      case measure => simp [intOf]; omega
    · have hlz : ¬ ((k : Int) < (R.length : Int)) := by omega
      rw [List.take_of_length_le (by omega)]
      have hkk : k = R.length := by omega
      obtain ⟨s0, hs0⟩ : ∃ s0, sumN R = s0 := ⟨_, rfl⟩
      rw [hs0] at Hsum ⊢
      have Hs0 := hidden Hsum.out
      clear hs0 hkk
      go_wp2
      clear hlz
      go_loop [4, 6] (fun c i => ∃ j : Nat, j ≤ n ∧ i = .int .i64 (j : Nat) ∧ c = .int .i64 ((s0 + ns f j : Nat) : Int)) (fun _ i => n - (intOf i).toNat)
      case atStart => exact ⟨0, Nat.zero_le _, rfl, by simp [ns]⟩
      case round =>
        obtain ⟨j, hj, rfl, rfl⟩ := hrel
        have hnj := ns_le f j
        have hs0n : s0 ≤ 300 := by have := Hs0.out; omega
        by_cases hjn : j < n
        · obtain ⟨b, off, rfl, hcap, hc⟩ := HVrow.out (by omega)
          have g0 := hc j hjn
          have x0 := hf j
          have hjz : (j : Int) < (n : Int) := by omega
          have cc := class_any (f j) w2 x0
          have l0 := cls_le (f j)
          cases hs : sld (f j) with
          | true =>
            have hge : ¬ (((cls (f j) : Nat) : Int) ≤ 1) := by have := sld_iff.1 hs; omega
            have Hn : Hid (ns f (j + 1) = ns f j) := by unfold Hid; rw [ns, if_pos hs]; rfl
            clear hs hc
            generalize f j = y at *
            generalize ns f j = c at *
            go_wp2_with fail
            refine cc.mono ?_
            rintro e w3 ⟨rfl, rfl⟩
            clear cc g0
            go_wp2
            go_round
            case rel => exact ⟨j + 1, by omega, by go_num, by rw [Hn.out]; go_num⟩
            case measure => simp [intOf]; omega
          | false =>
            have hge : (((cls (f j) : Nat) : Int) ≤ 1) := by have := sld_no.1 hs; omega
            have Hn : Hid (ns f (j + 1) = ns f j + 1) := by unfold Hid; rw [ns, if_neg (by rw [hs]; decide)]
            clear hs hc
            generalize f j = y at *
            generalize ns f j = c at *
            go_wp2_with fail
            refine cc.mono ?_
            rintro e w3 ⟨rfl, rfl⟩
            clear cc g0
            go_wp2
            go_round
            case rel => exact ⟨j + 1, by omega, by go_num, by rw [Hn.out]; go_num⟩
            case measure => simp [intOf]; omega
        · have hjz : ¬ ((j : Int) < (n : Int)) := by omega
          have hje : j = n := by omega
          rw [hje, Hs0.out]
          rw [hje] at hjz
          clear hje hnj hj
          have cr := HR.out w2 (Row.of V2.out)
          go_wp2_with fail
          refine cr.mono ?_
          rintro e w4 ⟨rv4, rfl, hsp4, hb4⟩
          have cs4 := same_any _ _ R w4 (by omega) (HSp.out.below hb4) hsp4
          have B4 := hidden (B2.out.trans (hb4.mono B2.out.size))
          clear cr hsp4 hb4
          go_wp2_with fail
          refine cs4.mono ?_
          rintro e w5 ⟨rfl, hb5⟩
          have B5 := hidden (B4.out.trans (hb5.mono B4.out.size))
          clear cs4 hb5
          go_wp2
          go_ret
          exact ⟨rfl, B5.out⟩

set_option maxRecDepth 100000 in
theorem lifted (os : Os) (started : os.Started) (H : Type) (enc : TypeId × Value → H) :
    ReturnsInHanded {} Tryd.checked os 5 .any (fun w args => (Rows.wordsSolidSpec.pre enc Tryd.prog Tryd.f5 [] false w args ∧ laidMetH Tryd.prog laid w) ∧ sizedMet enc Tryd.prog Tryd.f5 (OpenSpec.ofChange Rows.wordsSolidSpec) false w args)
      (Rows.wordsSolidSpec.post enc Tryd.prog Tryd.f5 false true false false) := by
  refine returnsInHanded_of_change_and (C := Tryd.checked) (X := fun w _ => laidMetH Tryd.prog laid w) (fun _ _ _ hh h => h.of_heap hh) own started (by kernel_rfl) Tryd.func5
    (ChangeSpec.witness_shaped (enc := enc) (C := Tryd.checked) (os := os) (X := fun w _ => laidMetH Tryd.prog laid w) false (World.laidAll Tryd.prog os laid) #[.slice none 0 0] 8 (World.laidAll_os _ _ _)
      (World.shaped_of_ZipB (by kernel_rfl) (by kernel_rfl)) (by kernel_rfl) (by kernel_rfl) (by kernel_rfl) (laid_world os _)) ?_
  intro W base args ds gs before hval0 hW _ _ hL _
  have hval : ∀ (j : Nat) t v, Tryd.f5.params[j]? = some t → args[j]? = some v → Value.okWide Tryd.prog W .any base t v := hval0
  have hW' := hW
  obtain ⟨p, q, hA0, hV, rfl, _, _⟩ := hW
  have hA : DataW.TrodAll enc Tryd.prog W 0 (fun _ => true) true Tryd.f5.params.toList args.toList ds p := hA0
  rw [Tryd.params5] at hA hval
  obtain ⟨v0, vs0, d0, ds0, p0, q0, hargs, rfl, rfl, h0, r0⟩ := trodAll_cons hA
  obtain ⟨rfl, rfl, rfl⟩ := trodAll_nil r0
  obtain rfl : args = #[v0] := by cases args; simp_all
  obtain ⟨rfl, rfl⟩ := trodVars_none hV
  have lt0 : ∀ x ∈ p0, x.block < W.heap.size := by obtain ⟨m, hm⟩ := h0; exact DataW.trod_lt m _ _ _ hm
  obtain ⟨n0, f0, g0⟩ := open_bytes (hval 0 25 v0 rfl rfl) h0
  clear hA0 hval0
  simp only [List.append_nil] at hW'
  refine (law v0 n0 f0 W g0 (tabs_of_laid hL)).mono fun e W' ⟨he, bel⟩ => ?_
  subst he
  exact ⟨_, rfl, _, _, _, [], _, [], hW', trodAll_mk1 (shut_bool Tryd.underlying4 _), (trodAll_cons_mk (Below.trod laidOut (by kernel_rfl) (of_decide_eq_true (by kernel_rfl)) h0 bel lt0) trodAll_mk0), rfl, bel.frame _, fun h => by cases h⟩

theorem said : Rows.WordsSolidSaid :=
  OpenClaim.holds_of_wide 5 Tryd.f5 rfl rfl rfl rfl rfl rfl rfl ⟨rfl, rfl, rfl, rfl, rfl⟩ rfl rfl rfl rfl rfl (by kernel_rfl) Tryd.func5 (by kernel_rfl)
    (of_decide_eq_true (by kernel_rfl)) (by unfold Func.isWrapper; first | (rw [if_pos (by decide +kernel)]; kernel_rfl) | (rw [if_neg (by decide +kernel)]; exact ⟨rfl, rfl⟩))
    (fun os started H enc _ => lifted os started H enc)

theorem plain (f : FuncId) (fn : Func) (hf : Tryd.pinned.checked.prog.funcNamed Tryd.f5.name = some f) (hfn : Tryd.pinned.checked.prog.funcs[f]? = some fn) :
    false = Tryd.pinned.checked.prog.looks [] ∧ ∀ (j : Nat) t, fn.params[j]? = some t → Tryd.pinned.checked.prog.wantsStandIn t = false := by
  obtain rfl : f = 5 := Option.some.inj ((show Tryd.prog.funcNamed Tryd.f5.name = some 5 by kernel_rfl).symm.trans hf) |>.symm
  obtain rfl : fn = Tryd.f5 := (Option.some.inj (Tryd.func5.symm.trans hfn)).symm
  refine ⟨by kernel_rfl, fun j t ht => ?_⟩
  rw [Tryd.params5] at ht
  have hm : t ∈ [25] := by simpa using Array.mem_of_getElem? ht
  have hall : ([25].all fun u => !Tryd.prog.wantsStandIn u) = true := by kernel_rfl
  exact (show Tryd.prog.wantsStandIn t = false from Bool.not_eq_true' _ |>.mp (List.all_eq_true.1 hall t hm))

theorem card : Rows.WordsSolidCardSaid :=
  Claim7.holds_tied_plain_at .later [] _ _ _ _ said (fun _ h => by cases h) (by kernel_rfl) (fun _ h => by cases h) wordsSolid_row_tie rfl ⟨rfl, rfl⟩ (by kernel_rfl) rfl plain (by kernel_rfl)
#print axioms card
end Go.Proofs.YtglgcbocpdenhaaDoor.Solid
