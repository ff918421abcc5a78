/- GlyphFloors is true of any bytes and any place: the program's Floor is the document's, and there it stays. No condition but the card's own: Go's two tables of unicode/utf8 hold what the library's text lays. -/
import Derived.Test.YtlceplcjjhliaaaDoorArgs
import Derived.Test.YtlceplcjjhliaaaDoorCallsH
import Derived.Test.YtlceplcjjhliaaaDoorCards
import Derived.Test.YtlceplcjjhliaaaDoorTie
namespace Go.Proofs.YtlceplcjjhliaaaDoor.Floors
open Go.ChangeShapes Go.WideShapes Go.ChangeAt Go.RowKit Go.Proofs.PlatenGlyph
set_option linter.unusedVariables false

theorem flo_nth {f : Nat → Nat} {n k : Nat} (h : nth f n k < n) : flo f n (nth f n k) = nth f n k := flo_of h (Nat.le_refl _) (nth_lt h)
theorem floor_eq (f : Nat → Nat) (n : Nat) (a : Int) : floorZ f n a = rfloorZ f n a := by
  unfold floorZ rfloorZ
  by_cases h0 : a ≤ 0
  · rw [if_pos h0]
    by_cases h1 : (n : Int) ≤ a
    · rw [if_pos h1]; omega
    · rw [if_neg h1]
      by_cases h2 : a < 0
      · rw [if_pos h2]
      · rw [if_neg h2]
        have : a.toNat = 0 := by omega
        rw [this]
        have := flo_nth (f := f) (n := n) (k := 0) (by show 0 < n; omega)
        have e : flo f n 0 = 0 := this
        rw [e]; rfl
  · rw [if_neg h0]
    by_cases h1 : (n : Int) ≤ a
    · rw [if_pos h1, if_pos h1]
    · rw [if_neg h1, if_neg h1, if_neg (by omega)]
theorem floor_again (f : Nat → Nat) (n : Nat) (a : Int) : floorZ f n (floorZ f n a) = floorZ f n a := by
  by_cases h0 : a ≤ 0
  · have : floorZ f n a = 0 := by unfold floorZ; rw [if_pos h0]
    rw [this]; unfold floorZ; rw [if_pos (by omega)]
  by_cases h1 : (n : Int) ≤ a
  · have : floorZ f n a = n := by unfold floorZ; rw [if_neg h0, if_pos h1]
    rw [this]; unfold floorZ
    by_cases h : (n : Int) ≤ 0
    · rw [if_pos h]; omega
    · rw [if_neg h, if_pos (by omega)]
  · have : floorZ f n a = (flo f n a.toNat : Nat) := by unfold floorZ; rw [if_neg h0, if_neg h1]
    obtain ⟨k, g1, g2⟩ := nth_cover f n a.toNat (by omega)
    have e := flo_of (f := f) (n := n) (i := a.toNat) (by omega) g1 g2
    rw [this, e]
    unfold floorZ
    by_cases h : ((nth f n k : Nat) : Int) ≤ 0
    · rw [if_pos h]; omega
    · rw [if_neg h, if_neg (by omega), Int.toNat_natCast, flo_nth (by omega)]

set_option maxHeartbeats 400000 in
theorem long (v : Value) (n : Nat) (f : Nat → Nat) (a : Int) (w : World) (hv : IsArg w v n f) (hn : 300 < n) (hT : Lib.Utf8Tabs 0 1 w) :
    Calls Tryd.prog 5 #[v, .int .i64 a] w fun e w' => e = .returned (.bool true) ∧ Below w.heap.size w w' := by
  have cs := signs_any w hT
  have HT := hidden hT
  obtain ⟨ea, cap, rfl⟩ := hv.val
  have hnz : 300 < (n : Int) := by omega
  clear hT hv
  go_enter Tryd.func5, Tryd.ntmps5
  go_wp2_with fail
  refine cs.mono ?_
  rintro e w1 ⟨rfl, hb⟩
  have cs2 := signs_any w1 (tabs_below HT.out hb)
  go_wp2_with fail
  refine cs2.mono ?_
  rintro e w2 ⟨rfl, hb2⟩
  go_wp2
  go_ret
  exact ⟨rfl, hb.trans (hb2.mono hb.size)⟩

set_option maxHeartbeats 400000 in
theorem law (v : Value) (n : Nat) (f : Nat → Nat) (a : Int) (w : World) (hv : IsArg w v n f) (ha : -9223372036854775808 ≤ a ∧ a ≤ 9223372036854775807) (hT : Lib.Utf8Tabs 0 1 w) :
    Calls Tryd.prog 5 #[v, .int .i64 a] w fun e w' => e = .returned (.bool true) ∧ Below w.heap.size w w' := by
  by_cases hn : 300 < n
  · exact long v n f a w hv hn hT
  have cs := signs_any w hT
  have HT := hidden hT
  have HV := hidden (hv.bytes (by omega))
  have hnz : ¬ (300 < (n : Int)) := by omega
  have e1 := floor_eq f n a
  have e2 := floor_again f n a
  obtain ⟨ea, cap, rfl⟩ := hv.val
  have HE1 := hidden e1
  have HE2 := hidden e2
  clear hT hv e1 e2
  go_enter Tryd.func5, Tryd.ntmps5
  go_wp2_with fail
  refine cs.mono ?_
  rintro e w1 ⟨rfl, hb⟩
  have v1 := HV.out.below hb
  have T1 := tabs_below HT.out hb
  have c1 := floor_any _ f n a w1 T1 v1
  have V1 := hidden v1
  have HT1 := hidden T1
  clear v1 T1 cs
  go_wp2_with fail
  refine c1.mono ?_
  rintro e w2 ⟨rfl, hb2⟩
  have c2 := rfloor_any _ f n a w2 (by omega) (V1.out.below hb2)
  rw [← HE1.out] at c2
  go_wp2_with fail
  refine c2.mono ?_
  rintro e w3 ⟨rfl, hb3⟩
  have c3 := floor_any _ f n (floorZ f n a) w3 (tabs_below (tabs_below HT1.out hb2) hb3) ((V1.out.below hb2).below hb3)
  rw [HE2.out] at c3
  have Hb : Hid (Below w.heap.size w w3) := (hb.trans (hb2.mono hb.size)).trans (hb3.mono (Nat.le_trans hb.size hb2.size))
  have hz3 : w.heap.size ≤ w3.heap.size := Nat.le_trans hb.size (Nat.le_trans hb2.size hb3.size)
  clear c1 c2 hb hb2 hb3 HE1 HE2
  generalize floorZ f n a = r at *
  go_wp2_with fail
  refine c3.mono ?_
  rintro e w4 ⟨rfl, hb4⟩
  go_wp2
  go_ret
  exact ⟨rfl, Hb.out.trans (hb4.mono hz3)⟩

set_option maxRecDepth 100000 in
theorem lifted (os : Os) (started : os.Started) (H : Type) (enc : TypeId × Value → H) :
    ReturnsInHanded {} Tryd.checked os 5 .any (fun w args => (Rows.glyphFloorsSpec.pre enc Tryd.prog Tryd.f5 [] false w args ∧ laidMetH Tryd.prog laid w) ∧ sizedMet enc Tryd.prog Tryd.f5 (OpenSpec.ofChange Rows.glyphFloorsSpec) false w args)
      (Rows.glyphFloorsSpec.post enc Tryd.prog Tryd.f5 false true false false) := by
  refine returnsInHanded_of_change_and (C := Tryd.checked) (X := fun w _ => laidMetH Tryd.prog laid w) (fun _ _ _ hh h => h.of_heap hh) own started (by kernel_rfl) Tryd.func5
    (ChangeSpec.witness_shaped (enc := enc) (C := Tryd.checked) (os := os) (X := fun w _ => laidMetH Tryd.prog laid w) false (World.laidAll Tryd.prog os laid) #[.slice none 0 0, .int .i64 0] 8 (World.laidAll_os _ _ _)
      (World.shaped_of_ZipB (by kernel_rfl) (by kernel_rfl)) (by kernel_rfl) (by kernel_rfl) (by kernel_rfl) (laid_world os _)) ?_
  intro W base args ds gs before hval0 hW _ _ hL _
  have hval : ∀ (j : Nat) t v, Tryd.f5.params[j]? = some t → args[j]? = some v → Value.okWide Tryd.prog W .any base t v := hval0
  have hW' := hW
  obtain ⟨p, q, hA0, hV, rfl, _, _⟩ := hW
  have hA : DataW.TrodAll enc Tryd.prog W 0 (fun _ => true) true Tryd.f5.params.toList args.toList ds p := hA0
  rw [Tryd.params5] at hA hval
  obtain ⟨v0, vs0, d0, ds0, p0, q0, hargs, rfl, rfl, h0, r0⟩ := trodAll_cons hA
  obtain ⟨v1, vs1, d1, ds1, p1, q1, rfl, rfl, rfl, h1, r1⟩ := trodAll_cons r0
  obtain ⟨rfl, rfl, rfl⟩ := trodAll_nil r1
  obtain rfl : args = #[v0, v1] := by cases args; simp_all
  obtain ⟨rfl, rfl⟩ := trodVars_none hV
  have lt0 : ∀ x ∈ p0, x.block < W.heap.size := by obtain ⟨m, hm⟩ := h0; exact DataW.trod_lt m _ _ _ hm
  obtain ⟨n0, f0, g0⟩ := open_bytes (hval 0 22 v0 rfl rfl) h0
  obtain ⟨x1, rfl, rfl, rfl, w1⟩ := open_int Tryd.underlying3 (hval 1 3 v1 rfl rfl) h1
  have b1 : -9223372036854775808 ≤ x1 ∧ x1 ≤ 9223372036854775807 := by simpa [Lit.wf, IntKind.min, IntKind.max, IntKind.signed, IntKind.bits] using w1
  clear hA0 hval0
  simp only [List.append_nil] at hW'
  refine (law v0 n0 f0 x1 W g0 b1 (tabs_of_laid hL)).mono fun e W' ⟨he, bel⟩ => ?_
  subst he
  exact ⟨_, rfl, _, _, _, [], _, [], hW', trodAll_mk1 (shut_bool Tryd.underlying4 _), (trodAll_cons_mk (Below.trod laidOut (by kernel_rfl) (of_decide_eq_true (by kernel_rfl)) h0 bel lt0) (trodAll_cons_mk (shut_int Tryd.underlying3 w1) trodAll_mk0)), rfl, bel.frame _, fun h => by cases h⟩

theorem said : Rows.GlyphFloorsSaid :=
  OpenClaim.holds_of_wide 5 Tryd.f5 rfl rfl rfl rfl rfl rfl rfl ⟨rfl, rfl, rfl, rfl, rfl⟩ rfl rfl rfl rfl rfl (by kernel_rfl) Tryd.func5 (by kernel_rfl)
    (of_decide_eq_true (by kernel_rfl)) (by unfold Func.isWrapper; first | (rw [if_pos (by decide +kernel)]; kernel_rfl) | (rw [if_neg (by decide +kernel)]; exact ⟨rfl, rfl⟩))
    (fun os started H enc _ => lifted os started H enc)

theorem plain (f : FuncId) (fn : Func) (hf : Tryd.pinned.checked.prog.funcNamed Tryd.f5.name = some f) (hfn : Tryd.pinned.checked.prog.funcs[f]? = some fn) :
    false = Tryd.pinned.checked.prog.looks [] ∧ ∀ (j : Nat) t, fn.params[j]? = some t → Tryd.pinned.checked.prog.wantsStandIn t = false := by
  obtain rfl : f = 5 := Option.some.inj ((show Tryd.prog.funcNamed Tryd.f5.name = some 5 by kernel_rfl).symm.trans hf) |>.symm
  obtain rfl : fn = Tryd.f5 := (Option.some.inj (Tryd.func5.symm.trans hfn)).symm
  refine ⟨by kernel_rfl, fun j t ht => ?_⟩
  rw [Tryd.params5] at ht
  have hm : t ∈ [22, 3] := by simpa using Array.mem_of_getElem? ht
  have hall : ([22, 3].all fun u => !Tryd.prog.wantsStandIn u) = true := by kernel_rfl
  exact (show Tryd.prog.wantsStandIn t = false from Bool.not_eq_true' _ |>.mp (List.all_eq_true.1 hall t hm))

theorem card : Rows.GlyphFloorsCardSaid :=
  Claim7.holds_tied_plain_at .later [] _ _ _ _ said (fun _ h => by cases h) (by kernel_rfl) (fun _ h => by cases h) glyphFloors_row_tie rfl ⟨rfl, rfl⟩ (by kernel_rfl) rfl plain (by kernel_rfl)
#print axioms card
end Go.Proofs.YtlceplcjjhliaaaDoor.Floors
