/- FigureSigns is true of any number made of digits, a point with digits, an exponent: a - ahead turns just its last bit, the sign's, about; a + changes nothing. No condition but the card's own: the library's tables hold what their texts lay. -/
import Derived.Test.YtgijplljpimbmaaGreatDoorLaid
import Derived.Test.YtgijplljpimbmaaGreatDoorFgXl
import Derived.Test.YtgijplljpimbmaaGreatDoorCards
import Derived.Test.YtgijplljpimbmaaGreatDoorTie
import Derived.OpenShut
import Derived.ChangeOld
namespace Go.Proofs.YtgijplljpimbmaaGreatDoor.Signs
open Go.ChangeShapes Go.WideShapes Go.ChangeAt Go.ChangeMaps Go.RowKit Go.Proofs.PlatenFigure
set_option linter.unusedVariables false

set_option maxRecDepth 20000 in
set_option maxHeartbeats 8000000 in
theorem law (c0 c1 : Nat) (x2 : Int) (w : World) (h0 : c0 < 4294967296) (h1 : c1 < 65536) (h2 : -128 ≤ x2 ∧ x2 ≤ 127) (hL : Lay w) :
    Calls Tryz.prog 9 #[.int .u32 (c0 : Nat), .int .u16 (c1 : Nat), .int .i8 x2] w fun e w' => e = .returned (.bool true) ∧ Below w.heap.size w w' := by
  have cr := reads_any w hL
  have HL := hidden hL
  have b1 := h2.1
  have b2 := h2.2
  clear hL h2
  have i1 := fun (w2 : World) (h : Lay w2) => Tryz.strconv_Itoa (c0 : Int) (by omega) (by omega) w2 h.u10
  have i2 := fun (w2 : World) (h : Lay w2) => Tryz.strconv_Itoa (c1 : Int) (by omega) (by omega) w2 h.u10
  have i3 := fun (w2 : World) (h : Lay w2) => Tryz.strconv_Itoa x2 (by omega) (by omega) w2 h.u10
  have hs : L (((((⟨(Lib.itoa (c0 : Int)).toArray⟩ : ByteArray) ++ ⟨#[46]⟩) ++ ⟨(Lib.itoa (c1 : Int)).toArray⟩) ++ ⟨#[101]⟩) ++ ⟨(Lib.itoa x2).toArray⟩) = sT c0 c1 x2 := by
    rw [L_app, L_app, L_app, L_app]
    unfold sT
    have e1 : Lib.itoa (c0 : Int) = Lib.decDigits c0 := by unfold Lib.itoa; rw [if_neg (by omega)]; rfl
    have e2 : Lib.itoa (c1 : Int) = Lib.decDigits c1 := by unfold Lib.itoa; rw [if_neg (by omega)]; rfl
    rw [e1, e2]
    simp [L]
  obtain ⟨x, y, hx, hy, hxy, ⟨r1, v1⟩, ⟨r2, v2⟩, ⟨r3, v3⟩, hsz⟩ := signs_pf _ c0 c1 x2 hs h0 h1 b1 b2
  generalize (⟨(Lib.itoa (c0 : Int)).toArray⟩ : ByteArray) = A at *
  generalize (⟨(Lib.itoa (c1 : Int)).toArray⟩ : ByteArray) = B at *
  generalize (⟨(Lib.itoa x2).toArray⟩ : ByteArray) = C at *
  have zs := hsz
  simp only [ByteArray.size_append] at zs
  clear hs
  have f1 := fun (w2 : World) (h : Lay w2) => fread_yes _ x w2 h (by omega) r1 v1
  have f2 := fun (w2 : World) (h : Lay w2) => fread_yes _ y w2 h (by rw [ByteArray.size_append]; show 1 + _ ≤ 1000000; omega) r2 v2
  have f3 := fun (w2 : World) (h : Lay w2) => fread_yes _ x w2 h (by rw [ByteArray.size_append]; show 1 + _ ≤ 1000000; omega) r3 v3
  have bx : bits .xor .u64 (x : Int) (y : Int) = 9223372036854775808 := by
    have := bits_xor_nat x y hx hy
    rw [hxy] at this
    exact this
  have gx := fun w2 => fbits x w2
  have gy := fun w2 => fbits y w2
  clear r1 r2 r3 v1 v2 v3 hxy
  go_enter Tryz.func9, Tryz.ntmps9
  go_wp2_with fail
  refine cr.mono ?_
  rintro e w1 ⟨rfl, hb⟩
  have HB := hidden hb
  have i1 := i1 w1 (HL.out.below hb)
  clear hb cr
  go_wp2_with fail
  refine i1.mono ?_
  rintro e w2 ⟨rfl, k, os, hw2⟩
  have HB2 : Hid (Below w.heap.size w w2) := by
    rw [hw2]; exact HB.out.trans ((below_grow k os).mono HB.out.size)
  have i2 := i2 w2 (HL.out.below HB2.out)
  clear hw2 i1
  go_wp2_with fail
  refine i2.mono ?_
  rintro e w3 ⟨rfl, k, os, hw3⟩
  have HB3 : Hid (Below w.heap.size w w3) := by
    rw [hw3]; exact HB2.out.trans ((below_grow k os).mono HB2.out.size)
  have i3 := i3 w3 (HL.out.below HB3.out)
  clear hw3 i2
  go_wp2_with fail
  refine i3.mono ?_
  rintro e w4 ⟨rfl, k, os, hw4⟩
  have HB4 : Hid (Below w.heap.size w w4) := by
    rw [hw4]; exact HB3.out.trans ((below_grow k os).mono HB3.out.size)
  have f1 := f1 w4 (HL.out.below HB4.out)
  clear hw4 i3
  go_wp2_with fail
  refine f1.mono ?_
  rintro e w5 ⟨rfl, hb⟩
  have HB5 := hidden (HB4.out.trans (hb.mono HB4.out.size))
  have f2 := f2 w5 (HL.out.below HB5.out)
  clear hb f1
  go_wp2_with fail
  refine f2.mono ?_
  rintro e w6 ⟨rfl, hb⟩
  have HB6 := hidden (HB5.out.trans (hb.mono HB5.out.size))
  have f3 := f3 w6 (HL.out.below HB6.out)
  clear hb f2
  go_wp2_with fail
  refine f3.mono ?_
  rintro e w7 ⟨rfl, hb⟩
  have HB7 := hidden (HB6.out.trans (hb.mono HB6.out.size))
  clear hb f3
  go_wp2_with fail
  go_ret
  exact ⟨by simp, HB7.out⟩

set_option maxRecDepth 100000 in
theorem lifted (os : Os) (started : os.Started) (H : Type) (enc : TypeId × Value → H) :
    ReturnsInHanded {} Tryz.checked os 9 .any (fun w args => (Rows.figureSignsSpec.pre enc Tryz.prog Tryz.f9 [] false w args ∧ laidMetH Tryz.prog laid w) ∧ sizedMet enc Tryz.prog Tryz.f9 (OpenSpec.ofChange Rows.figureSignsSpec) false w args)
      (Rows.figureSignsSpec.post enc Tryz.prog Tryz.f9 false true false false) := by
  refine returnsInHanded_of_change_and (C := Tryz.checked) (X := fun w _ => laidMetH Tryz.prog laid w) (fun _ _ _ hh h => h.of_heap hh) own started (by kernel_rfl) Tryz.func9
    (ChangeSpec.witness_shaped (enc := enc) (C := Tryz.checked) (os := os) (X := fun w _ => laidMetH Tryz.prog laid w) false (World.laidAll Tryz.prog os laid) #[.int .u32 0, .int .u16 0, .int .i8 0] 8 (World.laidAll_os _ _ _)
      (World.shaped_of_ZipB (by kernel_rfl) (by kernel_rfl)) (by kernel_rfl) (by kernel_rfl) (by kernel_rfl) (laid_world os _)) ?_
  intro W base args ds gs before hval0 hW _ _ hL _
  have hval : ∀ (j : Nat) t v, Tryz.f9.params[j]? = some t → args[j]? = some v → Value.okWide Tryz.prog W .any base t v := hval0
  have hW' := hW
  obtain ⟨p, q, hA0, hV, rfl, _, _⟩ := hW
  have hA : DataW.TrodAll enc Tryz.prog W 0 (fun _ => true) true Tryz.f9.params.toList args.toList ds p := hA0
  rw [Tryz.params9] at hA hval
  obtain ⟨v0, vs0, d0, ds0, p0, q0, hargs, rfl, rfl, h0, r0⟩ := trodAll_cons hA
  obtain ⟨v1, vs1, d1, ds1, p1, q1, rfl, rfl, rfl, h1, r1⟩ := trodAll_cons r0
  obtain ⟨v2, vs2, d2, ds2, p2, q2, rfl, rfl, rfl, h2, r2⟩ := trodAll_cons r1
  obtain ⟨rfl, rfl, rfl⟩ := trodAll_nil r2
  obtain rfl : args = #[v0, v1, v2] := by cases args; simp_all
  obtain ⟨rfl, rfl⟩ := trodVars_none hV
  obtain ⟨x0, rfl, rfl, rfl, w0⟩ := open_int Tryz.underlying39 (hval 0 39 v0 rfl rfl) h0
  have b0 : 0 ≤ x0 ∧ x0 ≤ 4294967295 := by simpa [Lit.wf, IntKind.min, IntKind.max, IntKind.signed, IntKind.bits] using w0
  obtain ⟨c0, rfl⟩ := Int.eq_ofNat_of_zero_le b0.1
  obtain ⟨x1, rfl, rfl, rfl, w1⟩ := open_int Tryz.underlying40 (hval 1 40 v1 rfl rfl) h1
  have b1 : 0 ≤ x1 ∧ x1 ≤ 65535 := by simpa [Lit.wf, IntKind.min, IntKind.max, IntKind.signed, IntKind.bits] using w1
  obtain ⟨c1, rfl⟩ := Int.eq_ofNat_of_zero_le b1.1
  obtain ⟨x2, rfl, rfl, rfl, w2⟩ := open_int Tryz.underlying41 (hval 2 41 v2 rfl rfl) h2
  have b2 : -128 ≤ x2 ∧ x2 ≤ 127 := by simpa [Lit.wf, IntKind.min, IntKind.max, IntKind.signed, IntKind.bits] using w2
  clear hA0 hval0
  simp only [List.append_nil] at hW'
  refine (law c0 c1 x2 W (by omega) (by omega) b2 (tabs_of_laid hL)).mono fun e W' ⟨he, bel⟩ => ?_
  subst he
  exact ⟨_, rfl, _, _, _, [], _, [], hW', trodAll_mk1 (shut_bool Tryz.underlying4 _), (trodAll_cons_mk (shut_int Tryz.underlying39 w0) (trodAll_cons_mk (shut_int Tryz.underlying40 w1) (trodAll_cons_mk (shut_int Tryz.underlying41 w2) trodAll_mk0))), rfl, bel.frame _, fun h => by cases h⟩

theorem said : Rows.FigureSignsSaid :=
  OpenClaim.holds_of_wide 9 Tryz.f9 rfl rfl rfl rfl rfl rfl rfl ⟨rfl, rfl, rfl, rfl, rfl⟩ rfl rfl rfl rfl rfl (by kernel_rfl) Tryz.func9 (by kernel_rfl)
    (of_decide_eq_true (by kernel_rfl)) (by unfold Func.isWrapper; first | (rw [if_pos (by decide +kernel)]; kernel_rfl) | (rw [if_neg (by decide +kernel)]; exact ⟨rfl, rfl⟩))
    (fun os started H enc _ => lifted os started H enc)

theorem plain (f : FuncId) (fn : Func) (hf : Tryz.pinned.checked.prog.funcNamed Tryz.f9.name = some f) (hfn : Tryz.pinned.checked.prog.funcs[f]? = some fn) :
    true = Tryz.pinned.checked.prog.looks [] ∧ ∀ (j : Nat) t, fn.params[j]? = some t → Tryz.pinned.checked.prog.wantsStandIn t = false := by
  obtain rfl : f = 9 := Option.some.inj ((show Tryz.prog.funcNamed Tryz.f9.name = some 9 by kernel_rfl).symm.trans hf) |>.symm
  obtain rfl : fn = Tryz.f9 := (Option.some.inj (Tryz.func9.symm.trans hfn)).symm
  refine ⟨by kernel_rfl, fun j t ht => ?_⟩
  rw [Tryz.params9] at ht
  have hm : t ∈ [39, 40, 41] := by simpa using Array.mem_of_getElem? ht
  have hall : ([39, 40, 41].all fun u => !Tryz.prog.wantsStandIn u) = true := by kernel_rfl
  exact (show Tryz.prog.wantsStandIn t = false from Bool.not_eq_true' _ |>.mp (List.all_eq_true.1 hall t hm))

theorem card : Rows.FigureSignsCardSaid :=
  Claim7.holds_tied_plain_at .later [] _ _ _ _ said (fun _ h => by cases h) (by kernel_rfl) (fun _ h => by cases h) figureSigns_row_tie rfl ⟨rfl, rfl⟩ (by kernel_rfl) rfl plain (by kernel_rfl)
#print axioms card
end Go.Proofs.YtgijplljpimbmaaGreatDoor.Signs
