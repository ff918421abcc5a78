/- LinesColumns is true of any bytes, place and tab: the program's Column is the document's. No condition but the card's own: Go's two tables of unicode/utf8 hold what the library's text lays. -/
import Derived.Test.YtjdjacnlobjmgaaDoorArgs
import Derived.Test.YtjdjacnlobjmgaaDoorLnN
import Derived.Test.YtjdjacnlobjmgaaDoorCards
import Derived.Test.YtjdjacnlobjmgaaDoorTie
namespace Go.Proofs.YtjdjacnlobjmgaaDoor.Columns
open Go.ChangeShapes Go.WideShapes Go.ChangeAt Go.ChangeMaps Go.RowKit Go.Proofs.PlatenGlyph Go.Proofs.PlatenLines
set_option linter.unusedVariables false

set_option maxHeartbeats 400000 in
theorem long (v : Value) (n : Nat) (f : Nat → Nat) (a tab : Int) (w : World) (hv : IsRow w v n f) (hn : 200 < n) (hT : Lib.Utf8Tabs 1 2 w) :
    Calls Tryd.prog 8 #[v, .int .i64 a, .int .i8 tab] w fun e w' => e = .returned (.bool true) ∧ Below w.heap.size w w' := by
  have cs := rows_any w hT
  have HT := hidden hT
  obtain ⟨ea, cap, rfl⟩ := hv.len
  have hnz : 200 < (n : Int) := by omega
  clear hv
  clear hT
  go_enter Tryd.func8, Tryd.ntmps8
  go_wp2_with fail
  refine cs.mono ?_
  rintro e w1 ⟨rfl, hb⟩
  have cs2 := rows_any w1 (tabs_below HT.out hb)
  go_wp2_with fail
  refine cs2.mono ?_
  rintro e w2 ⟨rfl, hb2⟩
  go_wp2
  go_ret
  exact ⟨rfl, hb.trans (hb2.mono hb.size)⟩

set_option maxHeartbeats 1000000 in
theorem short (v : Value) (n : Nat) (f : Nat → Nat) (a tab : Int) (w : World) (hv : IsRow w v n f) (hn : n ≤ 200) (ht : -128 ≤ tab ∧ tab ≤ 127) (hT : Lib.Utf8Tabs 1 2 w) :
    Calls Tryd.prog 8 #[v, .int .i64 a, .int .i8 tab] w fun e w' => e = .returned (.bool true) ∧ Below w.heap.size w w' := by
  have cs := rows_any w hT
  have hnz : ¬ (200 < (n : Int)) := by omega
  obtain ⟨t1, t2⟩ := ht
  obtain ⟨T, hmT⟩ : ∃ T : Nat, max tab 1 = T := ⟨(max tab 1).toNat, by omega⟩
  have hT1 : T ≤ 1000 := by omega
  have H1 : Hid (∀ u, Below w.heap.size w u → Calls Tryd.prog 25 #[v, .int .i64 a, .int .i64 tab] u fun e w' => e = .returned (.int .i64 (colAt f n a T : Nat)) ∧ Below u.heap.size u w') := fun u hu =>
    column_any v n f a tab T u (by omega) (hv.below hu) hmT hT1 (tabs_below hT hu)
  have H2 : Hid (∀ u, Below w.heap.size w u → Calls Tryd.prog 26 #[v, .int .i64 a, .int .i64 tab] u fun e w' => e = .returned (.int .i64 (colAt f n a T : Nat)) ∧ Below u.heap.size u w') := fun u hu =>
    rcolumn_any v n f a tab T u (by omega) (hv.below hu) hmT hT1
  obtain ⟨ea, cap, rfl⟩ := hv.len
  clear hT hv hmT
  generalize colAt f n a T = C at *
  go_enter Tryd.func8, Tryd.ntmps8
  go_wp2_with fail
  refine cs.mono ?_
  rintro e w1 ⟨rfl, hb1⟩
  have Hb1 := hidden hb1
  clear cs hb1
  go_wp2_with fail
  refine (H1.out _ Hb1.out).mono ?_
  rintro e w2 ⟨rfl, hb2⟩
  have Hb2 := hidden (Hb1.out.trans (hb2.mono Hb1.out.size))
  clear hb2
  go_wp2_with fail
  refine (H2.out _ Hb2.out).mono ?_
  rintro e w3 ⟨rfl, hb3⟩
  have Hb3 := hidden (Hb2.out.trans (hb3.mono Hb2.out.size))
  clear hb3
  go_wp2
  go_ret
  exact ⟨rfl, Hb3.out⟩

theorem law (v : Value) (n : Nat) (f : Nat → Nat) (a tab : Int) (w : World) (hv : IsRow w v n f) (ha : -9223372036854775808 ≤ a ∧ a ≤ 9223372036854775807) (ht : -128 ≤ tab ∧ tab ≤ 127) (hT : Lib.Utf8Tabs 1 2 w) :
    Calls Tryd.prog 8 #[v, .int .i64 a, .int .i8 tab] w fun e w' => e = .returned (.bool true) ∧ Below w.heap.size w w' := by
  by_cases hn : 200 < n
  · exact long v n f a tab w hv hn hT
  · exact short v n f a tab w hv (by omega) ht hT

set_option maxRecDepth 100000 in
theorem lifted (os : Os) (started : os.Started) (H : Type) (enc : TypeId × Value → H) :
    ReturnsInHanded {} Tryd.checked os 8 .any (fun w args => (Rows.linesColumnsSpec.pre enc Tryd.prog Tryd.f8 [] false w args ∧ laidMetH Tryd.prog laid w) ∧ sizedMet enc Tryd.prog Tryd.f8 (OpenSpec.ofChange Rows.linesColumnsSpec) false w args)
      (Rows.linesColumnsSpec.post enc Tryd.prog Tryd.f8 false true false false) := by
  refine returnsInHanded_of_change_and (C := Tryd.checked) (X := fun w _ => laidMetH Tryd.prog laid w) (fun _ _ _ hh h => h.of_heap hh) own started (by kernel_rfl) Tryd.func8
    (ChangeSpec.witness_shaped (enc := enc) (C := Tryd.checked) (os := os) (X := fun w _ => laidMetH Tryd.prog laid w) false (World.laidAll Tryd.prog os laid) #[.slice none 0 0, .int .i64 0, .int .i8 0] 8 (World.laidAll_os _ _ _)
      (World.shaped_of_ZipB (by kernel_rfl) (by kernel_rfl)) (by kernel_rfl) (by kernel_rfl) (by kernel_rfl) (laid_world os _)) ?_
  intro W base args ds gs before hval0 hW _ _ hL _
  have hval : ∀ (j : Nat) t v, Tryd.f8.params[j]? = some t → args[j]? = some v → Value.okWide Tryd.prog W .any base t v := hval0
  have hW' := hW
  obtain ⟨p, q, hA0, hV, rfl, _, _⟩ := hW
  have hA : DataW.TrodAll enc Tryd.prog W 0 (fun _ => true) true Tryd.f8.params.toList args.toList ds p := hA0
  rw [Tryd.params8] at hA hval
  obtain ⟨v0, vs0, d0, ds0, p0, q0, hargs, rfl, rfl, h0, r0⟩ := trodAll_cons hA
  obtain ⟨v1, vs1, d1, ds1, p1, q1, rfl, rfl, rfl, h1, r1⟩ := trodAll_cons r0
  obtain ⟨v2, vs2, d2, ds2, p2, q2, rfl, rfl, rfl, h2, r2⟩ := trodAll_cons r1
  obtain ⟨rfl, rfl, rfl⟩ := trodAll_nil r2
  obtain rfl : args = #[v0, v1, v2] := by cases args; simp_all
  obtain ⟨rfl, rfl⟩ := trodVars_none hV
  have lt0 : ∀ x ∈ p0, x.block < W.heap.size := by obtain ⟨m, hm⟩ := h0; exact DataW.trod_lt m _ _ _ hm
  obtain ⟨n0, f0, g0⟩ := open_bytes (hval 0 22 v0 rfl rfl) h0
  obtain ⟨x1, rfl, rfl, rfl, w1⟩ := open_int Tryd.underlying3 (hval 1 3 v1 rfl rfl) h1
  have b1 : -9223372036854775808 ≤ x1 ∧ x1 ≤ 9223372036854775807 := by simpa [Lit.wf, IntKind.min, IntKind.max, IntKind.signed, IntKind.bits] using w1
  obtain ⟨x2, rfl, rfl, rfl, w2⟩ := open_int Tryd.underlying43 (hval 2 43 v2 rfl rfl) h2
  have b2 : -128 ≤ x2 ∧ x2 ≤ 127 := by simpa [Lit.wf, IntKind.min, IntKind.max, IntKind.signed, IntKind.bits] using w2
  clear hA0 hval0
  simp only [List.append_nil] at hW'
  refine (law v0 n0 f0 x1 x2 W g0 b1 b2 (tabs_of_laid hL)).mono fun e W' ⟨he, bel⟩ => ?_
  subst he
  exact ⟨_, rfl, _, _, _, [], _, [], hW', trodAll_mk1 (shut_bool Tryd.underlying4 _), (trodAll_cons_mk (Below.trod laidOut (by kernel_rfl) (of_decide_eq_true (by kernel_rfl)) h0 bel lt0) (trodAll_cons_mk (shut_int Tryd.underlying3 w1) (trodAll_cons_mk (shut_int Tryd.underlying43 w2) trodAll_mk0))), rfl, bel.frame _, fun h => by cases h⟩

theorem said : Rows.LinesColumnsSaid :=
  OpenClaim.holds_of_wide 8 Tryd.f8 rfl rfl rfl rfl rfl rfl rfl ⟨rfl, rfl, rfl, rfl, rfl⟩ rfl rfl rfl rfl rfl (by kernel_rfl) Tryd.func8 (by kernel_rfl)
    (of_decide_eq_true (by kernel_rfl)) (by unfold Func.isWrapper; first | (rw [if_pos (by decide +kernel)]; kernel_rfl) | (rw [if_neg (by decide +kernel)]; exact ⟨rfl, rfl⟩))
    (fun os started H enc _ => lifted os started H enc)

theorem plain (f : FuncId) (fn : Func) (hf : Tryd.pinned.checked.prog.funcNamed Tryd.f8.name = some f) (hfn : Tryd.pinned.checked.prog.funcs[f]? = some fn) :
    false = Tryd.pinned.checked.prog.looks [] ∧ ∀ (j : Nat) t, fn.params[j]? = some t → Tryd.pinned.checked.prog.wantsStandIn t = false := by
  obtain rfl : f = 8 := Option.some.inj ((show Tryd.prog.funcNamed Tryd.f8.name = some 8 by kernel_rfl).symm.trans hf) |>.symm
  obtain rfl : fn = Tryd.f8 := (Option.some.inj (Tryd.func8.symm.trans hfn)).symm
  refine ⟨by kernel_rfl, fun j t ht => ?_⟩
  rw [Tryd.params8] at ht
  have hm : t ∈ [22, 3, 43] := by simpa using Array.mem_of_getElem? ht
  have hall : ([22, 3, 43].all fun u => !Tryd.prog.wantsStandIn u) = true := by kernel_rfl
  exact (show Tryd.prog.wantsStandIn t = false from Bool.not_eq_true' _ |>.mp (List.all_eq_true.1 hall t hm))

theorem card : Rows.LinesColumnsCardSaid :=
  Claim7.holds_tied_plain_at .later [] _ _ _ _ said (fun _ h => by cases h) (by kernel_rfl) (fun _ h => by cases h) linesColumns_row_tie rfl ⟨rfl, rfl⟩ (by kernel_rfl) rfl plain (by kernel_rfl)
#print axioms card
end Go.Proofs.YtjdjacnlobjmgaaDoor.Columns
