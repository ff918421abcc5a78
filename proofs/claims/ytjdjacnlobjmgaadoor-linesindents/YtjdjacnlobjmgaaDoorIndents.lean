/- LinesIndents is true of any string: as many blanks as the document counts, and nothing else or not. No condition but the card's own: Go's two tables of unicode/utf8 hold what the library's text lays. -/
import Derived.Test.YtjdjacnlobjmgaaDoorArgs
import Derived.Test.YtjdjacnlobjmgaaDoorLnI
import Derived.Test.YtjdjacnlobjmgaaDoorCards
import Derived.Test.YtjdjacnlobjmgaaDoorTie
namespace Go.Proofs.YtjdjacnlobjmgaaDoor.Indents
open Go.ChangeShapes Go.WideShapes Go.ChangeAt Go.ChangeMaps Go.RowKit Go.Proofs.PlatenGlyph Go.Proofs.PlatenLines
set_option linter.unusedVariables false

set_option maxHeartbeats 400000 in
theorem long (s : ByteArray) (w : World) (hs : s.size ≤ maxLen) (hn : 300 < s.size) (hT : Lib.Utf8Tabs 1 2 w) :
    Calls Tryd.prog 7 #[.string s] w fun e w' => e = .returned (.bool true) ∧ Below w.heap.size w w' := by
  have cs := rows_any w hT
  have HT := hidden hT
  unfold maxLen at hs
  have hnz : 300 < (s.size : Int) := by omega
  clear hT
  go_enter Tryd.func7, Tryd.ntmps7
  go_wp2_with fail
  refine cs.mono ?_
  rintro e w1 ⟨rfl, hb⟩
  have cs2 := rows_any w1 (tabs_below HT.out hb)
  go_wp2_with fail
  refine cs2.mono ?_
  rintro e w2 ⟨rfl, hb2⟩
  go_wp2
  go_ret
  exact ⟨rfl, hb.trans (hb2.mono hb.size)⟩

set_option maxHeartbeats 1000000 in
theorem short (s : ByteArray) (w : World) (hn : s.size ≤ 300) (hT : Lib.Utf8Tabs 1 2 w) :
    Calls Tryd.prog 7 #[.string s] w fun e w' => e = .returned (.bool true) ∧ Below w.heap.size w w' := by
  have cs := rows_any w hT
  have hnz : ¬ (300 < (s.size : Int)) := by omega
  clear hT
  go_enter Tryd.func7, Tryd.ntmps7
  go_wp2_with fail
  refine cs.mono ?_
  rintro e w1 ⟨rfl, hb1⟩
  have c1 := indent_any s w1 (by omega)
  go_wp2_with fail
  refine c1.mono ?_
  rintro e w2 ⟨k, rfl, hk, rfl⟩
  have HK := hidden hk
  clear hk cs c1
  go_wp2_with fail
  obtain ⟨W, cap, hr, hcap, hcl, hbl⟩ := conv_bytes s w2
  rw [hr]
  simp only [Result.andThen]
  rw [Oper.upon_value]
  have c2 := rindent_row (byt s) w2.heap.size 0 s.size cap W (byt_lt s) (by omega) hcap hcl
  have Hb := hidden (hb1.trans (hbl.mono hb1.size))
  clear hr hcl hbl hcap hb1
  go_wp2_with fail
  refine c2.mono ?_
  rintro e w3 ⟨k2, rfl, hk2, rfl⟩
  obtain rfl := isInd_eq HK.out hk2
  have c3 := bare_any s w3 (by omega)
  clear hk2 c2
  go_wp2_with fail
  refine c3.mono ?_
  rintro e w4 ⟨k3, rfl, hk3, rfl⟩
  obtain rfl := isInd_eq HK.out hk3
  clear hk3 c3
  go_wp2
  go_ret
  exact ⟨rfl, Hb.out⟩

theorem law (s : ByteArray) (w : World) (hs : s.size ≤ maxLen) (hT : Lib.Utf8Tabs 1 2 w) :
    Calls Tryd.prog 7 #[.string s] w fun e w' => e = .returned (.bool true) ∧ Below w.heap.size w w' := by
  by_cases hn : 300 < s.size
  · exact long s w hs hn hT
  · exact short s w (by omega) hT

set_option maxRecDepth 100000 in
theorem lifted (os : Os) (started : os.Started) (H : Type) (enc : TypeId × Value → H) :
    ReturnsInHanded {} Tryd.checked os 7 .any (fun w args => (Rows.linesIndentsSpec.pre enc Tryd.prog Tryd.f7 [] false w args ∧ laidMetH Tryd.prog laid w) ∧ sizedMet enc Tryd.prog Tryd.f7 (OpenSpec.ofChange Rows.linesIndentsSpec) false w args)
      (Rows.linesIndentsSpec.post enc Tryd.prog Tryd.f7 false true false false) := by
  refine returnsInHanded_of_change_and (C := Tryd.checked) (X := fun w _ => laidMetH Tryd.prog laid w) (fun _ _ _ hh h => h.of_heap hh) own started (by kernel_rfl) Tryd.func7
    (ChangeSpec.witness_shaped (enc := enc) (C := Tryd.checked) (os := os) (X := fun w _ => laidMetH Tryd.prog laid w) false (World.laidAll Tryd.prog os laid) #[.string ByteArray.empty] 8 (World.laidAll_os _ _ _)
      (World.shaped_of_ZipB (by kernel_rfl) (by kernel_rfl)) (by kernel_rfl) (by kernel_rfl) (by kernel_rfl) (laid_world os _)) ?_
  intro W base args ds gs before hval0 hW _ _ hL _
  have hval : ∀ (j : Nat) t v, Tryd.f7.params[j]? = some t → args[j]? = some v → Value.okWide Tryd.prog W .any base t v := hval0
  have hW' := hW
  obtain ⟨p, q, hA0, hV, rfl, _, _⟩ := hW
  have hA : DataW.TrodAll enc Tryd.prog W 0 (fun _ => true) true Tryd.f7.params.toList args.toList ds p := hA0
  rw [Tryd.params7] at hA hval
  obtain ⟨v0, vs0, d0, ds0, p0, q0, hargs, rfl, rfl, h0, r0⟩ := trodAll_cons hA
  obtain ⟨rfl, rfl, rfl⟩ := trodAll_nil r0
  obtain rfl : args = #[v0] := by cases args; simp_all
  obtain ⟨rfl, rfl⟩ := trodVars_none hV
  obtain ⟨x0, rfl, rfl, rfl, w0⟩ := open_string Tryd.underlying9 (hval 0 9 v0 rfl rfl) h0
  clear hA0 hval0
  simp only [List.append_nil] at hW'
  refine (law x0 W w0 (tabs_of_laid hL)).mono fun e W' ⟨he, bel⟩ => ?_
  subst he
  exact ⟨_, rfl, _, _, _, [], _, [], hW', trodAll_mk1 (shut_bool Tryd.underlying4 _), (trodAll_cons_mk (shut_string Tryd.underlying9 w0) trodAll_mk0), rfl, bel.frame _, fun h => by cases h⟩

theorem said : Rows.LinesIndentsSaid :=
  OpenClaim.holds_of_wide 7 Tryd.f7 rfl rfl rfl rfl rfl rfl rfl ⟨rfl, rfl, rfl, rfl, rfl⟩ rfl rfl rfl rfl rfl (by kernel_rfl) Tryd.func7 (by kernel_rfl)
    (of_decide_eq_true (by kernel_rfl)) (by unfold Func.isWrapper; first | (rw [if_pos (by decide +kernel)]; kernel_rfl) | (rw [if_neg (by decide +kernel)]; exact ⟨rfl, rfl⟩))
    (fun os started H enc _ => lifted os started H enc)

theorem plain (f : FuncId) (fn : Func) (hf : Tryd.pinned.checked.prog.funcNamed Tryd.f7.name = some f) (hfn : Tryd.pinned.checked.prog.funcs[f]? = some fn) :
    false = Tryd.pinned.checked.prog.looks [] ∧ ∀ (j : Nat) t, fn.params[j]? = some t → Tryd.pinned.checked.prog.wantsStandIn t = false := by
  obtain rfl : f = 7 := Option.some.inj ((show Tryd.prog.funcNamed Tryd.f7.name = some 7 by kernel_rfl).symm.trans hf) |>.symm
  obtain rfl : fn = Tryd.f7 := (Option.some.inj (Tryd.func7.symm.trans hfn)).symm
  refine ⟨by kernel_rfl, fun j t ht => ?_⟩
  rw [Tryd.params7] at ht
  have hm : t ∈ [9] := by simpa using Array.mem_of_getElem? ht
  have hall : ([9].all fun u => !Tryd.prog.wantsStandIn u) = true := by kernel_rfl
  exact (show Tryd.prog.wantsStandIn t = false from Bool.not_eq_true' _ |>.mp (List.all_eq_true.1 hall t hm))

theorem card : Rows.LinesIndentsCardSaid :=
  Claim7.holds_tied_plain_at .later [] _ _ _ _ said (fun _ h => by cases h) (by kernel_rfl) (fun _ h => by cases h) linesIndents_row_tie rfl ⟨rfl, rfl⟩ (by kernel_rfl) rfl plain (by kernel_rfl)
#print axioms card
end Go.Proofs.YtjdjacnlobjmgaaDoor.Indents
