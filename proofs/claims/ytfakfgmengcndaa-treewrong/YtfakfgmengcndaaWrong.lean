/- What can't be read isn't laid out: tree.Format answers with no text, the error and the place that the document's Read answers with; and what can be read is laid out. -/
import Derived.Test.YtfakfgmengcndaaArgsZ
import Derived.Test.YtfakfgmengcndaaKR
import Derived.OwnWalk
namespace Go.Proofs.Ytfakfgmengcndaa.Wrong
open Go.ChangeShapes Go.WideShapes Go.ChangeAt Go.RowKit Go.Proofs.PlatenTree
open Go.Proofs.PlatenLayout (str str_size IsItems)
set_option linter.unusedVariables false
set_option maxRecDepth 100000

set_option maxHeartbeats 4000000 in
theorem long (v : Value) (n : Nat) (f : Nat → Nat) (s : Bool) (wd : Int) (w : World) (h : IsArg w v n f) (hwd : -32768 ≤ wd ∧ wd ≤ 32767) (hn : 300 < n) :
    Calls Try.prog 5 #[v, .bool s, .int .i16 wd] w fun e w' => e = .returned (.bool true) ∧ Below w.heap.size w w' := by
  obtain ⟨hf, hm, a, cap, rfl, _⟩ := h
  have hlz : (300 : Int) < (n : Int) := by omega
  clear hn
  go_enter Try.func5, Try.ntmps5
  go_wp2_with fail
  refine (laid_any w).mono ?_
  rintro e w1 ⟨rfl, hb⟩
  have B1 := hidden hb
  clear hb
  go_wp2_with fail
  refine (laid_any w1).mono ?_
  rintro e w2 ⟨rfl, hb⟩
  have B2 := hidden (B1.out.trans (hb.mono B1.out.size))
  clear hb
  go_wp2_with fail
  go_ret
  exact ⟨rfl, B2.out⟩
set_option maxHeartbeats 4000000 in
theorem short (v : Value) (n : Nat) (f : Nat → Nat) (s : Bool) (wd : Int) (w : World) (h : IsArg w v n f) (hwd : -32768 ≤ wd ∧ wd ≤ 32767) (hn : n ≤ 300) :
    Calls Try.prog 5 #[v, .bool s, .int .i16 wd] w fun e w' => e = .returned (.bool true) ∧ Below w.heap.size w w' := by
  obtain ⟨hf, hm, hr⟩ := h
  have HR := hidden (pL_row hr)
  have hpl := pL_len n f
  have hlt := pL_lt hf n
  obtain ⟨a, cap, rfl, _⟩ := hr
  have hlz : ¬ ((300 : Int) < (n : Int)) := by omega
  obtain ⟨p, hp⟩ : ∃ p, pL n f = p := ⟨_, rfl⟩
  rw [hp] at HR hpl hlt
  have Hn : Hid (p.length ≤ 300) := by rw [hpl]; exact hn
  have Hlt := hidden hlt
  clear hn hf hpl hlt hp
  have hg := pg_short (s := s) Hlt.out Hn.out
  have hwr : IntKind.i64.wrap wd = wd := IntWalk.i64_in _ (by omega)
  have CF := fun (W : World) (hW : Below w.heap.size w W) => format_any s wd (w := W) (by omega) Hlt.out (by have := Hn.out; omega) (HR.out.below hW) hg.items
  have CR := fun (W : World) (hW : Below w.heap.size w W) => rtread_any s (w := W) Hlt.out (by have := Hn.out; omega) (HR.out.below hW)
  have hno := fun h => ansL_no (s := s) (p := p) h
  cases hrd : rd s p with
  | none =>
    have hne := hno hrd
    simp only [fmt_no wd hrd] at CF
    clear hno hrd hg
    obtain ⟨o, ho⟩ : ∃ o, ansL s p = o := ⟨_, rfl⟩
    simp only [ho] at CF CR
    rw [ho] at hne
    clear ho
    obtain ⟨T, at1, er⟩ := o
    have hne : er ≠ 0 := hne
    have hz : ((er : Int) == 0) = false := by rw [beq_eq_false_iff_ne]; omega
    unfold RdP at CR
    try simp only at CR
    clear hne
    go_enter Try.func5, Try.ntmps5
    go_wp2_with fail
    refine (laid_any w).mono ?_
    rintro e w1 ⟨rfl, hb⟩
    have B1 := hidden hb
    clear hb
    have cx := CF w1 B1.out
    go_wp2_with fail
    refine cx.mono ?_
    clear cx
    rintro e w2 ⟨rfl, hb⟩
    have B2 := hidden (B1.out.trans (hb.mono B1.out.size))
    clear hb
    have cx := CR w2 B2.out
    go_wp2_with fail
    refine cx.mono ?_
    clear cx
    rintro e w3 ⟨tv, rfl, _, hb⟩
    have B3 := hidden (B2.out.trans (hb.mono B2.out.size))
    clear hb
    go_wp2_with fail
    go_ret
    exact ⟨rfl, B3.out⟩
  | some P =>
    obtain ⟨T, eT, _⟩ := ansL_ok hrd
    obtain ⟨q, hq⟩ := hg.room P hrd wd
    simp only [fmt_yes hrd hq] at CF
    simp only [eT] at CR
    unfold RdP at CR
    try simp only at CR
    clear hno hrd hg hq eT
    go_enter Try.func5, Try.ntmps5
    go_wp2_with fail
    refine (laid_any w).mono ?_
    rintro e w1 ⟨rfl, hb⟩
    have B1 := hidden hb
    clear hb
    have cx := CF w1 B1.out
    go_wp2_with fail
    refine cx.mono ?_
    clear cx
    rintro e w2 ⟨rfl, hb⟩
    have B2 := hidden (B1.out.trans (hb.mono B1.out.size))
    clear hb
    have cx := CR w2 B2.out
    go_wp2_with fail
    refine cx.mono ?_
    clear cx
    rintro e w3 ⟨tv, rfl, _, hb⟩
    have B3 := hidden (B2.out.trans (hb.mono B2.out.size))
    clear hb
    go_wp2_with fail
    go_ret
    exact ⟨rfl, B3.out⟩
theorem law (v : Value) (n : Nat) (f : Nat → Nat) (s : Bool) (wd : Int) (w : World) (h : IsArg w v n f) (hwd : -32768 ≤ wd ∧ wd ≤ 32767) :
    Calls Try.prog 5 #[v, .bool s, .int .i16 wd] w fun e w' => e = .returned (.bool true) ∧ Below w.heap.size w w' := by
  rcases Nat.lt_or_ge 300 n with hn | hn
  · exact long v n f s wd w h hwd hn
  · exact short v n f s wd w h hwd hn
set_option maxRecDepth 100000 in
theorem lifted (os : Os) (started : os.Started) (H : Type) (enc : TypeId × Value → H) :
    ReturnsInHanded {} Try.checked os 5 .any (Rows.treeWrongSpec.pre6 enc Try.prog Try.f5 Rows.treeWrongRow.domain false) (Rows.treeWrongSpec.post enc Try.prog Try.f5 false true false false) := by
  refine returnsInHanded_of_change (C := Try.checked) own started (by kernel_rfl) Try.func5
    (ChangeSpec.witness6 (enc := enc) (C := Try.checked) false ⟨#[], #[.slice none 0 0, .bool false, .int .i16 0], []⟩ 8 (by kernel_rfl) (by kernel_rfl) (by kernel_rfl) (by kernel_rfl)) ?_
  intro W base args ds gs before hval0 hW _ _
  have hval : ∀ (j : Nat) t v, Try.f5.params[j]? = some t → args[j]? = some v → Value.okWide Try.prog W .any base t v := hval0
  have hW' := hW
  obtain ⟨p, q, hA0, hV, rfl, _, _⟩ := hW
  have hA : DataW.TrodAll enc Try.prog W 0 (fun _ => true) true Try.f5.params.toList args.toList ds p := hA0
  rw [Try.params5] at hA hval
  obtain ⟨v0, vs0, d0, ds0, p0, q0, hargs, rfl, rfl, h0, r0⟩ := trodAll_cons hA
  obtain ⟨v1, vs1, d1, ds1, p1, q1, rfl, rfl, rfl, h1, r1⟩ := trodAll_cons r0
  obtain ⟨v2, vs2, d2, ds2, p2, q2, rfl, rfl, rfl, h2, r2⟩ := trodAll_cons r1
  obtain ⟨rfl, rfl, rfl⟩ := trodAll_nil r2
  obtain rfl : args = #[v0, v1, v2] := by cases args; simp_all
  obtain ⟨rfl, rfl⟩ := trodVars_none hV
  have lt0 : ∀ x ∈ p0, x.block < W.heap.size := by obtain ⟨m, hm⟩ := h0; exact DataW.trod_lt m _ _ _ hm
  obtain ⟨n0, f0, g0⟩ := open_bytes (hval 0 22 v0 rfl rfl) h0
  obtain ⟨x1, rfl, rfl, rfl⟩ := open_bool Try.underlying4 (hval 1 4 v1 rfl rfl) h1
  obtain ⟨x2, rfl, rfl, rfl, w2⟩ := open_int Try.underlying38 (hval 2 38 v2 rfl rfl) h2
  have b2 : -32768 ≤ x2 ∧ x2 ≤ 32767 := by simpa [Lit.wf, IntKind.min, IntKind.max, IntKind.signed, IntKind.bits] using w2
  clear hA0 hval0
  simp only [List.append_nil] at hW'
  refine (law v0 n0 f0 x1 x2 W g0 b2).mono fun e W' ⟨he, bel⟩ => ?_
  subst he
  exact ⟨_, rfl, _, _, _, [], _, [], hW', trodAll_mk1 (shut_bool Try.underlying4 _), (trodAll_cons_mk (Below.trod laidOut (by kernel_rfl) (of_decide_eq_true (by kernel_rfl)) h0 bel lt0) (trodAll_cons_mk (shut_bool Try.underlying4 _) (trodAll_cons_mk (shut_int Try.underlying38 w2) trodAll_mk0))), rfl, bel.frame _, fun h => by cases h⟩

theorem said : Rows.TreeWrongSaid :=
  OpenClaim.holds_of_wide 5 Try.f5 rfl rfl rfl rfl rfl rfl rfl ⟨rfl, rfl, rfl, rfl, rfl⟩ rfl rfl rfl rfl rfl (by kernel_rfl) Try.func5 (by kernel_rfl)
    (of_decide_eq_true (by kernel_rfl)) (by unfold Func.isWrapper; first | (rw [if_pos (by decide +kernel)]; kernel_rfl) | (rw [if_neg (by decide +kernel)]; exact ⟨rfl, rfl⟩))
    (fun os started H enc _ => lifted os started H enc)
#print axioms said
end Go.Proofs.Ytfakfgmengcndaa.Wrong
