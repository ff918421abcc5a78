/- Of any bytes tree.Read answers just what the document's Read answers, as JSON or as S-expressions: the same tokens, the same place, the same error. -/
import Derived.Test.YtfakfgmengcndaaArgsZ
import Derived.Test.YtfakfgmengcndaaKR
import Derived.OwnWalk
namespace Go.Proofs.Ytfakfgmengcndaa.Reads
open Go.ChangeShapes Go.WideShapes Go.ChangeAt Go.RowKit Go.Proofs.PlatenTree
open Go.Proofs.PlatenLayout (str str_size IsItems)
set_option linter.unusedVariables false
set_option maxRecDepth 100000

set_option maxHeartbeats 4000000 in
theorem long (v : Value) (n : Nat) (f : Nat → Nat) (s : Bool) (w : World) (h : IsArg w v n f) (hn : 300 < n) :
    Calls Try.prog 3 #[v, .bool s] w fun e w' => e = .returned (.bool true) ∧ Below w.heap.size w w' := by
  obtain ⟨hf, hm, a, cap, rfl, _⟩ := h
  have hlz : (300 : Int) < (n : Int) := by omega
  clear hn
  go_enter Try.func3, Try.ntmps3
  go_wp2_with fail
  refine (laid_any w).mono ?_
  rintro e w1 ⟨rfl, hb⟩
  have B1 := hidden hb
  clear hb
  go_wp2_with fail
  refine (laid_any w1).mono ?_
  rintro e w2 ⟨rfl, hb⟩
  have B2 := hidden (B1.out.trans (hb.mono B1.out.size))
  clear hb
  go_wp2_with fail
  go_ret
  exact ⟨rfl, B2.out⟩
set_option maxHeartbeats 4000000 in
theorem short (v : Value) (n : Nat) (f : Nat → Nat) (s : Bool) (w : World) (h : IsArg w v n f) (hn : n ≤ 300) :
    Calls Try.prog 3 #[v, .bool s] w fun e w' => e = .returned (.bool true) ∧ Below w.heap.size w w' := by
  obtain ⟨hf, hm, hr⟩ := h
  have HR := hidden (pL_row hr)
  have hpl := pL_len n f
  have hlt := pL_lt hf n
  obtain ⟨a, cap, rfl, _⟩ := hr
  have hlz : ¬ ((300 : Int) < (n : Int)) := by omega
  obtain ⟨p, hp⟩ : ∃ p, pL n f = p := ⟨_, rfl⟩
  rw [hp] at HR hpl hlt
  have Hn : Hid (p.length ≤ 300) := by rw [hpl]; exact hn
  have Hlt := hidden hlt
  clear hn hf hpl hlt hp
  obtain ⟨o, ho⟩ : ∃ o, ansL s p = o := ⟨_, rfl⟩
  have hol := ansL_bd s p
  have hTl : o.1.length ≤ 1000000 := by
    rw [← ho]
    have := ansL_len s p
    have := Hn.out
    omega
  clear hol
  go_enter Try.func3, Try.ntmps3
  go_wp2_with fail
  refine (laid_any w).mono ?_
  rintro e w1 ⟨rfl, hb⟩
  have B1 := hidden hb
  clear hb
  have cr := tread_any s Hlt.out (by have := Hn.out; omega) (HR.out.below B1.out)
  rw [ho] at cr
  go_wp2_with fail
  refine cr.mono ?_
  rintro e w2 ⟨ta, rfl, ha, hb⟩
  have B2 := hidden (B1.out.trans (hb.mono B1.out.size))
  have HA := hidden ha
  clear cr hb ha
  have cr := rtread_any s Hlt.out (by have := Hn.out; omega) (HR.out.below B2.out)
  rw [ho] at cr
  go_wp2_with fail
  refine cr.mono ?_
  rintro e w3 ⟨tb, rfl, hb', hb⟩
  have B3 := hidden (B2.out.trans (hb.mono B2.out.size))
  have cs := same_any ta tb o.1 w3 hTl (HA.out.below hb) hb'
  obtain ⟨tka, tkc, rfl, _⟩ := HA.out
  obtain ⟨tkb, tkd, rfl, _⟩ := hb'
  clear cr hb
  go_wp2_with fail
  refine cs.mono ?_
  rintro e w4 ⟨rfl, hb⟩
  have B4 := hidden (B3.out.trans (hb.mono B3.out.size))
  clear cs hb
  go_wp2_with fail
  go_ret
  exact ⟨rfl, B4.out⟩
theorem law (v : Value) (n : Nat) (f : Nat → Nat) (s : Bool) (w : World) (h : IsArg w v n f) :
    Calls Try.prog 3 #[v, .bool s] w fun e w' => e = .returned (.bool true) ∧ Below w.heap.size w w' := by
  rcases Nat.lt_or_ge 300 n with hn | hn
  · exact long v n f s w h hn
  · exact short v n f s w h hn
set_option maxRecDepth 100000 in
theorem lifted (os : Os) (started : os.Started) (H : Type) (enc : TypeId × Value → H) :
    ReturnsInHanded {} Try.checked os 3 .any (Rows.treeReadsSpec.pre6 enc Try.prog Try.f3 Rows.treeReadsRow.domain false) (Rows.treeReadsSpec.post enc Try.prog Try.f3 false true false false) := by
  refine returnsInHanded_of_change (C := Try.checked) own started (by kernel_rfl) Try.func3
    (ChangeSpec.witness6 (enc := enc) (C := Try.checked) false ⟨#[], #[.slice none 0 0, .bool false], []⟩ 8 (by kernel_rfl) (by kernel_rfl) (by kernel_rfl) (by kernel_rfl)) ?_
  intro W base args ds gs before hval0 hW _ _
  have hval : ∀ (j : Nat) t v, Try.f3.params[j]? = some t → args[j]? = some v → Value.okWide Try.prog W .any base t v := hval0
  have hW' := hW
  obtain ⟨p, q, hA0, hV, rfl, _, _⟩ := hW
  have hA : DataW.TrodAll enc Try.prog W 0 (fun _ => true) true Try.f3.params.toList args.toList ds p := hA0
  rw [Try.params3] at hA hval
  obtain ⟨v0, vs0, d0, ds0, p0, q0, hargs, rfl, rfl, h0, r0⟩ := trodAll_cons hA
  obtain ⟨v1, vs1, d1, ds1, p1, q1, rfl, rfl, rfl, h1, r1⟩ := trodAll_cons r0
  obtain ⟨rfl, rfl, rfl⟩ := trodAll_nil r1
  obtain rfl : args = #[v0, v1] := by cases args; simp_all
  obtain ⟨rfl, rfl⟩ := trodVars_none hV
  have lt0 : ∀ x ∈ p0, x.block < W.heap.size := by obtain ⟨m, hm⟩ := h0; exact DataW.trod_lt m _ _ _ hm
  obtain ⟨n0, f0, g0⟩ := open_bytes (hval 0 22 v0 rfl rfl) h0
  obtain ⟨x1, rfl, rfl, rfl⟩ := open_bool Try.underlying4 (hval 1 4 v1 rfl rfl) h1
  clear hA0 hval0
  simp only [List.append_nil] at hW'
  refine (law v0 n0 f0 x1 W g0).mono fun e W' ⟨he, bel⟩ => ?_
  subst he
  exact ⟨_, rfl, _, _, _, [], _, [], hW', trodAll_mk1 (shut_bool Try.underlying4 _), (trodAll_cons_mk (Below.trod laidOut (by kernel_rfl) (of_decide_eq_true (by kernel_rfl)) h0 bel lt0) (trodAll_cons_mk (shut_bool Try.underlying4 _) trodAll_mk0)), rfl, bel.frame _, fun h => by cases h⟩

theorem said : Rows.TreeReadsSaid :=
  OpenClaim.holds_of_wide 3 Try.f3 rfl rfl rfl rfl rfl rfl rfl ⟨rfl, rfl, rfl, rfl, rfl⟩ rfl rfl rfl rfl rfl (by kernel_rfl) Try.func3 (by kernel_rfl)
    (of_decide_eq_true (by kernel_rfl)) (by unfold Func.isWrapper; first | (rw [if_pos (by decide +kernel)]; kernel_rfl) | (rw [if_neg (by decide +kernel)]; exact ⟨rfl, rfl⟩))
    (fun os started H enc _ => lifted os started H enc)
#print axioms said
end Go.Proofs.Ytfakfgmengcndaa.Reads
