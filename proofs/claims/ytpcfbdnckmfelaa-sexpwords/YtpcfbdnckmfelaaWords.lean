/- Of any text of S-expressions' own bytes Read answers just what the document's Read answers. -/
import Derived.Test.YtpcfbdnckmfelaaSg
namespace Go.Proofs.Ytpcfbdnckmfelaa.Words
open Go.ChangeShapes Go.WideShapes Go.ChangeAt Go.RowKit Go.Proofs.PlatenSexp
set_option linter.unusedVariables false
set_option maxRecDepth 100000

set_option maxHeartbeats 4000000 in
theorem long (v : Value) (n : Nat) (f : Nat → Nat) (w : World) (h : IsArg w v n f) (hn : 120 < n) :
    Calls Try.prog 4 #[v] w fun e w' => e = .returned (.bool true) ∧ Below w.heap.size w w' := by
  obtain ⟨hf, hm, a, cap, rfl, _⟩ := h
  have hlz : (120 : Int) < (n : Int) := by omega
  clear hn
  go_enter Try.func4, Try.ntmps4
  go_wp2_with fail
  refine (lists_any w).mono ?_
  rintro e w1 ⟨rfl, hb1⟩
  have B1 := hidden hb1
  clear hb1
  go_wp2_with fail
  refine (lists_any w1).mono ?_
  rintro e w2 ⟨rfl, hb2⟩
  have B2 := hidden (B1.out.trans (hb2.mono B1.out.size))
  clear hb2
  go_wp2_with fail
  go_ret
  exact ⟨rfl, B2.out⟩
set_option maxHeartbeats 4000000 in
theorem short (v : Value) (n : Nat) (f : Nat → Nat) (w : World) (h : IsArg w v n f) (hn : n ≤ 120) :
    Calls Try.prog 4 #[v] w fun e w' => e = .returned (.bool true) ∧ Below w.heap.size w w' := by
  obtain ⟨hf, hm, hr⟩ := h
  have HR := hidden hr
  obtain ⟨a, cap, rfl, _⟩ := hr
  have hlz : ¬ ((120 : Int) < (n : Int)) := by omega
  have Hf := hidden hf
  have Hn := hidden hn
  clear hn hf
  go_enter Try.func4, Try.ntmps4
  go_wp2_with fail
  refine (lists_any w).mono ?_
  rintro e w1 ⟨rfl, hb1⟩
  have B1 := hidden hb1
  have ct := text_any _ n f w1 Hf.out (HR.out.below hb1) Hn.out
  clear hb1
  go_wp2_with fail
  refine ct.mono ?_
  rintro e wr ⟨p, rfl, hown, hnx⟩
  clear ct
  have hrow := row_of hown
  have B2 := hidden (B1.out.trans (hnx.mono B1.out.size))
  have cr := read_any _ n (fun j => sgn (f j)) wr (fun j => sgn_lt _) (by have := Hn.out; omega) hrow
  have Hlen : Hid ((ans (fun j => sgn (f j)) n).1.length ≤ 1000000) := ans_len _ n (by have := Hn.out; omega)
  have Hrow := hidden hrow
  obtain ⟨va, vc, rfl, _⟩ := hrow
  generalize hg : (fun j => sgn (f j)) = g at *
  have Hg : Hid (∀ j, g j < 256) := fun j => by rw [← hg]; exact sgn_lt _
  clear hg hown hnx
  go_wp2_with fail
  refine cr.mono ?_
  rintro e w3 ⟨tv, rfl, ht, hb2⟩
  have B3 := hidden (B2.out.trans (hb2.mono B2.out.size))
  have cd := rread_any _ n g w3 Hg.out (by have := Hn.out; omega) (Hrow.out.below hb2)
  have HT := hidden ht
  clear cr hb2 ht
  go_wp2_with fail
  refine cd.mono ?_
  rintro e w4 ⟨tv2, rfl, ht2, hb3⟩
  have B4 := hidden (B3.out.trans (hb3.mono B3.out.size))
  have cs := same_any tv tv2 _ w4 Hlen.out (HT.out.below hb3) ht2
  clear cd hb3 ht2
  generalize (ans g n).2.1 = x at *
  generalize (ans g n).2.2 = y at *
  go_wp2_with fail
  refine cs.mono ?_
  rintro e w5 ⟨rfl, hb4⟩
  have B5 := hidden (B4.out.trans (hb4.mono B4.out.size))
  clear cs hb4
  go_wp2_with fail
  go_ret
  exact ⟨rfl, B5.out⟩
theorem law (v : Value) (n : Nat) (f : Nat → Nat) (w : World) (h : IsArg w v n f) :
    Calls Try.prog 4 #[v] w fun e w' => e = .returned (.bool true) ∧ Below w.heap.size w w' := by
  by_cases hn : 120 < n
  · exact long v n f w h hn
  · exact short v n f w h (by omega)


set_option maxRecDepth 100000 in
theorem lifted (os : Os) (started : os.Started) (H : Type) (enc : TypeId × Value → H) :
    ReturnsInHanded {} Try.checked os 4 .any (Rows.sexpWordsSpec.pre6 enc Try.prog Try.f4 Rows.sexpWordsRow.domain false) (Rows.sexpWordsSpec.post enc Try.prog Try.f4 false true false false) := by
  refine returnsInHanded_of_change (C := Try.checked) own started (by kernel_rfl) Try.func4
    (ChangeSpec.witness6 (enc := enc) (C := Try.checked) false ⟨#[], #[.slice none 0 0], []⟩ 8 (by kernel_rfl) (by kernel_rfl) (by kernel_rfl) (by kernel_rfl)) ?_
  intro W base args ds gs before hval0 hW _ _
  have hval : ∀ (j : Nat) t v, Try.f4.params[j]? = some t → args[j]? = some v → Value.okWide Try.prog W .any base t v := hval0
  have hW' := hW
  obtain ⟨p, q, hA0, hV, rfl, _, _⟩ := hW
  have hA : DataW.TrodAll enc Try.prog W 0 (fun _ => true) true Try.f4.params.toList args.toList ds p := hA0
  rw [Try.params4] at hA hval
  obtain ⟨v0, vs0, d0, ds0, p0, q0, hargs, rfl, rfl, h0, r0⟩ := trodAll_cons hA
  obtain ⟨rfl, rfl, rfl⟩ := trodAll_nil r0
  obtain rfl : args = #[v0] := by cases args; simp_all
  obtain ⟨rfl, rfl⟩ := trodVars_none hV
  have lt0 : ∀ x ∈ p0, x.block < W.heap.size := by obtain ⟨m, hm⟩ := h0; exact DataW.trod_lt m _ _ _ hm
  obtain ⟨n0, f0, g0⟩ := open_bytes (hval 0 22 v0 rfl rfl) h0
  clear hA0 hval0
  simp only [List.append_nil] at hW'
  refine (law v0 n0 f0 W g0).mono fun e W' ⟨he, bel⟩ => ?_
  subst he
  exact ⟨_, rfl, _, _, _, [], _, [], hW', trodAll_mk1 (shut_bool Try.underlying4 _), (trodAll_cons_mk (Below.trod laidOut (by kernel_rfl) (of_decide_eq_true (by kernel_rfl)) h0 bel lt0) trodAll_mk0), rfl, bel.frame _, fun h => by cases h⟩

theorem said : Rows.SexpWordsSaid :=
  OpenClaim.holds_of_wide 4 Try.f4 rfl rfl rfl rfl rfl rfl rfl ⟨rfl, rfl, rfl, rfl, rfl⟩ rfl rfl rfl rfl rfl (by kernel_rfl) Try.func4 (by kernel_rfl)
    (of_decide_eq_true (by kernel_rfl)) (by unfold Func.isWrapper; first | (rw [if_pos (by decide +kernel)]; kernel_rfl) | (rw [if_neg (by decide +kernel)]; exact ⟨rfl, rfl⟩))
    (fun os started H enc _ => lifted os started H enc)
#print axioms said
end Go.Proofs.Ytpcfbdnckmfelaa.Words
