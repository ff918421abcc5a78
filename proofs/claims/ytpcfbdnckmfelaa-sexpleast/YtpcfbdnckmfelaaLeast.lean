/- What is wrong at a byte is wrong there whatever follows, and nothing ahead of it is: cut there, more bytes must come. -/
import Derived.Test.YtpcfbdnckmfelaaAp
namespace Go.Proofs.Ytpcfbdnckmfelaa.Least
open Go.ChangeShapes Go.WideShapes Go.ChangeAt Go.RowKit Go.Proofs.PlatenSexp
set_option linter.unusedVariables false
set_option maxRecDepth 100000

set_option maxHeartbeats 4000000 in
theorem long (v : Value) (n : Nat) (f : Nat → Nat) (v2 : Value) (n2 : Nat) (f2 : Nat → Nat) (w : World) (h : IsArg w v n f) (h2 : IsArgS w v2 n2 f2) (hn : 100 < n) :
    Calls Try.prog 7 #[v, v2] w fun e w' => e = .returned (.bool true) ∧ Below w.heap.size w w' := by
  obtain ⟨hf, hm, a, cap, rfl, _⟩ := h
  obtain ⟨⟨hf2, hm2, a2, cap2, rfl, _⟩, _⟩ := h2
  have hlz : (100 : Int) < (n : Int) := by omega
  clear hn
  go_enter Try.func7, Try.ntmps7
  go_wp2_with fail
  refine (lists_any w).mono ?_
  rintro e w1 ⟨rfl, hb1⟩
  have B1 := hidden hb1
  clear hb1
  go_wp2_with fail
  refine (lists_any w1).mono ?_
  rintro e w2 ⟨rfl, hb2⟩
  have B2 := hidden (B1.out.trans (hb2.mono B1.out.size))
  clear hb2
  go_wp2_with fail
  go_ret
  exact ⟨rfl, B2.out⟩
set_option maxHeartbeats 4000000 in
theorem long2 (v : Value) (n : Nat) (f : Nat → Nat) (v2 : Value) (n2 : Nat) (f2 : Nat → Nat) (w : World) (h : IsArg w v n f) (h2 : IsArgS w v2 n2 f2) (hn : n ≤ 100) (hn2 : 100 < n2) :
    Calls Try.prog 7 #[v, v2] w fun e w' => e = .returned (.bool true) ∧ Below w.heap.size w w' := by
  obtain ⟨hf, hm, a, cap, rfl, _⟩ := h
  obtain ⟨⟨hf2, hm2, a2, cap2, rfl, _⟩, _⟩ := h2
  have hlz : ¬ ((100 : Int) < (n : Int)) := by omega
  have hlz2 : (100 : Int) < (n2 : Int) := by omega
  clear hn hn2
  go_enter Try.func7, Try.ntmps7
  go_wp2_with fail
  refine (lists_any w).mono ?_
  rintro e w1 ⟨rfl, hb1⟩
  have B1 := hidden hb1
  clear hb1
  go_wp2_with fail
  refine (lists_any w1).mono ?_
  rintro e w2 ⟨rfl, hb2⟩
  have B2 := hidden (B1.out.trans (hb2.mono B1.out.size))
  clear hb2
  go_wp2_with fail
  go_ret
  exact ⟨rfl, B2.out⟩
set_option maxHeartbeats 8000000 in
theorem short (v : Value) (n : Nat) (f : Nat → Nat) (v2 : Value) (n2 : Nat) (f2 : Nat → Nat) (w : World) (h : IsArg w v n f) (h2 : IsArgS w v2 n2 f2) (hn : n ≤ 100) (hn2 : n2 ≤ 100) :
    Calls Try.prog 7 #[v, v2] w fun e w' => e = .returned (.bool true) ∧ Below w.heap.size w w' := by
  obtain ⟨hf, hm, hr⟩ := h
  obtain ⟨⟨hf2, hm2, hr2⟩, hs2⟩ := h2
  have HR := hidden hr
  have HS2 := hidden hs2
  obtain ⟨a, cap, rfl, _⟩ := hr
  obtain ⟨a2, cap2, rfl, _⟩ := hr2
  have hlz : ¬ ((100 : Int) < (n : Int)) := by omega
  have hlz2 : ¬ ((100 : Int) < (n2 : Int)) := by omega
  have Hf := hidden hf
  have Hf2 := hidden hf2
  have Hn := hidden hn
  have Hn2 := hidden hn2
  obtain ⟨i0, hi, hz0, hz1, hz2⟩ := info_parts info5
  clear hn hf hn2 hf2 hs2
  go_enter Try.func7, Try.ntmps7
  go_wp2_with fail
  refine (lists_any w).mono ?_
  rintro e w1 ⟨rfl, hb1⟩
  have B1 := hidden hb1
  have HR1 := hidden (HR.out.below hb1)
  have HS1 := hidden (HS2.out.below hb1)
  clear hb1
  have ct := text_any _ n f w1 Hf.out HR1.out (by have := Hn.out; omega)
  go_wp2_with fail
  refine ct.mono ?_
  rintro e wr ⟨p, rfl, hown, hnx⟩
  have Hown := hidden hown
  have Hnx := hidden hnx
  clear hown hnx ct
  have hrow := row_of Hown.out
  have B2 := hidden (B1.out.trans (Hnx.out.mono B1.out.size))
  have cr := read_any _ n (fun j => sgn (f j)) wr (fun j => sgn_lt _) (by have := Hn.out; omega) hrow
  have Hrow := hidden hrow
  have Hks : Hid (n ≤ 100) := Hn.out
  obtain ⟨va, vc, rfl, _⟩ := hrow
  generalize hg : (fun j => sgn (f j)) = g at *
  have Hg : Hid (∀ j, g j < 256) := fun j => by rw [← hg]; exact sgn_lt _
  clear hg
  rcases ans_cases g n with ⟨h1, h2⟩ | h1 | ⟨j, x, hj, hx, h1, h5, h6⟩
  · have HO : Hid ((ans g n).2.2 = 0) := h1
    unfold RdP at cr
    rw [h1, h2] at cr
    clear h1 h2
    go_wp2_with fail
    refine cr.mono ?_
    rintro e w3 ⟨tv, rfl, ht, hb2⟩
    have B3 := hidden (B2.out.trans (hb2.mono B2.out.size))
    clear cr hb2 ht
    go_wp2_with fail
    go_ret
    exact ⟨rfl, B3.out⟩
  · rw [h1] at cr
    clear h1
    go_wp2_with fail
    refine cr.mono ?_
    rintro e w3 ⟨tv, rfl, ht, hb2⟩
    have B3 := hidden (B2.out.trans (hb2.mono B2.out.size))
    clear cr hb2 ht
    go_wp2_with fail
    go_ret
    exact ⟨rfl, B3.out⟩
  · rw [h1] at cr
    have zx : ((x : Int) == 0) = false := by simp; omega
    have zj : ((j : Int) == (n : Int)) = false := by simp; omega
    have zj2 : ¬ ((j : Int) < 0) := by omega
    have zj3 : ¬ ((n : Int) < (j : Int)) := by omega
    obtain ⟨a', cap', hva, hrw⟩ := Hrow.out
    injection hva with e1 e2 e3
    subst e1 e3
    obtain ⟨b, off, rfl, hcap, hcell⟩ := hrw (by omega)
    have zj4 : (j : Int) + 1 ≤ (vc : Int) := by omega
    have hjn1 : ((j : Int) + 1).toNat = j + 1 := by omega
    have H5 := hidden h5
    have H6 := hidden h6
    have Hj := hidden hj
    have hjk : j ≤ 100 := by have := Hks.out; omega
    clear h1 h5 h6 hx hrw e2 hcell
    go_wp2_with fail
    refine cr.mono ?_
    rintro e w3 ⟨tv, rfl, ht, hb2⟩
    have B3 := hidden (B2.out.trans (hb2.mono B2.out.size))
    have Hrow3 := hidden (Hrow.out.below hb2)
    have hsrc : Src wr (.slice (some ⟨b, off, none⟩) n vc) (listOf g n) := src_own (by rw [listOf_len]) (by rw [← rowG_eq]; exact Hown.out)
    have Hsrc3 := hidden (hsrc.below hb2)
    have HS3 := hidden ((HS1.out.below Hnx.out).below hb2)
    have hsP : Src w3 (.slice (some ⟨b, off, none⟩) (j + 1) vc) ((listOf g n).take (j + 1)) := by
      rcases Hsrc3.out with ⟨e, _⟩ | ⟨ad, cp, e, hc⟩
      · cases e
      · injection e with e1 e2 e3
        injection e1 with e1
        subst e1 e3
        exact src_head (n := n) hc (j + 1) (by rw [listOf_len]; omega)
    have hnil : w3.ownsRow w3.heap.size 5 1 (.slice none 0 0) ([] : List Nat).length (rowL []) := World.ownsRow_nil _ _ _ _
    have Hl1 : Hid (((listOf g n).take (j + 1)).length = j + 1) := by unfold Hid; rw [List.length_take, listOf_len]; omega
    have Hl2 : Hid ((listOf f2 n2).length = n2) := listOf_len _ _
    have Hq : Hid (∀ t, t ≤ j → fOf ((listOf g n).take (j + 1) ++ listOf f2 n2) t = g t) := fun t ht => by
      have hl := Hl1.out
      rw [fOf_get _ _ (by rw [List.length_append, hl]; omega), List.getElem_append_left (by rw [hl]; omega), List.getElem_take]
      simp [listOf]
    have Hq2 : Hid (∀ c ∈ (listOf g n).take (j + 1) ++ listOf f2 n2, c < 256) := fun c hc => by
      rcases List.mem_append.1 hc with h | h
      · exact listOf_lt Hg.out n c (List.mem_of_mem_take h)
      · exact listOf_lt Hf2.out n2 c h
    clear cr hb2 ht hsrc
    generalize (listOf g n).take (j + 1) = LP at *
    generalize listOf f2 n2 = LM at *
    have n1 : Hid (([] : List Nat).length ≤ 100000 ∧ LP.length ≤ 100000) := by have := Hl1.out; exact ⟨by decide, by omega⟩
    go_wp2_with (at_builtin; refine append_src rfl _ _ rfl w3.heap.size _ [] rfl hnil _ LP rfl hsP n1.out.1 n1.out.2 (Nat.le_refl _) ?_)
    intro v' w4 ho4 hg4
    have B4 := hidden (below_append' (Nat.le_refl _) hnil (Below.refl _ _) hg4)
    replace ho4 : w4.ownsRow w3.heap.size 5 1 v' LP.length (rowL LP) := ho4
    have hsM := HS3.out.below B4.out
    have n2' : Hid (LP.length ≤ 100000 ∧ LM.length ≤ 100000) := by have := Hl1.out; have := Hl2.out; have := Hn2.out; exact ⟨by omega, by omega⟩
    have hs4 := B4.out.size
    clear hnil hg4 hsP
    go_wp2_with (at_builtin; refine append_src rfl _ _ rfl w3.heap.size _ LP rfl ho4 _ LM rfl hsM n2'.out.1 n2'.out.2 hs4 ?_)
    intro v5 w5 ho5 hg5
    have B5 := hidden (below_append' hs4 ho4 B4.out hg5)
    have hrow5 := row_ofL (L := LP ++ LM) (by simp) ho5
    have hl5 : LP.length + LM.length = j + 1 + n2 := by rw [Hl1.out, Hl2.out]
    have cq := read_any _ _ _ w5 (fOf_lt Hq2.out) (by rw [hl5]; have := Hn2.out; omega) hrow5
    rw [H5.out _ _ Hq.out (by rw [hl5]; omega)] at cq
    obtain ⟨va5, vc5, rfl, _⟩ := hrow5
    have Hp5 := hidden (Row.head (Hrow3.out.below B5.out) (m := j) (by have := Hj.out; omega))
    have B6 := hidden (B3.out.trans (B5.out.mono B3.out.size))
    clear ho4 ho5 hg5 hs4 hsM hl5
    go_wp2_with fail
    refine cq.mono ?_
    rintro e w6 ⟨tv6, rfl, _, hb6⟩
    have B7 := hidden (B6.out.trans (hb6.mono B6.out.size))
    have ch := read_any _ j g w6 Hg.out (by omega) (Hp5.out.below hb6)
    have zj5 : (j : Int) ≤ (vc : Int) := by omega
    clear cq hb6
    rcases H6.out g (fun t _ => rfl) with h6 | h6
    · unfold RdP at ch
      rw [h6] at ch
      generalize (ans g j).2.1 = y at *
      clear h6
      go_wp2_with fail
      refine ch.mono ?_
      rintro e w7 ⟨tv7, rfl, _, hb7⟩
      have B8 := hidden (B7.out.trans (hb7.mono B7.out.size))
      clear ch hb7
      go_wp2_with fail
      go_ret
      exact ⟨by simp, B8.out⟩
    · rw [h6] at ch
      clear h6
      go_wp2_with fail
      refine ch.mono ?_
      rintro e w7 ⟨tv7, rfl, _, hb7⟩
      have B8 := hidden (B7.out.trans (hb7.mono B7.out.size))
      clear ch hb7
      go_wp2_with fail
      go_ret
      exact ⟨by simp, B8.out⟩
theorem law (v : Value) (n : Nat) (f : Nat → Nat) (v2 : Value) (n2 : Nat) (f2 : Nat → Nat) (w : World) (h : IsArg w v n f) (h2 : IsArgS w v2 n2 f2) :
    Calls Try.prog 7 #[v, v2] w fun e w' => e = .returned (.bool true) ∧ Below w.heap.size w w' := by
  by_cases hn : 100 < n
  · exact long v n f v2 n2 f2 w h h2 hn
  · by_cases hn2 : 100 < n2
    · exact long2 v n f v2 n2 f2 w h h2 (by omega) hn2
    · exact short v n f v2 n2 f2 w h h2 (by omega) (by omega)


set_option maxRecDepth 100000 in
theorem lifted (os : Os) (started : os.Started) (H : Type) (enc : TypeId × Value → H) :
    ReturnsInHanded {} Try.checked os 7 .any (Rows.sexpLeastSpec.pre6 enc Try.prog Try.f7 Rows.sexpLeastRow.domain false) (Rows.sexpLeastSpec.post enc Try.prog Try.f7 false true false false) := by
  refine returnsInHanded_of_change (C := Try.checked) own started (by kernel_rfl) Try.func7
    (ChangeSpec.witness6 (enc := enc) (C := Try.checked) false ⟨#[], #[.slice none 0 0, .slice none 0 0], []⟩ 8 (by kernel_rfl) (by kernel_rfl) (by kernel_rfl) (by kernel_rfl)) ?_
  intro W base args ds gs before hval0 hW _ _
  have hval : ∀ (j : Nat) t v, Try.f7.params[j]? = some t → args[j]? = some v → Value.okWide Try.prog W .any base t v := hval0
  have hW' := hW
  obtain ⟨p, q, hA0, hV, rfl, _, _⟩ := hW
  have hA : DataW.TrodAll enc Try.prog W 0 (fun _ => true) true Try.f7.params.toList args.toList ds p := hA0
  rw [Try.params7] at hA hval
  obtain ⟨v0, vs0, d0, ds0, p0, q0, hargs, rfl, rfl, h0, r0⟩ := trodAll_cons hA
  obtain ⟨v1, vs1, d1, ds1, p1, q1, rfl, rfl, rfl, h1, r1⟩ := trodAll_cons r0
  obtain ⟨rfl, rfl, rfl⟩ := trodAll_nil r1
  obtain rfl : args = #[v0, v1] := by cases args; simp_all
  obtain ⟨rfl, rfl⟩ := trodVars_none hV
  have lt0 : ∀ x ∈ p0, x.block < W.heap.size := by obtain ⟨m, hm⟩ := h0; exact DataW.trod_lt m _ _ _ hm
  obtain ⟨n0, f0, g0⟩ := open_bytes (hval 0 22 v0 rfl rfl) h0
  have lt1 : ∀ x ∈ p1, x.block < W.heap.size := by obtain ⟨m, hm⟩ := h1; exact DataW.trod_lt m _ _ _ hm
  obtain ⟨n1, f1, g1⟩ := open_src (hval 1 22 v1 rfl rfl) h1
  clear hA0 hval0
  simp only [List.append_nil] at hW'
  refine (law v0 n0 f0 v1 n1 f1 W g0 g1).mono fun e W' ⟨he, bel⟩ => ?_
  subst he
  exact ⟨_, rfl, _, _, _, [], _, [], hW', trodAll_mk1 (shut_bool Try.underlying4 _), (trodAll_cons_mk (Below.trod laidOut (by kernel_rfl) (of_decide_eq_true (by kernel_rfl)) h0 bel lt0) (trodAll_cons_mk (Below.trod laidOut (by kernel_rfl) (of_decide_eq_true (by kernel_rfl)) h1 bel lt1) trodAll_mk0)), rfl, bel.frame _, fun h => by cases h⟩

theorem said : Rows.SexpLeastSaid :=
  OpenClaim.holds_of_wide 7 Try.f7 rfl rfl rfl rfl rfl rfl rfl ⟨rfl, rfl, rfl, rfl, rfl⟩ rfl rfl rfl rfl rfl (by kernel_rfl) Try.func7 (by kernel_rfl)
    (of_decide_eq_true (by kernel_rfl)) (by unfold Func.isWrapper; first | (rw [if_pos (by decide +kernel)]; kernel_rfl) | (rw [if_neg (by decide +kernel)]; exact ⟨rfl, rfl⟩))
    (fun os started H enc _ => lifted os started H enc)
#print axioms said
end Go.Proofs.Ytpcfbdnckmfelaa.Least
