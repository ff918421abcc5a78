/- Any bytes from 20 (base 16) on but a quote and a backslash, between quotes, are one token. -/
import Derived.Test.YtapghnmeiahgoaaSl
namespace Go.Proofs.Ytapghnmeiahgoaa.Signs
open Go.ChangeShapes Go.WideShapes Go.ChangeAt Go.RowKit Go.Proofs.PlatenJson
set_option linter.unusedVariables false
set_option maxRecDepth 100000

set_option maxHeartbeats 4000000 in
theorem long (v : Value) (n : Nat) (f : Nat → Nat) (w : World) (h : IsArg w v n f) (hn : 300 < n) :
    Calls Try.prog 9 #[v] w fun e w' => e = .returned (.bool true) ∧ Below w.heap.size w w' := by
  obtain ⟨hf, hm, a, cap, rfl, _⟩ := h
  have hlz : (300 : Int) < (n : Int) := by omega
  clear hn
  go_enter Try.func9, Try.ntmps9
  go_wp2_with fail
  refine (lists_any w).mono ?_
  rintro e w1 ⟨rfl, hb1⟩
  have B1 := hidden hb1
  clear hb1
  go_wp2_with fail
  refine (lists_any w1).mono ?_
  rintro e w2 ⟨rfl, hb2⟩
  have B2 := hidden (B1.out.trans (hb2.mono B1.out.size))
  clear hb2
  go_wp2_with fail
  go_ret
  exact ⟨rfl, B2.out⟩
set_option maxHeartbeats 4000000 in
theorem short (v : Value) (n : Nat) (f : Nat → Nat) (w : World) (h : IsArg w v n f) (hn : n ≤ 300) :
    Calls Try.prog 9 #[v] w fun e w' => e = .returned (.bool true) ∧ Below w.heap.size w w' := by
  obtain ⟨hf, hm, hr⟩ := h
  have HR := hidden hr
  obtain ⟨a, cap, rfl, _⟩ := hr
  have hlz : ¬ ((300 : Int) < (n : Int)) := by omega
  have Hf := hidden hf
  have Hn := hidden hn
  obtain ⟨i0, hi, hz0, hz1, hz2⟩ := info_parts info5
  clear hn hf
  go_enter Try.func9, Try.ntmps9
  go_wp2_with fail
  refine (lists_any w).mono ?_
  rintro e w1 ⟨rfl, hb1⟩
  have B1 := hidden hb1
  have HR1 := hidden (HR.out.below hb1)
  clear hb1
  go_wp2_with fail
  go_loopw [3, 4] (fun p i wr => ∃ k : Nat, k ≤ n ∧ i = .int .i64 (k : Nat) ∧ wr.ownsRow w1.heap.size 5 1 p (QL f k).length (rowL (QL f k)) ∧ Below w1.heap.size w1 wr) (fun _ i _ => n - (intOf i).toNat)
  case atStart => exact ⟨0, Nat.zero_le _, rfl, owns_new w1 _ [34] [.int .u8 34] rfl (Nat.le_refl _) (by decide), (Below.refl _ _).alloc (Nat.le_refl _) _⟩
  case round =>
    obtain ⟨k, hk, rfl, hown, hnx⟩ := hrel
    have hql := QL_len f k
    by_cases hlt : k < n
    · have hlz2 : (k : Int) < (n : Int) := by omega
      obtain ⟨a', cap', hva, hrow⟩ := HR1.out.below hnx
      injection hva with e1 e2 e3
      subst e1 e3
      obtain ⟨b, off, rfl, hcap, hc⟩ := hrow (by omega)
      have g0 := hc k hlt
      have g1 := Hf.out k
      have hkb : (QL f k).length ≤ 301 := by have := Hn.out; omega
      have Hc3 := hidden (c3_of (show (QL f k).length ≤ 5000 by omega))
      have hsz := hnx.size
      have Hnx := hidden hnx
      clear hc hrow e2 hnx hql
      cases hok : okc (f k) with
      | true =>
        have Hr : Hid (rowL (QL f (k + 1)) = rowL (QL f k) ++ [.int .u8 (f k : Nat)] ∧ (QL f (k + 1)).length = (QL f k).length + 1) := by
          unfold Hid; rw [QL_yes hok, rowL_app]; exact ⟨rfl, by simp⟩
        simp only [okc, Bool.and_eq_true, decide_eq_true_eq] at hok
        obtain ⟨o1, o2, o3⟩ := hok
        have z1 : (32 : Int) ≤ ((f k : Nat) : Int) := by omega
        have z2 : (((f k : Nat) : Int) != 34) = true := by rw [bne_iff_ne]; omega
        have z3 : (((f k : Nat) : Int) != 92) = true := by rw [bne_iff_ne]; omega
        clear o1 o2 o3
        generalize QL f k = L at *
        generalize f k = c at *
        go_wp2_with (at_builtin; refine wpList_append_own _ rfl _ _ 22 rfl w1.heap.size 5 i0 (.int .u8 0) 1 1 Try.underlying22 hi hz0 hz1 hz2 rfl (by decide) _ _ _ rfl (hown.alloc _) ⟨wr.heap.size, 0, none⟩ 1 1 [.int .u8 (c : Nat)] rfl rfl (cell1 _ _ _) (one1 _) Hc3.out.1 Hc3.out.2 (c5_of hsz) ?_)
        intro v' w2 hown' hgrow _
        have Hb2 := hidden (below_append1 hsz hown Hnx.out hgrow)
        have Hw2 := hidden hown'
        clear hown' hgrow hown g0 g1
        go_wp2
        go_roundw
        case rel => exact ⟨k + 1, by omega, by go_num, by rw [Hr.out.1, Hr.out.2]; exact Hw2.out, Hb2.out⟩
        case measure => simp [intOf]; omega
      | false =>
        have Hr := hidden (QL_no hok)
        have Hown := hidden hown
        clear hown
        by_cases o1 : 32 ≤ f k
        · have z1 : (32 : Int) ≤ ((f k : Nat) : Int) := by omega
          by_cases o2 : f k = 34
          · have z2 : (((f k : Nat) : Int) != 34) = false := by simp; omega
            clear o1 o2 hok
            generalize f k = c at *
            go_wp2
            go_roundw
            case rel => exact ⟨k + 1, by omega, by go_num, by rw [Hr.out]; exact Hown.out, Hnx.out⟩
            case measure => simp [intOf]; omega
          · have z2 : (((f k : Nat) : Int) != 34) = true := by rw [bne_iff_ne]; omega
            have z3 : (((f k : Nat) : Int) != 92) = false := by
              simp only [okc, Bool.and_eq_false_iff, decide_eq_false_iff_not] at hok
              simp; omega
            clear o1 o2 hok
            generalize f k = c at *
            go_wp2
            go_roundw
            case rel => exact ⟨k + 1, by omega, by go_num, by rw [Hr.out]; exact Hown.out, Hnx.out⟩
            case measure => simp [intOf]; omega
        · have z1 : ¬ ((32 : Int) ≤ ((f k : Nat) : Int)) := by omega
          clear o1 hok
          generalize f k = c at *
          go_wp2
          go_roundw
          case rel => exact ⟨k + 1, by omega, by go_num, by rw [Hr.out]; exact Hown.out, Hnx.out⟩
          case measure => simp [intOf]; omega
    · obtain rfl : k = n := by omega
      have hlz2 : ¬ ((k : Int) < (k : Int)) := by omega
      have hkb : (QL f k).length ≤ 301 := by have := Hn.out; omega
      have Hc3 := hidden (c3_of (show (QL f k).length ≤ 5000 by omega))
      have hsz := hnx.size
      have Hnx := hidden hnx
      have Hans := hidden (ans_QL f k)
      have Hlt := hidden (QL_lt f Hf.out k)
      clear hnx hql
      generalize QL f k = L at *
      go_wp2_with (at_builtin; refine wpList_append_own _ rfl _ _ 22 rfl w1.heap.size 5 i0 (.int .u8 0) 1 1 Try.underlying22 hi hz0 hz1 hz2 rfl (by decide) _ _ _ rfl (hown.alloc _) ⟨wr.heap.size, 0, none⟩ 1 1 [.int .u8 34] rfl rfl (cell1 _ _ _) (one1 _) Hc3.out.1 Hc3.out.2 (c5_of hsz) ?_)
      intro v' w2 hown' hgrow _
      have Hb2 := hidden (below_append1 hsz hown Hnx.out hgrow)
      have Hw2 := hidden hown'
      have hown2 : w2.ownsRow w1.heap.size 5 1 v' (L.length + 1) (rowL (L ++ [34])) := by rw [rowL_app]; exact hown'
      have hrow := row_ofL (by simp) hown2
      have B2 := hidden (B1.out.trans (Hb2.out.mono B1.out.size))
      have cr := read_any _ _ _ w2 (fOf_lt Hlt.out) (by omega) hrow
      rw [Hans.out] at cr
      obtain ⟨va, vc, rfl, _⟩ := hrow
      clear hown' hgrow hown hown2 Hw2 Hans
      go_wp2_with fail
      refine cr.mono ?_
      rintro e w3 ⟨tv, rfl, ⟨a3, k3, rfl, h3⟩, hb3⟩
      obtain ⟨g, rfl, hgc, hcell⟩ := h3 Nat.zero_lt_one
      have g2 : w3.cell? ⟨g, 0, none⟩ = some (.int .u8 5) := (hcell 0 Nat.zero_lt_one).1
      have g3 : w3.cell? ⟨g, 1, none⟩ = some (.int .i64 0) := (hcell 0 Nat.zero_lt_one).2.1
      have g4 : w3.cell? ⟨g, 2, none⟩ = some (.int .i64 ((L.length + 1 : Nat) : Int)) := (hcell 0 Nat.zero_lt_one).2.2
      have B3 := hidden (B2.out.trans (hb3.mono B2.out.size))
      clear cr hb3 hcell h3
      generalize hm : L.length + 1 = m at *
      go_wp2_with fail
      go_ret
      exact ⟨by simp, B3.out⟩
theorem law (v : Value) (n : Nat) (f : Nat → Nat) (w : World) (h : IsArg w v n f) :
    Calls Try.prog 9 #[v] w fun e w' => e = .returned (.bool true) ∧ Below w.heap.size w w' := by
  by_cases hn : 300 < n
  · exact long v n f w h hn
  · exact short v n f w h (by omega)


set_option maxRecDepth 100000 in
theorem lifted (os : Os) (started : os.Started) (H : Type) (enc : TypeId × Value → H) :
    ReturnsInHanded {} Try.checked os 9 .any (Rows.jsonSignsSpec.pre6 enc Try.prog Try.f9 Rows.jsonSignsRow.domain false) (Rows.jsonSignsSpec.post enc Try.prog Try.f9 false true false false) := by
  refine returnsInHanded_of_change (C := Try.checked) own started (by kernel_rfl) Try.func9
    (ChangeSpec.witness6 (enc := enc) (C := Try.checked) false ⟨#[], #[.slice none 0 0], []⟩ 8 (by kernel_rfl) (by kernel_rfl) (by kernel_rfl) (by kernel_rfl)) ?_
  intro W base args ds gs before hval0 hW _ _
  have hval : ∀ (j : Nat) t v, Try.f9.params[j]? = some t → args[j]? = some v → Value.okWide Try.prog W .any base t v := hval0
  have hW' := hW
  obtain ⟨p, q, hA0, hV, rfl, _, _⟩ := hW
  have hA : DataW.TrodAll enc Try.prog W 0 (fun _ => true) true Try.f9.params.toList args.toList ds p := hA0
  rw [Try.params9] at hA hval
  obtain ⟨v0, vs0, d0, ds0, p0, q0, hargs, rfl, rfl, h0, r0⟩ := trodAll_cons hA
  obtain ⟨rfl, rfl, rfl⟩ := trodAll_nil r0
  obtain rfl : args = #[v0] := by cases args; simp_all
  obtain ⟨rfl, rfl⟩ := trodVars_none hV
  have lt0 : ∀ x ∈ p0, x.block < W.heap.size := by obtain ⟨m, hm⟩ := h0; exact DataW.trod_lt m _ _ _ hm
  obtain ⟨n0, f0, g0⟩ := open_bytes (hval 0 22 v0 rfl rfl) h0
  clear hA0 hval0
  simp only [List.append_nil] at hW'
  refine (law v0 n0 f0 W g0).mono fun e W' ⟨he, bel⟩ => ?_
  subst he
  exact ⟨_, rfl, _, _, _, [], _, [], hW', trodAll_mk1 (shut_bool Try.underlying4 _), (trodAll_cons_mk (Below.trod laidOut (by kernel_rfl) (of_decide_eq_true (by kernel_rfl)) h0 bel lt0) trodAll_mk0), rfl, bel.frame _, fun h => by cases h⟩

theorem said : Rows.JsonSignsSaid :=
  OpenClaim.holds_of_wide 9 Try.f9 rfl rfl rfl rfl rfl rfl rfl ⟨rfl, rfl, rfl, rfl, rfl⟩ rfl rfl rfl rfl rfl (by kernel_rfl) Try.func9 (by kernel_rfl)
    (of_decide_eq_true (by kernel_rfl)) (by unfold Func.isWrapper; first | (rw [if_pos (by decide +kernel)]; kernel_rfl) | (rw [if_neg (by decide +kernel)]; exact ⟨rfl, rfl⟩))
    (fun os started H enc _ => lifted os started H enc)
#print axioms said
end Go.Proofs.Ytapghnmeiahgoaa.Signs
