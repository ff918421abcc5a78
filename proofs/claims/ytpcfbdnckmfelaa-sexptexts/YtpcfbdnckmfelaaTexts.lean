/- A text goes up to the first quote that has no backslash ahead of it: any bytes are in it. -/
import Derived.Test.YtpcfbdnckmfelaaAp
namespace Go.Proofs.Ytpcfbdnckmfelaa.Texts
open Go.ChangeShapes Go.WideShapes Go.ChangeAt Go.RowKit Go.Proofs.PlatenSexp
set_option linter.unusedVariables false
set_option maxRecDepth 100000

/-- The first k bytes of f as a text has them, behind its quote. -/
def XL (f : Nat → Nat) (k : Nat) : List Nat := [34] ++ EL ((List.range k).map f)
theorem XL_succ (f : Nat → Nat) (k : Nat) : XL f (k + 1) = XL f k ++ esc (f k) := by
  simp [XL, List.range_succ, EL_snoc]
theorem XL_len (f : Nat → Nat) (k : Nat) : (XL f k).length ≤ 2 * k + 1 := by
  have := EL_len ((List.range k).map f)
  simp at this
  simp [XL]; omega
theorem ans_XL (f : Nat → Nat) (k : Nat) : ans (fOf (XL f k ++ [34])) ((XL f k).length + 1) = ([(5, 0, (XL f k).length + 1)], 0, 0) := by
  have := ans_text ((List.range k).map f)
  have e : (XL f k).length = (EL ((List.range k).map f)).length + 1 := by simp [XL]
  rw [e]
  exact this
theorem ans_XL2 (f : Nat → Nat) (k : Nat) : ans (fOf (XL f k ++ [34])) (XL f k).length = ([], (XL f k).length, 5) := by
  have := ans_text_cut ((List.range k).map f)
  have e : (XL f k).length = (EL ((List.range k).map f)).length + 1 := by simp [XL]
  rw [e]
  exact this
theorem esc_lt {c : Nat} (h : c < 256) : ∀ x ∈ esc c, x < 256 := by
  intro x hx
  unfold esc at hx
  split at hx <;> simp at hx <;> omega
theorem XL_lt (f : Nat → Nat) (hf : ∀ j, f j < 256) (k : Nat) : ∀ c ∈ XL f k ++ [34], c < 256 := by
  intro c hc
  simp only [XL, EL, List.mem_append, List.mem_singleton, List.mem_flatMap, List.mem_map] at hc
  rcases hc with (rfl | ⟨y, ⟨j, _, rfl⟩, hy⟩) | rfl
  · decide
  · exact esc_lt (hf j) c hy
  · decide
set_option maxHeartbeats 4000000 in
theorem long (v : Value) (n : Nat) (f : Nat → Nat) (w : World) (h : IsArg w v n f) (hn : 300 < n) :
    Calls Try.prog 9 #[v] w fun e w' => e = .returned (.bool true) ∧ Below w.heap.size w w' := by
  obtain ⟨hf, hm, a, cap, rfl, _⟩ := h
  have hlz : (300 : Int) < (n : Int) := by omega
  clear hn
  go_enter Try.func9, Try.ntmps9
  go_wp2_with fail
  refine (lists_any w).mono ?_
  rintro e w1 ⟨rfl, hb1⟩
  have B1 := hidden hb1
  clear hb1
  go_wp2_with fail
  refine (lists_any w1).mono ?_
  rintro e w2 ⟨rfl, hb2⟩
  have B2 := hidden (B1.out.trans (hb2.mono B1.out.size))
  clear hb2
  go_wp2_with fail
  go_ret
  exact ⟨rfl, B2.out⟩
set_option maxHeartbeats 8000000 in
theorem short (v : Value) (n : Nat) (f : Nat → Nat) (w : World) (h : IsArg w v n f) (hn : n ≤ 300) :
    Calls Try.prog 9 #[v] w fun e w' => e = .returned (.bool true) ∧ Below w.heap.size w w' := by
  obtain ⟨hf, hm, hr⟩ := h
  have HR := hidden hr
  obtain ⟨a, cap, rfl, _⟩ := hr
  have hlz : ¬ ((300 : Int) < (n : Int)) := by omega
  have Hf := hidden hf
  have Hn := hidden hn
  obtain ⟨i0, hi, hz0, hz1, hz2⟩ := info_parts info5
  clear hn hf
  go_enter Try.func9, Try.ntmps9
  go_wp2_with fail
  refine (lists_any w).mono ?_
  rintro e w1 ⟨rfl, hb1⟩
  have B1 := hidden hb1
  have HR1 := hidden (HR.out.below hb1)
  clear hb1
  go_wp2_with fail
  go_loopw [3, 4] (fun p i wr => ∃ k : Nat, k ≤ n ∧ i = .int .i64 (k : Nat) ∧ wr.ownsRow w1.heap.size 5 1 p (XL f k).length (rowL (XL f k)) ∧ Below w1.heap.size w1 wr) (fun _ i _ => n - (intOf i).toNat)
  case atStart => exact ⟨0, Nat.zero_le _, rfl, owns_new w1 _ [34] [.int .u8 34] rfl (Nat.le_refl _) (by decide), (Below.refl _ _).alloc (Nat.le_refl _) _⟩
  case round =>
    obtain ⟨k, hk, rfl, hown, hnx⟩ := hrel
    have hql := XL_len f k
    by_cases hlt : k < n
    · have hlz2 : (k : Int) < (n : Int) := by omega
      obtain ⟨a', cap', hva, hrow⟩ := HR1.out.below hnx
      injection hva with e1 e2 e3
      subst e1 e3
      obtain ⟨b, off, rfl, hcap, hc⟩ := hrow (by omega)
      have g0 := hc k hlt
      have g1 := Hf.out k
      have hkb : (XL f k).length ≤ 601 := by have := Hn.out; omega
      have Hc3 := hidden (c3_of (show (XL f k).length ≤ 5000 by omega))
      have hsz := hnx.size
      have Hnx := hidden hnx
      have hbl := World.block_lt_of_cell? _ _ g0
      simp only at hbl
      clear hc hrow e2 hnx hql
      by_cases hq : f k = 34 ∨ f k = 92
      · have Hr : Hid (rowL (XL f (k + 1)) = rowL (XL f k) ++ [.int .u8 92, .int .u8 (f k : Nat)] ∧ (XL f (k + 1)).length = (XL f k).length + 1 + 1) := by
          unfold Hid; rw [XL_succ]; simp only [esc, hq, if_true]; rw [rowL_app, List.length_append]; exact ⟨by simp [rowL], rfl⟩
        have Hc4 := hidden (c3_of (show (XL f k).length + 1 ≤ 5000 by omega))
        have Hck : Hid (∀ w', Below w1.heap.size w1 w' → w'.cell? ⟨b, off + k, none⟩ = some (.int .u8 (f k : Nat))) := fun w' hb' => by
          obtain ⟨a', cap', hva, hrow⟩ := HR1.out.below hb'
          injection hva with e1 e2 e3
          subst e1 e3
          obtain ⟨b', off', hbo, _, hc⟩ := hrow (by omega)
          injection hbo with hbo
          injection hbo with e5 e6
          subst e5 e6
          exact hc k hlt
        by_cases q34 : f k = 34
        · have z34 : (((f k : Nat) : Int) == 34) = true := by simp; omega
          clear hq q34
          generalize XL f k = L at *
          generalize f k = c at *
          go_wp2_with (at_builtin; refine wpList_append_own _ rfl _ _ 22 rfl w1.heap.size 5 i0 (.int .u8 0) 1 1 Try.underlying22 hi hz0 hz1 hz2 rfl (by decide) _ _ _ rfl (hown.alloc _) ⟨wr.heap.size, 0, none⟩ 1 1 [.int .u8 92] rfl rfl (cell1 _ _ _) (one1 _) Hc3.out.1 Hc3.out.2 (c5_of hsz) ?_)
          intro v' w2 hown' hgrow _
          have hb2 := below_append1 hsz hown Hnx.out hgrow
          have g0 := Hck.out _ hb2
          have hsz2 := hb2.size
          have Hb2 := hidden hb2
          clear hgrow hown hb2
          go_wp2_with (at_builtin; refine wpList_append_own _ rfl _ _ 22 rfl w1.heap.size 5 i0 (.int .u8 0) 1 1 Try.underlying22 hi hz0 hz1 hz2 rfl (by decide) _ _ _ rfl (hown'.alloc _) ⟨w2.heap.size, 0, none⟩ 1 1 [.int .u8 (c : Nat)] rfl rfl (cell1 _ _ _) (one1 _) Hc4.out.1 Hc4.out.2 (c5_of hsz2) ?_)
          intro v3 w3 hown3 hgrow3 _
          have Hb3 := hidden (below_append1 hsz2 hown' Hb2.out hgrow3)
          have Hw3 := hidden hown3
          clear hown3 hgrow3 hown' g0
          go_wp2
          go_roundw
          case rel => exact ⟨k + 1, by omega, by go_num, by rw [Hr.out.1, Hr.out.2]; exact Hw3.out, Hb3.out⟩
          case measure => simp [intOf]; omega
        · have z34 : (((f k : Nat) : Int) == 34) = false := by simp; omega
          have z92 : (((f k : Nat) : Int) == 92) = true := by simp; omega
          clear hq q34
          generalize XL f k = L at *
          generalize f k = c at *
          go_wp2_with (at_builtin; refine wpList_append_own _ rfl _ _ 22 rfl w1.heap.size 5 i0 (.int .u8 0) 1 1 Try.underlying22 hi hz0 hz1 hz2 rfl (by decide) _ _ _ rfl (hown.alloc _) ⟨wr.heap.size, 0, none⟩ 1 1 [.int .u8 92] rfl rfl (cell1 _ _ _) (one1 _) Hc3.out.1 Hc3.out.2 (c5_of hsz) ?_)
          intro v' w2 hown' hgrow _
          have hb2 := below_append1 hsz hown Hnx.out hgrow
          have g0 := Hck.out _ hb2
          have hsz2 := hb2.size
          have Hb2 := hidden hb2
          clear hgrow hown hb2
          go_wp2_with (at_builtin; refine wpList_append_own _ rfl _ _ 22 rfl w1.heap.size 5 i0 (.int .u8 0) 1 1 Try.underlying22 hi hz0 hz1 hz2 rfl (by decide) _ _ _ rfl (hown'.alloc _) ⟨w2.heap.size, 0, none⟩ 1 1 [.int .u8 (c : Nat)] rfl rfl (cell1 _ _ _) (one1 _) Hc4.out.1 Hc4.out.2 (c5_of hsz2) ?_)
          intro v3 w3 hown3 hgrow3 _
          have Hb3 := hidden (below_append1 hsz2 hown' Hb2.out hgrow3)
          have Hw3 := hidden hown3
          clear hown3 hgrow3 hown' g0
          go_wp2
          go_roundw
          case rel => exact ⟨k + 1, by omega, by go_num, by rw [Hr.out.1, Hr.out.2]; exact Hw3.out, Hb3.out⟩
          case measure => simp [intOf]; omega
      · have Hr : Hid (rowL (XL f (k + 1)) = rowL (XL f k) ++ [.int .u8 (f k : Nat)] ∧ (XL f (k + 1)).length = (XL f k).length + 1) := by
          unfold Hid; rw [XL_succ]; simp only [esc, hq, if_false]; rw [rowL_app, List.length_append]; exact ⟨rfl, rfl⟩
        have z34 : (((f k : Nat) : Int) == 34) = false := by simp; omega
        have z92 : (((f k : Nat) : Int) == 92) = false := by simp; omega
        clear hq
        generalize XL f k = L at *
        generalize f k = c at *
        go_wp2_with (at_builtin; refine wpList_append_own _ rfl _ _ 22 rfl w1.heap.size 5 i0 (.int .u8 0) 1 1 Try.underlying22 hi hz0 hz1 hz2 rfl (by decide) _ _ _ rfl (hown.alloc _) ⟨wr.heap.size, 0, none⟩ 1 1 [.int .u8 (c : Nat)] rfl rfl (cell1 _ _ _) (one1 _) Hc3.out.1 Hc3.out.2 (c5_of hsz) ?_)
        intro v' w2 hown' hgrow _
        have Hb2 := hidden (below_append1 hsz hown Hnx.out hgrow)
        have Hw2 := hidden hown'
        clear hown' hgrow hown g0 g1
        go_wp2
        go_roundw
        case rel => exact ⟨k + 1, by omega, by go_num, by rw [Hr.out.1, Hr.out.2]; exact Hw2.out, Hb2.out⟩
        case measure => simp [intOf]; omega
    · obtain rfl : k = n := by omega
      have hlz2 : ¬ ((k : Int) < (k : Int)) := by omega
      have hkb : (XL f k).length ≤ 601 := by have := Hn.out; omega
      have Hc3 := hidden (c3_of (show (XL f k).length ≤ 5000 by omega))
      have hsz := hnx.size
      have Hnx := hidden hnx
      have Hans := hidden (ans_XL f k)
      have Hans2 := hidden (ans_XL2 f k)
      have Hlt := hidden (XL_lt f Hf.out k)
      clear hnx hql
      generalize XL f k = L at *
      go_wp2_with (at_builtin; refine wpList_append_own _ rfl _ _ 22 rfl w1.heap.size 5 i0 (.int .u8 0) 1 1 Try.underlying22 hi hz0 hz1 hz2 rfl (by decide) _ _ _ rfl (hown.alloc _) ⟨wr.heap.size, 0, none⟩ 1 1 [.int .u8 34] rfl rfl (cell1 _ _ _) (one1 _) Hc3.out.1 Hc3.out.2 (c5_of hsz) ?_)
      intro v' w2 hown' hgrow _
      have Hb2 := hidden (below_append1 hsz hown Hnx.out hgrow)
      have hown2 : w2.ownsRow w1.heap.size 5 1 v' (L.length + 1) (rowL (L ++ [34])) := by rw [rowL_app]; exact hown'
      have hrow := row_ofL (by simp) hown2
      have B2 := hidden (B1.out.trans (Hb2.out.mono B1.out.size))
      have cr := read_any _ _ _ w2 (fOf_lt Hlt.out) (by omega) hrow
      rw [Hans.out] at cr
      have HRow := hidden hrow
      obtain ⟨va, vc, rfl, _⟩ := hrow
      have Hp := hidden (Row.head HRow.out (m := L.length) (by omega))
      clear hown' hgrow hown hown2 Hans
      go_wp2_with fail
      refine cr.mono ?_
      rintro e w3 ⟨tv, rfl, ⟨a3, k3, rfl, h3⟩, hb3⟩
      obtain ⟨g, rfl, hgc, hcell⟩ := h3 Nat.zero_lt_one
      have g2 : w3.cell? ⟨g, 0, none⟩ = some (.int .u8 5) := (hcell 0 Nat.zero_lt_one).1
      have g3 : w3.cell? ⟨g, 1, none⟩ = some (.int .i64 0) := (hcell 0 Nat.zero_lt_one).2.1
      have g4 : w3.cell? ⟨g, 2, none⟩ = some (.int .i64 ((L.length + 1 : Nat) : Int)) := (hcell 0 Nat.zero_lt_one).2.2
      have B3 := hidden (B2.out.trans (hb3.mono B2.out.size))
      have ch := read_any _ L.length _ w3 (fOf_lt Hlt.out) (by omega) (Hp.out.below hb3)
      rw [Hans2.out] at ch
      obtain ⟨a9, c9, e9, hr9⟩ := HRow.out
      injection e9 with e91 e92 e93
      subst e91 e93
      obtain ⟨b9, o9, rfl, hcap9, _⟩ := hr9 (by omega)
      clear cr hb3 hcell h3 hr9 e92 Hans2
      generalize L.length = m at *
      have zc : (m : Int) ≤ (vc : Int) := by omega
      have wr1 : IntKind.i64.wrap ((m : Int) + 1 - 1) = (m : Int) := by rw [IntWalk.i64_in _ (by omega)]; omega
      have nt : ((m : Int)).toNat = m := by omega
      go_wp2_with fail
      refine ch.mono ?_
      rintro e w4 ⟨tv4, rfl, _, hb4⟩
      have B4 := hidden (B3.out.trans (hb4.mono B3.out.size))
      have hgl := World.block_lt_of_cell? _ _ g2
      simp only at hgl
      have e4 : ∀ j, w4.cell? ⟨g, j, none⟩ = w3.cell? ⟨g, j, none⟩ := fun j => hb4.cell (p := ⟨g, j, none⟩) hgl
      rw [← e4] at g2 g3 g4
      clear ch hb4 e4
      go_wp2_with fail
      go_ret
      exact ⟨by simp, B4.out⟩
theorem law (v : Value) (n : Nat) (f : Nat → Nat) (w : World) (h : IsArg w v n f) :
    Calls Try.prog 9 #[v] w fun e w' => e = .returned (.bool true) ∧ Below w.heap.size w w' := by
  by_cases hn : 300 < n
  · exact long v n f w h hn
  · exact short v n f w h (by omega)

set_option maxRecDepth 100000 in
theorem lifted (os : Os) (started : os.Started) (H : Type) (enc : TypeId × Value → H) :
    ReturnsInHanded {} Try.checked os 9 .any (Rows.sexpTextsSpec.pre6 enc Try.prog Try.f9 Rows.sexpTextsRow.domain false) (Rows.sexpTextsSpec.post enc Try.prog Try.f9 false true false false) := by
  refine returnsInHanded_of_change (C := Try.checked) own started (by kernel_rfl) Try.func9
    (ChangeSpec.witness6 (enc := enc) (C := Try.checked) false ⟨#[], #[.slice none 0 0], []⟩ 8 (by kernel_rfl) (by kernel_rfl) (by kernel_rfl) (by kernel_rfl)) ?_
  intro W base args ds gs before hval0 hW _ _
  have hval : ∀ (j : Nat) t v, Try.f9.params[j]? = some t → args[j]? = some v → Value.okWide Try.prog W .any base t v := hval0
  have hW' := hW
  obtain ⟨p, q, hA0, hV, rfl, _, _⟩ := hW
  have hA : DataW.TrodAll enc Try.prog W 0 (fun _ => true) true Try.f9.params.toList args.toList ds p := hA0
  rw [Try.params9] at hA hval
  obtain ⟨v0, vs0, d0, ds0, p0, q0, hargs, rfl, rfl, h0, r0⟩ := trodAll_cons hA
  obtain ⟨rfl, rfl, rfl⟩ := trodAll_nil r0
  obtain rfl : args = #[v0] := by cases args; simp_all
  obtain ⟨rfl, rfl⟩ := trodVars_none hV
  have lt0 : ∀ x ∈ p0, x.block < W.heap.size := by obtain ⟨m, hm⟩ := h0; exact DataW.trod_lt m _ _ _ hm
  obtain ⟨n0, f0, g0⟩ := open_bytes (hval 0 22 v0 rfl rfl) h0
  clear hA0 hval0
  simp only [List.append_nil] at hW'
  refine (law v0 n0 f0 W g0).mono fun e W' ⟨he, bel⟩ => ?_
  subst he
  exact ⟨_, rfl, _, _, _, [], _, [], hW', trodAll_mk1 (shut_bool Try.underlying4 _), (trodAll_cons_mk (Below.trod laidOut (by kernel_rfl) (of_decide_eq_true (by kernel_rfl)) h0 bel lt0) trodAll_mk0), rfl, bel.frame _, fun h => by cases h⟩

theorem said : Rows.SexpTextsSaid :=
  OpenClaim.holds_of_wide 9 Try.f9 rfl rfl rfl rfl rfl rfl rfl ⟨rfl, rfl, rfl, rfl, rfl⟩ rfl rfl rfl rfl rfl (by kernel_rfl) Try.func9 (by kernel_rfl)
    (of_decide_eq_true (by kernel_rfl)) (by unfold Func.isWrapper; first | (rw [if_pos (by decide +kernel)]; kernel_rfl) | (rw [if_neg (by decide +kernel)]; exact ⟨rfl, rfl⟩))
    (fun os started H enc _ => lifted os started H enc)
#print axioms said
end Go.Proofs.Ytpcfbdnckmfelaa.Texts
