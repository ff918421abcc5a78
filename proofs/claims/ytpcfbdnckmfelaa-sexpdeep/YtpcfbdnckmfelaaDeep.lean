/- Lists in one another, so many: as deep as may be, and the first one that is too deep. -/
import Derived.Test.YtpcfbdnckmfelaaAp
namespace Go.Proofs.Ytpcfbdnckmfelaa.Deep
open Go.ChangeShapes Go.WideShapes Go.ChangeAt Go.RowKit Go.Proofs.PlatenSexp
set_option linter.unusedVariables false
set_option maxRecDepth 100000

/-- Where the first list is that is too deep, or -1. -/
def fs (l : List Bool) : Int := if l.length ≤ 512 then -1 else (fst l : Nat)
theorem fs_now (l : List Bool) (b : Bool) (h : l.length = 512) : fs (l ++ [b]) = ((OL l).length : Int) + if b then 1 else 0 := by
  unfold fs
  rw [if_neg (by simp; omega), fst_now l b h]
  cases b <;> simp
theorem fs_snoc (l : List Bool) (b : Bool) (h : l.length ≠ 512) : fs (l ++ [b]) = fs l := by
  unfold fs
  by_cases q : l.length ≤ 512
  · rw [if_pos (by simp; omega), if_pos q]
  · rw [if_neg (by simp; omega), if_neg q, fst_snoc l b (by omega)]
set_option maxHeartbeats 8000000 in
theorem law (c0 c1 : Nat) (w : World) (h0 : c0 ≤ 65535) (h1 : c1 ≤ 255) :
    Calls Try.prog 5 #[.int .u16 (c0 : Nat), .int .u8 (c1 : Nat)] w fun e w' => e = .returned (.bool true) ∧ Below w.heap.size w w' := by
  obtain ⟨i0, hi, hz0, hz1, hz2⟩ := info_parts info5
  go_enter Try.func5, Try.ntmps5
  go_wp2_with fail
  refine (lists_any w).mono ?_
  rintro e w1 ⟨rfl, hb1⟩
  have B1 := hidden hb1
  clear hb1
  go_wp2_with fail
  have e0 : ((c0 : Nat) : Int) % 600 = ((c0 % 600 : Nat) : Int) := by omega
  rw [e0]
  have hd : c0 % 600 ≤ 599 := by omega
  generalize c0 % 600 = d at *
  clear e0
  go_loopw [5, 7, 8] (fun p q i wr => ∃ (bs : List Bool) (k : Nat), bs.length = k ∧ k ≤ d ∧ i = .int .i64 (k : Nat) ∧ q = .int .i64 (fs bs) ∧ wr.ownsRow w1.heap.size 5 1 p (OL bs).length (rowL (OL bs)) ∧ Below w1.heap.size w1 wr) (fun _ _ i _ => d - (intOf i).toNat)
  case atStart => exact ⟨[], 0, rfl, Nat.zero_le _, rfl, rfl, World.ownsRow_nil _ _ _ _, Below.refl _ _⟩
  case round =>
    obtain ⟨bs, k, hbk, hk, rfl, rfl, hown, hnx⟩ := hrel
    by_cases hlt : k < d
    · have hlz : (k : Int) < (d : Int) := by omega
      have hol := OL_len bs
      have Hc1 := hidden (c3_of (show (OL bs).length ≤ 5000 by omega))
      have Hc2 := hidden (c3_of (show (OL bs).length + 1 ≤ 5000 by omega))
      have HO : Hid (∀ b, rowL (OL (bs ++ [b])) = rowL (OL bs) ++ rowL (op b) ∧ (OL (bs ++ [b])).length = (OL bs).length + (op b).length ∧ (bs ++ [b]).length = k + 1) := fun b => ⟨by rw [OL_snoc, rowL_app], by rw [OL_snoc, List.length_append], by simp [hbk]⟩
      have HF1 : Hid (k = 512 → ∀ b, fs (bs ++ [b]) = ((OL bs).length : Int) + if b then 1 else 0) := fun e b => fs_now bs b (hbk.trans e)
      have HF2 : Hid (k ≠ 512 → ∀ b, fs (bs ++ [b]) = fs bs) := fun e b => fs_snoc bs b (fun e' => e (hbk.symm.trans e'))
      have hsz := hnx.size
      have Hnx := hidden hnx
      clear hnx hol
      generalize hL : OL bs = L at *
      generalize hF : fs bs = F at *
      cases hq : (bits BinOp.and IntKind.u8 ((c1 : Nat) : Int) ((2 : Int) ^ (k % 8) % 256) != 0) with
      | true =>
        go_wp2_with (at_builtin; refine wpList_append_own _ rfl _ _ 22 rfl w1.heap.size 5 i0 (.int .u8 0) 1 1 Try.underlying22 hi hz0 hz1 hz2 rfl (by decide) _ _ _ rfl (hown.alloc _) ⟨wr.heap.size, 0, none⟩ 1 1 [.int .u8 39] rfl rfl (cell1 _ _ _) (one1 _) Hc1.out.1 Hc1.out.2 (c5_of hsz) ?_)
        intro v' w2 hown' hgrow _
        have hb2 := below_append1 hsz hown Hnx.out hgrow
        have hsz2 := hb2.size
        obtain ⟨va, vc, hv⟩ := row_slice hown'
        subst hv
        have Hb2 := hidden hb2
        clear hgrow hown hb2 hq
        by_cases q5 : k = 512
        · have z5 : ((k : Int) == 512) = true := by simp; omega
          have HF : Hid (fs (bs ++ [true]) = ((L.length + 1 : Nat) : Int)) := by unfold Hid; rw [HF1.out q5 true]; simp
          clear HF1 HF2 q5
          go_wp2_with (at_builtin; refine wpList_append_own _ rfl _ _ 22 rfl w1.heap.size 5 i0 (.int .u8 0) 1 1 Try.underlying22 hi hz0 hz1 hz2 rfl (by decide) _ _ _ rfl (hown'.alloc _) ⟨w2.heap.size, 0, none⟩ 1 1 [.int .u8 40] rfl rfl (cell1 _ _ _) (one1 _) Hc2.out.1 Hc2.out.2 (c5_of hsz2) ?_)
          intro v3 w3 hown3 hgrow3 _
          have Hb3 := hidden (below_append1 hsz2 hown' Hb2.out hgrow3)
          have Hw3 : Hid (w3.ownsRow w1.heap.size 5 1 v3 (OL (bs ++ [true])).length (rowL (OL (bs ++ [true])))) := by
            unfold Hid; rw [(HO.out true).1, (HO.out true).2.1]; simpa [op, rowL] using hown3
          clear hown3 hgrow3 hown'
          go_wp2
          go_roundw
          case rel => exact ⟨bs ++ [true], k + 1, (HO.out true).2.2, by omega, by go_num, by (rw [HF.out]); try (congr 1), Hw3.out, Hb3.out⟩
          case measure => simp [intOf]; omega
        · have z5 : ((k : Int) == 512) = false := by simp; omega
          have HF : Hid (fs (bs ++ [true]) = F) := by unfold Hid; rw [HF2.out q5 true]
          clear HF1 HF2 q5
          go_wp2_with (at_builtin; refine wpList_append_own _ rfl _ _ 22 rfl w1.heap.size 5 i0 (.int .u8 0) 1 1 Try.underlying22 hi hz0 hz1 hz2 rfl (by decide) _ _ _ rfl (hown'.alloc _) ⟨w2.heap.size, 0, none⟩ 1 1 [.int .u8 40] rfl rfl (cell1 _ _ _) (one1 _) Hc2.out.1 Hc2.out.2 (c5_of hsz2) ?_)
          intro v3 w3 hown3 hgrow3 _
          have Hb3 := hidden (below_append1 hsz2 hown' Hb2.out hgrow3)
          have Hw3 : Hid (w3.ownsRow w1.heap.size 5 1 v3 (OL (bs ++ [true])).length (rowL (OL (bs ++ [true])))) := by
            unfold Hid; rw [(HO.out true).1, (HO.out true).2.1]; simpa [op, rowL] using hown3
          clear hown3 hgrow3 hown'
          go_wp2
          go_roundw
          case rel => exact ⟨bs ++ [true], k + 1, (HO.out true).2.2, by omega, by go_num, by (rw [HF.out]); try (congr 1), Hw3.out, Hb3.out⟩
          case measure => simp [intOf]; omega
      | false =>
        obtain ⟨va, vc, hv⟩ := row_slice hown
        subst hv
        by_cases q5 : k = 512
        · have z5 : ((k : Int) == 512) = true := by simp; omega
          have HF : Hid (fs (bs ++ [false]) = ((L.length : Nat) : Int)) := by unfold Hid; rw [HF1.out q5 false]; simp
          clear HF1 HF2 q5
          go_wp2_with (at_builtin; refine wpList_append_own _ rfl _ _ 22 rfl w1.heap.size 5 i0 (.int .u8 0) 1 1 Try.underlying22 hi hz0 hz1 hz2 rfl (by decide) _ _ _ rfl (hown.alloc _) ⟨wr.heap.size, 0, none⟩ 1 1 [.int .u8 40] rfl rfl (cell1 _ _ _) (one1 _) Hc1.out.1 Hc1.out.2 (c5_of hsz) ?_)
          intro v3 w3 hown3 hgrow3 _
          have Hb3 := hidden (below_append1 hsz hown Hnx.out hgrow3)
          have Hw3 : Hid (w3.ownsRow w1.heap.size 5 1 v3 (OL (bs ++ [false])).length (rowL (OL (bs ++ [false])))) := by
            unfold Hid; rw [(HO.out false).1, (HO.out false).2.1]; simpa [op, rowL] using hown3
          clear hown3 hgrow3 hown
          go_wp2
          go_roundw
          case rel => exact ⟨bs ++ [false], k + 1, (HO.out false).2.2, by omega, by go_num, by (rw [HF.out]); try (congr 1), Hw3.out, Hb3.out⟩
          case measure => simp [intOf]; omega
        · have z5 : ((k : Int) == 512) = false := by simp; omega
          have HF : Hid (fs (bs ++ [false]) = F) := by unfold Hid; rw [HF2.out q5 false]
          clear HF1 HF2 q5
          go_wp2_with (at_builtin; refine wpList_append_own _ rfl _ _ 22 rfl w1.heap.size 5 i0 (.int .u8 0) 1 1 Try.underlying22 hi hz0 hz1 hz2 rfl (by decide) _ _ _ rfl (hown.alloc _) ⟨wr.heap.size, 0, none⟩ 1 1 [.int .u8 40] rfl rfl (cell1 _ _ _) (one1 _) Hc1.out.1 Hc1.out.2 (c5_of hsz) ?_)
          intro v3 w3 hown3 hgrow3 _
          have Hb3 := hidden (below_append1 hsz hown Hnx.out hgrow3)
          have Hw3 : Hid (w3.ownsRow w1.heap.size 5 1 v3 (OL (bs ++ [false])).length (rowL (OL (bs ++ [false])))) := by
            unfold Hid; rw [(HO.out false).1, (HO.out false).2.1]; simpa [op, rowL] using hown3
          clear hown3 hgrow3 hown
          go_wp2
          go_roundw
          case rel => exact ⟨bs ++ [false], k + 1, (HO.out false).2.2, by omega, by go_num, by (rw [HF.out]); try (congr 1), Hw3.out, Hb3.out⟩
          case measure => simp [intOf]; omega
    · obtain rfl : k = d := by omega
      have hlz : ¬ ((k : Int) < (k : Int)) := by omega
      have Hbk := hidden hbk
      have hol := OL_len bs
      have Hnx := hidden hnx
      have hpl0 : PL bs 0 = OL bs := by simp [PL]
      rw [← hpl0] at hown
      have hown0 := hown
      clear hk hlt hbk hnx hown
      generalize hF : fs bs = F at *
      go_wp2_with fail
      go_loopw [5, 9] (fun p i wr2 => ∃ m : Nat, m ≤ k ∧ i = .int .i64 (m : Nat) ∧ wr2.ownsRow w1.heap.size 5 1 p (PL bs m).length (rowL (PL bs m)) ∧ Below w1.heap.size w1 wr2) (fun _ i _ => k - (intOf i).toNat)
      case atStart => exact ⟨0, Nat.zero_le _, rfl, hown0, Hnx.out⟩
      case round =>
        obtain ⟨m, hm, rfl, hown, hnx⟩ := hrel
        clear hown0 Hnx
        have hpl := PL_len bs m
        by_cases hlt : m < k
        · have hlz2 : (m : Int) < (k : Int) := by omega
          have Hr : Hid (rowL (PL bs (m + 1)) = rowL (PL bs m) ++ [.int .u8 41] ∧ (PL bs (m + 1)).length = (PL bs m).length + 1) := by
            unfold Hid; rw [PL_succ, rowL_app, List.length_append]; exact ⟨rfl, rfl⟩
          have Hc1 := hidden (c3_of (show (PL bs m).length ≤ 5000 by have := Hbk.out; omega))
          have hsz := hnx.size
          have Hnx := hidden hnx
          clear hnx hpl hol
          generalize PL bs m = L at *
          go_wp2_with (at_builtin; refine wpList_append_own _ rfl _ _ 22 rfl w1.heap.size 5 i0 (.int .u8 0) 1 1 Try.underlying22 hi hz0 hz1 hz2 rfl (by decide) _ _ _ rfl (hown.alloc _) ⟨wr.heap.size, 0, none⟩ 1 1 [.int .u8 41] rfl rfl (cell1 _ _ _) (one1 _) Hc1.out.1 Hc1.out.2 (c5_of hsz) ?_)
          intro v3 w3 hown3 hgrow3 _
          have Hb3 := hidden (below_append1 hsz hown Hnx.out hgrow3)
          have Hw3 := hidden hown3
          clear hown3 hgrow3 hown
          go_wp2
          go_roundw
          case rel => exact ⟨m + 1, by omega, by go_num, by rw [Hr.out.1, Hr.out.2]; exact Hw3.out, Hb3.out⟩
          case measure => simp [intOf]; omega
        · obtain rfl : m = k := by omega
          have hlz2 : ¬ ((m : Int) < (m : Int)) := by omega
          have hN : (PL bs m).length ≤ 5000 := by rw [hpl]; have := Hbk.out; omega
          have hrow := row_ofL rfl hown
          have Hg := hidden (fOf_lt (PL_lt bs m))
          have hDeep : 512 < m → ans (fOf (PL bs m)) (PL bs m).length = ([], fst bs, 6) := fun h => ans_deep bs m (by rw [Hbk.out]; exact h)
          have hLev : m ≤ 512 → 0 < m → ∃ T, ans (fOf (PL bs m)) (PL bs m).length = (T, 0, 0) ∧ 2 * m ≤ T.length := fun h h0 => by
            have := ans_lev bs (by rw [Hbk.out]; exact h) (fun e => by have := Hbk.out; rw [e] at this; simp at this; omega)
            rw [Hbk.out] at this
            exact this
          have hNil : m = 0 → ans (fOf (PL bs m)) (PL bs m).length = ([], 0, 5) := fun h0 => by
            have h2 := Hbk.out
            rw [h0] at h2 ⊢
            have : bs = [] := List.eq_nil_of_length_eq_zero h2
            rw [this]; rfl
          have B2 := hidden (B1.out.trans (hnx.mono B1.out.size))
          clear hown hnx hpl hol hm hlt
          generalize fOf (PL bs m) = g at *
          generalize (PL bs m).length = N at *
          have cr := read_any _ N g _ Hg.out (by omega) hrow
          obtain ⟨va, vc, rfl, _⟩ := hrow
          have Hlen : Hid ((ans g N).1.length ≤ 1000000) := ans_len g N (by omega)
          have HF : Hid (F = if m ≤ 512 then -1 else ((fst bs : Nat) : Int)) := by unfold Hid; rw [← hF]; unfold fs; rw [Hbk.out]
          clear hF
          by_cases hk5 : 512 < m
          · rw [hDeep hk5] at cr
            have hf := HF.out
            rw [if_neg (by omega)] at hf
            subst hf
            have zf : (0 : Int) ≤ ((fst bs : Nat) : Int) := by omega
            clear hDeep hLev hNil HF
            generalize fst bs = x at *
            go_wp2_with fail
            refine cr.mono ?_
            rintro e w4 ⟨tv, rfl, ⟨ta, tc, rfl, _⟩, hb4⟩
            have B4 := hidden (B2.out.trans (hb4.mono B2.out.size))
            clear cr hb4
            go_wp2_with fail
            go_ret
            exact ⟨by simp, B4.out⟩
          · have hf := HF.out
            rw [if_pos (by omega)] at hf
            subst hf
            by_cases h0 : m = 0
            · rw [hNil h0] at cr
              have z0 : ¬ ((0 : Int) < (m : Int)) := by omega
              have z1 : ((m : Int) == 0) = true := by simp; omega
              clear hDeep hLev hNil HF h0
              go_wp2_with fail
              refine cr.mono ?_
              rintro e w4 ⟨tv, rfl, ⟨ta, tc, rfl, _⟩, hb4⟩
              have B4 := hidden (B2.out.trans (hb4.mono B2.out.size))
              clear cr hb4
              go_wp2_with fail
              go_ret
              exact ⟨by simp, B4.out⟩
            · obtain ⟨T, hT, hTl⟩ := hLev (by omega) (by omega)
              rw [hT] at cr Hlen
              have z0 : (0 : Int) < (m : Int) := by omega
              have z1 : ((m : Int) == 0) = false := by simp; omega
              have hTb : T.length ≤ 1000000 := Hlen.out
              have z2 : 2 * (m : Int) ≤ (T.length : Int) := by omega
              have hmb : m ≤ 512 := by omega
              clear hDeep hLev hNil HF h0 hT Hlen
              go_wp2_with fail
              refine cr.mono ?_
              rintro e w4 ⟨tv, rfl, ⟨ta, tc, rfl, _⟩, hb4⟩
              have B4 := hidden (B2.out.trans (hb4.mono B2.out.size))
              clear cr hb4
              simp only
              generalize T.length = r at *
              go_wp2_with fail
              go_ret
              exact ⟨by simp, B4.out⟩

set_option maxRecDepth 100000 in
theorem lifted (os : Os) (started : os.Started) (H : Type) (enc : TypeId × Value → H) :
    ReturnsInHanded {} Try.checked os 5 .any (Rows.sexpDeepSpec.pre6 enc Try.prog Try.f5 Rows.sexpDeepRow.domain false) (Rows.sexpDeepSpec.post enc Try.prog Try.f5 false true false false) := by
  refine returnsInHanded_of_change (C := Try.checked) own started (by kernel_rfl) Try.func5
    (ChangeSpec.witness6 (enc := enc) (C := Try.checked) false ⟨#[], #[.int .u16 0, .int .u8 0], []⟩ 8 (by kernel_rfl) (by kernel_rfl) (by kernel_rfl) (by kernel_rfl)) ?_
  intro W base args ds gs before hval0 hW _ _
  have hval : ∀ (j : Nat) t v, Try.f5.params[j]? = some t → args[j]? = some v → Value.okWide Try.prog W .any base t v := hval0
  have hW' := hW
  obtain ⟨p, q, hA0, hV, rfl, _, _⟩ := hW
  have hA : DataW.TrodAll enc Try.prog W 0 (fun _ => true) true Try.f5.params.toList args.toList ds p := hA0
  rw [Try.params5] at hA hval
  obtain ⟨v0, vs0, d0, ds0, p0, q0, hargs, rfl, rfl, h0, r0⟩ := trodAll_cons hA
  obtain ⟨v1, vs1, d1, ds1, p1, q1, rfl, rfl, rfl, h1, r1⟩ := trodAll_cons r0
  obtain ⟨rfl, rfl, rfl⟩ := trodAll_nil r1
  obtain rfl : args = #[v0, v1] := by cases args; simp_all
  obtain ⟨rfl, rfl⟩ := trodVars_none hV
  obtain ⟨x0, rfl, rfl, rfl, w0⟩ := open_int Try.underlying31 (hval 0 31 v0 rfl rfl) h0
  have b0 : 0 ≤ x0 ∧ x0 ≤ 65535 := by simpa [Lit.wf, IntKind.min, IntKind.max, IntKind.signed, IntKind.bits] using w0
  obtain ⟨c0, rfl⟩ := Int.eq_ofNat_of_zero_le b0.1
  obtain ⟨x1, rfl, rfl, rfl, w1⟩ := open_int Try.underlying5 (hval 1 5 v1 rfl rfl) h1
  have b1 : 0 ≤ x1 ∧ x1 ≤ 255 := by simpa [Lit.wf, IntKind.min, IntKind.max, IntKind.signed, IntKind.bits] using w1
  obtain ⟨c1, rfl⟩ := Int.eq_ofNat_of_zero_le b1.1
  clear hA0 hval0
  simp only [List.append_nil] at hW'
  refine (law c0 c1 W (by omega) (by omega)).mono fun e W' ⟨he, bel⟩ => ?_
  subst he
  exact ⟨_, rfl, _, _, _, [], _, [], hW', trodAll_mk1 (shut_bool Try.underlying4 _), (trodAll_cons_mk (shut_int Try.underlying31 w0) (trodAll_cons_mk (shut_int Try.underlying5 w1) trodAll_mk0)), rfl, bel.frame _, fun h => by cases h⟩

theorem said : Rows.SexpDeepSaid :=
  OpenClaim.holds_of_wide 5 Try.f5 rfl rfl rfl rfl rfl rfl rfl ⟨rfl, rfl, rfl, rfl, rfl⟩ rfl rfl rfl rfl rfl (by kernel_rfl) Try.func5 (by kernel_rfl)
    (of_decide_eq_true (by kernel_rfl)) (by unfold Func.isWrapper; first | (rw [if_pos (by decide +kernel)]; kernel_rfl) | (rw [if_neg (by decide +kernel)]; exact ⟨rfl, rfl⟩))
    (fun os started H enc _ => lifted os started H enc)
#print axioms said
end Go.Proofs.Ytpcfbdnckmfelaa.Deep
