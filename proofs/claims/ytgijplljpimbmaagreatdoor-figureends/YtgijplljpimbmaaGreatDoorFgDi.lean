/- What strconv's shouldRoundUp and RoundedInteger come to. -/
import Derived.Test.YtgijplljpimbmaaGreatDoorKC
namespace Go.Proofs.PlatenFigure
open Go.RowKit
set_option linter.unusedVariables false
set_option linter.unusedSimpArgs false
set_option maxRecDepth 20000

/-- Is it rounded up, behind p digits? -/
def rup (s : Dst) (p : Int) : Bool :=
  if p < 0 then false
  else if (s.nd : Int) ≤ p then false
  else if s.g p.toNat = 53 then
    if p.toNat + 1 = s.nd then
      if s.tr = true then true
      else if p.toNat = 0 then false
      else decide ((s.g (p.toNat - 1) - 48) % 2 ≠ 0)
    else true
  else decide (53 ≤ s.g p.toNat)
set_option maxHeartbeats 4000000 in
theorem should_any {B K : Nat} {w0 w : World} {s : Dst} {neg : Bool} {p : Int} (h : DcS B K w0 w s neg) (ok : OkS s) (h1 : -9000000 ≤ p) (h2 : p ≤ 9000000) :
    Calls Tryz.prog 117 #[.pointer (some ⟨K, 0, none⟩), .int .i64 p] w fun e w' => e = .returned (.bool (rup s p)) ∧ ∃ m, w' = w.drewN m := by
  have c0 := h.c0
  have f0 := h.free 800
  have c3 := h.c3
  have f3 := h.free 803
  have hn8 := ok.ok.le
  by_cases q1 : p < 0
  · have hX : Hid (rup s p = false) := by unfold Hid rup; rw [if_pos q1]
    generalize rup s p = X at *
    clear h ok
    generalize s.nd = n at *
    go_enter Tryz.func117, Tryz.ntmps117
    go_wp2_with fail
    repeat (go_quiet (fail); go_wp2_with fail)
    go_ret
    refine ⟨by rw [hX.out]; rfl, ?_⟩
    first | exact ⟨0, rfl⟩ | exact ⟨_, rfl⟩ | (simp only [drew2]; exact ⟨_, rfl⟩)
  · have q1' : 0 ≤ p := by omega
    by_cases q2 : (s.nd : Int) ≤ p
    · have hX : Hid (rup s p = false) := by unfold Hid rup; rw [if_neg q1, if_pos q2]
      generalize rup s p = X at *
      clear h ok
      generalize s.nd = n at *
      go_enter Tryz.func117, Tryz.ntmps117
      go_wp2_with fail
      repeat (go_quiet (fail); go_wp2_with fail)
      go_ret
      refine ⟨by rw [hX.out]; rfl, ?_⟩
      first | exact ⟨0, rfl⟩ | exact ⟨_, rfl⟩ | (simp only [drew2]; exact ⟨_, rfl⟩)
    · obtain ⟨i, hi⟩ : ∃ i : Nat, p = i := ⟨p.toNat, by omega⟩
      subst hi
      have hin : (i : Int) < s.nd := by omega
      have ci := h.cell i (by omega)
      have lo := ok.ok.lo i (by omega)
      have hi' := ok.ok.hi i (by omega)
      have hti : (i : Int).toNat = i := by omega
      have hi8 : (i : Int) < 800 := by omega
      by_cases q3 : s.g i = 53
      · have hz : (((s.g i : Nat) : Int) == 53) = true := by rw [q3]; rfl
        by_cases q4 : i + 1 = s.nd
        · have hz4 : ((i : Int) + 1 == (s.nd : Int)) = true := by simp only [beq_iff_eq]; omega
          cases q5 : s.tr
          · rw [q5] at c3
            by_cases q6 : i = 0
            · have hX : Hid (rup s i = false) := by unfold Hid rup; rw [if_neg q1, if_neg q2, hti, if_pos q3, if_pos q4, q5, if_neg (by decide), if_pos q6]
              have h06 : ¬ (0 : Int) < (i : Int) := by omega
              generalize rup s i = X at *
              clear h ok q1 q2 q4 q5 q6 hti q3
              generalize s.nd = n at *
              generalize s.g i = c at *
              go_enter Tryz.func117, Tryz.ntmps117
              go_wp2_with fail
              repeat (go_quiet (fail); go_wp2_with fail)
              go_ret
              refine ⟨by rw [hX.out]; rfl, ?_⟩
              first | exact ⟨0, rfl⟩ | exact ⟨_, rfl⟩ | (simp only [drew2]; exact ⟨_, rfl⟩)
            · have hX : Hid (rup s i = decide ((s.g (i - 1) - 48) % 2 ≠ 0)) := by unfold Hid rup; rw [if_neg q1, if_neg q2, hti, if_pos q3, if_pos q4, q5, if_neg (by decide), if_neg q6]
              have h06 : (0 : Int) < (i : Int) := by omega
              have cj := h.cell (i - 1) (by omega)
              have lo2 := ok.ok.lo (i - 1) (by omega)
              have hi2 := ok.ok.hi (i - 1) (by omega)
              have ej : (i : Int) - 1 = ((i - 1 : Nat) : Int) := by omega
              have hj8 : ((i - 1 : Nat) : Int) < 800 := by omega
              generalize rup s i = X at *
              clear h ok q1 q2 q4 q5 q6 hti q3
              generalize s.nd = n at *
              generalize s.g i = c at *
              generalize i - 1 = j at *
              generalize s.g j = d at *
              have hXd : X = ((((d : Int) - 48) % 2) != 0) := by
                rw [hX.out]
                by_cases z : (((d : Int) - 48) % 2) = 0
                · rw [decide_eq_false (by omega), z]; rfl
                · rw [decide_eq_true (by omega)]; exact (bne_iff_ne.2 z).symm
              have HXd := hidden' hXd
              clear hXd hX
              go_enter Tryz.func117, Tryz.ntmps117
              go_wp2_with fail
              repeat (go_quiet (fail); go_wp2_with fail)
              go_ret
              refine ⟨by rw [HXd.out]; rfl, ?_⟩
              first | exact ⟨0, rfl⟩ | exact ⟨_, rfl⟩ | (simp only [drew2]; exact ⟨_, rfl⟩)
          · rw [q5] at c3
            have hX : Hid (rup s i = true) := by unfold Hid rup; rw [if_neg q1, if_neg q2, hti, if_pos q3, if_pos q4, q5, if_pos rfl]
            generalize rup s i = X at *
            clear h ok q1 q2 q4 q5 hti q3
            generalize s.nd = n at *
            generalize s.g i = c at *
            go_enter Tryz.func117, Tryz.ntmps117
            go_wp2_with fail
            repeat (go_quiet (fail); go_wp2_with fail)
            go_ret
            refine ⟨by rw [hX.out]; rfl, ?_⟩
            first | exact ⟨0, rfl⟩ | exact ⟨_, rfl⟩ | (simp only [drew2]; exact ⟨_, rfl⟩)
        · have hz4 : ((i : Int) + 1 == (s.nd : Int)) = false := by simp only [beq_eq_false_iff_ne, ne_eq]; omega
          have hX : Hid (rup s i = true) := by unfold Hid rup; rw [if_neg q1, if_neg q2, hti, if_pos q3, if_neg q4]
          have h53 : ¬ (((s.g i : Nat) : Int)) < 53 := by omega
          generalize rup s i = X at *
          clear h ok q1 q2 q4 hti q3
          generalize s.nd = n at *
          generalize s.g i = c at *
          go_enter Tryz.func117, Tryz.ntmps117
          go_wp2_with fail
          repeat (go_quiet (fail); go_wp2_with fail)
          go_ret
          refine ⟨by rw [hX.out]; first | rfl | (simp; done) | (simp; omega), ?_⟩
          first | exact ⟨0, rfl⟩ | exact ⟨_, rfl⟩ | (simp only [drew2]; exact ⟨_, rfl⟩)
      · have hz : (((s.g i : Nat) : Int) == 53) = false := by simp only [beq_eq_false_iff_ne, ne_eq]; omega
        have hX : Hid (rup s i = decide (53 ≤ s.g i)) := by unfold Hid rup; rw [if_neg q1, if_neg q2, hti, if_neg q3]
        generalize rup s i = X at *
        clear h ok q1 q2 hti q3
        generalize s.nd = n at *
        generalize s.g i = c at *
        go_enter Tryz.func117, Tryz.ntmps117
        go_wp2_with fail
        repeat (go_quiet (fail); go_wp2_with fail)
        go_ret
        refine ⟨by rw [hX.out]; first | rfl | (simp; done) | (simp; omega), ?_⟩
        first | exact ⟨0, rfl⟩ | exact ⟨_, rfl⟩ | (simp only [drew2]; exact ⟨_, rfl⟩)
/-- The number of the first i digits, as a word. -/
def nv (s : Dst) : Nat → Nat
  | 0 => 0
  | i + 1 => (nv s i * 10 + ddg s.g s.nd i) % 18446744073709551616
theorem nv_lt (s : Dst) : ∀ i, nv s i < 18446744073709551616
  | 0 => Nat.zero_lt_succ _
  | i + 1 => Nat.mod_lt _ (by decide)
/-- The number rounded. -/
def rint (s : Dst) : Nat :=
  if 20 < s.dp then 18446744073709551615
  else (nv s s.dp.toNat + (if rup s s.dp = true then 1 else 0)) % 18446744073709551616
theorem rint_lt (s : Dst) : rint s < 18446744073709551616 := by
  unfold rint
  split
  · decide
  · exact Nat.mod_lt _ (by decide)
set_option maxHeartbeats 4000000 in
theorem rounded_any {B K : Nat} {w0 w : World} {s : Dst} {neg : Bool} (h : DcS B K w0 w s neg) (ok : OkS s) (h1 : -9000000 ≤ s.dp) (h2 : s.dp ≤ 9000000) :
    Calls Tryz.prog 127 #[.pointer (some ⟨K, 0, none⟩)] w fun e w' => e = .returned (.int .u64 (rint s : Nat)) ∧ ∃ m, w' = w.drewN m := by
  have c1 := h.c1
  have f1 := h.free 801
  by_cases q1 : 20 < s.dp
  · have hX : Hid (rint s = 18446744073709551615) := by unfold Hid rint; rw [if_pos q1]
    generalize rint s = X at *
    clear h ok
    generalize s.dp = p at *
    go_enter Tryz.func127, Tryz.ntmps127
    go_wp2_with fail
    repeat (go_quiet (fail); go_wp2_with fail)
    go_ret
    refine ⟨by rw [hX.out]; rfl, ?_⟩
    first | exact ⟨0, rfl⟩ | exact ⟨_, rfl⟩ | (simp only [drew2]; exact ⟨_, rfl⟩)
  · have hX : Hid (rint s = (nv s s.dp.toNat + (if rup s s.dp = true then 1 else 0)) % 18446744073709551616) := by unfold Hid rint; rw [if_neg q1]
    have HR := hidden' (fun (m : Nat) => should_any (w := w.drewN m) (show DcS B K w0 (w.drewN m) s neg from h.drewN m) ok h1 h2)
    have H := hidden' h
    have OK := hidden' ok
    have hn8 := ok.ok.le
    have c0 := h.c0
    clear h ok
    generalize rint s = X at *
    generalize hp : s.dp = p at *
    clear hp
    obtain ⟨T, hT⟩ : ∃ T, T = p.toNat := ⟨_, rfl⟩
    rw [← hT] at hX
    have hT20 : T ≤ 20 := by omega
    have hTi : ∀ i : Nat, i < T → (i : Int) < p := by intro i hi; omega
    have hTn : ∀ i : Nat, ¬ i < T → ¬ (i : Int) < p := by intro i hi; omega
    have HTi := hidden' hTi
    have HTn := hidden' hTn
    have hpb : p ≤ 20 := by omega
    clear hT hTi hTn q1
    go_enter Tryz.func127, Tryz.ntmps127
    go_wp2_with fail
    go_loopw [3, 4] (fun i n wr => ∃ k : Nat, k ≤ T ∧ k ≤ s.nd ∧ i = .int .i64 (k : Nat) ∧ n = .int .u64 (nv s k : Nat) ∧ ∃ m, wr = w.drewN m) (fun i _ _ => T - (intOf i).toNat)
    case atStart => exact ⟨0, Nat.zero_le _, Nat.zero_le _, rfl, rfl, 0, rfl⟩
    case round =>
      obtain ⟨k, hk1, hk2, rfl, rfl, m, rfl⟩ := hrel
      have HX := hidden' hX
      clear hX
      have Hk1 := hidden' hk1
      by_cases q : k < T
      · have hg := HTi.out k q
        by_cases q2 : k < s.nd
        · have ck := H.out.cell k (by omega)
          have lo := OK.out.ok.lo k q2
          have hi := OK.out.ok.hi k q2
          have hnl := nv_lt s k
          have Hn : Hid (nv s (k + 1) = (nv s k * 10 + (s.g k - 48)) % 18446744073709551616) := by unfold Hid; rw [nv, ddg, if_pos q2]
          have hg2 : (k : Int) < s.nd := by omega
          have hk8 : (k : Int) < 800 := by omega
          have eW : IntKind.u64.wrap (IntKind.u64.wrap ((nv s k : Nat) * 10 : Int) + ((s.g k : Nat) - 48 : Int)) = (((nv s k * 10 + (s.g k - 48)) % 18446744073709551616 : Nat) : Int) := by rw [IntKind.wrap_u64, IntKind.wrap_u64]; omega
          have eW2 : IntKind.u64.wrap ((nv s k : Nat) * 10 + ((s.g k : Nat) - 48 : Int)) = (((nv s k * 10 + (s.g k - 48)) % 18446744073709551616 : Nat) : Int) := by rw [IntKind.wrap_u64]; omega
          have Hq := hidden' q
          have Hq2 := hidden' q2
          clear q q2 HX Hk1 hk1 hk2
          generalize (nv s k * 10 + (s.g k - 48)) % 18446744073709551616 = M at *
          generalize nv s k = N at *
          generalize s.g k = c at *
          go_wp2_with fail
          repeat (go_quiet (fail); go_wp2_with fail)
          refine ⟨⟨k + 1, Hq.out, Hq2.out, by go_num, by rw [Hn.out], ?_⟩, by have := Hq.out; simp [intOf]; omega⟩
          first | exact ⟨_, rfl⟩ | (simp only [drew2]; exact ⟨_, rfl⟩)
        · have hg2 : ¬ (k : Int) < s.nd := by omega
          have Hk3 : Hid (∀ j, k ≤ j → j < T → s.nd ≤ j) := fun j hj _ => by omega
          generalize hN : nv s k = N at *
          have HN := hidden' hN
          clear hN q q2 hk1 hk2
          go_wp2_with fail
          repeat (go_quiet (fail); go_wp2_with fail)
          try simp only [drew2]
          go_loopw [3, 4] (fun i n wr => ∃ j : Nat, k ≤ j ∧ j ≤ T ∧ i = .int .i64 (j : Nat) ∧ n = .int .u64 (nv s j : Nat) ∧ ∃ m, wr = w.drewN m) (fun i _ _ => T - (intOf i).toNat)
          case atStart => exact ⟨k, Nat.le_refl _, Hk1.out, rfl, by rw [HN.out], _, rfl⟩
          case round =>
            obtain ⟨j, hj1, hj2, rfl, rfl, m, rfl⟩ := hrel
            clear HN
            by_cases q : j < T
            · have hg := HTi.out j q
              have hnl := nv_lt s j
              have Hn : Hid (nv s (j + 1) = nv s j * 10 % 18446744073709551616) := by unfold Hid; rw [nv, ddg, if_neg (by have := Hk3.out j hj1 q; omega)]; rfl
              have eW : IntKind.u64.wrap ((nv s j : Nat) * 10 : Int) = ((nv s j * 10 % 18446744073709551616 : Nat) : Int) := by rw [IntKind.wrap_u64]; omega
              have Hq := hidden' q
              clear q
              generalize nv s j * 10 % 18446744073709551616 = M at *
              generalize nv s j = N at *
              go_wp2_with fail
              repeat (go_quiet (fail); go_wp2_with fail)
              refine ⟨⟨j + 1, by omega, Hq.out, by go_num, by rw [Hn.out], ?_⟩, by have := Hq.out; simp [intOf]; omega⟩
              first | exact ⟨_, rfl⟩ | (simp only [drew2]; exact ⟨_, rfl⟩)
            · obtain rfl : j = T := by omega
              have hg := HTn.out j q
              have hnl := nv_lt s j
              have HR2 := hidden' (HR.out)
              clear HR q
              cases hr : rup s p
              · have hX2 : X = nv s j := by rw [HX.out, hr, if_neg (by decide)]; omega
                rw [hr] at HR2
                have HX2 := hidden' hX2
                clear hX2 HX hr
                generalize nv s j = N at *
                go_wp2_with fail
                repeat (go_quiet (fail); go_wp2_with fail)
                refine (HR2.out _).mono ?_
                rintro e w' ⟨rfl, m', rfl⟩
                go_wp2_with fail
                repeat (go_quiet (fail); go_wp2_with fail)
                go_ret
                refine ⟨by rw [HX2.out]; rfl, ?_⟩
                first | exact ⟨_, rfl⟩ | (simp only [drew2]; exact ⟨_, rfl⟩)
              · have hX2 : IntKind.u64.wrap ((nv s j : Nat) + 1 : Int) = (X : Int) := by rw [HX.out, hr, if_pos rfl, IntKind.wrap_u64]; omega
                rw [hr] at HR2
                clear HX hr
                generalize nv s j = N at *
                go_wp2_with fail
                repeat (go_quiet (fail); go_wp2_with fail)
                refine (HR2.out _).mono ?_
                rintro e w' ⟨rfl, m', rfl⟩
                go_wp2_with fail
                repeat (go_quiet (fail); go_wp2_with fail)
                go_ret
                refine ⟨rfl, ?_⟩
                first | exact ⟨_, rfl⟩ | (simp only [drew2]; exact ⟨_, rfl⟩)
      · have hg := HTn.out k q
        have HkT := hidden' (show T ≤ k by omega)
        generalize hN : nv s k = N at *
        have HN := hidden' hN
        clear hN q hk1 hk2
        go_wp2_with fail
        repeat (go_quiet (fail); go_wp2_with fail)
        try simp only [drew2]
        go_loopw [3, 4] (fun i n wr => ∃ j : Nat, k ≤ j ∧ j ≤ T ∧ i = .int .i64 (j : Nat) ∧ n = .int .u64 (nv s j : Nat) ∧ ∃ m, wr = w.drewN m) (fun i _ _ => T - (intOf i).toNat)
        case atStart => exact ⟨k, Nat.le_refl _, Hk1.out, rfl, by rw [HN.out], _, rfl⟩
        case round =>
          obtain ⟨j, hj1, hj2, rfl, rfl, m, rfl⟩ := hrel
          clear HN
          by_cases q : j < T
          · exact absurd q (by have := HkT.out; omega)
          · obtain rfl : j = T := by omega
            have hg := HTn.out j q
            have hnl := nv_lt s j
            have HR2 := hidden' (HR.out)
            clear HR q
            cases hr : rup s p
            · have hX2 : X = nv s j := by rw [HX.out, hr, if_neg (by decide)]; omega
              rw [hr] at HR2
              have HX2 := hidden' hX2
              clear hX2 HX hr
              generalize nv s j = N at *
              go_wp2_with fail
              repeat (go_quiet (fail); go_wp2_with fail)
              refine (HR2.out _).mono ?_
              rintro e w' ⟨rfl, m', rfl⟩
              go_wp2_with fail
              repeat (go_quiet (fail); go_wp2_with fail)
              go_ret
              refine ⟨by rw [HX2.out]; rfl, ?_⟩
              first | exact ⟨_, rfl⟩ | (simp only [drew2]; exact ⟨_, rfl⟩)
            · have hX2 : IntKind.u64.wrap ((nv s j : Nat) + 1 : Int) = (X : Int) := by rw [HX.out, hr, if_pos rfl, IntKind.wrap_u64]; omega
              rw [hr] at HR2
              clear HX hr
              generalize nv s j = N at *
              go_wp2_with fail
              repeat (go_quiet (fail); go_wp2_with fail)
              refine (HR2.out _).mono ?_
              rintro e w' ⟨rfl, m', rfl⟩
              go_wp2_with fail
              repeat (go_quiet (fail); go_wp2_with fail)
              go_ret
              refine ⟨rfl, ?_⟩
              first | exact ⟨_, rfl⟩ | (simp only [drew2]; exact ⟨_, rfl⟩)
end Go.Proofs.PlatenFigure
