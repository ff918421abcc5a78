/- What strconv's floatBits comes to where its loops run. -/
import Derived.Test.YtgijplljpimbmaaGreatDoorFgDl
namespace Go.Proofs.PlatenFigure
open Go.RowKit
set_option linter.unusedVariables false
set_option linter.unusedSimpArgs false
set_option maxRecDepth 20000

theorem mA_low {t : Dst} (h : -400 ≤ t.dp) : -800 ≤ mA t := by
  unfold mA
  split <;> omega
structure EndA (R : Dst × Int) : Prop where
  ok : OkS R.1
  lo : -400 ≤ R.1.dp
  hi : R.1.dp ≤ 0
  e0 : 0 ≤ R.2
  e1 : R.2 ≤ 40500
theorem InA.ends {s0 : Dst} {R : Dst × Int} : ∀ (n : Nat) (t : Dst) (e : Int), InA s0 R t e → (mA t).toNat ≤ n → EndA R
  | 0, t, e, h, hn => by
    have hp : ¬ 0 < t.dp := fun hp => by have := mA_pos hp; omega
    have he0 := h.e0
    have he1 := h.e1
    have hl := mA_low h.lo
    rw [← h.done hp]
    exact ⟨h.ok, h.lo, by show t.dp ≤ 0; omega, he0, by show e ≤ 40500; omega⟩
  | n + 1, t, e, h, hn => by
    by_cases hp : 0 < t.dp
    · have hm := mA_pos hp
      obtain ⟨h2, hl⟩ := h.step hp
      exact InA.ends n _ _ h2 (by omega)
    · have he0 := h.e0
      have he1 := h.e1
      have hl := mA_low h.lo
      rw [← h.done hp]
      exact ⟨h.ok, h.lo, by show t.dp ≤ 0; omega, he0, by show e ≤ 40500; omega⟩
structure EndB (R : Dst × Int) : Prop where
  ok : OkS R.1
  lo : -400 ≤ R.1.dp
  hi : R.1.dp ≤ 400
  e0 : -243000 ≤ R.2
  e1 : R.2 ≤ 50000
theorem InB.ends {R : Dst × Int} : ∀ (n : Nat) (t : Dst) (e : Int), InB R t e → (mB t).toNat ≤ n → EndB R
  | 0, t, e, h, hn => by
    have hp : ¬ lowB t := fun hp => by have := mB_pos h.ok hp; omega
    have he0 := h.e0
    have he1 := h.e1
    have hl := mB_low t h.ok h.hi
    rw [← h.done hp]
    exact ⟨h.ok, h.lo, h.hi, by show -243000 ≤ e; omega, he0⟩
  | n + 1, t, e, h, hn => by
    by_cases hp : lowB t
    · have hm := mB_pos h.ok hp
      obtain ⟨h2, hl⟩ := h.step hp
      exact InB.ends n _ _ h2 (by omega)
    · have he0 := h.e0
      have he1 := h.e1
      have hl := mB_low t h.ok h.hi
      rw [← h.done hp]
      exact ⟨h.ok, h.lo, h.hi, by show -243000 ≤ e; omega, he0⟩
theorem FltI.below {w0 w : World} {B : Nat} (h : FltI w0) (hB : B = w0.heap.size) (hb : Below B w0 w) : FltI w := by
  subst hB
  have key : ∀ (a : Addr) v, w0.cell? a = some v → w.cell? a = some v := fun a v e => (hb.cell (World.block_lt_of_cell? _ _ e)).trans e
  exact ⟨key _ _ h.mb, key _ _ h.eb, key _ _ h.bias⟩
noncomputable def adj (R : Dst × Int) : Dst × Int := if R.2 < -1021 then (shR (-1021 - R.2).toNat R.1, -1022) else (R.1, R.2 - 1)
noncomputable def finB (A : Dst × Int) : Nat × Int × Bool :=
  if 1024 ≤ A.2 then (0, 2047, true)
  else if rint (lsS 53 A.1) = 9007199254740992 then (if 1023 ≤ A.2 then (0, 2047, true) else (4503599627370496, A.2 + 1024, false))
  else if (bits .and .u64 ((rint (lsS 53 A.1) : Nat) : Int) 4503599627370496 == 0) = true then (rint (lsS 53 A.1), 0, false)
  else (rint (lsS 53 A.1), A.2 + 1023, false)
noncomputable def flB (s : Dst) : Nat × Int × Bool := finB (adj (lpB 5000 (lpA 700 s 0).1 (lpA 700 s 0).2))
theorem adj_ends {R : Dst × Int} (h : EndB R) : OkS (adj R).1 ∧ -90000 ≤ (adj R).1.dp ∧ (adj R).1.dp ≤ 400 ∧ -1022 ≤ (adj R).2 ∧ (adj R).2 ≤ 50000 := by
  have h1 := h.ok
  have h2 := h.lo
  have h3 := h.hi
  have h4 := h.e0
  have h5 := h.e1
  unfold adj
  split
  · have := shR_dp2 (n := (-1021 - R.2).toNat) h1
    exact ⟨shR_ok h1, by show -90000 ≤ (shR (-1021 - R.2).toNat R.1).dp; omega, by show (shR (-1021 - R.2).toNat R.1).dp ≤ 400; omega, by show (-1022 : Int) ≤ -1022; omega, by show (-1022 : Int) ≤ 50000; omega⟩
  · exact ⟨h1, by show -90000 ≤ R.1.dp; omega, h3, by show -1022 ≤ R.2 - 1; omega, by show R.2 - 1 ≤ 50000; omega⟩
theorem flB_def (s : Dst) {R : Dst × Int} (h : lpA 700 s 0 = R) : flB s = finB (adj (lpB 5000 R.1 R.2)) := by rw [← h]; rfl

theorem tabs_pt {w0 : World} {B : Nat} (ht : Tabs w0) (hB : B = w0.heap.size) : ∃ b off cap, 9 ≤ cap ∧ ∀ u, Below B w0 u → u.cell? ⟨8, 0, none⟩ = some (.slice (some ⟨b, off, none⟩) 9 cap) ∧ ∀ i, i < 9 → u.cell? ⟨b, off + i, none⟩ = some (.int .i64 (tp.getD i 0 : Nat)) := by
  subst hB
  obtain ⟨b, off, cap, hcap, h8, hc⟩ := ht.pt
  refine ⟨b, off, cap, hcap, fun u hb => ?_⟩
  have key : ∀ (a : Addr) v, w0.cell? a = some v → u.cell? a = some v := fun a v e => (hb.cell (World.block_lt_of_cell? _ _ e)).trans e
  exact ⟨key _ _ h8, fun i hi => key _ _ (hc i hi)⟩
set_option maxHeartbeats 16000000 in
theorem bits_mid {B K : Nat} {w0 w : World} {s : Dst} {neg : Bool} (h : DcS B K w0 w s neg) (ok : OkS s) (hf : FltI w0) (ht : Tabs w0) (hB : B = w0.heap.size) (h1 : -330 ≤ s.dp) (h2 : s.dp ≤ 310) :
    Calls Tryz.prog 96 #[.pointer (some ⟨K, 0, none⟩), .pointer (some ⟨6, 0, none⟩)] w fun e w' => e = .returned (.tuple #[.int .u64 (foW (flB s).1 (flB s).2.1 neg), .bool (flB s).2.2]) ∧ Below B w0 w' := by
  have H := hidden' h
  have HF := hidden' (fun (u : World) (hu : Below B w0 u) => hf.below hB hu)
  obtain ⟨b, off, cap, hcap, hpt⟩ := tabs_pt ht hB
  have HP := hidden' hpt
  have HR := hidden' (fun (u : World) (t : Dst) (n : Nat) (hu : DcS B K w0 u t neg) (hk : OkS t) (q1 : 1 ≤ n) (q2 : n ≤ 600000) (q3 : -400000 ≤ t.dp) (q4 : t.dp ≤ 1000000) => shift_right hu hk q1 q2 q3 q4)
  have HL := hidden' (fun (u : World) (t : Dst) (k : Nat) (hu : DcS B K w0 u t neg) (hk : OkS t) (q1 : 1 ≤ k) (q2 : k ≤ 60) (q3 : -1000000 ≤ t.dp) (q4 : t.dp ≤ 1000000) => shift_left hu hk q1 q2 hB ht q3 q4)
  have HI := hidden' (InA.start ok h1 h2)
  have HE := hidden' ((InA.start ok h1 h2).ends 100000 _ _ (by unfold mA; split <;> omega))
  obtain ⟨R, hR⟩ : ∃ R, lpA 700 s 0 = R := ⟨_, rfl⟩
  have HX := hidden' (flB_def s hR)
  rw [hR] at HI HE
  generalize flB s = X at *
  have c0 := h.c0
  have c1 := h.c1
  have hz : (((s.nd : Nat) : Int) == 0) = false := by have := ok.pos; simp only [beq_eq_false_iff_ne, ne_eq]; omega
  have hd1 : ¬ (310 : Int) < s.dp := by omega
  have hd2 : ¬ s.dp < -330 := by omega
  clear h ok hf ht h1 h2 hpt hB hR
  generalize s.nd = n at *
  generalize hdp : s.dp = p at *
  clear hdp
  go_enter Tryz.func96, Tryz.ntmps96
  go_wp2_with fail
  refine wp_scope_fwdc 1 ?_
  go_wp2_with fail
  go_loopw [6] (fun x wr => ∃ (t : Dst) (e : Int), x = .int .i64 e ∧ InA s R t e ∧ DcS B K w0 wr t neg) (fun x _ => (50000 - intOf x).toNat)
  case atStart => exact ⟨s, 0, rfl, HI.out, H.out⟩
  case round =>
    clear c0 c1 hz hd1 hd2 H HI
    obtain ⟨t, e, rfl, hA, hd⟩ := hrel
    have HA := hidden' hA
    have Hd := hidden' hd
    have c1 := hd.c1
    have he0 := hA.e0
    have he1 : e ≤ 40500 := by have := hA.e1; have := mA_low hA.lo; omega
    have hlo := hA.lo
    have hhi := hA.hi
    clear hA
    by_cases q : 0 < t.dp
    · obtain ⟨d, hdd⟩ : ∃ d : Nat, t.dp = (d : Int) := ⟨t.dp.toNat, by omega⟩
      have HS := hidden' (HA.out.step q)
      obtain ⟨k, hk⟩ : ∃ k, pw t.dp.toNat = k := ⟨_, rfl⟩
      rw [hk] at HS
      have hk1 : 1 ≤ k := by rw [← hk]; exact pw_one _
      have hk2 : k ≤ 27 := by rw [← hk]; exact pw_le _
      have hke : k = if 9 ≤ d then 27 else tp.getD d 0 := by rw [← hk, hdd]; rfl
      have HC := hidden' (fun (u : World) (hu : DcS B K w0 u t neg) => HR.out u t k hu HA.out.ok hk1 (by omega) (by omega) (by omega))
      rw [shR_small (show k ≤ 60 by omega)] at HC
      have htb := HP.out wr hd.bel
      have h8 := htb.1
      clear hk
      rw [hdd] at c1 q hhi
      by_cases q9 : 9 ≤ d
      · rw [if_pos q9] at hke
        subst hke
        clear htb HP HR HL HX HE
        generalize hT : rsS 27 t = T at *
        have HT := hidden' hT
        clear hT hd
        go_wp2_with fail
        repeat (go_quiet (fail); go_wp2_with fail)
        refine (HC.out _ (by first | exact Hd.out | exact Hd.out.drewN _ | exact (Hd.out.drewN _).drewN _)).mono ?_
        rintro e' w' ⟨rfl, hd'⟩
        have HD := hidden' hd'
        clear hd'
        go_wp2_with fail
        refine ⟨⟨T, e + 27, rfl, HS.out.1, HD.out⟩, ?_⟩
        simp [intOf]; omega
      · rw [if_neg q9] at hke
        have hc := htb.2 d (by omega)
        rw [← hke] at hc
        clear hke
        clear htb HP HR HL HX HE
        generalize hT : rsS k t = T at *
        have HT := hidden' hT
        have hd9 : ¬ (9 : Int) ≤ (d : Int) := by omega
        have hd9' : (d : Int) < 9 := by omega
        clear hT hd
        go_wp2_with fail
        repeat (go_quiet (fail); go_wp2_with fail)
        refine (HC.out _ (by first | exact Hd.out | exact Hd.out.drewN _ | exact (Hd.out.drewN _).drewN _ | (simp only [drew2]; exact Hd.out.drewN _))).mono ?_
        rintro e' w' ⟨rfl, hd'⟩
        have HD := hidden' hd'
        clear hd'
        go_wp2_with fail
        refine ⟨⟨T, e + k, rfl, HS.out.1, HD.out⟩, ?_⟩
        simp [intOf]; omega
    · obtain rfl := HA.out.done q
      have hX := HX.out
      change X = finB (adj (lpB 5000 t e)) at hX
      have HX := hidden' hX
      have HBs := hidden' (InB.start HA.out.ok hlo (by omega) he0 (by omega))
      have HBe := hidden' ((InB.start HA.out.ok hlo (by omega) he0 (by omega)).ends 100000 _ _ (by have := HA.out.ok.first; unfold mB; omega))
      clear hX HE HA
      generalize lpB 5000 t e = R at *
      go_wp2_with fail
      go_loopw [6] (fun x wr => ∃ (t : Dst) (e : Int), x = .int .i64 e ∧ InB R t e ∧ DcS B K w0 wr t neg) (fun x _ => (intOf x + 300000).toNat)
      case atStart => exact ⟨t, e, rfl, HBs.out, Hd.out⟩
      case round =>
        clear HBs Hd c1 he0 he1 hlo hhi hd q
        obtain ⟨t, e, rfl, hA, hd⟩ := hrel
        have HA := hidden' hA
        have Hd := hidden' hd
        have c1 := hd.c1
        have he0 := hA.e0
        have he1 : -243000 ≤ e := by have := hA.e1; have := mB_low t hA.ok hA.hi; omega
        have hlo := hA.lo
        have hhi := hA.hi
        clear hA
        by_cases q : lowB t
        · have HS := hidden' (HA.out.step q)
          have hdn : t.dp ≤ 0 := by rcases q with q | q <;> omega
          obtain ⟨d, hdd⟩ : ∃ d : Nat, t.dp = -(d : Int) := ⟨(-t.dp).toNat, by omega⟩
          obtain ⟨k, hk⟩ : ∃ k, pw (-t.dp).toNat = k := ⟨_, rfl⟩
          rw [hk] at HS
          have hk1 : 1 ≤ k := by rw [← hk]; exact pw_one _
          have hk2 : k ≤ 27 := by rw [← hk]; exact pw_le _
          have hke : k = if 9 ≤ d then 27 else tp.getD d 0 := by rw [← hk, hdd, Int.neg_neg]; rfl
          have HC := hidden' (fun (u : World) (hu : DcS B K w0 u t neg) => HL.out u t k hu HA.out.ok hk1 (by omega) (by omega) (by omega))
          have htb := HP.out wr hd.bel
          have h8 := htb.1
          have hl := q
          have kk := hd.cell 0 (by decide)
          clear hk
          generalize hT : lsS k t = T at *
          have HT := hidden' hT
          clear hT HX HBe HP HR HL
          by_cases q0 : d = 0
          · subst q0
            have hp0 : t.dp = 0 := by omega
            have hg0 : t.g 0 < 53 := by rcases hl with q | q <;> omega
            rw [hp0] at c1
            rw [if_neg (by decide)] at hke
            have hc := htb.2 0 (by omega)
            rw [← hke] at hc
            rw [Nat.add_zero] at hc
            have hg0I : ((t.g 0 : Nat) : Int) < 53 := by omega
            clear htb hke hl q hdd hlo hhi hdn hp0 hg0 hd
            generalize t.g 0 = g0 at *
            go_wp2_with fail
            repeat (go_quiet (fail); go_wp2_with fail)
            refine (HC.out _ (by first | exact Hd.out | exact Hd.out.drewN _ | exact (Hd.out.drewN _).drewN _ | (simp only [drew2]; exact Hd.out.drewN _))).mono ?_
            rintro e' w' ⟨rfl, hd'⟩
            have HD := hidden' hd'
            clear hd'
            go_wp2_with fail
            refine ⟨⟨T, e - k, rfl, HS.out.1, HD.out⟩, ?_⟩
            simp [intOf]; omega
          · have hdp : t.dp < 0 := by omega
            have hdI : -(d : Int) < 0 := by omega
            rw [hdd] at c1
            have hdI2 : (d : Int) ≤ 400 := by omega
            have hdI3 : (1 : Int) ≤ (d : Int) := by omega
            by_cases q9 : 9 ≤ d
            · rw [if_pos q9] at hke
              subst hke
              clear htb hl q hdn hd kk hdd hlo hhi hdp
              go_wp2_with fail
              repeat (go_quiet (fail); go_wp2_with fail)
              refine (HC.out _ (by first | exact Hd.out | exact Hd.out.drewN _ | exact (Hd.out.drewN _).drewN _ | (simp only [drew2]; exact Hd.out.drewN _))).mono ?_
              rintro e' w' ⟨rfl, hd'⟩
              have HD := hidden' hd'
              clear hd'
              go_wp2_with fail
              refine ⟨⟨T, e - 27, rfl, HS.out.1, HD.out⟩, ?_⟩
              simp [intOf]; omega
            · rw [if_neg q9] at hke
              have hc := htb.2 d (by omega)
              rw [← hke] at hc
              have hd9 : ¬ (9 : Int) ≤ (d : Int) := by omega
              have hd9' : (d : Int) < 9 := by omega
              clear htb hke hl q hdn hd kk hdd hlo hhi hdp
              go_wp2_with fail
              repeat (go_quiet (fail); go_wp2_with fail)
              refine (HC.out _ (by first | exact Hd.out | exact Hd.out.drewN _ | exact (Hd.out.drewN _).drewN _ | (simp only [drew2]; exact Hd.out.drewN _))).mono ?_
              rintro e' w' ⟨rfl, hd'⟩
              have HD := hidden' hd'
              clear hd'
              go_wp2_with fail
              refine ⟨⟨T, e - k, rfl, HS.out.1, HD.out⟩, ?_⟩
              simp [intOf]; omega
        · obtain rfl := HA.out.done q
          have hg := HA.out.ok.first
          have kk := hd.cell 0 (by decide)
          have hcs : (0 < t.dp) ∨ (t.dp = 0 ∧ 53 ≤ t.g 0) := by unfold lowB at q; omega
          have hX := HX.out
          have HX := hidden' hX
          have HEB := HBe.out
          have hA := adj_ends HEB
          have HA4 := hidden' hA.1
          have ha1 := hA.2.1
          have ha2 := hA.2.2.1
          have ha3 := hA.2.2.2.1
          have ha4 := hA.2.2.2.2
          clear hX hA HEB HBe
          have hmb := (HF.out wr hd.bel).bias
          obtain ⟨e3, rfl⟩ : ∃ e3, e = e3 + 1 := ⟨e - 1, by omega⟩
          have HC := hidden' (fun (n : Nat) (hn1 : 1 ≤ n) (hn2 : n ≤ 600000) => HR.out wr t n hd HA.out.ok hn1 hn2 (by omega) (by omega))
          clear HA hd HP
          obtain ⟨g0, hg0⟩ : ∃ g0, t.g 0 = g0 := ⟨_, rfl⟩
          rw [hg0] at kk hg hcs
          have hgI : ((g0 : Nat) : Int) < 53 ∨ ¬ ((g0 : Nat) : Int) < 53 := by omega
          clear hg0
          obtain ⟨p, hp⟩ : ∃ p, t.dp = p := ⟨_, rfl⟩
          rw [hp] at c1 hcs hlo hhi
          have hcase : Hid ((0 < p) ∨ (p = 0 ∧ ¬ ((g0 : Nat) : Int) < 53)) := by unfold Hid; omega
          clear hcs hgI hg hp q
          go_upto_region 18 with fail
          go_cut [80] from 61 to 79 (fun a wx => a = .bool false ∧ wx = wr)
          case first =>
            rcases hcase.out with hp0 | ⟨rfl, hgg⟩
            · have hp1 : ¬ p < 0 := by omega
              have hp2 : (p == 0) = false := by simp; omega
              go_wp2_with fail
              go_meet
              exact ⟨rfl, rfl⟩
            · go_wp2_with fail
              go_meet
              exact ⟨rfl, rfl⟩
          case rest =>
          obtain ⟨rfl, rfl⟩ := hcut
          clear c1 kk hcase hlo hhi
          go_upto_if 111 with fail
          go_cut [6, 10] from 103 to 125 (fun x _ wx => x = .int .i64 (adj (t, e3 + 1)).2 ∧ DcS B K w0 wx (adj (t, e3 + 1)).1 neg)
          case first =>
            by_cases q : e3 + 1 < -1021
            · have hq : e3 < -1022 := by omega
              obtain ⟨n, hn⟩ : ∃ n : Nat, (-1021 - (e3 + 1)).toNat = n := ⟨_, rfl⟩
              have hy : -1022 - e3 = (n : Int) := by omega
              have hw : e3 + (n : Int) = -1022 := by omega
              have HAD : Hid (adj (t, e3 + 1) = (shR n t, -1022)) := by
                show (if e3 + 1 < -1021 then (shR (-1021 - (e3 + 1)).toNat t, -1022) else (t, e3 + 1 - 1)) = _
                rw [if_pos q, hn]
              have hC := HC.out n (by omega) (by omega)
              have hnI : (n : Int) ≤ 600000 := by omega
              have hnI0 : (0 : Int) ≤ (n : Int) := by omega
              clear hn HC q
              generalize adj (t, e3 + 1) = A at *
              go_wp2_with fail
              refine hC.mono ?_
              rintro e' w' ⟨rfl, hd'⟩
              have HD := hidden' hd'
              clear hd'
              go_wp2_with fail
              go_meet
              exact ⟨by rw [HAD.out], by rw [HAD.out]; exact HD.out⟩
            · have hq : ¬ e3 < -1022 := by omega
              have HAD : Hid (adj (t, e3 + 1) = (t, e3 + 1 - 1)) := by
                show (if e3 + 1 < -1021 then (shR (-1021 - (e3 + 1)).toNat t, -1022) else (t, e3 + 1 - 1)) = _
                rw [if_neg q]
              clear HC q
              generalize adj (t, e3 + 1) = A at *
              go_wp2_with fail
              go_meet
              exact ⟨by rw [HAD.out]; simp, by rw [HAD.out]; exact Hd.out⟩
          case rest =>
          obtain ⟨rfl, hd⟩ := hcut
          clear hmb HC Hd he0 he1
          generalize adj (t, e3 + 1) = A at *
          obtain ⟨t4, e4⟩ := A
          simp only at ha1 ha2 ha3 ha4 HA4 hd
          have HX : Hid (X = if 1024 ≤ e4 then ((0 : Nat), (2047 : Int), true) else if rint (lsS 53 t4) = 9007199254740992 then (if 1023 ≤ e4 then (0, 2047, true) else (4503599627370496, e4 + 1024, false)) else if (bits .and .u64 ((rint (lsS 53 t4) : Nat) : Int) 4503599627370496 == 0) = true then (rint (lsS 53 t4), 0, false) else (rint (lsS 53 t4), e4 + 1023, false)) := HX
          have Hd := hidden' hd
          have hm := (HF.out wc hd.bel).mb
          have he := (HF.out wc hd.bel).eb
          have hb := (HF.out wc hd.bel).bias
          have c2 := hd.c2
          by_cases q1 : 1024 ≤ e4
          · have HX : Hid (X = (0, 2047, true)) := by unfold Hid; rw [HX.out, if_pos q1]
            have q1' : (2047 : Int) ≤ e4 + 1023 := by omega
            clear hd
            cases neg
            · go_wp2_with fail
              repeat (go_quiet (fail); go_wp2_with fail)
              go_step3
              refine ⟨_, rfl, ?_⟩
              go_wp2_with fail
              repeat (go_quiet (fail); go_wp2_with fail)
              go_step3
              go_wp2_with fail
              repeat (go_quiet (fail); go_wp2_with fail)
              rw [fwdc_ret]
              refine bodyPost_ret (v := .tuple #[.int .u64 (foW 0 2047 false), .bool true]) ?_ rfl ⟨by rw [HX.out], ?_⟩
              · simp [results, Tryz.results96, go_sem, foW]
              · first | exact Hd.out.bel | exact (Hd.out.drewN _).bel | (simp only [drew2]; exact (Hd.out.drewN _).bel)
            · go_wp2_with fail
              repeat (go_quiet (fail); go_wp2_with fail)
              go_step3
              refine ⟨_, rfl, ?_⟩
              go_wp2_with fail
              repeat (go_quiet (fail); go_wp2_with fail)
              go_step3
              go_wp2_with fail
              repeat (go_quiet (fail); go_wp2_with fail)
              rw [fwdc_ret]
              refine bodyPost_ret (v := .tuple #[.int .u64 (foW 0 2047 true), .bool true]) ?_ rfl ⟨by rw [HX.out], ?_⟩
              · simp [results, Tryz.results96, go_sem, foW]
              · first | exact Hd.out.bel | exact (Hd.out.drewN _).bel | (simp only [drew2]; exact (Hd.out.drewN _).bel)
          · have HXX : Hid (X = if rint (lsS 53 t4) = 9007199254740992 then (if 1023 ≤ e4 then (0, 2047, true) else (4503599627370496, e4 + 1024, false)) else if (bits .and .u64 ((rint (lsS 53 t4) : Nat) : Int) 4503599627370496 == 0) = true then (rint (lsS 53 t4), 0, false) else (rint (lsS 53 t4), e4 + 1023, false)) := by unfold Hid; rw [HX.out, if_neg q1]
            have q1' : ¬ (2047 : Int) ≤ e4 + 1023 := by omega
            have HL53 := hidden' (fun (u : World) (hu : DcS B K w0 u t4 neg) => (show Calls Tryz.prog 82 #[.pointer (some ⟨K, 0, none⟩), .int .i64 53] u (DcSE B K w0 (lsS 53 t4) neg) from HL.out u t4 53 hu HA4.out (by decide) (by decide) (by omega) (by omega)))
            have hl5 := lsS_dp (k := 53) (s := t4) (by decide) (by decide)
            have HRd := hidden' (fun (u : World) (hu : DcS B K w0 u (lsS 53 t4) neg) => rounded_any hu (lsS_ok HA4.out (by decide) (by decide)) (by omega) (by omega))
            clear hl5 HX hd
            have hM64 := rint_lt (lsS 53 t4)
            generalize rint (lsS 53 t4) = M at *
            generalize lsS 53 t4 = t5 at *
            have q1u := hidden' q1
            clear q1
            go_wp2_with fail
            repeat (go_quiet (fail); go_wp2_with fail)
            refine (HL53.out _ (by first | exact Hd.out | exact Hd.out.drewN _ | exact (Hd.out.drewN _).drewN _ | (simp only [drew2]; exact Hd.out.drewN _))).mono ?_
            rintro e' w1 ⟨rfl, hd'⟩
            have HRd := hidden' (HRd.out w1 hd')
            have Hd1 := hidden' hd'
            clear hm he hb c2 hd' HL53 HR HL
            go_wp2_with fail
            refine HRd.out.mono ?_
            rintro e' w2' ⟨rfl, m', rfl⟩
            have hd2 : DcS B K w0 (w1.drewN m') t5 neg := Hd1.out.drewN m'
            clear HRd Hd1 Hd
            generalize w1.drewN m' = w2 at *
            have hm := (HF.out w2 hd2.bel).mb
            have he := (HF.out w2 hd2.bel).eb
            have hb := (HF.out w2 hd2.bel).bias
            have c2 := hd2.c2
            have Hd := hidden' hd2
            clear hd2
            by_cases hM : M = 9007199254740992
            · subst hM
              by_cases q2 : 1023 ≤ e4
              · have HX : Hid (X = (0, 2047, true)) := by unfold Hid; rw [HXX.out, if_pos rfl, if_pos q2]
                have q2' : (2047 : Int) ≤ e4 + 1 + 1023 := by omega
                clear HXX q2
                cases neg
                · go_wp2_with fail
                  repeat (go_quiet (fail); go_wp2_with fail)
                  go_step3
                  refine ⟨_, rfl, ?_⟩
                  go_wp2_with fail
                  repeat (go_quiet (fail); go_wp2_with fail)
                  go_step3
                  go_wp2_with fail
                  repeat (go_quiet (fail); go_wp2_with fail)
                  rw [fwdc_ret]
                  refine bodyPost_ret (v := .tuple #[.int .u64 (foW 0 2047 false), .bool true]) ?_ rfl ⟨by rw [HX.out], ?_⟩
                  · simp [results, Tryz.results96, go_sem, foW]
                  · first | exact Hd.out.bel | exact (Hd.out.drewN _).bel | (simp only [drew2]; exact (Hd.out.drewN _).bel)
                · go_wp2_with fail
                  repeat (go_quiet (fail); go_wp2_with fail)
                  go_step3
                  refine ⟨_, rfl, ?_⟩
                  go_wp2_with fail
                  repeat (go_quiet (fail); go_wp2_with fail)
                  go_step3
                  go_wp2_with fail
                  repeat (go_quiet (fail); go_wp2_with fail)
                  rw [fwdc_ret]
                  refine bodyPost_ret (v := .tuple #[.int .u64 (foW 0 2047 true), .bool true]) ?_ rfl ⟨by rw [HX.out], ?_⟩
                  · simp [results, Tryz.results96, go_sem, foW]
                  · first | exact Hd.out.bel | exact (Hd.out.drewN _).bel | (simp only [drew2]; exact (Hd.out.drewN _).bel)
              · have HX : Hid (X = (4503599627370496, e4 + 1024, false)) := by unfold Hid; rw [HXX.out, if_pos rfl, if_neg q2]
                have q2' : ¬ (2047 : Int) ≤ e4 + 1 + 1023 := by omega
                have e5 : e4 + 1 + 1023 = e4 + 1024 := by omega
                clear HXX q2
                cases neg
                · go_wp2_with fail
                  repeat (go_quiet (fail); go_wp2_with fail)
                  go_step3
                  refine ⟨_, rfl, ?_⟩
                  go_wp2_with fail
                  repeat (go_quiet (fail); go_wp2_with fail)
                  rw [fwdc_ret]
                  refine bodyPost_ret (v := .tuple #[.int .u64 (foW 4503599627370496 (e4 + 1024) false), .bool false]) ?_ rfl ⟨by rw [HX.out], ?_⟩
                  · simp [results, Tryz.results96, go_sem, foW]
                  · first | exact Hd.out.bel | exact (Hd.out.drewN _).bel | (simp only [drew2]; exact (Hd.out.drewN _).bel)
                · go_wp2_with fail
                  repeat (go_quiet (fail); go_wp2_with fail)
                  go_step3
                  refine ⟨_, rfl, ?_⟩
                  go_wp2_with fail
                  repeat (go_quiet (fail); go_wp2_with fail)
                  rw [fwdc_ret]
                  refine bodyPost_ret (v := .tuple #[.int .u64 (foW 4503599627370496 (e4 + 1024) true), .bool false]) ?_ rfl ⟨by rw [HX.out], ?_⟩
                  · simp [results, Tryz.results96, go_sem, foW]
                  · first | exact Hd.out.bel | exact (Hd.out.drewN _).bel | (simp only [drew2]; exact (Hd.out.drewN _).bel)
            · have hMI : ((M : Nat) : Int) ≠ 9007199254740992 := by omega
              have hMb : (((M : Nat) : Int) == 9007199254740992) = false := by simp only [beq_eq_false_iff_ne, ne_eq]; exact hMI
              cases q3 : (bits .and .u64 ((M : Nat) : Int) 4503599627370496 == 0)
              · have HX : Hid (X = (M, e4 + 1023, false)) := by unfold Hid; rw [HXX.out, if_neg hM, q3, if_neg (by decide)]
                clear HXX hMI hM
                cases neg
                · go_wp2_with fail
                  repeat (go_quiet (fail); go_wp2_with fail)
                  go_step3
                  refine ⟨_, rfl, ?_⟩
                  go_wp2_with fail
                  repeat (go_quiet (fail); go_wp2_with fail)
                  rw [fwdc_ret]
                  refine bodyPost_ret (v := .tuple #[.int .u64 (foW M (e4 + 1023) false), .bool false]) ?_ rfl ⟨by rw [HX.out], ?_⟩
                  · simp [results, Tryz.results96, go_sem, foW]
                  · first | exact Hd.out.bel | exact (Hd.out.drewN _).bel | (simp only [drew2]; exact (Hd.out.drewN _).bel)
                · go_wp2_with fail
                  repeat (go_quiet (fail); go_wp2_with fail)
                  go_step3
                  refine ⟨_, rfl, ?_⟩
                  go_wp2_with fail
                  repeat (go_quiet (fail); go_wp2_with fail)
                  rw [fwdc_ret]
                  refine bodyPost_ret (v := .tuple #[.int .u64 (foW M (e4 + 1023) true), .bool false]) ?_ rfl ⟨by rw [HX.out], ?_⟩
                  · simp [results, Tryz.results96, go_sem, foW]
                  · first | exact Hd.out.bel | exact (Hd.out.drewN _).bel | (simp only [drew2]; exact (Hd.out.drewN _).bel)
              · have HX : Hid (X = (M, 0, false)) := by unfold Hid; rw [HXX.out, if_neg hM, q3, if_pos rfl]
                clear HXX hMI hM
                cases neg
                · go_wp2_with fail
                  repeat (go_quiet (fail); go_wp2_with fail)
                  go_step3
                  refine ⟨_, rfl, ?_⟩
                  go_wp2_with fail
                  repeat (go_quiet (fail); go_wp2_with fail)
                  rw [fwdc_ret]
                  refine bodyPost_ret (v := .tuple #[.int .u64 (foW M 0 false), .bool false]) ?_ rfl ⟨by rw [HX.out], ?_⟩
                  · simp [results, Tryz.results96, go_sem, foW]
                  · first | exact Hd.out.bel | exact (Hd.out.drewN _).bel | (simp only [drew2]; exact (Hd.out.drewN _).bel)
                · go_wp2_with fail
                  repeat (go_quiet (fail); go_wp2_with fail)
                  go_step3
                  refine ⟨_, rfl, ?_⟩
                  go_wp2_with fail
                  repeat (go_quiet (fail); go_wp2_with fail)
                  rw [fwdc_ret]
                  refine bodyPost_ret (v := .tuple #[.int .u64 (foW M 0 true), .bool false]) ?_ rfl ⟨by rw [HX.out], ?_⟩
                  · simp [results, Tryz.results96, go_sem, foW]
                  · first | exact Hd.out.bel | exact (Hd.out.drewN _).bel | (simp only [drew2]; exact (Hd.out.drewN _).bel)
end Go.Proofs.PlatenFigure
