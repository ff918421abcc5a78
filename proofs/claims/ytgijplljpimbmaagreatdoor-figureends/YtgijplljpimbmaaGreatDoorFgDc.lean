/- What strconv's decimal is, shifted to the right. -/
import Derived.Test.YtgijplljpimbmaaGreatDoorKA
namespace Go.Proofs.PlatenFigure
open Go.RowKit
set_option linter.unusedVariables false
set_option linter.unusedSimpArgs false
set_option maxRecDepth 20000

theorem Dc.congr {B K : Nat} {w0 w : World} {g g' : Nat → Nat} {nd : Nat} {dp : Int} {neg tr : Bool} (h : Dc B K w0 w g nd dp neg tr) (he : ∀ j, j < 800 → g j = g' j) (hb : ∀ j, g' j < 256) : Dc B K w0 w g' nd dp neg tr :=
  ⟨h.low, h.head, hb, fun j hj => by rw [← he j hj]; exact h.cell j hj, h.c0, h.c1, h.c2, h.c3, h.bel⟩
theorem pow_int (k : Nat) : ((2 ^ k : Nat) : Int) = 2 ^ k := by push_cast; rfl
theorem wrap_pow (k : Nat) (h : 2 ^ k ≤ 1152921504606846976) : IntKind.u64.wrap ((2 : Int) ^ k) = (2 : Int) ^ k := by
  have e := pow_int k
  rw [← e]
  generalize 2 ^ k = P at *
  rw [IntKind.wrap_u64]; omega
theorem wrap_mask (k : Nat) (h : 2 ^ k ≤ 1152921504606846976) : IntKind.u64.wrap ((2 : Int) ^ k - 1) = ((2 ^ k - 1 : Nat) : Int) := by
  have e := pow_int k
  have := Nat.two_pow_pos k
  rw [← e]
  generalize 2 ^ k = P at *
  rw [IntKind.wrap_u64]; omega
theorem and_mask (n k : Nat) (hn : n < 18446744073709551616) (h : 2 ^ k ≤ 1152921504606846976) : bits .and .u64 (n : Int) ((2 ^ k - 1 : Nat) : Int) = ((n % 2 ^ k : Nat) : Int) := by
  have := bits_and_nat n (2 ^ k - 1) hn (by omega)
  rw [Nat.and_two_pow_sub_one_eq_mod] at this
  exact this
theorem tgs_low (g : Nat → Nat) (nd k r : Nat) (tr : Bool) : ∀ i, i ≤ 800 → tgs g nd k r tr i = tr
  | 0, _ => rfl
  | i + 1, h => by rw [tgs, tgs_low g nd k r tr i (by omega), decide_eq_false (show ¬ 800 ≤ i by omega), Bool.false_and, Bool.or_false]
theorem gs_lt {g : Nat → Nat} {nd k r i : Nat} (h : OkG g nd) (hp : Pick g nd k r) (hb : ∀ j, g j < 256) (j : Nat) : gs g nd k r i j < 256 := by
  unfold gs
  by_cases q : j < i
  · rw [if_pos q]; have := dgs_le h hp j; omega
  · rw [if_neg q]; exact hb j
theorem mask_int (k : Nat) : (2 : Int) ^ k - 1 = ((2 ^ k - 1 : Nat) : Int) := by
  have := Nat.two_pow_pos k
  have e : ((2 ^ k : Nat) : Int) = 2 ^ k := by push_cast; rfl
  omega
set_option maxHeartbeats 16000000 in
theorem rightShift_any {B K : Nat} {w0 w : World} {g : Nat → Nat} {nd : Nat} {dp : Int} {neg tr : Bool} {k R m : Nat} (h : Dc B K w0 w g nd dp neg tr) (ok : OkG g nd) (hn : 0 < nd) (hk : k ≤ 60)
    (hp : Pick g nd k R) (hs : Stop g nd k R m) (hd1 : -1000000 ≤ dp) (hd2 : dp ≤ 1000000) :
    Calls Tryz.prog 116 #[.pointer (some ⟨K, 0, none⟩), .int .u64 (k : Nat)] w (DcE B K w0 (gs g nd k R m) (trimN (gs g nd k R m) (min m 800)) (trimP (gs g nd k R m) (min m 800) (dp - ((R : Int) - 1))) neg (tgs g nd k R tr m)) := by
  have GB := hidden' h.gb
  have H := hidden' h
  have OK := hidden' ok
  have HN := hidden' hn
  have HP := hidden' hp
  have HS := hidden' hs
  have hR1 := hp.pos
  have hR2 := hp.le
  have hnd8 := ok.le
  have hP60 : 2 ^ k ≤ 1152921504606846976 := Nat.le_trans (Nat.pow_le_pow_right (by decide) hk) (by decide)
  have hP0 := Nat.two_pow_pos k
  have HH := hidden' (fun (wr : World) (q : ∃ q, wr = w.drewN q) => show Dc B K w0 wr g nd dp neg tr by obtain ⟨q, rfl⟩ := q; exact h.drewN q)
  clear h ok hp hs hn
  generalize hX : DcE B K w0 (gs g nd k R m) (trimN (gs g nd k R m) (min m 800)) (trimP (gs g nd k R m) (min m 800) (dp - ((R : Int) - 1))) neg (tgs g nd k R tr m) = X
  have HX := hidden' hX
  clear hX
  go_enter Tryz.func116, Tryz.ntmps116
  go_wp2_with fail
  go_loopw [4, 6] (fun r n wr => ∃ i : Nat, i ≤ R ∧ i ≤ nd ∧ r = .int .i64 (i : Nat) ∧ n = .int .u64 (Vr g nd i : Nat) ∧ ∃ q, wr = w.drewN q) (fun r _ _ => R - (intOf r).toNat)
  case atStart => exact ⟨0, Nat.zero_le _, Nat.zero_le _, rfl, rfl, 0, rfl⟩
  case round =>
    obtain ⟨i, hi, hin, rfl, rfl, hb⟩ := hrel
    have Hb := hidden' hb
    have HHr := hidden' (HH.out _ hb)
    have c0 := HHr.out.c0
    have f0 := HHr.out.free 800
    clear hb
    have eDiv : ((Vr g nd i : Nat) : Int) / 2 ^ k = ((Vr g nd i / 2 ^ k : Nat) : Int) := by push_cast; rfl
    by_cases hlt : i = R
    · have hlt' := hlt.symm
      subst hlt'
      have hpos : Hid (0 < Vr g nd R / 2 ^ k) := Nat.div_pos HP.out.ge hP0
      have hz : ((((Vr g nd R / 2 ^ k : Nat) : Int)) == 0) = false := by have := hpos.out; simp only [beq_eq_false_iff_ne, ne_eq]; omega
      have HV : Hid (Vr g nd R = ns g nd k R 0) := rfl
      clear hi Hb
      generalize Vr g nd R = N0 at *
      generalize N0 / 2 ^ k = Y at *
      have HD0 := hidden' (HHr.out.setDp (dp - (((R : Nat) : Int) - 1)))
      have hm1 : IntKind.u64.wrap ((2 : Int) ^ k) = (2 : Int) ^ k := wrap_pow k hP60
      have hm2 : IntKind.u64.wrap ((2 : Int) ^ k - 1) = ((2 ^ k - 1 : Nat) : Int) := wrap_mask k hP60
      have c1 := HHr.out.c1
      have f1 := HHr.out.free 801
      have hRI : ((R : Nat) : Int) ≤ 20 := by omega
      have hRI0 : (0 : Int) < ((R : Nat) : Int) := by omega
      clear HHr
      go_wp2_with fail
      clear c0 f0 c1 f1 hm1 hm2
      generalize hD : dp - (((R : Nat) : Int) - 1) = D at *
      generalize hw1 : wr.setCell ⟨K, 801, none⟩ (.int .i64 D) = w1 at *
      clear hw1
      go_loopw [4, 5, 6] (fun r v n wr => ∃ i : Nat, i ≤ nd - R ∧ r = .int .i64 ((R + i : Nat)) ∧ v = .int .i64 (i : Nat) ∧ n = .int .u64 (ns g nd k R i : Nat) ∧ Dc B K w0 wr (gs g nd k R i) nd D neg tr) (fun r _ _ _ => nd - (intOf r).toNat)
      case atStart => exact ⟨0, Nat.zero_le _, rfl, rfl, by rw [HV.out], by rw [gs_zero]; exact HD0.out⟩
      case round =>
        obtain ⟨i, hi, rfl, rfl, rfl, hd⟩ := hrel
        have HHr := hidden' hd
        clear hd
        have c0 := HHr.out.c0
        have f0 := HHr.out.free 800
        by_cases hlt : i < nd - R
        · have eg : gs g nd k R i (R + i) = g (R + i) := by unfold gs; rw [if_neg (by omega)]
          have hcell := HHr.out.cell (R + i) (by omega)
          rw [eg] at hcell
          have hlo := OK.out.lo (R + i) (by omega)
          have hhi := OK.out.hi (R + i) (by omega)
          have hN := ns_lt OK.out HP.out i
          have hNb : ns g nd k R i < 18446744073709551616 := by omega
          have eD : ((ns g nd k R i : Nat) : Int) / 2 ^ k = ((dgs g nd k R i : Nat) : Int) := by unfold dgs; push_cast; rfl
          have hD9 := dgs_le OK.out HP.out i
          have eA := and_mask (ns g nd k R i) k hNb hP60
          have hA : ns g nd k R i % 2 ^ k < 1152921504606846976 := Nat.lt_of_lt_of_le (Nat.mod_lt _ hP0) hP60
          have Hn : Hid (ns g nd k R (i + 1) = ns g nd k R i % 2 ^ k * 10 + (g (R + i) - 48)) := by unfold Hid; rw [ns, ddg, if_pos (by omega)]
          have fi := HHr.out.free i
          have ci := HHr.out.cell i (by omega)
          have hput := HHr.out.put (i := i) (c := 48 + dgs g nd k R i) (by omega) (by omega)
          rw [← gs_step, show ((48 + dgs g nd k R i : Nat) : Int) = (dgs g nd k R i : Int) + 48 by omega] at hput
          have HPut := hidden' hput
          have hE8 : ((R + i : Nat) : Int) < 800 := by omega
          have hEn : ((R + i : Nat) : Int) < nd := by omega
          have hi8 : (i : Int) < 800 := by omega
          have Hlt := hidden' hlt
          have Hi := hidden' hi
          clear hput HHr eg hN hlt hi
          generalize hE : R + i = E at *
          have HE := hidden' hE
          clear hE
          generalize g E = c at *
          generalize gs g nd k R i i = gi at *
          generalize dgs g nd k R i = D1 at *
          generalize ns g nd k R i % 2 ^ k = A at *
          generalize ns g nd k R i = N at *
          have eV : ((A * 10 + (c - 48) : Nat) : Int) = (A : Int) * 10 + c - 48 := by omega
          go_wp2_with fail
          refine ⟨⟨i + 1, by have := Hlt.out; omega, by have := HE.out; subst this; go_num, by go_num, by rw [Hn.out, eV], HPut.out⟩, by have := Hlt.out; have := HE.out; simp [intOf]; omega⟩
        · have hge : ¬ ((R + i : Nat) : Int) < nd := by omega
          have hid : i = nd - R := by omega
          have Htr : Hid (tgs g nd k R tr i = tr) := tgs_low g nd k R tr i (by omega)
          have Hi := hidden' hid
          have Hm := hidden' HS.out.ge
          have hd := HHr.out
          rw [← Htr.out] at hd
          have HD1 := hidden' hd
          clear HHr hlt hi hid hd Htr
          generalize R + i = E at *
          generalize hNN : ns g nd k R i = NN at *
          have HNN := hidden' hNN
          clear hNN
          go_wp2_with fail
          clear c0 f0
          go_loopw [5, 6] (fun v n wr => ∃ i : Nat, nd - R ≤ i ∧ i ≤ m ∧ v = .int .i64 ((min i 800 : Nat)) ∧ n = .int .u64 (ns g nd k R i : Nat) ∧ Dc B K w0 wr (gs g nd k R i) nd D neg (tgs g nd k R tr i)) (fun _ n _ => itc k 100 (intOf n).toNat)
          case atStart => exact ⟨i, by have := Hi.out; omega, by have := Hi.out; have := Hm.out; omega, by rw [show min i 800 = i by have := Hi.out; omega], by rw [HNN.out], HD1.out⟩
          case round =>
            clear HD1 Hi HNN hge
            obtain ⟨i, hi, him, rfl, rfl, hd⟩ := hrel
            have HHr := hidden' hd
            clear hd
            by_cases hz : ns g nd k R i = 0
            · have hmi : m = i := by
                rcases Nat.lt_or_ge i m with q | q
                · exact absurd hz (HS.out.more i hi q)
                · omega
              subst hmi
              have hN0 : ¬ (0 : Int) < ((ns g nd k R m : Nat) : Int) := by omega
              have HT := hidden' (HHr.out.setNd (min m 800))
              have c0 := HHr.out.c0
              have f0 := HHr.out.free 800
              have hmin : min m 800 ≤ 800 := by omega
              clear HHr hz hi him
              generalize ns g nd k R m = N at *
              generalize gs g nd k R m = G at *
              generalize tgs g nd k R tr m = T at *
              generalize min m 800 = M at *
              go_wp2_with fail
              refine (trim_any HT.out hmin).mono ?_
              rintro e w' ⟨rfl, hd'⟩
              have HD' := hidden' hd'
              clear hd'
              go_wp2_with fail
              go_end0
              rw [← HX.out]
              exact ⟨rfl, HD'.out⟩
            · have him' : i < m := by
                rcases Nat.lt_or_ge i m with q | q
                · exact q
                · have : i = m := by omega
                  subst this
                  exact absurd HS.out.zero hz
              have HDec := hidden' (HS.out.dec hk i hi him')
              have hN := ns_lt OK.out HP.out i
              have hNb : ns g nd k R i < 18446744073709551616 := by omega
              have hN0 : (0 : Int) < ((ns g nd k R i : Nat) : Int) := by omega
              have eD : ((ns g nd k R i : Nat) : Int) / 2 ^ k = ((dgs g nd k R i : Nat) : Int) := by unfold dgs; push_cast; rfl
              have hD9 := dgs_le OK.out HP.out i
              have eA := and_mask (ns g nd k R i) k hNb hP60
              have hA : ns g nd k R i % 2 ^ k < 1152921504606846976 := Nat.lt_of_lt_of_le (Nat.mod_lt _ hP0) hP60
              have Hn : Hid (ns g nd k R (i + 1) = ns g nd k R i % 2 ^ k * 10) := by unfold Hid; rw [ns, ddg, if_neg (by omega)]; rfl
              have Hi1 := hidden' (show nd - R ≤ i + 1 by omega)
              have Hi2 := hidden' him'
              by_cases hw : i < 800
              · have fi := HHr.out.free i
                have ci := HHr.out.cell i hw
                have hput := HHr.out.put (i := i) (c := 48 + dgs g nd k R i) hw (by omega)
                have ht : tgs g nd k R tr i = tgs g nd k R tr (i + 1) := by rw [tgs, decide_eq_false (show ¬ 800 ≤ i by omega), Bool.false_and, Bool.or_false]
                rw [← gs_step, show ((48 + dgs g nd k R i : Nat) : Int) = (dgs g nd k R i : Int) + 48 by omega, ht] at hput
                have HPut := hidden' hput
                have hi8 : (i : Int) < 800 := by omega
                have hmn : min i 800 = i := by omega
                have hmn1 : Hid (min (i + 1) 800 = i + 1) := by unfold Hid; omega
                clear hput HHr hz hN hi him ht
                rw [hmn]
                clear hmn
                generalize gs g nd k R i i = gi at *
                generalize dgs g nd k R i = D1 at *
                generalize ns g nd k R i % 2 ^ k = A at *
                generalize ns g nd k R i = N at *
                have eV : ((A * 10 : Nat) : Int) = (A : Int) * 10 := by omega
                go_wp2_with fail
                refine ⟨⟨i + 1, Hi1.out, Hi2.out, by rw [hmn1.out]; go_num, by rw [Hn.out, eV], HPut.out⟩, ?_⟩
                rw [← eV, ← Hn.out]
                exact HDec.out
              · have hmn : min i 800 = 800 := by omega
                have hmn1 : Hid (min (i + 1) 800 = 800) := by unfold Hid; omega
                have hcg := HHr.out.congr (g' := gs g nd k R (i + 1)) (fun j hj => by unfold gs; rw [if_pos (by omega), if_pos (by omega)]) (gs_lt OK.out HP.out GB.out)
                by_cases hd0 : 0 < dgs g nd k R i
                · have hput := hcg.setTr true
                  have ht : true = tgs g nd k R tr (i + 1) := by rw [tgs, decide_eq_true (show 800 ≤ i by omega), decide_eq_true hd0, Bool.true_and, Bool.or_true]
                  have c3 := HHr.out.c3
                  have f3 := HHr.out.free 803
                  have hdI : (0 : Int) < ((dgs g nd k R i : Nat) : Int) := by omega
                  have HPut := hidden' (show Dc B K w0 (wr.setCell ⟨K, 803, none⟩ (.bool true)) (gs g nd k R (i + 1)) nd D neg (tgs g nd k R tr (i + 1)) by rw [← ht]; exact hput)
                  clear hput HHr hz hN hi him ht hw hcg hd0
                  rw [hmn]
                  clear hmn
                  generalize tgs g nd k R tr i = T at *
                  generalize dgs g nd k R i = D1 at *
                  generalize ns g nd k R i % 2 ^ k = A at *
                  generalize ns g nd k R i = N at *
                  have eV : ((A * 10 : Nat) : Int) = (A : Int) * 10 := by omega
                  go_wp2_with fail
                  refine ⟨⟨i + 1, Hi1.out, Hi2.out, by rw [hmn1.out], by rw [Hn.out, eV], HPut.out⟩, ?_⟩
                  rw [← eV, ← Hn.out]
                  exact HDec.out
                · have ht : tgs g nd k R tr i = tgs g nd k R tr (i + 1) := by rw [tgs, decide_eq_false hd0, Bool.and_false, Bool.or_false]
                  rw [ht] at hcg
                  have hdI : ¬ (0 : Int) < ((dgs g nd k R i : Nat) : Int) := by omega
                  have HPut := hidden' hcg
                  clear HHr hz hN hi him ht hw hcg hd0
                  rw [hmn]
                  clear hmn
                  generalize dgs g nd k R i = D1 at *
                  generalize ns g nd k R i % 2 ^ k = A at *
                  generalize ns g nd k R i = N at *
                  have eV : ((A * 10 : Nat) : Int) = (A : Int) * 10 := by omega
                  go_wp2_with fail
                  refine ⟨⟨i + 1, Hi1.out, Hi2.out, by rw [hmn1.out], by rw [Hn.out, eV], HPut.out⟩, ?_⟩
                  rw [← eV, ← Hn.out]
                  exact HDec.out
    · have hi' : i < R := by omega
      have hlow := HP.out.lt i hi'
      have hzero : Hid (Vr g nd i / 2 ^ k = 0) := Nat.div_eq_of_lt hlow
      rw [hzero.out] at eDiv
      have eDiv0 : ((Vr g nd i : Nat) : Int) / 2 ^ k = 0 := eDiv
      clear eDiv
      by_cases hnd : i < nd
      · have hcell := HHr.out.cell i (by omega)
        have hlo := OK.out.lo i hnd
        have hhi := OK.out.hi i hnd
        have Hv : Hid (Vr g nd (i + 1) = 10 * Vr g nd i + (g i - 48)) := by unfold Hid; rw [Vr, ddg, if_pos hnd]
        have hiI : (i : Int) < nd := by omega
        have hi8 : (i : Int) < 800 := by omega
        have hq : ∃ q, wr = w.drewN q := Hb.out
        obtain ⟨q0, hb⟩ := hq
        have HQ := hidden' hb
        clear hlt hb
        generalize g i = c at *
        generalize hV : Vr g nd i = V at *
        have HV := hidden' hV
        clear hV
        have hV6 : V < 1152921504606846976 := by omega
        have eV : ((10 * V + (c - 48) : Nat) : Int) = (V : Int) * 10 + c - 48 := by omega
        go_wp2_with fail
        refine ⟨⟨i + 1, hi', hnd, by go_num, ?_, Hb.out⟩, by simp [intOf]; omega⟩
        rw [Hv.out, eV]
      · have hin2 : i = nd := by omega
        have hV1 : Hid (1 ≤ Vr g nd i) := by
          have := Vr_big OK.out HN.out (i - 1)
          rw [show i - 1 + 1 = i by have := HN.out; omega] at this
          exact Nat.le_trans (Nat.pow_pos (by decide)) this
        have hnI : ¬ (i : Int) < nd := by omega
        have hz : ((((Vr g nd i : Nat) : Int)) == 0) = false := by have := hV1.out; simp only [beq_eq_false_iff_ne, ne_eq]; omega
        clear hlt hzero hnd
        generalize hV : Vr g nd i = V at *
        have HV := hidden' hV
        have hV6 : V < 1152921504606846976 := by omega
        clear hV
        go_wp2_with fail
        go_loopw [4, 6] (fun r n wq => ∃ j : Nat, nd ≤ j ∧ j ≤ R ∧ r = .int .i64 (j : Nat) ∧ n = .int .u64 (Vr g nd j : Nat) ∧ Dc B K w0 wq g nd dp neg tr) (fun r _ _ => R - (intOf r).toNat)
        case atStart => exact ⟨i, by omega, hi, by rw [hin2], by rw [HV.out], HHr.out⟩
        case round =>
          clear HHr hV1 hz HV hlow hV6 eDiv0 c0 f0 Hb
          obtain ⟨j, hj1, hj2, rfl, rfl, hd⟩ := hrel
          have HHr := hidden' hd
          have c0 := HHr.out.c0
          have f0 := HHr.out.free 800
          clear hd
          have eDiv : ((Vr g nd j : Nat) : Int) / 2 ^ k = ((Vr g nd j / 2 ^ k : Nat) : Int) := by push_cast; rfl
          by_cases hlt : j = R
          · have hlt' := hlt.symm
            subst hlt'
            have hpos : Hid (0 < Vr g nd R / 2 ^ k) := Nat.div_pos HP.out.ge hP0
            have hz : ((((Vr g nd R / 2 ^ k : Nat) : Int)) == 0) = false := by have := hpos.out; simp only [beq_eq_false_iff_ne, ne_eq]; omega
            have HV : Hid (Vr g nd R = ns g nd k R 0) := rfl
            generalize Vr g nd R = N0 at *
            generalize N0 / 2 ^ k = Y at *
            have HD0 := hidden' (HHr.out.setDp (dp - (((R : Nat) : Int) - 1)))
            have hm1 : IntKind.u64.wrap ((2 : Int) ^ k) = (2 : Int) ^ k := wrap_pow k hP60
            have hm2 : IntKind.u64.wrap ((2 : Int) ^ k - 1) = ((2 ^ k - 1 : Nat) : Int) := wrap_mask k hP60
            have c1 := HHr.out.c1
            have f1 := HHr.out.free 801
            have hRI : ((R : Nat) : Int) ≤ 20 := by omega
            have hRI0 : (0 : Int) < ((R : Nat) : Int) := by omega
            clear HHr
            go_wp2_with fail
            clear c0 f0 c1 f1 hm1 hm2
            generalize hD : dp - (((R : Nat) : Int) - 1) = D at *
            generalize hw1 : wr.setCell ⟨K, 801, none⟩ (.int .i64 D) = w1 at *
            clear hw1
            go_loopw [4, 5, 6] (fun r v n wr => ∃ i : Nat, i ≤ nd - R ∧ r = .int .i64 ((R + i : Nat)) ∧ v = .int .i64 (i : Nat) ∧ n = .int .u64 (ns g nd k R i : Nat) ∧ Dc B K w0 wr (gs g nd k R i) nd D neg tr) (fun r _ _ _ => nd - (intOf r).toNat)
            case atStart => exact ⟨0, Nat.zero_le _, rfl, rfl, by rw [HV.out], by rw [gs_zero]; exact HD0.out⟩
            case round =>
              obtain ⟨i, hi, rfl, rfl, rfl, hd⟩ := hrel
              have HHr := hidden' hd
              clear hd
              have c0 := HHr.out.c0
              have f0 := HHr.out.free 800
              by_cases hlt : i < nd - R
              · have eg : gs g nd k R i (R + i) = g (R + i) := by unfold gs; rw [if_neg (by omega)]
                have hcell := HHr.out.cell (R + i) (by omega)
                rw [eg] at hcell
                have hlo := OK.out.lo (R + i) (by omega)
                have hhi := OK.out.hi (R + i) (by omega)
                have hN := ns_lt OK.out HP.out i
                have hNb : ns g nd k R i < 18446744073709551616 := by omega
                have eD : ((ns g nd k R i : Nat) : Int) / 2 ^ k = ((dgs g nd k R i : Nat) : Int) := by unfold dgs; push_cast; rfl
                have hD9 := dgs_le OK.out HP.out i
                have eA := and_mask (ns g nd k R i) k hNb hP60
                have hA : ns g nd k R i % 2 ^ k < 1152921504606846976 := Nat.lt_of_lt_of_le (Nat.mod_lt _ hP0) hP60
                have Hn : Hid (ns g nd k R (i + 1) = ns g nd k R i % 2 ^ k * 10 + (g (R + i) - 48)) := by unfold Hid; rw [ns, ddg, if_pos (by omega)]
                have fi := HHr.out.free i
                have ci := HHr.out.cell i (by omega)
                have hput := HHr.out.put (i := i) (c := 48 + dgs g nd k R i) (by omega) (by omega)
                rw [← gs_step, show ((48 + dgs g nd k R i : Nat) : Int) = (dgs g nd k R i : Int) + 48 by omega] at hput
                have HPut := hidden' hput
                have hE8 : ((R + i : Nat) : Int) < 800 := by omega
                have hEn : ((R + i : Nat) : Int) < nd := by omega
                have hi8 : (i : Int) < 800 := by omega
                have Hlt := hidden' hlt
                have Hi := hidden' hi
                clear hput HHr eg hN hlt hi
                generalize hE : R + i = E at *
                have HE := hidden' hE
                clear hE
                generalize g E = c at *
                generalize gs g nd k R i i = gi at *
                generalize dgs g nd k R i = D1 at *
                generalize ns g nd k R i % 2 ^ k = A at *
                generalize ns g nd k R i = N at *
                have eV : ((A * 10 + (c - 48) : Nat) : Int) = (A : Int) * 10 + c - 48 := by omega
                go_wp2_with fail
                refine ⟨⟨i + 1, by have := Hlt.out; omega, by have := HE.out; subst this; go_num, by go_num, by rw [Hn.out, eV], HPut.out⟩, by have := Hlt.out; have := HE.out; simp [intOf]; omega⟩
              · have hge : ¬ ((R + i : Nat) : Int) < nd := by omega
                have hid : i = nd - R := by omega
                have Htr : Hid (tgs g nd k R tr i = tr) := tgs_low g nd k R tr i (by omega)
                have Hi := hidden' hid
                have Hm := hidden' HS.out.ge
                have hd := HHr.out
                rw [← Htr.out] at hd
                have HD1 := hidden' hd
                clear HHr hlt hi hid hd Htr
                generalize R + i = E at *
                generalize hNN : ns g nd k R i = NN at *
                have HNN := hidden' hNN
                clear hNN
                go_wp2_with fail
                clear c0 f0
                go_loopw [5, 6] (fun v n wr => ∃ i : Nat, nd - R ≤ i ∧ i ≤ m ∧ v = .int .i64 ((min i 800 : Nat)) ∧ n = .int .u64 (ns g nd k R i : Nat) ∧ Dc B K w0 wr (gs g nd k R i) nd D neg (tgs g nd k R tr i)) (fun _ n _ => itc k 100 (intOf n).toNat)
                case atStart => exact ⟨i, by have := Hi.out; omega, by have := Hi.out; have := Hm.out; omega, by rw [show min i 800 = i by have := Hi.out; omega], by rw [HNN.out], HD1.out⟩
                case round =>
                  clear HD1 Hi HNN hge
                  obtain ⟨i, hi, him, rfl, rfl, hd⟩ := hrel
                  have HHr := hidden' hd
                  clear hd
                  by_cases hz : ns g nd k R i = 0
                  · have hmi : m = i := by
                      rcases Nat.lt_or_ge i m with q | q
                      · exact absurd hz (HS.out.more i hi q)
                      · omega
                    subst hmi
                    have hN0 : ¬ (0 : Int) < ((ns g nd k R m : Nat) : Int) := by omega
                    have HT := hidden' (HHr.out.setNd (min m 800))
                    have c0 := HHr.out.c0
                    have f0 := HHr.out.free 800
                    have hmin : min m 800 ≤ 800 := by omega
                    clear HHr hz hi him
                    generalize ns g nd k R m = N at *
                    generalize gs g nd k R m = G at *
                    generalize tgs g nd k R tr m = T at *
                    generalize min m 800 = M at *
                    go_wp2_with fail
                    refine (trim_any HT.out hmin).mono ?_
                    rintro e w' ⟨rfl, hd'⟩
                    have HD' := hidden' hd'
                    clear hd'
                    go_wp2_with fail
                    go_end0
                    rw [← HX.out]
                    exact ⟨rfl, HD'.out⟩
                  · have him' : i < m := by
                      rcases Nat.lt_or_ge i m with q | q
                      · exact q
                      · have : i = m := by omega
                        subst this
                        exact absurd HS.out.zero hz
                    have HDec := hidden' (HS.out.dec hk i hi him')
                    have hN := ns_lt OK.out HP.out i
                    have hNb : ns g nd k R i < 18446744073709551616 := by omega
                    have hN0 : (0 : Int) < ((ns g nd k R i : Nat) : Int) := by omega
                    have eD : ((ns g nd k R i : Nat) : Int) / 2 ^ k = ((dgs g nd k R i : Nat) : Int) := by unfold dgs; push_cast; rfl
                    have hD9 := dgs_le OK.out HP.out i
                    have eA := and_mask (ns g nd k R i) k hNb hP60
                    have hA : ns g nd k R i % 2 ^ k < 1152921504606846976 := Nat.lt_of_lt_of_le (Nat.mod_lt _ hP0) hP60
                    have Hn : Hid (ns g nd k R (i + 1) = ns g nd k R i % 2 ^ k * 10) := by unfold Hid; rw [ns, ddg, if_neg (by omega)]; rfl
                    have Hi1 := hidden' (show nd - R ≤ i + 1 by omega)
                    have Hi2 := hidden' him'
                    by_cases hw : i < 800
                    · have fi := HHr.out.free i
                      have ci := HHr.out.cell i hw
                      have hput := HHr.out.put (i := i) (c := 48 + dgs g nd k R i) hw (by omega)
                      have ht : tgs g nd k R tr i = tgs g nd k R tr (i + 1) := by rw [tgs, decide_eq_false (show ¬ 800 ≤ i by omega), Bool.false_and, Bool.or_false]
                      rw [← gs_step, show ((48 + dgs g nd k R i : Nat) : Int) = (dgs g nd k R i : Int) + 48 by omega, ht] at hput
                      have HPut := hidden' hput
                      have hi8 : (i : Int) < 800 := by omega
                      have hmn : min i 800 = i := by omega
                      have hmn1 : Hid (min (i + 1) 800 = i + 1) := by unfold Hid; omega
                      clear hput HHr hz hN hi him ht
                      rw [hmn]
                      clear hmn
                      generalize gs g nd k R i i = gi at *
                      generalize dgs g nd k R i = D1 at *
                      generalize ns g nd k R i % 2 ^ k = A at *
                      generalize ns g nd k R i = N at *
                      have eV : ((A * 10 : Nat) : Int) = (A : Int) * 10 := by omega
                      go_wp2_with fail
                      refine ⟨⟨i + 1, Hi1.out, Hi2.out, by rw [hmn1.out]; go_num, by rw [Hn.out, eV], HPut.out⟩, ?_⟩
                      rw [← eV, ← Hn.out]
                      exact HDec.out
                    · have hmn : min i 800 = 800 := by omega
                      have hmn1 : Hid (min (i + 1) 800 = 800) := by unfold Hid; omega
                      have hcg := HHr.out.congr (g' := gs g nd k R (i + 1)) (fun j hj => by unfold gs; rw [if_pos (by omega), if_pos (by omega)]) (gs_lt OK.out HP.out GB.out)
                      by_cases hd0 : 0 < dgs g nd k R i
                      · have hput := hcg.setTr true
                        have ht : true = tgs g nd k R tr (i + 1) := by rw [tgs, decide_eq_true (show 800 ≤ i by omega), decide_eq_true hd0, Bool.true_and, Bool.or_true]
                        have c3 := HHr.out.c3
                        have f3 := HHr.out.free 803
                        have hdI : (0 : Int) < ((dgs g nd k R i : Nat) : Int) := by omega
                        have HPut := hidden' (show Dc B K w0 (wr.setCell ⟨K, 803, none⟩ (.bool true)) (gs g nd k R (i + 1)) nd D neg (tgs g nd k R tr (i + 1)) by rw [← ht]; exact hput)
                        clear hput HHr hz hN hi him ht hw hcg hd0
                        rw [hmn]
                        clear hmn
                        generalize tgs g nd k R tr i = T at *
                        generalize dgs g nd k R i = D1 at *
                        generalize ns g nd k R i % 2 ^ k = A at *
                        generalize ns g nd k R i = N at *
                        have eV : ((A * 10 : Nat) : Int) = (A : Int) * 10 := by omega
                        go_wp2_with fail
                        refine ⟨⟨i + 1, Hi1.out, Hi2.out, by rw [hmn1.out], by rw [Hn.out, eV], HPut.out⟩, ?_⟩
                        rw [← eV, ← Hn.out]
                        exact HDec.out
                      · have ht : tgs g nd k R tr i = tgs g nd k R tr (i + 1) := by rw [tgs, decide_eq_false hd0, Bool.and_false, Bool.or_false]
                        rw [ht] at hcg
                        have hdI : ¬ (0 : Int) < ((dgs g nd k R i : Nat) : Int) := by omega
                        have HPut := hidden' hcg
                        clear HHr hz hN hi him ht hw hcg hd0
                        rw [hmn]
                        clear hmn
                        generalize dgs g nd k R i = D1 at *
                        generalize ns g nd k R i % 2 ^ k = A at *
                        generalize ns g nd k R i = N at *
                        have eV : ((A * 10 : Nat) : Int) = (A : Int) * 10 := by omega
                        go_wp2_with fail
                        refine ⟨⟨i + 1, Hi1.out, Hi2.out, by rw [hmn1.out], by rw [Hn.out, eV], HPut.out⟩, ?_⟩
                        rw [← eV, ← Hn.out]
                        exact HDec.out
          · have hj3 : j < R := by omega
            have hlow := HP.out.lt j hj3
            have hzero : Hid (Vr g nd j / 2 ^ k = 0) := Nat.div_eq_of_lt hlow
            rw [hzero.out] at eDiv
            have eDiv0 : ((Vr g nd j : Nat) : Int) / 2 ^ k = 0 := eDiv
            have Hv : Hid (Vr g nd (j + 1) = 10 * Vr g nd j) := by unfold Hid; rw [Vr, ddg, if_neg (by omega)]; rfl
            clear eDiv hlt
            generalize Vr g nd j = V at *
            have hV6 : V < 1152921504606846976 := by omega
            have eV : ((10 * V : Nat) : Int) = (V : Int) * 10 := by omega
            go_wp2_with fail
            refine ⟨⟨j + 1, by omega, hj3, by go_num, by rw [Hv.out, eV], HHr.out⟩, by simp [intOf]; omega⟩
end Go.Proofs.PlatenFigure
