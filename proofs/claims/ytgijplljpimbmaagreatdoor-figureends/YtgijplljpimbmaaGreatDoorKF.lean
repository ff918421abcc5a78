/- Plain mathematics of what strconv's decimal.set gathers, digit by digit. -/
import Derived.Test.YtgijplljpimbmaaGreatDoorFgDl
import Derived.Test.YtgijplljpimbmaaGreatDoorFgP
import Derived.RegionTactic
import Derived.BigRegion
namespace Go.Proofs.PlatenFigure
open Go.RowKit
set_option linter.unusedVariables false

/-- What is gathered: the digits, how many, where the point is; was there a point, a digit? -/
structure SD where
  g : Nat → Nat
  nd : Nat
  dp : Int
  dot : Bool
  dig : Bool
def stepD (r : SD) (c : UInt8) : SD :=
  if c.toNat = 46 then { r with dot := true, dp := r.nd }
  else if c.toNat = 48 ∧ r.nd = 0 then { r with dig := true, dp := r.dp - 1 }
  else { r with dig := true, g := upd r.g r.nd c.toNat, nd := r.nd + 1 }
def foldD (l : List UInt8) (i0 : Nat) : Nat → SD
  | 0 => ⟨fun _ => 0, 0, 0, false, false⟩
  | k + 1 => stepD (foldD l i0 k) (l.getD (i0 + k) 0)
structure OkD (r : SD) (k : Nat) : Prop where
  nd : r.nd ≤ k
  lo : -(k : Int) ≤ r.dp
  hi : r.dp ≤ k
  gl : ∀ j, j < r.nd → 48 ≤ r.g j
  gh : ∀ j, j < r.nd → r.g j ≤ 57
  g0 : 0 < r.nd → r.g 0 ≠ 48
theorem okD (l : List UInt8) (i0 : Nat) : ∀ k, (∀ j, j < k → mc (l.getD (i0 + j) 0) = true) → OkD (foldD l i0 k) k
  | 0, _ => ⟨Nat.le_refl _, by show -((0 : Nat) : Int) ≤ 0; omega, by show (0 : Int) ≤ ((0 : Nat) : Int); omega, fun j hj => absurd hj (Nat.not_lt_zero _), fun j hj => absurd hj (Nat.not_lt_zero _), fun h => absurd h (Nat.not_lt_zero _)⟩
  | k + 1, h => by
    have ih := okD l i0 k (fun j hj => h j (by omega))
    have hc := h k (by omega)
    show OkD (stepD (foldD l i0 k) (l.getD (i0 + k) 0)) (k + 1)
    generalize l.getD (i0 + k) 0 = c at *
    generalize foldD l i0 k = r at *
    obtain ⟨h1, h2, h3, h4, h5, h6⟩ := ih
    simp only [mc, decide_eq_true_eq] at hc
    unfold stepD
    split
    · exact ⟨by show r.nd ≤ _; omega, by show _ ≤ (r.nd : Int); omega, by show (r.nd : Int) ≤ _; omega, h4, h5, h6⟩
    · rename_i q1
      split
      · exact ⟨by show r.nd ≤ _; omega, by show _ ≤ r.dp - 1; omega, by show r.dp - 1 ≤ _; omega, h4, h5, h6⟩
      · rename_i q2
        refine ⟨by show r.nd + 1 ≤ _; omega, by show _ ≤ r.dp; omega, by show r.dp ≤ _; omega, fun j hj => ?_, fun j hj => ?_, fun _ => ?_⟩
        · show 48 ≤ upd r.g r.nd c.toNat j
          unfold upd
          split
          · omega
          · exact h4 j (by change j < r.nd + 1 at hj; omega)
        · show upd r.g r.nd c.toNat j ≤ 57
          unfold upd
          split
          · omega
          · exact h5 j (by change j < r.nd + 1 at hj; omega)
        · show upd r.g r.nd c.toNat 0 ≠ 48
          unfold upd
          split
          · omega
          · exact h6 (by omega)
theorem foldD_R (l : List UInt8) (i0 : Nat) : ∀ k, (foldD l i0 k).dot = (foldR l i0 k).dot ∧ (foldD l i0 k).dig = (foldR l i0 k).dig ∧ (foldD l i0 k).nd = (foldR l i0 k).nd
  | 0 => ⟨rfl, rfl, rfl⟩
  | k + 1 => by
    obtain ⟨h1, h2, h3⟩ := foldD_R l i0 k
    show (stepD (foldD l i0 k) (l.getD (i0 + k) 0)).dot = (stepR (foldR l i0 k) (l.getD (i0 + k) 0)).dot ∧ (stepD (foldD l i0 k) (l.getD (i0 + k) 0)).dig = (stepR (foldR l i0 k) (l.getD (i0 + k) 0)).dig ∧ (stepD (foldD l i0 k) (l.getD (i0 + k) 0)).nd = (stepR (foldR l i0 k) (l.getD (i0 + k) 0)).nd
    generalize l.getD (i0 + k) 0 = c at *
    generalize foldD l i0 k = a at *
    generalize foldR l i0 k = b at *
    unfold stepD stepR
    by_cases q1 : c.toNat = 46
    · rw [if_pos q1, if_pos q1]; exact ⟨rfl, h2, h3⟩
    · rw [if_neg q1, if_neg q1]
      by_cases q2 : c.toNat = 48 ∧ a.nd = 0
      · rw [if_pos q2, if_pos ⟨q2.1, by rw [← h3]; exact q2.2⟩]
        exact ⟨h1, rfl, h3⟩
      · rw [if_neg q2, if_neg (fun q => q2 ⟨q.1, by rw [h3]; exact q.2⟩)]
        split
        · exact ⟨h1, rfl, by show a.nd + 1 = b.nd + 1; omega⟩
        · exact ⟨h1, rfl, by show a.nd + 1 = b.nd + 1; omega⟩
def rdD (l : List UInt8) (i0 pm : Nat) : SD := foldD l i0 (pm - i0)
/-- Where the point is in the end. -/
def dpD (l : List UInt8) (i0 pm pe : Nat) (eneg : Bool) : Int :=
  (if (rdD l i0 pm).dot then (rdD l i0 pm).dp else (rdD l i0 pm).nd) + (if eneg then -(rdE l pm pe : Int) else rdE l pm pe)
def setS (l : List UInt8) (i0 pm pe : Nat) (eneg : Bool) : Dst := ⟨(rdD l i0 pm).g, (rdD l i0 pm).nd, dpD l i0 pm pe eneg, false⟩
end Go.Proofs.PlatenFigure

/- What strconv's decimal.set comes to at a number's text. -/
namespace Go.Proofs.PlatenFigure
open Go.RowKit
set_option linter.unusedVariables false
set_option linter.unusedSimpArgs false
set_option maxRecDepth 20000

theorem Dc.digit {B K : Nat} {w0 w : World} {g : Nat → Nat} {nd c : Nat} {dp : Int} {neg tr : Bool} (h : Dc B K w0 w g nd dp neg tr) (hn : nd < 800) (hc : c < 256) :
    Dc B K w0 ((w.setCell ⟨K, nd, none⟩ (.int .u8 (c : Nat))).setCell ⟨K, 800, none⟩ (.int .i64 ((nd : Int) + 1))) (upd g nd c) (nd + 1) dp neg tr := by
  have := (h.put hn hc).setNd (nd + 1)
  rw [show ((nd + 1 : Nat) : Int) = (nd : Int) + 1 by omega] at this
  exact this
set_option maxHeartbeats 16000000 in
theorem set_any {B K : Nat} {w0 w : World} (s : ByteArray) (i0 pm pe : Nat) (neg eneg : Bool) (hs : s.size ≤ 100) (hN : Num (L s) i0 pm pe neg eneg) (h : Dc B K w0 w (fun _ => 0) 0 0 false false) :
    Calls Tryz.prog 95 #[.pointer (some ⟨K, 0, none⟩), .string s] w fun e w' => e = .returned (.bool true) ∧ DcS B K w0 w' (setS (L s) i0 pm pe eneg) neg := by
  have hpos : 0 < s.size := by have := hN.lt; have := hN.le; rw [len_L] at this; omega
  have hne : ¬ s = ByteArray.empty := by
    intro e
    rw [e] at hpos
    exact absurd hpos (by decide)
  have hg0 := get_L s 0 hpos
  have HN := hidden' hN
  have hsg := hN.sg
  have H := hidden' h
  have H2 := hidden' ((h.setNeg false).setTr false)
  have c2 := h.c2
  have c3 := h.c3
  have f2 := h.free 802
  have f3 := h.free 803
  have hpI : (0 : Int) < s.size := by omega
  clear hN h
  generalize (L s).getD 0 0 = c0 at *
  obtain ⟨X, hX⟩ : ∃ X, setS (L s) i0 pm pe eneg = X := ⟨_, rfl⟩
  rw [hX]
  have HX := hidden' hX
  clear hX
  go_enter Tryz.func95, Tryz.ntmps95
  go_upto_block 0 with fail
  go_cut [5] from 23 to 33 (fun a wx => a = .int .i64 i0 ∧ Dc B K w0 wx (fun _ => 0) 0 0 neg false)
  case first =>
    rcases hsg with ⟨rfl, rfl, h48⟩ | ⟨rfl, ⟨rfl, h43⟩ | ⟨rfl, h45⟩⟩
    · go_wp2_with fail
      go_meet
      exact ⟨rfl, H2.out⟩
    · go_wp2_with fail
      go_meet
      exact ⟨rfl, H2.out⟩
    · have f4 := H2.out.free 802
      have c4 := H2.out.c2
      have H3 := hidden' (H2.out.setNeg true)
      go_wp2_with fail
      go_meet
      exact ⟨rfl, H3.out⟩
  case rest =>
  obtain ⟨rfl, hd0⟩ := hcut
  have hi0 : i0 < s.size := by have := HN.out.lt; have := HN.out.le; rw [len_L] at this; omega
  have hi1 : i0 ≤ 1 := by omega
  have HD0 := hidden' hd0
  clear hsg hg0 c2 c3 f2 f3 H H2 hd0
  go_upto_block 1 with fail
  go_cut [5, 6, 7] from 34 to 113 (fun i dot dig wx => i = .int .i64 pm ∧ dot = .bool (rdD (L s) i0 pm).dot ∧ dig = .bool true ∧ Dc B K w0 wx (rdD (L s) i0 pm).g (rdD (L s) i0 pm).nd (rdD (L s) i0 pm).dp neg false)
  case first =>
    have hlt := HN.out.lt
    have hle := HN.out.le
    rw [len_L] at hle
    go_wp2_with fail
    go_loopw [5, 6, 7] (fun i dot dig wr => ∃ p : Nat, i0 ≤ p ∧ p ≤ pm ∧ i = .int .i64 (p : Nat) ∧ dot = .bool (foldD (L s) i0 (p - i0)).dot ∧ dig = .bool (foldD (L s) i0 (p - i0)).dig ∧ Dc B K w0 wr (foldD (L s) i0 (p - i0)).g (foldD (L s) i0 (p - i0)).nd (foldD (L s) i0 (p - i0)).dp neg false) (fun i _ _ _ => s.size - (intOf i).toNat)
    case atStart => exact ⟨i0, Nat.le_refl _, by omega, rfl, by rw [Nat.sub_self]; rfl, by rw [Nat.sub_self]; rfl, by rw [Nat.sub_self]; exact HD0.out⟩
    case round =>
    clear HD0
    obtain ⟨p, hp0, hp, rfl, rfl, rfl, hd⟩ := hrel
    have hok := okD (L s) i0 (p - i0) (fun j hj => HN.out.ms (i0 + j) (by omega) (by omega))
    have hRR := foldD_R (L s) i0 (p - i0)
    by_cases hkp : p < pm
    · have hgk := get_L s p (by omega)
      have hmc := HN.out.ms p (by omega) hkp
      have hone := HN.out.one (p - i0) (by omega)
      rw [← hRR.1] at hone
      have HS : Hid (foldD (L s) i0 (p + 1 - i0) = stepD (foldD (L s) i0 (p - i0)) ((L s).getD p 0)) := by
        unfold Hid
        rw [show p + 1 - i0 = (p - i0) + 1 by omega]
        show stepD _ ((L s).getD (i0 + (p - i0)) 0) = _
        rw [show i0 + (p - i0) = p by omega]
      rw [show i0 + (p - i0) = p by omega] at hone
      simp only [mc, decide_eq_true_eq] at hmc
      clear hRR
      have hc256 := UInt8.toNat_lt ((L s).getD p 0)
      generalize (L s).getD p 0 = c at *
      generalize hr' : foldD (L s) i0 (p + 1 - i0) = r' at *
      have HR' := hidden' hr'
      clear hr'
      generalize foldD (L s) i0 (p - i0) = r at *
      obtain ⟨g, nd, dp, dot, dig⟩ := r
      obtain ⟨ok1, ok2, ok3, ok4, ok5, ok6⟩ := hok
      simp only at *
      have e1 : ((p + 1 : Nat) : Int) = (p : Int) + 1 := by omega
      clear ok4 ok5 ok6
      have k0 := hd.c0
      have k1 := hd.c1
      have j0 := hd.free 800
      have j1 := hd.free 801
      have Hd := hidden' hd
      have hn8 : nd < 800 := by omega
      have kn := hd.cell nd hn8
      have jn := hd.free nd
      clear hd
      by_cases h46 : c.toNat = 46
      · have hdt := hone h46
        subst hdt
        have HR : Hid (r' = ⟨g, nd, (nd : Int), true, dig⟩) := by unfold Hid; rw [HS.out]; simp [stepD, h46]
        clear HS hone hmc
        go_wp2_with fail
        refine ⟨⟨p + 1, by omega, by omega, by rw [e1], by rw [HR'.out, HR.out], by rw [HR'.out, HR.out], by rw [HR'.out, HR.out]; exact Hd.out.setDp _⟩, ?_⟩
        simp [intOf]; omega
      · have hdl : 48 ≤ c.toNat := by omega
        have hdh : c.toNat ≤ 57 := by omega
        by_cases h0 : c.toNat = 48
        · by_cases hnd : nd = 0
          · subst hnd
            have HR : Hid (r' = ⟨g, 0, dp - 1, dot, true⟩) := by unfold Hid; rw [HS.out]; simp [stepD, h0]
            clear HS hone hmc
            go_wp2_with fail
            refine ⟨⟨p + 1, by omega, by omega, by rw [e1], by rw [HR'.out, HR.out], by rw [HR'.out, HR.out], by rw [HR'.out, HR.out]; exact Hd.out.setDp _⟩, ?_⟩
            simp [intOf]; omega
          · have hn0 : (((nd : Nat) : Int) == 0) = false := by simp [hnd]
            have HR : Hid (r' = ⟨upd g nd 48, nd + 1, dp, dot, true⟩) := by unfold Hid; rw [HS.out]; simp [stepD, h0, hnd]
            have HG := hidden' (Hd.out.digit (c := 48) hn8 (by decide))
            clear HS hone hmc
            have hn8I : (nd : Int) < 800 := by omega
            go_wp2_with fail
            go_region
            go_wp2_with fail
            refine ⟨⟨p + 1, by omega, by omega, by rw [e1], by rw [HR'.out, HR.out], by rw [HR'.out, HR.out], by rw [HR'.out, HR.out]; first | exact HG.out | exact HG.out.drewN 1 | exact HG.out.drewN _⟩, ?_⟩
            simp [intOf]; omega
        · have hc48 : (((c.toNat : Nat) : Int) == 48) = false := by simp; omega
          have HR : Hid (r' = ⟨upd g nd c.toNat, nd + 1, dp, dot, true⟩) := by unfold Hid; rw [HS.out]; simp [stepD, h0, h46]
          clear HS hone hmc
          have hn8I : (nd : Int) < 800 := by omega
          go_wp2_with fail
          go_region
          go_wp2_with fail
          refine ⟨⟨p + 1, by omega, by omega, by rw [e1], by rw [HR'.out, HR.out], by rw [HR'.out, HR.out], by rw [HR'.out, HR.out]; first | exact Hd.out.digit hn8 hc256 | exact (Hd.out.digit hn8 hc256).drewN 1 | exact (Hd.out.digit hn8 hc256).drewN _⟩, ?_⟩
          simp [intOf]; omega
    · obtain rfl : p = pm := by omega
      have HR : Hid (rdD (L s) i0 p = foldD (L s) i0 (p - i0)) := rfl
      have hdig : (foldD (L s) i0 (p - i0)).dig = true := by rw [hRR.2.1]; exact HN.out.dig
      clear hRR
      generalize rdD (L s) i0 p = r' at *
      generalize foldD (L s) i0 (p - i0) = r at *
      obtain ⟨g, nd, dp, dot, dig⟩ := r
      simp only at *
      have Hd := hidden' hd
      subst hdig
      clear hd
      by_cases hend : p = s.size
      · go_wp2_with fail
        go_meet
        exact ⟨rfl, by rw [HR.out], rfl, by rw [HR.out]; exact Hd.out⟩
      · have hgp := get_L s p (by omega)
        have hce : ((L s).getD p 0).toNat = 101 ∨ ((L s).getD p 0).toNat = 69 := by
          rcases HN.out.tail with ⟨h, _⟩ | ⟨_, _, h, _⟩
          · rw [len_L] at h; omega
          · exact h
        generalize (L s).getD p 0 = c at *
        have hc9 : ¬ c.toNat = 95 := by omega
        go_wp2_with fail
        go_meet
        exact ⟨rfl, by rw [HR.out], rfl, by rw [HR.out]; exact Hd.out⟩
  case rest =>
  obtain ⟨rfl, rfl, rfl, hd⟩ := hcut
  have hok := okD (L s) i0 (pm - i0) (fun j hj => HN.out.ms (i0 + j) (by omega) (by omega))
  have hle := HN.out.le
  rw [len_L] at hle
  have HP : Hid (X = ⟨(rdD (L s) i0 pm).g, (rdD (L s) i0 pm).nd, (if (rdD (L s) i0 pm).dot then (rdD (L s) i0 pm).dp else (rdD (L s) i0 pm).nd) + (if eneg then -(rdE (L s) pm pe : Int) else rdE (L s) pm pe), false⟩) := hidden' HX.out.symm
  change OkD (rdD (L s) i0 pm) (pm - i0) at hok
  clear HX
  generalize rdD (L s) i0 pm = r at *
  obtain ⟨g, nd, dp, dot, dig⟩ := r
  obtain ⟨ok1, ok2, ok3, ok4, ok5, ok6⟩ := hok
  simp only at *
  clear ok4 ok5 ok6 HD0
  have Hd := hidden' hd
  have k0 := hd.c0
  have k1 := hd.c1
  have j1 := hd.free 801
  clear hd
  go_upto_if 120 with fail
  go_cut [] from 121 to 127 (fun wx => Dc B K w0 wx g nd (if dot then dp else nd) neg false)
  case first =>
    cases dot
    · go_wp2_with fail
      go_meet
      exact Hd.out.setDp _
    · go_wp2_with fail
      go_meet
      exact Hd.out
  case rest =>
  have hD1 : -1000 ≤ (if dot then dp else (nd : Int)) := by split <;> omega
  have hD2 : (if dot then dp else (nd : Int)) ≤ 1000 := by split <;> omega
  generalize (if dot then dp else (nd : Int)) = D at *
  clear k0 k1 j1 Hd ok1 ok2 ok3
  have Hd := hidden' hcut
  have k1 := hcut.c1
  have j1 := hcut.free 801
  clear hcut
  by_cases hend : pm = s.size
  · have hE0 : Hid (eneg = false ∧ rdE (L s) pm pe = 0) := by
      rcases HN.out.tail with ⟨h1, h2, h3⟩ | ⟨h1, h2, _⟩
      · refine ⟨h3, ?_⟩
        unfold rdE
        rw [h2, h1, Nat.sub_self]; rfl
      · rw [len_L] at h2; omega
    have HQ : Hid (X = ⟨g, nd, D, false⟩) := by unfold Hid; rw [HP.out, hE0.out.1, hE0.out.2]; simp
    clear HP
    go_wp2_with fail
    go_ret
    exact ⟨rfl, by rw [HQ.out]; exact Hd.out⟩
  · obtain ⟨h1, h2, h3, h4, h5⟩ : pm < pe ∧ pe < s.size ∧ (((L s).getD pm 0).toNat = 101 ∨ ((L s).getD pm 0).toNat = 69) ∧ (∀ i, pe ≤ i → i < s.size → dg ((L s).getD i 0) = true) ∧
        ((pe = pm + 1 ∧ eneg = false) ∨ (pe = pm + 2 ∧ ((eneg = false ∧ ((L s).getD (pm + 1) 0).toNat = 43) ∨ (eneg = true ∧ ((L s).getD (pm + 1) 0).toNat = 45)))) := by
      rcases HN.out.tail with ⟨h, _⟩ | h
      · rw [len_L] at h; omega
      · exact h
    have HD := hidden' h4
    have hgp := get_L s pm (by omega)
    have hgq := get_L s (pm + 1) (by omega)
    have hlow := low_e ⟨((L s).getD pm 0).toNat, UInt8.toNat_lt _⟩ h3
    simp only at hlow
    have cl := fun (u : World) => Tryz.internal_strconv_lower (((L s).getD pm 0).toNat : Int) u
    have hdq : pe = pm + 1 → 48 ≤ ((L s).getD (pm + 1) 0).toNat := by
      intro h
      have := h4 pe (Nat.le_refl _) h2
      rw [h] at this
      simp only [dg, decide_eq_true_eq] at this
      exact this.1
    clear h4
    generalize (L s).getD pm 0 = c at *
    generalize (L s).getD (pm + 1) 0 = c1 at *
    go_wp2_with fail
    refine (cl _).mono ?_
    rintro e w' ⟨rfl, rfl⟩
    clear cl
    go_upto_block 4 with fail
    go_cut [5, 8] from 145 to 155 (fun i es wx => i = .int .i64 pe ∧ es = .int .i64 (if eneg then -1 else 1) ∧ wx = w')
    case first =>
      rcases h5 with ⟨rfl, rfl⟩ | ⟨rfl, ⟨rfl, h43⟩ | ⟨rfl, h45⟩⟩
      · have h48 := hdq rfl
        clear hdq
        go_wp2_with fail
        go_meet
        exact ⟨by simp, rfl, rfl⟩
      · clear hdq
        have e2 : ((pm + 2 : Nat) : Int) = (pm : Int) + 1 + 1 := by omega
        go_wp2_with fail
        go_meet
        exact ⟨by rw [e2], rfl, rfl⟩
      · clear hdq
        have e2 : ((pm + 2 : Nat) : Int) = (pm : Int) + 1 + 1 := by omega
        go_wp2_with fail
        go_meet
        exact ⟨by rw [e2], rfl, rfl⟩
    case rest =>
    obtain ⟨rfl, rfl, rfl⟩ := hcut
    clear hlow h3 h5 hdq hgp hgq
    generalize hes : (if eneg = true then (-1 : Int) else 1) = es at *
    have HES := hidden' hes
    clear hes
    have hge := get_L s pe h2
    have hde := HD.out pe (Nat.le_refl _) h2
    simp only [dg, decide_eq_true_eq] at hde
    obtain ⟨hde1, hde2⟩ := hde
    generalize (L s).getD pe 0 = c2 at *
    go_upto_region 42 with fail
    go_cut [171] from 156 to 170 (fun a wx => a = .bool false ∧ wx = wc)
    case first =>
      go_wp2_with fail
      go_meet
      exact ⟨by congr 1; simp; omega, rfl⟩
    case rest =>
    obtain ⟨rfl, rfl⟩ := hcut
    go_wp2_with fail
    go_loop [5, 9] (fun i e => ∃ p : Nat, pe ≤ p ∧ p ≤ s.size ∧ i = .int .i64 (p : Nat) ∧ e = .int .i64 (foldE (L s) pe (p - pe) : Nat)) (fun i _ => s.size - (intOf i).toNat)
    case atStart => exact ⟨pe, Nat.le_refl _, by omega, rfl, by rw [Nat.sub_self]; rfl⟩
    case round =>
    obtain ⟨p, hp0, hp, rfl, rfl⟩ := hrel
    have hlt := foldE_lt (L s) pe (p - pe) (fun j hj => HD.out (pe + j) (by omega) (by omega))
    by_cases hkp : p < s.size
    · have hgk := get_L s p hkp
      have hdk := HD.out p hp0 hkp
      simp only [dg, decide_eq_true_eq] at hdk
      obtain ⟨hk1, hk2⟩ := hdk
      have HS : Hid (foldE (L s) pe (p + 1 - pe) = stepE (foldE (L s) pe (p - pe)) ((L s).getD p 0)) := by
        unfold Hid
        rw [show p + 1 - pe = (p - pe) + 1 by omega]
        show stepE _ ((L s).getD (pe + (p - pe)) 0) = _
        rw [show pe + (p - pe) = p by omega]
      have E1 : Hid (((p + 1 : Nat) : Int) = (p : Int) + 1) := by unfold Hid; omega
      generalize (L s).getD p 0 = c3 at *
      generalize hr' : foldE (L s) pe (p + 1 - pe) = r' at *
      have HR' := hidden' hr'
      clear hr'
      generalize foldE (L s) pe (p - pe) = x at *
      by_cases hx : x < 10000
      · have HR : Hid ((r' : Int) = x * 10 + c3.toNat - 48) := by
          unfold Hid; rw [HS.out]; unfold stepE; rw [if_pos hx]; omega
        have HX1 : Box ((x : Int) < 10000) := ⟨by omega⟩
        clear HS hx hlt
        go_upto_region 47 with fail
        have hx1 := HX1.out
        go_wp2_with fail
        go_round
        case rel => exact ⟨p + 1, by omega, by omega, by rw [E1.out], by rw [HR'.out, HR.out]⟩
        case measure => simp [intOf]; omega
      · have HR : Hid (r' = x) := by
          unfold Hid; rw [HS.out]; unfold stepE; rw [if_neg hx]
        have HX1 : Box (¬ (x : Int) < 10000) := ⟨by omega⟩
        clear HS hx hlt
        go_upto_region 47 with fail
        have hx1 := HX1.out
        go_wp2_with fail
        go_round
        case rel => exact ⟨p + 1, by omega, by omega, by rw [E1.out], by rw [HR'.out, HR.out]⟩
        case measure => simp [intOf]; omega
    · obtain rfl : p = s.size := by omega
      have HE : Hid (rdE (L s) pm pe = foldE (L s) pe (s.size - pe)) := rfl
      generalize foldE (L s) pe (s.size - pe) = x at *
      cases eneg
      · have hes := HES.out
        simp only [Bool.false_eq_true, if_false] at hes
        subst hes
        have HQ : Hid (X = ⟨g, nd, D + x, false⟩) := by unfold Hid; rw [HP.out, HE.out]; simp
        clear HP HE
        go_wp2_with fail
        go_ret
        exact ⟨rfl, by rw [HQ.out]; exact Hd.out.setDp _⟩
      · have hes := HES.out
        simp only [if_true] at hes
        subst hes
        have HQ : Hid (X = ⟨g, nd, D + -(x : Int), false⟩) := by unfold Hid; rw [HP.out, HE.out]; simp
        have e3 : (x : Int) * -1 = -(x : Int) := by omega
        clear HP HE
        go_wp2_with fail
        go_ret
        exact ⟨rfl, by rw [HQ.out]; exact Hd.out.setDp _⟩
end Go.Proofs.PlatenFigure
