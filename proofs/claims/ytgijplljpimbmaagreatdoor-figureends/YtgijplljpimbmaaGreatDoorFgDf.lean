/- What strconv's decimal is, shifted to the left. -/
import Derived.Test.YtgijplljpimbmaaGreatDoorKB
namespace Go.Proofs.PlatenFigure
open Go.RowKit
set_option linter.unusedVariables false
set_option linter.unusedSimpArgs false
set_option maxRecDepth 20000

theorem lessP_all (s : ByteArray) (w u : World) (K nd : Nat) (g : Nat → Nat) (hu : ∃ m, u = w.drewN m) (hnd : nd ≤ 800) (hs : s.size ≤ 100) (hg : ∀ j, g j < 256)
    (hcell : ∀ j, j < 800 → w.cell? ⟨K, j, none⟩ = some (.int .u8 (g j : Nat))) :
    Calls Tryz.prog 131 #[.slice (some ⟨K, 0, none⟩) nd 800, .string s] u fun e w' => e = .returned (.bool (lessQ g nd (fun j => ((L s).getD j 0).toNat) s.size 0)) ∧ ∃ m, w' = w.drewN m := by
  obtain ⟨m, rfl⟩ := hu
  refine (lessP_any s (w.drewN m) K nd g hnd hs hg hcell).mono ?_
  rintro e w' ⟨rfl, q, rfl⟩
  exact ⟨rfl, m + q, drew2 w m q⟩
/-- What a shift to the left leaves. -/
structure LsP (g : Nat → Nat) (nd k N E dl : Nat) : Prop where
  ok : OkG g nd
  n0 : 0 < nd
  eN : N = valN g nd
  eE : E = nd + dl
  eD : dl = dlt g nd k
  lt : N < 10 ^ nd
  p1 : N * 2 ^ k < 10 ^ E
  p2 : 10 ^ (E - 1) ≤ N * 2 ^ k
set_option maxHeartbeats 40000000 in
theorem leftShift_any {B K : Nat} {w0 w : World} {g : Nat → Nat} {nd : Nat} {dp : Int} {neg tr : Bool} {k N E dl : Nat} (h : Dc B K w0 w g nd dp neg tr) (hk1 : 1 ≤ k) (hk : k ≤ 60)
    (hp : LsP g nd k N E dl) (ht : Tabs w) (hd1 : -1000000 ≤ dp) (hd2 : dp ≤ 1000000) :
    Calls Tryz.prog 115 #[.pointer (some ⟨K, 0, none⟩), .int .u64 (k : Nat)] w (DcE B K w0 (gl g N k E E) (trimN (gl g N k E E) (min E 800)) (trimP (gl g N k E E) (min E 800) (dp + (dl : Nat))) neg (tls N k E tr E)) := by
  have hC := cht k hk1 hk
  have HC := hidden' hC
  have hdl20 : (cheat k).1 ≤ 61 := by have := hC.sum; omega
  have hone := hC.one
  obtain ⟨b, off, cap, hcap, hl0, hl1⟩ := ht.lc
  have hlk := hl1 k (by omega)
  have ha1 := hlk.1
  have ha2 := hlk.2
  have hnd8 := hp.ok.le
  have hLs := fun u (hu : ∃ m, u = w.drewN m) => lessP_all ⟨(cheat k).2.toArray⟩ w u K nd g hu hnd8 (by have := hC.sum; unfold ctn at this; show (cheat k).2.toArray.size ≤ 100; simp; omega) h.gb h.cell
  have eLs : lessQ g nd (fun j => ((L ⟨(cheat k).2.toArray⟩).getD j 0).toNat) (ByteArray.mk (cheat k).2.toArray).size 0 = lessQ g nd (ctf k) (ctn k) 0 := rfl
  rw [eLs] at hLs
  have HLs := hidden' hLs
  have H := hidden' h
  have GB := hidden' h.gb
  have HP := hidden' hp
  have c0 := h.c0
  have f0 := h.free 800
  have hP60 : 2 ^ k ≤ 1152921504606846976 := Nat.le_trans (Nat.pow_le_pow_right (by decide) hk) (by decide)
  have hn0 := hp.n0
  clear h hp ht hl1 hlk hLs hC eLs
  generalize hX : DcE B K w0 (gl g N k E E) (trimN (gl g N k E E) (min E 800)) (trimP (gl g N k E E) (min E 800) (dp + (dl : Nat))) neg (tls N k E tr E) = X
  have HX := hidden' hX
  clear hX
  generalize hch : (cheat k).1 = ch at *
  have HCh := hidden' hch
  clear hch
  generalize (ByteArray.mk (cheat k).2.toArray) = st at *
  have hk61 : (k : Int) < 61 := by omega
  generalize hB : lessQ g nd (ctf k) (ctn k) 0 = bb at *
  have hdl : dl = if bb = true then ch - 1 else ch := by
    have := HP.out.eD
    rw [this, dlt, hB, HCh.out]
  clear hB
  have HLu : Hid (∀ u, ((u.cell? ⟨K, 800, none⟩ = some (.int .i64 (nd : Nat)) ∧ u.cell? ⟨11, 0, none⟩ = some (.slice (some ⟨b, off, none⟩) 61 cap) ∧ u.cell? ⟨b, off + k * 2 + 1, none⟩ = some (.string st)) ∧ ∃ m, u = w.drewN m) →
      Calls Tryz.prog 131 #[.slice (some ⟨K, 0, none⟩) nd 800, .string st] u fun e w' => e = .returned (.bool bb) ∧ ((w'.cell? ⟨K, 800, none⟩ = some (.int .i64 (nd : Nat)) ∧ w'.cell? ⟨11, 0, none⟩ = some (.slice (some ⟨b, off, none⟩) 61 cap) ∧ w'.cell? ⟨b, off + k * 2 + 1, none⟩ = some (.string st)) ∧ ∃ m, w' = w.drewN m)) := by
    rintro u ⟨⟨q1, q2, q3⟩, m, rfl⟩
    refine (HLs.out _ ⟨m, rfl⟩).mono ?_
    rintro e w' ⟨rfl, m', rfl⟩
    exact ⟨rfl, ⟨q1, q2, q3⟩, m', rfl⟩
  have H0 : (w.drew.cell? ⟨K, 800, none⟩ = some (.int .i64 (nd : Nat)) ∧ w.drew.cell? ⟨11, 0, none⟩ = some (.slice (some ⟨b, off, none⟩) 61 cap) ∧ w.drew.cell? ⟨b, off + k * 2 + 1, none⟩ = some (.string st)) ∧ ∃ m, w.drew = w.drewN m := ⟨⟨c0, hl0, ha2⟩, 1, rfl⟩
  have hch0 : Hid (bb = true → ch = dl + 1) := by intro q; rw [if_pos q] at hdl; omega
  have hch1 : Hid (bb = false → ch = dl) := by intro q; rw [if_neg (by rw [q]; decide)] at hdl; omega
  clear hdl HLs
  have hnI : (nd : Int) ≤ 800 := by omega
  cases bb
  · have e := (hch1.out rfl).symm
    subst e
    clear hch0 hch1
    go_enter Tryz.func115, Tryz.ntmps115
    go_wp2_with fail
    go_region_held3 (fun u => (u.cell? ⟨K, 800, none⟩ = some (.int .i64 (nd : Nat)) ∧ u.cell? ⟨11, 0, none⟩ = some (.slice (some ⟨b, off, none⟩) 61 cap) ∧ u.cell? ⟨b, off + k * 2 + 1, none⟩ = some (.string st)) ∧ ∃ m, u = w.drewN m) (assumption) (first | (go_at_call 131; refine (HLu.out _ (by assumption)).mono ?_; rintro e w2 ⟨rfl, hS⟩))
    obtain ⟨⟨s1, s2, s3⟩, mm, hw2⟩ := hS
    have HD2 : Hid (Dc B K w0 w2 g nd dp neg tr) := by unfold Hid; rw [hw2]; exact H.out.drewN mm
    have HE := hidden' HP.out.eE
    clear hw2 c0 f0 hl0 ha1 ha2 H0 HLu s2 s3
    go_wp2_with fail
    go_loopw [5, 6, 7] (fun r v n wr => ∃ i : Nat, i ≤ nd ∧ r = .int .i64 ((nd : Int) - 1 - i) ∧ v = .int .i64 ((E - i : Nat)) ∧ n = .int .u64 (nl N k i : Nat) ∧ Dc B K w0 wr (gl g N k E i) nd dp neg (tls N k E tr i)) (fun r _ _ _ => (intOf r + 1).toNat)
    case atStart => exact ⟨0, Nat.zero_le _, by simp, by rw [HE.out]; simp, by unfold nl; rw [Nat.pow_zero, Nat.mod_one]; simp, by rw [gl_zero]; exact HD2.out⟩
    case round =>
      clear HD2 s1
      obtain ⟨i, hi, rfl, rfl, rfl, hd⟩ := hrel
      have HHr := hidden' hd
      clear hd
      have c0 := HHr.out.c0
      have f0 := HHr.out.free 800
      by_cases hlt : i < nd
      · have HiE := hidden' (show i < E by have := HE.out; omega)
        have Hin := hidden' hlt
        have eg : gl g N k E i (nd - 1 - i) = g (nd - 1 - i) := by unfold gl; rw [if_neg (by have := HE.out; omega)]
        have hcell := HHr.out.cell (nd - 1 - i) (by omega)
        rw [eg] at hcell
        have hlo := HP.out.ok.lo (nd - 1 - i) (by omega)
        have hhi := HP.out.ok.hi (nd - 1 - i) (by omega)
        have hdig := valN_digit HP.out.ok hlt
        rw [← HP.out.eN] at hdig
        have hN := nl_lt N k i
        have hq := nl_quo N k i
        have hr := nl_rem N k i
        rw [hdig] at hq hr
        have hRI : (nd : Int) - 1 - i = ((nd - 1 - i : Nat) : Int) := by omega
        have hR8 : ((nd - 1 - i : Nat) : Int) < 800 := by omega
        rw [hRI]
        have HRI := hidden' hRI
        clear hdig hlt hi eg hRI
        generalize hRR : nd - 1 - i = RR at *
        clear hRR
        generalize g RR = c at *
        obtain ⟨dd, hdd⟩ : ∃ dd, dd = c - 48 := ⟨_, rfl⟩
        rw [← hdd] at hq hr
        have hdd9 : dd ≤ 9 := by omega
        have edd : (c : Int) - 48 = (dd : Int) := by omega
        clear hdd
        have hprod : dd * 2 ^ k ≤ 9 * 2 ^ k := Nat.mul_le_mul_right _ hdd9
        have epr : (dd : Int) * 2 ^ k = ((dd * 2 ^ k : Nat) : Int) := by push_cast; rfl
        generalize dd * 2 ^ k = pr at *
        have hpr : pr ≤ 10376293541461622784 := by omega
        have hnl : nl N k i < 1152921504606846976 := by omega
        obtain ⟨Y, hY⟩ : ∃ Y, Y = nl N k i + pr := ⟨_, rfl⟩
        have eY : ((nl N k i : Nat) : Int) + ((pr : Nat) : Int) = (Y : Int) := by omega
        have hY6 : Y < 11529215046068469760 := by omega
        have eQ : (Y : Int) / 10 = ((nl N k (i + 1) : Nat) : Int) := by omega
        have eR : (Y : Int) - 10 * ((nl N k (i + 1) : Nat) : Int) = ((dgl N k i : Nat) : Int) := by omega
        clear hY
        have hQ : nl N k (i + 1) < 1152921504606846976 := by omega
        have hD9 := dgl9 N k i
        clear hq hr hprod hN
        generalize hNi : nl N k i = Ni at *
        clear hNi
        generalize hQi : nl N k (i + 1) = Qi at *
        have HQi := hidden' hQi
        clear hQi
        by_cases hw : E - 1 - i < 800
        · have fi := HHr.out.free (E - 1 - i)
          have ci := HHr.out.cell (E - 1 - i) hw
          have hput := HHr.out.put (i := E - 1 - i) (c := 48 + dgl N k i) hw (by have := dgl9 N k i; omega)
          have ht : tls N k E tr i = tls N k E tr (i + 1) := by rw [tls, decide_eq_false (show ¬ 800 ≤ E - 1 - i by omega), Bool.false_and, Bool.or_false]
          rw [← gl_step g N k E i HiE.out, show ((48 + dgl N k i : Nat) : Int) = (dgl N k i : Int) + 48 by omega, ht] at hput
          have HPut := hidden' hput
          have hw8 : ((E - 1 - i : Nat) : Int) < 800 := by omega
          have hw1 : ((E - i : Nat) : Int) - 1 = ((E - 1 - i : Nat) : Int) := by have := HiE.out; omega
          have Hw2 : Hid (E - (i + 1) = E - 1 - i) := by unfold Hid; omega
          clear hput HHr ht hw
          generalize gl g N k E i (E - 1 - i) = gi at *
          generalize hW : E - 1 - i = W at *
          have HW := hidden' hW
          clear hW
          generalize hZ : E - i = Z at *
          clear hZ
          generalize dgl N k i = D1 at *
          go_wp2_with fail
          exact ⟨⟨i + 1, by have := Hin.out; omega, by have := HRI.out; rw [show (nd : Int) - 1 - ((i + 1 : Nat) : Int) = (RR : Int) - 1 by omega], by rw [Hw2.out], by rw [HQi.out], HPut.out⟩, by simp [intOf]⟩
        · have hcg := HHr.out.congr (g' := gl g N k E (i + 1)) (fun j hj => by unfold gl; rw [if_neg (by omega), if_neg (by omega)]) (gl_lt N k E (i + 1) GB.out)
          have hw8 : ¬ ((E - 1 - i : Nat) : Int) < 800 := by omega
          have hwu : ((E - 1 - i : Nat) : Int) ≤ 861 := by have := HE.out; omega
          have hw1 : ((E - i : Nat) : Int) - 1 = ((E - 1 - i : Nat) : Int) := by have := HiE.out; omega
          have Hw2 : Hid (E - (i + 1) = E - 1 - i) := by unfold Hid; omega
          by_cases hd0 : dgl N k i ≠ 0
          · have hput := hcg.setTr true
            have ht : true = tls N k E tr (i + 1) := by rw [tls, decide_eq_true (show 800 ≤ E - 1 - i by omega), decide_eq_true hd0, Bool.true_and, Bool.or_true]
            have c3 := HHr.out.c3
            have f3 := HHr.out.free 803
            have hdI : (((dgl N k i : Nat) : Int) != 0) = true := by simp only [bne_iff_ne, ne_eq]; omega
            have HPut := hidden' (show Dc B K w0 (wr.setCell ⟨K, 803, none⟩ (.bool true)) (gl g N k E (i + 1)) nd dp neg (tls N k E tr (i + 1)) by rw [← ht]; exact hput)
            clear hput HHr ht hw hcg hd0
            generalize tls N k E tr i = T at *
            generalize E - 1 - i = W at *
            generalize hZ : E - i = Z at *
            clear hZ
            generalize dgl N k i = D1 at *
            go_wp2_with fail
            exact ⟨⟨i + 1, by have := Hin.out; omega, by have := HRI.out; rw [show (nd : Int) - 1 - ((i + 1 : Nat) : Int) = (RR : Int) - 1 by omega], by rw [Hw2.out], by rw [HQi.out], HPut.out⟩, by simp [intOf]⟩
          · have hd1 : dgl N k i = 0 := by simpa using hd0
            have ht : tls N k E tr i = tls N k E tr (i + 1) := by rw [tls, decide_eq_false hd0, Bool.and_false, Bool.or_false]
            rw [ht] at hcg
            have hdI : (((dgl N k i : Nat) : Int) != 0) = false := by rw [hd1]; rfl
            have HPut := hidden' hcg
            clear HHr ht hw hcg hd0 hd1
            generalize E - 1 - i = W at *
            generalize hZ : E - i = Z at *
            clear hZ
            generalize dgl N k i = D1 at *
            go_wp2_with fail
            exact ⟨⟨i + 1, by have := Hin.out; omega, by have := HRI.out; rw [show (nd : Int) - 1 - ((i + 1 : Nat) : Int) = (RR : Int) - 1 by omega], by rw [Hw2.out], by rw [HQi.out], HPut.out⟩, by simp [intOf]⟩
      · have hid : i = nd := by omega
        have hR1 : Hid ((nd : Int) - 1 - i < 0) := by unfold Hid; omega
        clear hlt hi
        generalize (nd : Int) - 1 - i = R1 at *
        generalize hNN : nl N k i = NN at *
        have HNN := hidden' hNN
        generalize hZZ : E - i = ZZ at *
        have HZZ := hidden' hZZ
        have Hid1 := hidden' hid
        clear hNN hZZ hid
        have hge : ¬ (0 : Int) ≤ R1 := by have := hR1.out; omega
        go_wp2_with fail
        clear c0 f0
        go_loopw [6, 7] (fun v n wr => ∃ j : Nat, nd ≤ j ∧ j ≤ E ∧ v = .int .i64 ((E - j : Nat)) ∧ n = .int .u64 (nl N k j : Nat) ∧ Dc B K w0 wr (gl g N k E j) nd dp neg (tls N k E tr j)) (fun v _ _ => (intOf v).toNat)
        case atStart => exact ⟨i, by have := Hid1.out; omega, by have := HE.out; have := Hid1.out; omega, by rw [HZZ.out], by rw [HNN.out], HHr.out⟩
        case round =>
          clear HHr HNN HZZ hge hR1 Hid1
          obtain ⟨i, hi, hiE, rfl, rfl, hd⟩ := hrel
          have HHr := hidden' hd
          clear hd
          have hlN := HP.out.lt
          by_cases hlt : i < E
          · have HiE := hidden' hlt
            have Hin := hidden' hi
            have hpos := nl_late_pos hlN hi HP.out.p2 hlt
            have hN := nl_lt N k i
            have hq := nl_late_quo k hlN hi
            have hr := nl_late_rem k hlN hi
            have hnl : nl N k i < 1152921504606846976 := by omega
            have eQ : ((nl N k i : Nat) : Int) / 10 = ((nl N k (i + 1) : Nat) : Int) := by omega
            have eR : ((nl N k i : Nat) : Int) - 10 * ((nl N k (i + 1) : Nat) : Int) = ((dgl N k i : Nat) : Int) := by omega
            have hQ : nl N k (i + 1) < 1152921504606846976 := by omega
            have hposI : (0 : Int) < ((nl N k i : Nat) : Int) := by omega
            have hD9 := dgl9 N k i
            clear hq hr hN hlN hlt hi hiE hpos
            generalize hNi : nl N k i = Ni at *
            clear hNi
            generalize hQi : nl N k (i + 1) = Qi at *
            have HQi := hidden' hQi
            clear hQi
            by_cases hw : E - 1 - i < 800
            · have fi := HHr.out.free (E - 1 - i)
              have ci := HHr.out.cell (E - 1 - i) hw
              have hput := HHr.out.put (i := E - 1 - i) (c := 48 + dgl N k i) hw (by have := dgl9 N k i; omega)
              have ht : tls N k E tr i = tls N k E tr (i + 1) := by rw [tls, decide_eq_false (show ¬ 800 ≤ E - 1 - i by omega), Bool.false_and, Bool.or_false]
              rw [← gl_step g N k E i HiE.out, show ((48 + dgl N k i : Nat) : Int) = (dgl N k i : Int) + 48 by omega, ht] at hput
              have HPut := hidden' hput
              have hw8 : ((E - 1 - i : Nat) : Int) < 800 := by omega
              have hw1 : ((E - i : Nat) : Int) - 1 = ((E - 1 - i : Nat) : Int) := by have := HiE.out; omega
              have Hw2 : Hid (E - (i + 1) = E - 1 - i) := by unfold Hid; omega
              clear hput HHr ht hw
              generalize gl g N k E i (E - 1 - i) = gi at *
              generalize hW : E - 1 - i = W at *
              have HW := hidden' hW
              clear hW
              generalize hZ : E - i = Z at *
              clear hZ
              generalize dgl N k i = D1 at *
              go_wp2_with fail
              exact ⟨⟨i + 1, by have := Hin.out; omega, by have := HiE.out; omega, by rw [Hw2.out], by rw [HQi.out], HPut.out⟩, by have := hw1; simp [intOf]; omega⟩
            · have hcg := HHr.out.congr (g' := gl g N k E (i + 1)) (fun j hj => by unfold gl; rw [if_neg (by omega), if_neg (by omega)]) (gl_lt N k E (i + 1) GB.out)
              have hw8 : ¬ ((E - 1 - i : Nat) : Int) < 800 := by omega
              have hwu : ((E - 1 - i : Nat) : Int) ≤ 861 := by have := HE.out; omega
              have hw1 : ((E - i : Nat) : Int) - 1 = ((E - 1 - i : Nat) : Int) := by have := HiE.out; omega
              have Hw2 : Hid (E - (i + 1) = E - 1 - i) := by unfold Hid; omega
              by_cases hd0 : dgl N k i ≠ 0
              · have hput := hcg.setTr true
                have ht : true = tls N k E tr (i + 1) := by rw [tls, decide_eq_true (show 800 ≤ E - 1 - i by omega), decide_eq_true hd0, Bool.true_and, Bool.or_true]
                have c3 := HHr.out.c3
                have f3 := HHr.out.free 803
                have hdI : (((dgl N k i : Nat) : Int) != 0) = true := by simp only [bne_iff_ne, ne_eq]; omega
                have HPut := hidden' (show Dc B K w0 (wr.setCell ⟨K, 803, none⟩ (.bool true)) (gl g N k E (i + 1)) nd dp neg (tls N k E tr (i + 1)) by rw [← ht]; exact hput)
                clear hput HHr ht hw hcg hd0
                generalize tls N k E tr i = T at *
                generalize E - 1 - i = W at *
                generalize hZ : E - i = Z at *
                clear hZ
                generalize dgl N k i = D1 at *
                go_wp2_with fail
                exact ⟨⟨i + 1, by have := Hin.out; omega, by have := HiE.out; omega, by rw [Hw2.out], by rw [HQi.out], HPut.out⟩, by have := hw1; simp [intOf]; omega⟩
              · have hd1 : dgl N k i = 0 := by simpa using hd0
                have ht : tls N k E tr i = tls N k E tr (i + 1) := by rw [tls, decide_eq_false hd0, Bool.and_false, Bool.or_false]
                rw [ht] at hcg
                have hdI : (((dgl N k i : Nat) : Int) != 0) = false := by rw [hd1]; rfl
                have HPut := hidden' hcg
                clear HHr ht hw hcg hd0 hd1
                generalize E - 1 - i = W at *
                generalize hZ : E - i = Z at *
                clear hZ
                generalize dgl N k i = D1 at *
                go_wp2_with fail
                exact ⟨⟨i + 1, by have := Hin.out; omega, by have := HiE.out; omega, by rw [Hw2.out], by rw [HQi.out], HPut.out⟩, by have := hw1; simp [intOf]; omega⟩
          · have hid : i = E := by omega
            have hz := nl_late_zero hlN hi HP.out.p1 (by omega : E ≤ i)
            rw [hz]
            have hdE := HHr.out
            rw [hid] at hdE
            have HHe := hidden' hdE
            clear HHr hdE hlt hi hiE hz hlN
            have c0 := HHe.out.c0
            have f0 := HHe.out.free 800
            have c1 := HHe.out.c1
            have f1 := HHe.out.free 801
            have hS1 := HHe.out.setNd E
            have eE2 : (nd : Int) + (dl : Int) = (E : Int) := by have := HE.out; omega
            have hE9 : E ≤ 861 := by have := HE.out; omega
            generalize E - i = Z at *
            clear hid
            by_cases h8 : E < 800
            · have hm8 : min E 800 = E := by omega
              rw [hm8] at HX
              have c0b := hS1.c0
              have c1b := hS1.c1
              have f0b := hS1.free 800
              have f1b := hS1.free 801
              have hT := hidden' (hS1.setDp (dp + (dl : Nat)))
              have h8I : (E : Int) < 800 := by omega
              have h8N : E ≤ 800 := by omega
              clear hS1 HHe h8 hm8
              generalize gl g N k E E = G at *
              generalize tls N k E tr E = T at *
              go_wp2_with fail
              refine (trim_any hT.out h8N).mono ?_
              rintro e w' ⟨rfl, hd'⟩
              have HD' := hidden' hd'
              clear hd'
              go_wp2_with fail
              go_end0
              rw [← HX.out]
              exact ⟨rfl, HD'.out⟩
            · have hm8 : min E 800 = 800 := by omega
              rw [hm8] at HX
              have c0b := hS1.c0
              have f0b := hS1.free 800
              have hS2 := hS1.setNd 800
              have c0c := hS2.c0
              have c1c := hS2.c1
              have f1c := hS2.free 801
              have hT := hidden' (hS2.setDp (dp + (dl : Nat)))
              have h8I : ¬ (E : Int) < 800 := by omega
              clear hS1 hS2 HHe h8 hm8
              generalize gl g N k E E = G at *
              generalize tls N k E tr E = T at *
              go_wp2_with fail
              refine (trim_any hT.out (Nat.le_refl 800)).mono ?_
              rintro e w' ⟨rfl, hd'⟩
              have HD' := hidden' hd'
              clear hd'
              go_wp2_with fail
              go_end0
              rw [← HX.out]
              exact ⟨rfl, HD'.out⟩
  · have e := hch0.out rfl
    subst e
    clear hch0 hch1
    have eCh : ((dl + 1 : Nat) : Int) - 1 = (dl : Int) := by omega
    go_enter Tryz.func115, Tryz.ntmps115
    go_wp2_with fail
    go_region_held3 (fun u => (u.cell? ⟨K, 800, none⟩ = some (.int .i64 (nd : Nat)) ∧ u.cell? ⟨11, 0, none⟩ = some (.slice (some ⟨b, off, none⟩) 61 cap) ∧ u.cell? ⟨b, off + k * 2 + 1, none⟩ = some (.string st)) ∧ ∃ m, u = w.drewN m) (assumption) (first | (go_at_call 131; refine (HLu.out _ (by assumption)).mono ?_; rintro e w2 ⟨rfl, hS⟩))
    obtain ⟨⟨s1, s2, s3⟩, mm, hw2⟩ := hS
    have HD2 : Hid (Dc B K w0 w2 g nd dp neg tr) := by unfold Hid; rw [hw2]; exact H.out.drewN mm
    have HE := hidden' HP.out.eE
    clear hw2 c0 f0 hl0 ha1 ha2 H0 HLu s2 s3
    go_wp2_with fail
    go_loopw [5, 6, 7] (fun r v n wr => ∃ i : Nat, i ≤ nd ∧ r = .int .i64 ((nd : Int) - 1 - i) ∧ v = .int .i64 ((E - i : Nat)) ∧ n = .int .u64 (nl N k i : Nat) ∧ Dc B K w0 wr (gl g N k E i) nd dp neg (tls N k E tr i)) (fun r _ _ _ => (intOf r + 1).toNat)
    case atStart => exact ⟨0, Nat.zero_le _, by simp, by rw [HE.out]; simp, by unfold nl; rw [Nat.pow_zero, Nat.mod_one]; simp, by rw [gl_zero]; exact HD2.out⟩
    case round =>
      clear HD2 s1
      obtain ⟨i, hi, rfl, rfl, rfl, hd⟩ := hrel
      have HHr := hidden' hd
      clear hd
      have c0 := HHr.out.c0
      have f0 := HHr.out.free 800
      by_cases hlt : i < nd
      · have HiE := hidden' (show i < E by have := HE.out; omega)
        have Hin := hidden' hlt
        have eg : gl g N k E i (nd - 1 - i) = g (nd - 1 - i) := by unfold gl; rw [if_neg (by have := HE.out; omega)]
        have hcell := HHr.out.cell (nd - 1 - i) (by omega)
        rw [eg] at hcell
        have hlo := HP.out.ok.lo (nd - 1 - i) (by omega)
        have hhi := HP.out.ok.hi (nd - 1 - i) (by omega)
        have hdig := valN_digit HP.out.ok hlt
        rw [← HP.out.eN] at hdig
        have hN := nl_lt N k i
        have hq := nl_quo N k i
        have hr := nl_rem N k i
        rw [hdig] at hq hr
        have hRI : (nd : Int) - 1 - i = ((nd - 1 - i : Nat) : Int) := by omega
        have hR8 : ((nd - 1 - i : Nat) : Int) < 800 := by omega
        rw [hRI]
        have HRI := hidden' hRI
        clear hdig hlt hi eg hRI
        generalize hRR : nd - 1 - i = RR at *
        clear hRR
        generalize g RR = c at *
        obtain ⟨dd, hdd⟩ : ∃ dd, dd = c - 48 := ⟨_, rfl⟩
        rw [← hdd] at hq hr
        have hdd9 : dd ≤ 9 := by omega
        have edd : (c : Int) - 48 = (dd : Int) := by omega
        clear hdd
        have hprod : dd * 2 ^ k ≤ 9 * 2 ^ k := Nat.mul_le_mul_right _ hdd9
        have epr : (dd : Int) * 2 ^ k = ((dd * 2 ^ k : Nat) : Int) := by push_cast; rfl
        generalize dd * 2 ^ k = pr at *
        have hpr : pr ≤ 10376293541461622784 := by omega
        have hnl : nl N k i < 1152921504606846976 := by omega
        obtain ⟨Y, hY⟩ : ∃ Y, Y = nl N k i + pr := ⟨_, rfl⟩
        have eY : ((nl N k i : Nat) : Int) + ((pr : Nat) : Int) = (Y : Int) := by omega
        have hY6 : Y < 11529215046068469760 := by omega
        have eQ : (Y : Int) / 10 = ((nl N k (i + 1) : Nat) : Int) := by omega
        have eR : (Y : Int) - 10 * ((nl N k (i + 1) : Nat) : Int) = ((dgl N k i : Nat) : Int) := by omega
        clear hY
        have hQ : nl N k (i + 1) < 1152921504606846976 := by omega
        have hD9 := dgl9 N k i
        clear hq hr hprod hN
        generalize hNi : nl N k i = Ni at *
        clear hNi
        generalize hQi : nl N k (i + 1) = Qi at *
        have HQi := hidden' hQi
        clear hQi
        by_cases hw : E - 1 - i < 800
        · have fi := HHr.out.free (E - 1 - i)
          have ci := HHr.out.cell (E - 1 - i) hw
          have hput := HHr.out.put (i := E - 1 - i) (c := 48 + dgl N k i) hw (by have := dgl9 N k i; omega)
          have ht : tls N k E tr i = tls N k E tr (i + 1) := by rw [tls, decide_eq_false (show ¬ 800 ≤ E - 1 - i by omega), Bool.false_and, Bool.or_false]
          rw [← gl_step g N k E i HiE.out, show ((48 + dgl N k i : Nat) : Int) = (dgl N k i : Int) + 48 by omega, ht] at hput
          have HPut := hidden' hput
          have hw8 : ((E - 1 - i : Nat) : Int) < 800 := by omega
          have hw1 : ((E - i : Nat) : Int) - 1 = ((E - 1 - i : Nat) : Int) := by have := HiE.out; omega
          have Hw2 : Hid (E - (i + 1) = E - 1 - i) := by unfold Hid; omega
          clear hput HHr ht hw
          generalize gl g N k E i (E - 1 - i) = gi at *
          generalize hW : E - 1 - i = W at *
          have HW := hidden' hW
          clear hW
          generalize hZ : E - i = Z at *
          clear hZ
          generalize dgl N k i = D1 at *
          go_wp2_with fail
          exact ⟨⟨i + 1, by have := Hin.out; omega, by have := HRI.out; rw [show (nd : Int) - 1 - ((i + 1 : Nat) : Int) = (RR : Int) - 1 by omega], by rw [Hw2.out], by rw [HQi.out], HPut.out⟩, by simp [intOf]⟩
        · have hcg := HHr.out.congr (g' := gl g N k E (i + 1)) (fun j hj => by unfold gl; rw [if_neg (by omega), if_neg (by omega)]) (gl_lt N k E (i + 1) GB.out)
          have hw8 : ¬ ((E - 1 - i : Nat) : Int) < 800 := by omega
          have hwu : ((E - 1 - i : Nat) : Int) ≤ 861 := by have := HE.out; omega
          have hw1 : ((E - i : Nat) : Int) - 1 = ((E - 1 - i : Nat) : Int) := by have := HiE.out; omega
          have Hw2 : Hid (E - (i + 1) = E - 1 - i) := by unfold Hid; omega
          by_cases hd0 : dgl N k i ≠ 0
          · have hput := hcg.setTr true
            have ht : true = tls N k E tr (i + 1) := by rw [tls, decide_eq_true (show 800 ≤ E - 1 - i by omega), decide_eq_true hd0, Bool.true_and, Bool.or_true]
            have c3 := HHr.out.c3
            have f3 := HHr.out.free 803
            have hdI : (((dgl N k i : Nat) : Int) != 0) = true := by simp only [bne_iff_ne, ne_eq]; omega
            have HPut := hidden' (show Dc B K w0 (wr.setCell ⟨K, 803, none⟩ (.bool true)) (gl g N k E (i + 1)) nd dp neg (tls N k E tr (i + 1)) by rw [← ht]; exact hput)
            clear hput HHr ht hw hcg hd0
            generalize tls N k E tr i = T at *
            generalize E - 1 - i = W at *
            generalize hZ : E - i = Z at *
            clear hZ
            generalize dgl N k i = D1 at *
            go_wp2_with fail
            exact ⟨⟨i + 1, by have := Hin.out; omega, by have := HRI.out; rw [show (nd : Int) - 1 - ((i + 1 : Nat) : Int) = (RR : Int) - 1 by omega], by rw [Hw2.out], by rw [HQi.out], HPut.out⟩, by simp [intOf]⟩
          · have hd1 : dgl N k i = 0 := by simpa using hd0
            have ht : tls N k E tr i = tls N k E tr (i + 1) := by rw [tls, decide_eq_false hd0, Bool.and_false, Bool.or_false]
            rw [ht] at hcg
            have hdI : (((dgl N k i : Nat) : Int) != 0) = false := by rw [hd1]; rfl
            have HPut := hidden' hcg
            clear HHr ht hw hcg hd0 hd1
            generalize E - 1 - i = W at *
            generalize hZ : E - i = Z at *
            clear hZ
            generalize dgl N k i = D1 at *
            go_wp2_with fail
            exact ⟨⟨i + 1, by have := Hin.out; omega, by have := HRI.out; rw [show (nd : Int) - 1 - ((i + 1 : Nat) : Int) = (RR : Int) - 1 by omega], by rw [Hw2.out], by rw [HQi.out], HPut.out⟩, by simp [intOf]⟩
      · have hid : i = nd := by omega
        have hR1 : Hid ((nd : Int) - 1 - i < 0) := by unfold Hid; omega
        clear hlt hi
        generalize (nd : Int) - 1 - i = R1 at *
        generalize hNN : nl N k i = NN at *
        have HNN := hidden' hNN
        generalize hZZ : E - i = ZZ at *
        have HZZ := hidden' hZZ
        have Hid1 := hidden' hid
        clear hNN hZZ hid
        have hge : ¬ (0 : Int) ≤ R1 := by have := hR1.out; omega
        go_wp2_with fail
        clear c0 f0
        go_loopw [6, 7] (fun v n wr => ∃ j : Nat, nd ≤ j ∧ j ≤ E ∧ v = .int .i64 ((E - j : Nat)) ∧ n = .int .u64 (nl N k j : Nat) ∧ Dc B K w0 wr (gl g N k E j) nd dp neg (tls N k E tr j)) (fun v _ _ => (intOf v).toNat)
        case atStart => exact ⟨i, by have := Hid1.out; omega, by have := HE.out; have := Hid1.out; omega, by rw [HZZ.out], by rw [HNN.out], HHr.out⟩
        case round =>
          clear HHr HNN HZZ hge hR1 Hid1
          obtain ⟨i, hi, hiE, rfl, rfl, hd⟩ := hrel
          have HHr := hidden' hd
          clear hd
          have hlN := HP.out.lt
          by_cases hlt : i < E
          · have HiE := hidden' hlt
            have Hin := hidden' hi
            have hpos := nl_late_pos hlN hi HP.out.p2 hlt
            have hN := nl_lt N k i
            have hq := nl_late_quo k hlN hi
            have hr := nl_late_rem k hlN hi
            have hnl : nl N k i < 1152921504606846976 := by omega
            have eQ : ((nl N k i : Nat) : Int) / 10 = ((nl N k (i + 1) : Nat) : Int) := by omega
            have eR : ((nl N k i : Nat) : Int) - 10 * ((nl N k (i + 1) : Nat) : Int) = ((dgl N k i : Nat) : Int) := by omega
            have hQ : nl N k (i + 1) < 1152921504606846976 := by omega
            have hposI : (0 : Int) < ((nl N k i : Nat) : Int) := by omega
            have hD9 := dgl9 N k i
            clear hq hr hN hlN hlt hi hiE hpos
            generalize hNi : nl N k i = Ni at *
            clear hNi
            generalize hQi : nl N k (i + 1) = Qi at *
            have HQi := hidden' hQi
            clear hQi
            by_cases hw : E - 1 - i < 800
            · have fi := HHr.out.free (E - 1 - i)
              have ci := HHr.out.cell (E - 1 - i) hw
              have hput := HHr.out.put (i := E - 1 - i) (c := 48 + dgl N k i) hw (by have := dgl9 N k i; omega)
              have ht : tls N k E tr i = tls N k E tr (i + 1) := by rw [tls, decide_eq_false (show ¬ 800 ≤ E - 1 - i by omega), Bool.false_and, Bool.or_false]
              rw [← gl_step g N k E i HiE.out, show ((48 + dgl N k i : Nat) : Int) = (dgl N k i : Int) + 48 by omega, ht] at hput
              have HPut := hidden' hput
              have hw8 : ((E - 1 - i : Nat) : Int) < 800 := by omega
              have hw1 : ((E - i : Nat) : Int) - 1 = ((E - 1 - i : Nat) : Int) := by have := HiE.out; omega
              have Hw2 : Hid (E - (i + 1) = E - 1 - i) := by unfold Hid; omega
              clear hput HHr ht hw
              generalize gl g N k E i (E - 1 - i) = gi at *
              generalize hW : E - 1 - i = W at *
              have HW := hidden' hW
              clear hW
              generalize hZ : E - i = Z at *
              clear hZ
              generalize dgl N k i = D1 at *
              go_wp2_with fail
              exact ⟨⟨i + 1, by have := Hin.out; omega, by have := HiE.out; omega, by rw [Hw2.out], by rw [HQi.out], HPut.out⟩, by have := hw1; simp [intOf]; omega⟩
            · have hcg := HHr.out.congr (g' := gl g N k E (i + 1)) (fun j hj => by unfold gl; rw [if_neg (by omega), if_neg (by omega)]) (gl_lt N k E (i + 1) GB.out)
              have hw8 : ¬ ((E - 1 - i : Nat) : Int) < 800 := by omega
              have hwu : ((E - 1 - i : Nat) : Int) ≤ 861 := by have := HE.out; omega
              have hw1 : ((E - i : Nat) : Int) - 1 = ((E - 1 - i : Nat) : Int) := by have := HiE.out; omega
              have Hw2 : Hid (E - (i + 1) = E - 1 - i) := by unfold Hid; omega
              by_cases hd0 : dgl N k i ≠ 0
              · have hput := hcg.setTr true
                have ht : true = tls N k E tr (i + 1) := by rw [tls, decide_eq_true (show 800 ≤ E - 1 - i by omega), decide_eq_true hd0, Bool.true_and, Bool.or_true]
                have c3 := HHr.out.c3
                have f3 := HHr.out.free 803
                have hdI : (((dgl N k i : Nat) : Int) != 0) = true := by simp only [bne_iff_ne, ne_eq]; omega
                have HPut := hidden' (show Dc B K w0 (wr.setCell ⟨K, 803, none⟩ (.bool true)) (gl g N k E (i + 1)) nd dp neg (tls N k E tr (i + 1)) by rw [← ht]; exact hput)
                clear hput HHr ht hw hcg hd0
                generalize tls N k E tr i = T at *
                generalize E - 1 - i = W at *
                generalize hZ : E - i = Z at *
                clear hZ
                generalize dgl N k i = D1 at *
                go_wp2_with fail
                exact ⟨⟨i + 1, by have := Hin.out; omega, by have := HiE.out; omega, by rw [Hw2.out], by rw [HQi.out], HPut.out⟩, by have := hw1; simp [intOf]; omega⟩
              · have hd1 : dgl N k i = 0 := by simpa using hd0
                have ht : tls N k E tr i = tls N k E tr (i + 1) := by rw [tls, decide_eq_false hd0, Bool.and_false, Bool.or_false]
                rw [ht] at hcg
                have hdI : (((dgl N k i : Nat) : Int) != 0) = false := by rw [hd1]; rfl
                have HPut := hidden' hcg
                clear HHr ht hw hcg hd0 hd1
                generalize E - 1 - i = W at *
                generalize hZ : E - i = Z at *
                clear hZ
                generalize dgl N k i = D1 at *
                go_wp2_with fail
                exact ⟨⟨i + 1, by have := Hin.out; omega, by have := HiE.out; omega, by rw [Hw2.out], by rw [HQi.out], HPut.out⟩, by have := hw1; simp [intOf]; omega⟩
          · have hid : i = E := by omega
            have hz := nl_late_zero hlN hi HP.out.p1 (by omega : E ≤ i)
            rw [hz]
            have hdE := HHr.out
            rw [hid] at hdE
            have HHe := hidden' hdE
            clear HHr hdE hlt hi hiE hz hlN
            have c0 := HHe.out.c0
            have f0 := HHe.out.free 800
            have c1 := HHe.out.c1
            have f1 := HHe.out.free 801
            have hS1 := HHe.out.setNd E
            have eE2 : (nd : Int) + (dl : Int) = (E : Int) := by have := HE.out; omega
            have hE9 : E ≤ 861 := by have := HE.out; omega
            generalize E - i = Z at *
            clear hid
            by_cases h8 : E < 800
            · have hm8 : min E 800 = E := by omega
              rw [hm8] at HX
              have c0b := hS1.c0
              have c1b := hS1.c1
              have f0b := hS1.free 800
              have f1b := hS1.free 801
              have hT := hidden' (hS1.setDp (dp + (dl : Nat)))
              have h8I : (E : Int) < 800 := by omega
              have h8N : E ≤ 800 := by omega
              clear hS1 HHe h8 hm8
              generalize gl g N k E E = G at *
              generalize tls N k E tr E = T at *
              go_wp2_with fail
              refine (trim_any hT.out h8N).mono ?_
              rintro e w' ⟨rfl, hd'⟩
              have HD' := hidden' hd'
              clear hd'
              go_wp2_with fail
              go_end0
              rw [← HX.out]
              exact ⟨rfl, HD'.out⟩
            · have hm8 : min E 800 = 800 := by omega
              rw [hm8] at HX
              have c0b := hS1.c0
              have f0b := hS1.free 800
              have hS2 := hS1.setNd 800
              have c0c := hS2.c0
              have c1c := hS2.c1
              have f1c := hS2.free 801
              have hT := hidden' (hS2.setDp (dp + (dl : Nat)))
              have h8I : ¬ (E : Int) < 800 := by omega
              clear hS1 hS2 HHe h8 hm8
              generalize gl g N k E E = G at *
              generalize tls N k E tr E = T at *
              go_wp2_with fail
              refine (trim_any hT.out (Nat.le_refl 800)).mono ?_
              rintro e w' ⟨rfl, hd'⟩
              have HD' := hidden' hd'
              clear hd'
              go_wp2_with fail
              go_end0
              rw [← HX.out]
              exact ⟨rfl, HD'.out⟩
end Go.Proofs.PlatenFigure
