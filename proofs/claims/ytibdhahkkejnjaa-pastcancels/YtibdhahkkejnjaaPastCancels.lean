/- PastCancels is true of any text and any acts: edits of one transaction, cancelled, and the text is as ahead of them, and no transaction more. -/
import Derived.Test.YtibdhahkkejnjaaPuG
namespace Go.Proofs.Ytibdhahkkejnjaa.PastCancels
open Go.ChangeShapes Go.WideShapes Go.ChangeAt Go.RowKit Go.Proofs.PlatenPiece
set_option linter.unusedVariables false
set_option maxRecDepth 100000

/-- The text as it was, in a block that nobody owns. -/
def Was (b : Nat) (l : List Nat) (X R : Nat → Prop) (w : World) : Prop := w.heap[b]? = some (.cells (bytesV l).toArray 5 (0, 0)) ∧ ¬ X b ∧ ¬ R b
theorem Was.lt {b : Nat} {l : List Nat} {X R : Nat → Prop} {w : World} (h : Was b l X R w) : b < w.heap.size := (Array.getElem?_eq_some_iff.1 h.1).1
theorem Was.p {b : Nat} {l : List Nat} {X X' R : Nat → Prop} {w w' : World} (h : Was b l X R w) (hk : Kept X w w') (hx : ∀ k, k < w.heap.size → X' k → X k) : Was b l X' R w' :=
  ⟨(hk.block b h.lt h.2.1).trans h.1, fun q => h.2.1 (hx b h.lt q), h.2.2⟩
theorem Was.r {b : Nat} {l : List Nat} {X R R' : Nat → Prop} {w w' : World} (h : Was b l X R w) (hk : Kept R w w') (hx : ∀ k, k < w.heap.size → R' k → R k) : Was b l X R' w' :=
  ⟨(hk.block b h.lt h.2.2).trans h.1, h.2.1, fun q => h.2.2 (hx b h.lt q)⟩
theorem Was.but {b : Nat} {l : List Nat} {X R : Nat → Prop} {w w' : World} {o : Option Nat} (h : Was b l X R w) (hg : w.grownBy w' o) (ho : o ≠ some b) : Was b l X R w' := ⟨(hg.block b h.lt (fun e => ho e.symm)).trans h.1, h.2⟩
theorem run_same {a b c : List Nat} {es : List Ed} (h : Run a es b) (k : Run a es c) : b = c := by rw [← h.fold, ← k.fold]

set_option maxHeartbeats 4000000 in
theorem law (pv : Value) (n : Nat) (l0 : List Nat) (v : Value) (xs : List AC) (v2 : Value) (ys : List AC) (w : World) (hs : IsSrc w pv n l0) (hv : IsActs w v xs) (hv2 : IsActs w v2 ys) :
    Calls Try.prog 9 #[pv, v, v2] w fun e w' => e = .returned (.bool true) ∧ Below w.heap.size w w' := by
  obtain ⟨hlt, hln, hn63, hsrc⟩ := hs
  obtain ⟨pa, pc, rfl⟩ : ∃ pa pc, pv = .slice pa n pc := by
    rcases hsrc with ⟨rfl, rfl⟩ | ⟨ad, cap, rfl, _⟩
    · exact ⟨_, _, by rw [← hln]; rfl⟩
    · exact ⟨_, _, by rw [hln]⟩
  obtain ⟨m, hm⟩ : ∃ m, xs.length = m := ⟨_, rfl⟩
  obtain ⟨va, cap, rfl⟩ : ∃ va cap, v = .slice va m cap := by
    obtain ⟨_, va, cap, rfl, _⟩ := hv
    exact ⟨va, cap, by rw [hm]⟩
  obtain ⟨m2, hm2⟩ : ∃ m2, ys.length = m2 := ⟨_, rfl⟩
  obtain ⟨va2, cap2, rfl⟩ : ∃ va cap, v2 = .slice va m2 cap := by
    obtain ⟨_, va, cap, rfl, _⟩ := hv2
    exact ⟨va, cap, by rw [hm2]⟩
  have HSrc := hidden hsrc
  have HA := hidden hv
  have HA2 := hidden hv2
  have Hlt := hidden hlt
  have Hln := hidden hln
  have Hm := hidden hm
  have Hm2 := hidden hm2
  clear hsrc hv hv2 hlt hln hm hm2
  go_enter Try.func9, Try.ntmps9
  go_wp2_with fail
  refine (moves_any w).mono ?_
  rintro q w1 ⟨rfl, hb1⟩
  have HB1 := hidden hb1
  clear hb1
  go_wp2_with fail
  refine (few_any pa n pc _ xs w1 (HA.out.below HB1.out)).mono ?_
  rintro q w2 ⟨⟨r, rfl, hr⟩, rfl⟩
  have Hr := hidden hr
  clear hr
  cases r with
  | false =>
    go_wp2_with fail
    refine (moves_any w2).mono ?_
    rintro q w3 ⟨rfl, hb3⟩
    have HB3 := hidden (HB1.out.trans (hb3.mono HB1.out.size))
    clear hb3
    go_wp2
    go_ret
    exact ⟨rfl, HB3.out⟩
  | true =>
    go_wp2_with fail
    refine (few_any none 0 0 _ ys w2 (HA2.out.below HB1.out)).mono ?_
    rintro q w2' ⟨⟨r2, rfl, hr2⟩, rfl⟩
    have Hr2 := hidden hr2
    clear hr2
    cases r2 with
    | false =>
      go_wp2_with fail
      refine (moves_any w2').mono ?_
      rintro q w3 ⟨rfl, hb3⟩
      have HB3 := hidden (HB1.out.trans (hb3.mono HB1.out.size))
      clear hb3
      go_wp2
      go_ret
      exact ⟨rfl, HB3.out⟩
    | true =>
      obtain ⟨hn60, hm24, hall⟩ := Hr.out (by trivial)
      obtain ⟨_, hm24b, hall2⟩ := Hr2.out rfl
      have Hl : Hid (l0.length ≤ 60) := by unfold Hid; rw [Hln.out]; exact hn60
      have hmm : m2 ≤ 24 := by rw [← Hm2.out]; exact hm24b
      have Hall2 := hidden hall2
      have C3 := hidden (begin_any _ _ l0 xs w2' (HSrc.out.below HB1.out) Hl.out Hlt.out (HA.out.below HB1.out) hm24 hall)
      clear hall Hr hm24 Hr2 hall2 hm24b
      go_wp2_with fail
      refine C3.out.mono ?_
      rintro q w3 ⟨T, H, M, s, X, R, rfl, hp, hi, hsz, hnow⟩
      have Hp := hidden hp
      have Hi := hidden hi
      have Hnow := hidden hnow
      have hmany := hi.many
      clear C3 hp hi hnow
      go_wp2_with fail
      refine (hs_bytes Hp.out.hs (by omega)).mono ?_
      rintro q w4 ⟨rfl, hh4, hg4⟩
      have HW4 : Hid (Was w3.heap.size s.l X R w4) := ⟨hh4, fun q => by have := (Hp.out.hs.own _ q).2; omega, fun q => by have := (Hp.out.rs.own _ q).2; omega⟩
      have Hp4 := hidden (Hp.out.grown hg4)
      clear hh4 hg4 Hp
      obtain ⟨b0, hb0⟩ : ∃ b, w3.heap.size = b := ⟨_, rfl⟩
      rw [hb0] at HW4 ⊢
      clear hb0
      go_wp2_with fail
      refine (hs_depth Hp4.out.hs).mono ?_
      rintro q w5 ⟨rfl, hg5⟩
      have Hp5 := hidden (Hp4.out.grown hg5)
      have HW5 := hidden (HW4.out.but hg5 (by simp))
      clear hg5 Hp4 HW4
      obtain ⟨D, hD⟩ : ∃ D, s.done.length = D := ⟨_, rfl⟩
      have HD := hidden hD
      rw [hD] at hmany ⊢
      clear hD
      go_wp2_with fail
      go_loopw [14] (fun i wr => ∃ (k : Nat) (s' : Hs) (X' R' : Nat → Prop), k ≤ m2 ∧ i = .int .i64 (k : Nat) ∧ PR w2'.heap.size w2' wr T H M s' s' (1200 + 2 * k) X' R' ∧ Inv l0 s' ∧ s'.sz ≤ 24 + k ∧ s'.done = s.done ∧ Was b0 s.l X' R' wr) (fun i _ => m2 - (intOf i).toNat)
      case atStart => exact ⟨0, s, X, R, Nat.zero_le _, rfl, Hp5.out, Hi.out, hsz, rfl, HW5.out⟩
      case round =>
        obtain ⟨k, s', X', R', hk, rfl, hp, hi, hz', hdn, hw⟩ := hrel
        by_cases hlt : k < m2
        · have hkz : (k : Int) < (m2 : Int) := by omega
          obtain ⟨pv, dv, gv, nv, dn, gn, hrp, hm1, hm2, hm3⟩ := hp.rs
          obtain ⟨a, pb, po, ps, ad, ha, hmem, hok, rfl, hP, _⟩ := acts_at (HA2.out.below HB1.out) hp.bl hlt Hm2.out
          have HAC : Hid (∀ u, Below w2'.heap.size w2' u → u.cell? ⟨pb, po, ps⟩ = some (.int .u8 (a.d : Nat)) ∧ u.cell? ⟨pb, po + 1, none⟩ = some (.int .i64 a.at') ∧ u.cell? ⟨pb, po + 2, none⟩ = some (.int .i64 a.n) ∧ u.cell? ⟨pb, po + 3, none⟩ = some (.string a.old) ∧ u.cell? ⟨pb, po + 4, none⟩ = some (.string a.new)) := fun u hu => by
            obtain ⟨a', pb', po', ps', ad', ha', _, _, e1, e2, c0, c1, c2, c3, c4⟩ := acts_at (HA2.out.below HB1.out) hu hlt Hm2.out
            rw [ha] at ha'
            cases ha'
            cases e1
            rw [hP] at e2
            cases e2
            exact ⟨c0, c1, c2, c3, c4⟩
          have HRP := hidden (hrp.grown (grown_drew _))
          have HP1 := hidden (hp.grown (grown_drew _))
          have HW1 := hidden (hw.but (grown_drew _) (by simp))
          have hbX : Hid (∀ k, X' k → k < wr.heap.size) := fun k hk => (hp.hs.own k hk).2
          have hbR : Hid (∀ k, R' k → k < wr.heap.size) := fun k hk => (hp.rs.own k hk).2
          have hb0l : Hid (b0 < wr.heap.size) := hw.lt
          have Hi := hidden hi
          have Hdn := hidden hdn
          obtain ⟨ho, hn⟩ := Hall2.out a hmem
          have hnow' : s'.now.length ≤ 48 := by unfold Hs.sz at hz'; omega
          have Hsz1 : Hid (wr.drew.heap.size = wr.heap.size) := rfl
          clear hp hi hw hdn hrp hm1 hm2 hm3 ha hmem
          go_wp2_with fail
          have HS : Hid (∀ u : World, Below w2'.heap.size w2' u → u.cell? ⟨M, 0, none⟩ = some pv → (fun u : World => u.cell? ⟨M, 0, none⟩ = some pv ∧ u.cell? ⟨pb, po, ps⟩ = some (.int .u8 (a.d : Nat)) ∧ u.cell? ⟨pb, po + 1, none⟩ = some (.int .i64 a.at') ∧ u.cell? ⟨pb, po + 2, none⟩ = some (.int .i64 a.n) ∧ u.cell? ⟨pb, po + 3, none⟩ = some (.string a.old) ∧ u.cell? ⟨pb, po + 4, none⟩ = some (.string a.new)) u) := fun u hu hm => ⟨hm, HAC.out u hu⟩
          refine wp_region_held_drew (S := (fun u : World => u.cell? ⟨M, 0, none⟩ = some pv ∧ u.cell? ⟨pb, po, ps⟩ = some (.int .u8 (a.d : Nat)) ∧ u.cell? ⟨pb, po + 1, none⟩ = some (.int .i64 a.at') ∧ u.cell? ⟨pb, po + 2, none⟩ = some (.int .i64 a.n) ∧ u.cell? ⟨pb, po + 3, none⟩ = some (.string a.old) ∧ u.cell? ⟨pb, po + 4, none⟩ = some (.string a.new))) (by kernel_rfl) (HS.out _ HP1.out.bl HRP.out.cells.1) (fun hHeld => ?_)
          generalize wr.drew = W at *
          obtain ⟨pa', pc', rfl⟩ := row_slice HRP.out.prow
          refine take_dst 0 (some 54) rfl rfl (by kernel_rfl) (by kernel_rfl) (by kernel_rfl) (fun _ _ _ h => h) (v := ?_) (Or.inl ⟨by rfl, ?_⟩) (by assumption) ?_
          rotate_left
          · (intro w hSw; (try dsimp only at hSw); go_simp; try with_reducible rfl)
          simp only [Act.put, List.setIfInBounds_toArray, List.set_cons_zero, List.set_cons_succ]
          refine take_dst 1 (some 55) rfl rfl (by kernel_rfl) (by kernel_rfl) (by kernel_rfl) (fun _ _ _ h => h) (v := ?_) (Or.inl ⟨by rfl, ?_⟩) (by assumption) ?_
          rotate_left
          · (intro w hSw; (try dsimp only at hSw); go_simp; try with_reducible rfl)
          simp only [Act.put, List.setIfInBounds_toArray, List.set_cons_zero, List.set_cons_succ]
          refine take_dst 2 (some 56) rfl rfl (by kernel_rfl) (by kernel_rfl) (by kernel_rfl) (fun _ _ _ h => h) (v := ?_) (Or.inl ⟨by rfl, ?_⟩) (by assumption) ?_
          rotate_left
          · (intro w hSw; (try dsimp only at hSw); go_simp; try with_reducible rfl)
          simp only [Act.put, List.setIfInBounds_toArray, List.set_cons_zero, List.set_cons_succ]
          refine take_dst 3 (some 57) rfl rfl (by kernel_rfl) (by kernel_rfl) (by kernel_rfl) (fun _ _ _ h => h) (v := ?_) (Or.inl ⟨by rfl, ?_⟩) (by assumption) ?_
          rotate_left
          · (intro w hSw; (try dsimp only at hSw); go_simp; try with_reducible rfl)
          simp only [Act.put, List.setIfInBounds_toArray, List.set_cons_zero, List.set_cons_succ]
          refine take_dst 4 (some 58) rfl rfl (by kernel_rfl) (by kernel_rfl) (by kernel_rfl) (fun _ _ _ h => h) (v := ?_) (Or.inl ⟨by rfl, ?_⟩) (by assumption) ?_
          rotate_left
          · (intro w hSw; (try dsimp only at hSw); go_simp; try with_reducible rfl)
          simp only [Act.put, List.setIfInBounds_toArray, List.set_cons_zero, List.set_cons_succ]
          refine take_dst 5 (some 59) rfl rfl (by kernel_rfl) (by kernel_rfl) (by kernel_rfl) (fun _ _ _ h => h) (v := ?_) (Or.inl ⟨by rfl, ?_⟩) (by assumption) ?_
          rotate_left
          · (intro w hSw; (try dsimp only at hSw); go_simp; try with_reducible rfl)
          simp only [Act.put, List.setIfInBounds_toArray, List.set_cons_zero, List.set_cons_succ]
          refine take_dst 6 (some 60) rfl rfl (by kernel_rfl) (by kernel_rfl) (by kernel_rfl) (fun _ _ _ h => h) (v := ?_) (Or.inl ⟨by rfl, ?_⟩) (by assumption) ?_
          rotate_left
          · (intro w hSw; (try dsimp only at hSw); go_simp; try with_reducible rfl)
          simp only [Act.put, List.setIfInBounds_toArray, List.set_cons_zero, List.set_cons_succ]
          refine take_dst 7 (some 61) rfl rfl (by kernel_rfl) (by kernel_rfl) (by kernel_rfl) (fun _ _ _ h => h) (v := ?_) (Or.inl ⟨by rfl, ?_⟩) (by assumption) ?_
          rotate_left
          · (intro w hSw; (try dsimp only at hSw); go_simp; try with_reducible rfl)
          simp only [Act.put, List.setIfInBounds_toArray, List.set_cons_zero, List.set_cons_succ]
          refine wpAnyH_ready (rs := [8, 9]) (by kernel_rfl) (by simp) ?_
          refine AllReadyH.cons rfl (fun K hK => ?_) (AllReadyH.cons rfl (fun K hK => ?_) AllReadyH.nil)
          · go_simp
            refine (of_any s'.l _ a _ HRP.out.prow Hi.out.len Hi.out.bytes hok ho hn).mono ?_
            rintro q w6 ⟨e, rfl, hb6⟩
            have hg6 := grown_of_below hb6
            have HP2 := hidden (HP1.out.grown hg6)
            have HRP2 := hidden (HRP.out.grown hg6)
            have HW2 := hidden (HW1.out.but hg6 (by simp))
            have hs2 : wr.heap.size ≤ w6.heap.size := by have := hg6.size; have := Hsz1.out; omega
            clear hb6 hg6
            refine hK.out _ _ (HS.out _ HP2.out.bl HRP2.out.cells.1) (fun hHeld1 => ?_)
            clear hK K hHeld
            refine wpAnyH_ready (rs := [9]) (by kernel_rfl) (by simp) ?_
            refine AllReadyH.cons rfl (fun K hK => ?_) AllReadyH.nil
            go_simp
            have hgA := grownBy_alloc w6 (.cells #[.int .i64 0, .string ⟨#[]⟩, .string ⟨#[]⟩] 57)
            have hgF := grownBy_alloc w6 (.cells #[.int .i64 e.at', .string e.old, .string e.new] 57)
            refine hK.out _ _ (HS.out _ (HP2.out.grown hgA).bl (HRP2.out.grown hgA).cells.1) (fun hHeld2 => ?_)
            clear hK K hHeld1
            refine wpAnyH_ready (rs := [10]) (by kernel_rfl) (by simp) ?_
            refine AllReadyH.cons rfl (fun K hK => ?_) AllReadyH.nil
            go_simp
            refine hK.out _ _ (HS.out _ (HP2.out.grown hgF).bl (HRP2.out.grown hgF).cells.1) (fun hHeld3 => ?_)
            clear hK K
            refine wpAnyH_done (by kernel_rfl) ?_ _
            have HPf := hidden (HP2.out.grown hgF)
            have HWf := hidden (HW2.out.but hgF (by simp))
            have HBf : Hid (BoxE w6.heap.size e (w6.alloc (.cells #[.int .i64 e.at', .string e.old, .string e.new] 57))) := heap_alloc_new _ _
            have hnX : Hid (¬ X' w6.heap.size) := fun q => by have := hbX.out _ q; omega
            have hnR : Hid (¬ R' w6.heap.size) := fun q => by have := hbR.out _ q; omega
            clear hHeld2 hHeld3 hgA hgF HRP2 HP2 HRP HP1 HS Hsz1 HW1 HW2 HAC
            generalize (w6.alloc (.cells #[.int .i64 e.at', .string e.old, .string e.new] 57)) = WF at *
            obtain ⟨b, hb⟩ : ∃ b, w6.heap.size = b := ⟨_, rfl⟩
            rw [hb] at HBf hnX hnR ⊢
            clear hb
            go_wp2_with fail
            have HPd := hidden (HPf.out.grown (grown_drew WF))
            have HWd := hidden (HWf.out.but (grown_drew WF) (by simp))
            have HBd : Hid (BoxE b e WF.drew) := HBf.out
            clear HPf HBf HWf
            have HSb : Hid (∀ u, BoxE b e u → (fun u : World => u.cell? ⟨b, 0, none⟩ = some (.int .i64 e.at') ∧ u.cell? ⟨b, 1, none⟩ = some (.string e.old) ∧ u.cell? ⟨b, 2, none⟩ = some (.string e.new)) u) := fun u hu => hu.cells
            refine wp_region_held_drew (S := (fun u : World => u.cell? ⟨b, 0, none⟩ = some (.int .i64 e.at') ∧ u.cell? ⟨b, 1, none⟩ = some (.string e.old) ∧ u.cell? ⟨b, 2, none⟩ = some (.string e.new))) (by kernel_rfl) (HSb.out _ HBd.out) (fun hHeld => ?_)
            generalize WF.drew = V at *
            refine take_dst 0 (some 63) rfl rfl (by kernel_rfl) (by kernel_rfl) (by kernel_rfl) (fun _ _ _ h => h) (v := ?_) (Or.inl ⟨by rfl, ?_⟩) (by assumption) ?_
            rotate_left
            · (intro w hSw; (try dsimp only at hSw); go_simp; try with_reducible rfl)
            simp only [Act.put, List.setIfInBounds_toArray, List.set_cons_zero, List.set_cons_succ]
            refine take_dst 1 (some 64) rfl rfl (by kernel_rfl) (by kernel_rfl) (by kernel_rfl) (fun _ _ _ h => h) (v := ?_) (Or.inl ⟨by rfl, ?_⟩) (by assumption) ?_
            rotate_left
            · (intro w hSw; (try dsimp only at hSw); go_simp; try with_reducible rfl)
            simp only [Act.put, List.setIfInBounds_toArray, List.set_cons_zero, List.set_cons_succ]
            refine take_dst 3 (some 66) rfl rfl (by kernel_rfl) (by kernel_rfl) (by kernel_rfl) (fun _ _ _ h => h) (v := ?_) (Or.inl ⟨by rfl, ?_⟩) (by assumption) ?_
            rotate_left
            · (intro w hSw; (try dsimp only at hSw); go_simp; try with_reducible rfl)
            simp only [Act.put, List.setIfInBounds_toArray, List.set_cons_zero, List.set_cons_succ]
            refine take_dst 4 (some 67) rfl rfl (by kernel_rfl) (by kernel_rfl) (by kernel_rfl) (fun _ _ _ h => h) (v := ?_) (Or.inl ⟨by rfl, ?_⟩) (by assumption) ?_
            rotate_left
            · (intro w hSw; (try dsimp only at hSw); go_simp; try with_reducible rfl)
            simp only [Act.put, List.setIfInBounds_toArray, List.set_cons_zero, List.set_cons_succ]
            refine wpAnyH_ready (rs := [2]) (by kernel_rfl) (by simp) ?_
            refine AllReadyH.cons rfl (fun K hK => ?_) AllReadyH.nil
            go_simp
            refine (hs_do HPd.out.hs Hi.out (by omega) (by omega) e).mono ?_
            rintro q v1 ⟨code1, s1, hdr1, rfl, hst1⟩
            obtain ⟨X1, hp1, hk1, hx1⟩ := HPd.out.p hst1
            have HV1 := hidden hp1
            have HB1b : Hid (BoxE b e v1) := (hk1.block b (Array.getElem?_eq_some_iff.1 HBd.out).1 hnX.out).trans HBd.out
            have HW1b := hidden (HWd.out.p hk1 hx1)
            clear hst1 hp1 hk1 hx1
            refine hK.out _ _ (HSb.out _ HB1b.out) (fun hHeld1 => ?_)
            clear hK K hHeld
            refine wpAnyH_ready (rs := [5]) (by kernel_rfl) (by simp) ?_
            refine AllReadyH.cons rfl (fun K hK => ?_) AllReadyH.nil
            go_simp
            refine (rs_do HV1.out.rs Hi.out (by omega) e).mono ?_
            rintro q v2 ⟨code2, s2, hdr2, rfl, hst2⟩
            obtain ⟨R2, hp2, hk2, hx2⟩ := HV1.out.r hst2
            have HV2 := hidden hp2
            have HB2b : Hid (BoxE b e v2) := (hk2.block b (Array.getElem?_eq_some_iff.1 HB1b.out).1 hnR.out).trans HB1b.out
            have HW2b := hidden (HW1b.out.r hk2 hx2)
            obtain ⟨rfl, rfl⟩ := DoR.det hdr1 hdr2
            have Hdr := hidden (hdr1.inv Hi.out)
            clear hst2 hp2 hk2 hx2 hdr1 hdr2
            refine hK.out _ _ (HSb.out _ HB2b.out) (fun hHeld2 => ?_)
            clear hK K hHeld1
            refine take_dst 6 (some 69) rfl rfl (by kernel_rfl) (by kernel_rfl) (by kernel_rfl) (fun _ _ _ h => h) (v := ?_) (Or.inl ⟨by rfl, ?_⟩) (by assumption) ?_
            rotate_left
            · (intro w hSw; (try dsimp only at hSw); go_simp; try with_reducible rfl)
            simp only [Act.put, List.setIfInBounds_toArray, List.set_cons_zero, List.set_cons_succ]
            refine wpAnyH_done (by kernel_rfl) ?_ _
            clear hHeld2 HB2b HB1b HSb HW1b HWd HPd HBd
            go_wp2
            go_roundw
            case rel => exact ⟨k + 1, s1, X1, R2, by omega, by go_num, HV2.out.more (by omega), Hdr.out.1, by have := Hdr.out.2.1; omega, by rw [Hdr.out.2.2]; exact Hdn.out, HW2b.out⟩
            case measure => simp [intOf]; omega
          · go_simp
            have hgA := grownBy_alloc W (.cells #[.int .i64 0, .string ⟨#[]⟩, .string ⟨#[]⟩] 57)
            have HRPA := hidden (HRP.out.grown hgA)
            have HPA := hidden (HP1.out.grown hgA)
            have HWA := hidden (HW1.out.but hgA (by simp))
            have HZ : Hid ((W.alloc (.cells #[.int .i64 0, .string ⟨#[]⟩, .string ⟨#[]⟩] 57)).heap[W.heap.size]? = some (.cells #[.int .i64 0, .string ⟨#[]⟩, .string ⟨#[]⟩] 57 (0, 0))) := heap_alloc_new _ _
            refine hK.out _ _ (HS.out _ HPA.out.bl HRPA.out.cells.1) (fun hHeld1 => ?_)
            clear hK K hHeld hgA
            generalize (W.alloc (.cells #[.int .i64 0, .string ⟨#[]⟩, .string ⟨#[]⟩] 57)) = WA at *
            obtain ⟨b, hb⟩ : ∃ b, W.heap.size = b := ⟨_, rfl⟩
            have hbw : wr.heap.size = b := by rw [← hb]; exact Hsz1.out.symm
            rw [hb] at HZ ⊢
            refine wpAnyH_ready (rs := [8]) (by kernel_rfl) (by simp) ?_
            refine AllReadyH.cons rfl (fun K hK => ?_) AllReadyH.nil
            go_simp
            refine (of_any s'.l _ a _ HRPA.out.prow Hi.out.len Hi.out.bytes hok ho hn).mono ?_
            rintro q w6 ⟨e, rfl, hb6⟩
            have hg6 := grown_of_below hb6
            have HP2 := hidden (HPA.out.grown hg6)
            have HRP2 := hidden (HRPA.out.grown hg6)
            have HW2 := hidden (HWA.out.but hg6 (by simp))
            have hz2 : w6.heap[b]? = some (.cells #[.int .i64 0, .string ⟨#[]⟩, .string ⟨#[]⟩] 57 (0, 0)) := (hg6.block b (Array.getElem?_eq_some_iff.1 HZ.out).1 (by simp)).trans HZ.out
            have z0 : w6.cell? ⟨b, 0, none⟩ = some (.int .i64 0) := by simp only [World.cell?, hz2]; rfl
            have z1 : w6.cell? ⟨b, 1, none⟩ = some (.string ⟨#[]⟩) := by simp only [World.cell?, hz2]; rfl
            have z2 : w6.cell? ⟨b, 2, none⟩ = some (.string ⟨#[]⟩) := by simp only [World.cell?, hz2]; rfl
            have y0 : w6.frozen? ⟨b, 0, none⟩ = false := frozen_of_row w6 b 0 _ 57 hz2
            have y1 : w6.frozen? ⟨b, 1, none⟩ = false := frozen_of_row w6 b 1 _ 57 hz2
            have y2 : w6.frozen? ⟨b, 2, none⟩ = false := frozen_of_row w6 b 2 _ 57 hz2
            have HBf : Hid (BoxE b e (((w6.setCell ⟨b, 0, none⟩ (.int .i64 e.at')).setCell ⟨b, 1, none⟩ (.string e.old)).setCell ⟨b, 2, none⟩ (.string e.new))) := box_set hz2
            have hgF : w6.grownBy (((w6.setCell ⟨b, 0, none⟩ (.int .i64 e.at')).setCell ⟨b, 1, none⟩ (.string e.old)).setCell ⟨b, 2, none⟩ (.string e.new)) (some b) := grown_two (grown_two (grownBy_set _ b 0 _) (grownBy_set _ b 1 _)) (grownBy_set _ b 2 _)
            have hnX : Hid (¬ X' b) := fun q => by have := hbX.out _ q; omega
            have hnR : Hid (¬ R' b) := fun q => by have := hbR.out _ q; omega
            have HPf := hidden (HP2.out.but hgF hnX.out hnR.out (by have := HP1.out.hs.bs; omega))
            have HWf := hidden (HW2.out.but hgF (by have := hb0l.out; simp; omega))
            have hbM : b ≠ M := fun q => by have h1 := HRP2.out.head; rw [← q, hz2] at h1; simp at h1
            have HMF : Hid ((((w6.setCell ⟨b, 0, none⟩ (.int .i64 e.at')).setCell ⟨b, 1, none⟩ (.string e.old)).setCell ⟨b, 2, none⟩ (.string e.new)).cell? ⟨M, 0, none⟩ = some (.slice pa' s'.l.length pc')) := (head_cells ((hgF.block M HRP2.out.lt (by simp; omega)).trans HRP2.out.head)).1
            clear hb6 hg6
            refine hK.out _ _ (HS.out _ HP2.out.bl HRP2.out.cells.1) (fun hHeld2 => ?_)
            clear hK K hHeld1
            refine wpAnyH_ready (rs := [10]) (by kernel_rfl) (by simp) ?_
            refine AllReadyH.cons rfl (fun K hK => ?_) AllReadyH.nil
            go_simp
            refine hK.out _ _ (HS.out _ HPf.out.bl HMF.out) (fun hHeld3 => ?_)
            clear hK K
            refine wpAnyH_done (by kernel_rfl) ?_ _
            clear hHeld2 hHeld3 hgF HMF HRP2 HP2 HRP HP1 HS Hsz1 HRPA HPA HZ hz2 z0 z1 z2 y0 y1 y2 hb hbw HW1 HW2 HWA HAC
            generalize (((w6.setCell ⟨b, 0, none⟩ (.int .i64 e.at')).setCell ⟨b, 1, none⟩ (.string e.old)).setCell ⟨b, 2, none⟩ (.string e.new)) = WF at *
            go_wp2_with fail
            have HPd := hidden (HPf.out.grown (grown_drew WF))
            have HWd := hidden (HWf.out.but (grown_drew WF) (by simp))
            have HBd : Hid (BoxE b e WF.drew) := HBf.out
            clear HPf HBf HWf
            have HSb : Hid (∀ u, BoxE b e u → (fun u : World => u.cell? ⟨b, 0, none⟩ = some (.int .i64 e.at') ∧ u.cell? ⟨b, 1, none⟩ = some (.string e.old) ∧ u.cell? ⟨b, 2, none⟩ = some (.string e.new)) u) := fun u hu => hu.cells
            refine wp_region_held_drew (S := (fun u : World => u.cell? ⟨b, 0, none⟩ = some (.int .i64 e.at') ∧ u.cell? ⟨b, 1, none⟩ = some (.string e.old) ∧ u.cell? ⟨b, 2, none⟩ = some (.string e.new))) (by kernel_rfl) (HSb.out _ HBd.out) (fun hHeld => ?_)
            generalize WF.drew = V at *
            refine take_dst 0 (some 63) rfl rfl (by kernel_rfl) (by kernel_rfl) (by kernel_rfl) (fun _ _ _ h => h) (v := ?_) (Or.inl ⟨by rfl, ?_⟩) (by assumption) ?_
            rotate_left
            · (intro w hSw; (try dsimp only at hSw); go_simp; try with_reducible rfl)
            simp only [Act.put, List.setIfInBounds_toArray, List.set_cons_zero, List.set_cons_succ]
            refine take_dst 1 (some 64) rfl rfl (by kernel_rfl) (by kernel_rfl) (by kernel_rfl) (fun _ _ _ h => h) (v := ?_) (Or.inl ⟨by rfl, ?_⟩) (by assumption) ?_
            rotate_left
            · (intro w hSw; (try dsimp only at hSw); go_simp; try with_reducible rfl)
            simp only [Act.put, List.setIfInBounds_toArray, List.set_cons_zero, List.set_cons_succ]
            refine take_dst 3 (some 66) rfl rfl (by kernel_rfl) (by kernel_rfl) (by kernel_rfl) (fun _ _ _ h => h) (v := ?_) (Or.inl ⟨by rfl, ?_⟩) (by assumption) ?_
            rotate_left
            · (intro w hSw; (try dsimp only at hSw); go_simp; try with_reducible rfl)
            simp only [Act.put, List.setIfInBounds_toArray, List.set_cons_zero, List.set_cons_succ]
            refine take_dst 4 (some 67) rfl rfl (by kernel_rfl) (by kernel_rfl) (by kernel_rfl) (fun _ _ _ h => h) (v := ?_) (Or.inl ⟨by rfl, ?_⟩) (by assumption) ?_
            rotate_left
            · (intro w hSw; (try dsimp only at hSw); go_simp; try with_reducible rfl)
            simp only [Act.put, List.setIfInBounds_toArray, List.set_cons_zero, List.set_cons_succ]
            refine wpAnyH_ready (rs := [2]) (by kernel_rfl) (by simp) ?_
            refine AllReadyH.cons rfl (fun K hK => ?_) AllReadyH.nil
            go_simp
            refine (hs_do HPd.out.hs Hi.out (by omega) (by omega) e).mono ?_
            rintro q v1 ⟨code1, s1, hdr1, rfl, hst1⟩
            obtain ⟨X1, hp1, hk1, hx1⟩ := HPd.out.p hst1
            have HV1 := hidden hp1
            have HB1b : Hid (BoxE b e v1) := (hk1.block b (Array.getElem?_eq_some_iff.1 HBd.out).1 hnX.out).trans HBd.out
            have HW1b := hidden (HWd.out.p hk1 hx1)
            clear hst1 hp1 hk1 hx1
            refine hK.out _ _ (HSb.out _ HB1b.out) (fun hHeld1 => ?_)
            clear hK K hHeld
            refine wpAnyH_ready (rs := [5]) (by kernel_rfl) (by simp) ?_
            refine AllReadyH.cons rfl (fun K hK => ?_) AllReadyH.nil
            go_simp
            refine (rs_do HV1.out.rs Hi.out (by omega) e).mono ?_
            rintro q v2 ⟨code2, s2, hdr2, rfl, hst2⟩
            obtain ⟨R2, hp2, hk2, hx2⟩ := HV1.out.r hst2
            have HV2 := hidden hp2
            have HB2b : Hid (BoxE b e v2) := (hk2.block b (Array.getElem?_eq_some_iff.1 HB1b.out).1 hnR.out).trans HB1b.out
            have HW2b := hidden (HW1b.out.r hk2 hx2)
            obtain ⟨rfl, rfl⟩ := DoR.det hdr1 hdr2
            have Hdr := hidden (hdr1.inv Hi.out)
            clear hst2 hp2 hk2 hx2 hdr1 hdr2
            refine hK.out _ _ (HSb.out _ HB2b.out) (fun hHeld2 => ?_)
            clear hK K hHeld1
            refine take_dst 6 (some 69) rfl rfl (by kernel_rfl) (by kernel_rfl) (by kernel_rfl) (fun _ _ _ h => h) (v := ?_) (Or.inl ⟨by rfl, ?_⟩) (by assumption) ?_
            rotate_left
            · (intro w hSw; (try dsimp only at hSw); go_simp; try with_reducible rfl)
            simp only [Act.put, List.setIfInBounds_toArray, List.set_cons_zero, List.set_cons_succ]
            refine wpAnyH_done (by kernel_rfl) ?_ _
            clear hHeld2 HB2b HB1b HSb HW1b HWd HPd HBd
            go_wp2
            go_roundw
            case rel => exact ⟨k + 1, s1, X1, R2, by omega, by go_num, HV2.out.more (by omega), Hdr.out.1, by have := Hdr.out.2.1; omega, by rw [Hdr.out.2.2]; exact Hdn.out, HW2b.out⟩
            case measure => simp [intOf]; omega
        · have hkz : ¬ ((k : Int) < (m2 : Int)) := by omega
          obtain ⟨lz, hr, hinv, hrun⟩ := hi.cancel
          have hlz : lz = s.l := by
            have h1 := Hi.out.run
            rw [Hnow.out, List.append_nil] at h1
            rw [hdn] at hrun
            exact run_same hrun h1
          subst hlz
          have hnow' : s'.now.length ≤ 48 := by unfold Hs.sz at hz'; omega
          have hl2 : (backsL s'.now).length = s'.now.length := backsL_len _
          have Hl2 := hidden hl2
          have C6 := hidden (hs_cancel hp.hs hi (by omega) hr)
          have Hr := hidden hr
          have Hinv := hidden hinv
          have Hp6 := hidden hp
          have Hw6 := hidden hw
          have Hi6 := hidden hi
          have hbR : Hid (∀ k, R' k → k < wr.heap.size) := fun k hk => (hp.rs.own k hk).2
          have hdD : s'.done.length = D := by rw [hdn]; exact HD.out
          clear hp hi hw hr hinv hrun hl2
          go_wp2_with fail
          refine C6.out.mono ?_
          rintro q w6 ⟨vo, rfl, hrow, hst⟩
          obtain ⟨X6, hp6, hk6, hx6⟩ := Hp6.out.p hst
          have Hp7 := hidden hp6
          have Hw7 := hidden (Hw6.out.p hk6 hx6)
          have Hrow := hidden hrow
          obtain ⟨oa, oc, rfl⟩ := row_slice hrow
          clear hrow hst hp6 hk6 hx6 C6 Hp6 Hw6
          go_wp2_with fail
          have C8 := hs_depth Hp7.out.hs
          dsimp only at C8
          rw [hdD] at C8
          have HC8 := hidden C8
          clear C8
          refine HC8.out.mono ?_
          rintro q w8 ⟨rfl, hg8⟩
          have Hp8 := hidden (Hp7.out.grown hg8)
          have Hw8 := hidden (Hw7.out.but hg8 (by simp))
          have Hrow8 := hidden (row_grown Hrow.out hg8 (by simp))
          clear hg8 HC8 Hp7 Hw7 Hrow
          go_wp2_with fail
          refine (rs_cancel Hp8.out.rs Hi6.out (by omega) Hr.out).mono ?_
          rintro q w9 ⟨vo2, rfl, hrow2, hst2⟩
          obtain ⟨R9, hp9, hk9, hx9⟩ := Hp8.out.r hst2
          have Hp9 := hidden hp9
          have Hw9 := hidden (Hw8.out.r hk9 hx9)
          have Hrow2 := hidden hrow2
          have Hrow9 := hidden (row_kept Hrow8.out hk9 (fun k hk => hbR.out k hk))
          obtain ⟨oa2, oc2, rfl⟩ := row_slice hrow2
          clear hst2 hp9 hrow2 hk9 hx9 Hp8 Hw8 Hrow8
          go_wp2_with fail
          refine (rsame (es := backsL s'.now) (by rw [Hl2.out]; omega) (by rw [Hl2.out]; exact Hrow9.out) (by rw [Hl2.out]; exact Hrow2.out)).mono ?_
          rintro q w10 ⟨rfl, hg10⟩
          have Hp10 := hidden (Hp9.out.grown hg10)
          have Hw10 := hidden (Hw9.out.but hg10 (by simp))
          clear hg10 Hp9 Hw9 Hrow9 Hrow2
          go_wp2_with fail
          refine (hs_bytes Hp10.out.hs (by omega)).mono ?_
          rintro q w11 ⟨rfl, hh11, hg11⟩
          have Hp11 := hidden (Hp10.out.grown hg11)
          have Hw11 := hidden (Hw10.out.but hg11 (by simp))
          have HH11 := hidden hh11
          clear hh11 hg11 Hp10 Hw10
          go_wp2_with fail
          refine (same_any _ _ s.l _ Hi.out.bytes (by have := Hi.out.len; omega) (row_block HH11.out) (row_block Hw11.out.1)).mono ?_
          rintro q w12 ⟨rfl, hb12⟩
          have Hp12 := hidden (Hp11.out.grown (grown_of_below hb12))
          clear hb12 Hp11 HH11 Hw11
          go_wp2_with fail
          refine (hs_cancel Hp12.out.hs Hinv.out (by simp; omega) rfl).mono ?_
          rintro q w13 ⟨vo3, rfl, hrow3, hst3⟩
          obtain ⟨X13, hp13, _, _⟩ := Hp12.out.p hst3
          have Hb := hidden (HB1.out.trans (hp13.bl.mono HB1.out.size))
          obtain ⟨oa3, oc3, rfl⟩ := row_slice hrow3
          clear hrow3 hst3 hp13 Hp12
          go_wp2
          go_ret
          exact ⟨rfl, Hb.out⟩

set_option maxRecDepth 100000 in
theorem lifted (os : Os) (started : os.Started) (H : Type) (enc : TypeId × Value → H) :
    ReturnsInHanded {} Try.checked os 9 .any (Rows.pastCancelsSpec.pre6 enc Try.prog Try.f9 Rows.pastCancelsRow.domain false) (Rows.pastCancelsSpec.post enc Try.prog Try.f9 false true false false) := by
  refine returnsInHanded_of_change (C := Try.checked) own started (by kernel_rfl) Try.func9
    (ChangeSpec.witness6 (enc := enc) (C := Try.checked) false ⟨#[], #[.slice none 0 0, .slice none 0 0, .slice none 0 0], []⟩ 8 (by kernel_rfl) (by kernel_rfl) (by kernel_rfl) (by kernel_rfl)) ?_
  intro W base args ds gs before hval0 hW _ _
  have hval : ∀ (j : Nat) t v, Try.f9.params[j]? = some t → args[j]? = some v → Value.okWide Try.prog W .any base t v := hval0
  have hW' := hW
  obtain ⟨p, q, hA0, hV, rfl, _, _⟩ := hW
  have hA : DataW.TrodAll enc Try.prog W 0 (fun _ => true) true Try.f9.params.toList args.toList ds p := hA0
  rw [Try.params9] at hA hval
  obtain ⟨v0, vs0, d0, ds0, p0, q0, hargs, rfl, rfl, h0, r0⟩ := trodAll_cons hA
  obtain ⟨v1, vs1, d1, ds1, p1, q1, rfl, rfl, rfl, h1, r1⟩ := trodAll_cons r0
  obtain ⟨v2, vs2, d2, ds2, p2, q2, rfl, rfl, rfl, h2, r2⟩ := trodAll_cons r1
  obtain ⟨rfl, rfl, rfl⟩ := trodAll_nil r2
  obtain rfl : args = #[v0, v1, v2] := by cases args; simp_all
  obtain ⟨rfl, rfl⟩ := trodVars_none hV
  have lt0 : ∀ x ∈ p0, x.block < W.heap.size := by obtain ⟨m, hm⟩ := h0; exact DataW.trod_lt m _ _ _ hm
  obtain ⟨n0, f0, g0⟩ := open_src (hval 0 22 v0 rfl rfl) h0
  have lt1 : ∀ x ∈ p1, x.block < W.heap.size := by obtain ⟨m, hm⟩ := h1; exact DataW.trod_lt m _ _ _ hm
  obtain ⟨f1, g1⟩ := open_acts (hval 1 42 v1 rfl rfl) h1
  have lt2 : ∀ x ∈ p2, x.block < W.heap.size := by obtain ⟨m, hm⟩ := h2; exact DataW.trod_lt m _ _ _ hm
  obtain ⟨f2, g2⟩ := open_acts (hval 2 42 v2 rfl rfl) h2
  clear hA0 hval0
  simp only [List.append_nil] at hW'
  refine (law v0 n0 f0 v1 f1 v2 f2 W g0 g1 g2).mono fun e W' ⟨he, bel⟩ => ?_
  subst he
  exact ⟨_, rfl, _, _, _, [], _, [], hW', trodAll_mk1 (shut_bool Try.underlying4 _), (trodAll_cons_mk (Below.trod laidOut (by kernel_rfl) (of_decide_eq_true (by kernel_rfl)) h0 bel lt0) (trodAll_cons_mk (Below.trod laidOut (by kernel_rfl) (of_decide_eq_true (by kernel_rfl)) h1 bel lt1) (trodAll_cons_mk (Below.trod laidOut (by kernel_rfl) (of_decide_eq_true (by kernel_rfl)) h2 bel lt2) trodAll_mk0))), rfl, bel.frame _, fun h => by cases h⟩

theorem said : Rows.PastCancelsSaid :=
  OpenClaim.holds_of_wide 9 Try.f9 rfl rfl rfl rfl rfl rfl rfl ⟨rfl, rfl, rfl, rfl, rfl⟩ rfl rfl rfl rfl rfl (by kernel_rfl) Try.func9 (by kernel_rfl)
    (of_decide_eq_true (by kernel_rfl)) (by unfold Func.isWrapper; first | (rw [if_pos (by decide +kernel)]; kernel_rfl) | (rw [if_neg (by decide +kernel)]; exact ⟨rfl, rfl⟩))
    (fun os started H enc _ => lifted os started H enc)
#print axioms said
end Go.Proofs.Ytibdhahkkejnjaa.PastCancels
