/- PieceTexts is true of any text and any acts: behind each act both tables have the same length, as many pieces and the same bytes. -/
import Derived.Test.YtibdhahkkejnjaaPdD
namespace Go.Proofs.Ytibdhahkkejnjaa.PieceTexts
open Go.ChangeShapes Go.WideShapes Go.ChangeAt Go.RowKit Go.Proofs.PlatenPiece
set_option linter.unusedVariables false
set_option maxRecDepth 100000

set_option maxHeartbeats 8000000 in
theorem law (pv : Value) (n : Nat) (l0 : List Nat) (v : Value) (xs : List AP) (w : World) (hs : IsSrc w pv n l0) (hv : IsActsP w v xs) :
    Calls Try.prog 3 #[pv, v] w fun e w' => e = .returned (.bool true) ∧ Below w.heap.size w w' := by
  obtain ⟨hlt, hln, hn63, hsrc⟩ := hs
  obtain ⟨pa, pc, rfl⟩ : ∃ pa pc, pv = .slice pa n pc := by
    rcases hsrc with ⟨rfl, rfl⟩ | ⟨ad, cap, rfl, _⟩
    · exact ⟨_, _, by rw [← hln]; rfl⟩
    · exact ⟨_, _, by rw [hln]⟩
  obtain ⟨m, hm⟩ : ∃ m, xs.length = m := ⟨_, rfl⟩
  obtain ⟨va, cap, rfl⟩ : ∃ va cap, v = .slice va m cap := by
    obtain ⟨_, va, cap, rfl, _⟩ := hv
    exact ⟨va, cap, by rw [hm]⟩
  have HSrc := hidden hsrc
  have HA := hidden hv
  have Hlt := hidden hlt
  have Hln := hidden hln
  have Hm := hidden hm
  clear hsrc hv hlt hln hm
  go_enter Try.func3, Try.ntmps3
  go_wp2_with fail
  refine (comes_any w).mono ?_
  rintro q w1 ⟨rfl, hb1⟩
  have HB1 := hidden hb1
  clear hb1
  go_wp2_with fail
  refine (fewP_any pa n pc _ xs w1 (HA.out.below HB1.out)).mono ?_
  rintro q w2 ⟨⟨r, rfl, hr⟩, rfl⟩
  have Hr := hidden hr
  clear hr
  cases r with
  | false =>
    go_wp2_with fail
    refine (comes_any w2).mono ?_
    rintro q w3 ⟨rfl, hb3⟩
    have HB3 := hidden (HB1.out.trans (hb3.mono HB1.out.size))
    clear hb3
    go_wp2
    go_ret
    exact ⟨rfl, HB3.out⟩
  | true =>
    obtain ⟨hn60, hm24, hall⟩ := Hr.out (by trivial)
    have Hall := hidden hall
    have hm24' : m ≤ 24 := by rw [← Hm.out]; exact hm24
    have Hl : Hid (l0.length ≤ 100) := by unfold Hid; rw [Hln.out]; exact hn60
    clear hall Hr hm24
    go_wp2_with fail
    refine (Own.new_any _ l0 w2 (HSrc.out.below HB1.out) (by have := Hl.out; omega)).mono ?_
    rintro q w3 ⟨T, tpv, ps, rfl, hT, hf, hp, hk, hg1⟩
    have HX := hidden (Two.ty_begin hT hf hp hk (by have := Hl.out; omega) hg1.size)
    have HG1 := hidden hg1
    clear hT hf hp hk hg1
    go_wp2_with fail
    have HS3 : Hid (PlatenPiece.Src w3 (.slice pa n pc) l0) := (HSrc.out.below HB1.out).below (below_of_grown HG1.out)
    refine (rnew _ l0 w3 HS3.out (by have := Hl.out; omega)).mono ?_
    rintro q w4 ⟨rfl, ⟨lv, hR⟩, hb4⟩
    have HTR := hidden (Two.tr_begin HX.out HG1.out hR hb4)
    clear hR hb4 HX HS3
    have Hnl : Hid ((newC l0).length ≤ 1000000) := by unfold Hid; rw [newC_len]; have := Hl.out; omega
    go_wp2_with fail
    refine (Two.ty_pieces HTR.out.tx).mono ?_
    rintro q w5 ⟨rfl, rfl⟩
    go_wp2_with fail
    refine (Two.rpieces _ _ _ _ _ _ HTR.out.rt Hnl.out).mono ?_
    rintro q w6 ⟨rfl, rfl⟩
    go_wp2_with fail
    go_loopw [8] (fun i wr => ∃ (k : Nat) (l : List Nat) (O : Nat → Prop) (lv : Value) (cs : List Rc) (N : Int), k ≤ m ∧ i = .int .i64 (k : Nat) ∧ Two.TR w2.heap.size w2 wr T w3.heap.size l k O lv cs N cs N ∧ cs.map (·.c) = l ∧ (∀ x ∈ l, x < 256) ∧ l.length ≤ 100 + 100 * k ∧ 0 ≤ N ∧ N ≤ 100 * (k : Int)) (fun i _ => m - (intOf i).toNat)
    case atStart => exact ⟨0, l0, _, lv, newC l0, 0, Nat.zero_le _, rfl, HTR.out, newC_c l0, Hlt.out, by have := Hl.out; omega, by omega, by omega⟩
    case round =>
      obtain ⟨k, l, O, lv2, cs, N, hk, rfl, ht, he, hb, hll, hN0, hN1⟩ := hrel
      by_cases hlt : k < m
      · obtain ⟨a, pb, po, ps, ad, ha, hmem, hok, rfl, hP, a0, a1, a2, a3⟩ := actsP_at (HA.out.below HB1.out) (Below.refl _ _) hlt Hm.out
        have hkz : (k : Int) < (m : Int) := by omega
        obtain ⟨qa, qc, hq⟩ := src_slice hok.2.2.2.2
        obtain ⟨pl, hpl⟩ : ∃ pl, a.p.length = pl := ⟨_, rfl⟩
        rw [hpl] at hq
        rw [hq] at a3
        have HS : Hid (∀ u, Below w2.heap.size w2 u → (fun u : World => u.cell? ⟨pb, po, ps⟩ = some (.int .u8 (a.d : Nat)) ∧ u.cell? ⟨pb, po + 1, none⟩ = some (.int .i64 a.at') ∧ u.cell? ⟨pb, po + 2, none⟩ = some (.int .i64 a.n) ∧ u.cell? ⟨pb, po + 3, none⟩ = some (.slice qa pl qc)) u) := fun u hu => by
          have hlb := World.block_lt_of_cell? _ _ a0
          exact ⟨by rw [hu.cell (p := ⟨pb, po, ps⟩) hlb]; exact a0, by rw [hu.cell (p := ⟨pb, po + 1, none⟩) hlb]; exact a1, by rw [hu.cell (p := ⟨pb, po + 2, none⟩) hlb]; exact a2, by rw [hu.cell (p := ⟨pb, po + 3, none⟩) hlb]; exact a3⟩
        have C5 := hidden (Two.doesP (ht.grown (grown_drew' wr)) he hb (by omega) (by omega) ⟨hN0, by omega⟩ a hok (Hall.out a hmem))
        rw [hq] at C5
        have Hbl := hidden (ht.grown (grown_drew' wr)).bl
        clear ht he hb ha hmem hok hq hpl a0 a1 a2 a3
        go_wp2_with fail
        refine wp_region_held_drew (S := (fun u : World => u.cell? ⟨pb, po, ps⟩ = some (.int .u8 (a.d : Nat)) ∧ u.cell? ⟨pb, po + 1, none⟩ = some (.int .i64 a.at') ∧ u.cell? ⟨pb, po + 2, none⟩ = some (.int .i64 a.n) ∧ u.cell? ⟨pb, po + 3, none⟩ = some (.slice qa pl qc))) (by kernel_rfl) (HS.out _ Hbl.out) (fun hHeld => ?_)
        generalize wr.drew = W at *
        refine take_dst 0 (some 40) rfl rfl (by kernel_rfl) (by kernel_rfl) (by kernel_rfl) (fun _ _ _ h => h) (v := ?_) (Or.inl ⟨by rfl, ?_⟩) (by assumption) ?_
        rotate_left
        · (intro w hSw; (try dsimp only at hSw); go_simp; try with_reducible rfl)
        simp only [Act.put, List.setIfInBounds_toArray, List.set_cons_zero, List.set_cons_succ]
        refine take_dst 1 (some 41) rfl rfl (by kernel_rfl) (by kernel_rfl) (by kernel_rfl) (fun _ _ _ h => h) (v := ?_) (Or.inl ⟨by rfl, ?_⟩) (by assumption) ?_
        rotate_left
        · (intro w hSw; (try dsimp only at hSw); go_simp; try with_reducible rfl)
        simp only [Act.put, List.setIfInBounds_toArray, List.set_cons_zero, List.set_cons_succ]
        refine take_dst 2 (some 42) rfl rfl (by kernel_rfl) (by kernel_rfl) (by kernel_rfl) (fun _ _ _ h => h) (v := ?_) (Or.inl ⟨by rfl, ?_⟩) (by assumption) ?_
        rotate_left
        · (intro w hSw; (try dsimp only at hSw); go_simp; try with_reducible rfl)
        simp only [Act.put, List.setIfInBounds_toArray, List.set_cons_zero, List.set_cons_succ]
        refine take_dst 3 (some 43) rfl rfl (by kernel_rfl) (by kernel_rfl) (by kernel_rfl) (fun _ _ _ h => h) (v := ?_) (Or.inl ⟨by rfl, ?_⟩) (by assumption) ?_
        rotate_left
        · (intro w hSw; (try dsimp only at hSw); go_simp; try with_reducible rfl)
        simp only [Act.put, List.setIfInBounds_toArray, List.set_cons_zero, List.set_cons_succ]
        refine take_dst 4 (some 44) rfl rfl (by kernel_rfl) (by kernel_rfl) (by kernel_rfl) (fun _ _ _ h => h) (v := ?_) (Or.inl ⟨by rfl, ?_⟩) (by assumption) ?_
        rotate_left
        · (intro w hSw; (try dsimp only at hSw); go_simp; try with_reducible rfl)
        simp only [Act.put, List.setIfInBounds_toArray, List.set_cons_zero, List.set_cons_succ]
        refine take_dst 5 (some 45) rfl rfl (by kernel_rfl) (by kernel_rfl) (by kernel_rfl) (fun _ _ _ h => h) (v := ?_) (Or.inl ⟨by rfl, ?_⟩) (by assumption) ?_
        rotate_left
        · (intro w hSw; (try dsimp only at hSw); go_simp; try with_reducible rfl)
        simp only [Act.put, List.setIfInBounds_toArray, List.set_cons_zero, List.set_cons_succ]
        refine wpAnyH_ready (rs := [6]) (by kernel_rfl) (by simp) ?_
        refine AllReadyH.cons rfl (fun K hK => ?_) AllReadyH.nil
        go_simp
        refine C5.out.mono ?_
        rintro q w6 ⟨l', O', lv', cs', N', rfl, ht', he', hb', hl', hn0, hn1⟩
        have hcl : cs'.length = l'.length := by rw [← he', List.length_map]
        obtain ⟨ra, rc, hrf, _, _⟩ := ht'.rt.form
        have HT' := hidden ht'
        have HE' := hidden he'
        have HB' := hidden hb'
        obtain ⟨S, hS⟩ : ∃ S, l'.length = S := ⟨_, rfl⟩
        rw [hcl, hS] at hrf
        have HM : Hid (∀ u, w6.grownBy u none → u.cell? ⟨w3.heap.size, 0, none⟩ = some (.slice ra S rc)) := fun u hu => by
          have := (HT'.out.grown hu).rt.c0
          rw [hrf] at this
          exact this
        have Hlen : Hid (l'.length = S) := hS
        have Hcl : Hid (cs'.length ≤ 1000000) := by unfold Hid; omega
        refine hK.out _ _ (HS.out _ ht'.bl) (fun hHeld1 => ?_)
        clear hK K hHeld ht' he' hb' C5 hcl hrf
        refine Two.held_weak (S2 := fun u : World => (u.cell? ⟨pb, po, ps⟩ = some (.int .u8 (a.d : Nat)) ∧ u.cell? ⟨pb, po + 1, none⟩ = some (.int .i64 a.at') ∧ u.cell? ⟨pb, po + 2, none⟩ = some (.int .i64 a.n) ∧ u.cell? ⟨pb, po + 3, none⟩ = some (.slice qa pl qc)) ∧ u.cell? ⟨w3.heap.size, 0, none⟩ = some (.slice ra S rc)) (fun _ h => h.1) _ _ _ _ ?_
        have HSS : Hid (∀ u, w6.grownBy u none → (fun u : World => (u.cell? ⟨pb, po, ps⟩ = some (.int .u8 (a.d : Nat)) ∧ u.cell? ⟨pb, po + 1, none⟩ = some (.int .i64 a.at') ∧ u.cell? ⟨pb, po + 2, none⟩ = some (.int .i64 a.n) ∧ u.cell? ⟨pb, po + 3, none⟩ = some (.slice qa pl qc)) ∧ u.cell? ⟨w3.heap.size, 0, none⟩ = some (.slice ra S rc)) u) := fun u hu => ⟨HS.out u (HT'.out.grown hu).bl, HM.out u hu⟩
        have hHeld2 := HSS.out _ (grownBy_refl _ _)
        clear hHeld1 hS
        refine take_dst 7 (some 47) rfl rfl (by kernel_rfl) (by kernel_rfl) (by kernel_rfl) (fun _ _ _ h => h) (v := ?_) (Or.inl ⟨by rfl, ?_⟩) (by assumption) ?_
        rotate_left
        · (intro w hSw; (try dsimp only at hSw); go_simp; try with_reducible rfl)
        simp only [Act.put, List.setIfInBounds_toArray, List.set_cons_zero, List.set_cons_succ]
        refine take_dst 8 (some 48) rfl rfl (by kernel_rfl) (by kernel_rfl) (by kernel_rfl) (fun _ _ _ h => h) (v := ?_) (Or.inl ⟨by rfl, ?_⟩) (by assumption) ?_
        rotate_left
        · (intro w hSw; (try dsimp only at hSw); go_simp; try with_reducible rfl)
        simp only [Act.put, List.setIfInBounds_toArray, List.set_cons_zero, List.set_cons_succ]
        refine take_dst 9 (some 49) rfl rfl (by kernel_rfl) (by kernel_rfl) (by kernel_rfl) (fun _ _ _ h => h) (v := ?_) (Or.inl ⟨by rfl, ?_⟩) (by assumption) ?_
        rotate_left
        · (intro w hSw; (try dsimp only at hSw); go_simp; try with_reducible rfl)
        simp only [Act.put, List.setIfInBounds_toArray, List.set_cons_zero, List.set_cons_succ]
        refine take_dst 11 (some 51) rfl rfl (by kernel_rfl) (by kernel_rfl) (by kernel_rfl) (fun _ _ _ h => h) (v := ?_) (Or.inl ⟨by rfl, ?_⟩) (by assumption) ?_
        rotate_left
        · (intro w hSw; (try dsimp only at hSw); go_simp; try with_reducible rfl)
        simp only [Act.put, List.setIfInBounds_toArray, List.set_cons_zero, List.set_cons_succ]
        refine take_dst 12 (some 52) rfl rfl (by kernel_rfl) (by kernel_rfl) (by kernel_rfl) (fun _ _ _ h => h) (v := ?_) (Or.inl ⟨by rfl, ?_⟩) (by assumption) ?_
        rotate_left
        · (intro w hSw; (try dsimp only at hSw); go_simp; try with_reducible rfl)
        simp only [Act.put, List.setIfInBounds_toArray, List.set_cons_zero, List.set_cons_succ]
        refine take_dst 13 (some 53) rfl rfl (by kernel_rfl) (by kernel_rfl) (by kernel_rfl) (fun _ _ _ h => h) (v := ?_) (Or.inl ⟨by rfl, ?_⟩) (by assumption) ?_
        rotate_left
        · (intro w hSw; (try dsimp only at hSw); go_simp; try with_reducible rfl)
        simp only [Act.put, List.setIfInBounds_toArray, List.set_cons_zero, List.set_cons_succ]
        refine take_dst 14 (some 54) rfl rfl (by kernel_rfl) (by kernel_rfl) (by kernel_rfl) (fun _ _ _ h => h) (v := ?_) (Or.inl ⟨by rfl, ?_⟩) (by assumption) ?_
        rotate_left
        · (intro w hSw; (try dsimp only at hSw); go_simp; try with_reducible rfl)
        simp only [Act.put, List.setIfInBounds_toArray, List.set_cons_zero, List.set_cons_succ]
        refine take_dst 15 (some 55) rfl rfl (by kernel_rfl) (by kernel_rfl) (by kernel_rfl) (fun _ _ _ h => h) (v := ?_) (Or.inl ⟨by rfl, ?_⟩) (by assumption) ?_
        rotate_left
        · (intro w hSw; (try dsimp only at hSw); go_simp; try with_reducible rfl)
        simp only [Act.put, List.setIfInBounds_toArray, List.set_cons_zero, List.set_cons_succ]
        refine wpAnyH_ready (rs := [10]) (by kernel_rfl) (by simp) ?_
        refine AllReadyH.cons rfl (fun K hK => ?_) AllReadyH.nil
        go_simp
        refine (tx_len HT'.out.tx.x).mono ?_
        rintro q v1 ⟨rfl, rfl⟩
        refine hK.out _ _ (HSS.out _ (grownBy_refl _ _)) (fun hHeld3 => ?_)
        clear hK K hHeld2
        rw [Hlen.out]
        refine take_dst 16 (some 56) rfl rfl (by kernel_rfl) (by kernel_rfl) (by kernel_rfl) (fun _ _ _ h => h) (v := ?_) (Or.inl ⟨by rfl, ?_⟩) (by assumption) ?_
        rotate_left
        · (intro w hSw; (try dsimp only at hSw); go_simp; try with_reducible rfl)
        simp only [Act.put, List.setIfInBounds_toArray, List.set_cons_zero, List.set_cons_succ]
        refine take_dst 17 (some 57) rfl rfl (by kernel_rfl) (by kernel_rfl) (by kernel_rfl) (fun _ _ _ h => h) (v := ?_) (Or.inl ⟨by rfl, ?_⟩) (by assumption) ?_
        rotate_left
        · (intro w hSw; (try dsimp only at hSw); go_simp; try with_reducible rfl)
        simp only [Act.put, List.setIfInBounds_toArray, List.set_cons_zero, List.set_cons_succ]
        refine take_dst 18 (some 58) rfl rfl (by kernel_rfl) (by kernel_rfl) (by kernel_rfl) (fun _ _ _ h => h) (v := ?_) (Or.inl ⟨by rfl, ?_⟩) (by assumption) ?_
        rotate_left
        · (intro w hSw; (try dsimp only at hSw); go_simp; try with_reducible rfl)
        simp only [Act.put, List.setIfInBounds_toArray, List.set_cons_zero, List.set_cons_succ]
        refine take_dst 19 (some 59) rfl rfl (by kernel_rfl) (by kernel_rfl) (by kernel_rfl) (fun _ _ _ h => h) (v := ?_) (Or.inl ⟨by rfl, ?_⟩) (by assumption) ?_
        rotate_left
        · (intro w hSw; (try dsimp only at hSw); go_simp; try with_reducible rfl)
        simp only [Act.put, List.setIfInBounds_toArray, List.set_cons_zero, List.set_cons_succ]
        refine take_dst 21 (some 61) rfl rfl (by kernel_rfl) (by kernel_rfl) (by kernel_rfl) (fun _ _ _ h => h) (v := ?_) (Or.inl ⟨by rfl, ?_⟩) (by assumption) ?_
        rotate_left
        · (intro w hSw; (try dsimp only at hSw); go_simp; try with_reducible rfl)
        simp only [Act.put, List.setIfInBounds_toArray, List.set_cons_zero, List.set_cons_succ]
        refine wpAnyH_ready (rs := [20]) (by kernel_rfl) (by simp) ?_
        refine AllReadyH.cons rfl (fun K hK => ?_) AllReadyH.nil
        go_simp
        refine (Two.ty_pieces HT'.out.tx).mono ?_
        rintro q v2 ⟨rfl, rfl⟩
        refine hK.out _ _ (HSS.out _ (grownBy_refl _ _)) (fun hHeld4 => ?_)
        clear hK K hHeld3
        refine wpAnyH_ready (rs := [22]) (by kernel_rfl) (by simp) ?_
        refine AllReadyH.cons rfl (fun K hK => ?_) AllReadyH.nil
        go_simp
        refine (Two.rpieces _ _ _ _ _ _ HT'.out.rt Hcl.out).mono ?_
        rintro q v3 ⟨rfl, rfl⟩
        refine hK.out _ _ (HSS.out _ (grownBy_refl _ _)) (fun hHeld5 => ?_)
        clear hK K hHeld4
        refine take_dst 23 (some 63) rfl rfl (by kernel_rfl) (by kernel_rfl) (by kernel_rfl) (fun _ _ _ h => h) (v := ?_) (Or.inl ⟨by rfl, ?_⟩) (by assumption) ?_
        rotate_left
        · (intro w hSw; (try dsimp only at hSw); go_simp; try with_reducible rfl)
        simp only [Act.put, List.setIfInBounds_toArray, List.set_cons_zero, List.set_cons_succ]
        refine take_dst 24 (some 64) rfl rfl (by kernel_rfl) (by kernel_rfl) (by kernel_rfl) (fun _ _ _ h => h) (v := ?_) (Or.inl ⟨by rfl, ?_⟩) (by assumption) ?_
        rotate_left
        · (intro w hSw; (try dsimp only at hSw); go_simp; try with_reducible rfl)
        simp only [Act.put, List.setIfInBounds_toArray, List.set_cons_zero, List.set_cons_succ]
        refine take_dst 25 (some 65) rfl rfl (by kernel_rfl) (by kernel_rfl) (by kernel_rfl) (fun _ _ _ h => h) (v := ?_) (Or.inl ⟨by rfl, ?_⟩) (by assumption) ?_
        rotate_left
        · (intro w hSw; (try dsimp only at hSw); go_simp; try with_reducible rfl)
        simp only [Act.put, List.setIfInBounds_toArray, List.set_cons_zero, List.set_cons_succ]
        refine take_dst 26 (some 66) rfl rfl (by kernel_rfl) (by kernel_rfl) (by kernel_rfl) (fun _ _ _ h => h) (v := ?_) (Or.inl ⟨by rfl, ?_⟩) (by assumption) ?_
        rotate_left
        · (intro w hSw; (try dsimp only at hSw); go_simp; try with_reducible rfl)
        simp only [Act.put, List.setIfInBounds_toArray, List.set_cons_zero, List.set_cons_succ]
        refine take_dst 28 (some 68) rfl rfl (by kernel_rfl) (by kernel_rfl) (by kernel_rfl) (fun _ _ _ h => h) (v := ?_) (Or.inl ⟨by rfl, ?_⟩) (by assumption) ?_
        rotate_left
        · (intro w hSw; (try dsimp only at hSw); go_simp; try with_reducible rfl)
        simp only [Act.put, List.setIfInBounds_toArray, List.set_cons_zero, List.set_cons_succ]
        refine wpAnyH_ready (rs := [27]) (by kernel_rfl) (by simp) ?_
        refine AllReadyH.cons rfl (fun K hK => ?_) AllReadyH.nil
        go_simp
        refine (tx_bytes HT'.out.tx.x (by omega)).mono ?_
        rintro q v4 ⟨rfl, hh4, hg4⟩
        have HG4 := hidden hg4
        have HH4 := hidden hh4
        refine hK.out _ _ (HSS.out _ hg4) (fun hHeld6 => ?_)
        clear hK K hHeld5 hh4 hg4
        refine wpAnyH_ready (rs := [29]) (by kernel_rfl) (by simp) ?_
        refine AllReadyH.cons rfl (fun K hK => ?_) AllReadyH.nil
        go_simp
        refine (Two.rbytes _ _ _ _ _ _ (HT'.out.grown HG4.out).rt Hcl.out).mono ?_
        rintro q v5 ⟨x, rfl, hL5⟩
        rw [HE'.out] at hL5
        have HL5 := hidden hL5
        have HG5 := hidden (grown_trans HG4.out (grown_of_below hL5.2))
        refine hK.out _ _ (HSS.out _ HG5.out) (fun hHeld7 => ?_)
        clear hK K hHeld6 hL5
        refine wpAnyH_ready (rs := [30]) (by kernel_rfl) (by simp) ?_
        refine AllReadyH.cons rfl (fun K hK => ?_) AllReadyH.nil
        go_simp
        have Hrow := hidden (row_block (c := l'.length) ((grown_of_below HL5.out.2).block _ (Array.getElem?_eq_some_iff.1 HH4.out).1 (by simp) |>.trans HH4.out))
        refine (same_any _ _ l' v5 HB'.out (by have := Hlen.out; omega) Hrow.out HL5.out.row).mono ?_
        rintro q v6 ⟨rfl, hb6⟩
        have HG6 := hidden (grown_trans HG5.out (grown_of_below hb6))
        refine hK.out _ _ (HSS.out _ HG6.out) (fun hHeld8 => ?_)
        clear hK K hHeld7 hb6
        refine take_dst 31 (some 71) rfl rfl (by kernel_rfl) (by kernel_rfl) (by kernel_rfl) (fun _ _ _ h => h) (v := ?_) (Or.inl ⟨by rfl, ?_⟩) (by assumption) ?_
        rotate_left
        · (intro w hSw; (try dsimp only at hSw); go_simp; try with_reducible rfl)
        simp only [Act.put, List.setIfInBounds_toArray, List.set_cons_zero, List.set_cons_succ]
        refine take_dst 32 (some 72) rfl rfl (by kernel_rfl) (by kernel_rfl) (by kernel_rfl) (fun _ _ _ h => h) (v := ?_) (Or.inl ⟨by rfl, ?_⟩) (by assumption) ?_
        rotate_left
        · (intro w hSw; (try dsimp only at hSw); go_simp; try with_reducible rfl)
        simp only [Act.put, List.setIfInBounds_toArray, List.set_cons_zero, List.set_cons_succ]
        refine wpAnyH_done (by kernel_rfl) ?_ _
        have HT6 := hidden (HT'.out.grown HG6.out)
        clear hHeld8 HSS HM HS HG6 HG5 HG4 HL5 Hrow HH4 HT'
        go_wp2
        go_roundw
        case rel => exact ⟨k + 1, l', O', lv', cs', N', by omega, by go_num, HT6.out, HE'.out, HB'.out, by omega, hn0, by push_cast; omega⟩
        case measure => simp [intOf]; omega
      · have hkz : ¬ ((k : Int) < (m : Int)) := by omega
        have Hb3 := hidden (HB1.out.trans (ht.bl.mono HB1.out.size))
        clear ht he hb
        go_wp2
        go_ret
        exact ⟨rfl, Hb3.out⟩

set_option maxRecDepth 100000 in
theorem lifted (os : Os) (started : os.Started) (H : Type) (enc : TypeId × Value → H) :
    ReturnsInHanded {} Try.checked os 3 .any (Rows.pieceTextsSpec.pre6 enc Try.prog Try.f3 Rows.pieceTextsRow.domain false) (Rows.pieceTextsSpec.post enc Try.prog Try.f3 false true false false) := by
  refine returnsInHanded_of_change (C := Try.checked) own started (by kernel_rfl) Try.func3
    (ChangeSpec.witness6 (enc := enc) (C := Try.checked) false ⟨#[], #[.slice none 0 0, .slice none 0 0], []⟩ 8 (by kernel_rfl) (by kernel_rfl) (by kernel_rfl) (by kernel_rfl)) ?_
  intro W base args ds gs before hval0 hW _ _
  have hval : ∀ (j : Nat) t v, Try.f3.params[j]? = some t → args[j]? = some v → Value.okWide Try.prog W .any base t v := hval0
  have hW' := hW
  obtain ⟨p, q, hA0, hV, rfl, _, _⟩ := hW
  have hA : DataW.TrodAll enc Try.prog W 0 (fun _ => true) true Try.f3.params.toList args.toList ds p := hA0
  rw [Try.params3] at hA hval
  obtain ⟨v0, vs0, d0, ds0, p0, q0, hargs, rfl, rfl, h0, r0⟩ := trodAll_cons hA
  obtain ⟨v1, vs1, d1, ds1, p1, q1, rfl, rfl, rfl, h1, r1⟩ := trodAll_cons r0
  obtain ⟨rfl, rfl, rfl⟩ := trodAll_nil r1
  obtain rfl : args = #[v0, v1] := by cases args; simp_all
  obtain ⟨rfl, rfl⟩ := trodVars_none hV
  have lt0 : ∀ x ∈ p0, x.block < W.heap.size := by obtain ⟨m, hm⟩ := h0; exact DataW.trod_lt m _ _ _ hm
  obtain ⟨n0, f0, g0⟩ := open_src (hval 0 22 v0 rfl rfl) h0
  have lt1 : ∀ x ∈ p1, x.block < W.heap.size := by obtain ⟨m, hm⟩ := h1; exact DataW.trod_lt m _ _ _ hm
  obtain ⟨f1, g1⟩ := open_actsP (hval 1 23 v1 rfl rfl) h1
  clear hA0 hval0
  simp only [List.append_nil] at hW'
  refine (law v0 n0 f0 v1 f1 W g0 g1).mono fun e W' ⟨he, bel⟩ => ?_
  subst he
  exact ⟨_, rfl, _, _, _, [], _, [], hW', trodAll_mk1 (shut_bool Try.underlying4 _), (trodAll_cons_mk (Below.trod laidOut (by kernel_rfl) (of_decide_eq_true (by kernel_rfl)) h0 bel lt0) (trodAll_cons_mk (Below.trod laidOut (by kernel_rfl) (of_decide_eq_true (by kernel_rfl)) h1 bel lt1) trodAll_mk0)), rfl, bel.frame _, fun h => by cases h⟩

theorem said : Rows.PieceTextsSaid :=
  OpenClaim.holds_of_wide 3 Try.f3 rfl rfl rfl rfl rfl rfl rfl ⟨rfl, rfl, rfl, rfl, rfl⟩ rfl rfl rfl rfl rfl (by kernel_rfl) Try.func3 (by kernel_rfl)
    (of_decide_eq_true (by kernel_rfl)) (by unfold Func.isWrapper; first | (rw [if_pos (by decide +kernel)]; kernel_rfl) | (rw [if_neg (by decide +kernel)]; exact ⟨rfl, rfl⟩))
    (fun os started H enc _ => lifted os started H enc)
#print axioms said
end Go.Proofs.Ytibdhahkkejnjaa.PieceTexts
