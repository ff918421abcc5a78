/- What the document's Insert comes to at the beginning; of whatever table and whatever bytes. -/
import Derived.Test.YtibdhahkkejnjaaRefF
namespace Go.Proofs.PlatenPiece
open Go Go.RowKit
set_option linter.unusedVariables false
set_option maxRecDepth 100000

set_option maxHeartbeats 4000000 in
theorem rinz_lt (B M g vc : Nat) (cs : List Rc) (N : Int) (ad : Addr) (cap n : Nat) (l : List Nat) (w : World) (s : Nat) (h : RTab B w M (.slice (some ⟨g, 0, none⟩) s vc) cs N) (hs : cs.length = s) (hs2 : s + n ≤ 65536) (hs0 : 0 < s) (hvc : s ≤ vc) (hB : B ≤ w.heap.size) (hvm : vc ≤ 9223372036854775807)
    (hl : l.length = n) (hn : 0 < n) (hN : 0 ≤ N ∧ N ≤ 1000000000) (hc : ∀ j u, (bytesV l)[j]? = some u → w.cell? (ad.add j) = some u) (hout : ¬ ROwn M (.slice (some ⟨g, 0, none⟩) s vc) ad.block) :
    Calls Try.prog 45 #[.pointer (some ⟨M, 0, none⟩), .int .i64 0, .slice (some ad) n cap] w fun e w' => e = .returned (.int .i64 0) ∧ ∃ lv', RTab B w' M lv' (comeC l N false ++ setF cs 0) (N + (n : Int)) ∧ Kept (ROwn M (.slice (some ⟨g, 0, none⟩) s vc)) w w' ∧ (∀ k, lv'.ownBlock = some k → w.heap.size ≤ k) := by
  obtain ⟨i0, hi, hz0, hz1, hz2⟩ := info_parts info59
  have HG : Hid (∀ k, k < n → ∃ x : Nat, l[k]? = some x ∧ ∀ wr, Kept (ROwn M (.slice (some ⟨g, 0, none⟩) s vc)) w wr → wr.cell? (ad.add k) = some (.int .u8 x)) := fun k hk => by
    have hk' : k < l.length := by omega
    refine ⟨l[k], List.getElem?_eq_getElem hk', fun wr hb => ?_⟩
    have h2 := hc k _ (show (bytesV l)[k]? = some (.int .u8 (l[k] : Nat)) by simp [bytesV, List.getElem?_eq_getElem hk'])
    have hbk : (ad.add k).block = ad.block := by unfold Addr.add; split <;> rfl
    have h3 := hb.block (ad.add k).block (World.block_lt_of_cell? _ _ h2) (by rw [hbk]; exact hout)
    rw [← h2]
    simp only [World.cell?, h3]
  have c0 := h.c0
  have c1 := h.c1
  have HT := hidden h
  have Hs := hidden hs
  have Hl := hidden hl
  have h3 : ¬ ((n : Int) = 0) := by omega
  have h1 : ¬ ((s : Int) < 0) := by omega
  have h2 : ¬ (65536 < (s : Int) + (n : Int)) := by omega
  have hw1 : IntKind.i64.wrap ((s : Int) + (n : Int)) = (s : Int) + (n : Int) := IntWalk.i64_in _ (by omega)
  have haz : 0 < (s : Int) := by omega
  obtain ⟨HT1, HK1, x0', x1'⟩ := HT.out.firstAt Hs.out 0 hs0
  have x0 : w.cell? ⟨g, 2, none⟩ = some (.bool (cs[0]?.getD (⟨0, 0, false⟩ : Rc)).f) := x0'
  have x1 : w.frozen? ⟨g, 2, none⟩ = false := x1'
  have HT1 : Hid (RTab B (w.setCell ⟨g, 2, none⟩ (.bool true)) M (.slice (some ⟨g, 0, none⟩) s vc) (setF cs 0) N) := HT1
  have HK1 : Hid (Kept (ROwn M (.slice (some ⟨g, 0, none⟩) s vc)) w (w.setCell ⟨g, 2, none⟩ (.bool true))) := HK1
  clear x0' x1'
  clear h hs hl hc
  have hl1 : (setF cs 0).length = s := by rw [setF_len]; exact Hs.out
  have e0 := HT1.out.c0
  have e1 := HT1.out.c1
  have Hl1 := hidden hl1
  clear hl1
  generalize hcz : setF cs 0 = cz at *
  have hMw := HT.out.lt
  obtain ⟨b, hb⟩ : ∃ b, w.heap.size = b := ⟨_, rfl⟩
  have Hb := hidden hb
  have HLV : Hid (∀ j, Value.ownBlock (.slice (some ⟨g, 0, none⟩) s vc) = some j → j < b) := fun j hj => by rw [← hb]; exact (HT.out.row.lt j hj).2
  rw [hb] at hMw hB
  clear hb hcz
  go_enter Try.func45, Try.ntmps45
  go_wp2_with (at_builtin; fail)
  generalize (w.setCell ⟨g, 2, none⟩ (.bool true)) = W at *
  clear x0 x1 c0 c1
  go_quiet (fail)
  go_wp2_with (at_builtin; refine wpList_append_own _ rfl _ _ 36 rfl b 83 i0 (.agg #[.int .u8 0, .int .i64 0, .bool false]) 3 24 Try.underlying36 hi hz0 hz1 hz2 rfl (by decide) _ _ _ rfl (World.ownsRow_nil _ _ _ _) ⟨g, 0, none⟩ 0 vc [] rfl rfl (by intro j u hj; simp at hj) (by intro u hu; simp at hu) ?d3 ?d4 ?d5 ?_)
  case d3 => unfold maxLen; omega
  case d4 => omega
  case d5 => rw [← Hb.out]; exact HK1.out.size
  intro v1 w1 hr1 hg1 hv1
  have hv1' : v1 = .slice none 0 0 := by simpa using hv1
  subst hv1'
  clear hv1
  have hg1 : W.grownBy w1 none := ⟨hg1.os, hg1.tape, hg1.output, hg1.size, fun k hk hne => hg1.block k hk hne⟩
  have HT2 := hidden (HT1.out.grown hg1)
  have HK2 := hidden (HK1.out.trans (O' := ROwn M (.slice (some ⟨g, 0, none⟩) s vc)) (kept_none hg1) (fun _ _ h => h))
  have HR2 : Hid (w1.ownsRow b 83 3 (.slice none 0 0) 0 (rowC ([] : List Rc))) := hr1
  clear hr1 hg1 e0 e1
  go_wp2_with fail
  go_loopw [8, 9] (fun v j wr => ∃ k : Nat, k ≤ n ∧ j = .int .i64 (k : Nat) ∧ wr.ownsRow b 83 3 v k (rowC (comeC (l.take k) N false)) ∧ RTab B wr M (.slice (some ⟨g, 0, none⟩) s vc) cz (N + (k : Int)) ∧ Kept (ROwn M (.slice (some ⟨g, 0, none⟩) s vc)) w wr) (fun _ j _ => n - (intOf j).toNat)
  case atStart => exact ⟨0, Nat.zero_le _, rfl, by simpa [comeC] using HR2.out, by simpa using HT2.out, HK2.out⟩
  case round =>
    obtain ⟨k, hk, rfl, hr, hT, hK⟩ := hrel
    obtain ⟨va3, vc3, hv3⟩ := own_any_slice hr
    subst hv3
    have HV3 : Hid (∀ j, Value.ownBlock (.slice va3 k vc3) = some j → b ≤ j) := fun j hj => (hr.lt j hj).1
    by_cases hlt : k < n
    · obtain ⟨x, hx, hcx⟩ := HG.out k hlt
      have d0 := hT.c0
      have d1 := hT.c1
      have d2 := hT.fz 1
      have hkz : (k : Int) < (n : Int) := by omega
      have hw3 : IntKind.i64.wrap (N + (k : Int) + 1) = N + (k : Int) + 1 := IntWalk.i64_in _ (by omega)
      have hnx := come_next (cz := []) (at' := 0) (N := N) (on := false) hx Hl.out hlt
      rw [List.take_nil, List.nil_append, List.nil_append] at hnx
      have HN := hidden hnx
      have HRs : Hid ((wr.setCell ⟨M, 1, none⟩ (.int .i64 (N + (k : Int) + 1))).ownsRow b 83 3 (.slice va3 k vc3) k (rowC (comeC (l.take k) N false))) := hr.kept (grownBy_set wr M 1 _) (Or.inr (fun e => by have := HV3.out M e; omega))
      have HTs := hidden (hT.num (N + (k : Int) + 1))
      have HKs := hidden (hK.trans (kept_some (grownBy_set wr M 1 (.int .i64 (N + (k : Int) + 1))) (O := ROwn M (.slice (some ⟨g, 0, none⟩) s vc)) (Or.inl rfl)) (fun _ _ h => h))
      have Hcx := hidden hcx
      clear hr hT hK hcx hx hnx
      go_wp2_with fail
      generalize (wr.setCell ⟨M, 1, none⟩ (.int .i64 (N + (k : Int) + 1))) = Wr at *
      clear d0 d1 d2
      have hgd := grown_drew' Wr
      have HTd := hidden (HTs.out.grown hgd)
      have HKd := hidden (HKs.out.trans (O' := ROwn M (.slice (some ⟨g, 0, none⟩) s vc)) (kept_none hgd) (fun _ _ h => h))
      have HRd : Hid (Wr.drew.ownsRow b 83 3 (.slice va3 k vc3) k (rowC (comeC (l.take k) N false))) := HRs.out
      clear hgd HTs HKs HRs
      have HSx : Hid (∀ u, Kept (ROwn M (.slice (some ⟨g, 0, none⟩) s vc)) w u → u.cell? ⟨M, 1, none⟩ = some (.int .i64 (N + (k : Int) + 1)) → (fun u : World => u.cell? (ad.add k) = some (.int .u8 x) ∧ u.cell? ⟨M, 1, none⟩ = some (.int .i64 (N + (k : Int) + 1))) u) := fun u hu hm => ⟨Hcx.out u hu, hm⟩
      by_cases hk0 : k = 0
      · have hk0b : (((k : Int) == 0) && !false) = true := by rw [hk0]; rfl
        have hk0z : ((k : Int) == 0) = true := by rw [hk0]; rfl
        clear hk0
        refine wp_region_held_drew (S := (fun u : World => u.cell? (ad.add k) = some (.int .u8 x) ∧ u.cell? ⟨M, 1, none⟩ = some (.int .i64 (N + (k : Int) + 1)))) (by kernel_rfl) (HSx.out _ HKd.out HTd.out.c1) (fun hHeld => ?_)
        generalize Wr.drew = V at *
        refine take_dst 0 (some 93) rfl rfl (by kernel_rfl) (by kernel_rfl) (by kernel_rfl) (fun _ _ _ h => h) (v := ?_) (Or.inl ⟨by rfl, ?_⟩) (by assumption) ?_
        rotate_left
        · (intro w hSw; (try dsimp only at hSw); go_simp; try with_reducible rfl)
        simp only [Act.put, List.setIfInBounds_toArray, List.set_cons_zero, List.set_cons_succ]
        refine take_dst 1 (some 94) rfl rfl (by kernel_rfl) (by kernel_rfl) (by kernel_rfl) (fun _ _ _ h => h) (v := ?_) (Or.inl ⟨by rfl, ?_⟩) (by assumption) ?_
        rotate_left
        · (intro w hSw; (try dsimp only at hSw); go_simp; try with_reducible rfl)
        simp only [Act.put, List.setIfInBounds_toArray, List.set_cons_zero, List.set_cons_succ]
        refine take_dst 2 (some 95) rfl rfl (by kernel_rfl) (by kernel_rfl) (by kernel_rfl) (fun _ _ _ h => h) (v := ?_) (Or.inl ⟨by rfl, ?_⟩) (by assumption) ?_
        rotate_left
        · (intro w hSw; (try dsimp only at hSw); go_simp; try with_reducible rfl)
        simp only [Act.put, List.setIfInBounds_toArray, List.set_cons_zero, List.set_cons_succ]
        refine take_dst 3 (some 96) rfl rfl (by kernel_rfl) (by kernel_rfl) (by kernel_rfl) (fun _ _ _ h => h) (v := ?_) (Or.inl ⟨by rfl, ?_⟩) (by assumption) ?_
        rotate_left
        · (intro w hSw; (try dsimp only at hSw); go_simp; try with_reducible rfl)
        simp only [Act.put, List.setIfInBounds_toArray, List.set_cons_zero, List.set_cons_succ]
        refine take_dst 4 (some 97) rfl rfl (by kernel_rfl) (by kernel_rfl) (by kernel_rfl) (fun _ _ _ h => h) (v := ?_) (Or.inl ⟨by rfl, ?_⟩) (by assumption) ?_
        rotate_left
        · (intro w hSw; (try dsimp only at hSw); go_simp; try with_reducible rfl)
        simp only [Act.put, List.setIfInBounds_toArray, List.set_cons_zero, List.set_cons_succ]
        refine take_dst 5 (some 98) rfl rfl (by kernel_rfl) (by kernel_rfl) (by kernel_rfl) (fun _ _ _ h => h) (v := ?_) (Or.inl ⟨by rfl, ?_⟩) (by assumption) ?_
        rotate_left
        · (intro w hSw; (try dsimp only at hSw); go_simp; try with_reducible rfl)
        simp only [Act.put, List.setIfInBounds_toArray, List.set_cons_zero, List.set_cons_succ]
        refine take_dst 6 (some 99) rfl rfl (by kernel_rfl) (by kernel_rfl) (by kernel_rfl) (fun _ _ _ h => h) (v := ?_) (Or.inl ⟨by rfl, ?_⟩) (by assumption) ?_
        rotate_left
        · (intro w hSw; (try dsimp only at hSw); go_simp; try with_reducible rfl)
        simp only [Act.put, List.setIfInBounds_toArray, List.set_cons_zero, List.set_cons_succ]
        refine take_dst 7 (some 100) rfl rfl (by kernel_rfl) (by kernel_rfl) (by kernel_rfl) (fun _ _ _ h => h) (v := ?_) (Or.inl ⟨by rfl, ?_⟩) (by assumption) ?_
        rotate_left
        · (intro w hSw; (try dsimp only at hSw); go_simp; try with_reducible rfl)
        simp only [Act.put, List.setIfInBounds_toArray, List.set_cons_zero, List.set_cons_succ]
        refine take_dst 8 (some 101) rfl rfl (by kernel_rfl) (by kernel_rfl) (by kernel_rfl) (fun _ _ _ h => h) (v := ?_) (Or.inl ⟨by rfl, ?_⟩) (by assumption) ?_
        rotate_left
        · (intro w hSw; (try dsimp only at hSw); go_simp; try with_reducible rfl)
        simp only [Act.put, List.setIfInBounds_toArray, List.set_cons_zero, List.set_cons_succ]
        refine take_dst 9 (some 102) rfl rfl (by kernel_rfl) (by kernel_rfl) (by kernel_rfl) (fun _ _ _ h => h) (v := ?_) (Or.inl ⟨by rfl, ?_⟩) (by assumption) ?_
        rotate_left
        · (intro w hSw; (try dsimp only at hSw); go_simp; try with_reducible rfl)
        simp only [Act.put, List.setIfInBounds_toArray, List.set_cons_zero, List.set_cons_succ]
        refine take_dst 10 (some 103) rfl rfl (by kernel_rfl) (by kernel_rfl) (by kernel_rfl) (fun _ _ _ h => h) (v := ?_) (Or.inl ⟨by rfl, ?_⟩) (by assumption) ?_
        rotate_left
        · (intro w hSw; (try dsimp only at hSw); go_simp; try with_reducible rfl)
        simp only [Act.put, List.setIfInBounds_toArray, List.set_cons_zero, List.set_cons_succ]
        refine take_dst 11 (some 104) rfl rfl (by kernel_rfl) (by kernel_rfl) (by kernel_rfl) (fun _ _ _ h => h) (v := ?_) (Or.inl ⟨by rfl, ?_⟩) (by assumption) ?_
        rotate_left
        · (intro w hSw; (try dsimp only at hSw); go_simp; try with_reducible rfl)
        simp only [Act.put, List.setIfInBounds_toArray, List.set_cons_zero, List.set_cons_succ]
        refine take_dst 12 (some 105) rfl rfl (by kernel_rfl) (by kernel_rfl) (by kernel_rfl) (fun _ _ _ h => h) (v := ?_) (Or.inl ⟨by rfl, ?_⟩) (by assumption) ?_
        rotate_left
        · (intro w hSw; (try dsimp only at hSw); go_simp; try with_reducible rfl)
        simp only [Act.put, List.setIfInBounds_toArray, List.set_cons_zero, List.set_cons_succ]
        refine take_dst 13 (some 106) rfl rfl (by kernel_rfl) (by kernel_rfl) (by kernel_rfl) (fun _ _ _ h => h) (v := ?_) (Or.inl ⟨by rfl, ?_⟩) (by assumption) ?_
        rotate_left
        · (intro w hSw; (try dsimp only at hSw); go_simp; try with_reducible rfl)
        simp only [Act.put, List.setIfInBounds_toArray, List.set_cons_zero, List.set_cons_succ]
        refine take_dst 14 (some 107) rfl rfl (by kernel_rfl) (by kernel_rfl) (by kernel_rfl) (fun _ _ _ h => h) (v := ?_) (Or.inl ⟨by rfl, ?_⟩) (by assumption) ?_
        rotate_left
        · (intro w hSw; (try dsimp only at hSw); go_simp; try with_reducible rfl)
        simp only [Act.put, List.setIfInBounds_toArray, List.set_cons_zero, List.set_cons_succ]
        refine take_dst 15 (some 108) rfl rfl (by kernel_rfl) (by kernel_rfl) (by kernel_rfl) (fun _ _ _ h => h) (v := ?_) (Or.inl ⟨by rfl, ?_⟩) (by assumption) ?_
        rotate_left
        · (intro w hSw; (try dsimp only at hSw); go_simp; try with_reducible rfl)
        simp only [Act.put, List.setIfInBounds_toArray, List.set_cons_zero, List.set_cons_succ]
        refine wpAnyH_ready (rs := [16]) (by kernel_rfl) (by simp) ?_
        refine AllReadyH.cons rfl (fun K hK => ?_) AllReadyH.nil
        go_simp
        have hgA := grownBy_alloc V (.cells #[.int .u8 x, .int .i64 (N + (k : Int) + 1), .bool true] 83)
        have HTA := hidden (HTd.out.grown hgA)
        have HKA := hidden (HKd.out.trans (O' := ROwn M (.slice (some ⟨g, 0, none⟩) s vc)) (kept_none hgA) (fun _ _ h => h))
        have HRA := hidden (HRd.out.kept hgA (by cases Value.ownBlock (.slice va3 k vc3) <;> simp))
        have hVb : b ≤ (V.alloc (.cells #[.int .u8 x, .int .i64 (N + (k : Int) + 1), .bool true] 83)).heap.size := by rw [← Hb.out]; exact HKA.out.size
        refine hK.out _ _ (HSx.out _ HKA.out HTA.out.c1) (fun hHeld1 => ?_)
        clear hK K hHeld hgA
        refine wpAnyH_ready (rs := [17]) (by kernel_rfl) (by simp) ?_
        refine AllReadyH.cons rfl (fun K hK => ?_) AllReadyH.nil
        refine step_append_at rfl (.tmp 93) (.tmp 109) 36 rfl b 83 i0 (.agg #[.int .u8 0, .int .i64 0, .bool false]) 3 24 Try.underlying36 hi hz0 hz1 hz2 rfl (by decide) (.slice va3 k vc3) k _ (by simp [Act.eval]) HRA.out ⟨V.heap.size, 0, none⟩ 1 1 [.int .u8 x, .int .i64 (N + (k : Int) + 1), .bool true] (by simp [Act.eval]) rfl (cells3 _ _ _ _) (by intro u hu; simp at hu; rcases hu with rfl | rfl | rfl <;> rfl) (by unfold maxLen; omega) (by omega) hVb (by decide) ?_
        intro v' w2 hr2 hg2
        obtain ⟨va4, vc4, rfl⟩ := own_any_slice hr2.out
        obtain ⟨q0, q1⟩ := HTA.out.kept1 HKA.out Hb.out.symm HV3.out HLV.out hMw (Rl.refl _) hg2.out
        have q2 : Hid (w2.ownsRow b 83 3 (.slice va4 (k + 1) vc4) (k + 1) (rowC (comeC (l.take (k + 1)) N false))) := by rw [HN.out, hk0b]; exact hr2.out
        clear hr2 hg2
        refine hK.out _ _ (HSx.out _ q1.out q0.out.c1) (fun hHeld2 => ?_)
        clear hK K hHeld1
        refine take_dst 18 (some 8) rfl rfl (by kernel_rfl) (by kernel_rfl) (by kernel_rfl) (fun _ _ _ h => h) (v := ?_) (Or.inl ⟨by rfl, ?_⟩) (by assumption) ?_
        rotate_left
        · (intro w hSw; (try dsimp only at hSw); go_simp; try with_reducible rfl)
        simp only [Act.put, List.setIfInBounds_toArray]
        refine wpAnyH_done (by kernel_rfl) ?_ _
        clear hHeld2 HSx HTA HKA HRA HTd HKd HRd
        go_wp2
        go_roundw
        case rel => exact ⟨k + 1, by omega, by go_num, q2.out, by push_cast; rw [← Int.add_assoc]; exact q0.out, q1.out⟩
        case measure => simp [intOf]; omega
      · have hk0b : (((k : Int) == 0) && !false) = false := by rw [show ((k : Int) == 0) = false from by simp; omega]; rfl
        have hk0z : ((k : Int) == 0) = false := by simp; omega
        have hk0y : ¬ ((k : Int) = 0) := by omega
        clear hk0
        refine wp_region_held_drew (S := (fun u : World => u.cell? (ad.add k) = some (.int .u8 x) ∧ u.cell? ⟨M, 1, none⟩ = some (.int .i64 (N + (k : Int) + 1)))) (by kernel_rfl) (HSx.out _ HKd.out HTd.out.c1) (fun hHeld => ?_)
        generalize Wr.drew = V at *
        refine take_dst 0 (some 93) rfl rfl (by kernel_rfl) (by kernel_rfl) (by kernel_rfl) (fun _ _ _ h => h) (v := ?_) (Or.inl ⟨by rfl, ?_⟩) (by assumption) ?_
        rotate_left
        · (intro w hSw; (try dsimp only at hSw); go_simp; try with_reducible rfl)
        simp only [Act.put, List.setIfInBounds_toArray, List.set_cons_zero, List.set_cons_succ]
        refine take_dst 1 (some 94) rfl rfl (by kernel_rfl) (by kernel_rfl) (by kernel_rfl) (fun _ _ _ h => h) (v := ?_) (Or.inl ⟨by rfl, ?_⟩) (by assumption) ?_
        rotate_left
        · (intro w hSw; (try dsimp only at hSw); go_simp; try with_reducible rfl)
        simp only [Act.put, List.setIfInBounds_toArray, List.set_cons_zero, List.set_cons_succ]
        refine take_dst 2 (some 95) rfl rfl (by kernel_rfl) (by kernel_rfl) (by kernel_rfl) (fun _ _ _ h => h) (v := ?_) (Or.inl ⟨by rfl, ?_⟩) (by assumption) ?_
        rotate_left
        · (intro w hSw; (try dsimp only at hSw); go_simp; try with_reducible rfl)
        simp only [Act.put, List.setIfInBounds_toArray, List.set_cons_zero, List.set_cons_succ]
        refine take_dst 3 (some 96) rfl rfl (by kernel_rfl) (by kernel_rfl) (by kernel_rfl) (fun _ _ _ h => h) (v := ?_) (Or.inl ⟨by rfl, ?_⟩) (by assumption) ?_
        rotate_left
        · (intro w hSw; (try dsimp only at hSw); go_simp; try with_reducible rfl)
        simp only [Act.put, List.setIfInBounds_toArray, List.set_cons_zero, List.set_cons_succ]
        refine take_dst 4 (some 97) rfl rfl (by kernel_rfl) (by kernel_rfl) (by kernel_rfl) (fun _ _ _ h => h) (v := ?_) (Or.inl ⟨by rfl, ?_⟩) (by assumption) ?_
        rotate_left
        · (intro w hSw; (try dsimp only at hSw); go_simp; try with_reducible rfl)
        simp only [Act.put, List.setIfInBounds_toArray, List.set_cons_zero, List.set_cons_succ]
        refine take_dst 5 (some 98) rfl rfl (by kernel_rfl) (by kernel_rfl) (by kernel_rfl) (fun _ _ _ h => h) (v := ?_) (Or.inl ⟨by rfl, ?_⟩) (by assumption) ?_
        rotate_left
        · (intro w hSw; (try dsimp only at hSw); go_simp; try with_reducible rfl)
        simp only [Act.put, List.setIfInBounds_toArray, List.set_cons_zero, List.set_cons_succ]
        refine take_dst 6 (some 99) rfl rfl (by kernel_rfl) (by kernel_rfl) (by kernel_rfl) (fun _ _ _ h => h) (v := ?_) (Or.inl ⟨by rfl, ?_⟩) (by assumption) ?_
        rotate_left
        · (intro w hSw; (try dsimp only at hSw); go_simp; try with_reducible rfl)
        simp only [Act.put, List.setIfInBounds_toArray, List.set_cons_zero, List.set_cons_succ]
        refine take_dst 7 (some 100) rfl rfl (by kernel_rfl) (by kernel_rfl) (by kernel_rfl) (fun _ _ _ h => h) (v := ?_) (Or.inl ⟨by rfl, ?_⟩) (by assumption) ?_
        rotate_left
        · (intro w hSw; (try dsimp only at hSw); go_simp; try with_reducible rfl)
        simp only [Act.put, List.setIfInBounds_toArray, List.set_cons_zero, List.set_cons_succ]
        refine take_dst 8 (some 101) rfl rfl (by kernel_rfl) (by kernel_rfl) (by kernel_rfl) (fun _ _ _ h => h) (v := ?_) (Or.inl ⟨by rfl, ?_⟩) (by assumption) ?_
        rotate_left
        · (intro w hSw; (try dsimp only at hSw); go_simp; try with_reducible rfl)
        simp only [Act.put, List.setIfInBounds_toArray, List.set_cons_zero, List.set_cons_succ]
        refine take_dst 9 (some 102) rfl rfl (by kernel_rfl) (by kernel_rfl) (by kernel_rfl) (fun _ _ _ h => h) (v := ?_) (Or.inl ⟨by rfl, ?_⟩) (by assumption) ?_
        rotate_left
        · (intro w hSw; (try dsimp only at hSw); go_simp; try with_reducible rfl)
        simp only [Act.put, List.setIfInBounds_toArray, List.set_cons_zero, List.set_cons_succ]
        refine take_dst 10 (some 103) rfl rfl (by kernel_rfl) (by kernel_rfl) (by kernel_rfl) (fun _ _ _ h => h) (v := ?_) (Or.inl ⟨by rfl, ?_⟩) (by assumption) ?_
        rotate_left
        · (intro w hSw; (try dsimp only at hSw); go_simp; try with_reducible rfl)
        simp only [Act.put, List.setIfInBounds_toArray, List.set_cons_zero, List.set_cons_succ]
        refine take_dst 11 (some 104) rfl rfl (by kernel_rfl) (by kernel_rfl) (by kernel_rfl) (fun _ _ _ h => h) (v := ?_) (Or.inl ⟨by rfl, ?_⟩) (by assumption) ?_
        rotate_left
        · (intro w hSw; (try dsimp only at hSw); go_simp; try with_reducible rfl)
        simp only [Act.put, List.setIfInBounds_toArray, List.set_cons_zero, List.set_cons_succ]
        refine take_dst 12 (some 105) rfl rfl (by kernel_rfl) (by kernel_rfl) (by kernel_rfl) (fun _ _ _ h => h) (v := undef) (Or.inr ⟨by rfl, rfl⟩) (by assumption) ?_
        simp only [Act.put, List.setIfInBounds_toArray, List.set_cons_zero, List.set_cons_succ]
        refine take_dst 13 (some 106) rfl rfl (by kernel_rfl) (by kernel_rfl) (by kernel_rfl) (fun _ _ _ h => h) (v := undef) (Or.inr ⟨by rfl, rfl⟩) (by assumption) ?_
        simp only [Act.put, List.setIfInBounds_toArray, List.set_cons_zero, List.set_cons_succ]
        refine take_dst 14 (some 107) rfl rfl (by kernel_rfl) (by kernel_rfl) (by kernel_rfl) (fun _ _ _ h => h) (v := ?_) (Or.inl ⟨by rfl, ?_⟩) (by assumption) ?_
        rotate_left
        · (intro w hSw; (try dsimp only at hSw); go_simp; try with_reducible rfl)
        simp only [Act.put, List.setIfInBounds_toArray, List.set_cons_zero, List.set_cons_succ]
        refine take_dst 15 (some 108) rfl rfl (by kernel_rfl) (by kernel_rfl) (by kernel_rfl) (fun _ _ _ h => h) (v := ?_) (Or.inl ⟨by rfl, ?_⟩) (by assumption) ?_
        rotate_left
        · (intro w hSw; (try dsimp only at hSw); go_simp; try with_reducible rfl)
        simp only [Act.put, List.setIfInBounds_toArray, List.set_cons_zero, List.set_cons_succ]
        refine wpAnyH_ready (rs := [16]) (by kernel_rfl) (by simp) ?_
        refine AllReadyH.cons rfl (fun K hK => ?_) AllReadyH.nil
        go_simp
        have hgA := grownBy_alloc V (.cells #[.int .u8 x, .int .i64 (N + (k : Int) + 1), .bool false] 83)
        have HTA := hidden (HTd.out.grown hgA)
        have HKA := hidden (HKd.out.trans (O' := ROwn M (.slice (some ⟨g, 0, none⟩) s vc)) (kept_none hgA) (fun _ _ h => h))
        have HRA := hidden (HRd.out.kept hgA (by cases Value.ownBlock (.slice va3 k vc3) <;> simp))
        have hVb : b ≤ (V.alloc (.cells #[.int .u8 x, .int .i64 (N + (k : Int) + 1), .bool false] 83)).heap.size := by rw [← Hb.out]; exact HKA.out.size
        refine hK.out _ _ (HSx.out _ HKA.out HTA.out.c1) (fun hHeld1 => ?_)
        clear hK K hHeld hgA
        refine wpAnyH_ready (rs := [17]) (by kernel_rfl) (by simp) ?_
        refine AllReadyH.cons rfl (fun K hK => ?_) AllReadyH.nil
        refine step_append_at rfl (.tmp 93) (.tmp 109) 36 rfl b 83 i0 (.agg #[.int .u8 0, .int .i64 0, .bool false]) 3 24 Try.underlying36 hi hz0 hz1 hz2 rfl (by decide) (.slice va3 k vc3) k _ (by simp [Act.eval]) HRA.out ⟨V.heap.size, 0, none⟩ 1 1 [.int .u8 x, .int .i64 (N + (k : Int) + 1), .bool false] (by simp [Act.eval]) rfl (cells3 _ _ _ _) (by intro u hu; simp at hu; rcases hu with rfl | rfl | rfl <;> rfl) (by unfold maxLen; omega) (by omega) hVb (by decide) ?_
        intro v' w2 hr2 hg2
        obtain ⟨va4, vc4, rfl⟩ := own_any_slice hr2.out
        obtain ⟨q0, q1⟩ := HTA.out.kept1 HKA.out Hb.out.symm HV3.out HLV.out hMw (Rl.refl _) hg2.out
        have q2 : Hid (w2.ownsRow b 83 3 (.slice va4 (k + 1) vc4) (k + 1) (rowC (comeC (l.take (k + 1)) N false))) := by rw [HN.out, hk0b]; exact hr2.out
        clear hr2 hg2
        refine hK.out _ _ (HSx.out _ q1.out q0.out.c1) (fun hHeld2 => ?_)
        clear hK K hHeld1
        refine take_dst 18 (some 8) rfl rfl (by kernel_rfl) (by kernel_rfl) (by kernel_rfl) (fun _ _ _ h => h) (v := ?_) (Or.inl ⟨by rfl, ?_⟩) (by assumption) ?_
        rotate_left
        · (intro w hSw; (try dsimp only at hSw); go_simp; try with_reducible rfl)
        simp only [Act.put, List.setIfInBounds_toArray]
        refine wpAnyH_done (by kernel_rfl) ?_ _
        clear hHeld2 HSx HTA HKA HRA HTd HKd HRd
        go_wp2
        go_roundw
        case rel => exact ⟨k + 1, by omega, by go_num, q2.out, by push_cast; rw [← Int.add_assoc]; exact q0.out, q1.out⟩
        case measure => simp [intOf]; omega
    · have hkz : ¬ ((k : Int) < (n : Int)) := by omega
      obtain rfl : k = n := by omega
      have hlk : l.take k = l := List.take_of_length_le (by rw [Hl.out]; exact Nat.le_refl _)
      rw [hlk] at hr
      have d0 := hT.c0
      have HTr := hidden hT
      have HKr := hidden hK
      have HRr := hidden hr
      have hwb : b ≤ wr.heap.size := by rw [← Hb.out]; exact hK.size
      have HLs : Hid ((comeC l N false).length + cz.length = k + s) := by unfold Hid; rw [comeC_len, Hl1.out, Hl.out]
      have HLd : Hid ((rowC cz).length = s * 3) := by unfold Hid; rw [rowC_len, Hl1.out]
      have HTl := hT.tailCells 0 (Nat.zero_le _)
      rw [List.drop_zero] at HTl
      have HTl := hidden HTl
      clear hr hT hK hlk
      go_wp2_with (at_builtin; refine wpList_append_own _ rfl _ _ 36 rfl b 83 i0 (.agg #[.int .u8 0, .int .i64 0, .bool false]) 3 24 Try.underlying36 hi hz0 hz1 hz2 rfl (by decide) _ _ _ rfl HRr.out ⟨g, 0, none⟩ s vc (rowC cz) rfl HLd.out HTl.out (rowC_one _) ?e3 ?e4 hwb ?_)
      case e3 => unfold maxLen; omega
      case e4 => omega
      intro v2 w2 hr2 hg2 _
      obtain ⟨va2, vc2, rfl⟩ := own_any_slice hr2
      obtain ⟨q0, q1, q2, q3, q4⟩ := rdel_fin HTr.out (Rl.refl _) hg2 HV3.out hMw hr2 HLs.out hB HKr.out Hb.out.symm
      clear hr2 hg2 d0
      go_wp2
      go_ret
      exact ⟨rfl, _, q2.out, q3.out, q4.out⟩

set_option maxHeartbeats 4000000 in
theorem rinz_eq (B M g vc : Nat) (cs : List Rc) (N : Int) (ad : Addr) (cap n : Nat) (l : List Nat) (w : World) (h : RTab B w M (.slice (some ⟨g, 0, none⟩) 0 vc) cs N) (hs : cs.length = 0) (hs2 : 0 + n ≤ 65536) (hB : B ≤ w.heap.size) (hvm : vc ≤ 9223372036854775807)
    (hl : l.length = n) (hn : 0 < n) (hN : 0 ≤ N ∧ N ≤ 1000000000) (hc : ∀ j u, (bytesV l)[j]? = some u → w.cell? (ad.add j) = some u) (hout : ¬ ROwn M (.slice (some ⟨g, 0, none⟩) 0 vc) ad.block) :
    Calls Try.prog 45 #[.pointer (some ⟨M, 0, none⟩), .int .i64 0, .slice (some ad) n cap] w fun e w' => e = .returned (.int .i64 0) ∧ ∃ lv', RTab B w' M lv' (comeC l N false ++ setF cs 0) (N + (n : Int)) ∧ Kept (ROwn M (.slice (some ⟨g, 0, none⟩) 0 vc)) w w' ∧ (∀ k, lv'.ownBlock = some k → w.heap.size ≤ k) := by
  obtain ⟨i0, hi, hz0, hz1, hz2⟩ := info_parts info59
  have HG : Hid (∀ k, k < n → ∃ x : Nat, l[k]? = some x ∧ ∀ wr, Kept (ROwn M (.slice (some ⟨g, 0, none⟩) 0 vc)) w wr → wr.cell? (ad.add k) = some (.int .u8 x)) := fun k hk => by
    have hk' : k < l.length := by omega
    refine ⟨l[k], List.getElem?_eq_getElem hk', fun wr hb => ?_⟩
    have h2 := hc k _ (show (bytesV l)[k]? = some (.int .u8 (l[k] : Nat)) by simp [bytesV, List.getElem?_eq_getElem hk'])
    have hbk : (ad.add k).block = ad.block := by unfold Addr.add; split <;> rfl
    have h3 := hb.block (ad.add k).block (World.block_lt_of_cell? _ _ h2) (by rw [hbk]; exact hout)
    rw [← h2]
    simp only [World.cell?, h3]
  have c0 := h.c0
  have c1 := h.c1
  have HT := hidden h
  have Hs := hidden hs
  have Hl := hidden hl
  have h3 : ¬ ((n : Int) = 0) := by omega
  have h2 : ¬ (65536 < (n : Int)) := by omega
  have hw1 : IntKind.i64.wrap (n : Int) = (n : Int) := IntWalk.i64_in _ (by omega)
  have HT1 : Hid (RTab B w M (.slice (some ⟨g, 0, none⟩) 0 vc) (setF cs 0) N) := by rw [setF_out cs 0 (by rw [Hs.out]; exact Nat.le_refl _)]; exact HT.out
  have HK1 : Hid (Kept (ROwn M (.slice (some ⟨g, 0, none⟩) 0 vc)) w w) := Kept.refl _ _
  clear h hs hl hc
  have hl1 : (setF cs 0).length = 0 := by rw [setF_len]; exact Hs.out
  have e0 := HT1.out.c0
  have e1 := HT1.out.c1
  have Hl1 := hidden hl1
  clear hl1
  generalize hcz : setF cs 0 = cz at *
  have hMw := HT.out.lt
  obtain ⟨b, hb⟩ : ∃ b, w.heap.size = b := ⟨_, rfl⟩
  have Hb := hidden hb
  have HLV : Hid (∀ j, Value.ownBlock (.slice (some ⟨g, 0, none⟩) 0 vc) = some j → j < b) := fun j hj => by rw [← hb]; exact (HT.out.row.lt j hj).2
  rw [hb] at hMw hB
  clear hb hcz
  go_enter Try.func45, Try.ntmps45
  go_wp2_with (at_builtin; fail)
  obtain ⟨W, hW⟩ : ∃ W, w = W := ⟨_, rfl⟩
  rw [hW] at HT1 e0 e1 ⊢
  have HK1' : Hid (Kept (ROwn M (.slice (some ⟨g, 0, none⟩) 0 vc)) w W) := by rw [← hW]; exact HK1.out
  clear HK1
  have HK1 := HK1'
  clear HK1' c0 c1 hW
  go_quiet (fail)
  go_wp2_with (at_builtin; refine wpList_append_own _ rfl _ _ 36 rfl b 83 i0 (.agg #[.int .u8 0, .int .i64 0, .bool false]) 3 24 Try.underlying36 hi hz0 hz1 hz2 rfl (by decide) _ _ _ rfl (World.ownsRow_nil _ _ _ _) ⟨g, 0, none⟩ 0 vc [] rfl rfl (by intro j u hj; simp at hj) (by intro u hu; simp at hu) ?d3 ?d4 ?d5 ?_)
  case d3 => unfold maxLen; omega
  case d4 => omega
  case d5 => rw [← Hb.out]; exact HK1.out.size
  intro v1 w1 hr1 hg1 hv1
  have hv1' : v1 = .slice none 0 0 := by simpa using hv1
  subst hv1'
  clear hv1
  have hg1 : W.grownBy w1 none := ⟨hg1.os, hg1.tape, hg1.output, hg1.size, fun k hk hne => hg1.block k hk hne⟩
  have HT2 := hidden (HT1.out.grown hg1)
  have HK2 := hidden (HK1.out.trans (O' := ROwn M (.slice (some ⟨g, 0, none⟩) 0 vc)) (kept_none hg1) (fun _ _ h => h))
  have HR2 : Hid (w1.ownsRow b 83 3 (.slice none 0 0) 0 (rowC ([] : List Rc))) := hr1
  clear hr1 hg1 e0 e1
  go_wp2_with fail
  go_loopw [8, 9] (fun v j wr => ∃ k : Nat, k ≤ n ∧ j = .int .i64 (k : Nat) ∧ wr.ownsRow b 83 3 v k (rowC (comeC (l.take k) N false)) ∧ RTab B wr M (.slice (some ⟨g, 0, none⟩) 0 vc) cz (N + (k : Int)) ∧ Kept (ROwn M (.slice (some ⟨g, 0, none⟩) 0 vc)) w wr) (fun _ j _ => n - (intOf j).toNat)
  case atStart => exact ⟨0, Nat.zero_le _, rfl, by simpa [comeC] using HR2.out, by simpa using HT2.out, HK2.out⟩
  case round =>
    obtain ⟨k, hk, rfl, hr, hT, hK⟩ := hrel
    obtain ⟨va3, vc3, hv3⟩ := own_any_slice hr
    subst hv3
    have HV3 : Hid (∀ j, Value.ownBlock (.slice va3 k vc3) = some j → b ≤ j) := fun j hj => (hr.lt j hj).1
    by_cases hlt : k < n
    · obtain ⟨x, hx, hcx⟩ := HG.out k hlt
      have d0 := hT.c0
      have d1 := hT.c1
      have d2 := hT.fz 1
      have hkz : (k : Int) < (n : Int) := by omega
      have hw3 : IntKind.i64.wrap (N + (k : Int) + 1) = N + (k : Int) + 1 := IntWalk.i64_in _ (by omega)
      have hnx := come_next (cz := []) (at' := 0) (N := N) (on := false) hx Hl.out hlt
      rw [List.take_nil, List.nil_append, List.nil_append] at hnx
      have HN := hidden hnx
      have HRs : Hid ((wr.setCell ⟨M, 1, none⟩ (.int .i64 (N + (k : Int) + 1))).ownsRow b 83 3 (.slice va3 k vc3) k (rowC (comeC (l.take k) N false))) := hr.kept (grownBy_set wr M 1 _) (Or.inr (fun e => by have := HV3.out M e; omega))
      have HTs := hidden (hT.num (N + (k : Int) + 1))
      have HKs := hidden (hK.trans (kept_some (grownBy_set wr M 1 (.int .i64 (N + (k : Int) + 1))) (O := ROwn M (.slice (some ⟨g, 0, none⟩) 0 vc)) (Or.inl rfl)) (fun _ _ h => h))
      have Hcx := hidden hcx
      clear hr hT hK hcx hx hnx
      go_wp2_with fail
      generalize (wr.setCell ⟨M, 1, none⟩ (.int .i64 (N + (k : Int) + 1))) = Wr at *
      clear d0 d1 d2
      have hgd := grown_drew' Wr
      have HTd := hidden (HTs.out.grown hgd)
      have HKd := hidden (HKs.out.trans (O' := ROwn M (.slice (some ⟨g, 0, none⟩) 0 vc)) (kept_none hgd) (fun _ _ h => h))
      have HRd : Hid (Wr.drew.ownsRow b 83 3 (.slice va3 k vc3) k (rowC (comeC (l.take k) N false))) := HRs.out
      clear hgd HTs HKs HRs
      have HSx : Hid (∀ u, Kept (ROwn M (.slice (some ⟨g, 0, none⟩) 0 vc)) w u → u.cell? ⟨M, 1, none⟩ = some (.int .i64 (N + (k : Int) + 1)) → (fun u : World => u.cell? (ad.add k) = some (.int .u8 x) ∧ u.cell? ⟨M, 1, none⟩ = some (.int .i64 (N + (k : Int) + 1))) u) := fun u hu hm => ⟨Hcx.out u hu, hm⟩
      by_cases hk0 : k = 0
      · have hk0b : (((k : Int) == 0) && !false) = true := by rw [hk0]; rfl
        have hk0z : ((k : Int) == 0) = true := by rw [hk0]; rfl
        clear hk0
        refine wp_region_held_drew (S := (fun u : World => u.cell? (ad.add k) = some (.int .u8 x) ∧ u.cell? ⟨M, 1, none⟩ = some (.int .i64 (N + (k : Int) + 1)))) (by kernel_rfl) (HSx.out _ HKd.out HTd.out.c1) (fun hHeld => ?_)
        generalize Wr.drew = V at *
        refine take_dst 0 (some 93) rfl rfl (by kernel_rfl) (by kernel_rfl) (by kernel_rfl) (fun _ _ _ h => h) (v := ?_) (Or.inl ⟨by rfl, ?_⟩) (by assumption) ?_
        rotate_left
        · (intro w hSw; (try dsimp only at hSw); go_simp; try with_reducible rfl)
        simp only [Act.put, List.setIfInBounds_toArray, List.set_cons_zero, List.set_cons_succ]
        refine take_dst 1 (some 94) rfl rfl (by kernel_rfl) (by kernel_rfl) (by kernel_rfl) (fun _ _ _ h => h) (v := ?_) (Or.inl ⟨by rfl, ?_⟩) (by assumption) ?_
        rotate_left
        · (intro w hSw; (try dsimp only at hSw); go_simp; try with_reducible rfl)
        simp only [Act.put, List.setIfInBounds_toArray, List.set_cons_zero, List.set_cons_succ]
        refine take_dst 2 (some 95) rfl rfl (by kernel_rfl) (by kernel_rfl) (by kernel_rfl) (fun _ _ _ h => h) (v := ?_) (Or.inl ⟨by rfl, ?_⟩) (by assumption) ?_
        rotate_left
        · (intro w hSw; (try dsimp only at hSw); go_simp; try with_reducible rfl)
        simp only [Act.put, List.setIfInBounds_toArray, List.set_cons_zero, List.set_cons_succ]
        refine take_dst 3 (some 96) rfl rfl (by kernel_rfl) (by kernel_rfl) (by kernel_rfl) (fun _ _ _ h => h) (v := ?_) (Or.inl ⟨by rfl, ?_⟩) (by assumption) ?_
        rotate_left
        · (intro w hSw; (try dsimp only at hSw); go_simp; try with_reducible rfl)
        simp only [Act.put, List.setIfInBounds_toArray, List.set_cons_zero, List.set_cons_succ]
        refine take_dst 4 (some 97) rfl rfl (by kernel_rfl) (by kernel_rfl) (by kernel_rfl) (fun _ _ _ h => h) (v := ?_) (Or.inl ⟨by rfl, ?_⟩) (by assumption) ?_
        rotate_left
        · (intro w hSw; (try dsimp only at hSw); go_simp; try with_reducible rfl)
        simp only [Act.put, List.setIfInBounds_toArray, List.set_cons_zero, List.set_cons_succ]
        refine take_dst 5 (some 98) rfl rfl (by kernel_rfl) (by kernel_rfl) (by kernel_rfl) (fun _ _ _ h => h) (v := ?_) (Or.inl ⟨by rfl, ?_⟩) (by assumption) ?_
        rotate_left
        · (intro w hSw; (try dsimp only at hSw); go_simp; try with_reducible rfl)
        simp only [Act.put, List.setIfInBounds_toArray, List.set_cons_zero, List.set_cons_succ]
        refine take_dst 6 (some 99) rfl rfl (by kernel_rfl) (by kernel_rfl) (by kernel_rfl) (fun _ _ _ h => h) (v := ?_) (Or.inl ⟨by rfl, ?_⟩) (by assumption) ?_
        rotate_left
        · (intro w hSw; (try dsimp only at hSw); go_simp; try with_reducible rfl)
        simp only [Act.put, List.setIfInBounds_toArray, List.set_cons_zero, List.set_cons_succ]
        refine take_dst 7 (some 100) rfl rfl (by kernel_rfl) (by kernel_rfl) (by kernel_rfl) (fun _ _ _ h => h) (v := ?_) (Or.inl ⟨by rfl, ?_⟩) (by assumption) ?_
        rotate_left
        · (intro w hSw; (try dsimp only at hSw); go_simp; try with_reducible rfl)
        simp only [Act.put, List.setIfInBounds_toArray, List.set_cons_zero, List.set_cons_succ]
        refine take_dst 8 (some 101) rfl rfl (by kernel_rfl) (by kernel_rfl) (by kernel_rfl) (fun _ _ _ h => h) (v := ?_) (Or.inl ⟨by rfl, ?_⟩) (by assumption) ?_
        rotate_left
        · (intro w hSw; (try dsimp only at hSw); go_simp; try with_reducible rfl)
        simp only [Act.put, List.setIfInBounds_toArray, List.set_cons_zero, List.set_cons_succ]
        refine take_dst 9 (some 102) rfl rfl (by kernel_rfl) (by kernel_rfl) (by kernel_rfl) (fun _ _ _ h => h) (v := ?_) (Or.inl ⟨by rfl, ?_⟩) (by assumption) ?_
        rotate_left
        · (intro w hSw; (try dsimp only at hSw); go_simp; try with_reducible rfl)
        simp only [Act.put, List.setIfInBounds_toArray, List.set_cons_zero, List.set_cons_succ]
        refine take_dst 10 (some 103) rfl rfl (by kernel_rfl) (by kernel_rfl) (by kernel_rfl) (fun _ _ _ h => h) (v := ?_) (Or.inl ⟨by rfl, ?_⟩) (by assumption) ?_
        rotate_left
        · (intro w hSw; (try dsimp only at hSw); go_simp; try with_reducible rfl)
        simp only [Act.put, List.setIfInBounds_toArray, List.set_cons_zero, List.set_cons_succ]
        refine take_dst 11 (some 104) rfl rfl (by kernel_rfl) (by kernel_rfl) (by kernel_rfl) (fun _ _ _ h => h) (v := ?_) (Or.inl ⟨by rfl, ?_⟩) (by assumption) ?_
        rotate_left
        · (intro w hSw; (try dsimp only at hSw); go_simp; try with_reducible rfl)
        simp only [Act.put, List.setIfInBounds_toArray, List.set_cons_zero, List.set_cons_succ]
        refine take_dst 12 (some 105) rfl rfl (by kernel_rfl) (by kernel_rfl) (by kernel_rfl) (fun _ _ _ h => h) (v := ?_) (Or.inl ⟨by rfl, ?_⟩) (by assumption) ?_
        rotate_left
        · (intro w hSw; (try dsimp only at hSw); go_simp; try with_reducible rfl)
        simp only [Act.put, List.setIfInBounds_toArray, List.set_cons_zero, List.set_cons_succ]
        refine take_dst 13 (some 106) rfl rfl (by kernel_rfl) (by kernel_rfl) (by kernel_rfl) (fun _ _ _ h => h) (v := ?_) (Or.inl ⟨by rfl, ?_⟩) (by assumption) ?_
        rotate_left
        · (intro w hSw; (try dsimp only at hSw); go_simp; try with_reducible rfl)
        simp only [Act.put, List.setIfInBounds_toArray, List.set_cons_zero, List.set_cons_succ]
        refine take_dst 14 (some 107) rfl rfl (by kernel_rfl) (by kernel_rfl) (by kernel_rfl) (fun _ _ _ h => h) (v := ?_) (Or.inl ⟨by rfl, ?_⟩) (by assumption) ?_
        rotate_left
        · (intro w hSw; (try dsimp only at hSw); go_simp; try with_reducible rfl)
        simp only [Act.put, List.setIfInBounds_toArray, List.set_cons_zero, List.set_cons_succ]
        refine take_dst 15 (some 108) rfl rfl (by kernel_rfl) (by kernel_rfl) (by kernel_rfl) (fun _ _ _ h => h) (v := ?_) (Or.inl ⟨by rfl, ?_⟩) (by assumption) ?_
        rotate_left
        · (intro w hSw; (try dsimp only at hSw); go_simp; try with_reducible rfl)
        simp only [Act.put, List.setIfInBounds_toArray, List.set_cons_zero, List.set_cons_succ]
        refine wpAnyH_ready (rs := [16]) (by kernel_rfl) (by simp) ?_
        refine AllReadyH.cons rfl (fun K hK => ?_) AllReadyH.nil
        go_simp
        have hgA := grownBy_alloc V (.cells #[.int .u8 x, .int .i64 (N + (k : Int) + 1), .bool true] 83)
        have HTA := hidden (HTd.out.grown hgA)
        have HKA := hidden (HKd.out.trans (O' := ROwn M (.slice (some ⟨g, 0, none⟩) 0 vc)) (kept_none hgA) (fun _ _ h => h))
        have HRA := hidden (HRd.out.kept hgA (by cases Value.ownBlock (.slice va3 k vc3) <;> simp))
        have hVb : b ≤ (V.alloc (.cells #[.int .u8 x, .int .i64 (N + (k : Int) + 1), .bool true] 83)).heap.size := by rw [← Hb.out]; exact HKA.out.size
        refine hK.out _ _ (HSx.out _ HKA.out HTA.out.c1) (fun hHeld1 => ?_)
        clear hK K hHeld hgA
        refine wpAnyH_ready (rs := [17]) (by kernel_rfl) (by simp) ?_
        refine AllReadyH.cons rfl (fun K hK => ?_) AllReadyH.nil
        refine step_append_at rfl (.tmp 93) (.tmp 109) 36 rfl b 83 i0 (.agg #[.int .u8 0, .int .i64 0, .bool false]) 3 24 Try.underlying36 hi hz0 hz1 hz2 rfl (by decide) (.slice va3 k vc3) k _ (by simp [Act.eval]) HRA.out ⟨V.heap.size, 0, none⟩ 1 1 [.int .u8 x, .int .i64 (N + (k : Int) + 1), .bool true] (by simp [Act.eval]) rfl (cells3 _ _ _ _) (by intro u hu; simp at hu; rcases hu with rfl | rfl | rfl <;> rfl) (by unfold maxLen; omega) (by omega) hVb (by decide) ?_
        intro v' w2 hr2 hg2
        obtain ⟨va4, vc4, rfl⟩ := own_any_slice hr2.out
        obtain ⟨q0, q1⟩ := HTA.out.kept1 HKA.out Hb.out.symm HV3.out HLV.out hMw (Rl.refl _) hg2.out
        have q2 : Hid (w2.ownsRow b 83 3 (.slice va4 (k + 1) vc4) (k + 1) (rowC (comeC (l.take (k + 1)) N false))) := by rw [HN.out, hk0b]; exact hr2.out
        clear hr2 hg2
        refine hK.out _ _ (HSx.out _ q1.out q0.out.c1) (fun hHeld2 => ?_)
        clear hK K hHeld1
        refine take_dst 18 (some 8) rfl rfl (by kernel_rfl) (by kernel_rfl) (by kernel_rfl) (fun _ _ _ h => h) (v := ?_) (Or.inl ⟨by rfl, ?_⟩) (by assumption) ?_
        rotate_left
        · (intro w hSw; (try dsimp only at hSw); go_simp; try with_reducible rfl)
        simp only [Act.put, List.setIfInBounds_toArray]
        refine wpAnyH_done (by kernel_rfl) ?_ _
        clear hHeld2 HSx HTA HKA HRA HTd HKd HRd
        go_wp2
        go_roundw
        case rel => exact ⟨k + 1, by omega, by go_num, q2.out, by push_cast; rw [← Int.add_assoc]; exact q0.out, q1.out⟩
        case measure => simp [intOf]; omega
      · have hk0b : (((k : Int) == 0) && !false) = false := by rw [show ((k : Int) == 0) = false from by simp; omega]; rfl
        have hk0z : ((k : Int) == 0) = false := by simp; omega
        have hk0y : ¬ ((k : Int) = 0) := by omega
        clear hk0
        refine wp_region_held_drew (S := (fun u : World => u.cell? (ad.add k) = some (.int .u8 x) ∧ u.cell? ⟨M, 1, none⟩ = some (.int .i64 (N + (k : Int) + 1)))) (by kernel_rfl) (HSx.out _ HKd.out HTd.out.c1) (fun hHeld => ?_)
        generalize Wr.drew = V at *
        refine take_dst 0 (some 93) rfl rfl (by kernel_rfl) (by kernel_rfl) (by kernel_rfl) (fun _ _ _ h => h) (v := ?_) (Or.inl ⟨by rfl, ?_⟩) (by assumption) ?_
        rotate_left
        · (intro w hSw; (try dsimp only at hSw); go_simp; try with_reducible rfl)
        simp only [Act.put, List.setIfInBounds_toArray, List.set_cons_zero, List.set_cons_succ]
        refine take_dst 1 (some 94) rfl rfl (by kernel_rfl) (by kernel_rfl) (by kernel_rfl) (fun _ _ _ h => h) (v := ?_) (Or.inl ⟨by rfl, ?_⟩) (by assumption) ?_
        rotate_left
        · (intro w hSw; (try dsimp only at hSw); go_simp; try with_reducible rfl)
        simp only [Act.put, List.setIfInBounds_toArray, List.set_cons_zero, List.set_cons_succ]
        refine take_dst 2 (some 95) rfl rfl (by kernel_rfl) (by kernel_rfl) (by kernel_rfl) (fun _ _ _ h => h) (v := ?_) (Or.inl ⟨by rfl, ?_⟩) (by assumption) ?_
        rotate_left
        · (intro w hSw; (try dsimp only at hSw); go_simp; try with_reducible rfl)
        simp only [Act.put, List.setIfInBounds_toArray, List.set_cons_zero, List.set_cons_succ]
        refine take_dst 3 (some 96) rfl rfl (by kernel_rfl) (by kernel_rfl) (by kernel_rfl) (fun _ _ _ h => h) (v := ?_) (Or.inl ⟨by rfl, ?_⟩) (by assumption) ?_
        rotate_left
        · (intro w hSw; (try dsimp only at hSw); go_simp; try with_reducible rfl)
        simp only [Act.put, List.setIfInBounds_toArray, List.set_cons_zero, List.set_cons_succ]
        refine take_dst 4 (some 97) rfl rfl (by kernel_rfl) (by kernel_rfl) (by kernel_rfl) (fun _ _ _ h => h) (v := ?_) (Or.inl ⟨by rfl, ?_⟩) (by assumption) ?_
        rotate_left
        · (intro w hSw; (try dsimp only at hSw); go_simp; try with_reducible rfl)
        simp only [Act.put, List.setIfInBounds_toArray, List.set_cons_zero, List.set_cons_succ]
        refine take_dst 5 (some 98) rfl rfl (by kernel_rfl) (by kernel_rfl) (by kernel_rfl) (fun _ _ _ h => h) (v := ?_) (Or.inl ⟨by rfl, ?_⟩) (by assumption) ?_
        rotate_left
        · (intro w hSw; (try dsimp only at hSw); go_simp; try with_reducible rfl)
        simp only [Act.put, List.setIfInBounds_toArray, List.set_cons_zero, List.set_cons_succ]
        refine take_dst 6 (some 99) rfl rfl (by kernel_rfl) (by kernel_rfl) (by kernel_rfl) (fun _ _ _ h => h) (v := ?_) (Or.inl ⟨by rfl, ?_⟩) (by assumption) ?_
        rotate_left
        · (intro w hSw; (try dsimp only at hSw); go_simp; try with_reducible rfl)
        simp only [Act.put, List.setIfInBounds_toArray, List.set_cons_zero, List.set_cons_succ]
        refine take_dst 7 (some 100) rfl rfl (by kernel_rfl) (by kernel_rfl) (by kernel_rfl) (fun _ _ _ h => h) (v := ?_) (Or.inl ⟨by rfl, ?_⟩) (by assumption) ?_
        rotate_left
        · (intro w hSw; (try dsimp only at hSw); go_simp; try with_reducible rfl)
        simp only [Act.put, List.setIfInBounds_toArray, List.set_cons_zero, List.set_cons_succ]
        refine take_dst 8 (some 101) rfl rfl (by kernel_rfl) (by kernel_rfl) (by kernel_rfl) (fun _ _ _ h => h) (v := ?_) (Or.inl ⟨by rfl, ?_⟩) (by assumption) ?_
        rotate_left
        · (intro w hSw; (try dsimp only at hSw); go_simp; try with_reducible rfl)
        simp only [Act.put, List.setIfInBounds_toArray, List.set_cons_zero, List.set_cons_succ]
        refine take_dst 9 (some 102) rfl rfl (by kernel_rfl) (by kernel_rfl) (by kernel_rfl) (fun _ _ _ h => h) (v := ?_) (Or.inl ⟨by rfl, ?_⟩) (by assumption) ?_
        rotate_left
        · (intro w hSw; (try dsimp only at hSw); go_simp; try with_reducible rfl)
        simp only [Act.put, List.setIfInBounds_toArray, List.set_cons_zero, List.set_cons_succ]
        refine take_dst 10 (some 103) rfl rfl (by kernel_rfl) (by kernel_rfl) (by kernel_rfl) (fun _ _ _ h => h) (v := ?_) (Or.inl ⟨by rfl, ?_⟩) (by assumption) ?_
        rotate_left
        · (intro w hSw; (try dsimp only at hSw); go_simp; try with_reducible rfl)
        simp only [Act.put, List.setIfInBounds_toArray, List.set_cons_zero, List.set_cons_succ]
        refine take_dst 11 (some 104) rfl rfl (by kernel_rfl) (by kernel_rfl) (by kernel_rfl) (fun _ _ _ h => h) (v := ?_) (Or.inl ⟨by rfl, ?_⟩) (by assumption) ?_
        rotate_left
        · (intro w hSw; (try dsimp only at hSw); go_simp; try with_reducible rfl)
        simp only [Act.put, List.setIfInBounds_toArray, List.set_cons_zero, List.set_cons_succ]
        refine take_dst 12 (some 105) rfl rfl (by kernel_rfl) (by kernel_rfl) (by kernel_rfl) (fun _ _ _ h => h) (v := undef) (Or.inr ⟨by rfl, rfl⟩) (by assumption) ?_
        simp only [Act.put, List.setIfInBounds_toArray, List.set_cons_zero, List.set_cons_succ]
        refine take_dst 13 (some 106) rfl rfl (by kernel_rfl) (by kernel_rfl) (by kernel_rfl) (fun _ _ _ h => h) (v := undef) (Or.inr ⟨by rfl, rfl⟩) (by assumption) ?_
        simp only [Act.put, List.setIfInBounds_toArray, List.set_cons_zero, List.set_cons_succ]
        refine take_dst 14 (some 107) rfl rfl (by kernel_rfl) (by kernel_rfl) (by kernel_rfl) (fun _ _ _ h => h) (v := ?_) (Or.inl ⟨by rfl, ?_⟩) (by assumption) ?_
        rotate_left
        · (intro w hSw; (try dsimp only at hSw); go_simp; try with_reducible rfl)
        simp only [Act.put, List.setIfInBounds_toArray, List.set_cons_zero, List.set_cons_succ]
        refine take_dst 15 (some 108) rfl rfl (by kernel_rfl) (by kernel_rfl) (by kernel_rfl) (fun _ _ _ h => h) (v := ?_) (Or.inl ⟨by rfl, ?_⟩) (by assumption) ?_
        rotate_left
        · (intro w hSw; (try dsimp only at hSw); go_simp; try with_reducible rfl)
        simp only [Act.put, List.setIfInBounds_toArray, List.set_cons_zero, List.set_cons_succ]
        refine wpAnyH_ready (rs := [16]) (by kernel_rfl) (by simp) ?_
        refine AllReadyH.cons rfl (fun K hK => ?_) AllReadyH.nil
        go_simp
        have hgA := grownBy_alloc V (.cells #[.int .u8 x, .int .i64 (N + (k : Int) + 1), .bool false] 83)
        have HTA := hidden (HTd.out.grown hgA)
        have HKA := hidden (HKd.out.trans (O' := ROwn M (.slice (some ⟨g, 0, none⟩) 0 vc)) (kept_none hgA) (fun _ _ h => h))
        have HRA := hidden (HRd.out.kept hgA (by cases Value.ownBlock (.slice va3 k vc3) <;> simp))
        have hVb : b ≤ (V.alloc (.cells #[.int .u8 x, .int .i64 (N + (k : Int) + 1), .bool false] 83)).heap.size := by rw [← Hb.out]; exact HKA.out.size
        refine hK.out _ _ (HSx.out _ HKA.out HTA.out.c1) (fun hHeld1 => ?_)
        clear hK K hHeld hgA
        refine wpAnyH_ready (rs := [17]) (by kernel_rfl) (by simp) ?_
        refine AllReadyH.cons rfl (fun K hK => ?_) AllReadyH.nil
        refine step_append_at rfl (.tmp 93) (.tmp 109) 36 rfl b 83 i0 (.agg #[.int .u8 0, .int .i64 0, .bool false]) 3 24 Try.underlying36 hi hz0 hz1 hz2 rfl (by decide) (.slice va3 k vc3) k _ (by simp [Act.eval]) HRA.out ⟨V.heap.size, 0, none⟩ 1 1 [.int .u8 x, .int .i64 (N + (k : Int) + 1), .bool false] (by simp [Act.eval]) rfl (cells3 _ _ _ _) (by intro u hu; simp at hu; rcases hu with rfl | rfl | rfl <;> rfl) (by unfold maxLen; omega) (by omega) hVb (by decide) ?_
        intro v' w2 hr2 hg2
        obtain ⟨va4, vc4, rfl⟩ := own_any_slice hr2.out
        obtain ⟨q0, q1⟩ := HTA.out.kept1 HKA.out Hb.out.symm HV3.out HLV.out hMw (Rl.refl _) hg2.out
        have q2 : Hid (w2.ownsRow b 83 3 (.slice va4 (k + 1) vc4) (k + 1) (rowC (comeC (l.take (k + 1)) N false))) := by rw [HN.out, hk0b]; exact hr2.out
        clear hr2 hg2
        refine hK.out _ _ (HSx.out _ q1.out q0.out.c1) (fun hHeld2 => ?_)
        clear hK K hHeld1
        refine take_dst 18 (some 8) rfl rfl (by kernel_rfl) (by kernel_rfl) (by kernel_rfl) (fun _ _ _ h => h) (v := ?_) (Or.inl ⟨by rfl, ?_⟩) (by assumption) ?_
        rotate_left
        · (intro w hSw; (try dsimp only at hSw); go_simp; try with_reducible rfl)
        simp only [Act.put, List.setIfInBounds_toArray]
        refine wpAnyH_done (by kernel_rfl) ?_ _
        clear hHeld2 HSx HTA HKA HRA HTd HKd HRd
        go_wp2
        go_roundw
        case rel => exact ⟨k + 1, by omega, by go_num, q2.out, by push_cast; rw [← Int.add_assoc]; exact q0.out, q1.out⟩
        case measure => simp [intOf]; omega
    · have hkz : ¬ ((k : Int) < (n : Int)) := by omega
      obtain rfl : k = n := by omega
      have hlk : l.take k = l := List.take_of_length_le (by rw [Hl.out]; exact Nat.le_refl _)
      rw [hlk] at hr
      have d0 := hT.c0
      have HTr := hidden hT
      have HKr := hidden hK
      have HRr := hidden hr
      have hwb : b ≤ wr.heap.size := by rw [← Hb.out]; exact hK.size
      have HLs : Hid ((comeC l N false).length + cz.length = k + 0) := by unfold Hid; rw [comeC_len, Hl1.out, Hl.out]
      have HLd : Hid ((rowC cz).length = 0 * 3) := by unfold Hid; rw [rowC_len, Hl1.out]
      have HTl := hT.tailCells 0 (Nat.zero_le _)
      rw [List.drop_zero] at HTl
      have HTl := hidden HTl
      clear hr hT hK hlk
      go_wp2_with (at_builtin; refine wpList_append_own _ rfl _ _ 36 rfl b 83 i0 (.agg #[.int .u8 0, .int .i64 0, .bool false]) 3 24 Try.underlying36 hi hz0 hz1 hz2 rfl (by decide) _ _ _ rfl HRr.out ⟨g, 0, none⟩ 0 vc (rowC cz) rfl HLd.out HTl.out (rowC_one _) ?e3 ?e4 hwb ?_)
      case e3 => unfold maxLen; omega
      case e4 => omega
      intro v2 w2 hr2 hg2 _
      obtain ⟨va2, vc2, rfl⟩ := own_any_slice hr2
      obtain ⟨q0, q1, q2, q3, q4⟩ := rdel_fin HTr.out (Rl.refl _) hg2 HV3.out hMw hr2 HLs.out hB HKr.out Hb.out.symm
      clear hr2 hg2 d0
      go_wp2
      go_ret
      exact ⟨rfl, _, q2.out, q3.out, q4.out⟩

set_option maxHeartbeats 4000000 in
theorem rinz_none (B M g vc : Nat) (cs : List Rc) (N : Int) (ad : Addr) (cap n : Nat) (l : List Nat) (w : World) (h : RTab B w M (.slice none 0 0) cs N) (hs : cs.length = 0) (hs2 : 0 + n ≤ 65536) (hB : B ≤ w.heap.size) (hvm : vc ≤ 9223372036854775807)
    (hl : l.length = n) (hn : 0 < n) (hN : 0 ≤ N ∧ N ≤ 1000000000) (hc : ∀ j u, (bytesV l)[j]? = some u → w.cell? (ad.add j) = some u) (hout : ¬ ROwn M (.slice none 0 0) ad.block) :
    Calls Try.prog 45 #[.pointer (some ⟨M, 0, none⟩), .int .i64 0, .slice (some ad) n cap] w fun e w' => e = .returned (.int .i64 0) ∧ ∃ lv', RTab B w' M lv' (comeC l N false ++ setF cs 0) (N + (n : Int)) ∧ Kept (ROwn M (.slice none 0 0)) w w' ∧ (∀ k, lv'.ownBlock = some k → w.heap.size ≤ k) := by
  obtain ⟨i0, hi, hz0, hz1, hz2⟩ := info_parts info59
  have HG : Hid (∀ k, k < n → ∃ x : Nat, l[k]? = some x ∧ ∀ wr, Kept (ROwn M (.slice none 0 0)) w wr → wr.cell? (ad.add k) = some (.int .u8 x)) := fun k hk => by
    have hk' : k < l.length := by omega
    refine ⟨l[k], List.getElem?_eq_getElem hk', fun wr hb => ?_⟩
    have h2 := hc k _ (show (bytesV l)[k]? = some (.int .u8 (l[k] : Nat)) by simp [bytesV, List.getElem?_eq_getElem hk'])
    have hbk : (ad.add k).block = ad.block := by unfold Addr.add; split <;> rfl
    have h3 := hb.block (ad.add k).block (World.block_lt_of_cell? _ _ h2) (by rw [hbk]; exact hout)
    rw [← h2]
    simp only [World.cell?, h3]
  have c0 := h.c0
  have c1 := h.c1
  have HT := hidden h
  have Hs := hidden hs
  have Hl := hidden hl
  have h3 : ¬ ((n : Int) = 0) := by omega
  have h2 : ¬ (65536 < (n : Int)) := by omega
  have hw1 : IntKind.i64.wrap (n : Int) = (n : Int) := IntWalk.i64_in _ (by omega)
  have HT1 : Hid (RTab B w M (.slice none 0 0) (setF cs 0) N) := by rw [setF_out cs 0 (by rw [Hs.out]; exact Nat.le_refl _)]; exact HT.out
  have HK1 : Hid (Kept (ROwn M (.slice none 0 0)) w w) := Kept.refl _ _
  clear h hs hl hc
  have hl1 : (setF cs 0).length = 0 := by rw [setF_len]; exact Hs.out
  have e0 := HT1.out.c0
  have e1 := HT1.out.c1
  have Hl1 := hidden hl1
  clear hl1
  generalize hcz : setF cs 0 = cz at *
  have hMw := HT.out.lt
  obtain ⟨b, hb⟩ : ∃ b, w.heap.size = b := ⟨_, rfl⟩
  have Hb := hidden hb
  have HLV : Hid (∀ j, Value.ownBlock (.slice none 0 0) = some j → j < b) := fun j hj => by rw [← hb]; exact (HT.out.row.lt j hj).2
  rw [hb] at hMw hB
  clear hb hcz
  go_enter Try.func45, Try.ntmps45
  go_wp2_with (at_builtin; fail)
  obtain ⟨W, hW⟩ : ∃ W, w = W := ⟨_, rfl⟩
  rw [hW] at HT1 e0 e1 ⊢
  have HK1' : Hid (Kept (ROwn M (.slice none 0 0)) w W) := by rw [← hW]; exact HK1.out
  clear HK1
  have HK1 := HK1'
  clear HK1' c0 c1 hW
  go_quiet (fail)
  have HTq : Hid (RTab B (W.drewN nq) M (.slice none 0 0) cz N) := HT1.out.grown ⟨rfl, rfl, rfl, Nat.le_refl _, fun _ _ _ => rfl⟩
  have HKq : Hid (Kept (ROwn M (.slice none 0 0)) w (W.drewN nq)) := HK1.out.trans (O' := ROwn M (.slice none 0 0)) (kept_none ⟨rfl, rfl, rfl, Nat.le_refl _, fun _ _ _ => rfl⟩) (fun _ _ h => h)
  have e0 := HTq.out.c0
  clear HT1 HK1 e1
  generalize W.drewN nq = W1 at *
  have HR2 : Hid (W1.ownsRow b 83 3 (.slice none 0 0) 0 (rowC ([] : List Rc))) := World.ownsRow_nil _ _ _ _
  have nil0 : W1.ownsRow b 83 3 (.slice none 0 0) 0 [] := World.ownsRow_nil _ _ _ _
  have HT2 := HTq
  have HK2 := HKq
  go_wp2_with (at_builtin; refine wpList_append_own_none rfl _ _ 36 rfl b 83 i0 3 Try.underlying36 hi _ _ _ rfl nil0 rfl ?_)
  clear nil0 e0
  go_loopw [8, 9] (fun v j wr => ∃ k : Nat, k ≤ n ∧ j = .int .i64 (k : Nat) ∧ wr.ownsRow b 83 3 v k (rowC (comeC (l.take k) N false)) ∧ RTab B wr M (.slice none 0 0) cz (N + (k : Int)) ∧ Kept (ROwn M (.slice none 0 0)) w wr) (fun _ j _ => n - (intOf j).toNat)
  case atStart => exact ⟨0, Nat.zero_le _, rfl, by simpa [comeC] using HR2.out, by simpa using HT2.out, HK2.out⟩
  case round =>
    obtain ⟨k, hk, rfl, hr, hT, hK⟩ := hrel
    obtain ⟨va3, vc3, hv3⟩ := own_any_slice hr
    subst hv3
    have HV3 : Hid (∀ j, Value.ownBlock (.slice va3 k vc3) = some j → b ≤ j) := fun j hj => (hr.lt j hj).1
    by_cases hlt : k < n
    · obtain ⟨x, hx, hcx⟩ := HG.out k hlt
      have d0 := hT.c0
      have d1 := hT.c1
      have d2 := hT.fz 1
      have hkz : (k : Int) < (n : Int) := by omega
      have hw3 : IntKind.i64.wrap (N + (k : Int) + 1) = N + (k : Int) + 1 := IntWalk.i64_in _ (by omega)
      have hnx := come_next (cz := []) (at' := 0) (N := N) (on := false) hx Hl.out hlt
      rw [List.take_nil, List.nil_append, List.nil_append] at hnx
      have HN := hidden hnx
      have HRs : Hid ((wr.setCell ⟨M, 1, none⟩ (.int .i64 (N + (k : Int) + 1))).ownsRow b 83 3 (.slice va3 k vc3) k (rowC (comeC (l.take k) N false))) := hr.kept (grownBy_set wr M 1 _) (Or.inr (fun e => by have := HV3.out M e; omega))
      have HTs := hidden (hT.num (N + (k : Int) + 1))
      have HKs := hidden (hK.trans (kept_some (grownBy_set wr M 1 (.int .i64 (N + (k : Int) + 1))) (O := ROwn M (.slice none 0 0)) (Or.inl rfl)) (fun _ _ h => h))
      have Hcx := hidden hcx
      clear hr hT hK hcx hx hnx
      go_wp2_with fail
      generalize (wr.setCell ⟨M, 1, none⟩ (.int .i64 (N + (k : Int) + 1))) = Wr at *
      clear d0 d1 d2
      have hgd := grown_drew' Wr
      have HTd := hidden (HTs.out.grown hgd)
      have HKd := hidden (HKs.out.trans (O' := ROwn M (.slice none 0 0)) (kept_none hgd) (fun _ _ h => h))
      have HRd : Hid (Wr.drew.ownsRow b 83 3 (.slice va3 k vc3) k (rowC (comeC (l.take k) N false))) := HRs.out
      clear hgd HTs HKs HRs
      have HSx : Hid (∀ u, Kept (ROwn M (.slice none 0 0)) w u → u.cell? ⟨M, 1, none⟩ = some (.int .i64 (N + (k : Int) + 1)) → (fun u : World => u.cell? (ad.add k) = some (.int .u8 x) ∧ u.cell? ⟨M, 1, none⟩ = some (.int .i64 (N + (k : Int) + 1))) u) := fun u hu hm => ⟨Hcx.out u hu, hm⟩
      by_cases hk0 : k = 0
      · have hk0b : (((k : Int) == 0) && !false) = true := by rw [hk0]; rfl
        have hk0z : ((k : Int) == 0) = true := by rw [hk0]; rfl
        clear hk0
        refine wp_region_held_drew (S := (fun u : World => u.cell? (ad.add k) = some (.int .u8 x) ∧ u.cell? ⟨M, 1, none⟩ = some (.int .i64 (N + (k : Int) + 1)))) (by kernel_rfl) (HSx.out _ HKd.out HTd.out.c1) (fun hHeld => ?_)
        generalize Wr.drew = V at *
        refine take_dst 0 (some 93) rfl rfl (by kernel_rfl) (by kernel_rfl) (by kernel_rfl) (fun _ _ _ h => h) (v := ?_) (Or.inl ⟨by rfl, ?_⟩) (by assumption) ?_
        rotate_left
        · (intro w hSw; (try dsimp only at hSw); go_simp; try with_reducible rfl)
        simp only [Act.put, List.setIfInBounds_toArray, List.set_cons_zero, List.set_cons_succ]
        refine take_dst 1 (some 94) rfl rfl (by kernel_rfl) (by kernel_rfl) (by kernel_rfl) (fun _ _ _ h => h) (v := ?_) (Or.inl ⟨by rfl, ?_⟩) (by assumption) ?_
        rotate_left
        · (intro w hSw; (try dsimp only at hSw); go_simp; try with_reducible rfl)
        simp only [Act.put, List.setIfInBounds_toArray, List.set_cons_zero, List.set_cons_succ]
        refine take_dst 2 (some 95) rfl rfl (by kernel_rfl) (by kernel_rfl) (by kernel_rfl) (fun _ _ _ h => h) (v := ?_) (Or.inl ⟨by rfl, ?_⟩) (by assumption) ?_
        rotate_left
        · (intro w hSw; (try dsimp only at hSw); go_simp; try with_reducible rfl)
        simp only [Act.put, List.setIfInBounds_toArray, List.set_cons_zero, List.set_cons_succ]
        refine take_dst 3 (some 96) rfl rfl (by kernel_rfl) (by kernel_rfl) (by kernel_rfl) (fun _ _ _ h => h) (v := ?_) (Or.inl ⟨by rfl, ?_⟩) (by assumption) ?_
        rotate_left
        · (intro w hSw; (try dsimp only at hSw); go_simp; try with_reducible rfl)
        simp only [Act.put, List.setIfInBounds_toArray, List.set_cons_zero, List.set_cons_succ]
        refine take_dst 4 (some 97) rfl rfl (by kernel_rfl) (by kernel_rfl) (by kernel_rfl) (fun _ _ _ h => h) (v := ?_) (Or.inl ⟨by rfl, ?_⟩) (by assumption) ?_
        rotate_left
        · (intro w hSw; (try dsimp only at hSw); go_simp; try with_reducible rfl)
        simp only [Act.put, List.setIfInBounds_toArray, List.set_cons_zero, List.set_cons_succ]
        refine take_dst 5 (some 98) rfl rfl (by kernel_rfl) (by kernel_rfl) (by kernel_rfl) (fun _ _ _ h => h) (v := ?_) (Or.inl ⟨by rfl, ?_⟩) (by assumption) ?_
        rotate_left
        · (intro w hSw; (try dsimp only at hSw); go_simp; try with_reducible rfl)
        simp only [Act.put, List.setIfInBounds_toArray, List.set_cons_zero, List.set_cons_succ]
        refine take_dst 6 (some 99) rfl rfl (by kernel_rfl) (by kernel_rfl) (by kernel_rfl) (fun _ _ _ h => h) (v := ?_) (Or.inl ⟨by rfl, ?_⟩) (by assumption) ?_
        rotate_left
        · (intro w hSw; (try dsimp only at hSw); go_simp; try with_reducible rfl)
        simp only [Act.put, List.setIfInBounds_toArray, List.set_cons_zero, List.set_cons_succ]
        refine take_dst 7 (some 100) rfl rfl (by kernel_rfl) (by kernel_rfl) (by kernel_rfl) (fun _ _ _ h => h) (v := ?_) (Or.inl ⟨by rfl, ?_⟩) (by assumption) ?_
        rotate_left
        · (intro w hSw; (try dsimp only at hSw); go_simp; try with_reducible rfl)
        simp only [Act.put, List.setIfInBounds_toArray, List.set_cons_zero, List.set_cons_succ]
        refine take_dst 8 (some 101) rfl rfl (by kernel_rfl) (by kernel_rfl) (by kernel_rfl) (fun _ _ _ h => h) (v := ?_) (Or.inl ⟨by rfl, ?_⟩) (by assumption) ?_
        rotate_left
        · (intro w hSw; (try dsimp only at hSw); go_simp; try with_reducible rfl)
        simp only [Act.put, List.setIfInBounds_toArray, List.set_cons_zero, List.set_cons_succ]
        refine take_dst 9 (some 102) rfl rfl (by kernel_rfl) (by kernel_rfl) (by kernel_rfl) (fun _ _ _ h => h) (v := ?_) (Or.inl ⟨by rfl, ?_⟩) (by assumption) ?_
        rotate_left
        · (intro w hSw; (try dsimp only at hSw); go_simp; try with_reducible rfl)
        simp only [Act.put, List.setIfInBounds_toArray, List.set_cons_zero, List.set_cons_succ]
        refine take_dst 10 (some 103) rfl rfl (by kernel_rfl) (by kernel_rfl) (by kernel_rfl) (fun _ _ _ h => h) (v := ?_) (Or.inl ⟨by rfl, ?_⟩) (by assumption) ?_
        rotate_left
        · (intro w hSw; (try dsimp only at hSw); go_simp; try with_reducible rfl)
        simp only [Act.put, List.setIfInBounds_toArray, List.set_cons_zero, List.set_cons_succ]
        refine take_dst 11 (some 104) rfl rfl (by kernel_rfl) (by kernel_rfl) (by kernel_rfl) (fun _ _ _ h => h) (v := ?_) (Or.inl ⟨by rfl, ?_⟩) (by assumption) ?_
        rotate_left
        · (intro w hSw; (try dsimp only at hSw); go_simp; try with_reducible rfl)
        simp only [Act.put, List.setIfInBounds_toArray, List.set_cons_zero, List.set_cons_succ]
        refine take_dst 12 (some 105) rfl rfl (by kernel_rfl) (by kernel_rfl) (by kernel_rfl) (fun _ _ _ h => h) (v := ?_) (Or.inl ⟨by rfl, ?_⟩) (by assumption) ?_
        rotate_left
        · (intro w hSw; (try dsimp only at hSw); go_simp; try with_reducible rfl)
        simp only [Act.put, List.setIfInBounds_toArray, List.set_cons_zero, List.set_cons_succ]
        refine take_dst 13 (some 106) rfl rfl (by kernel_rfl) (by kernel_rfl) (by kernel_rfl) (fun _ _ _ h => h) (v := ?_) (Or.inl ⟨by rfl, ?_⟩) (by assumption) ?_
        rotate_left
        · (intro w hSw; (try dsimp only at hSw); go_simp; try with_reducible rfl)
        simp only [Act.put, List.setIfInBounds_toArray, List.set_cons_zero, List.set_cons_succ]
        refine take_dst 14 (some 107) rfl rfl (by kernel_rfl) (by kernel_rfl) (by kernel_rfl) (fun _ _ _ h => h) (v := ?_) (Or.inl ⟨by rfl, ?_⟩) (by assumption) ?_
        rotate_left
        · (intro w hSw; (try dsimp only at hSw); go_simp; try with_reducible rfl)
        simp only [Act.put, List.setIfInBounds_toArray, List.set_cons_zero, List.set_cons_succ]
        refine take_dst 15 (some 108) rfl rfl (by kernel_rfl) (by kernel_rfl) (by kernel_rfl) (fun _ _ _ h => h) (v := ?_) (Or.inl ⟨by rfl, ?_⟩) (by assumption) ?_
        rotate_left
        · (intro w hSw; (try dsimp only at hSw); go_simp; try with_reducible rfl)
        simp only [Act.put, List.setIfInBounds_toArray, List.set_cons_zero, List.set_cons_succ]
        refine wpAnyH_ready (rs := [16]) (by kernel_rfl) (by simp) ?_
        refine AllReadyH.cons rfl (fun K hK => ?_) AllReadyH.nil
        go_simp
        have hgA := grownBy_alloc V (.cells #[.int .u8 x, .int .i64 (N + (k : Int) + 1), .bool true] 83)
        have HTA := hidden (HTd.out.grown hgA)
        have HKA := hidden (HKd.out.trans (O' := ROwn M (.slice none 0 0)) (kept_none hgA) (fun _ _ h => h))
        have HRA := hidden (HRd.out.kept hgA (by cases Value.ownBlock (.slice va3 k vc3) <;> simp))
        have hVb : b ≤ (V.alloc (.cells #[.int .u8 x, .int .i64 (N + (k : Int) + 1), .bool true] 83)).heap.size := by rw [← Hb.out]; exact HKA.out.size
        refine hK.out _ _ (HSx.out _ HKA.out HTA.out.c1) (fun hHeld1 => ?_)
        clear hK K hHeld hgA
        refine wpAnyH_ready (rs := [17]) (by kernel_rfl) (by simp) ?_
        refine AllReadyH.cons rfl (fun K hK => ?_) AllReadyH.nil
        refine step_append_at rfl (.tmp 93) (.tmp 109) 36 rfl b 83 i0 (.agg #[.int .u8 0, .int .i64 0, .bool false]) 3 24 Try.underlying36 hi hz0 hz1 hz2 rfl (by decide) (.slice va3 k vc3) k _ (by simp [Act.eval]) HRA.out ⟨V.heap.size, 0, none⟩ 1 1 [.int .u8 x, .int .i64 (N + (k : Int) + 1), .bool true] (by simp [Act.eval]) rfl (cells3 _ _ _ _) (by intro u hu; simp at hu; rcases hu with rfl | rfl | rfl <;> rfl) (by unfold maxLen; omega) (by omega) hVb (by decide) ?_
        intro v' w2 hr2 hg2
        obtain ⟨va4, vc4, rfl⟩ := own_any_slice hr2.out
        obtain ⟨q0, q1⟩ := HTA.out.kept1 HKA.out Hb.out.symm HV3.out HLV.out hMw (Rl.refl _) hg2.out
        have q2 : Hid (w2.ownsRow b 83 3 (.slice va4 (k + 1) vc4) (k + 1) (rowC (comeC (l.take (k + 1)) N false))) := by rw [HN.out, hk0b]; exact hr2.out
        clear hr2 hg2
        refine hK.out _ _ (HSx.out _ q1.out q0.out.c1) (fun hHeld2 => ?_)
        clear hK K hHeld1
        refine take_dst 18 (some 8) rfl rfl (by kernel_rfl) (by kernel_rfl) (by kernel_rfl) (fun _ _ _ h => h) (v := ?_) (Or.inl ⟨by rfl, ?_⟩) (by assumption) ?_
        rotate_left
        · (intro w hSw; (try dsimp only at hSw); go_simp; try with_reducible rfl)
        simp only [Act.put, List.setIfInBounds_toArray]
        refine wpAnyH_done (by kernel_rfl) ?_ _
        clear hHeld2 HSx HTA HKA HRA HTd HKd HRd
        go_wp2
        go_roundw
        case rel => exact ⟨k + 1, by omega, by go_num, q2.out, by push_cast; rw [← Int.add_assoc]; exact q0.out, q1.out⟩
        case measure => simp [intOf]; omega
      · have hk0b : (((k : Int) == 0) && !false) = false := by rw [show ((k : Int) == 0) = false from by simp; omega]; rfl
        have hk0z : ((k : Int) == 0) = false := by simp; omega
        have hk0y : ¬ ((k : Int) = 0) := by omega
        clear hk0
        refine wp_region_held_drew (S := (fun u : World => u.cell? (ad.add k) = some (.int .u8 x) ∧ u.cell? ⟨M, 1, none⟩ = some (.int .i64 (N + (k : Int) + 1)))) (by kernel_rfl) (HSx.out _ HKd.out HTd.out.c1) (fun hHeld => ?_)
        generalize Wr.drew = V at *
        refine take_dst 0 (some 93) rfl rfl (by kernel_rfl) (by kernel_rfl) (by kernel_rfl) (fun _ _ _ h => h) (v := ?_) (Or.inl ⟨by rfl, ?_⟩) (by assumption) ?_
        rotate_left
        · (intro w hSw; (try dsimp only at hSw); go_simp; try with_reducible rfl)
        simp only [Act.put, List.setIfInBounds_toArray, List.set_cons_zero, List.set_cons_succ]
        refine take_dst 1 (some 94) rfl rfl (by kernel_rfl) (by kernel_rfl) (by kernel_rfl) (fun _ _ _ h => h) (v := ?_) (Or.inl ⟨by rfl, ?_⟩) (by assumption) ?_
        rotate_left
        · (intro w hSw; (try dsimp only at hSw); go_simp; try with_reducible rfl)
        simp only [Act.put, List.setIfInBounds_toArray, List.set_cons_zero, List.set_cons_succ]
        refine take_dst 2 (some 95) rfl rfl (by kernel_rfl) (by kernel_rfl) (by kernel_rfl) (fun _ _ _ h => h) (v := ?_) (Or.inl ⟨by rfl, ?_⟩) (by assumption) ?_
        rotate_left
        · (intro w hSw; (try dsimp only at hSw); go_simp; try with_reducible rfl)
        simp only [Act.put, List.setIfInBounds_toArray, List.set_cons_zero, List.set_cons_succ]
        refine take_dst 3 (some 96) rfl rfl (by kernel_rfl) (by kernel_rfl) (by kernel_rfl) (fun _ _ _ h => h) (v := ?_) (Or.inl ⟨by rfl, ?_⟩) (by assumption) ?_
        rotate_left
        · (intro w hSw; (try dsimp only at hSw); go_simp; try with_reducible rfl)
        simp only [Act.put, List.setIfInBounds_toArray, List.set_cons_zero, List.set_cons_succ]
        refine take_dst 4 (some 97) rfl rfl (by kernel_rfl) (by kernel_rfl) (by kernel_rfl) (fun _ _ _ h => h) (v := ?_) (Or.inl ⟨by rfl, ?_⟩) (by assumption) ?_
        rotate_left
        · (intro w hSw; (try dsimp only at hSw); go_simp; try with_reducible rfl)
        simp only [Act.put, List.setIfInBounds_toArray, List.set_cons_zero, List.set_cons_succ]
        refine take_dst 5 (some 98) rfl rfl (by kernel_rfl) (by kernel_rfl) (by kernel_rfl) (fun _ _ _ h => h) (v := ?_) (Or.inl ⟨by rfl, ?_⟩) (by assumption) ?_
        rotate_left
        · (intro w hSw; (try dsimp only at hSw); go_simp; try with_reducible rfl)
        simp only [Act.put, List.setIfInBounds_toArray, List.set_cons_zero, List.set_cons_succ]
        refine take_dst 6 (some 99) rfl rfl (by kernel_rfl) (by kernel_rfl) (by kernel_rfl) (fun _ _ _ h => h) (v := ?_) (Or.inl ⟨by rfl, ?_⟩) (by assumption) ?_
        rotate_left
        · (intro w hSw; (try dsimp only at hSw); go_simp; try with_reducible rfl)
        simp only [Act.put, List.setIfInBounds_toArray, List.set_cons_zero, List.set_cons_succ]
        refine take_dst 7 (some 100) rfl rfl (by kernel_rfl) (by kernel_rfl) (by kernel_rfl) (fun _ _ _ h => h) (v := ?_) (Or.inl ⟨by rfl, ?_⟩) (by assumption) ?_
        rotate_left
        · (intro w hSw; (try dsimp only at hSw); go_simp; try with_reducible rfl)
        simp only [Act.put, List.setIfInBounds_toArray, List.set_cons_zero, List.set_cons_succ]
        refine take_dst 8 (some 101) rfl rfl (by kernel_rfl) (by kernel_rfl) (by kernel_rfl) (fun _ _ _ h => h) (v := ?_) (Or.inl ⟨by rfl, ?_⟩) (by assumption) ?_
        rotate_left
        · (intro w hSw; (try dsimp only at hSw); go_simp; try with_reducible rfl)
        simp only [Act.put, List.setIfInBounds_toArray, List.set_cons_zero, List.set_cons_succ]
        refine take_dst 9 (some 102) rfl rfl (by kernel_rfl) (by kernel_rfl) (by kernel_rfl) (fun _ _ _ h => h) (v := ?_) (Or.inl ⟨by rfl, ?_⟩) (by assumption) ?_
        rotate_left
        · (intro w hSw; (try dsimp only at hSw); go_simp; try with_reducible rfl)
        simp only [Act.put, List.setIfInBounds_toArray, List.set_cons_zero, List.set_cons_succ]
        refine take_dst 10 (some 103) rfl rfl (by kernel_rfl) (by kernel_rfl) (by kernel_rfl) (fun _ _ _ h => h) (v := ?_) (Or.inl ⟨by rfl, ?_⟩) (by assumption) ?_
        rotate_left
        · (intro w hSw; (try dsimp only at hSw); go_simp; try with_reducible rfl)
        simp only [Act.put, List.setIfInBounds_toArray, List.set_cons_zero, List.set_cons_succ]
        refine take_dst 11 (some 104) rfl rfl (by kernel_rfl) (by kernel_rfl) (by kernel_rfl) (fun _ _ _ h => h) (v := ?_) (Or.inl ⟨by rfl, ?_⟩) (by assumption) ?_
        rotate_left
        · (intro w hSw; (try dsimp only at hSw); go_simp; try with_reducible rfl)
        simp only [Act.put, List.setIfInBounds_toArray, List.set_cons_zero, List.set_cons_succ]
        refine take_dst 12 (some 105) rfl rfl (by kernel_rfl) (by kernel_rfl) (by kernel_rfl) (fun _ _ _ h => h) (v := undef) (Or.inr ⟨by rfl, rfl⟩) (by assumption) ?_
        simp only [Act.put, List.setIfInBounds_toArray, List.set_cons_zero, List.set_cons_succ]
        refine take_dst 13 (some 106) rfl rfl (by kernel_rfl) (by kernel_rfl) (by kernel_rfl) (fun _ _ _ h => h) (v := undef) (Or.inr ⟨by rfl, rfl⟩) (by assumption) ?_
        simp only [Act.put, List.setIfInBounds_toArray, List.set_cons_zero, List.set_cons_succ]
        refine take_dst 14 (some 107) rfl rfl (by kernel_rfl) (by kernel_rfl) (by kernel_rfl) (fun _ _ _ h => h) (v := ?_) (Or.inl ⟨by rfl, ?_⟩) (by assumption) ?_
        rotate_left
        · (intro w hSw; (try dsimp only at hSw); go_simp; try with_reducible rfl)
        simp only [Act.put, List.setIfInBounds_toArray, List.set_cons_zero, List.set_cons_succ]
        refine take_dst 15 (some 108) rfl rfl (by kernel_rfl) (by kernel_rfl) (by kernel_rfl) (fun _ _ _ h => h) (v := ?_) (Or.inl ⟨by rfl, ?_⟩) (by assumption) ?_
        rotate_left
        · (intro w hSw; (try dsimp only at hSw); go_simp; try with_reducible rfl)
        simp only [Act.put, List.setIfInBounds_toArray, List.set_cons_zero, List.set_cons_succ]
        refine wpAnyH_ready (rs := [16]) (by kernel_rfl) (by simp) ?_
        refine AllReadyH.cons rfl (fun K hK => ?_) AllReadyH.nil
        go_simp
        have hgA := grownBy_alloc V (.cells #[.int .u8 x, .int .i64 (N + (k : Int) + 1), .bool false] 83)
        have HTA := hidden (HTd.out.grown hgA)
        have HKA := hidden (HKd.out.trans (O' := ROwn M (.slice none 0 0)) (kept_none hgA) (fun _ _ h => h))
        have HRA := hidden (HRd.out.kept hgA (by cases Value.ownBlock (.slice va3 k vc3) <;> simp))
        have hVb : b ≤ (V.alloc (.cells #[.int .u8 x, .int .i64 (N + (k : Int) + 1), .bool false] 83)).heap.size := by rw [← Hb.out]; exact HKA.out.size
        refine hK.out _ _ (HSx.out _ HKA.out HTA.out.c1) (fun hHeld1 => ?_)
        clear hK K hHeld hgA
        refine wpAnyH_ready (rs := [17]) (by kernel_rfl) (by simp) ?_
        refine AllReadyH.cons rfl (fun K hK => ?_) AllReadyH.nil
        refine step_append_at rfl (.tmp 93) (.tmp 109) 36 rfl b 83 i0 (.agg #[.int .u8 0, .int .i64 0, .bool false]) 3 24 Try.underlying36 hi hz0 hz1 hz2 rfl (by decide) (.slice va3 k vc3) k _ (by simp [Act.eval]) HRA.out ⟨V.heap.size, 0, none⟩ 1 1 [.int .u8 x, .int .i64 (N + (k : Int) + 1), .bool false] (by simp [Act.eval]) rfl (cells3 _ _ _ _) (by intro u hu; simp at hu; rcases hu with rfl | rfl | rfl <;> rfl) (by unfold maxLen; omega) (by omega) hVb (by decide) ?_
        intro v' w2 hr2 hg2
        obtain ⟨va4, vc4, rfl⟩ := own_any_slice hr2.out
        obtain ⟨q0, q1⟩ := HTA.out.kept1 HKA.out Hb.out.symm HV3.out HLV.out hMw (Rl.refl _) hg2.out
        have q2 : Hid (w2.ownsRow b 83 3 (.slice va4 (k + 1) vc4) (k + 1) (rowC (comeC (l.take (k + 1)) N false))) := by rw [HN.out, hk0b]; exact hr2.out
        clear hr2 hg2
        refine hK.out _ _ (HSx.out _ q1.out q0.out.c1) (fun hHeld2 => ?_)
        clear hK K hHeld1
        refine take_dst 18 (some 8) rfl rfl (by kernel_rfl) (by kernel_rfl) (by kernel_rfl) (fun _ _ _ h => h) (v := ?_) (Or.inl ⟨by rfl, ?_⟩) (by assumption) ?_
        rotate_left
        · (intro w hSw; (try dsimp only at hSw); go_simp; try with_reducible rfl)
        simp only [Act.put, List.setIfInBounds_toArray]
        refine wpAnyH_done (by kernel_rfl) ?_ _
        clear hHeld2 HSx HTA HKA HRA HTd HKd HRd
        go_wp2
        go_roundw
        case rel => exact ⟨k + 1, by omega, by go_num, q2.out, by push_cast; rw [← Int.add_assoc]; exact q0.out, q1.out⟩
        case measure => simp [intOf]; omega
    · have hkz : ¬ ((k : Int) < (n : Int)) := by omega
      obtain rfl : k = n := by omega
      have hlk : l.take k = l := List.take_of_length_le (by rw [Hl.out]; exact Nat.le_refl _)
      rw [hlk] at hr
      have d0 := hT.c0
      have HTr := hidden hT
      have HKr := hidden hK
      have HRr := hidden hr
      have hwb : b ≤ wr.heap.size := by rw [← Hb.out]; exact hK.size
      have HLs : Hid ((comeC l N false).length + cz.length = k + 0) := by unfold Hid; rw [comeC_len, Hl1.out, Hl.out]
      have Hd0 : Hid (cz = []) := List.length_eq_zero_iff.1 Hl1.out
      have d9 := hT.fz 0
      clear hr hT hK hlk
      go_wp2_with (at_builtin; refine wpList_append_own_none rfl _ _ 36 rfl b 83 i0 3 Try.underlying36 hi _ _ _ rfl HRr.out rfl ?_)
      have hrr : wr.ownsRow b 83 3 (.slice va3 k vc3) k (rowC (comeC l N false) ++ rowC cz) := by rw [Hd0.out]; simpa [rowC] using HRr.out
      obtain ⟨q0, q1, q2, q3, q4⟩ := rdel_fin HTr.out (Rl.refl _) (grownBy_refl wr _) HV3.out hMw hrr HLs.out hB HKr.out Hb.out.symm
      clear d0 hrr
      go_ret
      exact ⟨rfl, _, q2.out, q3.out, q4.out⟩

theorem rins_zero (cs : List Rc) (l : List Nat) (N : Int) : rins cs 0 l N = comeC l N false ++ setF cs 0 := by
  unfold rins onOf
  rw [decide_eq_false (by omega), Bool.false_and, List.take_zero, List.nil_append, List.drop_zero]
/-- What the cells are behind an Insert, of bytes or of none. -/
def rinsL (cs : List Rc) (at' : Nat) (l : List Nat) (N : Int) : List Rc := if l.length = 0 then cs else rins cs at' l N

/-- Insert, where there is such a place, and room. -/
theorem rinsert (B M : Nat) (lv : Value) (cs : List Rc) (N : Int) (at' : Nat) (v : Value) (l : List Nat) (w : World) (h : RTab B w M lv cs N) (hs2 : cs.length + l.length ≤ 65536) (hat : at' ≤ cs.length) (hB : B ≤ w.heap.size) (hN : 0 ≤ N ∧ N ≤ 1000000000) (hv : PlatenPiece.Src w v l) (hout : ∀ ad n c, v = .slice (some ad) n c → 0 < l.length → ¬ ROwn M lv ad.block) :
    Calls Try.prog 45 #[.pointer (some ⟨M, 0, none⟩), .int .i64 at', v] w fun e w' => e = .returned (.int .i64 0) ∧ ∃ lv', RTab B w' M lv' (rinsL cs at' l N) (N + (l.length : Int)) ∧ Kept (ROwn M lv) w w' ∧ (∀ k, k < w.heap.size → lv'.ownBlock = some k → lv.ownBlock = some k) := by
  unfold rinsL
  rcases Nat.eq_zero_or_pos l.length with h0 | h0
  · obtain ⟨va, vc, rfl⟩ := hv.form
    rw [if_pos h0, h0] at *
    refine (rinsert_zero B M lv cs N at' va vc w h hat (by omega)).mono ?_
    rintro e w' ⟨rfl, rfl⟩
    exact ⟨rfl, lv, by simpa using h, Kept.refl _ _, fun _ _ h => h⟩
  · rw [if_neg (by omega)]
    obtain ⟨ad, cap, rfl, hc⟩ : ∃ ad cap, v = .slice (some ad) l.length cap ∧ ∀ j u, (bytesV l)[j]? = some u → w.cell? (ad.add j) = some u := by
      rcases hv with ⟨_, rfl⟩ | hv
      · simp at h0
      · exact hv
    have ho := hout ad _ cap rfl h0
    have fin : ∀ {e : Ending} {w' : World}, (e = .returned (.int .i64 0) ∧ ∃ lv', RTab B w' M lv' (rins cs at' l N) (N + (l.length : Int)) ∧ Kept (ROwn M lv) w w' ∧ (∀ k, lv'.ownBlock = some k → w.heap.size ≤ k)) → (e = .returned (.int .i64 0) ∧ ∃ lv', RTab B w' M lv' (rins cs at' l N) (N + (l.length : Int)) ∧ Kept (ROwn M lv) w w' ∧ (∀ k, k < w.heap.size → lv'.ownBlock = some k → lv.ownBlock = some k)) := fun ⟨a, lv', b, c, d⟩ => ⟨a, lv', b, c, fun k hk q => by have := d k q; omega⟩
    rcases h.row.2 with ⟨rfl, hz⟩ | ⟨g, vc, cur, rfl, _, _, h1, h2, _⟩
    · obtain rfl : at' = 0 := by omega
      rw [rins_zero] at fin ⊢
      exact (rinz_none B M 0 0 cs N ad cap l.length l w h hz (by omega) hB (by omega) rfl h0 hN hc ho).mono fun e w' => fin
    · have hvm : vc ≤ 9223372036854775807 := by unfold maxLen at h2; omega
      rcases Nat.eq_zero_or_pos at' with ha | ha
      · subst ha
        rw [rins_zero] at fin ⊢
        rcases Nat.eq_zero_or_pos cs.length with hz | hz
        · rw [hz] at h ho fin ⊢
          exact (rinz_eq B M g vc cs N ad cap l.length l w h hz (by omega) hB hvm rfl h0 hN hc ho).mono fun e w' => fin
        · exact (rinz_lt B M g vc cs N ad cap l.length l w cs.length h rfl hs2 hz h1 hB hvm rfl h0 hN hc ho).mono fun e w' => fin
      · rcases Nat.lt_or_ge at' cs.length with hb | hb
        · rcases Int.lt_or_le 0 N with hn | hn
          · exact (rins_lt_on B M g vc cs N at' ad cap l.length l w cs.length h rfl hs2 hat hB h1 hvm rfl h0 hN hc ho hb ha hn).mono fun e w' => fin
          · exact (rins_lt_n0 B M g vc cs N at' ad cap l.length l w cs.length h rfl hs2 hat hB h1 hvm rfl h0 hN hc ho hb ha hn).mono fun e w' => fin
        · have he : cs.length = at' := by omega
          rw [he] at h ho fin hs2 h1 ⊢
          rcases Int.lt_or_le 0 N with hn | hn
          · exact (rins_eq_on B M g vc cs N at' ad cap l.length l w h he hs2 hB h1 hvm rfl h0 hN hc ho ha hn).mono fun e w' => fin
          · exact (rins_eq_n0 B M g vc cs N at' ad cap l.length l w h he hs2 hB h1 hvm rfl h0 hN hc ho ha hn).mono fun e w' => fin
end Go.Proofs.PlatenPiece
