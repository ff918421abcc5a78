/- What layout.Sizes comes to: the walk. -/
import Derived.Test.YtaefnlknendapaaLyB
import Derived.Laws.OwnMore
namespace Go.Proofs.PlatenLayout
open Go Go.RowKit Go.Shelf
set_option linter.unusedVariables false
set_option maxRecDepth 100000

theorem made_row {w1 : World} {B G n : Nat} (hr : w1.ownsRow B 3 1 (.slice (some ⟨G, 0, none⟩) n n) n (madeCells (Value.int .i64 0).cells (n * 1)).toList) : B ≤ G ∧ w1.heap[G]? = some (.cells (zs (List.replicate n 0)).toArray 3 (0, 0)) := by
  rcases hr.2 with ⟨e, h0⟩ | ⟨g, cp, cur, e, hbg, hg, hnc, hcm, hcs, ht⟩
  · cases e
  · injection e with e1 e2 e3
    injection e1 with e1
    injection e1 with e1
    subst e1 e3
    refine ⟨hbg, ?_⟩
    have e : cur.toList = (zs (List.replicate n 0)) := by
      rw [List.take_of_length_le (by rw [Array.length_toList, hcs]; exact Nat.le_refl _)] at ht
      rw [ht]
      show (madeCells #[Value.int .i64 0] (n * 1)).toList = _
      rw [toList_madeCells_one, Nat.mul_one]
      simp [zs]
    rw [hg, ← e]
theorem sz_start {w w1 : World} {n : Nat} (hr : w1.ownsRow w.heap.size 3 1 (.slice (some ⟨w.heap.size, 0, none⟩) n n) n (madeCells (Value.int .i64 0).cells (n * 1)).toList) (hg : w.grownBy w1 none) :
    SZ w.heap.size w.heap.size w1.heap.size w (((w1.alloc (.cells #[.slice (some ⟨w.heap.size, 0, none⟩) n n] 26)).alloc (.cells #[.int .i64 0] 3)).alloc (.cells #[.slice none 0 0] 26)) n (.slice none 0 0) 0 (List.replicate n 0) [] := by
  obtain ⟨h1, h2⟩ := made_row hr
  have hlt : w.heap.size < w1.heap.size := (Array.getElem?_eq_some_iff.1 h2).1
  refine ⟨Nat.le_refl _, hlt, by simp, ?_, ?_, ?_, ?_, by simp, World.ownsRow_nil _ _ _ _, ?_⟩
  · rw [Below.heap_alloc _ _ _ (by simp; omega), Below.heap_alloc _ _ _ (by simp; omega), Below.heap_alloc _ _ _ hlt]; exact h2
  · rw [Below.heap_alloc _ _ _ (by simp; omega), Below.heap_alloc _ _ _ (by simp)]; exact heap_alloc_new _ _
  · rw [Below.heap_alloc _ _ _ (by simp)]
    have := heap_alloc_new (w1.alloc (.cells #[.slice (some ⟨w.heap.size, 0, none⟩) n n] 26)) (.cells #[.int .i64 0] 3)
    rw [World.size_alloc] at this
    exact this
  · have := heap_alloc_new ((w1.alloc (.cells #[.slice (some ⟨w.heap.size, 0, none⟩) n n] 26)).alloc (.cells #[.int .i64 0] 3)) (.cells #[.slice none 0 0] 26)
    rw [World.size_alloc, World.size_alloc] at this
    exact this
  · exact ((((Below.refl w.heap.size w).grown hg (Nat.le_refl _) (by simp)).alloc (by omega) _).alloc (by simp; omega) _).alloc (by simp; omega) _

set_option maxHeartbeats 8000000 in
theorem sizes_any {v : Value} {l : List It} {w : World} (h : IsItems w v l) (ok : OkL l) :
    Calls Try.prog 13 #[v] w fun e w' => ∃ u, e = .returned u ∧ IsZ w' u (szs l) ∧ Below w.heap.size w w' := by
  obtain ⟨i3, hi3, hz3, hy3, hb3⟩ := info_parts info3
  obtain ⟨i51, hi51, hz51, hy51, hb51⟩ := info_parts info51
  obtain ⟨a, cap, rfl⟩ := h.val
  have hl1 := ok.1
  have HL := hidden h
  have Hok := hidden ok
  have hby : i3.bytes * l.length ≤ 281474976710656 := by rw [hb3]; omega
  have hml : l.length ≤ maxLen := by unfold maxLen; omega
  clear h ok
  obtain ⟨n, hn⟩ : ∃ n, l.length = n := ⟨_, rfl⟩
  rw [hn] at hl1 hby hml ⊢
  have Hn := hidden hn
  clear hn
  go_enter Try.func13, Try.ntmps13
  go_wp2_with (at_make; refine wpList_make_full _ rfl _ _ _ rfl w.heap.size 3 i3 (.int .i64 0) 1 Try.underlying26 hi3 hz3 hy3 .i64 .i64 (n : Int) (n : Int) n rfl rfl rfl rfl hby hml (Nat.le_refl _) ?_)
  intro w1 hr hg
  have S0 := hidden (sz_start (n := n) (by rw [Nat.mul_one]; exact hr) hg)
  have hsz := hg.size
  clear hr hg hby hml
  go_wp2_with fail
  generalize w1.heap.size = V at *
  go_loopw [5, 21] (fun ov i wr => ∃ (k : Nat) (pv : Value) (z : List Int) (P : List Nat) (O : List (Nat × Nat)), k ≤ n ∧ i = .int .i64 (k : Nat) ∧ Inv l k z P O ∧ SZ w.heap.size w.heap.size V w wr n pv (pre l k) z P ∧ wr.ownsRow (V + 3) 51 2 ov O.length (rowO O)) (fun _ i _ => n - (intOf i).toNat)
  case atStart => exact ⟨0, _, _, [], [], Nat.zero_le _, rfl, by rw [← Hn.out]; exact inv_start l, S0.out, World.ownsRow_nil _ _ _ _⟩
  case round =>
    obtain ⟨k, pv, z, P, O, hk, rfl, I, S, R⟩ := hrel
    obtain ⟨hPb, hOb, hzb⟩ := inv_b I Hok.out
    have hpb := Hok.out.pre k
    have hbel := S.bel
    by_cases hlt : k < n
    · have hll : k < l.length := by rw [Hn.out]; exact hlt
      obtain ⟨b, off, cp, hv, hcap, x0, x1, x2, x3, x4, x5⟩ := (HL.out.below hbel).at' hll
      obtain ⟨x, hx⟩ : ∃ x, l[k] = x := ⟨_, rfl⟩
      have hkd : kd l k = x.kind := by rw [kd_get hll, hx]
      have hox : OkIt x := Hok.out.2 x (by rw [← hx]; exact List.getElem_mem hll)
      rw [hx] at x0 x1 x2 x3 x4 x5
      have Hx := hidden hx
      rw [Hn.out] at hv hcap
      injection hv with hv1 hv2 hv3
      subst hv1 hv3
      have hlz : (k : Int) < (n : Int) := by omega
      have SA : Hid (∀ cs, SZ w.heap.size w.heap.size V w (wr.alloc (.cells cs 38)) n pv (pre l k) z P) := fun cs => S.grown (grownBy_alloc wr _)
      have RA : Hid (∀ cs, (wr.alloc (.cells cs 38)).ownsRow (V + 3) 51 2 u5 O.length (rowO O)) := fun cs => R.alloc _
      have hkz := hidden S.bs
      have HI := hidden I
      obtain ⟨y, hy⟩ : ∃ y, x.kind = y := ⟨_, rfl⟩
      have hkd2 : kd l k = y := hkd.trans hy
      have hk8 : y < 256 := by rw [← hy]; exact hox.kind
      rw [hy] at x0
      have HX := hidden hox
      have HY := hidden hy
      have HK := hidden hkd2
      have Hzb := hidden hzb
      clear hkd hx hox hy hkd2 hv2 I S R hbel hzb
      by_cases k1 : y = 1
      · have z1 : ((y : Int) == 1) = true := by simp; omega
        go_wp2_with fail
        have SW := SA.out #[.int .u8 1, .string (str x.tx), .int .i64 x.n, .int .i64 x.off, .bool x.col, .bool x.whole]
        have RW := RA.out #[.int .u8 1, .string (str x.tx), .int .i64 x.n, .int .i64 x.off, .bool x.col, .bool x.whole]
        have e1 : (wr.alloc (.cells #[.int .u8 1, .string (str x.tx), .int .i64 x.n, .int .i64 x.off, .bool x.col, .bool x.whole] 38)).cell? ⟨wr.heap.size, 1, none⟩ = some (.string (str x.tx)) := by simp
        have hKlt : wr.heap.size < (wr.alloc (.cells #[.int .u8 1, .string (str x.tx), .int .i64 x.n, .int .i64 x.off, .bool x.col, .bool x.whole] 38)).heap.size := by simp
        generalize wr.alloc (.cells #[.int .u8 1, .string (str x.tx), .int .i64 x.n, .int .i64 x.off, .bool x.col, .bool x.whole] 38) = W at *
        generalize wr.heap.size = M at *
        clear SA RA x0 x1 x2 x3 x4 x5
        have c1 := SW.c1
        obtain ⟨cc, w2, hcv, hb2, hg2⟩ := conv_bytes W.drew x.tx HX.out.tx (by have := HX.out.len; omega)
        have hcv0 := hcv
        clear hcv
        have hcv : (convert 9 33 (.string (str x.tx))).run Try.prog W.drew = .ok (.slice (some ⟨W.heap.size, 0, none⟩) x.tx.length cc) w2 := hcv0
        clear hcv0
        have hg3 : W.grownBy w2 none := grown_trans (grown_d W) hg2
        clear hg2
        have cc1 := PlatenGlyph.count_any _ _ _ w2 hb2
        rw [← HX.out.ch] at cc1
        have hxc := HX.out.ch_le
        refine wp_region_held_drew (S := (fun u => u.cell? ⟨V, 0, none⟩ = some (.slice (some ⟨w.heap.size, 0, none⟩) n n) ∧ u.cell? ⟨M, 1, none⟩ = some (.string (str x.tx)))) (by kernel_rfl) ⟨c1, e1⟩ (fun hHeld => ?_)
        refine take_dst 0 (some 30) rfl rfl (by kernel_rfl) (by kernel_rfl) (by kernel_rfl) (fun _ _ _ h => h) (v := ?_) (Or.inl ⟨by rfl, ?_⟩) (by assumption) ?_
        rotate_left
        · (intro w hSw; (try dsimp only at hSw); go_simp; try with_reducible rfl)
        simp only [Act.put, List.setIfInBounds_toArray, List.set_cons_zero, List.set_cons_succ]
        refine take_dst 1 (some 31) rfl rfl (by kernel_rfl) (by kernel_rfl) (by kernel_rfl) (fun _ _ _ h => h) (v := ?_) (Or.inl ⟨by rfl, ?_⟩) (by assumption) ?_
        rotate_left
        · (intro w hSw; (try dsimp only at hSw); go_simp; try with_reducible rfl)
        simp only [Act.put, List.setIfInBounds_toArray, List.set_cons_zero, List.set_cons_succ]
        refine take_dst 2 (some 32) rfl rfl (by kernel_rfl) (by kernel_rfl) (by kernel_rfl) (fun _ _ _ h => h) (v := ?_) (Or.inl ⟨by rfl, ?_⟩) (by assumption) ?_
        rotate_left
        · (intro w hSw; (try dsimp only at hSw); go_simp; try with_reducible rfl)
        simp only [Act.put, List.setIfInBounds_toArray, List.set_cons_zero, List.set_cons_succ]
        refine take_dst 3 (some 33) rfl rfl (by kernel_rfl) (by kernel_rfl) (by kernel_rfl) (fun _ _ _ h => h) (v := ?_) (Or.inl ⟨by rfl, ?_⟩) (by assumption) ?_
        rotate_left
        · (intro w hSw; (try dsimp only at hSw); go_simp; try with_reducible rfl)
        simp only [Act.put, List.setIfInBounds_toArray, List.set_cons_zero, List.set_cons_succ]
        refine wpAnyH_ready (rs := [4]) (by kernel_rfl) (by simp) ?_
        refine AllReadyH.cons rfl (fun K hK => ?_) AllReadyH.nil
        go_simp
        have S2 := SW.grown hg3
        have e2 : w2.cell? ⟨M, 1, none⟩ = some (.string (str x.tx)) := (World.cell?_of_block (hg3.block M hKlt (by simp))).trans e1
        have R2 := row_grown RW hg3 (by simp)
        have hKlt2 := Nat.lt_of_lt_of_le hKlt hg3.size
        refine hK.out _ _ ⟨S2.c1, e2⟩ (fun hHeld2 => ?_)
        clear hK K
        refine wpAnyH_ready (rs := [5]) (by kernel_rfl) (by simp) ?_
        refine AllReadyH.cons rfl (fun K hK => ?_) AllReadyH.nil
        go_simp
        refine cc1.mono ?_
        rintro e w3 ⟨rfl, hb3⟩
        have hg4 := grown_below hb3
        have S3 := S2.grown hg4
        have e3 : w3.cell? ⟨M, 1, none⟩ = some (.string (str x.tx)) := (World.cell?_of_block (hg4.block M hKlt2 (by simp))).trans e2
        have R3 := row_grown R2 hg4 (by simp)
        refine hK.out _ _ ⟨S3.c1, e3⟩ (fun hHeld3 => ?_)
        clear hK K
        have hzk := HI.out.rest k (Nat.le_refl _) hll
        have d3 := S3.cz hzk
        have f3 := S3.f0 k
        have S4 := S3.setz k (x.ch : Nat)
        have e4 : (w3.setCell ⟨w.heap.size, k, none⟩ (.int .i64 (x.ch : Nat))).cell? ⟨M, 1, none⟩ = some (.string (str x.tx)) := (World.cell?_of_block (set_other _ _ _ _ _ (show M ≠ w.heap.size by have := hkz.out; have := S3.gv; omega))).trans e3
        have R4 : (w3.setCell ⟨w.heap.size, k, none⟩ (.int .i64 (x.ch : Nat))).ownsRow (V + 3) 51 2 u5 O.length (rowO O) := row_same R3 (fun q hq => set_other _ _ _ _ _ (by have := (R3.lt q hq).1; have := S3.gv; omega))
        have HS4 := hidden S4
        have HR4 := hidden R4
        have c4 := S4.c1
        clear hb3 hg4 S2 R2 R3 S4 R4 hg3 hb2 cc1 RW SW hcv
        refine take_dst 6 (some 36) rfl rfl (by kernel_rfl) (by kernel_rfl) (by kernel_rfl) (fun _ _ _ h => h) (v := ?_) (Or.inl ⟨by rfl, ?_⟩) (by assumption) ?_
        rotate_left
        · (intro w hSw; (try dsimp only at hSw); go_simp; try with_reducible rfl)
        simp only [Act.put, List.setIfInBounds_toArray, List.set_cons_zero, List.set_cons_succ]
        refine wpAnyH_ready (rs := [7]) (by kernel_rfl) (by simp) ?_
        refine AllReadyH.cons rfl (fun K hK => ?_) AllReadyH.nil
        go_simp
        refine hK.out _ _ ⟨c4, e4⟩ (fun hHeld4 => ?_)
        clear hK K
        refine wpAnyH_done (by kernel_rfl) ?_ _
        generalize w3.setCell ⟨w.heap.size, k, none⟩ (.int .i64 (x.ch : Nat)) = w4 at *
        clear hHeld hHeld2 hHeld3 hHeld4 S3 e1 e2 e3 d3 f3 c1 c4 e4
        have c1 := HS4.out.c1
        have c2 := HS4.out.c2
        have cz := HS4.out.cz (j := k) (a := (x.ch : Nat)) (by rw [List.getElem?_set_self (by rw [HI.out.len]; exact hll)])
        have f2 := HS4.out.f2 0
        go_wp2_with fail
        go_region
        have hit := HI.out.text hll (HK.out.trans k1) (c := x.ch) (by rw [Hx.out])
        have H5 := (HS4.out.total (pre l (k + 1))).grown (grown_d _)
        have R5 := row_grown (row_same HR4.out (fun q hq => set_other w4 (V + 1) 0 (.int .i64 ((pre l (k + 1) : Nat) : Int)) q (by have := (HR4.out.lt q hq).1; omega))) (grown_d _) (by simp)
        have hpe : ((pre l (k + 1) : Nat) : Int) = (pre l k : Nat) + (x.ch : Nat) := by have := hit.2; omega
        rw [hpe] at H5 R5
        have HJ := hidden hit.1
        have H5 := hidden H5
        have R5 := hidden R5
        clear hit hpe c1 c2 cz f2
        go_wp2
        go_roundw
        case rel => exact ⟨k + 1, pv, _, P, O, hlt, by go_num, HJ.out, H5.out, R5.out⟩
        case measure => simp [intOf]; omega
      have z1 : ((y : Int) == 1) = false := by simp; omega
      by_cases k2 : y = 2
      · have z2 : ((y : Int) == 2) = true := by simp; omega
        have SW := SA.out #[.int .u8 2, .string (str x.tx), .int .i64 x.n, .int .i64 x.off, .bool x.col, .bool x.whole]
        have RW := RA.out #[.int .u8 2, .string (str x.tx), .int .i64 x.n, .int .i64 x.off, .bool x.col, .bool x.whole]
        have hMW : (wr.alloc (.cells #[.int .u8 2, .string (str x.tx), .int .i64 x.n, .int .i64 x.off, .bool x.col, .bool x.whole] 38)).heap[wr.heap.size]? = some (.cells #[.int .u8 2, .string (str x.tx), .int .i64 x.n, .int .i64 x.off, .bool x.col, .bool x.whole] 38 (0, 0)) := heap_alloc_new _ _
        have hKlt : wr.heap.size < (wr.alloc (.cells #[.int .u8 2, .string (str x.tx), .int .i64 x.n, .int .i64 x.off, .bool x.col, .bool x.whole] 38)).heap.size := by simp
        obtain ⟨f, hf⟩ : ∃ f, floorO O = f := ⟨_, rfl⟩
        have HF := hidden hf
        have nP : P.Nodup := (List.nodup_append.1 HI.out.nd).1
        have hPn : ∀ j ∈ P, j < n := fun j hj => Nat.lt_of_lt_of_le (HI.out.lt j (List.mem_append_left _ hj)) hk
        rcases List.eq_nil_or_concat O with hO | ⟨O', o, hO⟩
        · obtain rfl : f = 0 := by rw [← hf, hO]; rfl
          have hl0 : O.length = 0 := by rw [hO]; rfl
          have cs := settle_call SW (Nat.zero_le _) hPn hl1 (by omega) hpb nP Hzb.out
          rw [show ((0 : Nat) : Int) = 0 from rfl] at cs
          obtain ⟨va, vc, hu⟩ := row_slice RW
          rw [hl0] at hu
          subst hu
          clear hO hf nP hPn hl0 SA RA
          go_wp2_with fail
          refine cs.mono ?_
          clear cs x0 x1 x2 x3 x4 x5
          rintro e w5 ⟨rfl, ⟨pv', hS5⟩, hF5⟩
          generalize wr.alloc (.cells #[.int .u8 2, .string (str x.tx), .int .i64 x.n, .int .i64 x.off, .bool x.col, .bool x.whole] 38) = W at *
          generalize wr.heap.size = M at *
          have S5 := hS5
          have hM5 : w5.heap[M]? = W.heap[M]? := hF5 M hKlt (by have := hkz.out; have := S5.gv; omega) (by have := hkz.out; omega)
          have R5 : w5.ownsRow (V + 3) 51 2 (.slice va 0 vc) O.length (rowO O) := row_same RW (fun q hq => hF5 q (RW.lt q hq).2 (by have := (RW.lt q hq).1; have := S5.gv; omega) (by have := (RW.lt q hq).1; omega))
          have hI6 := HI.out.breaks hll (HK.out.trans k2) HF.out
          generalize settle ((pre l k : Nat) : Int) (P.drop 0) z = Z at *
          have hPl : (P.take 0).length ≤ 1000 := by rw [List.length_take]; omega
          generalize P.take 0 = P' at *
          have HI6 := hidden hI6
          have hZk : ∃ a, Z[k]? = some a := ⟨_, List.getElem?_eq_getElem (by rw [S5.len]; exact hlt)⟩
          obtain ⟨a0, hZk⟩ := hZk
          have c1 := S5.c1
          have c2 := S5.c2
          have cz := S5.cz hZk
          have fz := S5.f0 k
          have S6 := S5.setz k (-((pre l k : Nat) : Int))
          have c3 : (w5.setCell ⟨w.heap.size, k, none⟩ (.int .i64 (-((pre l k : Nat) : Int)))).cell? ⟨V + 1 + 1, 0, none⟩ = some pv' := S6.c3
          have S6a := S6.grown (grownBy_alloc _ (.cells #[.int .i64 (k : Nat)] 3))
          have hz5 : w5.heap.size = (w5.setCell ⟨w.heap.size, k, none⟩ (.int .i64 (-((pre l k : Nat) : Int)))).heap.size := by simp
          have H6a := hidden S6a
          have cn := cells_new (w5.setCell ⟨w.heap.size, k, none⟩ (.int .i64 (-((pre l k : Nat) : Int)))) 3 [.int .i64 (k : Nat)]
          rw [← hz5] at cn
          have hR5 := hidden R5
          have hown := S6a.prow
          have hV5 := S6a.bs
          have hs5 := S5.bs
          have hgv := S5.gv
          have hlo := S5.lo
          have hM6 : ((w5.setCell ⟨w.heap.size, k, none⟩ (.int .i64 (-((pre l k : Nat) : Int)))).alloc (.cells #[.int .i64 (k : Nat)] 3)).heap[M]? = W.heap[M]? := by
            rw [Below.heap_alloc _ _ _ (by rw [← hz5]; have := (Array.getElem?_eq_some_iff.1 (hM5.trans hMW)).1; exact this)]
            exact (set_other _ _ _ _ _ (by have := hkz.out; omega)).trans hM5
          have HM6 := hidden hM6
          clear hI6 S5 S6 S6a hZk hS5 hF5 hM5 R5 hM6 hPb hz5
          have hMW2 := hidden hMW
          have q3 : P'.length + 1 ≤ maxLen := by unfold maxLen; omega
          have q4 : (P'.length + 1) * 8 ≤ 140737488355328 := by omega
          go_wp2_with (at_builtin; refine wpList_append_own _ rfl _ _ 26 rfl (V + 3) 3 i3 (.int .i64 0) 1 8 Try.underlying26 hi3 hz3 hy3 hb3 rfl (by decide) _ _ _ rfl hown ⟨w5.heap.size, 0, none⟩ 1 1 [.int .i64 (k : Nat)] rfl rfl cn (one1 _ _) q3 q4 hV5 ?_)
          intro v' w7 hr7 hg7 _
          obtain ⟨ua, uc, rfl⟩ := row_slice hr7
          have S8 := H6a.out.wait (P' := P' ++ [k]) (by rw [List.length_append, List.length_singleton, ps_app]; exact hr7) hg7
          have hMW6 := HM6.out.trans hMW2.out
          have hM7 := (hg7.block M (Array.getElem?_eq_some_iff.1 hMW6).1 (fun e => row_head hown hMW6 (by decide) e.symm)).trans hMW6
          have hM8 := (set_other w7 (V + 2) 0 (.slice ua (P'.length + 1) uc) M (by have := hkz.out; omega)).trans hM7
          have hV7 := (hg7.block (V + 2) (by have := hV5; omega) (fun e => by have := (hown.lt _ e.symm).1; omega)).trans H6a.out.h3
          have d3 : w7.cell? ⟨V + 1 + 1, 0, none⟩ = some pv' := by
            show w7.cell? ⟨V + 2, 0, none⟩ = some pv'
            simp only [World.cell?, hV7]; rfl
          have f3 : w7.frozen? ⟨V + 1 + 1, 0, none⟩ = false := frozen_of_row w7 (V + 2) 0 _ 26 hV7
          have R6 := (row_same hR5.out (fun q hq => set_other w5 w.heap.size k (.int .i64 (-((pre l k : Nat) : Int))) q (by have := (hR5.out.lt q hq).1; omega))).alloc (.cells #[.int .i64 (k : Nat)] 3)
          have R7 := row_grown R6 hg7 (fun q hq => row_ne R6 hown (by decide) hq)
          have R8 := row_same R7 (fun q hq => set_other w7 (V + 2) 0 (.slice ua (P'.length + 1) uc) q (by have := (R7.lt q hq).1; omega))
          have c8 := S8.c2
          have f8 := S8.f2 0
          have n8 : (w7.setCell ⟨V + 2, 0, none⟩ (.slice ua (P'.length + 1) uc)).cell? ⟨M, 2, none⟩ = some (.int .i64 x.n) := by simp only [World.cell?, hM8]; rfl
          have HS8 := hidden S8
          have HR8 := hidden R8
          have hxn := HX.out.n
          have hpe : pre l (k + 1) = pre l k + x.n.toNat := by
            rw [pre_succ hll, Hx.out]
            have hy2 := HY.out.trans k2
            simp [It.own, hy2]
          have hp2 := Hok.out.pre (k + 1)
          have HPE := hidden hpe
          clear hr7 hg7 S8 hMW6 hM7 hM8 hV7 R6 R7 R8 hown cn hV5 c1 c2 cz fz c3 hpe
          have c8 : (w7.setCell ⟨V + 1 + 1, 0, none⟩ (.slice ua (P'.length + 1) uc)).cell? ⟨V + 1, 0, none⟩ = some (.int .i64 (pre l k : Nat)) := c8
          have n8 : (w7.setCell ⟨V + 1 + 1, 0, none⟩ (.slice ua (P'.length + 1) uc)).cell? ⟨M, 2, none⟩ = some (.int .i64 x.n) := n8
          have f8 : (w7.setCell ⟨V + 1 + 1, 0, none⟩ (.slice ua (P'.length + 1) uc)).frozen? ⟨V + 1, 0, none⟩ = false := f8
          have e8 : ((pre l k : Nat) : Int) + max x.n 0 = ((pre l (k + 1) : Nat) : Int) := by have := HPE.out; omega
          have S9 := HS8.out.total (pre l (k + 1))
          have R9 := row_same HR8.out (fun q hq => set_other (w7.setCell ⟨V + 2, 0, none⟩ (.slice ua (P'.length + 1) uc)) (V + 1) 0 (.int .i64 ((pre l (k + 1) : Nat) : Int)) q (by have := (HR8.out.lt q hq).1; omega))
          rw [← e8] at S9 R9
          have HS9 := hidden S9
          have HR9 := hidden R9
          clear S9 R9 e8
          go_wp2_with fail
          go_roundw
          case rel => exact ⟨k + 1, _, _, _, O, hlt, by go_num, HI6.out, HS9.out, HR9.out⟩
          case measure => simp [intOf]; omega
        · rw [List.concat_eq_append] at hO
          obtain rfl : o.2 = f := by rw [← hf, hO, floorO_snoc]
          have hof : o.2 ≤ P.length := (HI.out.opn O'.length o (by rw [hO]; simp)).2.2
          have cs := settle_call SW hof hPn hl1 (by omega) hpb nP Hzb.out
          have hOl : O.length = O'.length + 1 := by rw [hO]; simp
          obtain ⟨g, vc, hu, k5⟩ : ∃ g vc, u5 = .slice (some ⟨g, 0, none⟩) (O'.length + 1) vc ∧ (wr.alloc (.cells #[.int .u8 2, .string (str x.tx), .int .i64 x.n, .int .i64 x.off, .bool x.col, .bool x.whole] 38)).cell? ⟨g, O'.length * 2 + 1, none⟩ = some (.int .i64 (o.2 : Nat)) := by
            rcases RW.2 with ⟨e, h0⟩ | ⟨g, cp, cur, e, hbg, hg, hnc, hcm, hcs, ht⟩
            · omega
            · rw [hOl] at e
              refine ⟨g, cp, e, ?_⟩
              rw [e, ← hOl] at RW
              rw [RW.cellAt _ (by omega)]
              rw [(rowO_get O O'.length o (by rw [hO]; simp)).2]
          subst hu
          have hOb2 : O'.length ≤ 1000 := by omega
          generalize o.2 = f at *
          generalize O'.length = m at *
          clear hO hf nP hPn SA RA
          have HOl := hidden hOl
          clear hOl
          go_wp2_with fail
          refine cs.mono ?_
          clear cs x0 x1 x2 x3 x4 x5
          rintro e w5 ⟨rfl, ⟨pv', hS5⟩, hF5⟩
          generalize wr.alloc (.cells #[.int .u8 2, .string (str x.tx), .int .i64 x.n, .int .i64 x.off, .bool x.col, .bool x.whole] 38) = W at *
          generalize wr.heap.size = M at *
          clear k5
          have S5 := hS5
          have hM5 : w5.heap[M]? = W.heap[M]? := hF5 M hKlt (by have := hkz.out; have := S5.gv; omega) (by have := hkz.out; omega)
          have R5 : w5.ownsRow (V + 3) 51 2 (.slice (some ⟨g, 0, none⟩) (m + 1) vc) O.length (rowO O) := row_same RW (fun q hq => hF5 q (RW.lt q hq).2 (by have := (RW.lt q hq).1; have := S5.gv; omega) (by have := (RW.lt q hq).1; omega))
          have hI6 := HI.out.breaks hll (HK.out.trans k2) HF.out
          generalize settle ((pre l k : Nat) : Int) (P.drop f) z = Z at *
          have hPl : (P.take f).length ≤ 1000 := by rw [List.length_take]; omega
          generalize P.take f = P' at *
          have HI6 := hidden hI6
          have hZk : ∃ a, Z[k]? = some a := ⟨_, List.getElem?_eq_getElem (by rw [S5.len]; exact hlt)⟩
          obtain ⟨a0, hZk⟩ := hZk
          have c1 := S5.c1
          have c2 := S5.c2
          have cz := S5.cz hZk
          have fz := S5.f0 k
          have S6 := S5.setz k (-((pre l k : Nat) : Int))
          have c3 : (w5.setCell ⟨w.heap.size, k, none⟩ (.int .i64 (-((pre l k : Nat) : Int)))).cell? ⟨V + 1 + 1, 0, none⟩ = some pv' := S6.c3
          have S6a := S6.grown (grownBy_alloc _ (.cells #[.int .i64 (k : Nat)] 3))
          have hz5 : w5.heap.size = (w5.setCell ⟨w.heap.size, k, none⟩ (.int .i64 (-((pre l k : Nat) : Int)))).heap.size := by simp
          have H6a := hidden S6a
          have cn := cells_new (w5.setCell ⟨w.heap.size, k, none⟩ (.int .i64 (-((pre l k : Nat) : Int)))) 3 [.int .i64 (k : Nat)]
          rw [← hz5] at cn
          have hR5 := hidden R5
          have hown := S6a.prow
          have hV5 := S6a.bs
          have hs5 := S5.bs
          have hgv := S5.gv
          have hlo := S5.lo
          have hM6 : ((w5.setCell ⟨w.heap.size, k, none⟩ (.int .i64 (-((pre l k : Nat) : Int)))).alloc (.cells #[.int .i64 (k : Nat)] 3)).heap[M]? = W.heap[M]? := by
            rw [Below.heap_alloc _ _ _ (by rw [← hz5]; have := (Array.getElem?_eq_some_iff.1 (hM5.trans hMW)).1; exact this)]
            exact (set_other _ _ _ _ _ (by have := hkz.out; omega)).trans hM5
          have HM6 := hidden hM6
          clear hI6 S5 S6 S6a hZk hS5 hF5 hM5 R5 hM6 hPb hz5
          have hMW2 := hidden hMW
          have q3 : P'.length + 1 ≤ maxLen := by unfold maxLen; omega
          have q4 : (P'.length + 1) * 8 ≤ 140737488355328 := by omega
          go_wp2_with (at_builtin; refine wpList_append_own _ rfl _ _ 26 rfl (V + 3) 3 i3 (.int .i64 0) 1 8 Try.underlying26 hi3 hz3 hy3 hb3 rfl (by decide) _ _ _ rfl hown ⟨w5.heap.size, 0, none⟩ 1 1 [.int .i64 (k : Nat)] rfl rfl cn (one1 _ _) q3 q4 hV5 ?_)
          intro v' w7 hr7 hg7 _
          obtain ⟨ua, uc, rfl⟩ := row_slice hr7
          have S8 := H6a.out.wait (P' := P' ++ [k]) (by rw [List.length_append, List.length_singleton, ps_app]; exact hr7) hg7
          have hMW6 := HM6.out.trans hMW2.out
          have hM7 := (hg7.block M (Array.getElem?_eq_some_iff.1 hMW6).1 (fun e => row_head hown hMW6 (by decide) e.symm)).trans hMW6
          have hM8 := (set_other w7 (V + 2) 0 (.slice ua (P'.length + 1) uc) M (by have := hkz.out; omega)).trans hM7
          have hV7 := (hg7.block (V + 2) (by have := hV5; omega) (fun e => by have := (hown.lt _ e.symm).1; omega)).trans H6a.out.h3
          have d3 : w7.cell? ⟨V + 1 + 1, 0, none⟩ = some pv' := by
            show w7.cell? ⟨V + 2, 0, none⟩ = some pv'
            simp only [World.cell?, hV7]; rfl
          have f3 : w7.frozen? ⟨V + 1 + 1, 0, none⟩ = false := frozen_of_row w7 (V + 2) 0 _ 26 hV7
          have R6 := (row_same hR5.out (fun q hq => set_other w5 w.heap.size k (.int .i64 (-((pre l k : Nat) : Int))) q (by have := (hR5.out.lt q hq).1; omega))).alloc (.cells #[.int .i64 (k : Nat)] 3)
          have R7 := row_grown R6 hg7 (fun q hq => row_ne R6 hown (by decide) hq)
          have R8 := row_same R7 (fun q hq => set_other w7 (V + 2) 0 (.slice ua (P'.length + 1) uc) q (by have := (R7.lt q hq).1; omega))
          have c8 := S8.c2
          have f8 := S8.f2 0
          have n8 : (w7.setCell ⟨V + 2, 0, none⟩ (.slice ua (P'.length + 1) uc)).cell? ⟨M, 2, none⟩ = some (.int .i64 x.n) := by simp only [World.cell?, hM8]; rfl
          have HS8 := hidden S8
          have HR8 := hidden R8
          have hxn := HX.out.n
          have hpe : pre l (k + 1) = pre l k + x.n.toNat := by
            rw [pre_succ hll, Hx.out]
            have hy2 := HY.out.trans k2
            simp [It.own, hy2]
          have hp2 := Hok.out.pre (k + 1)
          have HPE := hidden hpe
          clear hr7 hg7 S8 hMW6 hM7 hM8 hV7 R6 R7 R8 hown cn hV5 c1 c2 cz fz c3 hpe
          have c8 : (w7.setCell ⟨V + 1 + 1, 0, none⟩ (.slice ua (P'.length + 1) uc)).cell? ⟨V + 1, 0, none⟩ = some (.int .i64 (pre l k : Nat)) := c8
          have n8 : (w7.setCell ⟨V + 1 + 1, 0, none⟩ (.slice ua (P'.length + 1) uc)).cell? ⟨M, 2, none⟩ = some (.int .i64 x.n) := n8
          have f8 : (w7.setCell ⟨V + 1 + 1, 0, none⟩ (.slice ua (P'.length + 1) uc)).frozen? ⟨V + 1, 0, none⟩ = false := f8
          have e8 : ((pre l k : Nat) : Int) + max x.n 0 = ((pre l (k + 1) : Nat) : Int) := by have := HPE.out; omega
          have S9 := HS8.out.total (pre l (k + 1))
          have R9 := row_same HR8.out (fun q hq => set_other (w7.setCell ⟨V + 2, 0, none⟩ (.slice ua (P'.length + 1) uc)) (V + 1) 0 (.int .i64 ((pre l (k + 1) : Nat) : Int)) q (by have := (HR8.out.lt q hq).1; omega))
          rw [← e8] at S9 R9
          have HS9 := hidden S9
          have HR9 := hidden R9
          clear S9 R9 e8
          go_wp2_with fail
          go_roundw
          case rel => exact ⟨k + 1, _, _, _, O, hlt, by go_num, HI6.out, HS9.out, HR9.out⟩
          case measure => simp [intOf]; omega
      have z2 : ((y : Int) == 2) = false := by simp; omega
      by_cases k3 : y = 3
      · have z3 : ((y : Int) == 3) = true := by simp; omega
        have SW := SA.out #[.int .u8 3, .string (str x.tx), .int .i64 x.n, .int .i64 x.off, .bool x.col, .bool x.whole]
        have RW := RA.out #[.int .u8 3, .string (str x.tx), .int .i64 x.n, .int .i64 x.off, .bool x.col, .bool x.whole]
        obtain ⟨va, vc, hu⟩ := row_slice RW
        obtain ⟨qa, qc, hq⟩ := row_slice SW.prow
        subst hu hq
        have hI6 := HI.out.begin hll (HK.out.trans k3)
        have hZk : ∃ a, z[k]? = some a := ⟨_, List.getElem?_eq_getElem (by rw [SW.len]; exact hlt)⟩
        obtain ⟨a0, hZk⟩ := hZk
        have c1 := SW.c1
        have c2 := SW.c2
        have cz := SW.cz hZk
        have fz := SW.f0 k
        have S6 := SW.setz k (-((pre l k : Nat) : Int))
        have c6 : ((wr.alloc (.cells #[.int .u8 3, .string (str x.tx), .int .i64 x.n, .int .i64 x.off, .bool x.col, .bool x.whole] 38)).setCell ⟨w.heap.size, k, none⟩ (.int .i64 (-((pre l k : Nat) : Int)))).cell? ⟨V + 1 + 1, 0, none⟩ = some (.slice qa P.length qc) := S6.c3
        have R6 := row_same RW (fun q hq => set_other _ w.heap.size k (.int .i64 (-((pre l k : Nat) : Int))) q (by have := (RW.lt q hq).1; have := SW.gv; omega))
        have S6a := S6.grown (grownBy_alloc _ (.cells #[.int .i64 (k : Nat), .int .i64 (P.length : Nat)] 51))
        have hown := R6.alloc (.cells #[.int .i64 (k : Nat), .int .i64 (P.length : Nat)] 51)
        have cn := cells_new ((wr.alloc (.cells #[.int .u8 3, .string (str x.tx), .int .i64 x.n, .int .i64 x.off, .bool x.col, .bool x.whole] 38)).setCell ⟨w.heap.size, k, none⟩ (.int .i64 (-((pre l k : Nat) : Int)))) 51 [.int .i64 (k : Nat), .int .i64 (P.length : Nat)]
        have hz5 : ((wr.alloc (.cells #[.int .u8 3, .string (str x.tx), .int .i64 x.n, .int .i64 x.off, .bool x.col, .bool x.whole] 38)).setCell ⟨w.heap.size, k, none⟩ (.int .i64 (-((pre l k : Nat) : Int)))).heap.size = wr.heap.size + 1 := by simp
        rw [hz5] at cn
        have q3 : O.length + 1 ≤ maxLen := by unfold maxLen; omega
        have q4 : (O.length + 1) * 16 ≤ 140737488355328 := by omega
        have hV5 := S6a.bs
        have HS6 := hidden S6a
        have HI6 := hidden hI6
        clear hI6 SW RW hZk S6 S6a R6 hz5 SA RA
        go_wp2_with (at_builtin; refine wpList_append_own _ rfl _ _ 47 rfl (V + 3) 51 i51 (.agg #[.int .i64 0, .int .i64 0]) 2 16 Try.underlying47 hi51 hz51 hy51 hb51 rfl (by decide) _ _ _ rfl hown ⟨wr.heap.size + 1, 0, none⟩ 1 1 [.int .i64 (k : Nat), .int .i64 (P.length : Nat)] rfl rfl cn (one2 _ _ _) q3 q4 hV5 ?_)
        intro v' w7 hr7 hg7 _
        have S7 := HS6.out.other hg7 (fun q hq => ⟨(hown.lt q hq).1, fun e => row_ne HS6.out.prow hown (by decide) e hq⟩)
        have HS7 := hidden S7
        have HR7 : Hid (w7.ownsRow (V + 3) 51 2 v' (O ++ [(k, P.length)]).length (rowO (O ++ [(k, P.length)]))) := by
          unfold Hid
          rw [List.length_append, List.length_singleton, rowO_app]
          exact hr7
        clear hr7 hg7 S7 hown cn hV5 c1 c2 cz fz c6 x0 x1 x2 x3 x4 x5
        go_wp2_with fail
        go_roundw
        case rel =>
          refine ⟨k + 1, .slice qa P.length qc, _, P, _, hlt, by go_num, HI6.out.1, ?_, HR7.out⟩
          rw [HI6.out.2]
          exact HS7.out
        case measure => simp [intOf]; omega
      have z3 : ((y : Int) == 3) = false := by simp; omega
      by_cases k4 : y = 4
      · have z4 : ((y : Int) == 4) = true := by simp; omega
        have SW := SA.out #[.int .u8 4, .string (str x.tx), .int .i64 x.n, .int .i64 x.off, .bool x.col, .bool x.whole]
        have RW := RA.out #[.int .u8 4, .string (str x.tx), .int .i64 x.n, .int .i64 x.off, .bool x.col, .bool x.whole]
        rcases List.eq_nil_or_concat O with hO | ⟨O', o, hO⟩
        · obtain ⟨va, vc, hu⟩ := row_slice RW
          have hl0 : O.length = 0 := by rw [hO]; rfl
          rw [hl0] at hu
          subst hu
          have hI := HI.out
          rw [hO] at hI
          have hI6 := hI.end0 hll (HK.out.trans k4)
          have HI6 := hidden hI6
          have HSW := hidden SW
          have HRW : Hid ((wr.alloc (.cells #[.int .u8 4, .string (str x.tx), .int .i64 x.n, .int .i64 x.off, .bool x.col, .bool x.whole] 38)).ownsRow (V + 3) 51 2 (.slice va 0 vc) ([] : List (Nat × Nat)).length (rowO [])) := by
            rw [hO] at RW
            exact RW
          clear hO hI hI6 SW RW hl0 SA RA
          go_wp2_with fail
          go_roundw
          case rel =>
            refine ⟨k + 1, pv, _, P, [], hlt, by go_num, HI6.out.1, ?_, HRW.out⟩
            rw [HI6.out.2]
            exact HSW.out
          case measure => simp [intOf]; omega
        · rw [List.concat_eq_append] at hO
          subst hO
          have hI6 := HI.out.end1 hll (HK.out.trans k4)
          have hOb2 : O'.length ≤ 1000 := by simp at hOb; omega
          obtain ⟨g, vc, hu, hvc, hk5⟩ : ∃ g vc, u5 = .slice (some ⟨g, 0, none⟩) (O'.length + 1) vc ∧ O'.length + 1 ≤ vc ∧ ∀ u : World, u.ownsRow (V + 3) 51 2 (.slice (some ⟨g, 0, none⟩) (O'.length + 1) vc) (O' ++ [o]).length (rowO (O' ++ [o])) → u.cell? ⟨g, O'.length * 2, none⟩ = some (.int .i64 (o.1 : Nat)) := by
            rcases RW.2 with ⟨e, h0⟩ | ⟨g, cp, cur, e, hbg, hg, hnc, hcm, hcs, ht⟩
            · simp at h0
            · rw [List.length_append, List.length_singleton] at e
              refine ⟨g, cp, e, by simp at hnc; exact hnc, fun u hu => ?_⟩
              have hu' : u.ownsRow (V + 3) 51 2 (.slice (some ⟨g, 0, none⟩) (O' ++ [o]).length cp) (O' ++ [o]).length (rowO (O' ++ [o])) := by rw [List.length_append, List.length_singleton] at hu ⊢; exact hu
              rw [hu'.cellAt _ (by simp)]
              rw [(rowO_get (O' ++ [o]) O'.length o (by simp)).1]
          subst hu
          have HK5 := hidden hk5
          have HI6 := hidden hI6
          have HSW := hidden SW
          have HRW := hidden RW
          obtain ⟨qa, qc, hq⟩ := row_slice SW.prow
          subst hq
          have hOl : (O' ++ [o]).length = O'.length + 1 := by simp
          rw [hOl] at hOb
          obtain ⟨o1, ho1⟩ : ∃ o1, o.1 = o1 := ⟨_, rfl⟩
          rw [ho1] at HK5 HI6
          clear hk5 hI6 SW RW SA RA hOl ho1
          go_wp2_with fail
          clear x0 x1 x2 x3 x4 x5
          generalize wr.alloc (.cells #[.int .u8 4, .string (str x.tx), .int .i64 x.n, .int .i64 x.off, .bool x.col, .bool x.whole] 38) = W at *
          generalize wr.heap.size = M at *
          generalize hm : O'.length = m at *
          have Hm := hidden hm
          clear hm
          have kW := HK5.out _ HRW.out
          have wrm : IntKind.i64.wrap (m : Int) = (m : Int) := IntWalk.i64_in _ (by omega)
          have hlm : (m : Int) < (m : Int) + 1 := by omega
          have hmn : (0 : Int) ≤ (m : Int) := by omega
          refine wp_region_held_drew (S := (fun u => u.cell? ⟨g, m * 2, none⟩ = some (.int .i64 (o1 : Nat)))) (by kernel_rfl) kW (fun hHeld => ?_)
          refine take_dst 1 (some 93) rfl rfl (by kernel_rfl) (by kernel_rfl) (by kernel_rfl) (fun _ _ _ h => h) (v := ?_) (Or.inl ⟨by rfl, ?_⟩) (by assumption) ?_
          rotate_left
          · (intro w hSw; (try dsimp only at hSw); go_simp; try with_reducible rfl)
          simp only [Act.put, List.setIfInBounds_toArray, List.set_cons_zero, List.set_cons_succ]
          refine take_dst 2 (some 94) rfl rfl (by kernel_rfl) (by kernel_rfl) (by kernel_rfl) (fun _ _ _ h => h) (v := ?_) (Or.inl ⟨by rfl, ?_⟩) (by assumption) ?_
          rotate_left
          · (intro w hSw; (try dsimp only at hSw); go_simp; try with_reducible rfl)
          simp only [Act.put, List.setIfInBounds_toArray, List.set_cons_zero, List.set_cons_succ]
          refine take_dst 3 (some 95) rfl rfl (by kernel_rfl) (by kernel_rfl) (by kernel_rfl) (fun _ _ _ h => h) (v := ?_) (Or.inl ⟨by rfl, ?_⟩) (by assumption) ?_
          rotate_left
          · (intro w hSw; (try dsimp only at hSw); go_simp; try with_reducible rfl)
          simp only [Act.put, List.setIfInBounds_toArray, List.set_cons_zero, List.set_cons_succ]
          refine take_dst 4 (some 96) rfl rfl (by kernel_rfl) (by kernel_rfl) (by kernel_rfl) (fun _ _ _ h => h) (v := ?_) (Or.inl ⟨by rfl, ?_⟩) (by assumption) ?_
          rotate_left
          · (intro w hSw; (try dsimp only at hSw); go_simp; try with_reducible rfl)
          simp only [Act.put, List.setIfInBounds_toArray, List.set_cons_zero, List.set_cons_succ]
          refine take_dst 5 (some 97) rfl rfl (by kernel_rfl) (by kernel_rfl) (by kernel_rfl) (fun _ _ _ h => h) (v := ?_) (Or.inl ⟨by rfl, ?_⟩) (by assumption) ?_
          rotate_left
          · (intro w hSw; (try dsimp only at hSw); go_simp; try with_reducible rfl)
          simp only [Act.put, List.setIfInBounds_toArray, List.set_cons_zero, List.set_cons_succ]
          refine take_dst 6 (some 98) rfl rfl (by kernel_rfl) (by kernel_rfl) (by kernel_rfl) (fun _ _ _ h => h) (v := ?_) (Or.inl ⟨by rfl, ?_⟩) (by assumption) ?_
          rotate_left
          · (intro w hSw; (try dsimp only at hSw); go_simp; try with_reducible rfl)
          simp only [Act.put, List.setIfInBounds_toArray, List.set_cons_zero, List.set_cons_succ]
          have HSd := hidden (HSW.out.grown (grown_d W))
          have HRd := hidden (row_grown HRW.out (grown_d W) (by simp))
          clear HSW HRW
          generalize W.drew = Wd at *
          have d3 : Wd.cell? ⟨V + 1 + 1, 0, none⟩ = some (.slice qa P.length qc) := HSd.out.c3
          have HSA := hidden (HSd.out.grown (grownBy_alloc Wd (.cells #[.int .i64 (o1 : Nat)] 3)))
          have HRA := hidden (HRd.out.alloc (.cells #[.int .i64 (o1 : Nat)] 3))
          have e3 : (Wd.alloc (.cells #[.int .i64 (o1 : Nat)] 3)).cell? ⟨V + 1 + 1, 0, none⟩ = some (.slice qa P.length qc) := HSA.out.c3
          have kA := HK5.out _ HRA.out
          have kd5 := HK5.out _ HRd.out
          refine wpAnyH_ready (rs := [0, 7]) (by kernel_rfl) (by simp) ?_
          refine AllReadyH.cons rfl (fun K hK => ?_) (AllReadyH.cons rfl (fun K hK => ?_) AllReadyH.nil)
          · go_simp
            refine hK.out _ _ kd5 (fun hHeld1 => ?_)
            clear hK K hHeld1 e3 d3
            refine wpAnyH_ready (rs := [7]) (by kernel_rfl) (by simp) ?_
            refine AllReadyH.cons rfl (fun K hK => ?_) AllReadyH.nil
            go_simp
            refine hK.out _ _ kA (fun hHeld2 => ?_)
            clear hK K hHeld2 kA kd5 hHeld kW
            refine wpAnyH_ready (rs := [8]) (by kernel_rfl) (by simp) ?_
            refine AllReadyH.cons rfl (fun K hK => ?_) AllReadyH.nil
            refine step_append_wh rfl (.tmp 92) (.tmp 99) 26 rfl (V + 3) 3 i3 (.int .i64 0) 1 8 Try.underlying26 hi3 hz3 hy3 hb3 rfl (by decide) (.slice qa P.length qc) P.length (ps P) (by simp [Act.eval]) HSA.out.prow ⟨Wd.heap.size, 0, none⟩ 1 1 [.int .i64 (o1 : Nat)] (by simp [Act.eval]) rfl (cells_new Wd 3 [.int .i64 (o1 : Nat)]) (one1 _ _) (by unfold maxLen; omega) (by omega) HSA.out.bs (by decide) ?_
            intro v' w7 hr7 hg7 _
            obtain ⟨ua, uc, rfl⟩ := row_slice hr7.out
            have S8 := HSA.out.wait (P' := P ++ [o1]) (by rw [List.length_append, List.length_singleton, ps_app]; exact hr7.out) hg7.out
            have hV7 := (hg7.out.block (V + 2) (by have := HSA.out.bs; omega) (fun e => by have := (HSA.out.prow.lt _ e.symm).1; omega)).trans HSA.out.h3
            have d3 : w7.cell? ⟨V + 1 + 1, 0, none⟩ = some (.slice qa P.length qc) := by
              show w7.cell? ⟨V + 2, 0, none⟩ = some (.slice qa P.length qc)
              simp only [World.cell?, hV7]; rfl
            have f3 : w7.frozen? ⟨V + 1 + 1, 0, none⟩ = false := frozen_of_row w7 (V + 2) 0 _ 26 hV7
            have R7 := row_grown HRA.out hg7.out (fun q hq => row_ne HRA.out HSA.out.prow (by decide) hq)
            have R8 := row_same R7 (fun q hq => set_other w7 (V + 2) 0 (.slice ua (P.length + 1) uc) q (by have := (R7.lt q hq).1; omega))
            have k7 := HK5.out _ R7
            have k8 := HK5.out _ R8
            have HS8 := hidden S8
            have HR8 := hidden (rowO_cut R8)
            clear hr7 hg7 hV7 R7 R8 S8
            refine hK.out _ _ k7 (fun hHeld3 => ?_)
            clear hK K
            refine wpAnyH_ready (rs := [9]) (by kernel_rfl) (by simp) ?_
            refine AllReadyH.cons rfl (fun K hK => ?_) AllReadyH.nil
            go_simp
            refine hK.out _ _ k8 (fun hHeld4 => ?_)
            clear hK K
            refine wpAnyH_done (by kernel_rfl) ?_ _
            clear hHeld3 hHeld4 k7 k8 d3 f3
            go_wp2_with fail
            go_roundw
            case rel =>
              refine ⟨k + 1, .slice ua (P.length + 1) uc, _, _, O', hlt, by go_num, HI6.out.1, ?_, ?_⟩
              · rw [HI6.out.2]
                exact HS8.out
              · have h8 := HR8.out
                rw [Hm.out] at h8 ⊢
                exact h8
            case measure => simp [intOf]; omega
          · go_simp
            refine hK.out _ _ kA (fun hHeld1 => ?_)
            clear hK K hHeld1 d3
            refine wpAnyH_ready (rs := [0]) (by kernel_rfl) (by simp) ?_
            refine AllReadyH.cons rfl (fun K hK => ?_) AllReadyH.nil
            go_simp
            refine hK.out _ _ kA (fun hHeld2 => ?_)
            clear hK K hHeld2 kA kd5 hHeld kW e3
            refine wpAnyH_ready (rs := [8]) (by kernel_rfl) (by simp) ?_
            refine AllReadyH.cons rfl (fun K hK => ?_) AllReadyH.nil
            refine step_append_wh rfl (.tmp 92) (.tmp 99) 26 rfl (V + 3) 3 i3 (.int .i64 0) 1 8 Try.underlying26 hi3 hz3 hy3 hb3 rfl (by decide) (.slice qa P.length qc) P.length (ps P) (by simp [Act.eval]) HSA.out.prow ⟨Wd.heap.size, 0, none⟩ 1 1 [.int .i64 (o1 : Nat)] (by simp [Act.eval]) rfl (cells_new Wd 3 [.int .i64 (o1 : Nat)]) (one1 _ _) (by unfold maxLen; omega) (by omega) HSA.out.bs (by decide) ?_
            intro v' w7 hr7 hg7 _
            obtain ⟨ua, uc, rfl⟩ := row_slice hr7.out
            have S8 := HSA.out.wait (P' := P ++ [o1]) (by rw [List.length_append, List.length_singleton, ps_app]; exact hr7.out) hg7.out
            have hV7 := (hg7.out.block (V + 2) (by have := HSA.out.bs; omega) (fun e => by have := (HSA.out.prow.lt _ e.symm).1; omega)).trans HSA.out.h3
            have d3 : w7.cell? ⟨V + 1 + 1, 0, none⟩ = some (.slice qa P.length qc) := by
              show w7.cell? ⟨V + 2, 0, none⟩ = some (.slice qa P.length qc)
              simp only [World.cell?, hV7]; rfl
            have f3 : w7.frozen? ⟨V + 1 + 1, 0, none⟩ = false := frozen_of_row w7 (V + 2) 0 _ 26 hV7
            have R7 := row_grown HRA.out hg7.out (fun q hq => row_ne HRA.out HSA.out.prow (by decide) hq)
            have R8 := row_same R7 (fun q hq => set_other w7 (V + 2) 0 (.slice ua (P.length + 1) uc) q (by have := (R7.lt q hq).1; omega))
            have k7 := HK5.out _ R7
            have k8 := HK5.out _ R8
            have HS8 := hidden S8
            have HR8 := hidden (rowO_cut R8)
            clear hr7 hg7 hV7 R7 R8 S8
            refine hK.out _ _ k7 (fun hHeld3 => ?_)
            clear hK K
            refine wpAnyH_ready (rs := [9]) (by kernel_rfl) (by simp) ?_
            refine AllReadyH.cons rfl (fun K hK => ?_) AllReadyH.nil
            go_simp
            refine hK.out _ _ k8 (fun hHeld4 => ?_)
            clear hK K
            refine wpAnyH_done (by kernel_rfl) ?_ _
            clear hHeld3 hHeld4 k7 k8 d3 f3
            go_wp2_with fail
            go_roundw
            case rel =>
              refine ⟨k + 1, .slice ua (P.length + 1) uc, _, _, O', hlt, by go_num, HI6.out.1, ?_, ?_⟩
              · rw [HI6.out.2]
                exact HS8.out
              · have h8 := HR8.out
                rw [Hm.out] at h8 ⊢
                exact h8
            case measure => simp [intOf]; omega
      have z4 : ((y : Int) == 4) = false := by simp; omega
      have hI6 := HI.out.other hll (by rw [HK.out]; exact k1) (by rw [HK.out]; exact k2) (by rw [HK.out]; exact k3) (by rw [HK.out]; exact k4)
      have hpe : pre l (k + 1) = pre l k := by
        have := pre_succ hll
        rw [Hx.out] at this
        have ho : x.own = 0 := by
          have := HY.out
          unfold It.own
          rw [if_neg (by omega), if_neg (by omega)]
        rw [this, ho]
        rfl
      have HI6 := hidden hI6
      have hs := fun cs => SA.out cs
      rw [← hpe] at hs
      have HS := hidden hs
      clear hI6 hpe hs SA
      go_wp2_with fail
      go_roundw
      case rel => exact ⟨k + 1, _, _, P, O, hlt, by go_num, HI6.out, HS.out _, RA.out _⟩
      case measure => simp [intOf]; omega
    · have hkn : k = n := by omega
      have hlz : ¬ ((k : Int) < (n : Int)) := by omega
      have hIl : Inv l l.length z P O := by rw [Hn.out, ← hkn]; exact I
      have HIl := hidden hIl
      have HS := hidden S
      have HR := hidden R
      obtain ⟨T, hT⟩ : ∃ T, pre l k = T := ⟨_, rfl⟩
      have hT2 : pre l l.length = T := by rw [Hn.out, ← hkn]; exact hT
      have HT := hidden hT2
      rw [hT] at hpb HS
      have hTb : T ≤ 1048576000 := hpb
      obtain ⟨va, vc, hu⟩ := row_slice R
      have Hzb := hidden hzb
      clear hIl S R hT hT2 hkn I hbel hzb hpb
      subst hu
      go_wp2_with fail
      clear hlz
      go_loopw [108] (fun i wr => ∃ (q : Nat) (pq : Value), q ≤ O.length ∧ i = .int .i64 (q : Nat) ∧ SZ w.heap.size w.heap.size V w wr n pq T z (P ++ (O.take q).map Prod.fst) ∧ wr.ownsRow (V + 3) 51 2 (.slice va O.length vc) O.length (rowO O)) (fun i _ => O.length - (intOf i).toNat)
      case atStart => exact ⟨0, _, Nat.zero_le _, rfl, by simpa using HS.out, HR.out⟩
      case round =>
        obtain ⟨q, pq, hq, rfl, S2, R2⟩ := hrel
        by_cases hql : q < O.length
        · have hlz : (q : Int) < (O.length : Int) := by omega
          obtain ⟨o, ho⟩ : ∃ o, O[q]? = some o := ⟨_, List.getElem?_eq_getElem hql⟩
          obtain ⟨ro1, ro2⟩ := rowO_get O q o ho
          obtain ⟨g, rfl⟩ : ∃ g, va = some ⟨g, 0, none⟩ := by
            rcases R2.2 with ⟨e, h0⟩ | ⟨g, cp, cur, e, hbg, hg, hnc, hcm, hcs, ht⟩
            · omega
            · injection e with e1
              exact ⟨g, e1⟩
          have k1 : wr.cell? ⟨g, q * 2, none⟩ = some (.int .i64 (o.1 : Nat)) := by rw [R2.cellAt _ (by omega)]; exact ro1
          have k2 : wr.cell? ⟨g, q * 2 + 1, none⟩ = some (.int .i64 (o.2 : Nat)) := by rw [R2.cellAt _ (by omega)]; exact ro2
          have hts : (O.take (q + 1)).map Prod.fst = (O.take q).map Prod.fst ++ [o.1] := by rw [List.take_add_one, ho, List.map_append]; rfl
          have hPl : (P ++ (O.take q).map Prod.fst).length ≤ 2000 := by rw [List.length_append, List.length_map, List.length_take]; omega
          have Hts : Hid (P ++ (O.take (q + 1)).map Prod.fst = P ++ (O.take q).map Prod.fst ++ [o.1]) := by unfold Hid; rw [hts, List.append_assoc]
          clear hts ho ro1 ro2
          generalize P ++ (O.take q).map Prod.fst = P' at *
          generalize o.1 = o1 at *
          generalize o.2 = o2 at *
          have S3 := S2.grown (grownBy_alloc wr (.cells #[.int .i64 (o1 : Nat), .int .i64 (o2 : Nat)] 51))
          have R3 := R2.alloc (.cells #[.int .i64 (o1 : Nat), .int .i64 (o2 : Nat)] 51)
          have S4 := S3.grown (grownBy_alloc _ (.cells #[.int .i64 (o1 : Nat)] 3))
          have R4 := R3.alloc (.cells #[.int .i64 (o1 : Nat)] 3)
          obtain ⟨qa, qc, hqv⟩ := row_slice S2.prow
          subst hqv
          have c3 : (wr.alloc (.cells #[.int .i64 (o1 : Nat), .int .i64 (o2 : Nat)] 51)).cell? ⟨V + 1 + 1, 0, none⟩ = some (.slice qa P'.length qc) := S3.c3
          have cn := cells_new (wr.alloc (.cells #[.int .i64 (o1 : Nat), .int .i64 (o2 : Nat)] 51)) 3 [.int .i64 (o1 : Nat)]
          rw [World.size_alloc] at cn
          have q3 : P'.length + 1 ≤ maxLen := by unfold maxLen; omega
          have q4 : (P'.length + 1) * 8 ≤ 140737488355328 := by omega
          have hown := S4.prow
          have hV5 := S4.bs
          have HS4 := hidden S4
          have HR4 := hidden R4
          clear S2 R2 S3 R3 S4 R4
          go_wp2_with (at_builtin; refine wpList_append_own _ rfl _ _ 26 rfl (V + 3) 3 i3 (.int .i64 0) 1 8 Try.underlying26 hi3 hz3 hy3 hb3 rfl (by decide) _ _ _ rfl hown ⟨wr.heap.size + 1, 0, none⟩ 1 1 [.int .i64 (o1 : Nat)] rfl rfl cn (one1 _ _) q3 q4 hV5 ?_)
          intro v' w7 hr7 hg7 _
          obtain ⟨ua, uc, rfl⟩ := row_slice hr7
          have S8 := HS4.out.wait (P' := P' ++ [o1]) (by rw [List.length_append, List.length_singleton, ps_app]; exact hr7) hg7
          have hV7 := (hg7.block (V + 2) (by have := hV5; omega) (fun e => by have := (hown.lt _ e.symm).1; omega)).trans HS4.out.h3
          have d3 : w7.cell? ⟨V + 1 + 1, 0, none⟩ = some (.slice qa P'.length qc) := by
            show w7.cell? ⟨V + 2, 0, none⟩ = some (.slice qa P'.length qc)
            simp only [World.cell?, hV7]; rfl
          have f3 : w7.frozen? ⟨V + 1 + 1, 0, none⟩ = false := frozen_of_row w7 (V + 2) 0 _ 26 hV7
          have R7 := row_grown HR4.out hg7 (fun q hq => row_ne HR4.out hown (by decide) hq)
          have R8 := row_same R7 (fun q hq => set_other w7 (V + 2) 0 (.slice ua (P'.length + 1) uc) q (by have := (R7.lt q hq).1; omega))
          have HS8 := hidden S8
          have HR8 := hidden R8
          clear hr7 hg7 hV7 R7 R8 S8 hown cn hV5 c3 k1 k2
          go_wp2_with fail
          go_roundw
          case rel => exact ⟨q + 1, .slice ua (P'.length + 1) uc, hql, by go_num, by rw [Hts.out]; exact HS8.out, HR8.out⟩
          case measure => simp [intOf]; omega
        · have hlz : ¬ ((q : Int) < (O.length : Int)) := by omega
          have hto : O.take q = O := List.take_of_length_le (by omega)
          rw [hto] at S2
          have hPl : (P ++ O.map Prod.fst).length ≤ 2000 := by rw [List.length_append, List.length_map]; omega
          have hPn : ∀ j ∈ P ++ O.map Prod.fst, j < n := fun j hj => by have := HIl.out.lt j hj; rw [Hn.out] at this; exact this
          have cs := settle_call S2 (Nat.zero_le _) hPn hl1 hPl hTb HIl.out.nd Hzb.out
          rw [show ((0 : Nat) : Int) = 0 from rfl, List.drop_zero] at cs
          clear S2 R2 hto hPn hPl
          go_wp2_with fail
          refine cs.mono ?_
          clear cs
          rintro e w5 ⟨rfl, ⟨pv', hS5⟩, hF5⟩
          have c1 := hS5.c1
          have HS5 := hidden hS5
          clear hS5 hF5
          go_wp2_with fail
          go_ret
          have hzl : (settle ((T : Nat) : Int) (P ++ O.map Prod.fst) z) = szs l := by
            apply List.ext_getElem?
            intro j
            by_cases hj : j < l.length
            · rw [szs_get l hj, ← HT.out]
              exact HIl.out.all j hj
            · rw [List.getElem?_eq_none (by rw [HS5.out.len, ← Hn.out]; omega), List.getElem?_eq_none (by rw [szs_len]; omega)]
          have h5 := HS5.out
          rw [hzl] at h5
          refine ⟨_, rfl, ⟨some ⟨w.heap.size, 0, none⟩, n, ?_, by rw [szs_len, Hn.out]; exact Nat.le_refl _, fun _ => ⟨_, _, rfl, h5.h0, fun j x hj => by simp [zs, hj]⟩⟩, h5.bel⟩
          rw [szs_len, Hn.out]
          rfl
end Go.Proofs.PlatenLayout
