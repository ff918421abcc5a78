/- What Insert comes to. -/
import Derived.Test.YtibdhahkkejnjaaTabI
namespace Go.Proofs.PlatenPiece
open Go Go.RowKit
set_option linter.unusedVariables false

set_option maxHeartbeats 4000000 in
set_option maxRecDepth 100000 in
theorem insert_tab (B T : Nat) (pv : Value) (ps : List Pc) (s a : Int) (at' : Nat) (v : Value) (l : List Nat) (w : World) (h : Tab B w T pv ps s a) (hB : B ≤ w.heap.size) (hN : ps.length ≤ 99999) (hs : s = lenSum ps) (hat : at' ≤ lenSum ps) (hS : lenSum ps + l.length ≤ 65536) (h0 : 0 < l.length) (hsrc : Src w v l) (hout : Outside (Own T pv ps) v)
    (hk : ∀ p ∈ ps, -1000000000 ≤ p.k ∧ p.k ≤ 1000000000) (ha : 0 ≤ a ∧ a ≤ 1000000000) :
    Calls Try.prog 43 #[.pointer (some ⟨T, 0, none⟩), .int .i64 at', v] w fun e w' => e = .returned (.int .i64 0) ∧ ∃ pv' ps', Tab B w' T pv' ps' (s + l.length) (a + l.length) ∧ Ins ps at' l a ps' ∧ Kept (Own T pv ps) w w' ∧ (∀ k, k < w.heap.size → Own T pv' ps' k → Own T pv ps k) := by
  have hh := has_of _ s at' 0 w (len_tab B T pv ps s a w h) (by omega) (by omega)
  have hd : decide (0 ≤ (at' : Int) ∧ (at' : Int) ≤ s ∧ 0 ≤ (0 : Int) ∧ 0 ≤ s - (at' : Int)) = true := decide_eq_true (by omega)
  rw [hd] at hh
  have Hh := hidden hh
  have Hspl := hidden (split_tab B T pv ps s a at' w h hB (by omega) hat (by omega) hk)
  have h1 := h.c1
  have Htab := hidden h
  have Hsrc := hidden hsrc
  have Hout := hidden hout
  obtain ⟨va, vc, rfl⟩ := hsrc.form
  obtain ⟨n, hn⟩ : ∃ n, l.length = n := ⟨_, rfl⟩
  rw [hn] at h0 hS
  have Hn := hidden hn
  obtain ⟨S, hSe⟩ : ∃ S, lenSum ps = S := ⟨_, rfl⟩
  have HSe := hidden hSe
  rw [hSe] at hs hS hat
  subst hs
  have hw1 : IntKind.i64.wrap (65536 - (S : Int)) = 65536 - (S : Int) := IntWalk.i64_in _ (by omega)
  have z1 : ¬ (65536 - (S : Int) < (n : Int)) := by omega
  have z2 : ¬ ((n : Int) = 0) := by omega
  rw [hn] at Hsrc Hout ⊢
  clear hh hd h hsrc hout hk hn hSe
  go_enter Try.func43, Try.ntmps43
  go_wp2_with fail
  refine Hh.out.mono ?_
  rintro e w' ⟨rfl, rfl⟩
  go_wp2_with fail
  refine Hspl.out.mono ?_
  rintro e w1 ⟨i, rfl, pv1, ps1, hT1, hcut, hK1, hO1⟩
  have hB1 : B ≤ w1.heap.size := Nat.le_trans hB hK1.size
  have HK1 := hidden hK1
  have HO1 := hidden hO1
  have Hcut := hidden hcut
  have hcl := hcut.le
  clear hK1 hO1 hcut h1
  obtain ⟨va1, vc1, hpv1⟩ : ∃ va1 vc1, pv1 = .slice va1 ps1.length vc1 := by
    rcases hT1.row.2 with ⟨e, h0⟩ | ⟨g, cap, cur, e, _⟩
    · exact ⟨_, _, by rw [e, h0]⟩
    · exact ⟨_, _, e⟩
  obtain ⟨N1, hN1⟩ : ∃ N1, ps1.length = N1 := ⟨_, rfl⟩
  rw [hN1] at hpv1 hcl
  subst hpv1
  have HN1 := hidden hN1
  clear hN1
  have HT1 := hidden hT1
  have e0 := hT1.c0
  have e1 := hT1.c1
  have e2 := hT1.c2
  have f1 := hT1.fz 1
  have f2 := hT1.fz 2
  have hw2 : IntKind.i64.wrap ((S : Int) + (n : Int)) = (S : Int) + (n : Int) := IntWalk.i64_in _ (by omega)
  have hw3 : IntKind.i64.wrap (a + (n : Int)) = a + (n : Int) := IntWalk.i64_in _ (by omega)
  clear hT1
  by_cases hi0 : i = 0
  · subst hi0
    have HIns : Hid (¬ Grows ps1 0 a) := fun h => absurd h.1 (Nat.lt_irrefl 0)
    go_wp2_with fail
    have HTW := hidden ((HT1.out.put 1 (.int .i64 ((S : Int) + (n : Int))) ((S : Int) + (n : Int)) a rfl).put 2 (.int .i64 (a + (n : Int))) ((S : Int) + (n : Int)) (a + (n : Int)) rfl)
    have HKW : Hid (Kept (Own T (.slice va1 N1 vc1) ps1) w1 ((w1.setCell ⟨T, 1, none⟩ (.int .i64 ((S : Int) + (n : Int)))).setCell ⟨T, 2, none⟩ (.int .i64 (a + (n : Int))))) := (kept_some (grownBy_set w1 T 1 _) (Or.inl rfl)).trans (kept_some (grownBy_set _ T 2 _) (Or.inl rfl)) (fun _ _ h => h)
    clear e0 e1 e2 f1 f2
    generalize ((w1.setCell ⟨T, 1, none⟩ (.int .i64 ((S : Int) + (n : Int)))).setCell ⟨T, 2, none⟩ (.int .i64 (a + (n : Int)))) = W at *
    have HKw : Hid (Kept (Own T pv ps) w' W) := HK1.out.trans HKW.out HO1.out
    have c0 := HTW.out.c0
    have c2 := HTW.out.c2
    have hWT := HTW.out.lt
    have Hown := hidden (own_any _ l W.drew (by rw [Hn.out]; omega) (Hsrc.out.kept (HKw.out.trans (O' := Own T pv ps) (kept_none (grownBy_drew W)) (fun _ _ h => h)) Hout.out))
    rw [Hn.out] at Hown
    have Hins := hidden (fun (w2 : World) (hq : w2.heap[W.drew.heap.size]? = some (.cells (bytesV l).toArray 5 (0, 0))) (hg2 : W.drew.grownBy w2 none) =>
      insert_rep (u := w2.alloc (.cells #[.slice (some ⟨W.heap.size, 0, none⟩) n n, .int .i64 (a + (n : Int))] 81)) (vb := w2.heap.size) (Q := W.heap.size) (i := 0) HTW.out HN1.out (by omega) (by have h1 := HKW.out.size; omega) (by omega) (Rl.alloc (Rl.own (Rl.drew (Rl.refl W)) hg2) _) (by have hq' : w2.heap[W.heap.size]? = some (.cells (bytesV l).toArray 5 (0, 0)) := hq; rw [Below.heap_alloc _ _ _ (Array.getElem?_eq_some_iff.1 hq').1]; exact hq') (Nat.le_refl _) Hn.out h0 (by omega) hg2.size (heap_alloc_new w2 _))
    go_region_with (first | (refine Hown.out.mono ?_; rintro e w2 ⟨rfl, hq, hg2⟩; have d0 := hg2.cell c0 (by simp); have d2 := hg2.cell c2 (by simp); have d3 := Nat.lt_of_lt_of_le hWT hg2.size; have d4 := (grownBy_alloc w2 (.cells #[.slice (some ⟨W.heap.size, 0, none⟩) n n, .int .i64 (a + (n : Int))] 81)).cell d0 (by simp)) | (refine (Hins.out _ hq hg2).mono ?_; rintro e w5 ⟨g', cap', rfl, Hfin, hcT, hfT⟩))
    all_goals
      have F := hidden (And.intro Hfin.out.1 (And.intro (HKw.out.trans Hfin.out.2.1 (fun j hj ho => HO1.out j hj ho)) (fun j hj ho => HO1.out j hj (Hfin.out.2.2 j (Nat.lt_of_lt_of_le hj HKw.out.size) ho))))
      clear Hfin
      go_wp2
      go_ret
      refine ⟨rfl, _, _, F.out.1, ⟨0, ps1, Hcut.out, Or.inl ⟨HIns.out, _, by rw [Hn.out]⟩⟩, F.out.2.1, F.out.2.2⟩
  · -- NONGROW
    obtain ⟨m, rfl⟩ : ∃ m, i = m + 1 := ⟨i - 1, by omega⟩
    obtain ⟨p1, hp1⟩ : ∃ p1, ps1[m]? = some p1 := ⟨_, List.getElem?_eq_getElem (by rw [HN1.out]; omega)⟩
    obtain ⟨g1, cap1, e, hcap1, hgT1, hgw1, hBg1⟩ := HT1.out.form m (by rw [HN1.out]; omega)
    rw [HN1.out] at e
    simp only [Value.slice.injEq, true_and] at e
    obtain ⟨rfl, rfl⟩ := e
    obtain ⟨x0, x1⟩ := Tab.part (show Tab B w1 T (.slice (some ⟨g1, 0, none⟩) ps1.length vc1) ps1 S a by rw [HN1.out]; exact HT1.out) m p1 hp1
    obtain ⟨q1, c1, hv1, hqc1, hqm1, hqs1⟩ := (HT1.out.good p1 (List.mem_of_getElem? hp1)).src
    rw [hv1] at x0
    have Hnew := hidden (newest_tab B T _ ps1 S a p1.v p1.k w1 HT1.out)
    rw [hv1] at Hnew
    have Hp1 := hidden hp1
    have Hv1 := hidden hv1
    obtain ⟨L1, hL1⟩ : ∃ L1, p1.l.length = L1 := ⟨_, rfl⟩
    obtain ⟨k1, hk1⟩ : ∃ k1, p1.k = k1 := ⟨_, rfl⟩
    rw [hL1] at x0 Hnew
    rw [hk1] at x1 Hnew
    have HL1 := hidden hL1
    have Hk1 := hidden hk1
    have y1 : (m : Int) < (N1 : Int) := by omega
    have y2 : ((m + 1 : Nat) : Int) - 1 = (m : Int) := by omega
    have y3 : IntKind.i64.wrap ((m : Int) + 1 - 1) = (m : Int) := IntWalk.i64_in _ (by omega) |>.trans (by omega)
    clear hp1 hv1 hqs1 hL1 hk1
    by_cases hgr : 0 < a ∧ k1 = a
    · obtain ⟨ha0, hka⟩ := hgr
      have hka2 := hka.symm
      clear hka
      subst hka2
      have hb : (decide (0 < a) && decide (a = a)) = true := by simp [ha0]
      rw [hb] at Hnew
      clear hb
      go_wp2_with fail
      refine Hnew.out.mono ?_
      rintro e w2 ⟨rfl, hg2'⟩
      have HT2 := hidden (HT1.out.grown hg2')
      have Hg2 := hidden hg2'
      have e0' := HT2.out.c0
      have e1' := HT2.out.c1
      have e2' := HT2.out.c2
      have f1' := HT2.out.fz 1
      have f2' := HT2.out.fz 2
      have x0' := hg2'.cell x0 (by simp)
      have x1' := hg2'.cell x1 (by simp)
      clear e0 e1 e2 f1 f2 hg2' x0 x1
      have HTW := hidden ((HT2.out.put 1 (.int .i64 ((S : Int) + (n : Int))) ((S : Int) + (n : Int)) a rfl).put 2 (.int .i64 (a + (n : Int))) ((S : Int) + (n : Int)) (a + (n : Int)) rfl)
      have HKW : Hid (Kept (Own T (.slice (some ⟨g1, 0, none⟩) N1 vc1) ps1) w1 ((w2.setCell ⟨T, 1, none⟩ (.int .i64 ((S : Int) + (n : Int)))).setCell ⟨T, 2, none⟩ (.int .i64 (a + (n : Int))))) := ((kept_none Hg2.out).trans (kept_some (grownBy_set w2 T 1 _) (Or.inl rfl)) (fun _ _ h => h)).trans (kept_some (grownBy_set _ T 2 _) (Or.inl rfl)) (fun _ _ h => h)
      have hTg : T ≠ g1 := Ne.symm hgT1
      have HKw : Hid (Kept (Own T pv ps) w' ((w2.setCell ⟨T, 1, none⟩ (.int .i64 ((S : Int) + (n : Int)))).setCell ⟨T, 2, none⟩ (.int .i64 (a + (n : Int))))) := HK1.out.trans HKW.out HO1.out
      have HsrcW := Hsrc.out.kept HKw.out Hout.out
      obtain ⟨ad, rfl, hnews⟩ : ∃ ad, va = some ad ∧ ∀ j u, (bytesV l)[j]? = some u → ((w2.setCell ⟨T, 1, none⟩ (.int .i64 ((S : Int) + (n : Int)))).setCell ⟨T, 2, none⟩ (.int .i64 (a + (n : Int)))).cell? (ad.add j) = some u := by
        rcases HsrcW with ⟨_, h9⟩ | ⟨ad, cap, e, hc⟩
        · have := Hn.out; rw [h9] at this; simp at this; omega
        · simp only [Value.slice.injEq] at e
          exact ⟨ad, e.1, hc⟩
      have Hnews := hidden hnews
      have hrowW := (HTW.out.good p1 (List.mem_of_getElem? Hp1.out)).1
      rw [Hv1.out, HL1.out] at hrowW
      have HrowW := hidden hrowW
      have HBW : Hid (B ≤ ((w2.setCell ⟨T, 1, none⟩ (.int .i64 ((S : Int) + (n : Int)))).setCell ⟨T, 2, none⟩ (.int .i64 (a + (n : Int)))).heap.size) := by have h1 := HKW.out.size; exact Nat.le_trans hB1 h1
      have Hbl : Hid ((bytesV l).length = n * 1) := by rw [bytesV_len, Hn.out]; simp [Hid]
      obtain ⟨i5, hi5, hz50, hz51, hz52⟩ := info_parts info5
      have hL1S : L1 ≤ 65536 := by have h8 := lenSum_mem (List.mem_of_getElem? Hp1.out); rw [Hcut.out.sum, HSe.out, HL1.out] at h8; omega
      clear HsrcW hnews hrowW
      go_wp2_with (at_builtin; refine wpList_append_at _ rfl _ _ 22 rfl B 5 i5 (.int .u8 0) 1 1 Try.underlying22 hi5 hz50 hz51 hz52 rfl (by decide) _ _ _ rfl HrowW.out ad n vc (bytesV l) rfl Hbl.out Hnews.out (bytesV_one l) ?c3 ?c4 HBW.out h0 ?_)
      case c3 => unfold maxLen; omega
      case c4 => omega
      intro v' w3 hown' hgrow hat'
      obtain ⟨b', cap', rfl⟩ : ∃ b' cap', v' = .slice (some ⟨b', 0, none⟩) (L1 + n) cap' := by
        rcases hown'.2 with ⟨_, h9⟩ | ⟨g', cap', cur, e, _⟩
        · omega
        · exact ⟨_, _, e⟩
      have hqg := HTW.out.row_ne (List.mem_of_getElem? Hp1.out)
      rw [Hv1.out] at hqg
      have hqT := HTW.out.apartT.2 p1 (List.mem_of_getElem? Hp1.out)
      rw [Hv1.out] at hqT
      have F0 := tab_grown (k := a + (n : Int)) (l := l) (q := q1) HTW.out HN1.out (by omega) Hp1.out (by rw [Hv1.out]; rfl) (by rw [HL1.out, Hn.out]; exact hown') hgrow (by simpa [Value.ownBlock] using hat') HBW.out
      obtain ⟨z0, z1⟩ := Tab.part (show Tab B _ T (.slice (some ⟨g1, 0, none⟩) ps1.length vc1) ps1 _ _ by rw [HN1.out]; exact HTW.out) m p1 Hp1.out
      rw [Hv1.out, HL1.out] at z0
      rw [Hk1.out] at z1
      have y4 := hgrow.cell z0 (fun e => hqg e.symm)
      have y5 := hgrow.cell z1 (fun e => hqg e.symm)
      have y6 := hgrow.cell HTW.out.c2 (fun e => hqT e.symm)
      have hrow3 := HTW.out.row.kept hgrow (Or.inr (fun e => hqg e.symm))
      rw [HN1.out] at hrow3
      have y7 := World.ownsRow.frozenAt hrow3 (m * 2)
      have y8 := World.ownsRow.frozenAt hrow3 (m * 2 + 1)
      have F := hidden (And.intro F0.1 (And.intro (HKw.out.trans F0.2.1 (fun j hj ho => HO1.out j hj ho)) (fun j hj ho => HO1.out j hj (F0.2.2 j (Nat.lt_of_lt_of_le hj HKw.out.size) ho))))
      have HG : Hid (Ins ps at' l a (ps1.take m ++ ([⟨.slice (some ⟨b', 0, none⟩) (L1 + n) cap', p1.l ++ l, a + (n : Int)⟩] ++ ps1.drop (m + 1)))) := ⟨m + 1, ps1, Hcut.out, Or.inr ⟨by omega, ha0, p1, _, Hp1.out, Hk1.out, by rw [Hn.out]; rfl⟩⟩
      clear F0 hrow3 hown' hgrow hat' z0 z1 e0' e1' e2' f1' f2' x0' x1'
      go_wp2
      go_ret
      exact ⟨rfl, _, _, F.out.1, HG.out, F.out.2.1, F.out.2.2⟩
    · have HIns : Hid (¬ Grows ps1 (m + 1) a) := by
        rintro ⟨_, h2, p, hp, h3⟩
        rw [show m + 1 - 1 = m by omega, Hp1.out] at hp
        simp only [Option.some.injEq] at hp
        subst hp
        exact hgr ⟨h2, by rw [← Hk1.out]; exact h3⟩
      have hb : (decide (0 < a) && decide (k1 = a)) = false := by
        rw [Bool.and_eq_false_iff]
        by_cases h2 : 0 < a
        · exact Or.inr (decide_eq_false (fun h3 => hgr ⟨h2, h3⟩))
        · exact Or.inl (decide_eq_false h2)
      rw [hb] at Hnew
      clear hb hgr
      go_wp2_with fail
      refine Hnew.out.mono ?_
      rintro e w2 ⟨rfl, hg2'⟩
      have HT2 := hidden (HT1.out.grown hg2')
      have Hg2 := hidden hg2'
      have e0' := HT2.out.c0
      have e1' := HT2.out.c1
      have e2' := HT2.out.c2
      have f1' := HT2.out.fz 1
      have f2' := HT2.out.fz 2
      clear e0 e1 e2 f1 f2 hg2' x0 x1
      go_wp2_with fail
      have HTW := hidden ((HT2.out.put 1 (.int .i64 ((S : Int) + (n : Int))) ((S : Int) + (n : Int)) a rfl).put 2 (.int .i64 (a + (n : Int))) ((S : Int) + (n : Int)) (a + (n : Int)) rfl)
      have HKW : Hid (Kept (Own T (.slice (some ⟨g1, 0, none⟩) N1 vc1) ps1) w1 ((w2.setCell ⟨T, 1, none⟩ (.int .i64 ((S : Int) + (n : Int)))).setCell ⟨T, 2, none⟩ (.int .i64 (a + (n : Int))))) := ((kept_none Hg2.out).trans (kept_some (grownBy_set w2 T 1 _) (Or.inl rfl)) (fun _ _ h => h)).trans (kept_some (grownBy_set _ T 2 _) (Or.inl rfl)) (fun _ _ h => h)
      clear e0' e1' e2' f1' f2'
      generalize ((w2.setCell ⟨T, 1, none⟩ (.int .i64 ((S : Int) + (n : Int)))).setCell ⟨T, 2, none⟩ (.int .i64 (a + (n : Int)))) = W at *
      have HKw : Hid (Kept (Own T pv ps) w' W) := HK1.out.trans HKW.out HO1.out
      have c0 := HTW.out.c0
      have c2 := HTW.out.c2
      have hWT := HTW.out.lt
      have Hown := hidden (own_any _ l W.drew (by rw [Hn.out]; omega) (Hsrc.out.kept (HKw.out.trans (O' := Own T pv ps) (kept_none (grownBy_drew W)) (fun _ _ h => h)) Hout.out))
      rw [Hn.out] at Hown
      have Hins := hidden (fun (w2 : World) (hq : w2.heap[W.drew.heap.size]? = some (.cells (bytesV l).toArray 5 (0, 0))) (hg2 : W.drew.grownBy w2 none) =>
        insert_rep (u := w2.alloc (.cells #[.slice (some ⟨W.heap.size, 0, none⟩) n n, .int .i64 (a + (n : Int))] 81)) (vb := w2.heap.size) (Q := W.heap.size) (i := (m + 1)) HTW.out HN1.out (by omega) (by have h1 := HKW.out.size; omega) (by omega) (Rl.alloc (Rl.own (Rl.drew (Rl.refl W)) hg2) _) (by have hq' : w2.heap[W.heap.size]? = some (.cells (bytesV l).toArray 5 (0, 0)) := hq; rw [Below.heap_alloc _ _ _ (Array.getElem?_eq_some_iff.1 hq').1]; exact hq') (Nat.le_refl _) Hn.out h0 (by omega) hg2.size (heap_alloc_new w2 _))
      go_region_with (first | (refine Hown.out.mono ?_; rintro e w2 ⟨rfl, hq, hg2⟩; have d0 := hg2.cell c0 (by simp); have d2 := hg2.cell c2 (by simp); have d3 := Nat.lt_of_lt_of_le hWT hg2.size; have d4 := (grownBy_alloc w2 (.cells #[.slice (some ⟨W.heap.size, 0, none⟩) n n, .int .i64 (a + (n : Int))] 81)).cell d0 (by simp)) | (refine (Hins.out _ hq hg2).mono ?_; rintro e w5 ⟨g', cap', rfl, Hfin, hcT, hfT⟩))
      all_goals
        have F := hidden (And.intro Hfin.out.1 (And.intro (HKw.out.trans Hfin.out.2.1 (fun j hj ho => HO1.out j hj ho)) (fun j hj ho => HO1.out j hj (Hfin.out.2.2 j (Nat.lt_of_lt_of_le hj HKw.out.size) ho))))
        clear Hfin
        go_wp2
        go_ret
        refine ⟨rfl, _, _, F.out.1, ⟨(m + 1), ps1, Hcut.out, Or.inl ⟨HIns.out, _, by rw [Hn.out]⟩⟩, F.out.2.1, F.out.2.2⟩
end Go.Proofs.PlatenPiece
