/- What slices.Replace comes to, for one element of two cells in whose place two come: in place; wherever. -/
import Derived.Test.YtibdhahkkejnjaaCallsD
namespace Go.Proofs.PlatenPiece
open Go Go.RowKit
set_option linter.unusedVariables false

theorem overlaps_no2 (w : World) (g vb o lb cb m vc : Nat) (V cur : Array Value) (hne : vb ≠ g) (hv : w.heap[vb]? = some (.cells V 81 (0, 0))) (hg : w.heap[g]? = some (.cells cur 81 (0, 0))) (h0 : V.size ≠ 0) :
    (callFunc 73 #[.slice (some ⟨g, o, none⟩) lb cb, .slice (some ⟨vb, 0, none⟩) m vc]).run Try.prog w = .ok (.value (.bool false)) w := by
  rw [run_callFunc_extern Try.func73 (by kernel_rfl) (by kernel_rfl) (by kernel_rfl) (e := Extern.SlicesOverlaps.overlaps #[76, 76] #[4]) (by kernel_rfl),
    Lib.run_overlaps_apart w 76 4 81 Try.underlying76 2 size57z ⟨g, o, none⟩ ⟨vb, 0, none⟩ lb cb m vc (Ne.symm hne) 81 81 cur.size V.size (by simp [World.shape?, hg]) (by simp [World.shape?, hv]) h0 (by simp [World.frozen?, hg]) (by simp [World.frozen?, hg])]
  rfl

theorem rshift_rows {cur TK DR V : List Value} {i m cap : Nat} (hV : V.length = 4) (hcl : cur.length = cap * 2) (hTK : cur.take (i * 2) = TK) (hTl : TK.length = i * 2) (hDl : DR.length = m * 2) (hc : i + 2 + m ≤ cap) :
    (splice (splice cur ((i + 2) * 2) DR) (i * 2) V).toArray.toList.take ((i + 2 + m) * 2) = TK ++ (V ++ DR) := by
  obtain ⟨A, hA⟩ : ∃ A, cur.take ((i + 2) * 2) = A := ⟨_, rfl⟩
  have hAl : A.length = (i + 2) * 2 := by rw [← hA, List.length_take]; omega
  have hAt : A.take (i * 2) = TK := by rw [← hA, List.take_take, ← hTK]; congr 1; omega
  have e1 : splice cur ((i + 2) * 2) DR = A ++ (DR ++ cur.drop ((i + 2) * 2 + DR.length)) := by rw [← hA]; rfl
  rw [e1]
  unfold splice
  have e2 : (A ++ (DR ++ cur.drop ((i + 2) * 2 + DR.length))).take (i * 2) = TK := by
    rw [List.take_append_of_le_length (by omega), hAt]
  have e3 : (A ++ (DR ++ cur.drop ((i + 2) * 2 + DR.length))).drop (i * 2 + V.length) = DR ++ cur.drop ((i + 2) * 2 + DR.length) := by
    rw [List.drop_append_of_le_length (by omega), List.drop_of_length_le (by omega), List.nil_append]
  rw [e2, e3]
  show (TK ++ (V ++ (DR ++ _))).take ((i + 2 + m) * 2) = _
  rw [← List.append_assoc, ← List.append_assoc, List.take_append_of_le_length (by simp [hTl, hDl, hV]; omega), List.take_of_length_le (by simp [hTl, hDl, hV]; omega), List.append_assoc]

set_option maxHeartbeats 4000000 in
set_option maxRecDepth 100000 in
/-- Where there is room: in place. -/
theorem replace_shift (g i m cap vb B : Nat) (xs : List Value) (t l t' l' : Value) (w : World) (hn : i + m ≤ 1000000) (hm : 0 < m) (hroom : i + 2 + m ≤ cap) (hown : w.ownsRow B 81 2 (.slice (some ⟨g, 0, none⟩) (i + 1 + m) cap) (i + 1 + m) xs) (hB : B ≤ w.heap.size)
    (hv : w.heap[vb]? = some (.cells #[t, l, t', l'] 81 (0, 0))) (hne : vb ≠ g) (h1 : ∀ u ∈ [t, l, t', l'], u.oneCell' = true) (hxs : ∀ u ∈ xs, u.oneCell' = true) :
    Calls Try.prog 77 #[.slice (some ⟨g, 0, none⟩) (i + 1 + m) cap, .int .i64 i, .int .i64 ((i : Int) + 1), .slice (some ⟨vb, 0, none⟩) 2 2] w fun e w' => ∃ pv', e = .returned pv' ∧ w'.ownsRow B 81 2 pv' (i + 2 + m) (xs.take (2 * i) ++ ([t, l, t', l'] ++ xs.drop (2 * (i + 1)))) ∧ w.grownBy w' (some g) ∧ (pv'.ownBlock = some g ∨ pv'.ownBlock = some w.heap.size) := by
  have hxl : xs.length = (i + 1 + m) * 2 := hown.1
  have hcells : ∀ j u, xs[j]? = some u → w.cell? ((⟨g, 0, none⟩ : Addr).add j) = some u := hown.cells rfl
  obtain ⟨_, hown2⟩ := hown
  rcases hown2 with ⟨h0, _⟩ | ⟨g', cap', cur, he, hBg, hh, hnc, hcm, hcs, htk⟩
  · cases h0
  simp only [Value.slice.injEq, Option.some.injEq, Addr.mk.injEq, and_true, true_and] at he
  obtain ⟨rfl, rfl⟩ := he
  unfold maxLen at hcm
  obtain ⟨L, hL⟩ : ∃ L, cur.toList = L := ⟨_, rfl⟩
  have hLl : L.length = cap * 2 := by rw [← hL]; simp [hcs]
  have Hh : Hid (w.heap[g]? = some (.cells L.toArray 81 (0, 0))) := by unfold Hid; rw [← hL, Array.toArray_toList]; exact hh
  have Hov := hidden (fun o lb cb => overlaps_no2 w g vb o lb cb 2 2 #[t, l, t', l'] cur hne hv hh (by simp))
  have Hov2 := hidden (fun o lb cb => overlaps_no2 w.drew g vb o lb cb 2 2 #[t, l, t', l'] cur hne hv hh (by simp))
  have Hov3 := hidden (fun o lb cb => overlaps_no2 w.drew.drew g vb o lb cb 2 2 #[t, l, t', l'] cur hne hv hh (by simp))
  obtain ⟨TK, hTK⟩ : ∃ TK, xs.take (2 * i) = TK := ⟨_, rfl⟩
  obtain ⟨DR, hDR⟩ : ∃ DR, xs.drop (2 * (i + 1)) = DR := ⟨_, rfl⟩
  obtain ⟨V, hVd⟩ : ∃ V, [t, l, t', l'] = V := ⟨_, rfl⟩
  have hVl : V.length = 4 := by rw [← hVd]; rfl
  have hTl : TK.length = i * 2 := by rw [← hTK, List.length_take, hxl]; omega
  have hDl : DR.length = m * 2 := by rw [← hDR, List.length_drop, hxl]; omega
  have hLt : L.take (i * 2) = TK := by
    rw [← hTK, ← htk, hL, List.take_take]; congr 1; omega
  have hsrc : ∀ j v, DR[j]? = some v → w.cell? ((⟨g, (i + 1) * 2, none⟩ : Addr).add j) = some v := fun j v hj => by
    rw [← hDR, List.getElem?_drop] at hj
    have h0 := hcells _ v hj
    rw [Addr.add_lit] at h0
    rw [Addr.add_lit, show (i + 1) * 2 + j = 0 + (2 * (i + 1) + j) by omega]
    exact h0
  have Hsrc := hidden hsrc
  have hmin1 : DR.length = Nat.min m m * 2 := by rw [hDl, show Nat.min m m = m from Nat.min_self _]
  have Hmin1 := hidden hmin1
  have hfit1 : (i + 2) * 2 + DR.length ≤ L.length := by rw [hDl, hLl]; omega
  have Hfit1 := hidden hfit1
  have hone1 : ∀ u ∈ DR, u.oneCell' = true := fun u hu => hxs u (by rw [← hDR] at hu; exact List.mem_of_mem_drop hu)
  have Hone1 := hidden hone1
  have hmin2 : V.length = Nat.min 2 (2 + m) * 2 := by rw [show Nat.min 2 (2 + m) = 2 from Nat.min_eq_left (by omega), hVl]
  have Hmin2 := hidden hmin2
  have hnl : (splice L ((i + 2) * 2) DR).length = cap * 2 := by rw [length_splice _ _ _ hfit1, hLl]
  have Hnl := hidden hnl
  have hfit2 : i * 2 + V.length ≤ (splice L ((i + 2) * 2) DR).length := by rw [hnl, hVl]; omega
  have Hfit2 := hidden hfit2
  have Hrows := hidden (rshift_rows hVl hLl hLt hTl hDl hroom)
  have HV := hidden hv
  have HTl := hidden hTl
  have HDl := hidden hDl
  have HVl := hidden hVl
  obtain ⟨L1, hL1⟩ : ∃ L1, splice L ((i + 2) * 2) DR = L1 := ⟨_, rfl⟩
  rw [hL1] at Hnl Hfit2 Hrows
  have HL1 := hidden hL1
  rw [hVd] at h1
  have Hone2 := hidden h1
  have HVd := hidden hVd
  rw [hTK, hDR, hVd]
  have z1' : ¬ ((i : Int) = (i : Int) + 1) := by omega
  have z3 : ¬ ((i : Int) + 1 = (i : Int) + 1 + (m : Int)) := by omega
  have z5 : ¬ (m = 0) := by omega
  have z6 : (0 : Int) < (m : Int) := by omega
  have z4 : ¬ (cap = i) := by omega
  have z4b : ¬ (cap = i + 1) := by omega
  have z4c : ¬ (cap = i + 2) := by omega
  have z7 : ¬ ((cap : Int) < (i : Int) + 2 + (m : Int)) := by omega
  have z7b : (i : Int) + 2 + (m : Int) ≤ (cap : Int) := by omega
  have z7c : (i : Int) + 1 + (m : Int) ≤ (cap : Int) := by omega
  have z8 : ¬ (i + 1 + m = i + 1) := by omega
  have z11 : (i : Int) ≤ (cap : Int) := by omega
  have z12 : (i : Int) + 1 ≤ (cap : Int) := by omega
  have z13 : (i : Int) + 2 ≤ (cap : Int) := by omega
  have z9 : i + 1 + m - (i + 1) = m := by omega
  have z10 : ¬ ((i : Int) + 2 ≤ (i : Int) + 1) := by omega
  have hw1 : IntKind.i64.wrap ((i : Int) + 2) = (i : Int) + 2 := IntWalk.i64_in _ (by omega)
  have hw2 : IntKind.i64.wrap ((i : Int) + 2 + (m : Int)) = (i : Int) + 2 + (m : Int) := IntWalk.i64_in _ (by omega)
  have htn : ((i : Int) + 2).toNat = i + 2 := by omega
  have htn1 : ((i : Int) + 1).toNat = i + 1 := by omega
  have htn2 : ((i : Int) + 2 + (m : Int)).toNat = i + 2 + m := by omega
  have hb1 : (0 : Int) ≤ (i : Int) + 2 := by omega
  have hb2 : (0 : Int) ≤ (i : Int) + 1 := by omega
  have hb3 : (0 : Int) ≤ (i : Int) + 2 + (m : Int) := by omega
  have hle3 : (i : Int) + 2 ≤ (i : Int) + 2 + (m : Int) := by omega
  have hle4 : (i : Int) + 1 ≤ (i : Int) + 1 + (m : Int) := by omega
  have hle5 : (i : Int) ≤ (i : Int) + 1 + (m : Int) := by omega
  have hle6 : (i : Int) ≤ (i : Int) + 1 := by omega
  have hle7 : i ≤ i + 1 + m := by omega
  have hle8 : i + 1 ≤ i + 1 + m := by omega
  have hle9 : (i : Int) ≤ (i : Int) + 2 + (m : Int) := by omega
  have hd1 : i + 2 + m - i = 2 + m := by omega
  have hd2 : i + 2 + m - (i + 2) = m := by omega
  have HBg := hidden hBg
  have Hcm := hidden hcm
  clear hcells hh htk hsrc hmin1 hfit1 hone1 hmin2 hnl hfit2 hv hTK hDR hTl hDl hL1 hLt hL hcs hxs hBg h1 hVd hVl hLl hxl hcm
  go_enter Try.func77, Try.ntmps77
  go_wp2_with fail
  go_region_held3 (fun _ => True) (trivial) (fail)
  go_wp2_with (first | simp only [Hov.out] | simp only [Hov2.out] | simp only [Hov3.out])
  go_region_held3 (fun _ => True) (trivial) ((refine step_copy_k rfl _ _ 76 76 rfl 81 2 Try.underlying76 size57 (by decide) _ _ _ _ _ _ rfl rfl g ((i + 2) * 2) L 81 Hh.out DR Hmin1.out (fun _ => ⟨rfl, _, rfl, Hsrc.out⟩) Hfit1.out Hone1.out ?_; intro w2 Hrow2 Hg2))
  have Hrow2' : Hid (w2.heap[g]? = some (.cells L1.toArray 81 (0, 0))) := by unfold Hid; rw [← HL1.out]; exact Hrow2.out
  have hvb2 : w2.heap[vb]? = some (.cells #[t, l, t', l'] 81 (0, 0)) := by
    rw [Hg2.out.block vb (Array.getElem?_eq_some_iff.1 HV.out).1 (by simpa using hne)]
    exact HV.out
  have hnews := cells4 hvb2
  rw [HVd.out] at hnews
  have Hnews := hidden hnews
  clear hnews hvb2 Hrow2
  go_wp2_with (refine wpList_copy_k _ rfl _ _ 76 76 rfl 81 2 Try.underlying76 size57 (by decide) _ _ _ _ _ _ rfl rfl g (i * 2) L1 81 Hrow2'.out V Hmin2.out (fun _ => ⟨rfl, _, rfl, Hnews.out⟩) Hfit2.out Hone2.out ?_)
  intro w3 Hrow3 Hg3
  have Hfin : Hid (w3.ownsRow B 81 2 (.slice (some ⟨g, 0, none⟩) (i + 2 + m) cap) (i + 2 + m) (TK ++ (V ++ DR)) ∧ w.grownBy w3 (some g)) := by
    refine ⟨⟨?_, Or.inr ⟨g, cap, _, rfl, HBg.out, Hrow3.out, hroom, Hcm.out, ?_, Hrows.out⟩⟩, ?_⟩
    · simp only [List.length_append, HTl.out, HDl.out, HVl.out]; omega
    · rw [List.size_toArray, length_splice _ _ _ Hfit2.out, Hnl.out]
    · have a := Hg2.out
      have b := Hg3.out
      exact ⟨b.os.trans a.os, b.tape.trans a.tape, b.output.trans a.output, Nat.le_trans a.size b.size, fun k hk hne => (b.block k (Nat.lt_of_lt_of_le hk a.size) hne).trans (a.block k hk hne)⟩
  clear Hrow3 Hg3 Hrow2' Hg2
  go_wp2
  go_ret
  exact ⟨_, rfl, Hfin.out.1, Hfin.out.2, Or.inl rfl⟩

/-- Wherever. -/
theorem replace_any (pv : Value) (n i vb B : Nat) (xs : List Value) (t l t' l' : Value) (w : World) (hn : n ≤ 1000000) (hi : i < n) (hown : w.ownsRow B 81 2 pv n xs) (hB : B ≤ w.heap.size)
    (hv : w.heap[vb]? = some (.cells #[t, l, t', l'] 81 (0, 0))) (hne : pv.ownBlock ≠ some vb) (h1 : ∀ u ∈ [t, l, t', l'], u.oneCell' = true) (hxs : ∀ u ∈ xs, u.oneCell' = true) :
    Calls Try.prog 77 #[pv, .int .i64 i, .int .i64 ((i : Int) + 1), .slice (some ⟨vb, 0, none⟩) 2 2] w fun e w' => ∃ pv', e = .returned pv' ∧ w'.ownsRow B 81 2 pv' (n + 1) (xs.take (2 * i) ++ ([t, l, t', l'] ++ xs.drop (2 * (i + 1)))) ∧ w.grownBy w' pv.ownBlock ∧ (pv'.ownBlock = pv.ownBlock ∨ pv'.ownBlock = some w.heap.size) := by
  have hxl : xs.length = n * 2 := hown.1
  have hsh := hown.2
  rcases hsh with ⟨rfl, h0⟩ | ⟨g, cap, cur, rfl, _, _, hnc, _, _, _⟩
  · omega
  · have hg : (Value.slice (some ⟨g, 0, none⟩) n cap).ownBlock = some g := rfl
    rw [hg] at hne ⊢
    by_cases he : n = i + 1
    · subst he
      have e2 : xs.drop (2 * (i + 1)) = [] := List.drop_of_length_le (by omega)
      rw [e2]
      have := replace_end g i cap vb B xs t l t' l' w (by omega) hown hB hv h1
      rw [show (((i + 1 : Nat) : Int)) = (i : Int) + 1 by omega] at this
      exact this
    · obtain ⟨m, rfl⟩ : ∃ m, n = i + 1 + m := ⟨n - (i + 1), by omega⟩
      have e3 : i + 1 + m + 1 = i + 2 + m := by omega
      rw [e3]
      by_cases hr : i + 2 + m ≤ cap
      · exact replace_shift g i m cap vb B xs t l t' l' w (by omega) (by omega) hr hown hB hv (fun e => hne (by rw [e])) h1 hxs
      · have : cap = i + 1 + m := by omega
        subst this
        exact replace_grow g i m vb B xs t l t' l' w (by omega) (by omega) hown hB hv h1 hxs
end Go.Proofs.PlatenPiece
