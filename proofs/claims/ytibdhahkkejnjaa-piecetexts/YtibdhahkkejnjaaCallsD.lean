/- What slices.Replace comes to, for one element of two cells in whose place two come: where others stand behind it. -/
import Derived.Test.YtibdhahkkejnjaaCallsC
namespace Go.Proofs.PlatenPiece
open Go Go.RowKit
set_option linter.unusedVariables false

theorem rep_rows {row TK DR V : List Value} {i m G : Nat} (hV : V.length = 4) (hrl : row.length = G * 2) (hTK : row.take (i * 2) = TK) (hTl : TK.length = i * 2) (hDl : DR.length = m * 2) (hG : i + 2 + m ≤ G) :
    (splice (splice row (i * 2) V) ((i + 2) * 2) DR).toArray.toList.take ((i + 2 + m) * 2) = TK ++ (V ++ DR) := by
  have e1 : splice row (i * 2) V = TK ++ (V ++ row.drop (i * 2 + V.length)) := by simp [splice, hTK]
  have e2 : (TK ++ (V ++ row.drop (i * 2 + V.length))).take ((i + 2) * 2) = TK ++ V := by
    rw [← List.append_assoc, List.take_append_of_le_length (by simp [hTl, hV]; omega), List.take_of_length_le (by simp [hTl, hV]; omega)]
  rw [e1]
  unfold splice
  rw [e2]
  show (TK ++ V ++ (DR ++ _)).take ((i + 2 + m) * 2) = _
  rw [← List.append_assoc, List.take_append_of_le_length (by simp [hTl, hDl, hV]; omega), List.take_of_length_le (by simp [hTl, hDl, hV]; omega), List.append_assoc]

theorem cells4 {w : World} {vb : Nat} {t l t' l' : Value} (hv : w.heap[vb]? = some (.cells #[t, l, t', l'] 81 (0, 0))) :
    ∀ j u, [t, l, t', l'][j]? = some u → w.cell? ((⟨vb, 0, none⟩ : Addr).add j) = some u := by
  intro j u hj
  match j, hj with
  | 0, hj => simp at hj; subst hj; simp [Addr.add, World.cell?, hv]
  | 1, hj => simp at hj; subst hj; simp [Addr.add, World.cell?, hv]
  | 2, hj => simp at hj; subst hj; simp [Addr.add, World.cell?, hv]
  | 3, hj => simp at hj; subst hj; simp [Addr.add, World.cell?, hv]
  | j + 4, hj => simp at hj

set_option maxHeartbeats 4000000 in
set_option maxRecDepth 100000 in
/-- Where there is no room: a new row. -/
theorem replace_grow (g i m vb B : Nat) (xs : List Value) (t l t' l' : Value) (w : World) (hn : i + m ≤ 1000000) (hm : 0 < m) (hown : w.ownsRow B 81 2 (.slice (some ⟨g, 0, none⟩) (i + 1 + m) (i + 1 + m)) (i + 1 + m) xs) (hB : B ≤ w.heap.size)
    (hv : w.heap[vb]? = some (.cells #[t, l, t', l'] 81 (0, 0))) (h1 : ∀ u ∈ [t, l, t', l'], u.oneCell' = true) (hxs : ∀ u ∈ xs, u.oneCell' = true) :
    Calls Try.prog 77 #[.slice (some ⟨g, 0, none⟩) (i + 1 + m) (i + 1 + m), .int .i64 i, .int .i64 ((i : Int) + 1), .slice (some ⟨vb, 0, none⟩) 2 2] w fun e w' => ∃ pv', e = .returned pv' ∧ w'.ownsRow B 81 2 pv' (i + 2 + m) (xs.take (2 * i) ++ ([t, l, t', l'] ++ xs.drop (2 * (i + 1)))) ∧ w.grownBy w' (some g) ∧ (pv'.ownBlock = some g ∨ pv'.ownBlock = some w.heap.size) := by
  obtain ⟨i0, hi, hz0, hz1, hz2⟩ := info_parts info57
  have hxl : xs.length = (i + 1 + m) * 2 := hown.1
  have hcells : ∀ j u, xs[j]? = some u → w.cell? ((⟨g, 0, none⟩ : Addr).add j) = some u := hown.cells rfl
  have hcell0 : w.cell? ((⟨g, 0, none⟩ : Addr).add 0) = some (xs[0]'(by omega)) := hcells 0 _ (List.getElem?_eq_getElem (by omega))
  have hgw : g < w.heap.size := by have := World.block_lt_of_cell? _ _ hcell0; simpa [Addr.add] using this
  have hvw : vb < w.heap.size := (Array.getElem?_eq_some_iff.1 hv).1
  have Hcells := hidden hcells
  have hold : ∀ j v, (xs.take (2 * i))[j]? = some v → w.cell? ((⟨g, 0, none⟩ : Addr).add j) = some v := fun j v hj => by
    rw [List.getElem?_take] at hj
    split at hj
    · exact hcells j v hj
    · cases hj
  have Hold := hidden hold
  have hol : (xs.take (2 * i)).length = i * 2 := by rw [List.length_take, hxl]; omega
  have Hol := hidden hol
  have hdl : (xs.drop (2 * (i + 1))).length = m * 2 := by rw [List.length_drop, hxl]; omega
  have Hdl := hidden hdl
  have HV := hidden hv
  have HX := hidden hxs
  have H1 := hidden h1
  clear hcells hcell0 hold hol hv hxs hown h1 hdl hxl
  obtain ⟨TK, hTK⟩ : ∃ TK, xs.take (2 * i) = TK := ⟨_, rfl⟩
  obtain ⟨DR, hDR⟩ : ∃ DR, xs.drop (2 * (i + 1)) = DR := ⟨_, rfl⟩
  rw [hTK] at Hold Hol
  rw [hDR] at Hdl
  rw [hTK, hDR]
  have HDR := hidden hDR
  clear hTK hDR
  have z1' : ¬ ((i : Int) = (i : Int) + 1) := by omega
  have z3 : ¬ ((i : Int) + 1 = (i : Int) + 1 + (m : Int)) := by omega
  have z5 : ¬ (m = 0) := by omega
  have z6 : (0 : Int) < (m : Int) := by omega
  have z4 : ¬ (i + 1 + m = i) := by omega
  have z7 : (i : Int) + 1 + (m : Int) < (i : Int) + 2 + (m : Int) := by omega
  have z8 : ¬ (i + 1 + m = i + 1) := by omega
  have z9 : i + 1 + m - (i + 1) = m := by omega
  obtain ⟨V, hVd⟩ : ∃ V, [t, l, t', l'] = V := ⟨_, rfl⟩
  have hnews0 := cells4 HV.out
  have HVl : Hid (V.length = 4) := by rw [← hVd]; rfl
  rw [hVd] at H1 hnews0
  rw [hVd]
  have Hnews0 := hidden hnews0
  clear hnews0 hVd HV
  have hw1 : IntKind.i64.wrap ((i : Int) + 2) = (i : Int) + 2 := IntWalk.i64_in _ (by omega)
  have hw2 : IntKind.i64.wrap ((i : Int) + 2 + (m : Int)) = (i : Int) + 2 + (m : Int) := IntWalk.i64_in _ (by omega)
  have htn1 : ((i : Int) + 1).toNat = i + 1 := by omega
  have hb2 : (0 : Int) ≤ (i : Int) + 1 := by omega
  have hle4 : (i : Int) + 1 ≤ (i : Int) + 1 + (m : Int) := by omega
  have hle5 : (i : Int) ≤ (i : Int) + 1 + (m : Int) := by omega
  have hle6 : (i : Int) ≤ (i : Int) + 1 := by omega
  have hle7 : i ≤ i + 1 + m := by omega
  have hle8 : i + 1 ≤ i + 1 + m := by omega
  go_enter Try.func77, Try.ntmps77
  go_wp2_with fail
  go_region_held3 (fun _ => True) (trivial) (fail)
  go_wp2_with (at_builtin; refine wpList_grow_k _ rfl _ _ 76 3 rfl 81 i0 (.agg #[.slice none 0 0, .int .i64 0]) .i64 .i64 2 32 Try.underlying76 Try.underlying3 hi hz0 hz1 hz2 rfl g (i + 1 + m) i TK Hol.out Hold.out (2 + m) _ ?e1 (by decide) ?e2 ?e3 ?e4 rfl rfl ?e5 ?_)
  case e1 => omega
  case e2 => omega
  case e3 => omega
  case e4 => omega
  case e5 => omega
  intro G row w1 hG1 hG2 hrl Hrt Hrow Hg1 hsz1
  have hG1' : i + 2 + m ≤ G := by omega
  unfold maxLen at hG2
  have hsum : i + (2 + m) = i + 2 + m := by omega
  rw [hsum]
  have hGi : ¬ (G = i) := by omega
  have hGim : ¬ (G = i + 2) := by omega
  have hGz1 : (i : Int) ≤ (i : Int) + 2 + (m : Int) := by omega
  have hGz2 : (i : Int) ≤ ((i + 2 + m : Nat) : Int) := by omega
  have hd1 : i + 2 + m - i = 2 + m := by omega
  have hle0 : i ≤ i + 2 + m := by omega
  have hnews : ∀ j u, V[j]? = some u → w1.cell? ((⟨vb, 0, none⟩ : Addr).add j) = some u := fun j u hj => Hg1.out.cell (Hnews0.out j u hj) (by simp)
  have Hnews := hidden hnews
  clear hnews hsum
  have hmin : V.length = Nat.min 2 (2 + m) * 2 := by
    rw [show Nat.min 2 (2 + m) = 2 from Nat.min_eq_left (by omega), HVl.out]
  have hfit : i * 2 + V.length ≤ row.length := by rw [hrl, HVl.out]; omega
  have Hmin := hidden hmin
  have Hfit := hidden hfit
  have Hrl := hidden hrl
  clear hmin hfit hrl
  go_wp2_with (refine wpList_copy_k _ rfl _ _ 76 76 rfl 81 2 Try.underlying76 size57 (by decide) _ _ _ _ _ _ rfl rfl w.heap.size (i * 2) row 81 Hrow.out V Hmin.out (fun _ => ⟨rfl, _, rfl, Hnews.out⟩) Hfit.out H1.out ?_)
  intro w2 Hrow2 Hg2
  have hcur2 : (splice row (i * 2) V).length = G * 2 := by rw [length_splice _ _ _ Hfit.out, Hrl.out]
  have hD2 : ∀ j v, DR[j]? = some v → w2.cell? ((⟨g, (i + 1) * 2, none⟩ : Addr).add j) = some v := fun j v hj => by
    rw [← HDR.out, List.getElem?_drop] at hj
    have h0 := Hcells.out _ v hj
    rw [Addr.add_lit] at h0
    rw [Addr.add_lit]
    have e1 : (0 + (2 * (i + 1) + j)) = (i + 1) * 2 + j := by omega
    rw [e1] at h0
    exact Hg2.out.cell (Hg1.out.cell h0 (by simp)) (by simp; omega)
  have HD2 := hidden hD2
  have hmin2 : DR.length = Nat.min m m * 2 := by
    rw [Hdl.out, show Nat.min m m = m from Nat.min_self _]
  have Hmin2 := hidden hmin2
  have hfit2 : (i + 2) * 2 + DR.length ≤ (splice row (i * 2) V).length := by rw [hcur2, Hdl.out]; omega
  have Hfit2 := hidden hfit2
  have hone2 : ∀ u ∈ DR, u.oneCell' = true := fun u hu => HX.out u (by rw [← HDR.out] at hu; exact List.mem_of_mem_drop hu)
  have Hone2 := hidden hone2
  have hsp := hidden hcur2
  have HG12 : Hid (w.grownBy w2 (some w.heap.size)) := by
    have a := Hg1.out
    have b := Hg2.out
    exact ⟨b.os.trans a.os, b.tape.trans a.tape, b.output.trans a.output, Nat.le_trans a.size b.size, fun k hk hne => (b.block k (Nat.lt_of_lt_of_le hk a.size) hne).trans (a.block k hk (by simp))⟩
  obtain ⟨row2, hr2⟩ : ∃ row2, splice row (i * 2) V = row2 := ⟨_, rfl⟩
  rw [hr2] at Hfit2 hsp Hrow2
  have HR2 := hidden hr2
  clear hr2
  clear hD2 hmin2 hfit2 hone2 hcur2 Hnews Hmin Hfit
  have hb1 : (0 : Int) ≤ (i : Int) + 2 := by omega
  have htn : ((i : Int) + 2).toNat = i + 2 := by omega
  have hle1 : i + 2 ≤ i + 2 + m := by omega
  have hle3 : (i : Int) + 2 ≤ (i : Int) + 2 + (m : Int) := by omega
  have hd2 : i + 2 + m - (i + 2) = m := by omega
  go_wp2_with fail
  go_region_held3 (fun _ => True) (trivial) ((refine step_copy_k rfl _ _ 76 76 rfl 81 2 Try.underlying76 size57 (by decide) _ _ _ _ _ _ rfl rfl w.heap.size ((i + 2) * 2) row2 81 Hrow2.out DR Hmin2.out (fun _ => ⟨rfl, _, rfl, HD2.out⟩) Hfit2.out Hone2.out ?_; intro w3 Hrow3 Hg3))
  have Hfin : Hid (w3.ownsRow B 81 2 (.slice (some ⟨w.heap.size, 0, none⟩) (i + 2 + m) G) (i + 2 + m) (TK ++ (V ++ DR)) ∧ w.grownBy w3 (some g)) := by
    refine ⟨⟨?_, Or.inr ⟨w.heap.size, G, _, rfl, hB, Hrow3.out, hG1', hG2, ?_, ?_⟩⟩, ?_⟩
    · simp only [List.length_append, Hol.out, Hdl.out, HVl.out]; omega
    · rw [List.size_toArray, length_splice _ _ _ Hfit2.out, hsp.out]
    · rw [← HR2.out]
      exact rep_rows HVl.out Hrl.out Hrt.out Hol.out Hdl.out hG1'
    · have a := HG12.out
      have b := Hg3.out
      exact ⟨b.os.trans a.os, b.tape.trans a.tape, b.output.trans a.output, Nat.le_trans a.size b.size, fun k hk hne => (b.block k (Nat.lt_of_lt_of_le hk a.size) (by simp; omega)).trans (a.block k hk (by simp; omega))⟩
  clear Hrow3 Hg3
  go_wp2
  go_ret
  exact ⟨_, rfl, Hfin.out.1, Hfin.out.2, Or.inr rfl⟩
end Go.Proofs.PlatenPiece
