/- What slices.Insert comes to, for one element of two cells. -/
import Derived.Test.YtibdhahkkejnjaaCallsA
import Derived.Test.YtibdhahkkejnjaaRowB
namespace Go.Proofs.PlatenPiece
open Go Go.RowKit
set_option linter.unusedVariables false

set_option maxHeartbeats 1000000 in
/-- Behind the last element. -/
theorem insert_end (pv : Value) (n vb B : Nat) (xs : List Value) (t l : Value) (w : World) (hn : n ≤ 1000000) (hown : w.ownsRow B 81 2 pv n xs) (hB : B ≤ w.heap.size)
    (hc0 : w.cell? ⟨vb, 0, none⟩ = some t) (hc1 : w.cell? ⟨vb, 1, none⟩ = some l) (h1 : t.oneCell' = true) (h2 : l.oneCell' = true) :
    Calls Try.prog 68 #[pv, .int .i64 n, .slice (some ⟨vb, 0, none⟩) 1 1] w fun e w' => ∃ pv', e = .returned pv' ∧ w'.ownsRow B 81 2 pv' (n + 1) (xs ++ [t, l]) ∧ w.grownBy w' pv.ownBlock ∧ (pv'.ownBlock = pv.ownBlock ∨ pv'.ownBlock = some w.heap.size) := by
  obtain ⟨i0, hi, hz0, hz1, hz2⟩ := info_parts info57
  have hnews : ∀ j u, [t, l][j]? = some u → w.cell? ((⟨vb, 0, none⟩ : Addr).add j) = some u := by
    intro j u hj
    match j, hj with
    | 0, hj => simp at hj; subst hj; simpa [Addr.add] using hc0
    | 1, hj => simp at hj; subst hj; simpa [Addr.add] using hc1
    | j + 2, hj => simp at hj
  have Hnews := hidden hnews
  have hone : ∀ u ∈ [t, l], u.oneCell' = true := by
    intro u hu; simp at hu; rcases hu with rfl | rfl <;> assumption
  have Hone := hidden hone
  have Hown := hidden hown
  have hshape := hown.2
  clear hnews hone hown hc0 hc1
  rcases hshape with ⟨rfl, rfl⟩ | ⟨g, cap, cur, rfl, _, _, hnc, hcm, _, _⟩
  · go_enter Try.func68, Try.ntmps68
    go_wp2_with (at_builtin; refine wpList_append_at _ rfl _ _ 76 rfl B 81 i0 (.agg #[.slice none 0 0, .int .i64 0]) 2 32 Try.underlying76 hi hz0 hz1 hz2 rfl (by decide) _ _ _ rfl Hown.out ⟨vb, 0, none⟩ 1 1 [t, l] rfl rfl Hnews.out Hone.out ?c3 ?c4 hB (by decide) ?_)
    case c3 => unfold maxLen; omega
    case c4 => omega
    intro v' w1 hown' hgrow hat'
    have H1 := hidden hown'
    have H2 := hidden hgrow
    have H3 := hidden hat'
    clear hown' hgrow hat'
    go_wp2
    go_ret
    exact ⟨_, rfl, H1.out, H2.out, H3.out⟩
  · unfold maxLen at hcm
    have hcz : (n : Int) ≤ (cap : Int) := by omega
    by_cases hfull : cap = n
    · subst hfull
      go_enter Try.func68, Try.ntmps68
      go_wp2_with (at_builtin; refine wpList_append_at _ rfl _ _ 76 rfl B 81 i0 (.agg #[.slice none 0 0, .int .i64 0]) 2 32 Try.underlying76 hi hz0 hz1 hz2 rfl (by decide) _ _ _ rfl Hown.out ⟨vb, 0, none⟩ 1 1 [t, l] rfl rfl Hnews.out Hone.out ?c3 ?c4 hB (by decide) ?_)
      case c3 => unfold maxLen; omega
      case c4 => omega
      intro v' w1 hown' hgrow hat'
      have H1 := hidden hown'
      have H2 := hidden hgrow
      have H3 := hidden hat'
      clear hown' hgrow hat'
      go_wp2
      go_ret
      exact ⟨_, rfl, H1.out, H2.out, H3.out⟩
    · go_enter Try.func68, Try.ntmps68
      go_wp2_with (at_builtin; refine wpList_append_at _ rfl _ _ 76 rfl B 81 i0 (.agg #[.slice none 0 0, .int .i64 0]) 2 32 Try.underlying76 hi hz0 hz1 hz2 rfl (by decide) _ _ _ rfl Hown.out ⟨vb, 0, none⟩ 1 1 [t, l] rfl rfl Hnews.out Hone.out ?c3 ?c4 hB (by decide) ?_)
      case c3 => unfold maxLen; omega
      case c4 => omega
      intro v' w1 hown' hgrow hat'
      have H1 := hidden hown'
      have H2 := hidden hgrow
      have H3 := hidden hat'
      clear hown' hgrow hat'
      go_wp2
      go_ret
      exact ⟨_, rfl, H1.out, H2.out, H3.out⟩

theorem ins_rows {row TK DR : List Value} {t l : Value} {i n G : Nat} (hrl : row.length = G * 2) (hTK : row.take (i * 2) = TK) (hTl : TK.length = i * 2) (hDl : DR.length = (n - i) * 2) (hi : i < n) (hG : n + 1 ≤ G) :
    (splice (splice row (i * 2) [t, l]) ((i + 1) * 2) DR).toArray.toList.take ((n + 1) * 2) = TK ++ ([t, l] ++ DR) := by
  have e1 : splice row (i * 2) [t, l] = TK ++ ([t, l] ++ row.drop (i * 2 + 2)) := by simp [splice, hTK]
  have e2 : (TK ++ ([t, l] ++ row.drop (i * 2 + 2))).take ((i + 1) * 2) = TK ++ [t, l] := by
    rw [← List.append_assoc, List.take_append_of_le_length (by simp [hTl]; omega), List.take_of_length_le (by simp [hTl]; omega)]
  rw [e1]
  unfold splice
  rw [e2]
  show (TK ++ [t, l] ++ (DR ++ _)).take ((n + 1) * 2) = _
  rw [← List.append_assoc, List.take_append_of_le_length (by simp [hTl, hDl]; omega), List.take_of_length_le (by simp [hTl, hDl]; omega), List.append_assoc]

set_option maxHeartbeats 2000000 in
set_option maxRecDepth 100000 in
/-- Ahead of an element, where there is no room: a new row. -/
theorem insert_grow (g n i vb B : Nat) (xs : List Value) (t l : Value) (w : World) (hn : n ≤ 1000000) (hi' : i < n) (hown : w.ownsRow B 81 2 (.slice (some ⟨g, 0, none⟩) n n) n xs) (hB : B ≤ w.heap.size)
    (hc0 : w.cell? ⟨vb, 0, none⟩ = some t) (hc1 : w.cell? ⟨vb, 1, none⟩ = some l) (h1 : t.oneCell' = true) (h2 : l.oneCell' = true) (hxs : ∀ u ∈ xs, u.oneCell' = true) :
    Calls Try.prog 68 #[.slice (some ⟨g, 0, none⟩) n n, .int .i64 i, .slice (some ⟨vb, 0, none⟩) 1 1] w fun e w' => ∃ pv', e = .returned pv' ∧ w'.ownsRow B 81 2 pv' (n + 1) (xs.take (2 * i) ++ ([t, l] ++ xs.drop (2 * i))) ∧ w.grownBy w' (some g) ∧ (pv'.ownBlock = some g ∨ pv'.ownBlock = some w.heap.size) := by
  obtain ⟨i0, hi, hz0, hz1, hz2⟩ := info_parts info57
  have hxl : xs.length = n * 2 := hown.1
  have hcells : ∀ j u, xs[j]? = some u → w.cell? ((⟨g, 0, none⟩ : Addr).add j) = some u := hown.cells rfl
  have hcell0 : w.cell? ((⟨g, 0, none⟩ : Addr).add 0) = some (xs[0]'(by omega)) := hcells 0 _ (List.getElem?_eq_getElem (by omega))
  have hgw : g < w.heap.size := by have := World.block_lt_of_cell? _ _ hcell0; simpa [Addr.add] using this
  have hvw : vb < w.heap.size := World.block_lt_of_cell? _ _ hc0
  have Hcells := hidden hcells
  have hold : ∀ j v, (xs.take (2 * i))[j]? = some v → w.cell? ((⟨g, 0, none⟩ : Addr).add j) = some v := fun j v hj => by
    rw [List.getElem?_take] at hj
    split at hj
    · exact hcells j v hj
    · cases hj
  have Hold := hidden hold
  have hol : (xs.take (2 * i)).length = i * 2 := by rw [List.length_take, hxl]; omega
  have Hol := hidden hol
  have HC0 := hidden hc0
  have HC1 := hidden hc1
  have HX := hidden hxs
  have z1 : ¬ ((i : Int) = (n : Int)) := by omega
  have z2 : (n : Int) < (n : Int) + 1 := by omega
  have z3 : (i : Int) ≤ (n : Int) := by omega
  have z4 : ¬ (n = i) := by omega
  clear hcells hcell0 hold hol hc0 hc1 hxs hown
  generalize hTK : xs.take (2 * i) = TK at *
  generalize hDR : xs.drop (2 * i) = DR at *
  have HTK := hidden hTK
  have HDR := hidden hDR
  clear hTK hDR
  go_enter Try.func68, Try.ntmps68
  go_wp2_with (at_builtin; refine wpList_grow_k _ rfl _ _ 76 3 rfl 81 i0 (.agg #[.slice none 0 0, .int .i64 0]) .i64 .i64 2 32 Try.underlying76 Try.underlying3 hi hz0 hz1 hz2 rfl g n i TK Hol.out Hold.out (n + 1 - i) _ ?e1 (by decide) ?e2 ?e3 ?e4 rfl rfl ?e5 ?_)
  case e1 => omega
  case e2 => omega
  case e3 => omega
  case e4 => omega
  case e5 => omega
  intro G row w1 hG1 hG2 hrl Hrt Hrow Hg1 hsz1
  have hG1' : n + 1 ≤ G := by omega
  unfold maxLen at hG2
  have hGi : ¬ (G = i) := by omega
  have hGim : ¬ (G = i + 1) := by omega
  have hv1 : w1.cell? ⟨vb, 0, none⟩ = some t := Hg1.out.cell HC0.out (by simp)
  have hv2 : w1.cell? ⟨vb, 1, none⟩ = some l := Hg1.out.cell HC1.out (by simp)
  have hnews : ∀ j u, [t, l][j]? = some u → w1.cell? ((⟨vb, 0, none⟩ : Addr).add j) = some u := by
    intro j u hj
    match j, hj with
    | 0, hj => simp at hj; subst hj; simpa [Addr.add] using hv1
    | 1, hj => simp at hj; subst hj; simpa [Addr.add] using hv2
    | j + 2, hj => simp at hj
  have Hnews := hidden hnews
  have hsum : i + (n + 1 - i) = n + 1 := by omega
  rw [hsum]
  have hgz : (i : Int) ≤ (n : Int) + 1 := by omega
  clear hv1 hv2 hnews hsum
  have hmin : [t, l].length = Nat.min 1 (n + 1 - i) * 2 := by
    rw [show Nat.min 1 (n + 1 - i) = 1 from Nat.min_eq_left (by omega)]; rfl
  have hfit : i * 2 + [t, l].length ≤ row.length := by rw [hrl]; simp; omega
  have hone : ∀ u ∈ [t, l], u.oneCell' = true := by intro u hu; simp at hu; rcases hu with rfl | rfl <;> assumption
  have Hmin := hidden hmin
  have Hfit := hidden hfit
  have Hone := hidden hone
  clear hmin hfit hone
  go_wp2_with (refine wpList_copy_k _ rfl _ _ 76 76 rfl 81 2 Try.underlying76 size57 (by decide) _ _ _ _ _ _ rfl rfl w.heap.size (i * 2) row 81 Hrow.out [t, l] Hmin.out (fun _ => ⟨rfl, _, rfl, Hnews.out⟩) Hfit.out Hone.out ?_)
  intro w2 Hrow2 Hg2
  have hcur2 : (splice row (i * 2) [t, l]).length = G * 2 := by rw [length_splice _ _ _ Hfit.out, hrl]
  have hD2 : ∀ j v, DR[j]? = some v → w2.cell? ((⟨g, i * 2, none⟩ : Addr).add j) = some v := fun j v hj => by
    rw [← HDR.out, List.getElem?_drop] at hj
    have h0 := Hcells.out _ v hj
    rw [Addr.add_lit] at h0
    rw [Addr.add_lit]
    have e1 : (0 + (2 * i + j)) = i * 2 + j := by omega
    rw [e1] at h0
    exact Hg2.out.cell (Hg1.out.cell h0 (by simp)) (by simp; omega)
  have HD2 := hidden hD2
  have hdl : DR.length = (n - i) * 2 := by rw [← HDR.out, List.length_drop, hxl]; omega
  have hmin2 : DR.length = Nat.min (n - i) (n - i) * 2 := by
    rw [hdl, show Nat.min (n - i) (n - i) = n - i from Nat.min_self _]
  have Hmin2 := hidden hmin2
  have hfit2 : (i + 1) * 2 + DR.length ≤ (splice row (i * 2) [t, l]).length := by rw [hcur2, hdl]; omega
  have Hfit2 := hidden hfit2
  have hone2 : ∀ u ∈ DR, u.oneCell' = true := fun u hu => HX.out u (by rw [← HDR.out] at hu; exact List.mem_of_mem_drop hu)
  have Hone2 := hidden hone2
  have hsp := hidden hcur2
  have HG12 : Hid (w.grownBy w2 (some w.heap.size)) := by
    have a := Hg1.out
    have b := Hg2.out
    exact ⟨b.os.trans a.os, b.tape.trans a.tape, b.output.trans a.output, Nat.le_trans a.size b.size, fun k hk hne => (b.block k (Nat.lt_of_lt_of_le hk a.size) hne).trans (a.block k hk (by simp))⟩
  obtain ⟨row2, hr2⟩ : ∃ row2, splice row (i * 2) [t, l] = row2 := ⟨_, rfl⟩
  rw [hr2] at Hfit2 hsp Hrow2
  have HR2 := hidden hr2
  clear hr2
  clear hD2 hmin2 hfit2 hone2 hcur2 Hnews Hmin Hfit Hone
  have hw1 : IntKind.i64.wrap ((i : Int) + 1) = (i : Int) + 1 := IntWalk.i64_in _ (by omega)
  have hb1 : (0 : Int) ≤ (i : Int) + 1 := by omega
  have htn : ((i : Int) + 1).toNat = i + 1 := by omega
  have hle1 : i + 1 ≤ n + 1 := by omega
  have hle2 : n + 1 ≤ G := hG1'
  have hle3 : (i : Int) + 1 ≤ (n : Int) + 1 := by omega
  go_wp2_with fail
  go_region_held3 (fun _ => True) (trivial) ((refine step_copy_k rfl _ _ 76 76 rfl 81 2 Try.underlying76 size57 (by decide) _ _ _ _ _ _ rfl rfl w.heap.size ((i + 1) * 2) row2 81 Hrow2.out DR Hmin2.out (fun _ => ⟨rfl, _, rfl, HD2.out⟩) Hfit2.out Hone2.out ?_; intro w3 Hrow3 Hg3))
  have Hfin : Hid (w3.ownsRow B 81 2 (.slice (some ⟨w.heap.size, 0, none⟩) (n + 1) G) (n + 1) (TK ++ ([t, l] ++ DR)) ∧ w.grownBy w3 (some g)) := by
    refine ⟨⟨?_, Or.inr ⟨w.heap.size, G, _, rfl, hB, Hrow3.out, hG1', hG2, ?_, ?_⟩⟩, ?_⟩
    · simp only [List.length_append, Hol.out, hdl, List.length_cons, List.length_nil]; omega
    · rw [List.size_toArray, length_splice _ _ _ Hfit2.out, hsp.out]
    · rw [← HR2.out]
      exact ins_rows hrl Hrt.out Hol.out hdl hi' hG1'
    · have a := HG12.out
      have b := Hg3.out
      exact ⟨b.os.trans a.os, b.tape.trans a.tape, b.output.trans a.output, Nat.le_trans a.size b.size, fun k hk hne => (b.block k (Nat.lt_of_lt_of_le hk a.size) (by simp; omega)).trans (a.block k hk (by simp; omega))⟩
  clear Hrow3 Hg3
  go_wp2
  go_ret
  exact ⟨_, rfl, Hfin.out.1, Hfin.out.2, Or.inr rfl⟩

theorem size57z (w : World) : (Go.sizeOf 81).run Try.prog w = .ok 2 w := by
  obtain ⟨i0, hi, hz0, hz1, hz2⟩ := info_parts info57
  simp [Go.sizeOf, typeInfo, hi, hz1]

theorem overlaps_no (w : World) (g vb o lb cb m vc : Nat) (V cur : Array Value) (hne : vb ≠ g) (hv : w.heap[vb]? = some (.cells V 81 (0, 0))) (hg : w.heap[g]? = some (.cells cur 81 (0, 0))) (h0 : cur.size ≠ 0) :
    (callFunc 73 #[.slice (some ⟨vb, 0, none⟩) m vc, .slice (some ⟨g, o, none⟩) lb cb]).run Try.prog w = .ok (.value (.bool false)) w := by
  rw [run_callFunc_extern Try.func73 (by kernel_rfl) (by kernel_rfl) (by kernel_rfl) (e := Extern.SlicesOverlaps.overlaps #[76, 76] #[4]) (by kernel_rfl),
    Lib.run_overlaps_apart w 76 4 81 Try.underlying76 2 size57z ⟨vb, 0, none⟩ ⟨g, o, none⟩ m vc lb cb hne 81 81 V.size cur.size (by simp [World.shape?, hv]) (by simp [World.shape?, hg]) h0 (by simp [World.frozen?, hv]) (by simp [World.frozen?, hv])]
  rfl

theorem shift_rows {cur TK DR : List Value} {t l : Value} {i n cap : Nat} (hcl : cur.length = cap * 2) (hTK : cur.take (i * 2) = TK) (hTl : TK.length = i * 2) (hDl : DR.length = (n - i) * 2) (hi : i < n) (hc : n + 1 ≤ cap) :
    (splice (splice cur ((i + 1) * 2) DR) (i * 2) [t, l]).toArray.toList.take ((n + 1) * 2) = TK ++ ([t, l] ++ DR) := by
  obtain ⟨A, hA⟩ : ∃ A, cur.take ((i + 1) * 2) = A := ⟨_, rfl⟩
  have hAl : A.length = (i + 1) * 2 := by rw [← hA, List.length_take]; omega
  have hAt : A.take (i * 2) = TK := by rw [← hA, List.take_take, ← hTK]; congr 1; omega
  have e1 : splice cur ((i + 1) * 2) DR = A ++ (DR ++ cur.drop ((i + 1) * 2 + DR.length)) := by rw [← hA]; rfl
  rw [e1]
  unfold splice
  have e2 : (A ++ (DR ++ cur.drop ((i + 1) * 2 + DR.length))).take (i * 2) = TK := by
    rw [List.take_append_of_le_length (by omega), hAt]
  have e3 : (A ++ (DR ++ cur.drop ((i + 1) * 2 + DR.length))).drop (i * 2 + [t, l].length) = DR ++ cur.drop ((i + 1) * 2 + DR.length) := by
    rw [List.drop_append_of_le_length (by simp; omega), List.drop_of_length_le (by simp; omega), List.nil_append]
  rw [e2, e3]
  show (TK ++ ([t, l] ++ (DR ++ _))).take ((n + 1) * 2) = _
  rw [← List.append_assoc, ← List.append_assoc, List.take_append_of_le_length (by simp [hTl, hDl]; omega), List.take_of_length_le (by simp [hTl, hDl]; omega), List.append_assoc]

set_option maxHeartbeats 2000000 in
set_option maxRecDepth 100000 in
/-- Ahead of an element, where there is room: in place. -/
theorem insert_shift (g n cap i vb B : Nat) (xs : List Value) (t l : Value) (w : World) (hn : n ≤ 1000000) (hi' : i < n) (hroom : n + 1 ≤ cap) (hown : w.ownsRow B 81 2 (.slice (some ⟨g, 0, none⟩) n cap) n xs) (hB : B ≤ w.heap.size)
    (hv : w.heap[vb]? = some (.cells #[t, l] 81 (0, 0))) (hne : vb ≠ g) (h1 : t.oneCell' = true) (h2 : l.oneCell' = true) (hxs : ∀ u ∈ xs, u.oneCell' = true) :
    Calls Try.prog 68 #[.slice (some ⟨g, 0, none⟩) n cap, .int .i64 i, .slice (some ⟨vb, 0, none⟩) 1 1] w fun e w' => ∃ pv', e = .returned pv' ∧ w'.ownsRow B 81 2 pv' (n + 1) (xs.take (2 * i) ++ ([t, l] ++ xs.drop (2 * i))) ∧ w.grownBy w' (some g) ∧ (pv'.ownBlock = some g ∨ pv'.ownBlock = some w.heap.size) := by
  have hxl : xs.length = n * 2 := hown.1
  have hcells : ∀ j u, xs[j]? = some u → w.cell? ((⟨g, 0, none⟩ : Addr).add j) = some u := hown.cells rfl
  obtain ⟨_, hown2⟩ := hown
  rcases hown2 with ⟨h0, _⟩ | ⟨g', cap', cur, he, hBg, hh, hnc, hcm, hcs, htk⟩
  · cases h0
  simp only [Value.slice.injEq, Option.some.injEq, Addr.mk.injEq, and_true, true_and] at he
  obtain ⟨rfl, rfl⟩ := he
  unfold maxLen at hcm
  obtain ⟨L, hL⟩ : ∃ L, cur.toList = L := ⟨_, rfl⟩
  have hLl : L.length = cap * 2 := by rw [← hL]; simp [hcs]
  have Hh : Hid (w.heap[g]? = some (.cells L.toArray 81 (0, 0))) := by unfold Hid; rw [← hL, Array.toArray_toList]; exact hh
  have Hov := hidden (fun o lb cb => overlaps_no w g vb o lb cb 1 1 #[t, l] cur hne hv hh (by omega))
  obtain ⟨TK, hTK⟩ : ∃ TK, xs.take (2 * i) = TK := ⟨_, rfl⟩
  obtain ⟨DR, hDR⟩ : ∃ DR, xs.drop (2 * i) = DR := ⟨_, rfl⟩
  have hTl : TK.length = i * 2 := by rw [← hTK, List.length_take, hxl]; omega
  have hDl : DR.length = (n - i) * 2 := by rw [← hDR, List.length_drop, hxl]; omega
  have hLt : L.take (i * 2) = TK := by
    rw [← hTK, ← htk, hL, List.take_take]; congr 1; omega
  have hsrc : ∀ j v, DR[j]? = some v → w.drew.cell? ((⟨g, i * 2, none⟩ : Addr).add j) = some v := fun j v hj => by
    rw [← hDR, List.getElem?_drop] at hj
    have h0 := hcells _ v hj
    rw [Addr.add_lit] at h0
    rw [Addr.add_lit, show i * 2 + j = 0 + (2 * i + j) by omega]
    exact h0
  have Hsrc := hidden hsrc
  have hmin1 : DR.length = Nat.min (n + 1 - i) (n - i) * 2 := by rw [hDl, show Nat.min (n + 1 - i) (n - i) = n - i from Nat.min_eq_right (by omega)]
  have Hmin1 := hidden hmin1
  have hfit1 : (i + 1) * 2 + DR.length ≤ L.length := by rw [hDl, hLl]; omega
  have Hfit1 := hidden hfit1
  have hone1 : ∀ u ∈ DR, u.oneCell' = true := fun u hu => hxs u (by rw [← hDR] at hu; exact List.mem_of_mem_drop hu)
  have Hone1 := hidden hone1
  have hmin2 : [t, l].length = Nat.min 1 (n + 1 - i) * 2 := by rw [show Nat.min 1 (n + 1 - i) = 1 from Nat.min_eq_left (by omega)]; rfl
  have Hmin2 := hidden hmin2
  have hone2 : ∀ u ∈ [t, l], u.oneCell' = true := by intro u hu; simp at hu; rcases hu with rfl | rfl <;> assumption
  have Hone2 := hidden hone2
  have hnl : (splice L ((i + 1) * 2) DR).length = cap * 2 := by rw [length_splice _ _ _ hfit1, hLl]
  have Hnl := hidden hnl
  have hfit2 : i * 2 + [t, l].length ≤ (splice L ((i + 1) * 2) DR).length := by rw [hnl]; simp; omega
  have Hfit2 := hidden hfit2
  have Hrows := hidden (shift_rows (t := t) (l := l) hLl hLt hTl hDl hi' hroom)
  have HV := hidden hv
  have HTK := hidden hTK
  have HDR := hidden hDR
  have HTl := hidden hTl
  have HDl := hidden hDl
  obtain ⟨L1, hL1⟩ : ∃ L1, splice L ((i + 1) * 2) DR = L1 := ⟨_, rfl⟩
  rw [hL1] at Hnl Hfit2 Hrows
  have HL1 := hidden hL1
  rw [hTK, hDR]
  have z1 : ¬ ((i : Int) = (n : Int)) := by omega
  have z2 : ¬ ((cap : Int) < (n : Int) + 1) := by omega
  have z3 : (i : Int) ≤ (n : Int) := by omega
  have z4 : ¬ (cap = i) := by omega
  have z5 : ¬ (cap = i + 1) := by omega
  have z6 : (i : Int) ≤ (n : Int) + 1 := by omega
  have hw1 : IntKind.i64.wrap ((i : Int) + 1) = (i : Int) + 1 := IntWalk.i64_in _ (by omega)
  have hb1 : (0 : Int) ≤ (i : Int) + 1 := by omega
  have htn : ((i : Int) + 1).toNat = i + 1 := by omega
  have hle1 : i + 1 ≤ n + 1 := by omega
  have hle3 : (i : Int) + 1 ≤ (n : Int) + 1 := by omega
  clear hcells hh htk hsrc hmin1 hfit1 hone1 hmin2 hone2 hnl hfit2 hv hTK hDR hTl hDl hL1 hLt hL hcs hxs
  have HBg := hidden hBg
  clear hBg
  go_enter Try.func68, Try.ntmps68
  go_wp2_with (simp only [Hov.out])
  go_region_held3 (fun _ => True) (trivial) ((refine step_copy_k rfl _ _ 76 76 rfl 81 2 Try.underlying76 size57 (by decide) _ _ _ _ _ _ rfl rfl g ((i + 1) * 2) L 81 Hh.out DR Hmin1.out (fun _ => ⟨rfl, _, rfl, Hsrc.out⟩) Hfit1.out Hone1.out ?_; intro w2 Hrow2 Hg2))
  have Hrow2' : Hid (w2.heap[g]? = some (.cells L1.toArray 81 (0, 0))) := by unfold Hid; rw [← HL1.out]; exact Hrow2.out
  have hvb2 : w2.heap[vb]? = some (.cells #[t, l] 81 (0, 0)) := by
    rw [Hg2.out.block vb (Array.getElem?_eq_some_iff.1 HV.out).1 (by simpa using hne)]
    exact HV.out
  have hnews : ∀ j u, [t, l][j]? = some u → w2.cell? ((⟨vb, 0, none⟩ : Addr).add j) = some u := by
    intro j u hj
    match j, hj with
    | 0, hj => simp at hj; subst hj; simp [Addr.add, World.cell?, hvb2]
    | 1, hj => simp at hj; subst hj; simp [Addr.add, World.cell?, hvb2]
    | j + 2, hj => simp at hj
  have Hnews := hidden hnews
  clear hnews hvb2 Hrow2
  go_wp2_with (refine wpList_copy_k _ rfl _ _ 76 76 rfl 81 2 Try.underlying76 size57 (by decide) _ _ _ _ _ _ rfl rfl g (i * 2) L1 81 Hrow2'.out [t, l] Hmin2.out (fun _ => ⟨rfl, _, rfl, Hnews.out⟩) Hfit2.out Hone2.out ?_)
  intro w3 Hrow3 Hg3
  have Hfin : Hid (w3.ownsRow B 81 2 (.slice (some ⟨g, 0, none⟩) (n + 1) cap) (n + 1) (TK ++ ([t, l] ++ DR)) ∧ w.grownBy w3 (some g)) := by
    refine ⟨⟨?_, Or.inr ⟨g, cap, _, rfl, HBg.out, Hrow3.out, hroom, hcm, ?_, Hrows.out⟩⟩, ?_⟩
    · simp only [List.length_append, HTl.out, HDl.out, List.length_cons, List.length_nil]; omega
    · rw [List.size_toArray, length_splice _ _ _ Hfit2.out, Hnl.out]
    · have a := Hg2.out
      have b := Hg3.out
      exact ⟨b.os.trans a.os, b.tape.trans a.tape, b.output.trans a.output, Nat.le_trans a.size b.size, fun k hk hne => (b.block k (Nat.lt_of_lt_of_le hk a.size) hne).trans (a.block k hk hne)⟩
  clear Hrow3 Hg3 Hrow2' Hg2
  go_wp2
  go_ret
  exact ⟨_, rfl, Hfin.out.1, Hfin.out.2, Or.inl rfl⟩

/-- One element, wherever. -/
theorem insert_any (pv : Value) (n i vb B : Nat) (xs : List Value) (t l : Value) (w : World) (hn : n ≤ 1000000) (hi : i ≤ n) (hown : w.ownsRow B 81 2 pv n xs) (hB : B ≤ w.heap.size)
    (hv : w.heap[vb]? = some (.cells #[t, l] 81 (0, 0))) (hne : pv.ownBlock ≠ some vb) (h1 : t.oneCell' = true) (h2 : l.oneCell' = true) (hxs : ∀ u ∈ xs, u.oneCell' = true) :
    Calls Try.prog 68 #[pv, .int .i64 i, .slice (some ⟨vb, 0, none⟩) 1 1] w fun e w' => ∃ pv', e = .returned pv' ∧ w'.ownsRow B 81 2 pv' (n + 1) (xs.take (2 * i) ++ ([t, l] ++ xs.drop (2 * i))) ∧ w.grownBy w' pv.ownBlock ∧ (pv'.ownBlock = pv.ownBlock ∨ pv'.ownBlock = some w.heap.size) := by
  have hxl : xs.length = n * 2 := hown.1
  have hc0 : w.cell? ⟨vb, 0, none⟩ = some t := by simp [World.cell?, hv]
  have hc1 : w.cell? ⟨vb, 1, none⟩ = some l := by simp [World.cell?, hv]
  by_cases he : i = n
  · subst he
    have e1 : xs.take (2 * i) = xs := List.take_of_length_le (by omega)
    have e2 : xs.drop (2 * i) = [] := List.drop_of_length_le (by omega)
    rw [e1, e2]
    exact insert_end pv i vb B xs t l w hn hown hB hc0 hc1 h1 h2
  · have hsh := hown.2
    rcases hsh with ⟨rfl, h0⟩ | ⟨g, cap, cur, rfl, _, _, hnc, _, _, _⟩
    · omega
    · have hg : (Value.slice (some ⟨g, 0, none⟩) n cap).ownBlock = some g := rfl
      rw [hg] at hne ⊢
      by_cases hr : n + 1 ≤ cap
      · exact insert_shift g n cap i vb B xs t l w hn (by omega) hr hown hB hv (fun e => hne (by rw [e])) h1 h2 hxs
      · have : cap = n := by omega
        subst this
        exact insert_grow g cap i vb B xs t l w hn (by omega) hown hB hc0 hc1 h1 h2 hxs
end Go.Proofs.PlatenPiece
