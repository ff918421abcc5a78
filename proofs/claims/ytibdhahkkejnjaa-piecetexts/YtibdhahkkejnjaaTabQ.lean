/- What a table's pieces are behind a Delete. -/
import Derived.Test.YtibdhahkkejnjaaTabP
namespace Go.Proofs.PlatenPiece
open Go Go.RowKit
set_option linter.unusedVariables false
set_option maxRecDepth 100000

theorem lenSum_mono (ps : List Pc) {i j : Nat} (h : i ≤ j) : lenSum (ps.take i) ≤ lenSum (ps.take j) := by
  have e := lenSum_take (ps.take j) i
  rw [List.take_take, Nat.min_eq_left h] at e
  omega
theorem lenSum_lt {ps : List Pc} (hp : ∀ p ∈ ps, 0 < p.l.length) {i j : Nat} (h : i < j) (hj : j ≤ ps.length) : lenSum (ps.take i) < lenSum (ps.take j) := by
  have hi : i < ps.length := by omega
  have e := lenSum_succ (List.getElem?_eq_getElem hi)
  have h1 := hp _ (List.getElem_mem hi)
  have h2 := lenSum_mono ps (show i + 1 ≤ j from h)
  omega

/-- A cut where a piece begins already. -/
theorem Cut.edge {ps ps' : List Pc} {at' i k : Nat} (h : Cut ps at' i ps') (hp : ∀ p ∈ ps, 0 < p.l.length) (hk : k ≤ ps.length) (he : lenSum (ps.take k) = at') : ps' = ps ∧ i = k := by
  rcases h with ⟨rfl, hi, h⟩ | ⟨j, p, n, q1, q2, hpj, hl, h0, h1, rfl, rfl⟩
  · refine ⟨rfl, ?_⟩
    rcases Nat.lt_trichotomy i k with hlt | heq | hgt
    · have := lenSum_lt hp hlt hk; omega
    · exact heq
    · have := lenSum_lt hp hgt hi; omega
  · exfalso
    have e := lenSum_succ hpj
    rcases Nat.lt_or_ge j k with hjk | hjk
    · have := lenSum_mono ps (show j + 1 ≤ k from hjk); omega
    · have := lenSum_mono ps hjk; omega

/-- A cut behind an edge. -/
theorem Cut.behind {ps ps' : List Pc} {at' i k e : Nat} (h : Cut ps at' i ps') (hp : ∀ p ∈ ps, 0 < p.l.length) (hk : k ≤ ps.length) (he : lenSum (ps.take k) = e) (hle : e ≤ at') : k ≤ i ∧ ps'.take k = ps.take k := by
  rcases h with ⟨rfl, hi, h⟩ | ⟨j, p, n, q1, q2, hpj, hl, h0, h1, rfl, rfl⟩
  · refine ⟨?_, rfl⟩
    rcases Nat.lt_or_ge i k with hlt | hge
    · have := lenSum_lt hp hlt hk; omega
    · exact hge
  · have e := lenSum_succ hpj
    have hj : j < ps.length := (List.getElem?_eq_some_iff.1 hpj).1
    have hkj : k ≤ j := by
      rcases Nat.lt_or_ge j k with hjk | hjk
      · have := lenSum_mono ps (show j + 1 ≤ k from hjk); omega
      · exact hjk
    refine ⟨by omega, ?_⟩
    rw [List.take_append_of_le_length (by rw [List.length_take]; omega), List.take_take, Nat.min_eq_left hkj]

theorem Cut.ks {ps ps' : List Pc} {at' i : Nat} {lo hi : Int} (h : Cut ps at' i ps') (hS : lenSum ps ≤ 65536) (hk : ∀ p ∈ ps, lo ≤ p.k ∧ p.k ≤ hi) : ∀ p ∈ ps', lo - 65536 ≤ p.k ∧ p.k ≤ hi := by
  rcases h with ⟨rfl, _, _⟩ | ⟨j, p, n, q1, q2, hpj, hl, h0, h1, rfl, rfl⟩
  · intro p hp
    have := hk p hp
    omega
  · have hpm := List.mem_of_getElem? hpj
    have hpk := hk p hpm
    have hpl := lenSum_mem hpm
    intro x hx
    simp only [List.mem_append, List.mem_cons, List.not_mem_nil, or_false] at hx
    rcases hx with hx | (rfl | rfl) | hx
    · have := hk x (List.mem_of_mem_take hx); omega
    · simp only; omega
    · simp only; omega
    · have := hk x (List.mem_of_mem_drop hx); omega

def Del (ps : List Pc) (at' n : Nat) (ps' : List Pc) : Prop :=
  ∃ i ps1 j ps2, Cut ps at' i ps1 ∧ Cut ps1 (at' + n) j ps2 ∧ i ≤ j ∧ ps2.take i = ps1.take i ∧ ps' = ps2.take i ++ ps2.drop j

theorem tab_deleted {B T g N cap i j : Nat} {ps : List Pc} {s a : Int} {w w5 : World} {pv' : Value}
    (h : Tab B w T (.slice (some ⟨g, 0, none⟩) N cap) ps s a) (hij : i ≤ j) (hj : j ≤ ps.length) (h5 : w.grownBy w5 (some g))
    (hr : w5.ownsRow B 81 2 pv' (ps.length - (j - i)) ((rowOf ps).take (2 * i) ++ (rowOf ps).drop (2 * j))) (hat : pv'.ownBlock = some g) :
    Tab B (w5.setCell ⟨T, 0, none⟩ pv') T pv' (ps.take i ++ ps.drop j) s a ∧ Kept (Own T (.slice (some ⟨g, 0, none⟩) N cap) ps) w (w5.setCell ⟨T, 0, none⟩ pv') ∧ (∀ k, k < w.heap.size → Own T pv' (ps.take i ++ ps.drop j) k → Own T (.slice (some ⟨g, 0, none⟩) N cap) ps k) ∧ w5.cell? ⟨T, 0, none⟩ = some (.slice (some ⟨g, 0, none⟩) N cap) ∧ w5.frozen? ⟨T, 0, none⟩ = false := by
  have hTw := h.lt
  have hgT : some T ≠ some g := fun e => h.apartT.1 (by rw [e]; rfl)
  have hT5 : w5.heap[T]? = some (.cells #[.slice (some ⟨g, 0, none⟩) N cap, .int .i64 s, .int .i64 a] 78 (0, 0)) := by rw [h5.block T hTw hgT]; exact h.head
  have hset := grownBy_set w5 T 0 pv'
  have hg : ∃ c, w.heap[g]? = some (.cells c 81 (0, 0)) := by
    rcases h.row.2 with ⟨e, _⟩ | ⟨g', cap', cur, e, _, hh, _⟩
    · cases e
    · simp only [Value.slice.injEq, Option.some.injEq, Addr.mk.injEq, and_true] at e
      obtain ⟨rfl, _⟩ := e
      exact ⟨_, hh⟩
  obtain ⟨cg, hg⟩ := hg
  have hold : ∀ p ∈ ps, Good B (w5.setCell ⟨T, 0, none⟩ pv') p := by
    intro p hp
    have gp := h.good p hp
    obtain ⟨b, c, hb, hh⟩ := gp.ty
    have hbg : b ≠ g := by intro e; rw [e, hg] at hh; simp at hh
    exact (gp.kept h5 (by rw [hb]; simpa using hbg)).kept hset (h.apartT.2 p hp)
  have hsub : (ps.take i ++ ps.drop j).Sublist ps := by
    have h2 : (ps.drop j).Sublist (ps.drop i) := by
      rw [show ps.drop j = (ps.drop i).drop (j - i) by rw [List.drop_drop]; congr 1; omega]
      exact List.drop_sublist _ _
    have h3 := List.Sublist.append (List.Sublist.refl (ps.take i)) h2
    rwa [List.take_append_drop] at h3
  refine ⟨⟨h.low, ?_, ?_, ?_, h.apart.sublist hsub⟩, ?_, ?_, ?_, ?_⟩
  · rw [heap_setCell_same _ T 0 _ 78 _ hT5]
    rfl
  · have e3 : (ps.take i ++ ps.drop j).length = ps.length - (j - i) := by
      simp only [List.length_append, List.length_take, List.length_drop]; omega
    rw [e3, rowOf_app, ← rowOf_take, ← rowOf_drop]
    refine hr.kept hset (Or.inr ?_)
    rw [hat]
    exact fun e => hgT e.symm
  · exact fun p hp => hold p (hsub.subset hp)
  · exact (kept_some h5 (Or.inr (Or.inl rfl))).trans (kept_some hset (Or.inl rfl)) (fun _ _ h => h)
  · intro k hk ho
    rcases ho with rfl | ho | ⟨p, hp, hb⟩
    · exact Or.inl rfl
    · exact Or.inr (Or.inl (by rw [← ho, hat]; rfl))
    · exact Or.inr (Or.inr ⟨p, hsub.subset hp, hb⟩)
  · simp [World.cell?, hT5]
  · exact frozen_of_row w5 T 0 _ 78 hT5

set_option maxHeartbeats 4000000 in
set_option maxRecDepth 100000 in
theorem delete_tab (B T : Nat) (pv : Value) (ps : List Pc) (s a : Int) (at' n : Nat) (w : World) (h : Tab B w T pv ps s a) (hB : B ≤ w.heap.size) (hN : ps.length ≤ 99990) (hs : s = lenSum ps) (hat : at' + n ≤ lenSum ps) (hS : lenSum ps ≤ 65536)
    (hk : ∀ p ∈ ps, -900000000 ≤ p.k ∧ p.k ≤ 900000000) :
    Calls Try.prog 46 #[.pointer (some ⟨T, 0, none⟩), .int .i64 at', .int .i64 n] w fun e w' => e = .returned (.int .i64 0) ∧ ∃ pv' ps', Tab B w' T pv' ps' (s - n) a ∧ Del ps at' n ps' ∧ Kept (Own T pv ps) w w' ∧ (∀ k, k < w.heap.size → Own T pv' ps' k → Own T pv ps k) := by
  have hh := has_of _ s at' n w (len_tab B T pv ps s a w h) (by omega) (by omega)
  have hd : decide (0 ≤ (at' : Int) ∧ (at' : Int) ≤ s ∧ 0 ≤ (n : Int) ∧ (n : Int) ≤ s - (at' : Int)) = true := decide_eq_true (by omega)
  rw [hd] at hh
  have Hh := hidden hh
  have Hspl := hidden (split_tab B T pv ps s a at' w h hB (by omega) (by omega) (by omega) (fun p hp => by have := hk p hp; omega))
  have Htab := hidden h
  have Hk := hidden hk
  obtain ⟨S, hSe⟩ : ∃ S, lenSum ps = S := ⟨_, rfl⟩
  have HSe := hidden hSe
  rw [hSe] at hs hS hat
  subst hs
  have hw1 : IntKind.i64.wrap ((at' : Int) + (n : Int)) = ((at' + n : Nat) : Int) := IntWalk.i64_in _ (by omega) |>.trans (by omega)
  have hw2 : IntKind.i64.wrap ((S : Int) - (n : Int)) = (S : Int) - (n : Int) := IntWalk.i64_in _ (by omega)
  clear hh hd h hk hSe
  go_enter Try.func46, Try.ntmps46
  go_wp2_with fail
  refine Hh.out.mono ?_
  rintro e w' ⟨rfl, rfl⟩
  go_wp2_with fail
  refine Hspl.out.mono ?_
  rintro e w1 ⟨i, rfl, pv1, ps1, hT1, hcut, hK1, hO1⟩
  have hB1 : B ≤ w1.heap.size := Nat.le_trans hB hK1.size
  have Hspl2 := hidden (split_tab B T pv1 ps1 S a (at' + n) w1 hT1 hB1 (by have := hcut.le.2; omega) (by rw [hcut.sum, HSe.out]; exact hat) (by rw [hcut.sum, HSe.out]; exact hS) (fun p hp => by have := hcut.ks (by rw [HSe.out]; exact hS) Hk.out p hp; omega))
  have HK1 := hidden hK1
  have HO1 := hidden hO1
  have Hcut := hidden hcut
  have HT1 := hidden hT1
  clear hK1 hO1 hcut hT1
  go_wp2_with fail
  refine Hspl2.out.mono ?_
  rintro e w2 ⟨j, rfl, pv2, ps2, hT2, hcut2, hK2, hO2⟩
  have hb := hcut2.behind (fun p hp => (HT1.out.good p hp).2) Hcut.out.le.1 Hcut.out.flat.2 (by omega)
  have hl1 := Hcut.out.le.2
  have hl2 := hcut2.le.2
  have hj2 := hcut2.le.1
  obtain ⟨hij, htk⟩ := hb
  have HK2 : Hid (Kept (Own T pv ps) w' w2) := HK1.out.trans hK2 HO1.out
  have HO2 : Hid (∀ k, k < w'.heap.size → Own T pv2 ps2 k → Own T pv ps k) := fun k hk ho => HO1.out k hk (hO2 k (Nat.lt_of_lt_of_le hk HK1.out.size) ho)
  have HD : Hid (Del ps at' n (ps2.take i ++ ps2.drop j)) := ⟨i, ps1, j, ps2, Hcut.out, hcut2, hij, htk, rfl⟩
  have HT2 := hidden hT2
  have c0 := hT2.c0
  have c1 := hT2.c1
  have f0 := hT2.fz 0
  have f1 := hT2.fz 1
  have HB2 : B ≤ w2.heap.size := Nat.le_trans hB HK2.out.size
  clear hT2 hcut2 hK2 hO2 htk
  by_cases hlt : i < j
  · obtain ⟨g, cap, e, hcap, hgT, hgw, hBg⟩ := HT2.out.form i (by omega)
    subst e
    have HR := hidden (sdel_row g ps2.length cap i j B (rowOf ps2) w2 hlt hj2 (by omega) HT2.out.row (rowOf_one HT2.out.good))
    obtain ⟨N2, hN2⟩ : ∃ N2, ps2.length = N2 := ⟨_, rfl⟩
    have HN2 := hidden hN2
    rw [hN2] at c0 hcap HR hl2 hj2
    rw [hN2] at HT2 HO2
    clear hN2
    go_wp2_with fail
    refine HR.out.mono ?_
    rintro e w3 ⟨rfl, hr3, hg3⟩
    obtain ⟨hT3, hK3, hO3, hc3, hf3⟩ := tab_deleted HT2.out hij (by rw [HN2.out]; exact hj2) hg3 (by rw [HN2.out]; exact hr3) rfl
    have HT3 := hidden (hT3.put 1 (.int .i64 ((S : Int) - (n : Int))) ((S : Int) - (n : Int)) a rfl)
    have HKF : Hid (Kept (Own T pv ps) w' ((w3.setCell ⟨T, 0, none⟩ (.slice (some ⟨g, 0, none⟩) (N2 - (j - i)) cap)).setCell ⟨T, 1, none⟩ (.int .i64 ((S : Int) - (n : Int))))) := (HK2.out.trans hK3 HO2.out).trans (kept_some (grownBy_set _ T 1 _) (Or.inl rfl)) (fun _ _ h => h)
    have HOF : Hid (∀ k, k < w'.heap.size → Own T (.slice (some ⟨g, 0, none⟩) (N2 - (j - i)) cap) (ps2.take i ++ ps2.drop j) k → Own T pv ps k) := fun k hk ho => HO2.out k hk (hO3 k (Nat.lt_of_lt_of_le hk HK2.out.size) ho)
    have d1 := hT3.c1
    have d2 := hT3.fz 1
    clear hT3 hK3 hO3 hr3 hg3 c0 c1 f0 f1
    go_wp2
    go_ret
    exact ⟨rfl, _, _, HT3.out, HD.out, HKF.out, HOF.out⟩
  · obtain rfl : i = j := by omega
    obtain ⟨va, vc, hpv2, hv1, hv2⟩ : ∃ va vc, pv2 = .slice va ps2.length vc ∧ ps2.length ≤ vc ∧ vc ≤ 9223372036854775807 := by
      rcases HT2.out.row.2 with ⟨e, h0⟩ | ⟨g, cap, cur, e, _, _, h1, h2, _⟩
      · exact ⟨_, _, by rw [e, h0], by omega, by omega⟩
      · exact ⟨_, _, e, h1, by unfold maxLen at h2; omega⟩
    subst hpv2
    have HR := hidden (sdel_same va ps2.length vc i w2 hj2 hv1 hv2)
    rw [List.take_append_drop] at HD
    have HT3 := hidden ((HT2.out.put 0 (.slice va ps2.length vc) S a rfl).put 1 (.int .i64 ((S : Int) - (n : Int))) ((S : Int) - (n : Int)) a rfl)
    obtain ⟨N2, hN2⟩ : ∃ N2, ps2.length = N2 := ⟨_, rfl⟩
    rw [hN2] at c0 HR HT3 hv1 HO2
    clear hN2
    have HKF : Hid (Kept (Own T pv ps) w' ((w2.setCell ⟨T, 0, none⟩ (.slice va N2 vc)).setCell ⟨T, 1, none⟩ (.int .i64 ((S : Int) - (n : Int))))) := (HK2.out.trans (O' := Own T pv ps) (kept_some (grownBy_set _ T 0 _) (Or.inl rfl)) (fun _ _ h => h)).trans (kept_some (grownBy_set _ T 1 _) (Or.inl rfl)) (fun _ _ h => h)
    go_wp2_with fail
    refine HR.out.mono ?_
    rintro e w3 ⟨rfl, rfl⟩
    go_wp2
    go_ret
    exact ⟨rfl, _, _, HT3.out, HD.out, HKF.out, HO2.out⟩
end Go.Proofs.PlatenPiece
