/- What Undo comes to; Depth. -/
import Derived.Test.YtibdhahkkejnjaaPsN
namespace Go.Proofs.PlatenPiece
open Go Go.RowKit
set_option linter.unusedVariables false
set_option maxRecDepth 100000

set_option maxHeartbeats 2000000 in
theorem Undo_nil (w : World) : Calls Try.prog 34 #[.pointer none] w fun q w' => q = .returned (.tuple #[.slice none 0 0, .int .i64 7]) ∧ w' = w := by
  have c1 := close_nil w
  go_enter Try.func34, Try.ntmps34
  go_wp2_with fail
  refine c1.mono ?_
  rintro q w1 ⟨⟨v, rfl⟩, rfl⟩
  clear c1
  go_wp2
  go_ret2
  exact ⟨rfl, rfl⟩

section
variable {B : Nat} {w : World} {H T : Nat} {l : List Nat} {c : Nat} {O : Nat → Prop} {ov dv uv : Value} {op : List Ed} {dn ud : List (Value × List Ed)}

set_option maxHeartbeats 2000000 in
theorem Depth_any (h : HP B w H T l c O ov dv uv op dn ud) : Calls Try.prog 33 #[.pointer (some ⟨H, 0, none⟩)] w fun q w' => q = .returned (.tuple #[.int .i64 (dn.length : Nat), .int .i64 (ud.length : Nat)]) ∧ w.grownBy w' none := by
  obtain ⟨da, dc, rfl⟩ := row_slice h.drow
  obtain ⟨ua, uc, rfl⟩ := row_slice h.urow
  have c2 := h.cells.2.2.1
  have c3 := h.cells.2.2.2
  clear h
  go_enter Try.func33, Try.ntmps33
  go_wp2_with fail
  go_quiet (fail)
  go_wp2
  go_ret2
  exact ⟨rfl, rfl, rfl, rfl, Nat.le_refl _, fun _ _ _ => rfl⟩
set_option maxHeartbeats 2000000 in
theorem Depth_nil (w : World) : Calls Try.prog 33 #[.pointer none] w fun q w' => q = .returned (.tuple #[.int .i64 0, .int .i64 0]) ∧ w' = w := by
  go_enter Try.func33, Try.ntmps33
  go_wp2
  go_ret2
  exact ⟨rfl, rfl⟩

set_option maxHeartbeats 2000000 in
theorem Undo_none (h : HP B w H T l c O ov dv uv [] [] ud) : Calls Try.prog 34 #[.pointer (some ⟨H, 0, none⟩)] w fun q w' => q = .returned (.tuple #[.slice none 0 0, .int .i64 7]) ∧ w' = w := by
  have c1 := close_none h
  obtain ⟨da, dc, rfl⟩ := row_slice h.drow
  have c2 := h.cells.2.2.1
  simp only [List.length_nil] at c2
  clear h
  go_enter Try.func34, Try.ntmps34
  go_wp2_with fail
  refine c1.mono ?_
  rintro q w1 ⟨⟨v, rfl⟩, rfl⟩
  clear c1
  go_wp2
  go_ret2
  exact ⟨rfl, rfl⟩

theorem trs_snoc (h : HP B w H T l c O ov dv uv op dn ud) {t : Value × List Ed} (ht : TrAt B w ov t) : ∀ p ∈ ud ++ [t], TrAt B w ov p := by
  intro p hp
  rcases List.mem_append.1 hp with hp | hp
  · exact h.trs p (List.mem_append_right _ hp)
  · simp only [List.mem_singleton] at hp
    subst hp
    exact ht
set_option maxHeartbeats 4000000 in
theorem Undo_of {X : Nat → Prop} {d0 : List (Value × List Ed)} {t : Value × List Ed} (hcl : Calls Try.prog 42 #[.pointer (some ⟨H, 0, none⟩)] w fun q w' => (∃ v, q = .returned v) ∧ ∃ ov' dv', HP B w' H T l c O ov' dv' uv [] (d0 ++ [t]) ud ∧ Kept X w w' ∧ (∀ k, k < w.heap.size → HOwn H O ov' dv' uv (d0 ++ [t]) ud k → X k))
    (hc : c + 2 * t.2.length ≤ 4500) (hd : d0.length ≤ 100000) (hu : ud.length ≤ 100000) :
    Calls Try.prog 34 #[.pointer (some ⟨H, 0, none⟩)] w fun q w' => ∃ vo O' ov' dv' uv', q = .returned (.tuple #[vo, .int .i64 0]) ∧ w'.ownsRow w.heap.size 57 3 vo t.2.length (rowE (t.2.reverse.map Ed.back)) ∧ HP B w' H T ((t.2.reverse.map Ed.back).foldl appL l) (c + 2 * t.2.length) O' ov' dv' uv' [] d0 (ud ++ [t]) ∧ Kept X w w' ∧ (∀ k, k < w.heap.size → HOwn H O' ov' dv' uv' d0 (ud ++ [t]) k → X k) := by
  obtain ⟨i0, hi, hz0, hz1, hz2⟩ := info_parts info49
  obtain ⟨tv, te⟩ := t
  dsimp only at hc ⊢
  have Hcl := hidden hcl
  have Hc := hidden hc
  have Hu := hidden hu
  have Hd := hidden hd
  clear hcl hc hu
  go_enter Try.func34, Try.ntmps34
  go_wp2_with fail
  refine Hcl.out.mono ?_
  rintro q w1 ⟨⟨v1, rfl⟩, ov', dv', h1, hK1, hX1⟩
  have hdv : ∃ g cap, dv' = .slice (some ⟨g, 0, none⟩) (d0.length + 1) cap := by
    rcases h1.drow.2 with ⟨_, e⟩ | ⟨g, cap, cur, e, _⟩
    · simp at e
    · exact ⟨g, cap, by rw [e]; simp⟩
  obtain ⟨g, cap, rfl⟩ := hdv
  have ht : TrAt B w1 ov' (tv, te) := h1.trs _ (by simp)
  have htr : w1.ownsRow B 57 3 tv te.length (rowE te) := ht.1
  obtain ⟨ta, tc, rfl⟩ := row_slice htr
  have c2 := h1.cells.2.2.1
  have hrow := h1.drow
  rw [List.length_append, List.length_singleton, List.map_append, List.map_singleton] at hrow
  have cl := past_last g d0.length cap B _ (.slice ta te.length tc) w1 (by omega) hrow (by
    intro u hu'
    simp only [List.mem_append, List.mem_map, List.mem_singleton] at hu'
    have aux : ∀ p : Value × List Ed, TrAt B w1 ov' p → p.1.oneCell' = true := fun p hp => by
      obtain ⟨a, b, e⟩ := row_slice hp.1
      rw [e]; rfl
    rcases hu' with ⟨p, hp, rfl⟩ | rfl
    · exact aux p (h1.trs p (by simp [hp]))
    · exact aux _ ht) (by simp)
  rw [List.take_left' (by simp)] at cl
  have Cl := hidden cl
  have H1 := hidden h1
  have HK1 := hidden hK1
  have HX1 := hidden hX1
  have HT := hidden ht
  have hnz : ¬ ((d0.length : Int) + 1 = 0) := by omega
  clear Hcl h1 hK1 hX1 cl ht hrow hd htr
  go_wp2_with fail
  refine Cl.out.mono ?_
  rintro q w2 ⟨rfl, hr2, hg2⟩
  obtain ⟨h3, hK3, hX3, hT3⟩ := H1.out.setD d0 (fun p hp => H1.out.trs p (by simp [hp])) hr2 hg2 (Or.inl rfl)
  have hh2 : w2.heap[H]? = some (.cells #[.pointer (some ⟨T, 0, none⟩), ov', .slice (some ⟨g, 0, none⟩) (d0.length + 1) cap, uv] 91 (0, 0)) := (hg2.block H H1.out.lt (fun e => row_head H1.out.drow H1.out.head (by decide) e.symm)).trans H1.out.head
  have e2 : w2.cell? ⟨H, 2, none⟩ = some (.slice (some ⟨g, 0, none⟩) (d0.length + 1) cap) := by simp only [World.cell?, hh2]; rfl
  have e3 : w2.cell? ⟨H, 3, none⟩ = some uv := by simp only [World.cell?, hh2]; rfl
  have f2 : w2.frozen? ⟨H, 2, none⟩ = false := frozen_of_row w2 H 2 _ 91 hh2
  have HT3 := hidden (hT3 _ HT.out)
  have H3 := hidden h3
  have HK3 : Hid (Kept X w (w2.setCell ⟨H, 2, none⟩ (.slice (some ⟨g, 0, none⟩) d0.length cap))) := HK1.out.trans hK3 (fun i hi ho => HX1.out i hi ho)
  have HX3 : Hid (∀ k, k < w.heap.size → HOwn H O ov' (.slice (some ⟨g, 0, none⟩) d0.length cap) uv d0 ud k → X k) := fun k hk ho => by
    rcases hX3 k (Nat.lt_of_lt_of_le hk HK1.out.size) ho with q | ⟨p, hp, q⟩
    · exact HX1.out k hk q
    · exact HX1.out k hk (Or.inr (Or.inr (Or.inr (Or.inr (Or.inr ⟨p, by simp [hp], q⟩)))))
  have HXt : Hid (∀ k, k < w.heap.size → Value.ownBlock (.slice ta te.length tc) = some k → X k) := fun k hk q => HX1.out k hk (Or.inr (Or.inr (Or.inr (Or.inr (Or.inr ⟨(.slice ta te.length tc, te), by simp, q⟩)))))
  clear Cl hr2 hg2 h3 hK3 hX3 hT3 hh2 c2 H1 HK1 HX1 HT
  have HT4 := hidden ((HT3.out.1))
  have H4 := hidden (H3.out.grown (grownBy_alloc _ (.cells #[.slice ta te.length tc] 49)))
  have HTa : Hid (TrAt B ((w2.setCell ⟨H, 2, none⟩ (.slice (some ⟨g, 0, none⟩) d0.length cap)).alloc (.cells #[.slice ta te.length tc] 49)) ov' (.slice ta te.length tc, te)) := ⟨row_same HT3.out.1 (fun k hk => Below.heap_alloc _ _ _ (own_lt_row HT3.out.1 hk).2), HT3.out.2⟩
  have HK4 : Hid (Kept X w ((w2.setCell ⟨H, 2, none⟩ (.slice (some ⟨g, 0, none⟩) d0.length cap)).alloc (.cells #[.slice ta te.length tc] 49))) := HK3.out.trans (O' := X) (kept_none (grownBy_alloc _ _)) (fun _ _ h => h)
  go_wp2_with (at_builtin; refine wpList_append_at _ rfl _ _ 48 rfl B 49 i0 (.slice none 0 0) 1 24 Try.underlying48 hi hz0 hz1 hz2 rfl (by decide) _ _ _ rfl H4.out.urow ⟨(w2.setCell ⟨H, 2, none⟩ (.slice (some ⟨g, 0, none⟩) d0.length cap)).heap.size, 0, none⟩ 1 1 [.slice ta te.length tc] (by simp [Act.eval]) rfl (cells1e _ _) (by intro u hu; simp at hu; subst hu; rfl) (by have := Hu.out; unfold maxLen; omega) (by have := Hu.out; omega) H4.out.bs (by decide) ?_; intro v5 w5 hr5 hg5 hw5; have hq := row_slice hr5; obtain ⟨va, vc, rfl⟩ := hq; have hh5 := (hg5.block H H4.out.lt (fun e => row_head H4.out.urow H4.out.head (by decide) e.symm)).trans H4.out.head; have k3 : w5.cell? ⟨H, 3, none⟩ = some uv := (by simp only [World.cell?, hh5]; rfl); have g3 : w5.frozen? ⟨H, 3, none⟩ = false := frozen_of_row w5 H 3 _ 91 hh5; have HSU := hidden (H4.out.setU (ud ++ [(.slice ta te.length tc, te)]) (trs_snoc H4.out HTa.out) (by rw [List.length_append, List.length_singleton, List.map_append, List.map_singleton]; exact hr5) hg5 hw5); clear hr5 hg5 hw5 hh5)
  obtain ⟨h6, hK6, hX6, hT6⟩ := HSU.out
  have H6 := hidden h6
  have HK6 : Hid (Kept X w (w5.setCell ⟨H, 3, none⟩ (.slice va (ud.length + 1) vc))) := HK4.out.trans hK6 (fun i hi ho => HX3.out i hi ho)
  have HX6 : Hid (∀ k, k < w.heap.size → HOwn H O ov' (.slice (some ⟨g, 0, none⟩) d0.length cap) (.slice va (ud.length + 1) vc) d0 (ud ++ [(.slice ta te.length tc, te)]) k → X k) := fun k hk ho => by
    rcases hX6 k (Nat.lt_of_lt_of_le hk HK4.out.size) ho with q | ⟨p, hp, q⟩
    · exact HX3.out k hk q
    · rcases List.mem_append.1 hp with hp | hp
      · exact HX3.out k hk (Or.inr (Or.inr (Or.inr (Or.inr (Or.inr ⟨p, by simp [hp], q⟩)))))
      · simp only [List.mem_singleton] at hp
        subst hp
        exact HXt.out k hk q
  have HT6 := hidden (hT6 _ HTa.out)
  clear HSU h6 hK6 hX6 hT6 k3 g3 e2 e3 f2
  refine (undo_some H6.out te HT6.out.2.2 Hc.out _ HT6.out.1).mono ?_
  rintro q w7 ⟨vo, O7, rfl, hr7, h7, hK7, hO7⟩
  have HR7 : Hid (w7.ownsRow w.heap.size 57 3 vo te.length (rowE (te.reverse.map Ed.back))) := by
    obtain ⟨q0, q1⟩ := hr7
    refine ⟨q0, ?_⟩
    rcases q1 with q1 | ⟨g', cap', cur, e1, e2, e3⟩
    · exact Or.inl q1
    · exact Or.inr ⟨g', cap', cur, e1, Nat.le_trans HK6.out.size e2, e3⟩
  have H7 := hidden h7
  have HK7 : Hid (Kept X w w7) := HK6.out.trans hK7 (fun i hi ho => HX6.out i hi (Or.inr (Or.inl ho)))
  have HX7 : Hid (∀ k, k < w.heap.size → HOwn H O7 ov' (.slice (some ⟨g, 0, none⟩) d0.length cap) (.slice va (ud.length + 1) vc) d0 (ud ++ [(.slice ta te.length tc, te)]) k → X k) := fun k hk ho => HX6.out k hk (HOwn.text ho (hO7 k (Nat.lt_of_lt_of_le hk HK6.out.size)))
  clear hr7 h7 hK7 hO7
  go_wp2
  go_ret2
  exact ⟨vo, O7, _, _, _, rfl, HR7.out, H7.out, HK7.out, HX7.out⟩
end
end Go.Proofs.PlatenPiece
