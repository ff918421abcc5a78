/- Both pasts side by side; does. -/
import Derived.Test.YtibdhahkkejnjaaPuE
namespace Go.Proofs.PlatenPiece
open Go Go.RowKit
set_option linter.unusedVariables false
set_option maxRecDepth 100000

/-- Both pasts, apart from each other; all below B is as it was at first. -/
structure PR (B : Nat) (wB w : World) (T H M : Nat) (sp sr : Hs) (c : Nat) (X R : Nat → Prop) : Prop where
  hs : HS B w H T sp c X
  rs : RS B w M sr R
  dj : ∀ k, X k → ¬ R k
  bl : Below B wB w
section
variable {B : Nat} {wB w w' : World} {T H M : Nat} {s sp sr sp' sr' : Hs} {c c' : Nat} {X R : Nat → Prop}
theorem below_kept {Y : Nat → Prop} (hb : Below B wB w) (hB : B ≤ w.heap.size) (hk : Kept Y w w') (hy : ∀ k, Y k → B ≤ k) : Below B wB w' :=
  hb.trans ⟨hk.os, hk.tape, hk.output, hk.size, fun k h1 => hk.block k (by omega) (fun q => by have := hy k q; omega)⟩
theorem HS.bs (h : HS B w H T s c X) : B ≤ w.heap.size := by
  obtain ⟨O, ov, dv, uv, dn, ud, hp, _⟩ := h
  exact hp.bs
theorem PR.p (h : PR B wB w T H M sp sr c X R) (hst : HStep B w H T X sp' c' w') : ∃ X', PR B wB w' T H M sp' sr c' X' R ∧ Kept X w w' ∧ (∀ k, k < w.heap.size → X' k → X k) := by
  obtain ⟨X', h1, h2, h3⟩ := hst
  refine ⟨X', ⟨h1, h.rs.keep h2 h.dj, fun k hx hr => ?_, below_kept h.bl h.hs.bs h2 (fun k hk => (h.hs.own k hk).1)⟩, h2, h3⟩
  exact h.dj k (h3 k (h.rs.own k hr).2 hx) hr
theorem PR.r (h : PR B wB w T H M sp sr c X R) (hst : RStep B w M R sr' w') : ∃ R', PR B wB w' T H M sp sr' c X R' ∧ Kept R w w' ∧ (∀ k, k < w.heap.size → R' k → R k) := by
  obtain ⟨R', h1, h2, h3⟩ := hst
  refine ⟨R', ⟨h.hs.keep h2 h.dj, h1, fun k hx hr => ?_, below_kept h.bl h.hs.bs h2 (fun k hk => (h.rs.own k hk).1)⟩, h2, h3⟩
  exact h.dj k hx (h3 k (h.hs.own k hx).2 hr)
theorem PR.grown (h : PR B wB w T H M sp sr c X R) (hg : w.grownBy w' none) : PR B wB w' T H M sp sr c X R :=
  ⟨h.hs.grown hg, h.rs.grown hg, h.dj, h.bl.trans ⟨hg.os, hg.tape, hg.output, hg.size, fun k hk => hg.block k (by have := h.hs.bs; omega) (by simp)⟩⟩
theorem PR.more (h : PR B wB w T H M sp sr c X R) (hc : c ≤ c') : PR B wB w T H M sp sr c' X R := ⟨h.hs.more hc, h.rs, h.dj, h.bl⟩
theorem PR.but {b : Nat} (h : PR B wB w T H M sp sr c X R) (hg : w.grownBy w' (some b)) (hx : ¬ X b) (hr : ¬ R b) (hb : B ≤ b) : PR B wB w' T H M sp sr c X R :=
  ⟨h.hs.same hg.size (fun k hk => hg.block k (h.hs.own k hk).2 (by simp; exact fun e => hx (e ▸ hk))), h.rs.same hg.size (fun k hk => hg.block k (h.rs.own k hk).2 (by simp; exact fun e => hr (e ▸ hk))), h.dj, h.bl.trans ⟨hg.os, hg.tape, hg.output, hg.size, fun k hk => hg.block k (by have := h.hs.bs; omega) (by simp; omega)⟩⟩
theorem box_set {b : Nat} {x y z x' y' z' : Value} (h : w.heap[b]? = some (.cells #[x, y, z] 57 (0, 0))) : (((w.setCell ⟨b, 0, none⟩ x').setCell ⟨b, 1, none⟩ y').setCell ⟨b, 2, none⟩ z').heap[b]? = some (.cells #[x', y', z'] 57 (0, 0)) :=
  heap_setCell_same _ b 2 _ 57 z' (heap_setCell_same _ b 1 _ 57 y' (heap_setCell_same w b 0 _ 57 x' h))
theorem row_kept {Y : Nat → Prop} {b e sz n : Nat} {v : Value} {xs : List Value} (hr : w.ownsRow b e sz v n xs) (hk : Kept Y w w') (hy : ∀ k, Y k → k < b) : w'.ownsRow b e sz v n xs :=
  row_same hr (fun k hk' => hk.block k (own_lt_row hr hk').2 (fun q => by have := hy k q; have := (own_lt_row hr hk').1; omega))
end

/-- What an act comes to. -/
def ActPost (B : Nat) (wB : World) (T H M : Nat) (l0 : List Nat) (s : Hs) (c : Nat) (q : Ending) (w' : World) : Prop := ∃ s' X' R', q = .returned (.bool true) ∧ PR B wB w' T H M s' s' c X' R' ∧ Inv l0 s' ∧ s'.sz ≤ s.sz + 1
section
variable {B : Nat} {wB w w' : World} {T H M : Nat} {s : Hs} {c : Nat} {X R : Nat → Prop} {l0 : List Nat}

theorem act_mk {s' : Hs} {X' R' : Nat → Prop} {c' : Nat} {q : Ending} (hq : q = .returned (.bool true)) (h : PR B wB w' T H M s' s' c' X' R') (hc : c' ≤ c) (hi : Inv l0 s') (hz : s'.sz ≤ s.sz + 1) : ActPost B wB T H M l0 s c q w' := ⟨s', X', R', hq, h.more hc, hi, hz⟩
theorem last_or (L : List (List Ed)) : L = [] ∨ ∃ d0 t, L = d0 ++ [t] := by
  by_cases h : L = []
  · exact Or.inl h
  · exact Or.inr ⟨L.dropLast, L.getLast h, (List.dropLast_concat_getLast h).symm⟩

set_option maxHeartbeats 4000000 in
theorem does_any (h : PR B wB w T H M s s c X R) (hi : Inv l0 s) (hz : s.sz ≤ 24) (hc : c ≤ 3000) (a : AC) (ha : a.ok) (ho : a.old.size ≤ 60) (hn : a.new.size ≤ 60) :
    Calls Try.prog 28 #[.pointer (some ⟨H, 0, none⟩), .pointer (some ⟨M, 0, none⟩), .agg #[.int .u8 (a.d : Nat), .int .i64 a.at', .int .i64 a.n, .string a.old, .string a.new]] w fun q w' => ActPost B wB T H M l0 s (c + 50) q w' := by
  have hg0 := grownBy_alloc w (.cells #[.int .u8 (a.d : Nat), .int .i64 a.at', .int .i64 a.n, .string a.old, .string a.new] 54)
  have HP0 := hidden (h.grown hg0)
  have hbX : Hid (∀ k, X k → k < w.heap.size) := fun k hk => (h.hs.own k hk).2
  have hbR : Hid (∀ k, R k → k < w.heap.size) := fun k hk => (h.rs.own k hk).2
  have hmany := hi.many
  have hdone : s.done.length < 1000 := by omega
  have hnow : s.now.length ≤ 24 := by unfold Hs.sz at hz; omega
  have hgone : s.gone.length ≤ 1000 := by omega
  have Hi := hidden hi
  have hbox : (w.alloc (.cells #[.int .u8 (a.d : Nat), .int .i64 a.at', .int .i64 a.n, .string a.old, .string a.new] 54)).heap[w.heap.size]? = some (.cells #[.int .u8 (a.d : Nat), .int .i64 a.at', .int .i64 a.n, .string a.old, .string a.new] 54 (0, 0)) := heap_alloc_new _ _
  obtain ⟨d8, hd8, hd9⟩ : ∃ d8 : Nat, (a.d : Int).tmod 8 = (d8 : Int) ∧ d8 < 8 := by
    obtain ⟨r, h1, h2⟩ := tmod_nat a.d 7
    exact ⟨r, by simpa using h1, by omega⟩
  clear h hi hg0
  by_cases h4 : d8 = 4
  · clear hbox
    go_enter Try.func28, Try.ntmps28
    go_wp2_with fail
    refine (hs_closeX HP0.out.hs (by omega) hdone).mono ?_
    rintro q w1 ⟨⟨v1, rfl⟩, hst1⟩
    obtain ⟨X1, hp1, _, _⟩ := HP0.out.p hst1
    have H1 := hidden hp1
    clear hst1 hp1
    go_wp2_with fail
    refine (rs_close H1.out.rs (by omega) hdone).mono ?_
    rintro q w2 ⟨⟨v2, rfl⟩, hst2⟩
    obtain ⟨R2, hp2, _, _⟩ := H1.out.r hst2
    have H2 := hidden hp2
    clear hst2 hp2
    go_wp2
    go_ret
    exact act_mk rfl H2.out (by omega) Hi.out.close (by rw [close_sz]; omega)
  · have h4' : ¬ ((d8 : Int) = 4) := by omega
    by_cases h5 : d8 = 5
    · have h5' : ((d8 : Int) = 5) := by omega
      obtain ⟨lz, hr, hinv, _⟩ := Hi.out.cancel
      have Hr := hidden hr
      have Hinv := hidden hinv
      clear hbox hr hinv
      go_enter Try.func28, Try.ntmps28
      go_wp2_with fail
      refine (hs_cancel HP0.out.hs Hi.out (by omega) Hr.out).mono ?_
      rintro q w1 ⟨vo, rfl, hrow, hst1⟩
      obtain ⟨X1, hp1, _, _⟩ := HP0.out.p hst1
      have H1 := hidden hp1
      have Hrow := hidden hrow
      obtain ⟨oa, oc, rfl⟩ := row_slice hrow
      clear hst1 hp1 hrow
      go_wp2_with fail
      refine (rs_cancel H1.out.rs Hi.out (by omega) Hr.out).mono ?_
      rintro q w2 ⟨vo2, rfl, hrow2, hst2⟩
      obtain ⟨R2, hp2, hk2, _⟩ := H1.out.r hst2
      have H2 := hidden hp2
      have Hrow2 := hidden hrow2
      have Hrow1 := hidden (row_kept Hrow.out hk2 (fun k hk => by have := hbR.out k hk; simp; omega))
      obtain ⟨oa2, oc2, rfl⟩ := row_slice hrow2
      clear hst2 hp2 hrow2 hk2
      go_wp2_with fail
      have hl2 : (backsL s.now).length = s.now.length := backsL_len _
      refine (rsame (es := backsL s.now) (by rw [hl2]; omega) (by rw [hl2]; exact Hrow1.out) (by rw [hl2]; exact Hrow2.out)).mono ?_
      rintro q w3 ⟨rfl, hg3⟩
      have H3 := hidden (H2.out.grown hg3)
      clear hg3 hl2
      go_wp2
      go_ret
      exact act_mk rfl H3.out (by omega) Hinv.out (by unfold Hs.sz; simp; omega)
    · have h5' : ¬ ((d8 : Int) = 5) := by omega
      by_cases h6 : d8 = 6
      · have h6' : ((d8 : Int) = 6) := by omega
        rcases last_or s.close.done with hcd | ⟨d0, t, hcd⟩
        · clear hbox
          go_enter Try.func28, Try.ntmps28
          go_wp2_with fail
          refine (hs_undo_none HP0.out.hs hcd).mono ?_
          rintro q w1 ⟨rfl, rfl⟩
          go_wp2_with fail
          refine (rs_undo_none HP0.out.rs hcd).mono ?_
          rintro q w1 ⟨rfl, rfl⟩
          go_wp2_with fail
          refine (rsame_none _ _ _ _).mono ?_
          rintro q w3 ⟨rfl, hg3⟩
          have H3 := hidden (HP0.out.grown hg3)
          clear hg3
          go_wp2
          go_ret
          exact act_mk rfl H3.out (by omega) Hi.out (by omega)
        · have hic := Hi.out.close
          have hsc : s.close = ⟨s.l, [], d0 ++ [t], s.gone⟩ := by
            have e1 := close_l s
            have e2 := close_now s
            have e3 := close_gone s
            cases hq : s.close with
            | mk a b c d => rw [hq] at e1 e2 e3 hcd; dsimp only at e1 e2 e3 hcd; rw [e1, e2, e3, hcd]
          rw [hsc] at hic
          obtain ⟨lz, hr, hinv⟩ := hic.undo
          have hsz : t.length + d0.flatten.length + s.gone.flatten.length = s.sz := by
            have := close_sz s
            rw [hsc] at this
            unfold Hs.sz at this ⊢
            simp at this ⊢
            omega
          have hd0 : d0.length ≤ 1000 := by
            have := hic.many
            have e := close_sz s
            rw [hsc] at e
            rw [e] at this
            simp at this
            omega
          have Hr := hidden hr
          have Hinv := hidden hinv
          have Hcd := hidden hcd
          have Hsz := hidden hsz
          have hl2 : (backsL t).length = t.length := backsL_len _
          have Hl2 := hidden hl2
          have ht : t.length ≤ 24 := by omega
          clear hbox hr hinv hcd hsz hl2 hic hsc
          go_enter Try.func28, Try.ntmps28
          go_wp2_with fail
          refine (hs_undo HP0.out.hs (by omega) hdone Hcd.out (by omega) hd0 hgone Hr.out).mono ?_
          rintro q w1 ⟨vo, rfl, hrow, hst1⟩
          obtain ⟨X1, hp1, _, _⟩ := HP0.out.p hst1
          have H1 := hidden hp1
          have Hrow := hidden hrow
          obtain ⟨oa, oc, rfl⟩ := row_slice hrow
          clear hst1 hp1 hrow
          go_wp2_with fail
          refine (rs_undo H1.out.rs Hi.out (by omega) hdone Hcd.out (by omega) hd0 hgone Hr.out).mono ?_
          rintro q w2 ⟨vo2, rfl, hrow2, hst2⟩
          obtain ⟨R2, hp2, hk2, _⟩ := H1.out.r hst2
          have H2 := hidden hp2
          have Hrow2 := hidden hrow2
          have Hrow1 := hidden (row_kept Hrow.out hk2 (fun k hk => by have := hbR.out k hk; simp; omega))
          obtain ⟨oa2, oc2, rfl⟩ := row_slice hrow2
          clear hst2 hp2 hrow2 hk2
          go_wp2_with fail
          refine (rsame (es := backsL t) (by rw [Hl2.out]; omega) (by rw [Hl2.out]; exact Hrow1.out) (by rw [Hl2.out]; exact Hrow2.out)).mono ?_
          rintro q w3 ⟨rfl, hg3⟩
          have H3 := hidden (H2.out.grown hg3)
          clear hg3
          go_wp2
          go_ret
          exact act_mk rfl H3.out (by omega) Hinv.out (by have := Hsz.out; unfold Hs.sz at this ⊢; simp at this ⊢; omega)
      · have h6' : ¬ ((d8 : Int) = 6) := by omega
        by_cases h7 : d8 = 7
        · have h7' : ((d8 : Int) = 7) := by omega
          rcases last_or s.gone with hcd | ⟨g0, t, hcd⟩
          · clear hbox
            have Hcd := hidden hcd
            clear hcd
            go_enter Try.func28, Try.ntmps28
            go_wp2_with fail
            refine (hs_redo_none HP0.out.hs (by omega) hdone Hcd.out).mono ?_
            rintro q w1 ⟨rfl, hst1⟩
            obtain ⟨X1, hp1, _, _⟩ := HP0.out.p hst1
            have H1 := hidden hp1
            clear hst1 hp1
            go_wp2_with fail
            refine (rs_redo_none H1.out.rs (by omega) hdone Hcd.out).mono ?_
            rintro q w2 ⟨rfl, hst2⟩
            obtain ⟨R2, hp2, _, _⟩ := H1.out.r hst2
            have H2 := hidden hp2
            clear hst2 hp2
            go_wp2_with fail
            refine (rsame_none _ _ _ _).mono ?_
            rintro q w3 ⟨rfl, hg3⟩
            have H3 := hidden (H2.out.grown hg3)
            clear hg3
            go_wp2
            go_ret
            exact act_mk rfl H3.out (by omega) Hi.out.close (by rw [close_sz]; omega)
          · have hnow0 : s.now = [] := Hi.out.gn (by rw [hcd]; simp)
            have hic := Hi.out
            have hsc : s = ⟨s.l, [], s.done, g0 ++ [t]⟩ := by
              cases hq : s with
              | mk a b c d => rw [hq] at hnow0 hcd; dsimp only at hnow0 hcd; rw [hnow0, hcd]
            rw [hsc] at hic
            obtain ⟨lz, hr, hinv⟩ := hic.redo
            have hsz : t.length + g0.flatten.length + s.done.flatten.length = s.sz := by
              have : s.sz = (⟨s.l, [], s.done, g0 ++ [t]⟩ : Hs).sz := by rw [← hsc]
              rw [this]
              unfold Hs.sz
              simp
              omega
            have hg0 : g0.length ≤ 1000 := by rw [hcd] at hgone; simp at hgone; omega
            have Hr := hidden hr
            have Hinv := hidden hinv
            have Hcd := hidden hcd
            have Hsz := hidden hsz
            have Hnow0 := hidden hnow0
            have ht : t.length ≤ 24 := by omega
            clear hbox hr hinv hcd hsz hic hsc hnow0
            go_enter Try.func28, Try.ntmps28
            go_wp2_with fail
            refine (hs_redo HP0.out.hs Hnow0.out Hcd.out (by omega) (by omega) hg0 Hr.out).mono ?_
            rintro q w1 ⟨vo, rfl, hrow, hst1⟩
            obtain ⟨X1, hp1, _, _⟩ := HP0.out.p hst1
            have H1 := hidden hp1
            have Hrow := hidden hrow
            obtain ⟨oa, oc, rfl⟩ := row_slice hrow
            clear hst1 hp1 hrow
            go_wp2_with fail
            refine (rs_redo H1.out.rs Hi.out Hnow0.out Hcd.out (by omega) (by omega) hg0 Hr.out).mono ?_
            rintro q w2 ⟨vo2, rfl, hrow2, hst2⟩
            obtain ⟨R2, hp2, hk2, _⟩ := H1.out.r hst2
            have H2 := hidden hp2
            have Hrow2 := hidden hrow2
            have Hrow1 := hidden (row_kept Hrow.out hk2 (fun k hk => by have := hbR.out k hk; simp; omega))
            obtain ⟨oa2, oc2, rfl⟩ := row_slice hrow2
            clear hst2 hp2 hrow2 hk2
            go_wp2_with fail
            refine (rsame (es := t) (by omega) Hrow1.out Hrow2.out).mono ?_
            rintro q w3 ⟨rfl, hg3⟩
            have H3 := hidden (H2.out.grown hg3)
            clear hg3
            go_wp2
            go_ret
            exact act_mk rfl H3.out (by omega) Hinv.out (by have := Hsz.out; unfold Hs.sz at this ⊢; simp at this ⊢; omega)
        · have h7' : ¬ ((d8 : Int) = 7) := by omega
          obtain ⟨pv, dv, gv, nv, dn, gn, hrp, hm1, hm2, hm3⟩ := HP0.out.rs
          have HRP := hidden (hrp.grown (grown_drew _))
          have HP1 := hidden (HP0.out.grown (grown_drew _))
          have hbox1 : (w.alloc (.cells #[.int .u8 (a.d : Nat), .int .i64 a.at', .int .i64 a.n, .string a.old, .string a.new] 54)).drew.heap[w.heap.size]? = some (.cells #[.int .u8 (a.d : Nat), .int .i64 a.at', .int .i64 a.n, .string a.old, .string a.new] 54 (0, 0)) := hbox
          have HBX := hidden hbox1
          have Hsz1 : Hid ((w.alloc (.cells #[.int .u8 (a.d : Nat), .int .i64 a.at', .int .i64 a.n, .string a.old, .string a.new] 54)).drew.heap.size = w.heap.size + 1) := by unfold Hid; simp [World.drew]
          clear hbox hbox1 hrp hm1 hm2 hm3 HP0
          go_enter Try.func28, Try.ntmps28
          go_wp2_with fail
          have HS : Hid (∀ u : World, u.heap[w.heap.size]? = some (.cells #[.int .u8 (a.d : Nat), .int .i64 a.at', .int .i64 a.n, .string a.old, .string a.new] 54 (0, 0)) → u.cell? ⟨M, 0, none⟩ = some pv → (fun u : World => u.cell? ⟨M, 0, none⟩ = some pv ∧ u.cell? ⟨w.heap.size, 0, none⟩ = some (.int .u8 (a.d : Nat)) ∧ u.cell? ⟨w.heap.size, 1, none⟩ = some (.int .i64 a.at') ∧ u.cell? ⟨w.heap.size, 2, none⟩ = some (.int .i64 a.n) ∧ u.cell? ⟨w.heap.size, 3, none⟩ = some (.string a.old) ∧ u.cell? ⟨w.heap.size, 4, none⟩ = some (.string a.new)) u) := fun u hu hm => ⟨hm, by simp only [World.cell?, hu]; rfl, by simp only [World.cell?, hu]; rfl, by simp only [World.cell?, hu]; rfl, by simp only [World.cell?, hu]; rfl, by simp only [World.cell?, hu]; rfl⟩
          refine wp_region_held_drew (S := (fun u : World => u.cell? ⟨M, 0, none⟩ = some pv ∧ u.cell? ⟨w.heap.size, 0, none⟩ = some (.int .u8 (a.d : Nat)) ∧ u.cell? ⟨w.heap.size, 1, none⟩ = some (.int .i64 a.at') ∧ u.cell? ⟨w.heap.size, 2, none⟩ = some (.int .i64 a.n) ∧ u.cell? ⟨w.heap.size, 3, none⟩ = some (.string a.old) ∧ u.cell? ⟨w.heap.size, 4, none⟩ = some (.string a.new))) (by kernel_rfl) (HS.out _ HBX.out HRP.out.cells.1) (fun hHeld => ?_)
          generalize (w.alloc (.cells #[.int .u8 (a.d : Nat), .int .i64 a.at', .int .i64 a.n, .string a.old, .string a.new] 54)).drew = W at *
          obtain ⟨pa, pc, rfl⟩ := row_slice HRP.out.prow
          refine take_dst 0 (some 72) rfl rfl (by kernel_rfl) (by kernel_rfl) (by kernel_rfl) (fun _ _ _ h => h) (v := ?_) (Or.inl ⟨by rfl, ?_⟩) (by assumption) ?_
          rotate_left
          · (intro w hSw; (try dsimp only at hSw); go_simp; try with_reducible rfl)
          simp only [Act.put, List.setIfInBounds_toArray, List.set_cons_zero, List.set_cons_succ]
          refine take_dst 1 (some 73) rfl rfl (by kernel_rfl) (by kernel_rfl) (by kernel_rfl) (fun _ _ _ h => h) (v := ?_) (Or.inl ⟨by rfl, ?_⟩) (by assumption) ?_
          rotate_left
          · (intro w hSw; (try dsimp only at hSw); go_simp; try with_reducible rfl)
          simp only [Act.put, List.setIfInBounds_toArray, List.set_cons_zero, List.set_cons_succ]
          refine take_dst 2 (some 74) rfl rfl (by kernel_rfl) (by kernel_rfl) (by kernel_rfl) (fun _ _ _ h => h) (v := ?_) (Or.inl ⟨by rfl, ?_⟩) (by assumption) ?_
          rotate_left
          · (intro w hSw; (try dsimp only at hSw); go_simp; try with_reducible rfl)
          simp only [Act.put, List.setIfInBounds_toArray, List.set_cons_zero, List.set_cons_succ]
          refine take_dst 3 (some 75) rfl rfl (by kernel_rfl) (by kernel_rfl) (by kernel_rfl) (fun _ _ _ h => h) (v := ?_) (Or.inl ⟨by rfl, ?_⟩) (by assumption) ?_
          rotate_left
          · (intro w hSw; (try dsimp only at hSw); go_simp; try with_reducible rfl)
          simp only [Act.put, List.setIfInBounds_toArray, List.set_cons_zero, List.set_cons_succ]
          refine take_dst 4 (some 76) rfl rfl (by kernel_rfl) (by kernel_rfl) (by kernel_rfl) (fun _ _ _ h => h) (v := ?_) (Or.inl ⟨by rfl, ?_⟩) (by assumption) ?_
          rotate_left
          · (intro w hSw; (try dsimp only at hSw); go_simp; try with_reducible rfl)
          simp only [Act.put, List.setIfInBounds_toArray, List.set_cons_zero, List.set_cons_succ]
          refine wpAnyH_ready (rs := [5, 6]) (by kernel_rfl) (by simp) ?_
          refine AllReadyH.cons rfl (fun K hK => ?_) (AllReadyH.cons rfl (fun K hK => ?_) AllReadyH.nil)
          · go_simp
            refine (of_any s.l _ a _ HRP.out.prow Hi.out.len Hi.out.bytes ha ho hn).mono ?_
            rintro q w1 ⟨e, rfl, hb1⟩
            have hg1 := grown_of_below hb1
            have HP2 := hidden (HP1.out.grown hg1)
            have HRP2 := hidden (HRP.out.grown hg1)
            have HBX2 : Hid (w1.heap[w.heap.size]? = _) := (hg1.block w.heap.size (Array.getElem?_eq_some_iff.1 HBX.out).1 (by simp)).trans HBX.out
            have hs2 : w.heap.size + 1 ≤ w1.heap.size := by have := hg1.size; have := Hsz1.out; omega
            clear hb1 hg1
            refine hK.out _ _ (HS.out _ HBX2.out HRP2.out.cells.1) (fun hHeld1 => ?_)
            clear hK K hHeld
            refine wpAnyH_ready (rs := [6]) (by kernel_rfl) (by simp) ?_
            refine AllReadyH.cons rfl (fun K hK => ?_) AllReadyH.nil
            go_simp
            have hgA := grownBy_alloc w1 (.cells #[.int .i64 0, .string ⟨#[]⟩, .string ⟨#[]⟩] 57)
            have hgF := grownBy_alloc w1 (.cells #[.int .i64 e.at', .string e.old, .string e.new] 57)
            have HBXA : Hid ((w1.alloc (.cells #[.int .i64 0, .string ⟨#[]⟩, .string ⟨#[]⟩] 57)).heap[w.heap.size]? = _) := (hgA.block w.heap.size (Array.getElem?_eq_some_iff.1 HBX2.out).1 (by simp)).trans HBX2.out
            have HBXF : Hid ((w1.alloc (.cells #[.int .i64 e.at', .string e.old, .string e.new] 57)).heap[w.heap.size]? = _) := (hgF.block w.heap.size (Array.getElem?_eq_some_iff.1 HBX2.out).1 (by simp)).trans HBX2.out
            refine hK.out _ _ (HS.out _ HBXA.out (HRP2.out.grown hgA).cells.1) (fun hHeld2 => ?_)
            clear hK K hHeld1
            refine wpAnyH_ready (rs := [7]) (by kernel_rfl) (by simp) ?_
            refine AllReadyH.cons rfl (fun K hK => ?_) AllReadyH.nil
            go_simp
            refine hK.out _ _ (HS.out _ HBXF.out (HRP2.out.grown hgF).cells.1) (fun hHeld3 => ?_)
            clear hK K
            refine wpAnyH_done (by kernel_rfl) ?_ _
            have HPf := hidden (HP2.out.grown hgF)
            have HBf : Hid (BoxE w1.heap.size e (w1.alloc (.cells #[.int .i64 e.at', .string e.old, .string e.new] 57))) := heap_alloc_new _ _
            have hnX : Hid (¬ X w1.heap.size) := fun q => by have := hbX.out _ q; omega
            have hnR : Hid (¬ R w1.heap.size) := fun q => by have := hbR.out _ q; omega
            clear hHeld2 hHeld3 hgA hgF HBXA HBXF HBX2 HRP2 HP2 HBX HRP HP1 HS Hsz1
            generalize (w1.alloc (.cells #[.int .i64 e.at', .string e.old, .string e.new] 57)) = WF at *
            obtain ⟨b, hb⟩ : ∃ b, w1.heap.size = b := ⟨_, rfl⟩
            rw [hb] at HBf hnX hnR ⊢
            clear hb
            go_wp2_with fail
            have HPd := hidden (HPf.out.grown (grown_drew WF))
            have HBd : Hid (BoxE b e WF.drew) := HBf.out
            clear HPf HBf
            have HSb : Hid (∀ u, BoxE b e u → (fun u : World => u.cell? ⟨b, 0, none⟩ = some (.int .i64 e.at') ∧ u.cell? ⟨b, 1, none⟩ = some (.string e.old) ∧ u.cell? ⟨b, 2, none⟩ = some (.string e.new)) u) := fun u hu => hu.cells
            refine wp_region_held_drew (S := (fun u : World => u.cell? ⟨b, 0, none⟩ = some (.int .i64 e.at') ∧ u.cell? ⟨b, 1, none⟩ = some (.string e.old) ∧ u.cell? ⟨b, 2, none⟩ = some (.string e.new))) (by kernel_rfl) (HSb.out _ HBd.out) (fun hHeld => ?_)
            generalize WF.drew = V at *
            refine take_dst 0 (some 78) rfl rfl (by kernel_rfl) (by kernel_rfl) (by kernel_rfl) (fun _ _ _ h => h) (v := ?_) (Or.inl ⟨by rfl, ?_⟩) (by assumption) ?_
            rotate_left
            · (intro w hSw; (try dsimp only at hSw); go_simp; try with_reducible rfl)
            simp only [Act.put, List.setIfInBounds_toArray, List.set_cons_zero, List.set_cons_succ]
            refine take_dst 1 (some 79) rfl rfl (by kernel_rfl) (by kernel_rfl) (by kernel_rfl) (fun _ _ _ h => h) (v := ?_) (Or.inl ⟨by rfl, ?_⟩) (by assumption) ?_
            rotate_left
            · (intro w hSw; (try dsimp only at hSw); go_simp; try with_reducible rfl)
            simp only [Act.put, List.setIfInBounds_toArray, List.set_cons_zero, List.set_cons_succ]
            refine take_dst 3 (some 81) rfl rfl (by kernel_rfl) (by kernel_rfl) (by kernel_rfl) (fun _ _ _ h => h) (v := ?_) (Or.inl ⟨by rfl, ?_⟩) (by assumption) ?_
            rotate_left
            · (intro w hSw; (try dsimp only at hSw); go_simp; try with_reducible rfl)
            simp only [Act.put, List.setIfInBounds_toArray, List.set_cons_zero, List.set_cons_succ]
            refine take_dst 4 (some 82) rfl rfl (by kernel_rfl) (by kernel_rfl) (by kernel_rfl) (fun _ _ _ h => h) (v := ?_) (Or.inl ⟨by rfl, ?_⟩) (by assumption) ?_
            rotate_left
            · (intro w hSw; (try dsimp only at hSw); go_simp; try with_reducible rfl)
            simp only [Act.put, List.setIfInBounds_toArray, List.set_cons_zero, List.set_cons_succ]
            refine wpAnyH_ready (rs := [2]) (by kernel_rfl) (by simp) ?_
            refine AllReadyH.cons rfl (fun K hK => ?_) AllReadyH.nil
            · go_simp
              refine (hs_do HPd.out.hs Hi.out (by omega) (by omega) e).mono ?_
              rintro q v1 ⟨code1, s1, hdr1, rfl, hst1⟩
              obtain ⟨X1, hp1, hk1, hx1⟩ := HPd.out.p hst1
              have HV1 := hidden hp1
              have HB1 : Hid (BoxE b e v1) := (hk1.block b (Array.getElem?_eq_some_iff.1 HBd.out).1 hnX.out).trans HBd.out
              clear hst1 hp1 hk1 hx1
              refine hK.out _ _ (HSb.out _ HB1.out) (fun hHeld1 => ?_)
              clear hK K hHeld
              refine wpAnyH_ready (rs := [5]) (by kernel_rfl) (by simp) ?_
              refine AllReadyH.cons rfl (fun K hK => ?_) AllReadyH.nil
              go_simp
              refine (rs_do HV1.out.rs Hi.out (by omega) e).mono ?_
              rintro q v2 ⟨code2, s2, hdr2, rfl, hst2⟩
              obtain ⟨R2, hp2, hk2, hx2⟩ := HV1.out.r hst2
              have HV2 := hidden hp2
              have HB2 : Hid (BoxE b e v2) := (hk2.block b (Array.getElem?_eq_some_iff.1 HB1.out).1 hnR.out).trans HB1.out
              obtain ⟨rfl, rfl⟩ := DoR.det hdr1 hdr2
              have Hdr := hidden (hdr1.inv Hi.out)
              clear hst2 hp2 hk2 hx2 hdr1 hdr2
              refine hK.out _ _ (HSb.out _ HB2.out) (fun hHeld2 => ?_)
              clear hK K hHeld1
              refine take_dst 6 (some 84) rfl rfl (by kernel_rfl) (by kernel_rfl) (by kernel_rfl) (fun _ _ _ h => h) (v := ?_) (Or.inl ⟨by rfl, ?_⟩) (by assumption) ?_
              rotate_left
              · (intro w hSw; (try dsimp only at hSw); go_simp; try with_reducible rfl)
              simp only [Act.put, List.setIfInBounds_toArray, List.set_cons_zero, List.set_cons_succ]
              refine take_dst 7 (some 6) rfl rfl (by kernel_rfl) (by kernel_rfl) (by kernel_rfl) (fun _ _ _ h => h) (v := ?_) (Or.inl ⟨by rfl, ?_⟩) (by assumption) ?_
              rotate_left
              · (intro w hSw; (try dsimp only at hSw); go_simp; try with_reducible rfl)
              simp only [Act.put, List.setIfInBounds_toArray, List.set_cons_zero, List.set_cons_succ]
              refine wpAnyH_done (by kernel_rfl) ?_ _
              clear hHeld2 HB2 HB1 HSb
              go_wp2
              go_ret
              exact act_mk rfl HV2.out (by omega) Hdr.out.1 Hdr.out.2.1
          · go_simp
            have hgA := grownBy_alloc W (.cells #[.int .i64 0, .string ⟨#[]⟩, .string ⟨#[]⟩] 57)
            have HBXA : Hid ((W.alloc (.cells #[.int .i64 0, .string ⟨#[]⟩, .string ⟨#[]⟩] 57)).heap[w.heap.size]? = _) := (hgA.block w.heap.size (Array.getElem?_eq_some_iff.1 HBX.out).1 (by simp)).trans HBX.out
            have HRPA := hidden (HRP.out.grown hgA)
            have HPA := hidden (HP1.out.grown hgA)
            have HZ : Hid ((W.alloc (.cells #[.int .i64 0, .string ⟨#[]⟩, .string ⟨#[]⟩] 57)).heap[W.heap.size]? = some (.cells #[.int .i64 0, .string ⟨#[]⟩, .string ⟨#[]⟩] 57 (0, 0))) := heap_alloc_new _ _
            refine hK.out _ _ (HS.out _ HBXA.out HRPA.out.cells.1) (fun hHeld1 => ?_)
            clear hK K hHeld hgA
            generalize (W.alloc (.cells #[.int .i64 0, .string ⟨#[]⟩, .string ⟨#[]⟩] 57)) = WA at *
            obtain ⟨b, hb⟩ : ∃ b, W.heap.size = b := ⟨_, rfl⟩
            have hbw : w.heap.size + 1 = b := by rw [← hb]; exact Hsz1.out.symm
            rw [hb] at HZ ⊢
            refine wpAnyH_ready (rs := [5]) (by kernel_rfl) (by simp) ?_
            refine AllReadyH.cons rfl (fun K hK => ?_) AllReadyH.nil
            go_simp
            refine (of_any s.l _ a _ HRPA.out.prow Hi.out.len Hi.out.bytes ha ho hn).mono ?_
            rintro q w1 ⟨e, rfl, hb1⟩
            have hg1 := grown_of_below hb1
            have HP2 := hidden (HPA.out.grown hg1)
            have HRP2 := hidden (HRPA.out.grown hg1)
            have HBX2 : Hid (w1.heap[w.heap.size]? = _) := (hg1.block w.heap.size (Array.getElem?_eq_some_iff.1 HBXA.out).1 (by simp)).trans HBXA.out
            have hz2 : w1.heap[b]? = some (.cells #[.int .i64 0, .string ⟨#[]⟩, .string ⟨#[]⟩] 57 (0, 0)) := (hg1.block b (Array.getElem?_eq_some_iff.1 HZ.out).1 (by simp)).trans HZ.out
            have z0 : w1.cell? ⟨b, 0, none⟩ = some (.int .i64 0) := by simp only [World.cell?, hz2]; rfl
            have z1 : w1.cell? ⟨b, 1, none⟩ = some (.string ⟨#[]⟩) := by simp only [World.cell?, hz2]; rfl
            have z2 : w1.cell? ⟨b, 2, none⟩ = some (.string ⟨#[]⟩) := by simp only [World.cell?, hz2]; rfl
            have y0 : w1.frozen? ⟨b, 0, none⟩ = false := frozen_of_row w1 b 0 _ 57 hz2
            have y1 : w1.frozen? ⟨b, 1, none⟩ = false := frozen_of_row w1 b 1 _ 57 hz2
            have y2 : w1.frozen? ⟨b, 2, none⟩ = false := frozen_of_row w1 b 2 _ 57 hz2
            have HBf : Hid (BoxE b e (((w1.setCell ⟨b, 0, none⟩ (.int .i64 e.at')).setCell ⟨b, 1, none⟩ (.string e.old)).setCell ⟨b, 2, none⟩ (.string e.new))) := box_set hz2
            have hgF : w1.grownBy (((w1.setCell ⟨b, 0, none⟩ (.int .i64 e.at')).setCell ⟨b, 1, none⟩ (.string e.old)).setCell ⟨b, 2, none⟩ (.string e.new)) (some b) := grown_two (grown_two (grownBy_set _ b 0 _) (grownBy_set _ b 1 _)) (grownBy_set _ b 2 _)
            have hnX : Hid (¬ X b) := fun q => by have := hbX.out _ q; omega
            have hnR : Hid (¬ R b) := fun q => by have := hbR.out _ q; omega
            have HPf := hidden (HP2.out.but hgF hnX.out hnR.out (by have := HP2.out.hs.bs; have := HPA.out.hs.bs; have := HP1.out.hs.bs; omega))
            have HBXF : Hid ((((w1.setCell ⟨b, 0, none⟩ (.int .i64 e.at')).setCell ⟨b, 1, none⟩ (.string e.old)).setCell ⟨b, 2, none⟩ (.string e.new)).heap[w.heap.size]? = _) := (hgF.block w.heap.size (Array.getElem?_eq_some_iff.1 HBX2.out).1 (by simp; omega)).trans HBX2.out
            have hbM : b ≠ M := fun q => by have h1 := HRP2.out.head; rw [← q, hz2] at h1; simp at h1
            have HMF : Hid ((((w1.setCell ⟨b, 0, none⟩ (.int .i64 e.at')).setCell ⟨b, 1, none⟩ (.string e.old)).setCell ⟨b, 2, none⟩ (.string e.new)).cell? ⟨M, 0, none⟩ = some (.slice pa s.l.length pc)) := (head_cells ((hgF.block M HRP2.out.lt (by simp; omega)).trans HRP2.out.head)).1
            clear hb1 hg1
            refine hK.out _ _ (HS.out _ HBX2.out HRP2.out.cells.1) (fun hHeld2 => ?_)
            clear hK K hHeld1
            refine wpAnyH_ready (rs := [7]) (by kernel_rfl) (by simp) ?_
            refine AllReadyH.cons rfl (fun K hK => ?_) AllReadyH.nil
            go_simp
            refine hK.out _ _ (HS.out _ HBXF.out HMF.out) (fun hHeld3 => ?_)
            clear hK K
            refine wpAnyH_done (by kernel_rfl) ?_ _
            clear hHeld2 hHeld3 hgF HBXF HMF HBXA HBX2 HRP2 HP2 HBX HRP HP1 HS Hsz1 HRPA HPA HZ hz2 z0 z1 z2 y0 y1 y2 hb hbw
            generalize (((w1.setCell ⟨b, 0, none⟩ (.int .i64 e.at')).setCell ⟨b, 1, none⟩ (.string e.old)).setCell ⟨b, 2, none⟩ (.string e.new)) = WF at *
            go_wp2_with fail
            have HPd := hidden (HPf.out.grown (grown_drew WF))
            have HBd : Hid (BoxE b e WF.drew) := HBf.out
            clear HPf HBf
            have HSb : Hid (∀ u, BoxE b e u → (fun u : World => u.cell? ⟨b, 0, none⟩ = some (.int .i64 e.at') ∧ u.cell? ⟨b, 1, none⟩ = some (.string e.old) ∧ u.cell? ⟨b, 2, none⟩ = some (.string e.new)) u) := fun u hu => hu.cells
            refine wp_region_held_drew (S := (fun u : World => u.cell? ⟨b, 0, none⟩ = some (.int .i64 e.at') ∧ u.cell? ⟨b, 1, none⟩ = some (.string e.old) ∧ u.cell? ⟨b, 2, none⟩ = some (.string e.new))) (by kernel_rfl) (HSb.out _ HBd.out) (fun hHeld => ?_)
            generalize WF.drew = V at *
            refine take_dst 0 (some 78) rfl rfl (by kernel_rfl) (by kernel_rfl) (by kernel_rfl) (fun _ _ _ h => h) (v := ?_) (Or.inl ⟨by rfl, ?_⟩) (by assumption) ?_
            rotate_left
            · (intro w hSw; (try dsimp only at hSw); go_simp; try with_reducible rfl)
            simp only [Act.put, List.setIfInBounds_toArray, List.set_cons_zero, List.set_cons_succ]
            refine take_dst 1 (some 79) rfl rfl (by kernel_rfl) (by kernel_rfl) (by kernel_rfl) (fun _ _ _ h => h) (v := ?_) (Or.inl ⟨by rfl, ?_⟩) (by assumption) ?_
            rotate_left
            · (intro w hSw; (try dsimp only at hSw); go_simp; try with_reducible rfl)
            simp only [Act.put, List.setIfInBounds_toArray, List.set_cons_zero, List.set_cons_succ]
            refine take_dst 3 (some 81) rfl rfl (by kernel_rfl) (by kernel_rfl) (by kernel_rfl) (fun _ _ _ h => h) (v := ?_) (Or.inl ⟨by rfl, ?_⟩) (by assumption) ?_
            rotate_left
            · (intro w hSw; (try dsimp only at hSw); go_simp; try with_reducible rfl)
            simp only [Act.put, List.setIfInBounds_toArray, List.set_cons_zero, List.set_cons_succ]
            refine take_dst 4 (some 82) rfl rfl (by kernel_rfl) (by kernel_rfl) (by kernel_rfl) (fun _ _ _ h => h) (v := ?_) (Or.inl ⟨by rfl, ?_⟩) (by assumption) ?_
            rotate_left
            · (intro w hSw; (try dsimp only at hSw); go_simp; try with_reducible rfl)
            simp only [Act.put, List.setIfInBounds_toArray, List.set_cons_zero, List.set_cons_succ]
            refine wpAnyH_ready (rs := [2]) (by kernel_rfl) (by simp) ?_
            refine AllReadyH.cons rfl (fun K hK => ?_) AllReadyH.nil
            · go_simp
              refine (hs_do HPd.out.hs Hi.out (by omega) (by omega) e).mono ?_
              rintro q v1 ⟨code1, s1, hdr1, rfl, hst1⟩
              obtain ⟨X1, hp1, hk1, hx1⟩ := HPd.out.p hst1
              have HV1 := hidden hp1
              have HB1 : Hid (BoxE b e v1) := (hk1.block b (Array.getElem?_eq_some_iff.1 HBd.out).1 hnX.out).trans HBd.out
              clear hst1 hp1 hk1 hx1
              refine hK.out _ _ (HSb.out _ HB1.out) (fun hHeld1 => ?_)
              clear hK K hHeld
              refine wpAnyH_ready (rs := [5]) (by kernel_rfl) (by simp) ?_
              refine AllReadyH.cons rfl (fun K hK => ?_) AllReadyH.nil
              go_simp
              refine (rs_do HV1.out.rs Hi.out (by omega) e).mono ?_
              rintro q v2 ⟨code2, s2, hdr2, rfl, hst2⟩
              obtain ⟨R2, hp2, hk2, hx2⟩ := HV1.out.r hst2
              have HV2 := hidden hp2
              have HB2 : Hid (BoxE b e v2) := (hk2.block b (Array.getElem?_eq_some_iff.1 HB1.out).1 hnR.out).trans HB1.out
              obtain ⟨rfl, rfl⟩ := DoR.det hdr1 hdr2
              have Hdr := hidden (hdr1.inv Hi.out)
              clear hst2 hp2 hk2 hx2 hdr1 hdr2
              refine hK.out _ _ (HSb.out _ HB2.out) (fun hHeld2 => ?_)
              clear hK K hHeld1
              refine take_dst 6 (some 84) rfl rfl (by kernel_rfl) (by kernel_rfl) (by kernel_rfl) (fun _ _ _ h => h) (v := ?_) (Or.inl ⟨by rfl, ?_⟩) (by assumption) ?_
              rotate_left
              · (intro w hSw; (try dsimp only at hSw); go_simp; try with_reducible rfl)
              simp only [Act.put, List.setIfInBounds_toArray, List.set_cons_zero, List.set_cons_succ]
              refine take_dst 7 (some 6) rfl rfl (by kernel_rfl) (by kernel_rfl) (by kernel_rfl) (fun _ _ _ h => h) (v := ?_) (Or.inl ⟨by rfl, ?_⟩) (by assumption) ?_
              rotate_left
              · (intro w hSw; (try dsimp only at hSw); go_simp; try with_reducible rfl)
              simp only [Act.put, List.setIfInBounds_toArray, List.set_cons_zero, List.set_cons_succ]
              refine wpAnyH_done (by kernel_rfl) ?_ _
              clear hHeld2 HB2 HB1 HSb
              go_wp2
              go_ret
              exact act_mk rfl HV2.out (by omega) Hdr.out.1 Hdr.out.2.1
end
end Go.Proofs.PlatenPiece
