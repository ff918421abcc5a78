/- What words.begins, ends, Runs and the document's Runs come to. -/
import Derived.Test.YtglgcbocpdenhaaDoorWdA
namespace Go.Proofs.PlatenWords
open Go.RowKit Go.Shelf Go.Proofs.PlatenGlyph
set_option linter.unusedVariables false

theorem Row.below {w w' : World} {v : Value} {n : Nat} {f : Nat → Nat} (h : Row w v n f) (hb : Below w.heap.size w w') : Row w' v n f := by
  obtain ⟨a, cap, rfl, h⟩ := h
  refine ⟨a, cap, rfl, fun hn => ?_⟩
  obtain ⟨b, off, rfl, hc, hr⟩ := h hn
  exact ⟨b, off, rfl, hc, hr.below hb⟩
set_option maxHeartbeats 1000000 in
theorem begins_any (v : Value) (f : Nat → Nat) (n i : Nat) (w : World) (hf : ∀ j, f j < 256) (hn : n ≤ 1000000) (h : Row w v n f) (hi : i < n) :
    Calls Tryd.prog 29 #[v, .int .i64 i] w fun e w' => e = .returned (.bool (wb f n i)) ∧ Below w.heap.size w w' := by
  have cb := bound_any v f n i w hf hn h (by omega)
  obtain ⟨a, cap, rfl, h⟩ := h
  obtain ⟨b, off, rfl, hcap, hc⟩ := h (by omega)
  have g := hc i hi
  have hlz : ((i : Int) < (n : Int)) := by omega
  have cw := inword_any (f i) w (hf i)
  clear hc h hf
  unfold wb
  generalize bnd f n i = y at *
  cases hs : sld (f i) with
  | true =>
    rw [hs] at cw
    generalize f i = z at *
    clear hs
    go_enter Tryd.func29, Tryd.ntmps29
    go_wp2_with fail
    refine cw.mono ?_
    rintro e w' ⟨rfl, rfl⟩
    go_wp2_with fail
    refine cb.mono ?_
    rintro e w1 ⟨rfl, hb⟩
    go_wp2
    go_ret
    exact ⟨by simp, hb⟩
  | false =>
    rw [hs] at cw
    generalize f i = z at *
    clear hs
    go_enter Tryd.func29, Tryd.ntmps29
    go_wp2_with fail
    refine cw.mono ?_
    rintro e w' ⟨rfl, rfl⟩
    go_wp2
    go_ret
    exact ⟨by simp, Below.refl _ _⟩
set_option maxHeartbeats 1000000 in
theorem ends_any (v : Value) (f : Nat → Nat) (n i : Nat) (w : World) (hf : ∀ j, f j < 256) (hn : n ≤ 1000000) (h : Row w v n f) (h0 : 1 ≤ i) (hi : i ≤ n) :
    Calls Tryd.prog 31 #[v, .int .i64 i] w fun e w' => e = .returned (.bool (we f n i)) ∧ Below w.heap.size w w' := by
  have cb := bound_any v f n i w hf hn h (by omega)
  obtain ⟨a, cap, rfl, h⟩ := h
  obtain ⟨b, off, rfl, hcap, hc⟩ := h (by omega)
  obtain ⟨k, hk⟩ : ∃ k, i = k + 1 := ⟨i - 1, by omega⟩
  have g := hc k (by omega)
  have hsub : (i : Int) - 1 = (k : Int) := by omega
  have hlz : ((k : Int) < (n : Int)) := by omega
  have cw := inword_any (f k) w (hf k)
  unfold we
  rw [show i - 1 = k by omega]
  clear hc h hf hk
  generalize bnd f n i = y at *
  cases hs : sld (f k) with
  | true =>
    rw [hs] at cw
    generalize f k = z at *
    clear hs
    go_enter Tryd.func31, Tryd.ntmps31
    go_wp2_with fail
    refine cw.mono ?_
    rintro e w' ⟨rfl, rfl⟩
    go_wp2_with fail
    refine cb.mono ?_
    rintro e w1 ⟨rfl, hb⟩
    go_wp2
    go_ret
    exact ⟨by simp, hb⟩
  | false =>
    rw [hs] at cw
    generalize f k = z at *
    clear hs
    go_enter Tryd.func31, Tryd.ntmps31
    go_wp2_with fail
    refine cw.mono ?_
    rintro e w' ⟨rfl, rfl⟩
    go_wp2
    go_ret
    exact ⟨by simp, Below.refl _ _⟩

/-! Rows of pieces. -/
theorem info29 : (Tryd.prog.info? 29).map (fun i => (i.zero, i.size, i.bytes)) = some (some (.agg #[.int .i64 0, .int .i64 0]), 2, 16) := by kernel_rfl
theorem below_append2 {B s : Nat} {e : TypeId} {w wr w1 : World} {v : Value} {n : Nat} {xs : List Value} {o : Obj} (hB : B ≤ wr.heap.size) (hown : wr.ownsRow B e s v n xs) (hnx : Below B w wr) (hg : (wr.alloc o).grownBy w1 v.ownBlock) : Below B w w1 :=
  (hnx.alloc hB o).grown hg (by simp; omega) (fun j hj => (hown.lt j hj).1)
theorem own_below {w w' : World} {B : Nat} {e : TypeId} {s n : Nat} {v : Value} {xs : List Value} (h : w.ownsRow B e s v n xs) (hb : Below w.heap.size w w') : w'.ownsRow B e s v n xs := by
  have g : w.grownBy w' none := ⟨hb.os, hb.tape, hb.output, hb.size, fun i hi _ => hb.block i hi⟩
  by_cases hh : v.ownBlock = none
  · exact h.kept g (Or.inl hh)
  · exact h.kept g (Or.inr hh)
def rowS (l : List (Nat × Nat)) : List Value := l.flatMap fun p => [.int .i64 (p.1 : Nat), .int .i64 (p.2 : Nat)]
theorem rowS_app (a b : List (Nat × Nat)) : rowS (a ++ b) = rowS a ++ rowS b := by simp [rowS]
theorem rowS_one (p : Nat × Nat) : rowS [p] = [.int .i64 (p.1 : Nat), .int .i64 (p.2 : Nat)] := by simp [rowS]
theorem rowS_len : ∀ l : List (Nat × Nat), (rowS l).length = l.length * 2
  | [] => rfl
  | p :: t => by have := rowS_len t; simp only [rowS, List.flatMap_cons, List.length_append, List.length_cons] at this ⊢; simp at this ⊢; omega
theorem rowS_get : ∀ (l : List (Nat × Nat)) (i : Nat), i < l.length → (rowS l)[i * 2]? = some (.int .i64 ((l.getD i (0, 0)).1 : Nat)) ∧ (rowS l)[i * 2 + 1]? = some (.int .i64 ((l.getD i (0, 0)).2 : Nat))
  | [], i, h => absurd h (Nat.not_lt_zero _)
  | p :: t, 0, _ => by simp [rowS]
  | p :: t, i + 1, h => by
    have ih := rowS_get t i (by simpa using h)
    have e : rowS (p :: t) = [.int .i64 (p.1 : Nat), .int .i64 (p.2 : Nat)] ++ rowS t := by simp [rowS]
    rw [e, List.getElem?_append_right (by simp; omega), List.getElem?_append_right (by simp; omega)]
    simp only [List.length_cons, List.length_nil]
    rw [show (i + 1) * 2 - (0 + 1 + 1) = i * 2 by omega, show (i + 1) * 2 + 1 - (0 + 1 + 1) = i * 2 + 1 by omega]
    simpa using ih
/-- A slice of pieces. -/
def IsSp (w : World) (v : Value) (l : List (Nat × Nat)) : Prop :=
  ∃ a cap, v = .slice a l.length cap ∧ (0 < l.length → ∃ g, a = some ⟨g, 0, none⟩ ∧ l.length ≤ cap ∧ ∀ i, i < l.length → w.cell? ⟨g, i * 2, none⟩ = some (.int .i64 ((l.getD i (0, 0)).1 : Nat)) ∧ w.cell? ⟨g, i * 2 + 1, none⟩ = some (.int .i64 ((l.getD i (0, 0)).2 : Nat)))
theorem IsSp.below {w w' : World} {v : Value} {l : List (Nat × Nat)} (h : IsSp w v l) (hb : Below w.heap.size w w') : IsSp w' v l := by
  obtain ⟨a, cap, rfl, h⟩ := h
  refine ⟨a, cap, rfl, fun hl => ?_⟩
  obtain ⟨g, rfl, hc, hr⟩ := h hl
  refine ⟨g, rfl, hc, fun i hi => ?_⟩
  obtain ⟨h1, h2⟩ := hr i hi
  rw [hb.cell (p := ⟨g, i * 2, none⟩) (World.block_lt_of_cell? _ _ h1), hb.cell (p := ⟨g, i * 2 + 1, none⟩) (World.block_lt_of_cell? _ _ h2)]
  exact ⟨h1, h2⟩
theorem isSp_of {w : World} {base : Nat} {v : Value} {l : List (Nat × Nat)} (h : w.ownsRow base 29 2 v l.length (rowS l)) : IsSp w v l := by
  have hcl := fun g => h.cells (g := g)
  rcases h.2 with ⟨rfl, h0⟩ | ⟨g, cap, cur, rfl, hbg, hg, hnc, hcm, hcs, htake⟩
  · exact ⟨none, 0, by rw [h0], fun hl => by omega⟩
  · refine ⟨_, cap, rfl, fun _ => ⟨g, rfl, hnc, fun i hi => ?_⟩⟩
    obtain ⟨h1, h2⟩ := rowS_get l i hi
    have g1 := hcl g rfl _ _ h1
    have g2 := hcl g rfl _ _ h2
    have ea : ∀ j, (⟨g, 0, none⟩ : Addr).add j = ⟨g, j, none⟩ := fun j => by unfold Addr.add; split <;> simp_all
    rw [ea] at g1 g2
    exact ⟨g1, g2⟩

set_option maxHeartbeats 2000000 in
theorem runs_any (v : Value) (n : Nat) (f : Nat → Nat) (w : World) (hf : ∀ j, f j < 256) (hn : n ≤ 100000) (h : Row w v n f) :
    Calls Tryd.prog 14 #[v] w fun e w' => ∃ l, e = .returned l ∧ IsSp w' l (rns f n n) ∧ Below w.heap.size w w' := by
  obtain ⟨i0, hi, hz0, hz1, hz2⟩ := info_parts info29
  have HR := hidden h
  obtain ⟨a, cap, rfl, _⟩ := h
  go_enter Tryd.func14, Tryd.ntmps14
  go_wp2
  go_loopw [3, 4, 8] (fun v s i wr => ∃ k : Nat, k ≤ n ∧ i = .int .i64 (k : Nat) ∧ s = .int .i64 (st f n k : Nat) ∧ wr.ownsRow w.heap.size 29 2 v (rns f n k).length (rowS (rns f n k)) ∧ Below w.heap.size w wr) (fun _ _ i _ => n - (intOf i).toNat)
  case atStart => exact ⟨0, Nat.zero_le _, rfl, rfl, World.ownsRow_nil _ _ _ _, Below.refl _ _⟩
  case round =>
    obtain ⟨k, hk, rfl, rfl, hown, hnx⟩ := hrel
    have hsl := st_le f n k
    have hll := rns_len_le f n k
    by_cases hlt : k < n
    · have cb := bound_any _ f n (k + 1) wr hf (by omega) (HR.out.below hnx) (by omega)
      rw [show (((k + 1 : Nat) : Int)) = (k : Int) + 1 by omega] at cb
      have hlz : (k : Int) < (n : Int) := by omega
      cases hb : bnd f n (k + 1) with
      | true =>
        rw [hb] at cb
        have HS := hidden (st_yes hb)
        have Hr : Hid (rowS (rns f n (k + 1)) = rowS (rns f n k) ++ [.int .i64 (st f n k : Nat), .int .i64 ((k : Int) + 1 - (st f n k : Nat))] ∧ (rns f n (k + 1)).length = (rns f n k).length + 1) := by
          unfold Hid
          rw [rns_yes hb, rowS_app, rowS_one, show (((k + 1 - st f n k : Nat) : Nat) : Int) = (k : Int) + 1 - (st f n k : Nat) by omega]
          exact ⟨rfl, by simp⟩
        clear hb
        generalize st f n k = s at *
        have Hown := hidden hown
        have Hnx := hidden hnx
        clear hown hnx
        go_wp2_with fail
        refine cb.mono ?_
        rintro e w1 ⟨rfl, hb1⟩
        have hown1 : w1.ownsRow w.heap.size 29 2 u3 (rns f n k).length (rowS (rns f n k)) := own_below Hown.out hb1
        have Hb1 := hidden (Hnx.out.trans (hb1.mono Hnx.out.size))
        have hsz := Hb1.out.size
        have Hsz := hidden hsz
        clear hb1 cb Hown
        generalize rns f n k = L at *
        go_wp2_with (at_builtin; refine wpList_append_own _ rfl _ _ 26 rfl w.heap.size 29 i0 (.agg #[.int .i64 0, .int .i64 0]) 2 16 Tryd.underlying26 hi hz0 hz1 hz2 rfl (by decide) _ _ _ rfl (hown1.alloc _) ⟨w1.heap.size, 0, none⟩ 1 1 [.int .i64 s, .int .i64 ((k : Int) + 1 - s)] rfl rfl ?c1 ?c2 ?c3 ?c4 ?c5 ?_)
        case c1 =>
          intro j u hj
          match j, hj with
          | 0, hj => simp at hj; subst hj; simp [Addr.add]
          | 1, hj => simp at hj; subst hj; simp [Addr.add]
        case c2 =>
          intro u hu
          simp at hu
          rcases hu with rfl | rfl <;> rfl
        case c3 => unfold maxLen; omega
        case c4 => omega
        case c5 => simp; omega
        intro v' w2 hown' hgrow _
        have Hb2 := hidden (below_append2 hsz hown1 Hb1.out hgrow)
        have Hw2 := hidden hown'
        clear hown' hgrow hown1
        go_wp2
        go_roundw
        case rel => exact ⟨k + 1, by omega, by go_num, by rw [HS.out]; go_num, by rw [Hr.out.1, Hr.out.2]; exact Hw2.out, Hb2.out⟩
        case measure => simp [intOf]; omega
      | false =>
        rw [hb] at cb
        have HS := hidden (st_no hb)
        have Hr := hidden (rns_no hb)
        have Hown := hidden hown
        have Hnx := hidden hnx
        clear hb hown hnx
        generalize st f n k = s at *
        go_wp2_with fail
        refine cb.mono ?_
        rintro e w1 ⟨rfl, hb1⟩
        have Hown1 : Hid (w1.ownsRow w.heap.size 29 2 u3 (rns f n k).length (rowS (rns f n k))) := own_below Hown.out hb1
        have Hb1 := hidden (Hnx.out.trans (hb1.mono Hnx.out.size))
        clear hb1 cb
        go_wp2
        go_roundw
        case rel => exact ⟨k + 1, by omega, by go_num, by rw [HS.out], by rw [Hr.out]; exact Hown1.out, Hb1.out⟩
        case measure => simp [intOf]; omega
    · obtain rfl : k = n := by omega
      have Hs := hidden (isSp_of hown)
      have Hnx := hidden hnx
      clear hown hnx
      go_wp2
      go_ret
      exact ⟨_, rfl, Hs.out, Hnx.out⟩

set_option maxHeartbeats 2000000 in
theorem rruns_any (v : Value) (n : Nat) (f : Nat → Nat) (w : World) (hf : ∀ j, f j < 256) (hn : n ≤ 100000) (h : Row w v n f) :
    Calls Tryd.prog 16 #[v] w fun e w' => ∃ l, e = .returned l ∧ IsSp w' l (rns f n n) ∧ Below w.heap.size w w' := by
  obtain ⟨i0, hi, hz0, hz1, hz2⟩ := info_parts info29
  have HR := hidden h
  obtain ⟨a, cap, rfl, _⟩ := h
  go_enter Tryd.func16, Tryd.ntmps16
  go_wp2
  go_loopw [3, 4, 5] (fun v s i wr => ∃ k : Nat, k ≤ n ∧ i = .int .i64 ((k + 1 : Nat) : Int) ∧ s = .int .i64 (st f n k : Nat) ∧ wr.ownsRow w.heap.size 29 2 v (rns f n k).length (rowS (rns f n k)) ∧ Below w.heap.size w wr) (fun _ _ i _ => n + 1 - (intOf i).toNat)
  case atStart => exact ⟨0, Nat.zero_le _, rfl, rfl, World.ownsRow_nil _ _ _ _, Below.refl _ _⟩
  case round =>
    obtain ⟨k, hk, hki, rfl, hown, hnx⟩ := hrel
    have hsl := st_le f n k
    have hll := rns_len_le f n k
    by_cases hlt : k < n
    · obtain ⟨m, hm⟩ : ∃ m, k + 1 = m := ⟨_, rfl⟩
      have hlz : (m : Int) ≤ (n : Int) := by omega
      rw [hm] at hki
      subst hki
      have Hm := hidden hm
      have hsm : st f n k < m := by omega
      have hmm : m ≤ 100000 := by omega
      have Hdb := hidden (doc_bnd (f := f) (n := n) (k := k) (by omega))
      have Hyes : Hid (bnd f n (k + 1) = true → rowS (rns f n (k + 1)) = rowS (rns f n k) ++ [.int .i64 (st f n k : Nat), .int .i64 ((m : Int) - (st f n k : Nat))] ∧ (rns f n (k + 1)).length = (rns f n k).length + 1 ∧ st f n (k + 1) = k + 1) := fun hb => by
        rw [rns_yes hb, rowS_app, rowS_one, show (((k + 1 - st f n k : Nat) : Nat) : Int) = (m : Int) - (st f n k : Nat) by omega]
        exact ⟨rfl, by simp, st_yes hb⟩
      by_cases hkn : k + 1 = n
      · have heq : ((m : Int) == (n : Int)) = true := by simp; omega
        obtain ⟨r1, r2, r3⟩ := Hyes.out (by rw [Hdb.out]; simp [hkn])
        have HS := hidden r3
        have Hr1 := hidden r1
        have Hr2 := hidden r2
        have hsz := hnx.size
        have Hnx := hidden hnx
        clear hnx Hyes Hdb r1 r2 r3 hkn hm
        generalize st f n k = s at *
        generalize rns f n k = L at *
        go_wp2_with fail
        go_quiet (fail)
        have hown1 : (wr.drewN nq).ownsRow w.heap.size 29 2 u3 L.length (rowS L) := own_below hown (below_dN (Below.refl _ _) nq)
        have Hb1 := hidden (below_dN Hnx.out nq)
        clear hown
        have hsz1 : w.heap.size ≤ (wr.drewN nq).heap.size := hsz
        generalize wr.drewN nq = w1 at *
        go_wp2_with (at_builtin; refine wpList_append_own _ rfl _ _ 26 rfl w.heap.size 29 i0 (.agg #[.int .i64 0, .int .i64 0]) 2 16 Tryd.underlying26 hi hz0 hz1 hz2 rfl (by decide) _ _ _ rfl (hown1.alloc _) ⟨w1.heap.size, 0, none⟩ 1 1 [.int .i64 s, .int .i64 ((m : Int) - s)] rfl rfl ?c1 ?c2 ?c3 ?c4 ?c5 ?_)
        case c1 =>
          intro j u hj
          match j, hj with
          | 0, hj => simp at hj; subst hj; simp [Addr.add]
          | 1, hj => simp at hj; subst hj; simp [Addr.add]
        case c2 =>
          intro u hu
          simp at hu
          rcases hu with rfl | rfl <;> rfl
        case c3 => unfold maxLen; omega
        case c4 => omega
        case c5 => simp; omega
        intro v' w2 hown' hgrow _
        have Hb2 := hidden (below_append2 hsz1 hown1 Hb1.out hgrow)
        have Hw2 := hidden hown'
        clear hown' hgrow hown1
        go_wp2
        go_roundw
        case rel => exact ⟨k + 1, by omega, by rw [Hm.out]; go_num, by rw [HS.out, Hm.out], by rw [Hr1.out, Hr2.out]; exact Hw2.out, Hb2.out⟩
        case measure => simp [intOf]; omega
      · have heq : ((m : Int) == (n : Int)) = false := by simp; omega
        have hlt1 : (m : Int) < (n : Int) := by omega
        obtain ⟨a', cap', hv, hrow⟩ := HR.out.below hnx
        injection hv with hv1 hv2 hv3
        subst hv1
        subst hv3
        obtain ⟨b, off, rfl, hcap, hc⟩ := hrow (by omega)
        have g0 := hc (st f n k) (by omega)
        have g1 := hc m (by omega)
        have x0 := hf (st f n k)
        have x1 := hf m
        have l0 := cls_le (f (st f n k))
        have l1 := cls_le (f m)
        have hsn : ((st f n k : Nat) : Int) < (n : Int) := by omega
        clear hc hrow hv2
        cases hb : bnd f n (k + 1) with
        | true =>
          have hne : (((cls (f m) : Nat) : Int) != ((cls (f (st f n k)) : Nat) : Int)) = true := by
            have := Hdb.out; rw [hb, hm] at this; have := of_decide_eq_true this.symm; rw [bne_iff_ne]; omega
          obtain ⟨r1, r2, r3⟩ := Hyes.out hb
          have HS := hidden r3
          have Hr1 := hidden r1
          have Hr2 := hidden r2
          have hsz := hnx.size
          have Hnx := hidden hnx
          clear hnx Hyes Hdb r1 r2 r3 hb
          clear hm
          generalize f m = y1 at *
          generalize f (st f n k) = y0 at *
          generalize st f n k = s at *
          generalize rns f n k = L at *
          go_wp2_with fail
          go_quiet ((go_at_call 13; exact Calls.quiet_of_same (rclass_any _ _ (by assumption))))
          have hown1 : (wr.drewN nq).ownsRow w.heap.size 29 2 u3 L.length (rowS L) := own_below hown (below_dN (Below.refl _ _) nq)
          have Hb1 := hidden (below_dN Hnx.out nq)
          clear hown g0 g1
          have hsz1 : w.heap.size ≤ (wr.drewN nq).heap.size := hsz
          generalize wr.drewN nq = w1 at *
          go_wp2_with (at_builtin; refine wpList_append_own _ rfl _ _ 26 rfl w.heap.size 29 i0 (.agg #[.int .i64 0, .int .i64 0]) 2 16 Tryd.underlying26 hi hz0 hz1 hz2 rfl (by decide) _ _ _ rfl (hown1.alloc _) ⟨w1.heap.size, 0, none⟩ 1 1 [.int .i64 s, .int .i64 ((m : Int) - s)] rfl rfl ?c1 ?c2 ?c3 ?c4 ?c5 ?_)
          case c1 =>
            intro j u hj
            match j, hj with
            | 0, hj => simp at hj; subst hj; simp [Addr.add]
            | 1, hj => simp at hj; subst hj; simp [Addr.add]
          case c2 =>
            intro u hu
            simp at hu
            rcases hu with rfl | rfl <;> rfl
          case c3 => unfold maxLen; omega
          case c4 => omega
          case c5 => simp; omega
          intro v' w2 hown' hgrow _
          have Hb2 := hidden (below_append2 hsz1 hown1 Hb1.out hgrow)
          have Hw2 := hidden hown'
          clear hown' hgrow hown1
          go_wp2
          go_roundw
          case rel => exact ⟨k + 1, by omega, by rw [Hm.out]; go_num, by rw [HS.out, Hm.out], by rw [Hr1.out, Hr2.out]; exact Hw2.out, Hb2.out⟩
          case measure => simp [intOf]; omega
        | false =>
          have hne : (((cls (f m) : Nat) : Int) != ((cls (f (st f n k)) : Nat) : Int)) = false := by
            have := Hdb.out; rw [hb, hm] at this; have := of_decide_eq_false this.symm; rw [bne_eq_false_iff_eq]; omega
          have HS := hidden (st_no hb)
          have Hr := hidden (rns_no hb)
          have Hown := hidden hown
          have Hnx := hidden hnx
          clear hnx hown Hyes Hdb hb
          clear hm
          generalize f m = y1 at *
          generalize f (st f n k) = y0 at *
          generalize st f n k = s at *
          go_wp2_with fail
          go_quiet ((go_at_call 13; exact Calls.quiet_of_same (rclass_any _ _ (by assumption))))
          have Hown1 : Hid ((wr.drewN nq).ownsRow w.heap.size 29 2 u3 (rns f n k).length (rowS (rns f n k))) := own_below Hown.out (below_dN (Below.refl _ _) nq)
          have Hb1 := hidden (below_dN Hnx.out nq)
          clear g0 g1
          go_wp2
          go_roundw
          case rel => exact ⟨k + 1, by omega, by rw [Hm.out]; go_num, by rw [HS.out], by rw [Hr.out]; exact Hown1.out, Hb1.out⟩
          case measure => simp [intOf]; omega
    · obtain rfl : k = n := by omega
      have hlz : ¬ ((k : Int) + 1 ≤ (k : Int)) := by omega
      rw [show (((k + 1 : Nat)) : Int) = (k : Int) + 1 by omega] at hki
      subst hki
      have Hs := hidden (isSp_of hown)
      have Hnx := hidden hnx
      clear hown hnx
      go_wp2
      go_ret
      exact ⟨_, rfl, Hs.out, Hnx.out⟩
end Go.Proofs.PlatenWords
