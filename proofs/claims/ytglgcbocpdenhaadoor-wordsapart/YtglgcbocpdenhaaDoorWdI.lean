/- What words.Solid comes to. -/
import Derived.Test.YtglgcbocpdenhaaDoorWdH
import Derived.RegionTactic
import Derived.BigRegion
namespace Go.Proofs.PlatenWords
open Go.RowKit Go.Shelf Go.Proofs.PlatenGlyph
set_option linter.unusedVariables false

theorem chain_drop {f : Nat → Nat} {n : Nat} {l : List (Nat × Nat)} {i q b : Nat} (hi : i < l.length) (h : Chain f n (l.drop i) q b) : (l.getD i (0, 0)).1 = q ∧ Good f n (q, (l.getD i (0, 0)).2) ∧ Chain f n (l.drop (i + 1)) (q + (l.getD i (0, 0)).2) b := by
  rw [List.drop_eq_getElem_cons hi] at h
  obtain ⟨h1, h2, h3⟩ := h
  rw [getD_eq hi]
  refine ⟨h1, ?_, h3⟩
  have e : (q, l[i].2) = l[i] := by rw [← h1]
  rw [e]; exact h2
theorem rowS_set (l : List (Nat × Nat)) (a N M : Nat) : (rowS (l ++ [(a, N)])).set (l.length * 2 + 1) (.int .i64 (M : Nat)) = rowS (l ++ [(a, M)]) := by
  rw [rowS_app, rowS_app, rowS_one, rowS_one, List.set_append_right _ _ (by rw [rowS_len]; omega), rowS_len]
  rw [show l.length * 2 + 1 - l.length * 2 = 1 by omega]
  rfl
theorem cell_grown {w w' : World} {row : Option Nat} (g : w.grownBy w' row) {p : Addr} {v : Value} (h : w.cell? p = some v) (hne : row ≠ some p.block) : w'.cell? p = some v := by
  rw [World.cell?_of_block (w := w) (g.block p.block (World.block_lt_of_cell? _ _ h) (fun e => hne e.symm))]; exact h
theorem below_drew {B : Nat} {a w : World} (h : Below B a w) : Below B a w.drew := h.trans ⟨rfl, rfl, rfl, Nat.le_refl _, fun _ _ => rfl⟩
/-- Where the last piece without blanks ended: en is the place at hand just if the byte ahead of it is in one. -/
def EndAt (f : Nat → Nat) (q : Nat) (en : Int) : Prop := -1 ≤ en ∧ en ≤ q ∧ (en = q ↔ (q ≠ 0 ∧ sld (f (q - 1)) = true))
theorem endAt_yes {f : Nat → Nat} {z : Nat} (h0 : 1 ≤ z) (h : sld (f (z - 1)) = true) : EndAt f z (z : Int) := ⟨by omega, by omega, by simp [h]; omega⟩
theorem endAt_no {f : Nat → Nat} {q z : Nat} {en : Int} (h : EndAt f q en) (hz : q < z) (hs : sld (f (z - 1)) = false) : EndAt f z en := ⟨h.1, by have := h.2.1; omega, by
  have := h.2.1
  constructor
  · intro e; omega
  · rintro ⟨_, e⟩; rw [hs] at e; cases e⟩

set_option maxHeartbeats 4000000 in
theorem solid_any (v : Value) (n : Nat) (f : Nat → Nat) (w : World) (hf : ∀ j, f j < 256) (hn : n ≤ 100000) (h : Row w v n f) :
    Calls Tryd.prog 17 #[v] w fun e w' => ∃ l, e = .returned l ∧ IsSp w' l (sol f n) ∧ Below w.heap.size w w' := by
  obtain ⟨i0, hi, hz0, hz1, hz2⟩ := info_parts info29
  have cr := runs_any v n f w hf hn h
  have HR := hidden h
  obtain ⟨a, cap, rfl, _⟩ := h
  have HCh := hidden (runs_chain f n)
  have hml := rns_len_le f n n
  generalize rns f n n = R at *
  go_enter Tryd.func17, Tryd.ntmps17
  go_wp2_with fail
  refine cr.mono ?_
  rintro e w0 ⟨rv, rfl, ⟨ra, rcap, rfl, hrow⟩, hb0⟩
  have HR0 := hidden (HR.out.below hb0)
  have Hrow := hidden hrow
  have Hb0 := hidden hb0
  clear cr hb0 hrow
  go_wp2
  go_loopw [3, 4, 10] (fun v en i wr => ∃ (k q : Nat) (e0 : Int), k ≤ R.length ∧ q ≤ n ∧ i = .int .i64 (k : Nat) ∧ en = .int .i64 e0 ∧ EndAt f q e0 ∧ Chain f n (R.drop k) q n ∧ wr.ownsRow w0.heap.size 29 2 v (sol f q).length (rowS (sol f q)) ∧ Below w0.heap.size w0 wr) (fun _ _ i _ => R.length - (intOf i).toNat)
  case atStart => exact ⟨0, 0, -1, Nat.zero_le _, Nat.zero_le _, rfl, rfl, ⟨by omega, by omega, by simp⟩, HCh.out, World.ownsRow_nil _ _ _ _, Below.refl _ _⟩
  case round =>
    obtain ⟨k, q, e0, hk, hqn, rfl, rfl, hea, hch, hown, hnx⟩ := hrel
    by_cases hlt : k < R.length
    · obtain ⟨hx, hgood, hch2⟩ := chain_drop hlt hch
      obtain ⟨g, rfl, hrc, hcells⟩ := Hrow.out (by omega)
      obtain ⟨c1, c2⟩ := hcells k hlt
      rw [hx] at c1
      generalize (R.getD k (0, 0)).2 = m at *
      obtain ⟨g1, g2, g3, g4, g5⟩ := hgood
      simp only at g1 g2 g3 g4 g5
      rw [← hnx.cell (p := ⟨g, k * 2, none⟩) (World.block_lt_of_cell? _ _ c1)] at c1
      rw [← hnx.cell (p := ⟨g, k * 2 + 1, none⟩) (World.block_lt_of_cell? _ _ c2)] at c2
      obtain ⟨a', cap', hv, hrr⟩ := HR0.out.below hnx
      injection hv with hv1 hv2 hv3
      subst hv1
      subst hv3
      obtain ⟨b, off, rfl, hcap, hc⟩ := hrr (by omega)
      have g0 := hc q (by omega)
      have x0 := hf q
      have hlz : (k : Int) < (R.length : Int) := by omega
      have hqz : (q : Int) < (n : Int) := by omega
      have hll := sol_len f q
      obtain ⟨z, hz⟩ : ∃ z, q + m = z := ⟨_, rfl⟩
      have hsum : (q : Int) + (m : Int) = (z : Int) := by omega
      rw [hz] at g2 hch2
      have Hch2 := hidden hch2
      have Hcls : Hid (∀ j, q ≤ j → j < z → cls (f j) = cls (f q)) := fun j h1 h2 => g5 j h1 (by omega)
      have Hea := hidden hea
      have e1 := hea.1
      have e2 := hea.2.1
      have hsz := hnx.size
      have Hnx := hidden hnx
      have hzm : z ≤ 100000 := by omega
      clear hc hrr hv2 hcells hch hch2 hea hx g3 g4 g5 hnx HCh
      cases hs : sld (f q) with
      | false =>
        have Hr : Hid (sol f z = sol f q) := by
          have := sol_skip (f := f) (q := q) m (fun j h1 h2 => sld_no.2 (by have := Hcls.out j h1 (by omega); have := sld_no.1 hs; omega))
          rw [hz] at this; exact this
        have He := hidden (endAt_no Hea.out (show q < z by omega) (sld_no.2 (by have := Hcls.out (z - 1) (by omega) (by omega); have := sld_no.1 hs; omega)))
        have hio : ∀ u, Calls Tryd.prog 28 #[.int .u8 (f q)] u fun e w' => e = .returned (.bool false) ∧ w' = u := fun u => by have := inword_any (f q) u x0; rw [hs] at this; exact this
        have Hown := hidden hown
        clear hs Hcls Hea hown
        have g0' : ∀ o, (wr.alloc o).cell? ⟨b, off + q, none⟩ = some (.int .u8 (f q)) := fun o => by rw [World.cell?_alloc_lt _ _ _ (World.block_lt_of_cell? _ _ g0)]; exact g0
        have Hbel : Hid (∀ o, Below w0.heap.size w0 (wr.alloc o)) := fun o => Hnx.out.alloc hsz o
        have Hown1 : Hid (∀ o, (wr.alloc o).ownsRow w0.heap.size 29 2 u3 (sol f z).length (rowS (sol f z))) := fun o => by rw [Hr.out]; exact Hown.out.alloc o
        clear g0 Hr Hown
        generalize f q = y at *
        go_wp2_with fail
        refine (hio _).mono ?_
        rintro e w1 ⟨rfl, rfl⟩
        clear hio g0' c1 c2
        go_wp2
        go_roundw
        case rel => exact ⟨k + 1, z, e0, by omega, g2, by go_num, rfl, He.out, Hch2.out, Hown1.out _, Hbel.out _⟩
        case measure => simp [intOf]; omega
      | true =>
        have hio : ∀ u, Calls Tryd.prog 28 #[.int .u8 (f q)] u fun e w' => e = .returned (.bool true) ∧ w' = u := fun u => by have := inword_any (f q) u x0; rw [hs] at this; exact this
        have hsol : Hid (∀ j, q ≤ j → j < q + m → sld (f j) = true) := fun j h1 h2 => sld_iff.2 (by have := Hcls.out j h1 (by omega); have := sld_iff.1 hs; omega)
        have He := hidden (endAt_yes (f := f) (z := z) (by omega) (hsol.out (z - 1) (by omega) (by omega)))
        have g0' : ∀ o, (wr.alloc o).cell? ⟨b, off + q, none⟩ = some (.int .u8 (f q)) := fun o => by rw [World.cell?_alloc_lt _ _ _ (World.block_lt_of_cell? _ _ g0)]; exact g0
        by_cases heq : e0 = (q : Int)
        · have hbq : ((q : Int) == e0) = true := by rw [heq]; simp
          obtain ⟨hq0, hq1⟩ := Hea.out.2.2.1 heq
          obtain ⟨q', rfl⟩ : ∃ q', q = q' + 1 := ⟨q - 1, by omega⟩
          obtain ⟨L, a0, N, hL, haN, hN⟩ := sol_last (f := f) (k := q') (by simpa using hq1)
          have hz2' := sol_more (f := f) hq0 hq1 hL m hsol.out
          rw [hz] at hz2'
          have Hz2 := hidden hz2'
          rw [hL] at hown hll
          have hll2 : L.length + 1 ≤ 100000 := by have := hll; simp at this; omega
          clear hz2' hq0 hq1 hL hsol Hea Hcls g0
          generalize hqq : q' + 1 = q at *
          clear hqq
          rcases hown.2 with ⟨_, h0⟩ | ⟨G, cg, cur, hv, hbG, hGh, hnc, hcm, hcs, htake⟩
          · simp at h0
          subst hv
          have hGl : G < wr.heap.size := (hown.lt G rfl).2
          have hown1 := hown.alloc (.cells #[.int .i64 q, .int .i64 m] 29)
          have hlen : (L ++ [(a0, N)]).length = L.length + 1 := by simp
          have k1 : (wr.alloc (.cells #[.int .i64 q, .int .i64 m] 29)).cell? ⟨G, L.length * 2 + 1, none⟩ = some (.int .i64 N) := by
            rw [hown1.cellAt (L.length * 2 + 1) (by rw [hlen]; omega), rowS_app, rowS_one, List.getElem?_append_right (by rw [rowS_len]; omega), rowS_len, show L.length * 2 + 1 - L.length * 2 = 1 by omega]
            rfl
          have k2 : (wr.alloc (.cells #[.int .i64 q, .int .i64 m] 29)).frozen? ⟨G, L.length * 2 + 1, none⟩ = false := hown1.frozenAt _
          have Hst := hidden (hown1.stored (L.length * 2 + 1) (.int .i64 ((N + m : Nat) : Int)))
          rw [hlen] at *
          have r0 : (wr.alloc (.cells #[.int .i64 q, .int .i64 m] 29)).cell? ⟨wr.heap.size, 0, none⟩ = some (.int .i64 q) := by simp
          have r1 : (wr.alloc (.cells #[.int .i64 q, .int .i64 m] 29)).cell? ⟨wr.heap.size, 1, none⟩ = some (.int .i64 m) := by simp
          have Hb1 := hidden (Hnx.out.alloc hsz (.cells #[.int .i64 q, .int .i64 m] 29))
          clear hown hown1 hGh hcs htake hlen hs
          generalize f q = y at *
          go_wp2_with fail
          refine (hio _).mono ?_
          rintro e w1 ⟨rfl, rfl⟩
          clear hio g0' c1 c2
          generalize wr.alloc (.cells #[.int .i64 q, .int .i64 m] 29) = W1 at *
          generalize wr.heap.size = B1 at *
          have Hrow2 : Hid ((rowS (L ++ [(a0, N)])).set (L.length * 2 + 1) (.int .i64 ((N + m : Nat) : Int)) = rowS (sol f z) ∧ L.length + 1 = (sol f z).length) := by
            unfold Hid; rw [Hz2.out, rowS_set]; exact ⟨rfl, by simp⟩
          rw [Hrow2.out.1] at Hst
          clear Hz2
          have hNm : N + m ≤ 200000 := by omega
          obtain ⟨S, hS⟩ : ∃ S, N + m = S := ⟨_, rfl⟩
          have hSi : (N : Int) + (m : Int) = (S : Int) := by omega
          rw [hS] at Hst hNm
          have HL : Hid (L.length + 1 = (sol f z).length) := Hrow2.out.2
          clear Hrow2 hS
          clear hll
          generalize L.length = t at *
          have hti : ((t + 1 : Nat) : Int) - 1 = (t : Int) := by omega
          have htl : (t : Int) < ((t + 1 : Nat) : Int) := by omega
          have hne : (G == B1) = false := by simp; omega
          go_wp2_with fail
          go_region
          have r0' := cell_grown Hst.out.2 r0 (by simp; omega)
          have r1' := cell_grown Hst.out.2 r1 (by simp; omega)
          have Hb2 : Hid (Below w0.heap.size w0 (W1.setCell ⟨G, t * 2 + 1, none⟩ (.int .i64 S)).drew) := below_drew (Hb1.out.grown Hst.out.2 (by have := Hb1.out.size; omega) (fun j hj => by cases hj; exact hbG))
          have Hw2 : Hid ((W1.setCell ⟨G, t * 2 + 1, none⟩ (.int .i64 S)).drew.ownsRow w0.heap.size 29 2 (.slice (some ⟨G, 0, none⟩) (t + 1) cg) (t + 1) (rowS (sol f z))) := Hst.out.1.drew
          clear Hst Hb1 k1 k2 r0 r1
          generalize hW : W1.setCell ⟨G, t * 2 + 1, none⟩ (.int .i64 S) = W2 at *
          clear hW
          have r0d : W2.drew.cell? ⟨B1, 0, none⟩ = some (.int .i64 q) := r0'
          have r1d : W2.drew.cell? ⟨B1, 1, none⟩ = some (.int .i64 m) := r1'
          clear r0' r1'
          generalize W2.drew = W3 at *
          go_wp2
          go_roundw
          case rel => exact ⟨k + 1, z, (z : Int), by omega, g2, by go_num, by first | rfl | rw [hsum], He.out, Hch2.out, by rw [← HL.out]; exact Hw2.out, Hb2.out⟩
          case measure => simp [intOf]; omega
        · have hbq : ((q : Int) == e0) = false := by simp; omega
          have hno : q = 0 ∨ sld (f (q - 1)) = false := by
            by_cases c : q = 0
            · exact Or.inl c
            · refine Or.inr ?_
              cases hd : sld (f (q - 1)) with
              | false => rfl
              | true => exact absurd (Hea.out.2.2.2 ⟨c, hd⟩) heq
          have hz2' := sol_run (f := f) hno g1 hsol.out
          rw [hz] at hz2'
          have Hr : Hid (rowS (sol f z) = rowS (sol f q) ++ [.int .i64 (q : Nat), .int .i64 (m : Nat)] ∧ (sol f z).length = (sol f q).length + 1) := by
            unfold Hid; rw [hz2', rowS_app, rowS_one]; exact ⟨rfl, by simp⟩
          have HlB : Hid (∀ b, u3.ownBlock = some b → b < wr.heap.size) := fun b hb => (hown.lt b hb).2
          have hown1 := hown.alloc (.cells #[.int .i64 q, .int .i64 m] 29)
          have Hb1 := hidden (Hnx.out.alloc hsz (.cells #[.int .i64 q, .int .i64 m] 29))
          have hszA : w0.heap.size ≤ (wr.alloc (.cells #[.int .i64 q, .int .i64 m] 29)).heap.size := Hb1.out.size
          have r0 : (wr.alloc (.cells #[.int .i64 q, .int .i64 m] 29)).cell? ⟨wr.heap.size, 0, none⟩ = some (.int .i64 q) := by simp
          have r1 : (wr.alloc (.cells #[.int .i64 q, .int .i64 m] 29)).cell? ⟨wr.heap.size, 1, none⟩ = some (.int .i64 m) := by simp
          have hbs : wr.heap.size < (wr.alloc (.cells #[.int .i64 q, .int .i64 m] 29)).heap.size := by simp
          clear hno hz2' hsol Hea Hcls hown g0 heq hs
          generalize f q = y at *
          generalize sol f q = L at *
          go_wp2_with fail
          refine (hio _).mono ?_
          rintro e w1 ⟨rfl, rfl⟩
          clear hio g0' c1 c2
          generalize wr.alloc (.cells #[.int .i64 q, .int .i64 m] 29) = W1 at *
          generalize wr.heap.size = B1 at *
          go_wp2_with (at_builtin; refine wpList_append_own _ rfl _ _ 26 rfl w0.heap.size 29 i0 (.agg #[.int .i64 0, .int .i64 0]) 2 16 Tryd.underlying26 hi hz0 hz1 hz2 rfl (by decide) _ _ _ rfl (hown1.alloc _) ⟨W1.heap.size, 0, none⟩ 1 1 [.int .i64 q, .int .i64 m] rfl rfl ?c1 ?c2 ?c3 ?c4 ?c5 ?_)
          case c1 =>
            intro j u hj
            match j, hj with
            | 0, hj => simp at hj; subst hj; simp [Addr.add]
            | 1, hj => simp at hj; subst hj; simp [Addr.add]
          case c2 =>
            intro u hu
            simp at hu
            rcases hu with rfl | rfl <;> rfl
          case c3 => unfold maxLen; omega
          case c4 => omega
          case c5 => simp; omega
          intro v' w2 hown' hgrow _
          have Hb2 := hidden (below_append2 hszA hown1 Hb1.out hgrow)
          have Hw2 := hidden hown'
          have r0' : w2.cell? ⟨B1, 0, none⟩ = some (.int .i64 q) := cell_grown hgrow (by rw [World.cell?_alloc_lt _ _ _ (by exact hbs)]; exact r0) (fun e => absurd (HlB.out _ e) (Nat.lt_irrefl _))
          have r1' : w2.cell? ⟨B1, 1, none⟩ = some (.int .i64 m) := cell_grown hgrow (by rw [World.cell?_alloc_lt _ _ _ (by exact hbs)]; exact r1) (fun e => absurd (HlB.out _ e) (Nat.lt_irrefl _))
          clear hown' hgrow hown1 r0 r1
          go_wp2
          go_roundw
          case rel => exact ⟨k + 1, z, (z : Int), by omega, g2, by go_num, by first | rfl | rw [hsum], He.out, Hch2.out, by rw [Hr.out.1, Hr.out.2]; exact Hw2.out, Hb2.out⟩
          case measure => simp [intOf]; omega
    · have hlz : ¬ ((k : Int) < (R.length : Int)) := by omega
      have hqe : q = n := by
        rw [List.drop_eq_nil_of_le (by omega)] at hch; exact hch
      subst hqe
      have Hs := hidden (isSp_of hown)
      have Hnx := hidden (Hb0.out.trans (hnx.mono Hb0.out.size))
      clear hown hnx hch hea
      go_wp2
      go_ret
      exact ⟨_, rfl, Hs.out, Hnx.out⟩
end Go.Proofs.PlatenWords
