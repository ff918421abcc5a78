/- What the document's Same and Words come to; words.Forward, Back and the document's. -/
import Derived.Test.YtglgcbocpdenhaaDoorWdB
namespace Go.Proofs.PlatenWords
open Go.RowKit Go.Shelf Go.Proofs.PlatenGlyph
set_option linter.unusedVariables false

set_option maxHeartbeats 1000000 in
theorem same_any (va vb : Value) (l : List (Nat × Nat)) (w : World) (hl : l.length ≤ 1000000) (ha : IsSp w va l) (hb : IsSp w vb l) :
    Calls Tryd.prog 15 #[va, vb] w fun e w' => e = .returned (.bool true) ∧ Below w.heap.size w w' := by
  obtain ⟨a, ca, rfl, ha⟩ := ha
  obtain ⟨b, cb, rfl, hb⟩ := hb
  have HA := hidden ha
  have HB := hidden hb
  clear ha hb
  obtain ⟨m, hm⟩ : ∃ m, l.length = m := ⟨_, rfl⟩
  rw [hm] at hl HA HB ⊢
  clear hm
  go_enter Tryd.func15, Tryd.ntmps15
  go_wp2
  go_loopw [5] (fun i wr => ∃ k : Nat, k ≤ m ∧ i = .int .i64 (k : Nat) ∧ ∃ q, wr = w.drewN q) (fun i _ => m - (intOf i).toNat)
  case atStart => exact ⟨0, Nat.zero_le _, rfl, 0, rfl⟩
  case round =>
    obtain ⟨k, hk, rfl, q, rfl⟩ := hrel
    by_cases hlt : k < m
    · obtain ⟨ga, rfl, hca, ra⟩ := HA.out (by omega)
      obtain ⟨gb, rfl, hcb, rb⟩ := HB.out (by omega)
      obtain ⟨a1, a2⟩ := ra k hlt
      obtain ⟨b1, b2⟩ := rb k hlt
      have hlz : (k : Int) < (m : Int) := by omega
      clear ra rb
      generalize (l.getD k (0, 0)).1 = x at *
      generalize (l.getD k (0, 0)).2 = y at *
      go_wp2_with fail
      go_quiet (fail)
      go_wp2
      go_roundw
      case rel => exact ⟨k + 1, by omega, by go_num, _, rfl⟩
      case measure => simp [intOf]; omega
    · have hlz : ¬ ((k : Int) < (m : Int)) := by omega
      go_wp2
      go_ret
      exact ⟨rfl, below_dN (Below.refl _ _) q⟩

theorem getD_eq {l : List (Nat × Nat)} {i : Nat} (h : i < l.length) : l.getD i (0, 0) = l[i] := by
  rw [List.getD_eq_getElem?_getD, List.getElem?_eq_getElem h]; rfl
theorem take_filter {f : Nat → Nat} {l : List (Nat × Nat)} {k : Nat} (h : k < l.length) :
    (l.take (k + 1)).filter (fun p => sld (f p.1)) = (l.take k).filter (fun p => sld (f p.1)) ++ (if sld (f (l.getD k (0, 0)).1) then [l.getD k (0, 0)] else []) := by
  rw [getD_eq h, List.take_succ_eq_append_getElem h, List.filter_append]
  congr 1
  by_cases c : sld (f l[k].1) = true
  · simp [c]
  · simp [c]

set_option maxHeartbeats 2000000 in
theorem rwords_any (v : Value) (n : Nat) (f : Nat → Nat) (w : World) (hf : ∀ j, f j < 256) (hn : n ≤ 100000) (h : Row w v n f) :
    Calls Tryd.prog 30 #[v] w fun e w' => ∃ l, e = .returned l ∧ IsSp w' l (wds f n) ∧ Below w.heap.size w w' := by
  obtain ⟨i0, hi, hz0, hz1, hz2⟩ := info_parts info29
  have HR := hidden h
  have cr := rruns_any v n f w hf hn h
  obtain ⟨a, cap, rfl, _⟩ := h
  have hgood : Hid (∀ k, k < (rns f n n).length → ((rns f n n).getD k (0, 0)).1 < n ∧ ((rns f n n).getD k (0, 0)).2 ≤ n) := fun k hk => by
    have := (chain_ge (runs_chain f n) _ (List.getElem_mem hk)).2
    rw [getD_eq hk]
    have h1 := this.1; have h2 := this.2.1
    omega
  have hml := rns_len_le f n n
  have Hwd : Hid (wds f n = (rns f n n).filter fun p => sld (f p.1)) := rfl
  generalize wds f n = W at *
  generalize rns f n n = R at *
  obtain ⟨m, hm⟩ : ∃ m, R.length = m := ⟨_, rfl⟩
  have HL := hidden hm
  go_enter Tryd.func30, Tryd.ntmps30
  go_wp2_with fail
  refine cr.mono ?_
  rintro e w0 ⟨rv, rfl, ⟨ra, rcap, rfl, hrow⟩, hb0⟩
  have HR0 := hidden (HR.out.below hb0)
  have Hrow := hidden hrow
  have Hb0 := hidden hb0
  rw [hm] at hml Hrow hgood ⊢
  clear cr hb0 hrow hm
  go_wp2
  go_loopw [3, 5] (fun v i wr => ∃ k : Nat, k ≤ m ∧ i = .int .i64 (k : Nat) ∧ wr.ownsRow w0.heap.size 29 2 v ((R.take k).filter fun p => sld (f p.1)).length (rowS ((R.take k).filter fun p => sld (f p.1))) ∧ Below w0.heap.size w0 wr) (fun _ i _ => m - (intOf i).toNat)
  case atStart => exact ⟨0, Nat.zero_le _, rfl, World.ownsRow_nil _ _ _ _, Below.refl _ _⟩
  case round =>
    obtain ⟨k, hk, rfl, hown, hnx⟩ := hrel
    by_cases hlt : k < m
    · obtain ⟨g, rfl, hrc, hcells⟩ := Hrow.out (by omega)
      obtain ⟨c1, c2⟩ := hcells k hlt
      have hbr := hnx.cell (p := ⟨g, k * 2, none⟩) (World.block_lt_of_cell? _ _ c1)
      have hbr2 := hnx.cell (p := ⟨g, k * 2 + 1, none⟩) (World.block_lt_of_cell? _ _ c2)
      rw [← hbr] at c1
      rw [← hbr2] at c2
      obtain ⟨hx, hy⟩ := hgood.out k hlt
      obtain ⟨a', cap', hv, hrr⟩ := HR0.out.below hnx
      injection hv with hv1 hv2 hv3
      subst hv1
      subst hv3
      obtain ⟨b, off, rfl, hcap, hc⟩ := hrr (by omega)
      have g0 := hc (R.getD k (0, 0)).1 hx
      have x0 := hf (R.getD k (0, 0)).1
      have cc := rclass_any (f (R.getD k (0, 0)).1) wr x0
      have hlz : (k : Int) < (m : Int) := by omega
      have htf := take_filter (f := f) (l := R) (k := k) (by rw [HL.out]; exact hlt)
      have hfl : ((R.take k).filter fun p => sld (f p.1)).length ≤ 100000 := by
        have := List.length_filter_le (fun p : Nat × Nat => sld (f p.1)) (R.take k)
        have h2 := List.length_take_le k R
        omega
      have hxz : (((R.getD k (0, 0)).1 : Nat) : Int) < (n : Int) := by omega
      clear hc hrr hv2 hcells hbr hbr2
      cases hs : sld (f (R.getD k (0, 0)).1) with
      | true =>
        rw [hs, if_pos rfl] at htf
        have hge : (2 : Int) ≤ ((cls (f (R.getD k (0, 0)).1) : Nat) : Int) := by have := sld_iff.1 hs; omega
        have Hr : Hid (rowS ((R.take (k + 1)).filter fun p => sld (f p.1)) = rowS ((R.take k).filter fun p => sld (f p.1)) ++ [.int .i64 ((R.getD k (0, 0)).1 : Nat), .int .i64 ((R.getD k (0, 0)).2 : Nat)] ∧ ((R.take (k + 1)).filter fun p => sld (f p.1)).length = ((R.take k).filter fun p => sld (f p.1)).length + 1) := by
          unfold Hid; rw [htf, rowS_app, rowS_one]; exact ⟨rfl, by simp⟩
        have hsz := hnx.size
        have Hnx := hidden hnx
        clear hs htf hnx hgood
        generalize f (R.getD k (0, 0)).1 = z at *
        generalize (R.getD k (0, 0)).1 = x at *
        generalize (R.getD k (0, 0)).2 = y at *
        generalize ((R.take k).filter fun p => sld (f p.1)) = F at *
        go_wp2_with fail
        refine cc.mono ?_
        rintro e w1 ⟨rfl, rfl⟩
        clear cc g0
        go_wp2_with (at_builtin; refine wpList_append_own _ rfl _ _ 26 rfl w0.heap.size 29 i0 (.agg #[.int .i64 0, .int .i64 0]) 2 16 Tryd.underlying26 hi hz0 hz1 hz2 rfl (by decide) _ _ _ rfl (hown.alloc _) ⟨w1.heap.size, 0, none⟩ 1 1 [.int .i64 x, .int .i64 y] rfl rfl ?c1 ?c2 ?c3 ?c4 ?c5 ?_)
        case c1 =>
          intro j u hj
          match j, hj with
          | 0, hj => simp at hj; subst hj; simp [Addr.add]
          | 1, hj => simp at hj; subst hj; simp [Addr.add]
        case c2 =>
          intro u hu
          simp at hu
          rcases hu with rfl | rfl <;> rfl
        case c3 => unfold maxLen; omega
        case c4 => omega
        case c5 => simp; omega
        intro v' w2 hown' hgrow _
        have Hb2 := hidden (below_append2 hsz hown Hnx.out hgrow)
        have Hw2 := hidden hown'
        clear hown' hgrow hown c1 c2
        go_wp2
        go_roundw
        case rel => exact ⟨k + 1, by omega, by go_num, by rw [Hr.out.1, Hr.out.2]; exact Hw2.out, Hb2.out⟩
        case measure => simp [intOf]; omega
      | false =>
        rw [hs, if_neg (by decide), List.append_nil] at htf
        have hge : ¬ ((2 : Int) ≤ ((cls (f (R.getD k (0, 0)).1) : Nat) : Int)) := by have := sld_no.1 hs; omega
        have Hr := hidden htf
        have Hown := hidden hown
        have Hnx := hidden hnx
        clear hs htf hown hnx hgood c2
        generalize f (R.getD k (0, 0)).1 = z at *
        generalize (R.getD k (0, 0)).1 = x at *
        go_wp2_with fail
        refine cc.mono ?_
        rintro e w1 ⟨rfl, rfl⟩
        clear cc g0
        go_wp2
        go_roundw
        case rel => exact ⟨k + 1, by omega, by go_num, by rw [Hr.out]; exact Hown.out, Hnx.out⟩
        case measure => simp [intOf]; omega
    · have hkm : k = m := by omega
      have hlz : ¬ ((k : Int) < (m : Int)) := by omega
      rw [List.take_of_length_le (by rw [HL.out]; omega), ← Hwd.out] at hown
      have Hs := hidden (isSp_of hown)
      have Hnx := hidden (Hb0.out.trans (hnx.mono Hb0.out.size))
      clear hown hnx hkm
      go_wp2
      go_ret
      exact ⟨_, rfl, Hs.out, Hnx.out⟩
end Go.Proofs.PlatenWords
