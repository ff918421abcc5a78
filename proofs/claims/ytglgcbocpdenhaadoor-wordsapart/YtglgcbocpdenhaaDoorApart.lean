/- WordsApart is true of any two texts: with a line end between they have both their runs (but where a line end stands beside it), and both their pieces without blanks. No condition but the card's own: Go's two tables of unicode/utf8 hold what the library's text lays. -/
import Derived.Test.YtglgcbocpdenhaaDoorArgs
import Derived.Test.YtglgcbocpdenhaaDoorWdJ
import Derived.Test.YtglgcbocpdenhaaDoorCards
import Derived.Test.YtglgcbocpdenhaaDoorTie
namespace Go.Proofs.YtglgcbocpdenhaaDoor.Apart
open Go.ChangeShapes Go.WideShapes Go.ChangeAt Go.ChangeMaps Go.RowKit Go.Proofs.PlatenGlyph Go.Proofs.PlatenWords
set_option linter.unusedVariables false

theorem open_src {H : Type} {enc : TypeId × Value → H} {W : World} {base : Nat} {v : Value} {d : DataW H} {p : List MemPlace} (hv : Value.okWide Tryd.prog W .any base 25 v)
    (h : DataW.Trod enc Tryd.prog W 0 (fun _ => true) true 25 v d p) : ∃ n f, IsArg W v n f ∧ PlatenWords.Src W v n f := by
  obtain ⟨n, f, g⟩ := open_bytes hv h
  refine ⟨n, f, g, ?_⟩
  rcases g.2.2 with ⟨a, cap, rfl, rfl⟩ | ⟨b, off, cap, rfl, _, hc⟩
  · cases a with
    | none =>
      obtain ⟨fuel, hf⟩ := h
      rcases open_ints Tryd.underlying25 Tryd.underlying5 c5 hf with ⟨hcs, _⟩ | ⟨x, l, c, zs, hcs, _, _, _, _, _, _, _⟩
      · simp [Value.cells] at hcs
        subst hcs
        exact Or.inl ⟨rfl, rfl⟩
      · simp [Value.cells] at hcs
    | some x => exact src_empty x cap f
  · exact src_row hc

set_option maxHeartbeats 400000 in
theorem long (v v' : Value) (n m : Nat) (f g : Nat → Nat) (w : World) (hv : IsArg w v n f) (hv' : IsArg w v' m g) (hn : 150 < n ∨ (¬ 150 < n ∧ 150 < m)) (hT : Lib.Utf8Tabs 0 1 w) :
    Calls Tryd.prog 10 #[v, v'] w fun e w' => e = .returned (.bool true) ∧ Below w.heap.size w w' := by
  have cs := ex_any w hT
  have HT := hidden hT
  obtain ⟨ea, cap, rfl⟩ := hv.val
  obtain ⟨ea', cap', rfl⟩ := hv'.val
  clear hT hv hv'
  rcases hn with hn | ⟨hn, hm⟩
  · have hnz : 150 < (n : Int) := by omega
    go_enter Tryd.func10, Tryd.ntmps10
    go_wp2_with fail
    refine cs.mono ?_
    rintro e w1 ⟨rfl, hb⟩
    have cs2 := ex_any w1 (tabs_below HT.out hb)
    go_wp2_with fail
    refine cs2.mono ?_
    rintro e w2 ⟨rfl, hb2⟩
    go_wp2
    go_ret
    exact ⟨rfl, hb.trans (hb2.mono hb.size)⟩
  · have hnz : ¬ (150 < (n : Int)) := by omega
    have hmz : 150 < (m : Int) := by omega
    go_enter Tryd.func10, Tryd.ntmps10
    go_wp2_with fail
    refine cs.mono ?_
    rintro e w1 ⟨rfl, hb⟩
    have cs2 := ex_any w1 (tabs_below HT.out hb)
    go_wp2_with fail
    refine cs2.mono ?_
    rintro e w2 ⟨rfl, hb2⟩
    go_wp2
    go_ret
    exact ⟨rfl, hb.trans (hb2.mono hb.size)⟩

theorem src_ten {w : World} : PlatenWords.Src (w.alloc (.cells #[.int .u8 10] 5)) (.slice (some ⟨w.heap.size, 0, none⟩) 1 1) 1 (fun _ => 10) := by
  refine src_row (b := w.heap.size) (off := 0) fun j hj => ?_
  obtain rfl : j = 0 := by omega
  simp
set_option maxRecDepth 20000 in
set_option maxHeartbeats 16000000 in
theorem short (v v' : Value) (n m : Nat) (f g : Nat → Nat) (w : World) (hv : IsArg w v n f) (hv' : IsArg w v' m g) (hs : PlatenWords.Src w v n f) (hs' : PlatenWords.Src w v' m g) (hn : n ≤ 150) (hm : m ≤ 150) (hT : Lib.Utf8Tabs 0 1 w) :
    Calls Tryd.prog 10 #[v, v'] w fun e w' => e = .returned (.bool true) ∧ Below w.heap.size w w' := by
  have cs := ex_any w hT
  have hnz : ¬ (150 < (n : Int)) := by omega
  have hmz : ¬ (150 < (m : Int)) := by omega
  have hf := hv.1
  have hg := hv'.1
  have HV := hidden (Row.of (hv.bytes (by omega)))
  have HV' := hidden (Row.of (hv'.bytes (by omega)))
  have HS := hidden hs
  have HS' := hidden hs'
  have Htwo := hidden (cb_two f g n m)
  have bX := cb_le f n
  have bY := cb_le g m
  have bT := cb_le (two f g n) (n + 1 + m)
  have HlenS := hidden ((sol_count (two f g n) (n + 1 + m)).trans (cs_r f g n m))
  have bS1 := sol_len f n
  have bS2 := sol_len g m
  have HlenR := hidden (runs_count (two f g n) (n + 1 + m))
  have HsA : Hid (∀ w2 x, Row w2 x n f → Calls Tryd.prog 17 #[x] w2 fun e w' => ∃ l, e = .returned l ∧ IsSp w' l (sol f n) ∧ Below w2.heap.size w2 w') := fun w2 x h => solid_any x n f w2 hf (by omega) h
  have HsB : Hid (∀ w2 x, Row w2 x m g → Calls Tryd.prog 17 #[x] w2 fun e w' => ∃ l, e = .returned l ∧ IsSp w' l (sol g m) ∧ Below w2.heap.size w2 w') := fun w2 x h => solid_any x m g w2 hg (by omega) h
  have HrA : Hid (∀ w2 x, Row w2 x n f → Calls Tryd.prog 14 #[x] w2 fun e w' => ∃ l, e = .returned l ∧ IsSp w' l (rns f n n) ∧ Below w2.heap.size w2 w') := fun w2 x h => runs_any x n f w2 hf (by omega) h
  have HrB : Hid (∀ w2 x, Row w2 x m g → Calls Tryd.prog 14 #[x] w2 fun e w' => ∃ l, e = .returned l ∧ IsSp w' l (rns g m m) ∧ Below w2.heap.size w2 w') := fun w2 x h => runs_any x m g w2 hg (by omega) h
  have HSolid : Hid (∀ w2 x, Row w2 x (n + 1 + m) (two f g n) → Calls Tryd.prog 17 #[x] w2 fun e w' => ∃ l, e = .returned l ∧ IsSp w' l (sol (two f g n) (n + 1 + m)) ∧ Below w2.heap.size w2 w') := fun w2 x h => solid_any x _ _ w2 (two_lt hf hg n) (by omega) h
  have HRuns0 : Hid (∀ w2 x, Row w2 x (n + 1 + m) (two f g n) → Calls Tryd.prog 14 #[x] w2 fun e w' => ∃ l, e = .returned l ∧ IsSp w' l (rns (two f g n) (n + 1 + m) (n + 1 + m)) ∧ Below w2.heap.size w2 w') := fun w2 x h => runs_any x _ _ w2 (two_lt hf hg n) (by omega) h
  have HRR0 : Hid (∀ w2 x, Row w2 x (n + 1 + m) (two f g n) → Calls Tryd.prog 16 #[x] w2 fun e w' => ∃ l, e = .returned l ∧ IsSp w' l (rns (two f g n) (n + 1 + m) (n + 1 + m)) ∧ Below w2.heap.size w2 w') := fun w2 x h => rruns_any x _ _ w2 (two_lt hf hg n) (by omega) h
  have HcA := hidden (sol_count f n)
  have HcB := hidden (sol_count g m)
  have HrcA := hidden (runs_count f n)
  have HrcB := hidden (runs_count g m)
  have HRow := hidden (two_row f g n m)
  rw [List.nil_append] at HRow
  obtain ⟨ea, ecap, rfl⟩ := hv.val
  obtain ⟨ea', ecap', rfl⟩ := hv'.val
  clear hT hv hv' hs hs' hf hg
  go_enter Tryd.func10, Tryd.ntmps10
  go_wp2_with fail
  refine cs.mono ?_
  rintro e w1 ⟨rfl, b1⟩
  have B1 := hidden b1
  have nil0 : w1.ownsRow w1.heap.size 5 1 (.slice none 0 0) 0 [] := World.ownsRow_nil _ _ _ _
  have s1 := HS.out.below b1
  clear cs b1
  go_wp2_with (at_builtin; refine append_src rfl _ _ rfl w1.heap.size _ 0 [] rfl nil0 _ n f rfl s1 (by omega) (by omega) (Nat.le_refl _) ?_)
  intro x1 w2 own1 gr1
  have bb1 := below_append' (Nat.le_refl _) nil0 (Below.refl _ _) gr1
  have Hbb1 := hidden bb1
  have sz1 := bb1.size
  have s2 := src_ten (w := w2)
  have own1' := own1.alloc (.cells #[.int .u8 10] 5)
  have sz1' : w1.heap.size ≤ (w2.alloc (.cells #[.int .u8 10] 5)).heap.size := by simp; omega
  clear gr1 nil0 s1 bb1
  go_wp2_with (at_builtin; refine append_src rfl _ _ rfl w1.heap.size _ n _ rfl own1' _ 1 (fun _ => 10) rfl s2 (by omega) (by omega) sz1' ?_)
  intro x2 w3 own2 gr2
  have bb2 := below_append' sz1' own1' (Hbb1.out.alloc sz1 _) gr2
  have Hbb2 := hidden bb2
  have sz2 := bb2.size
  have s3 := (HS'.out.below B1.out).below bb2
  clear gr2 bb2 own1 own1' s2 sz1'
  go_wp2_with (at_builtin; refine append_src rfl _ _ rfl w1.heap.size _ (n + 1) _ rfl own2 _ m g rfl s3 (by omega) (by omega) sz2 ?_)
  intro x3 w4 own3 gr3
  have bb3 := below_append' sz2 own2 Hbb2.out gr3
  have B4 := hidden (B1.out.trans (bb3.mono B1.out.size))
  have HX4 := hidden (row_own own3 (by simpa only [List.append_assoc] using HRow.out))
  have k1 := HsA.out w4 _ (HV.out.below B4.out)
  clear gr3 bb3 own2 own3 s3 HRow HS HS' Hbb1 Hbb2 sz1 sz2 B1
  go_wp2_with fail
  refine k1.mono ?_
  rintro e w5 ⟨l5, rfl, ⟨a5, c5, rfl, -⟩, b5⟩
  have B5 := hidden (B4.out.trans (b5.mono B4.out.size))
  have HX5 := hidden (HX4.out.below b5)
  have k2 := HsB.out w5 _ (HV'.out.below B5.out)
  clear k1 b5
  go_wp2_with fail
  refine k2.mono ?_
  rintro e w6 ⟨l6, rfl, ⟨a6, c6, rfl, -⟩, b6⟩
  have B6 := hidden (B5.out.trans (b6.mono B5.out.size))
  have HX6 := hidden (HX5.out.below b6)
  have k3 := HrA.out w6 _ (HV.out.below B6.out)
  clear k2 b6
  go_wp2_with fail
  refine k3.mono ?_
  rintro e w7 ⟨l7, rfl, ⟨a7, c7, rfl, -⟩, b7⟩
  have B7 := hidden (B6.out.trans (b7.mono B6.out.size))
  have HX7 := hidden (HX6.out.below b7)
  have k4 := HrB.out w7 _ (HV'.out.below B7.out)
  clear k3 b7
  go_wp2_with fail
  refine k4.mono ?_
  rintro e w8 ⟨l8, rfl, ⟨a8, c8, rfl, -⟩, b8⟩
  have B8 := hidden (B7.out.trans (b8.mono B7.out.size))
  have HX := hidden (HX7.out.below b8)
  have k1 := HSolid.out w8 x3 HX.out
  have HRuns : Hid (∀ w2, Row w2 x3 (n + 1 + m) (two f g n) → Calls Tryd.prog 14 #[x3] w2 fun e w' => ∃ l, e = .returned l ∧ IsSp w' l (rns (two f g n) (n + 1 + m) (n + 1 + m)) ∧ Below w2.heap.size w2 w') := fun w2 h => HRuns0.out w2 x3 h
  have HRR : Hid (∀ w2, Row w2 x3 (n + 1 + m) (two f g n) → Calls Tryd.prog 16 #[x3] w2 fun e w' => ∃ l, e = .returned l ∧ IsSp w' l (rns (two f g n) (n + 1 + m) (n + 1 + m)) ∧ Below w2.heap.size w2 w') := fun w2 h => HRR0.out w2 x3 h
  clear k4 b8 HSolid HRuns0 HRR0 HsA HsB HrA HrB HX4 HX5 HX6 HX7
  have P1 := last_of (HV.out.below B8.out)
  have P2 := first_of (HV'.out.below B8.out)
  have e1 : (sol f n).length = cs f n := HcA.out
  have e2 : (sol g m).length = cs g m := HcB.out
  have e3 : (rns f n n).length = cb f n := HrcA.out
  have e4 : (rns g m m).length = cb g m := HrcB.out
  rw [e1, e2, e3, e4]
  rw [e1] at bS1
  rw [e2] at bS2
  have key := Htwo.out
  clear e1 e2 e3 e4 HcA HcB HrcA HrcB Htwo
  clear HV HV'
  generalize rns (two f g n) (n + 1 + m) (n + 1 + m) = R at *
  generalize sol (two f g n) (n + 1 + m) = S at *
  generalize cb (two f g n) (n + 1 + m) = C at *
  generalize two f g n = F at *
  generalize cs f n = q1 at *
  generalize cs g m = q2 at *
  generalize cb f n = X at *
  generalize cb g m = Y at *
  generalize dl f n = d1 at *
  generalize dr g m = d2 at *
  rcases P1 with ⟨p0, rfl⟩ | ⟨b, off, k, y, rfl, p0, p1, p2, p3, ⟨rfl, rfl⟩ | ⟨p4, rfl⟩⟩
  · rcases P2 with ⟨q0', rfl⟩ | ⟨b', off', y', rfl, q0', q3, ⟨rfl, rfl⟩ | ⟨q4, rfl⟩⟩
    ·   go_wp2_with fail
        refine k1.mono ?_
        rintro e wa ⟨ta, rfl, ⟨saa, sac, rfl, -⟩, ba⟩
        have BA := hidden (B8.out.trans (ba.mono B8.out.size))
        have k2 := HRuns.out wa (HX.out.below ba)
        have HXa := hidden (HX.out.below ba)
        clear k1 ba
        rw [HlenS.out]
        go_wp2_with fail
        refine k2.mono ?_
        rintro e wb ⟨tb, rfl, ⟨sba, sbc, rfl, -⟩, bb⟩
        have BB := hidden (BA.out.trans (bb.mono BA.out.size))
        have HXb := hidden (HXa.out.below bb)
        have k3 := HRuns.out wb HXb.out
        clear k2 bb
        rw [HlenR.out]
        go_wp2_with fail
        refine k3.mono ?_
        rintro e wc ⟨tc, rfl, hspc, bc⟩
        have BC := hidden (BB.out.trans (bc.mono BB.out.size))
        have k4 := HRR.out wc (HXb.out.below bc)
        have HSc := hidden hspc
        clear k3 bc hspc
        go_wp2_with fail
        refine k4.mono ?_
        rintro e wd ⟨td, rfl, hspd, bd⟩
        have BD := hidden (BC.out.trans (bd.mono BC.out.size))
        have k5 := same_any _ _ R wd (by rw [HlenR.out]; omega) (HSc.out.below bd) hspd
        clear k4 bd hspd
        go_wp2_with fail
        refine k5.mono ?_
        rintro e we ⟨rfl, be⟩
        have BE := hidden (BD.out.trans (be.mono BD.out.size))
        clear k5 be
        go_wp2
        go_ret
        exact ⟨rfl, BE.out⟩
    ·   go_wp2_with fail
        refine k1.mono ?_
        rintro e wa ⟨ta, rfl, ⟨saa, sac, rfl, -⟩, ba⟩
        have BA := hidden (B8.out.trans (ba.mono B8.out.size))
        have k2 := HRuns.out wa (HX.out.below ba)
        have HXa := hidden (HX.out.below ba)
        clear k1 ba
        rw [HlenS.out]
        go_wp2_with fail
        refine k2.mono ?_
        rintro e wb ⟨tb, rfl, ⟨sba, sbc, rfl, -⟩, bb⟩
        have BB := hidden (BA.out.trans (bb.mono BA.out.size))
        have HXb := hidden (HXa.out.below bb)
        have k3 := HRuns.out wb HXb.out
        clear k2 bb
        rw [HlenR.out]
        go_wp2_with fail
        refine k3.mono ?_
        rintro e wc ⟨tc, rfl, hspc, bc⟩
        have BC := hidden (BB.out.trans (bc.mono BB.out.size))
        have k4 := HRR.out wc (HXb.out.below bc)
        have HSc := hidden hspc
        clear k3 bc hspc
        go_wp2_with fail
        refine k4.mono ?_
        rintro e wd ⟨td, rfl, hspd, bd⟩
        have BD := hidden (BC.out.trans (bd.mono BC.out.size))
        have k5 := same_any _ _ R wd (by rw [HlenR.out]; omega) (HSc.out.below bd) hspd
        clear k4 bd hspd
        go_wp2_with fail
        refine k5.mono ?_
        rintro e we ⟨rfl, be⟩
        have BE := hidden (BD.out.trans (be.mono BD.out.size))
        clear k5 be
        go_wp2
        go_ret
        exact ⟨rfl, BE.out⟩
    ·   go_wp2_with fail
        refine k1.mono ?_
        rintro e wa ⟨ta, rfl, ⟨saa, sac, rfl, -⟩, ba⟩
        have BA := hidden (B8.out.trans (ba.mono B8.out.size))
        have k2 := HRuns.out wa (HX.out.below ba)
        have HXa := hidden (HX.out.below ba)
        clear k1 ba
        rw [HlenS.out]
        go_wp2_with fail
        refine k2.mono ?_
        rintro e wb ⟨tb, rfl, ⟨sba, sbc, rfl, -⟩, bb⟩
        have BB := hidden (BA.out.trans (bb.mono BA.out.size))
        have HXb := hidden (HXa.out.below bb)
        have k3 := HRuns.out wb HXb.out
        clear k2 bb
        rw [HlenR.out]
        go_wp2_with fail
        refine k3.mono ?_
        rintro e wc ⟨tc, rfl, hspc, bc⟩
        have BC := hidden (BB.out.trans (bc.mono BB.out.size))
        have k4 := HRR.out wc (HXb.out.below bc)
        have HSc := hidden hspc
        clear k3 bc hspc
        go_wp2_with fail
        refine k4.mono ?_
        rintro e wd ⟨td, rfl, hspd, bd⟩
        have BD := hidden (BC.out.trans (bd.mono BC.out.size))
        have k5 := same_any _ _ R wd (by rw [HlenR.out]; omega) (HSc.out.below bd) hspd
        clear k4 bd hspd
        go_wp2_with fail
        refine k5.mono ?_
        rintro e we ⟨rfl, be⟩
        have BE := hidden (BD.out.trans (be.mono BD.out.size))
        clear k5 be
        go_wp2
        go_ret
        exact ⟨rfl, BE.out⟩
  · rcases P2 with ⟨q0', rfl⟩ | ⟨b', off', y', rfl, q0', q3, ⟨rfl, rfl⟩ | ⟨q4, rfl⟩⟩
    ·   go_wp2_with fail
        refine k1.mono ?_
        rintro e wa ⟨ta, rfl, ⟨saa, sac, rfl, -⟩, ba⟩
        have BA := hidden (B8.out.trans (ba.mono B8.out.size))
        have k2 := HRuns.out wa (HX.out.below ba)
        have HXa := hidden (HX.out.below ba)
        clear k1 ba
        rw [HlenS.out]
        go_wp2_with fail
        refine k2.mono ?_
        rintro e wb ⟨tb, rfl, ⟨sba, sbc, rfl, -⟩, bb⟩
        have BB := hidden (BA.out.trans (bb.mono BA.out.size))
        have HXb := hidden (HXa.out.below bb)
        have k3 := HRuns.out wb HXb.out
        clear k2 bb
        rw [HlenR.out]
        go_wp2_with fail
        refine k3.mono ?_
        rintro e wc ⟨tc, rfl, hspc, bc⟩
        have BC := hidden (BB.out.trans (bc.mono BB.out.size))
        have k4 := HRR.out wc (HXb.out.below bc)
        have HSc := hidden hspc
        clear k3 bc hspc
        go_wp2_with fail
        refine k4.mono ?_
        rintro e wd ⟨td, rfl, hspd, bd⟩
        have BD := hidden (BC.out.trans (bd.mono BC.out.size))
        have k5 := same_any _ _ R wd (by rw [HlenR.out]; omega) (HSc.out.below bd) hspd
        clear k4 bd hspd
        go_wp2_with fail
        refine k5.mono ?_
        rintro e we ⟨rfl, be⟩
        have BE := hidden (BD.out.trans (be.mono BD.out.size))
        clear k5 be
        go_wp2
        go_ret
        exact ⟨rfl, BE.out⟩
    ·   go_wp2_with fail
        refine k1.mono ?_
        rintro e wa ⟨ta, rfl, ⟨saa, sac, rfl, -⟩, ba⟩
        have BA := hidden (B8.out.trans (ba.mono B8.out.size))
        have k2 := HRuns.out wa (HX.out.below ba)
        have HXa := hidden (HX.out.below ba)
        clear k1 ba
        rw [HlenS.out]
        go_wp2_with fail
        refine k2.mono ?_
        rintro e wb ⟨tb, rfl, ⟨sba, sbc, rfl, -⟩, bb⟩
        have BB := hidden (BA.out.trans (bb.mono BA.out.size))
        have HXb := hidden (HXa.out.below bb)
        have k3 := HRuns.out wb HXb.out
        clear k2 bb
        rw [HlenR.out]
        go_wp2_with fail
        refine k3.mono ?_
        rintro e wc ⟨tc, rfl, hspc, bc⟩
        have BC := hidden (BB.out.trans (bc.mono BB.out.size))
        have k4 := HRR.out wc (HXb.out.below bc)
        have HSc := hidden hspc
        clear k3 bc hspc
        go_wp2_with fail
        refine k4.mono ?_
        rintro e wd ⟨td, rfl, hspd, bd⟩
        have BD := hidden (BC.out.trans (bd.mono BC.out.size))
        have k5 := same_any _ _ R wd (by rw [HlenR.out]; omega) (HSc.out.below bd) hspd
        clear k4 bd hspd
        go_wp2_with fail
        refine k5.mono ?_
        rintro e we ⟨rfl, be⟩
        have BE := hidden (BD.out.trans (be.mono BD.out.size))
        clear k5 be
        go_wp2
        go_ret
        exact ⟨rfl, BE.out⟩
    ·   go_wp2_with fail
        refine k1.mono ?_
        rintro e wa ⟨ta, rfl, ⟨saa, sac, rfl, -⟩, ba⟩
        have BA := hidden (B8.out.trans (ba.mono B8.out.size))
        have k2 := HRuns.out wa (HX.out.below ba)
        have HXa := hidden (HX.out.below ba)
        clear k1 ba
        rw [HlenS.out]
        go_wp2_with fail
        refine k2.mono ?_
        rintro e wb ⟨tb, rfl, ⟨sba, sbc, rfl, -⟩, bb⟩
        have BB := hidden (BA.out.trans (bb.mono BA.out.size))
        have HXb := hidden (HXa.out.below bb)
        have k3 := HRuns.out wb HXb.out
        clear k2 bb
        rw [HlenR.out]
        go_wp2_with fail
        refine k3.mono ?_
        rintro e wc ⟨tc, rfl, hspc, bc⟩
        have BC := hidden (BB.out.trans (bc.mono BB.out.size))
        have k4 := HRR.out wc (HXb.out.below bc)
        have HSc := hidden hspc
        clear k3 bc hspc
        go_wp2_with fail
        refine k4.mono ?_
        rintro e wd ⟨td, rfl, hspd, bd⟩
        have BD := hidden (BC.out.trans (bd.mono BC.out.size))
        have k5 := same_any _ _ R wd (by rw [HlenR.out]; omega) (HSc.out.below bd) hspd
        clear k4 bd hspd
        go_wp2_with fail
        refine k5.mono ?_
        rintro e we ⟨rfl, be⟩
        have BE := hidden (BD.out.trans (be.mono BD.out.size))
        clear k5 be
        go_wp2
        go_ret
        exact ⟨rfl, BE.out⟩
  · rcases P2 with ⟨q0', rfl⟩ | ⟨b', off', y', rfl, q0', q3, ⟨rfl, rfl⟩ | ⟨q4, rfl⟩⟩
    ·   go_wp2_with fail
        refine k1.mono ?_
        rintro e wa ⟨ta, rfl, ⟨saa, sac, rfl, -⟩, ba⟩
        have BA := hidden (B8.out.trans (ba.mono B8.out.size))
        have k2 := HRuns.out wa (HX.out.below ba)
        have HXa := hidden (HX.out.below ba)
        clear k1 ba
        rw [HlenS.out]
        go_wp2_with fail
        refine k2.mono ?_
        rintro e wb ⟨tb, rfl, ⟨sba, sbc, rfl, -⟩, bb⟩
        have BB := hidden (BA.out.trans (bb.mono BA.out.size))
        have HXb := hidden (HXa.out.below bb)
        have k3 := HRuns.out wb HXb.out
        clear k2 bb
        rw [HlenR.out]
        go_wp2_with fail
        refine k3.mono ?_
        rintro e wc ⟨tc, rfl, hspc, bc⟩
        have BC := hidden (BB.out.trans (bc.mono BB.out.size))
        have k4 := HRR.out wc (HXb.out.below bc)
        have HSc := hidden hspc
        clear k3 bc hspc
        go_wp2_with fail
        refine k4.mono ?_
        rintro e wd ⟨td, rfl, hspd, bd⟩
        have BD := hidden (BC.out.trans (bd.mono BC.out.size))
        have k5 := same_any _ _ R wd (by rw [HlenR.out]; omega) (HSc.out.below bd) hspd
        clear k4 bd hspd
        go_wp2_with fail
        refine k5.mono ?_
        rintro e we ⟨rfl, be⟩
        have BE := hidden (BD.out.trans (be.mono BD.out.size))
        clear k5 be
        go_wp2
        go_ret
        exact ⟨rfl, BE.out⟩
    ·   go_wp2_with fail
        refine k1.mono ?_
        rintro e wa ⟨ta, rfl, ⟨saa, sac, rfl, -⟩, ba⟩
        have BA := hidden (B8.out.trans (ba.mono B8.out.size))
        have k2 := HRuns.out wa (HX.out.below ba)
        have HXa := hidden (HX.out.below ba)
        clear k1 ba
        rw [HlenS.out]
        go_wp2_with fail
        refine k2.mono ?_
        rintro e wb ⟨tb, rfl, ⟨sba, sbc, rfl, -⟩, bb⟩
        have BB := hidden (BA.out.trans (bb.mono BA.out.size))
        have HXb := hidden (HXa.out.below bb)
        have k3 := HRuns.out wb HXb.out
        clear k2 bb
        rw [HlenR.out]
        go_wp2_with fail
        refine k3.mono ?_
        rintro e wc ⟨tc, rfl, hspc, bc⟩
        have BC := hidden (BB.out.trans (bc.mono BB.out.size))
        have k4 := HRR.out wc (HXb.out.below bc)
        have HSc := hidden hspc
        clear k3 bc hspc
        go_wp2_with fail
        refine k4.mono ?_
        rintro e wd ⟨td, rfl, hspd, bd⟩
        have BD := hidden (BC.out.trans (bd.mono BC.out.size))
        have k5 := same_any _ _ R wd (by rw [HlenR.out]; omega) (HSc.out.below bd) hspd
        clear k4 bd hspd
        go_wp2_with fail
        refine k5.mono ?_
        rintro e we ⟨rfl, be⟩
        have BE := hidden (BD.out.trans (be.mono BD.out.size))
        clear k5 be
        go_wp2
        go_ret
        exact ⟨rfl, BE.out⟩
    ·   go_wp2_with fail
        refine k1.mono ?_
        rintro e wa ⟨ta, rfl, ⟨saa, sac, rfl, -⟩, ba⟩
        have BA := hidden (B8.out.trans (ba.mono B8.out.size))
        have k2 := HRuns.out wa (HX.out.below ba)
        have HXa := hidden (HX.out.below ba)
        clear k1 ba
        rw [HlenS.out]
        go_wp2_with fail
        refine k2.mono ?_
        rintro e wb ⟨tb, rfl, ⟨sba, sbc, rfl, -⟩, bb⟩
        have BB := hidden (BA.out.trans (bb.mono BA.out.size))
        have HXb := hidden (HXa.out.below bb)
        have k3 := HRuns.out wb HXb.out
        clear k2 bb
        rw [HlenR.out]
        go_wp2_with fail
        refine k3.mono ?_
        rintro e wc ⟨tc, rfl, hspc, bc⟩
        have BC := hidden (BB.out.trans (bc.mono BB.out.size))
        have k4 := HRR.out wc (HXb.out.below bc)
        have HSc := hidden hspc
        clear k3 bc hspc
        go_wp2_with fail
        refine k4.mono ?_
        rintro e wd ⟨td, rfl, hspd, bd⟩
        have BD := hidden (BC.out.trans (bd.mono BC.out.size))
        have k5 := same_any _ _ R wd (by rw [HlenR.out]; omega) (HSc.out.below bd) hspd
        clear k4 bd hspd
        go_wp2_with fail
        refine k5.mono ?_
        rintro e we ⟨rfl, be⟩
        have BE := hidden (BD.out.trans (be.mono BD.out.size))
        clear k5 be
        go_wp2
        go_ret
        exact ⟨rfl, BE.out⟩

theorem law (v : Value) (n : Nat) (f : Nat → Nat) (v' : Value) (m : Nat) (g : Nat → Nat) (w : World) (h : IsArg w v n f ∧ PlatenWords.Src w v n f) (h' : IsArg w v' m g ∧ PlatenWords.Src w v' m g) (hT : Lib.Utf8Tabs 0 1 w) :
    Calls Tryd.prog 10 #[v, v'] w fun e w' => e = .returned (.bool true) ∧ Below w.heap.size w w' := by
  by_cases hn : 150 < n
  · exact long v v' n m f g w h.1 h'.1 (Or.inl hn) hT
  by_cases hm : 150 < m
  · exact long v v' n m f g w h.1 h'.1 (Or.inr ⟨hn, hm⟩) hT
  exact short v v' n m f g w h.1 h'.1 h.2 h'.2 (by omega) (by omega) hT

set_option maxRecDepth 100000 in
theorem lifted (os : Os) (started : os.Started) (H : Type) (enc : TypeId × Value → H) :
    ReturnsInHanded {} Tryd.checked os 10 .any (fun w args => (Rows.wordsApartSpec.pre enc Tryd.prog Tryd.f10 [] false w args ∧ laidMetH Tryd.prog laid w) ∧ sizedMet enc Tryd.prog Tryd.f10 (OpenSpec.ofChange Rows.wordsApartSpec) false w args)
      (Rows.wordsApartSpec.post enc Tryd.prog Tryd.f10 false true false false) := by
  refine returnsInHanded_of_change_and (C := Tryd.checked) (X := fun w _ => laidMetH Tryd.prog laid w) (fun _ _ _ hh h => h.of_heap hh) own started (by kernel_rfl) Tryd.func10
    (ChangeSpec.witness_shaped (enc := enc) (C := Tryd.checked) (os := os) (X := fun w _ => laidMetH Tryd.prog laid w) false (World.laidAll Tryd.prog os laid) #[.slice none 0 0, .slice none 0 0] 8 (World.laidAll_os _ _ _)
      (World.shaped_of_ZipB (by kernel_rfl) (by kernel_rfl)) (by kernel_rfl) (by kernel_rfl) (by kernel_rfl) (laid_world os _)) ?_
  intro W base args ds gs before hval0 hW _ _ hL _
  have hval : ∀ (j : Nat) t v, Tryd.f10.params[j]? = some t → args[j]? = some v → Value.okWide Tryd.prog W .any base t v := hval0
  have hW' := hW
  obtain ⟨p, q, hA0, hV, rfl, _, _⟩ := hW
  have hA : DataW.TrodAll enc Tryd.prog W 0 (fun _ => true) true Tryd.f10.params.toList args.toList ds p := hA0
  rw [Tryd.params10] at hA hval
  obtain ⟨v0, vs0, d0, ds0, p0, q0, hargs, rfl, rfl, h0, r0⟩ := trodAll_cons hA
  obtain ⟨v1, vs1, d1, ds1, p1, q1, rfl, rfl, rfl, h1, r1⟩ := trodAll_cons r0
  obtain ⟨rfl, rfl, rfl⟩ := trodAll_nil r1
  obtain rfl : args = #[v0, v1] := by cases args; simp_all
  obtain ⟨rfl, rfl⟩ := trodVars_none hV
  have lt0 : ∀ x ∈ p0, x.block < W.heap.size := by obtain ⟨m, hm⟩ := h0; exact DataW.trod_lt m _ _ _ hm
  obtain ⟨n0, f0, g0⟩ := open_src (hval 0 25 v0 rfl rfl) h0
  have lt1 : ∀ x ∈ p1, x.block < W.heap.size := by obtain ⟨m, hm⟩ := h1; exact DataW.trod_lt m _ _ _ hm
  obtain ⟨n1, f1, g1⟩ := open_src (hval 1 25 v1 rfl rfl) h1
  clear hA0 hval0
  simp only [List.append_nil] at hW'
  refine (law v0 n0 f0 v1 n1 f1 W g0 g1 (tabs_of_laid hL)).mono fun e W' ⟨he, bel⟩ => ?_
  subst he
  exact ⟨_, rfl, _, _, _, [], _, [], hW', trodAll_mk1 (shut_bool Tryd.underlying4 _), (trodAll_cons_mk (Below.trod laidOut (by kernel_rfl) (of_decide_eq_true (by kernel_rfl)) h0 bel lt0) (trodAll_cons_mk (Below.trod laidOut (by kernel_rfl) (of_decide_eq_true (by kernel_rfl)) h1 bel lt1) trodAll_mk0)), rfl, bel.frame _, fun h => by cases h⟩

theorem said : Rows.WordsApartSaid :=
  OpenClaim.holds_of_wide 10 Tryd.f10 rfl rfl rfl rfl rfl rfl rfl ⟨rfl, rfl, rfl, rfl, rfl⟩ rfl rfl rfl rfl rfl (by kernel_rfl) Tryd.func10 (by kernel_rfl)
    (of_decide_eq_true (by kernel_rfl)) (by unfold Func.isWrapper; first | (rw [if_pos (by decide +kernel)]; kernel_rfl) | (rw [if_neg (by decide +kernel)]; exact ⟨rfl, rfl⟩))
    (fun os started H enc _ => lifted os started H enc)

theorem plain (f : FuncId) (fn : Func) (hf : Tryd.pinned.checked.prog.funcNamed Tryd.f10.name = some f) (hfn : Tryd.pinned.checked.prog.funcs[f]? = some fn) :
    false = Tryd.pinned.checked.prog.looks [] ∧ ∀ (j : Nat) t, fn.params[j]? = some t → Tryd.pinned.checked.prog.wantsStandIn t = false := by
  obtain rfl : f = 10 := Option.some.inj ((show Tryd.prog.funcNamed Tryd.f10.name = some 10 by kernel_rfl).symm.trans hf) |>.symm
  obtain rfl : fn = Tryd.f10 := (Option.some.inj (Tryd.func10.symm.trans hfn)).symm
  refine ⟨by kernel_rfl, fun j t ht => ?_⟩
  rw [Tryd.params10] at ht
  have hm : t ∈ [25, 25] := by simpa using Array.mem_of_getElem? ht
  have hall : ([25, 25].all fun u => !Tryd.prog.wantsStandIn u) = true := by kernel_rfl
  exact (show Tryd.prog.wantsStandIn t = false from Bool.not_eq_true' _ |>.mp (List.all_eq_true.1 hall t hm))

theorem card : Rows.WordsApartCardSaid :=
  Claim7.holds_tied_plain_at .later [] _ _ _ _ said (fun _ h => by cases h) (by kernel_rfl) (fun _ h => by cases h) wordsApart_row_tie rfl ⟨rfl, rfl⟩ (by kernel_rfl) rfl plain (by kernel_rfl)
#print axioms card
end Go.Proofs.YtglgcbocpdenhaaDoor.Apart
