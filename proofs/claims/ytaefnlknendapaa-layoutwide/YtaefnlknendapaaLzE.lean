/- The document's Lay. -/
import Derived.Test.YtaefnlknendapaaLzC
import Derived.Test.YtaefnlknendapaaLzD
import Derived.Test.YtaefnlknendapaaLyJ
namespace Go.Proofs.PlatenLayout
open Go Go.RowKit Go.Shelf
set_option linter.unusedVariables false
set_option maxRecDepth 100000

def rowH (G : List Gr) : List Value := G.flatMap fun g => [.bool g.flat, .bool g.whole, .int .i64 g.ind]
theorem rowH_app (a b : List Gr) : rowH (a ++ b) = rowH a ++ rowH b := by simp [rowH]
theorem rowH_len (G : List Gr) : (rowH G).length = G.length * 3 := by
  induction G with
  | nil => rfl
  | cons x r ih => show ([_, _, _] ++ rowH r).length = _; rw [List.length_append, ih]; simp only [List.length_cons, List.length_nil]; omega
theorem rowH_last (G : List Gr) (g : Gr) : (rowH (G ++ [g]))[G.length * 3]? = some (.bool g.flat) ∧ (rowH (G ++ [g]))[G.length * 3 + 1]? = some (.bool g.whole) ∧ (rowH (G ++ [g]))[G.length * 3 + 2]? = some (.int .i64 g.ind) := by
  have hl := rowH_len G
  rw [rowH_app]
  refine ⟨?_, ?_, ?_⟩
  · rw [List.getElem?_append_right (by omega), hl, Nat.sub_self]; rfl
  · rw [List.getElem?_append_right (by omega), hl, show G.length * 3 + 1 - G.length * 3 = 1 by omega]; rfl
  · rw [List.getElem?_append_right (by omega), hl, show G.length * 3 + 2 - G.length * 3 = 2 by omega]; rfl
theorem rowH_cut {w : World} {a : Option Addr} {k cap C n : Nat} {O : List Gr} {o : Gr} (hn : n = O.length) (h : w.ownsRow C 64 3 (.slice a k cap) (n + 1) (rowH (O ++ [o]))) : w.ownsRow C 64 3 (.slice a n cap) n (rowH O) := by
  subst hn
  rcases h.2 with ⟨e, h0⟩ | ⟨g, cp, cur, e, hbg, hg, hnc, hcm, hcs, ht⟩
  · simp at h0
  · injection e with e1 e2 e3
    subst e1 e3
    refine ⟨rowH_len O, Or.inr ⟨g, _, cur, rfl, hbg, hg, by omega, hcm, hcs, ?_⟩⟩
    have := congrArg (List.take (O.length * 3)) ht
    rw [List.take_take, rowH_app, List.take_left' (rowH_len O)] at this
    rw [show O.length * 3 = min (O.length * 3) ((O.length + 1) * 3) by omega, this]
/-- The text so far and the groups, in rows of one's own. -/
structure RL (B : Nat) (w0 w : World) (pv gv : Value) (s : Ly) : Prop where
  prow : w.ownsRow B 5 1 pv s.p.length (bc s.p)
  grow : w.ownsRow B 64 3 gv (s.gs.length + 1) (rowH (s.gs.reverse ++ [s.g]))
  bs : B ≤ w.heap.size
  bel : Below B w0 w
theorem RL.grown {B : Nat} {w0 w w' : World} {pv gv : Value} {s : Ly} (h : RL B w0 w pv gv s) (hg : w.grownBy w' none) : RL B w0 w' pv gv s :=
  ⟨row_grown h.prow hg (by simp), row_grown h.grow hg (by simp), Nat.le_trans h.bs hg.size, h.bel.grown hg h.bs (by simp)⟩
/-- Another text. -/
theorem RL.text {B : Nat} {w0 w w' : World} {pv gv v' : Value} {s : Ly} (h : RL B w0 w pv gv s) {p' : List Nat} (col : Int) (hr : w'.ownsRow B 5 1 v' p'.length (bc p')) (hg : w.grownBy w' pv.ownBlock) : RL B w0 w' v' gv { s with p := p', col := col } :=
  ⟨hr, row_grown h.grow hg (fun k hk => row_ne h.grow h.prow (by decide) hk), Nat.le_trans h.bs hg.size, h.bel.grown hg h.bs (fun k e => (h.prow.lt k e).1)⟩
theorem heap_grown {B n : Nat} {w w' : World} {pv : Value} {xs : List Value} (h : w.ownsRow B 5 1 pv n xs) (hg : w.grownBy w' pv.ownBlock) {k : Nat} {x : Array Value} {t : TypeId} (hk : w.heap[k]? = some (.cells x t (0, 0))) (ht : t ≠ 5) : w'.heap[k]? = some (.cells x t (0, 0)) :=
  (hg.block k (Array.getElem?_eq_some_iff.1 hk).1 (fun e => row_head h hk (fun q => ht q.symm) e.symm)).trans hk
/-- What the document's Lay answers. -/
def LayB (w : World) (o : Option (List Nat)) (e : Ending) (w' : World) : Prop :=
  match o with
  | some q => ∃ v B, e = .returned (.tuple #[v, .bool true]) ∧ w.heap.size ≤ B ∧ w'.ownsRow B 5 1 v q.length (bc q)
  | none => e = .returned (.tuple #[.slice none 0 0, .bool false])
theorem layB_none {w w' : World} {o : Option (List Nat)} (h : o = none) : LayB w o (.returned (.tuple #[.slice none 0 0, .bool false])) w' := by rw [h]; rfl
theorem one3' (a b : Bool) (c : Int) : ∀ u ∈ [Value.bool a, Value.bool b, Value.int .i64 c], u.oneCell' = true := by
  intro u hu
  simp at hu
  rcases hu with rfl | rfl | rfl <;> rfl

set_option maxHeartbeats 8000000 in
theorem rlay_any {v : Value} {l : List It} {w : World} (h : IsItems w v l) (ok : OkL l) (wd : Int) (hwd : -4000000000 ≤ wd ∧ wd ≤ 4000000000) :
    Calls Try.prog 16 #[v, .int .i64 wd] w fun e w' => LayB w (lay wd l s0) e w' ∧ Below w.heap.size w w' := by
  obtain ⟨i5, hi5, hz5, hy5, hb5⟩ := info_parts info5
  obtain ⟨i64, hi64, hz64, hy64, hb64⟩ := info_parts info64
  have cs := rsizes_any h ok
  obtain ⟨a, cap, rfl⟩ := h.val
  have hl1 := ok.1
  have HL := hidden h
  have Hok := hidden ok
  obtain ⟨n, hn⟩ : ∃ n, l.length = n := ⟨_, rfl⟩
  rw [hn] at hl1 cs ⊢
  have Hn := hidden hn
  clear h ok hn
  go_enter Try.func16, Try.ntmps16
  go_wp2_with fail
  refine cs.mono ?_
  clear cs
  rintro e w2 ⟨u, rfl, hz2, hb2⟩
  obtain ⟨za, zc, rfl, _⟩ := id hz2
  have HZ2 := hidden hz2
  have HBw := hidden hb2
  rw [szs_len, Hn.out]
  have HR0 : Hid (RL w2.heap.size w2 (w2.alloc (.cells #[.bool false, .bool false, .int .i64 0] 64)) (.slice none 0 0) (.slice (some ⟨w2.heap.size, 0, none⟩) 1 1) s0) := by
    refine ⟨World.ownsRow_nil _ _ _ _, ?_, by simp, (Below.refl _ _).alloc (Nat.le_refl _) _⟩
    refine ⟨rfl, Or.inr ⟨w2.heap.size, 1, _, rfl, Nat.le_refl _, heap_alloc_new _ _, by show 1 ≤ 1; omega, by unfold maxLen; omega, rfl, rfl⟩⟩
  clear hz2 hb2
  go_wp2_with fail
  go_loopw [6, 8, 9, 10] (fun pv gv cv iv wr => ∃ (k : Nat) (s : Ly), k ≤ n ∧ iv = .int .i64 (k : Nat) ∧ cv = .int .i64 s.col ∧ LI k s ∧ s.p.length ≤ most ∧ lay wd (l.drop k) s = lay wd l s0 ∧ RL w2.heap.size w2 wr pv gv s) (fun _ _ _ iv _ => n - (intOf iv).toNat)
  case atStart => exact ⟨0, s0, Nat.zero_le _, rfl, rfl, li_start, Nat.zero_le _, rfl, HR0.out⟩
  case round =>
    obtain ⟨k, s, hk, rfl, rfl, hli, hm, hlay, R⟩ := hrel
    obtain ⟨q, col, ⟨fl, wh, ind⟩, gs⟩ := s
    simp only at hm
    by_cases hlt : k < n
    · have hll : k < l.length := by rw [Hn.out]; exact hlt
      have hm' : q.length ≤ 65536 := hm
      obtain ⟨x, hx⟩ : ∃ x, l[k] = x := ⟨_, rfl⟩
      have hdr : l.drop k = x :: l.drop (k + 1) := by rw [← hx]; exact List.drop_eq_getElem_cons hll
      have hox : OkIt x := Hok.out.2 x (by rw [← hx]; exact List.getElem_mem hll)
      have hszb := Hok.out.size k
      have HL2 : Hid (lay wd l s0 = if most < (stepL wd ⟨q, col, ⟨fl, wh, ind⟩, gs⟩ x (l.drop (k + 1))).p.length then none else lay wd (l.drop (k + 1)) (stepL wd ⟨q, col, ⟨fl, wh, ind⟩, gs⟩ x (l.drop (k + 1)))) := by
        unfold Hid
        rw [← hlay, hdr]
        rfl
      have Hst : Hid ((stepL wd ⟨q, col, ⟨fl, wh, ind⟩, gs⟩ x (l.drop (k + 1))).p.length ≤ most → LI (k + 1) (stepL wd ⟨q, col, ⟨fl, wh, ind⟩, gs⟩ x (l.drop (k + 1)))) := fun q => li_step hli hox hm q
      have hc0 := hli.c0
      have hcp := hli.cp
      have hind := hli.ind ⟨fl, wh, ind⟩ (by simp)
      have hgn := hli.gn
      simp only at hc0 hcp hind hgn
      have hkn : (k : Int) ≤ 1000 := by omega
      have hi1 : -1100000000 ≤ ind ∧ ind ≤ 1100000000 := by omega
      have hoff := hox.off
      have hxn := hox.n
      have hxl := hox.len
      have Hm := hidden hm
      have HOX := hidden hox
      obtain ⟨sz, hsz⟩ : ∃ sz, size (l.drop k) = sz := ⟨_, rfl⟩
      have HSZ0 := hidden hsz
      have HSZ : Hid (size (x :: l.drop (k + 1)) = sz) := by unfold Hid; rw [← hdr]; exact hsz
      rw [hsz] at hszb
      have hlz : (k : Int) < (n : Int) := by omega
      -- the groups' row
      obtain ⟨ga, gc, hgv⟩ := row_slice R.grow
      simp only at hgv
      subst hgv
      obtain ⟨gb, hgb⟩ : ∃ gb, ga = some ⟨gb, 0, none⟩ := by
        rcases R.grow.2 with ⟨e, h0⟩ | ⟨gb, cp, cur, e, _⟩
        · simp at h0
        · injection e with e1
          exact ⟨gb, e1⟩
      subst hgb
      obtain ⟨r0, r1, r2⟩ := rowH_last gs.reverse ⟨fl, wh, ind⟩
      rw [List.length_reverse] at r0 r1 r2
      have g0 : wr.cell? ⟨gb, gs.length * 3, none⟩ = some (.bool fl) := by rw [R.grow.cellAt _ (by show _ < (gs.length + 1) * 3; omega)]; exact r0
      have g1_ : wr.cell? ⟨gb, gs.length * 3 + 1, none⟩ = some (.bool wh) := by rw [R.grow.cellAt _ (by show _ < (gs.length + 1) * 3; omega)]; exact r1
      have g2 : wr.cell? ⟨gb, gs.length * 3 + 2, none⟩ = some (.int .i64 ind) := by rw [R.grow.cellAt _ (by show _ < (gs.length + 1) * 3; omega)]; exact r2
      have hgc : gs.length + 1 ≤ gc := by
        rcases R.grow.2 with ⟨e, h0⟩ | ⟨gb, cp, cur, e, hbg, hgh, hnc, _⟩
        · simp at h0
        · injection e with e1 e2 e3
          have hnc : gs.length + 1 ≤ cp := hnc
          omega
      obtain ⟨pa, pc, hpv⟩ := row_slice R.prow
      simp only at hpv
      subst hpv
      -- behind the two copies
      have R1 := R.grown (grownBy_alloc wr (.cells #[.bool fl, .bool wh, .int .i64 ind] 64))
      have hbr := HBw.out.trans (R1.bel.mono HBw.out.size)
      obtain ⟨b, off, cp, hv, hcap, x0, x1, x2, x3, x4, x5⟩ := (HL.out.below hbr).at' hll
      rw [hx] at x0 x1 x2 x3 x4 x5
      rw [Hn.out] at hv hcap
      injection hv with hv1 hv2 hv3
      subst hv1 hv3
      have HW : Hid (∀ cs, RL w2.heap.size w2 ((wr.alloc (.cells #[.bool fl, .bool wh, .int .i64 ind] 64)).alloc (.cells cs 38)) (.slice pa q.length pc) (.slice (some ⟨gb, 0, none⟩) (gs.length + 1) gc) ⟨q, col, ⟨fl, wh, ind⟩, gs⟩) := fun cs => R1.grown (grownBy_alloc _ _)
      obtain ⟨zg, zc', hzv, _, _⟩ := HZ2.out.at' (szs_get l hll)
      injection hzv with e1 e2 e3
      subst e1
      clear e2 e3
      have HZc : Hid (∀ u, Below w2.heap.size w2 u → u.cell? ⟨zg, k, none⟩ = some (.int .i64 (sz : Nat))) := fun u hu => by
        obtain ⟨g, cap, e, _, hc⟩ := (HZ2.out.below hu).at' (szs_get l hll)
        rw [szs_len, Hn.out] at e
        injection e with e1 e2 e3
        injection e1 with e1
        injection e1 with e1 e4
        subst e1
        rw [HSZ0.out] at hc
        exact hc
      have hbel1 := R1.bel
      have zz0 := HZc.out _ hbel1
      have zz1 := fun cs => HZc.out _ (HW.out cs).bel
      obtain ⟨y, hy⟩ : ∃ y, x.kind = y := ⟨_, rfl⟩
      rw [hy] at x0
      have HY := hidden hy
      have hN1 : ∀ cs, ((wr.alloc (.cells #[.bool fl, .bool wh, .int .i64 ind] 64)).alloc (.cells cs 38)).heap[wr.heap.size]? = some (.cells #[.bool fl, .bool wh, .int .i64 ind] 64 (0, 0)) := fun cs => by
        rw [Below.heap_alloc _ _ _ (by simp)]
        exact heap_alloc_new _ _
      have hN2 : ∀ cs, ((wr.alloc (.cells #[.bool fl, .bool wh, .int .i64 ind] 64)).alloc (.cells cs 38)).heap[wr.heap.size + 1]? = some (.cells cs 38 (0, 0)) := fun cs => by
        have h1 := heap_alloc_new (wr.alloc (.cells #[.bool fl, .bool wh, .int .i64 ind] 64)) (.cells cs 38)
        rw [World.size_alloc] at h1
        exact h1
      have HN1 := hidden hN1
      have HN2 := hidden hN2
      clear hx hdr hox hli hm hlay R r0 r1 r2 R1 hbr hv2 hsz hy hN1 hN2 hbel1
      by_cases k1 : y = 1
      · have z1 : ((y : Int) == 1) = true := by simp; omega
        have HS1 : Hid (stepL wd ⟨q, col, ⟨fl, wh, ind⟩, gs⟩ x (l.drop (k + 1)) = ⟨q ++ x.tx, col + (sz : Nat), ⟨fl, wh, ind⟩, gs⟩) := by unfold Hid; simp [stepL, HY.out.trans k1, HSZ.out]
        have K1 := hidden k1
        have HRW := hidden (HW.out #[.int .u8 (y : Nat), .string (str x.tx), .int .i64 x.n, .int .i64 x.off, .bool x.col, .bool x.whole])
        clear k1
        have hown := HRW.out.prow
        have hBs := HRW.out.bs
        have q1 : q.length + (str x.tx).size ≤ maxLen := by rw [str_size]; unfold maxLen; omega
        have q2 : q.length + (str x.tx).size ≤ 140737488355328 := by rw [str_size]; omega
        have HSL := hidden (str_size x.tx)
        have HSC := hidden (strCells_str x.tx HOX.out.tx)
        generalize str x.tx = st at *
        go_wp2_with (at_builtin; refine Lib.wpList_append_own_string _ rfl _ _ 33 9 rfl w2.heap.size 5 i5 Try.underlying33 Try.underlying9 hi5 hz5 hy5 hb5 _ _ _ rfl hown st rfl q1 q2 hBs ?_)
        intro v' w4 hr hg _
        rw [HSC.out, HSL.out, ← bc_app] at hr
        obtain ⟨ua, uc, rfl⟩ := row_slice hr
        have HRL := hidden (HRW.out.text (p' := q ++ x.tx) (col + (sz : Nat)) (by rw [List.length_append]; exact hr) hg)
        have zz2 := HZc.out _ HRL.out.bel
        clear hr hg hown hBs
        by_cases hbg : 65536 < q.length + x.tx.length
        · have hbz : (65536 : Int) < ((q.length : Int) + (x.tx.length : Int)) := by omega
          have HNo : Hid (lay wd l s0 = none) := by
            unfold Hid
            rw [HL2.out, HS1.out, if_pos (show most < (q ++ x.tx).length by have := (@List.length_append _ q x.tx); show 65536 < (q ++ x.tx).length; omega)]
          go_wp2_with fail
          go_ret2
          exact ⟨layB_none HNo.out, HBw.out.trans (HRL.out.bel.mono HBw.out.size)⟩
        · have hbz : ¬ ((65536 : Int) < ((q.length : Int) + (x.tx.length : Int))) := by omega
          have hle : (q ++ x.tx).length ≤ most := by have := (@List.length_append _ q x.tx); show (q ++ x.tx).length ≤ 65536; omega
          have HNx : Hid (lay wd (l.drop (k + 1)) (⟨q ++ x.tx, col + (sz : Nat), ⟨fl, wh, ind⟩, gs⟩) = lay wd l s0) := by
            unfold Hid
            rw [HL2.out, HS1.out, if_neg (Nat.not_lt_of_le hle)]
          have HLI := hidden (Hst.out (by rw [HS1.out]; exact hle))
          rw [HS1.out] at HLI
          have Hle := hidden hle
          clear hle
          go_wp2_with fail
          go_roundw
          case rel => exact ⟨k + 1, ⟨q ++ x.tx, col + (sz : Nat), ⟨fl, wh, ind⟩, gs⟩, hlt, by go_num, rfl, HLI.out, Hle.out, HNx.out, HRL.out⟩
          case measure => simp [intOf]; omega
      have z1 : ((y : Int) == 1) = false := by simp; omega
      by_cases k3 : y = 3
      · have z3 : ((y : Int) == 3) = true := by simp; omega
        have K3 := hidden (HY.out.trans k3)
        obtain ⟨xc, hxc⟩ : ∃ xc, x.col = xc := ⟨_, rfl⟩
        have HXC := hidden hxc
        clear k1 k3 hxc
        cases xc with
        | true =>
          have HS1 : Hid (stepL wd ⟨q, col, ⟨fl, wh, ind⟩, gs⟩ x (l.drop (k + 1)) = ⟨q, col, ⟨decide ((sz : Int) ≤ wd - col), x.whole, col + x.off⟩, ⟨fl, wh, ind⟩ :: gs⟩) := by unfold Hid; simp [stepL, K3.out, HSZ.out, HXC.out]
          have wr0 : IntKind.i64.wrap (col + x.off) = col + x.off := IntWalk.i64_in _ (by omega)
          have HRW := hidden ((HW.out #[.int .u8 (y : Nat), .string (str x.tx), .int .i64 x.n, .int .i64 x.off, .bool true, .bool x.whole]).grown (grownBy_alloc _ (.cells #[.bool (decide ((sz : Int) ≤ wd - col)), .bool x.whole, .int .i64 (col + x.off)] 64)))
          have hown : (((wr.alloc (.cells #[.bool fl, .bool wh, .int .i64 ind] 64)).alloc (.cells #[.int .u8 (y : Nat), .string (str x.tx), .int .i64 x.n, .int .i64 x.off, .bool true, .bool x.whole] 38)).alloc (.cells #[.bool (decide ((sz : Int) ≤ wd - col)), .bool x.whole, .int .i64 (col + x.off)] 64)).ownsRow w2.heap.size 64 3 (.slice (some ⟨gb, 0, none⟩) (gs.length + 1) gc) (gs.length + 1) (rowH (gs.reverse ++ [⟨fl, wh, ind⟩])) := HRW.out.grow
          have hBs := HRW.out.bs
          have cn := cells_new ((wr.alloc (.cells #[.bool fl, .bool wh, .int .i64 ind] 64)).alloc (.cells #[.int .u8 (y : Nat), .string (str x.tx), .int .i64 x.n, .int .i64 x.off, .bool true, .bool x.whole] 38)) 64 [.bool (decide ((sz : Int) ≤ wd - col)), .bool x.whole, .int .i64 (col + x.off)]
          rw [World.size_alloc, World.size_alloc] at cn
          have q3 : gs.length + 1 + 1 ≤ maxLen := by unfold maxLen; omega
          have q4 : (gs.length + 1 + 1) * 16 ≤ 140737488355328 := by omega
          have HN2b := hidden (HN2.out #[.int .u8 (y : Nat), .string (str x.tx), .int .i64 x.n, .int .i64 x.off, .bool true, .bool x.whole])
          rw [HXC.out] at x4
          go_wp2_with (at_builtin; refine wpList_append_own _ rfl _ _ 65 rfl w2.heap.size 64 i64 (.agg #[.bool false, .bool false, .int .i64 0]) 3 16 Try.underlying65 hi64 hz64 hy64 hb64 rfl (by decide) _ _ _ rfl hown ⟨wr.heap.size + 1 + 1, 0, none⟩ 1 1 [.bool (decide ((sz : Int) ≤ wd - col)), .bool x.whole, .int .i64 (col + x.off)] rfl rfl cn (one3' _ _ _) q3 q4 hBs ?_)
          intro v' w4 hr hg _
          have HRL : Hid (RL w2.heap.size w2 w4 (.slice pa q.length pc) v' ⟨q, col, ⟨decide ((sz : Int) ≤ wd - col), x.whole, col + x.off⟩, ⟨fl, wh, ind⟩ :: gs⟩) := by
            refine ⟨row_grown HRW.out.prow hg (fun q hq => row_ne HRW.out.prow hown (by decide) hq), ?_, Nat.le_trans HRW.out.bs hg.size, HRW.out.bel.grown hg HRW.out.bs (fun q e => (hown.lt q e).1)⟩
            show w4.ownsRow w2.heap.size 64 3 v' (gs.length + 1 + 1) (rowH ((⟨fl, wh, ind⟩ :: gs).reverse ++ [⟨decide ((sz : Int) ≤ wd - col), x.whole, col + x.off⟩]))
            rw [List.reverse_cons, rowH_app]
            exact hr
          clear hr hg hown cn hBs
          have HNx : Hid (lay wd (l.drop (k + 1)) (⟨q, col, ⟨decide ((sz : Int) ≤ wd - col), x.whole, col + x.off⟩, ⟨fl, wh, ind⟩ :: gs⟩) = lay wd l s0) := by
            unfold Hid
            rw [HL2.out, HS1.out, if_neg (Nat.not_lt_of_le Hm.out)]
          have HLI := hidden (Hst.out (by rw [HS1.out]; exact Hm.out))
          rw [HS1.out] at HLI
          go_wp2_with fail
          go_roundw
          case rel => exact ⟨k + 1, ⟨q, col, ⟨decide ((sz : Int) ≤ wd - col), x.whole, col + x.off⟩, ⟨fl, wh, ind⟩ :: gs⟩, hlt, by go_num, rfl, HLI.out, Hm.out, HNx.out, HRL.out⟩
          case measure => simp [intOf]; omega
        | false =>
          have HS1 : Hid (stepL wd ⟨q, col, ⟨fl, wh, ind⟩, gs⟩ x (l.drop (k + 1)) = ⟨q, col, ⟨decide ((sz : Int) ≤ wd - col), x.whole, ind + x.off⟩, ⟨fl, wh, ind⟩ :: gs⟩) := by unfold Hid; simp [stepL, K3.out, HSZ.out, HXC.out]
          have wr0 : IntKind.i64.wrap (ind + x.off) = ind + x.off := IntWalk.i64_in _ (by omega)
          have HRW := hidden ((HW.out #[.int .u8 (y : Nat), .string (str x.tx), .int .i64 x.n, .int .i64 x.off, .bool false, .bool x.whole]).grown (grownBy_alloc _ (.cells #[.bool (decide ((sz : Int) ≤ wd - col)), .bool x.whole, .int .i64 (ind + x.off)] 64)))
          have hown : (((wr.alloc (.cells #[.bool fl, .bool wh, .int .i64 ind] 64)).alloc (.cells #[.int .u8 (y : Nat), .string (str x.tx), .int .i64 x.n, .int .i64 x.off, .bool false, .bool x.whole] 38)).alloc (.cells #[.bool (decide ((sz : Int) ≤ wd - col)), .bool x.whole, .int .i64 (ind + x.off)] 64)).ownsRow w2.heap.size 64 3 (.slice (some ⟨gb, 0, none⟩) (gs.length + 1) gc) (gs.length + 1) (rowH (gs.reverse ++ [⟨fl, wh, ind⟩])) := HRW.out.grow
          have hBs := HRW.out.bs
          have cn := cells_new ((wr.alloc (.cells #[.bool fl, .bool wh, .int .i64 ind] 64)).alloc (.cells #[.int .u8 (y : Nat), .string (str x.tx), .int .i64 x.n, .int .i64 x.off, .bool false, .bool x.whole] 38)) 64 [.bool (decide ((sz : Int) ≤ wd - col)), .bool x.whole, .int .i64 (ind + x.off)]
          rw [World.size_alloc, World.size_alloc] at cn
          have q3 : gs.length + 1 + 1 ≤ maxLen := by unfold maxLen; omega
          have q4 : (gs.length + 1 + 1) * 16 ≤ 140737488355328 := by omega
          have HN2b := hidden (HN2.out #[.int .u8 (y : Nat), .string (str x.tx), .int .i64 x.n, .int .i64 x.off, .bool false, .bool x.whole])
          rw [HXC.out] at x4
          go_wp2_with (at_builtin; refine wpList_append_own _ rfl _ _ 65 rfl w2.heap.size 64 i64 (.agg #[.bool false, .bool false, .int .i64 0]) 3 16 Try.underlying65 hi64 hz64 hy64 hb64 rfl (by decide) _ _ _ rfl hown ⟨wr.heap.size + 1 + 1, 0, none⟩ 1 1 [.bool (decide ((sz : Int) ≤ wd - col)), .bool x.whole, .int .i64 (ind + x.off)] rfl rfl cn (one3' _ _ _) q3 q4 hBs ?_)
          intro v' w4 hr hg _
          have HRL : Hid (RL w2.heap.size w2 w4 (.slice pa q.length pc) v' ⟨q, col, ⟨decide ((sz : Int) ≤ wd - col), x.whole, ind + x.off⟩, ⟨fl, wh, ind⟩ :: gs⟩) := by
            refine ⟨row_grown HRW.out.prow hg (fun q hq => row_ne HRW.out.prow hown (by decide) hq), ?_, Nat.le_trans HRW.out.bs hg.size, HRW.out.bel.grown hg HRW.out.bs (fun q e => (hown.lt q e).1)⟩
            show w4.ownsRow w2.heap.size 64 3 v' (gs.length + 1 + 1) (rowH ((⟨fl, wh, ind⟩ :: gs).reverse ++ [⟨decide ((sz : Int) ≤ wd - col), x.whole, ind + x.off⟩]))
            rw [List.reverse_cons, rowH_app]
            exact hr
          clear hr hg hown cn hBs
          have HNx : Hid (lay wd (l.drop (k + 1)) (⟨q, col, ⟨decide ((sz : Int) ≤ wd - col), x.whole, ind + x.off⟩, ⟨fl, wh, ind⟩ :: gs⟩) = lay wd l s0) := by
            unfold Hid
            rw [HL2.out, HS1.out, if_neg (Nat.not_lt_of_le Hm.out)]
          have HLI := hidden (Hst.out (by rw [HS1.out]; exact Hm.out))
          rw [HS1.out] at HLI
          go_wp2_with fail
          go_roundw
          case rel => exact ⟨k + 1, ⟨q, col, ⟨decide ((sz : Int) ≤ wd - col), x.whole, ind + x.off⟩, ⟨fl, wh, ind⟩ :: gs⟩, hlt, by go_num, rfl, HLI.out, Hm.out, HNx.out, HRL.out⟩
          case measure => simp [intOf]; omega
      have z3 : ((y : Int) == 3) = false := by simp; omega
      by_cases k4 : y = 4
      · have z4 : ((y : Int) == 4) = true := by simp; omega
        have K4 := hidden (HY.out.trans k4)
        have HRW := hidden (HW.out #[.int .u8 (y : Nat), .string (str x.tx), .int .i64 x.n, .int .i64 x.off, .bool x.col, .bool x.whole])
        clear k1 k3 k4
        cases gs with
        | nil =>
          have HS1 : Hid (stepL wd ⟨q, col, ⟨fl, wh, ind⟩, []⟩ x (l.drop (k + 1)) = ⟨q, col, ⟨fl, wh, ind⟩, []⟩) := by unfold Hid; simp [stepL, K4.out]
          have HRL := HRW
          have g0 : wr.cell? ⟨gb, 0, none⟩ = some (.bool fl) := g0
          have g1' : wr.cell? ⟨gb, 0 + 1, none⟩ = some (.bool wh) := g1_
          have g1'' : wr.cell? ⟨gb, 1, none⟩ = some (.bool wh) := g1_
          have g2 : wr.cell? ⟨gb, 2, none⟩ = some (.int .i64 ind) := g2
          clear hgc
          simp only [List.length_nil, Nat.zero_add]
          have HNx : Hid (lay wd (l.drop (k + 1)) (⟨q, col, ⟨fl, wh, ind⟩, []⟩) = lay wd l s0) := by
            unfold Hid
            rw [HL2.out, HS1.out, if_neg (Nat.not_lt_of_le Hm.out)]
          have HLI := hidden (Hst.out (by rw [HS1.out]; exact Hm.out))
          rw [HS1.out] at HLI
          go_wp2_with fail
          go_roundw
          case rel => exact ⟨k + 1, ⟨q, col, ⟨fl, wh, ind⟩, []⟩, hlt, by go_num, rfl, HLI.out, Hm.out, HNx.out, HRL.out⟩
          case measure => simp [intOf]; omega
        | cons g1 gs =>
          have HS1 : Hid (stepL wd ⟨q, col, ⟨fl, wh, ind⟩, g1 :: gs⟩ x (l.drop (k + 1)) = ⟨q, col, g1, gs⟩) := by unfold Hid; simp [stepL, K4.out]
          have HRL : Hid (RL w2.heap.size w2 ((wr.alloc (.cells #[.bool fl, .bool wh, .int .i64 ind] 64)).alloc (.cells #[.int .u8 (y : Nat), .string (str x.tx), .int .i64 x.n, .int .i64 x.off, .bool x.col, .bool x.whole] 38)) (.slice pa q.length pc) (.slice (some ⟨gb, 0, none⟩) (gs.length + 1) gc) ⟨q, col, g1, gs⟩) := by
            refine ⟨HRW.out.prow, ?_, HRW.out.bs, HRW.out.bel⟩
            have h1 : ((wr.alloc (.cells #[.bool fl, .bool wh, .int .i64 ind] 64)).alloc (.cells #[.int .u8 (y : Nat), .string (str x.tx), .int .i64 x.n, .int .i64 x.off, .bool x.col, .bool x.whole] 38)).ownsRow w2.heap.size 64 3 (.slice (some ⟨gb, 0, none⟩) (gs.length + 1 + 1) gc) (gs.length + 1 + 1) (rowH ((g1 :: gs).reverse ++ [⟨fl, wh, ind⟩])) := HRW.out.grow
            have h2 := rowH_cut (n := gs.length + 1) (by simp) h1
            rw [List.reverse_cons] at h2
            exact h2
          have hg1 : gs.length + 1 + 1 ≤ gc := hgc
          have hgn1 : gs.length + 1 ≤ k := hgn
          have g0 : wr.cell? ⟨gb, (gs.length + 1) * 3, none⟩ = some (.bool fl) := g0
          have g1' : wr.cell? ⟨gb, (gs.length + 1) * 3 + 1, none⟩ = some (.bool wh) := g1_
          have g2 : wr.cell? ⟨gb, (gs.length + 1) * 3 + 2, none⟩ = some (.int .i64 ind) := g2
          clear hgc hgn HRW
          simp only [List.length_cons]
          generalize gs.length = m at *
          have HNx : Hid (lay wd (l.drop (k + 1)) (⟨q, col, g1, gs⟩) = lay wd l s0) := by
            unfold Hid
            rw [HL2.out, HS1.out, if_neg (Nat.not_lt_of_le Hm.out)]
          have HLI := hidden (Hst.out (by rw [HS1.out]; exact Hm.out))
          rw [HS1.out] at HLI
          go_wp2_with fail
          go_roundw
          case rel => exact ⟨k + 1, ⟨q, col, g1, gs⟩, hlt, by go_num, rfl, HLI.out, Hm.out, HNx.out, HRL.out⟩
          case measure => simp [intOf]; omega
      have z4 : ((y : Int) == 4) = false := by simp; omega
      by_cases k2 : y = 2
      · have z2 : ((y : Int) == 2) = true := by simp; omega
        have K2 := hidden (HY.out.trans k2)
        obtain ⟨m, hm⟩ : ∃ m, x.n.toNat = m := ⟨_, rfl⟩
        have hmb : m ≤ 1048576 := by omega
        have HM := hidden hm
        clear k1 k2 k3 k4 hm
        cases fl with
        | true =>
          have HS1 : Hid (stepL wd ⟨q, col, ⟨true, wh, ind⟩, gs⟩ x (l.drop (k + 1)) = ⟨q ++ sp m, col + (m : Nat), ⟨true, wh, ind⟩, gs⟩) := by
            unfold Hid
            rw [stepL_gap _ _ _ _ K2.out, if_pos (by simp), HM.out]
          have HRW := hidden (HW.out #[.int .u8 (y : Nat), .string (str x.tx), .int .i64 x.n, .int .i64 x.off, .bool x.col, .bool x.whole])
          have cb := blanks_any x ((wr.alloc (.cells #[.bool true, .bool wh, .int .i64 ind] 64)).alloc (.cells #[.int .u8 (y : Nat), .string (str x.tx), .int .i64 x.n, .int .i64 x.off, .bool x.col, .bool x.whole] 38)) m HM.out
          rw [HY.out] at cb
          have HN2b := hidden (HN2.out #[.int .u8 (y : Nat), .string (str x.tx), .int .i64 x.n, .int .i64 x.off, .bool x.col, .bool x.whole])
          go_wp2_with fail
          refine cb.mono ?_
          clear cb
          rintro e w3 ⟨rfl, hb3⟩
          have hN3 := (hb3.block _ (by simp)).trans HN2b.out
          have HR3 := hidden (HRW.out.grown (grown_below hb3))
          have cs := spread_any HR3.out.prow HR3.out.bs (m : Int) (by omega) (by show q.length ≤ 1000000; omega)
          clear hb3
          go_wp2_with fail
          refine cs.mono ?_
          clear cs
          intro e w4 hsp
          rcases hsp with ⟨hb, rfl, rfl⟩ | ⟨hle, v', rfl, hgb⟩
          · have cb := blanks_any x w4 m HM.out
            rw [HY.out] at cb
            have i0 := cell_of' hN3 0
            have i1 := cell_of' hN3 1
            have i2 := cell_of' hN3 2
            have i3 := cell_of' hN3 3
            have i4 := cell_of' hN3 4
            have i5' := cell_of' hN3 5
            simp only [List.getElem?_toArray, List.getElem?_cons_zero, List.getElem?_cons_succ] at i0 i1 i2 i3 i4 i5'
            have hb : (65536 : Int) - (q.length : Nat) < (m : Int) := hb
            have HNo : Hid (lay wd l s0 = none) := by
              unfold Hid
              rw [HL2.out, HS1.out, if_pos]
              show 65536 < (q ++ sp m).length
              rw [List.length_append, sp_len]
              omega
            have HB4 := hidden (HBw.out.trans (HR3.out.bel.mono HBw.out.size))
            have hsz4 := HBw.out.size
            have hsz5 := HR3.out.bel.size
            clear hN3 hb
            go_wp2_with fail
            refine cb.mono ?_
            clear cb
            rintro e w5 ⟨rfl, hb5⟩
            have HB5 := hidden (HB4.out.trans (hb5.mono (by omega)))
            clear hb5 i0 i1 i2 i3 i4 i5'
            go_wp2_with fail
            go_ret2
            exact ⟨layB_none HNo.out, HB5.out⟩
          · rw [Int.toNat_natCast] at hgb
            have hN4 := heap_grown HR3.out.prow hgb.gr hN3 (by decide)
            have cb := blanks_any x w4 m HM.out
            rw [HY.out] at cb
            have i0 := cell_of' hN4 0
            have i1 := cell_of' hN4 1
            have i2 := cell_of' hN4 2
            have i3 := cell_of' hN4 3
            have i4 := cell_of' hN4 4
            have i5' := cell_of' hN4 5
            simp only [List.getElem?_toArray, List.getElem?_cons_zero, List.getElem?_cons_succ] at i0 i1 i2 i3 i4 i5'
            have HR4 := hidden (HR3.out.text (p' := q ++ sp m) (col + (m : Nat)) hgb.row hgb.gr)
            obtain ⟨ua, uc, rfl⟩ := row_slice hgb.row
            have hle : (m : Int) ≤ (65536 : Int) - (q.length : Nat) := hle
            have hpl : (q ++ sp m).length = q.length + m := by rw [List.length_append, sp_len]
            have hmm : ¬ ((65536 : Int) < (q.length : Int) + (m : Int)) := by omega
            clear hN3 hN4 hgb
            rw [hpl]
            go_wp2_with fail
            refine cb.mono ?_
            clear cb
            rintro e w5 ⟨rfl, hb5⟩
            have HRL := HR4.out.grown (grown_below hb5)
            rw [hpl] at HRL
            have HRL := hidden HRL
            have Hle : Hid ((q ++ sp m).length ≤ most) := by unfold Hid; rw [hpl]; show q.length + m ≤ 65536; omega
            have HNx : Hid (lay wd (l.drop (k + 1)) ⟨q ++ sp m, col + (m : Nat), ⟨true, wh, ind⟩, gs⟩ = lay wd l s0) := by
              unfold Hid
              rw [HL2.out, HS1.out, if_neg (Nat.not_lt_of_le Hle.out)]
            have HLI := hidden (Hst.out (by rw [HS1.out]; exact Hle.out))
            rw [HS1.out] at HLI
            clear hb5 i0 i1 i2 i3 i4 i5' hle hpl
            go_wp2_with fail
            go_roundw
            case rel => exact ⟨k + 1, ⟨q ++ sp m, col + (m : Nat), ⟨true, wh, ind⟩, gs⟩, hlt, by go_num, rfl, HLI.out, Hle.out, HNx.out, HRL.out⟩
            case measure => simp [intOf]; omega
        | false =>
          cases wh with
          | true =>
            have HRW := hidden ((HW.out #[.int .u8 (y : Nat), .string (str x.tx), .int .i64 x.n, .int .i64 x.off, .bool x.col, .bool x.whole]).grown (grownBy_alloc _ (.cells #[.int .u8 10] 5)))
            have hN1b := (Below.heap_alloc ((wr.alloc (.cells #[.bool false, .bool true, .int .i64 ind] 64)).alloc (.cells #[.int .u8 (y : Nat), .string (str x.tx), .int .i64 x.n, .int .i64 x.off, .bool x.col, .bool x.whole] 38)) (.cells #[.int .u8 10] 5) wr.heap.size (by simp; omega)).trans (HN1.out #[.int .u8 (y : Nat), .string (str x.tx), .int .i64 x.n, .int .i64 x.off, .bool x.col, .bool x.whole])
            have hN2b := (Below.heap_alloc ((wr.alloc (.cells #[.bool false, .bool true, .int .i64 ind] 64)).alloc (.cells #[.int .u8 (y : Nat), .string (str x.tx), .int .i64 x.n, .int .i64 x.off, .bool x.col, .bool x.whole] 38)) (.cells #[.int .u8 10] 5) (wr.heap.size + 1) (by simp)).trans (HN2.out #[.int .u8 (y : Nat), .string (str x.tx), .int .i64 x.n, .int .i64 x.off, .bool x.col, .bool x.whole])
            have HN1c := hidden hN1b
            have HN2c := hidden hN2b
            have hown : (((wr.alloc (.cells #[.bool false, .bool true, .int .i64 ind] 64)).alloc (.cells #[.int .u8 (y : Nat), .string (str x.tx), .int .i64 x.n, .int .i64 x.off, .bool x.col, .bool x.whole] 38)).alloc (.cells #[.int .u8 10] 5)).ownsRow w2.heap.size 5 1 (.slice pa q.length pc) q.length (bc q) := HRW.out.prow
            have hBs := HRW.out.bs
            have cn := cells_new ((wr.alloc (.cells #[.bool false, .bool true, .int .i64 ind] 64)).alloc (.cells #[.int .u8 (y : Nat), .string (str x.tx), .int .i64 x.n, .int .i64 x.off, .bool x.col, .bool x.whole] 38)) 5 [.int .u8 10]
            rw [World.size_alloc, World.size_alloc] at cn
            have q3 : q.length + 1 ≤ maxLen := by unfold maxLen; omega
            have q4 : (q.length + 1) * 1 ≤ 140737488355328 := by omega
            obtain ⟨N, hN⟩ : ∃ N, (ind + x.off).toNat = N := ⟨_, rfl⟩
            have HNN := hidden hN
            clear hN1b hN2b hN
            go_wp2_with (at_builtin; refine wpList_append_own _ rfl _ _ 33 rfl w2.heap.size 5 i5 (.int .u8 0) 1 1 Try.underlying33 hi5 hz5 hy5 hb5 rfl (by decide) _ _ _ rfl hown ⟨wr.heap.size + 1 + 1, 0, none⟩ 1 1 [.int .u8 10] rfl rfl cn (one1 _ _) q3 q4 hBs ?_)
            intro v' w3 hr hg _
            obtain ⟨ua, uc, rfl⟩ := row_slice hr
            have HR3 := hidden (HRW.out.text (p' := q ++ [10]) 0 (by rw [List.length_append, List.length_singleton, bc_app]; exact hr) hg)
            have hN13 := heap_grown hown hg HN1c.out (by decide)
            have hN23 := heap_grown hown hg HN2c.out (by decide)
            have j2 := cell_of' hN13 2
            have i3 := cell_of' hN23 3
            simp only [List.getElem?_toArray, List.getElem?_cons_zero, List.getElem?_cons_succ] at j2 i3
            clear hr hg hown cn hBs hN13 hN23
            by_cases hneg : ind + x.off < 0
            · have HN0 : Hid (N = 0) := by unfold Hid; have := HNN.out; omega
              have HS1 : Hid (stepL wd ⟨q, col, ⟨false, true, ind⟩, gs⟩ x (l.drop (k + 1)) = ⟨q ++ [10] ++ sp N, (0 : Int), ⟨false, true, ind⟩, gs⟩) := by
                unfold Hid
                rw [stepL_gap _ _ _ _ K2.out, if_neg (by simp [HSZ.out])]
                simp only [HNN.out]
                have hcc : ((N : Nat) : Int) = (0 : Int) := by have := HN0.out; omega
                rw [hcc]
              have cs := spread_any HR3.out.prow HR3.out.bs (0 : Int) (by omega) (by show (q ++ [10]).length ≤ 1000000; rw [List.length_append, List.length_singleton]; omega)
              have hl1' : (q ++ [10]).length = q.length + 1 := by simp
              have HCN : Hid (((0 : Int) : Int).toNat = N) := by unfold Hid; have := HN0.out; omega
              go_wp2_with fail
              refine cs.mono ?_
              clear cs
              intro e w4 hsp
              rcases hsp with ⟨hb, rfl, rfl⟩ | ⟨hle, v', rfl, hgb⟩
              · rw [hl1'] at hb
                have HNo : Hid (lay wd l s0 = none) := by
                  unfold Hid
                  rw [HL2.out, HS1.out, if_pos]
                  show 65536 < (q ++ [10] ++ sp N).length
                  rw [List.length_append, sp_len, hl1']
                  have := HCN.out
                  omega
                have HB4 := hidden (HBw.out.trans (HR3.out.bel.mono HBw.out.size))
                clear hb
                go_wp2_with fail
                go_ret2
                exact ⟨layB_none HNo.out, HB4.out⟩
              · rw [HCN.out] at hgb
                rw [hl1'] at hle
                have HR4 := HR3.out.text (p' := q ++ [10] ++ sp N) (0 : Int) hgb.row hgb.gr
                obtain ⟨oa, oc, rfl⟩ := row_slice hgb.row
                have hpl : (q ++ [10] ++ sp N).length = q.length + 1 + N := by rw [List.length_append, sp_len, hl1']
                have hnb : q.length + 1 + N ≤ 65536 := by have := HCN.out; omega
                have hmm : ¬ ((65536 : Int) < (q.length : Int) + 1 + (N : Int)) := by omega
                rw [hpl] at HR4 ⊢
                have HRL := hidden HR4
                have Hle : Hid ((q ++ [10] ++ sp N).length ≤ most) := by unfold Hid; rw [hpl]; exact hnb
                have HNx : Hid (lay wd (l.drop (k + 1)) ⟨q ++ [10] ++ sp N, (0 : Int), ⟨false, true, ind⟩, gs⟩ = lay wd l s0) := by
                  unfold Hid
                  rw [HL2.out, HS1.out, if_neg (Nat.not_lt_of_le Hle.out)]
                have HLI := hidden (Hst.out (by rw [HS1.out]; exact Hle.out))
                rw [HS1.out] at HLI
                clear hgb hle hpl HR4 hl1'
                go_wp2_with fail
                go_roundw
                case rel => exact ⟨k + 1, ⟨q ++ [10] ++ sp N, (0 : Int), ⟨false, true, ind⟩, gs⟩, hlt, by go_num, rfl, HLI.out, Hle.out, HNx.out, HRL.out⟩
                case measure => simp [intOf]; omega
            · have HN0 : Hid ((N : Int) = ind + x.off) := by unfold Hid; have := HNN.out; omega
              have HS1 : Hid (stepL wd ⟨q, col, ⟨false, true, ind⟩, gs⟩ x (l.drop (k + 1)) = ⟨q ++ [10] ++ sp N, (ind + x.off), ⟨false, true, ind⟩, gs⟩) := by
                unfold Hid
                rw [stepL_gap _ _ _ _ K2.out, if_neg (by simp [HSZ.out])]
                simp only [HNN.out]
                have hcc : ((N : Nat) : Int) = (ind + x.off) := by have := HN0.out; omega
                rw [hcc]
              have cs := spread_any HR3.out.prow HR3.out.bs (ind + x.off) (by omega) (by show (q ++ [10]).length ≤ 1000000; rw [List.length_append, List.length_singleton]; omega)
              have hl1' : (q ++ [10]).length = q.length + 1 := by simp
              have HCN : Hid (((ind + x.off) : Int).toNat = N) := by unfold Hid; have := HN0.out; omega
              go_wp2_with fail
              refine cs.mono ?_
              clear cs
              intro e w4 hsp
              rcases hsp with ⟨hb, rfl, rfl⟩ | ⟨hle, v', rfl, hgb⟩
              · rw [hl1'] at hb
                have HNo : Hid (lay wd l s0 = none) := by
                  unfold Hid
                  rw [HL2.out, HS1.out, if_pos]
                  show 65536 < (q ++ [10] ++ sp N).length
                  rw [List.length_append, sp_len, hl1']
                  have := HCN.out
                  omega
                have HB4 := hidden (HBw.out.trans (HR3.out.bel.mono HBw.out.size))
                clear hb
                go_wp2_with fail
                go_ret2
                exact ⟨layB_none HNo.out, HB4.out⟩
              · rw [HCN.out] at hgb
                rw [hl1'] at hle
                have HR4 := HR3.out.text (p' := q ++ [10] ++ sp N) (ind + x.off) hgb.row hgb.gr
                obtain ⟨oa, oc, rfl⟩ := row_slice hgb.row
                have hpl : (q ++ [10] ++ sp N).length = q.length + 1 + N := by rw [List.length_append, sp_len, hl1']
                have hnb : q.length + 1 + N ≤ 65536 := by have := HCN.out; omega
                have hmm : ¬ ((65536 : Int) < (q.length : Int) + 1 + (N : Int)) := by omega
                rw [hpl] at HR4 ⊢
                have HRL := hidden HR4
                have Hle : Hid ((q ++ [10] ++ sp N).length ≤ most) := by unfold Hid; rw [hpl]; exact hnb
                have HNx : Hid (lay wd (l.drop (k + 1)) ⟨q ++ [10] ++ sp N, (ind + x.off), ⟨false, true, ind⟩, gs⟩ = lay wd l s0) := by
                  unfold Hid
                  rw [HL2.out, HS1.out, if_neg (Nat.not_lt_of_le Hle.out)]
                have HLI := hidden (Hst.out (by rw [HS1.out]; exact Hle.out))
                rw [HS1.out] at HLI
                clear hgb hle hpl HR4 hl1'
                go_wp2_with fail
                go_roundw
                case rel => exact ⟨k + 1, ⟨q ++ [10] ++ sp N, (ind + x.off), ⟨false, true, ind⟩, gs⟩, hlt, by go_num, rfl, HLI.out, Hle.out, HNx.out, HRL.out⟩
                case measure => simp [intOf]; omega
          | false =>
            by_cases hfit : (sz : Int) ≤ wd - col
            · have hdec : decide ((sz : Int) ≤ wd - col) = true := by simp [hfit]
              have HS1 : Hid (stepL wd ⟨q, col, ⟨false, false, ind⟩, gs⟩ x (l.drop (k + 1)) = ⟨q ++ sp m, col + (m : Nat), ⟨false, false, ind⟩, gs⟩) := by
                unfold Hid
                rw [stepL_gap _ _ _ _ K2.out, if_pos (by simp [HSZ.out, hfit]), HM.out]
              have HRW := hidden (HW.out #[.int .u8 (y : Nat), .string (str x.tx), .int .i64 x.n, .int .i64 x.off, .bool x.col, .bool x.whole])
              have cb := blanks_any x ((wr.alloc (.cells #[.bool false, .bool false, .int .i64 ind] 64)).alloc (.cells #[.int .u8 (y : Nat), .string (str x.tx), .int .i64 x.n, .int .i64 x.off, .bool x.col, .bool x.whole] 38)) m HM.out
              rw [HY.out] at cb
              have HN2b := hidden (HN2.out #[.int .u8 (y : Nat), .string (str x.tx), .int .i64 x.n, .int .i64 x.off, .bool x.col, .bool x.whole])
              go_wp2_with fail
              refine cb.mono ?_
              clear cb
              rintro e w3 ⟨rfl, hb3⟩
              have hN3 := (hb3.block _ (by simp)).trans HN2b.out
              have HR3 := hidden (HRW.out.grown (grown_below hb3))
              have cs := spread_any HR3.out.prow HR3.out.bs (m : Int) (by omega) (by show q.length ≤ 1000000; omega)
              clear hb3
              go_wp2_with fail
              refine cs.mono ?_
              clear cs
              intro e w4 hsp
              rcases hsp with ⟨hb, rfl, rfl⟩ | ⟨hle, v', rfl, hgb⟩
              · have cb := blanks_any x w4 m HM.out
                rw [HY.out] at cb
                have i0 := cell_of' hN3 0
                have i1 := cell_of' hN3 1
                have i2 := cell_of' hN3 2
                have i3 := cell_of' hN3 3
                have i4 := cell_of' hN3 4
                have i5' := cell_of' hN3 5
                simp only [List.getElem?_toArray, List.getElem?_cons_zero, List.getElem?_cons_succ] at i0 i1 i2 i3 i4 i5'
                have hb : (65536 : Int) - (q.length : Nat) < (m : Int) := hb
                have HNo : Hid (lay wd l s0 = none) := by
                  unfold Hid
                  rw [HL2.out, HS1.out, if_pos]
                  show 65536 < (q ++ sp m).length
                  rw [List.length_append, sp_len]
                  omega
                have HB4 := hidden (HBw.out.trans (HR3.out.bel.mono HBw.out.size))
                have hsz4 := HBw.out.size
                have hsz5 := HR3.out.bel.size
                clear hN3 hb
                go_wp2_with fail
                refine cb.mono ?_
                clear cb
                rintro e w5 ⟨rfl, hb5⟩
                have HB5 := hidden (HB4.out.trans (hb5.mono (by omega)))
                clear hb5 i0 i1 i2 i3 i4 i5'
                go_wp2_with fail
                go_ret2
                exact ⟨layB_none HNo.out, HB5.out⟩
              · rw [Int.toNat_natCast] at hgb
                have hN4 := heap_grown HR3.out.prow hgb.gr hN3 (by decide)
                have cb := blanks_any x w4 m HM.out
                rw [HY.out] at cb
                have i0 := cell_of' hN4 0
                have i1 := cell_of' hN4 1
                have i2 := cell_of' hN4 2
                have i3 := cell_of' hN4 3
                have i4 := cell_of' hN4 4
                have i5' := cell_of' hN4 5
                simp only [List.getElem?_toArray, List.getElem?_cons_zero, List.getElem?_cons_succ] at i0 i1 i2 i3 i4 i5'
                have HR4 := hidden (HR3.out.text (p' := q ++ sp m) (col + (m : Nat)) hgb.row hgb.gr)
                obtain ⟨ua, uc, rfl⟩ := row_slice hgb.row
                have hle : (m : Int) ≤ (65536 : Int) - (q.length : Nat) := hle
                have hpl : (q ++ sp m).length = q.length + m := by rw [List.length_append, sp_len]
                have hmm : ¬ ((65536 : Int) < (q.length : Int) + (m : Int)) := by omega
                clear hN3 hN4 hgb
                rw [hpl]
                go_wp2_with fail
                refine cb.mono ?_
                clear cb
                rintro e w5 ⟨rfl, hb5⟩
                have HRL := HR4.out.grown (grown_below hb5)
                rw [hpl] at HRL
                have HRL := hidden HRL
                have Hle : Hid ((q ++ sp m).length ≤ most) := by unfold Hid; rw [hpl]; show q.length + m ≤ 65536; omega
                have HNx : Hid (lay wd (l.drop (k + 1)) ⟨q ++ sp m, col + (m : Nat), ⟨false, false, ind⟩, gs⟩ = lay wd l s0) := by
                  unfold Hid
                  rw [HL2.out, HS1.out, if_neg (Nat.not_lt_of_le Hle.out)]
                have HLI := hidden (Hst.out (by rw [HS1.out]; exact Hle.out))
                rw [HS1.out] at HLI
                clear hb5 i0 i1 i2 i3 i4 i5' hle hpl
                go_wp2_with fail
                go_roundw
                case rel => exact ⟨k + 1, ⟨q ++ sp m, col + (m : Nat), ⟨false, false, ind⟩, gs⟩, hlt, by go_num, rfl, HLI.out, Hle.out, HNx.out, HRL.out⟩
                case measure => simp [intOf]; omega
            · have hdec : decide ((sz : Int) ≤ wd - col) = false := by simp; omega
              have HRW := hidden ((HW.out #[.int .u8 (y : Nat), .string (str x.tx), .int .i64 x.n, .int .i64 x.off, .bool x.col, .bool x.whole]).grown (grownBy_alloc _ (.cells #[.int .u8 10] 5)))
              have hN1b := (Below.heap_alloc ((wr.alloc (.cells #[.bool false, .bool false, .int .i64 ind] 64)).alloc (.cells #[.int .u8 (y : Nat), .string (str x.tx), .int .i64 x.n, .int .i64 x.off, .bool x.col, .bool x.whole] 38)) (.cells #[.int .u8 10] 5) wr.heap.size (by simp; omega)).trans (HN1.out #[.int .u8 (y : Nat), .string (str x.tx), .int .i64 x.n, .int .i64 x.off, .bool x.col, .bool x.whole])
              have hN2b := (Below.heap_alloc ((wr.alloc (.cells #[.bool false, .bool false, .int .i64 ind] 64)).alloc (.cells #[.int .u8 (y : Nat), .string (str x.tx), .int .i64 x.n, .int .i64 x.off, .bool x.col, .bool x.whole] 38)) (.cells #[.int .u8 10] 5) (wr.heap.size + 1) (by simp)).trans (HN2.out #[.int .u8 (y : Nat), .string (str x.tx), .int .i64 x.n, .int .i64 x.off, .bool x.col, .bool x.whole])
              have HN1c := hidden hN1b
              have HN2c := hidden hN2b
              have hown : (((wr.alloc (.cells #[.bool false, .bool false, .int .i64 ind] 64)).alloc (.cells #[.int .u8 (y : Nat), .string (str x.tx), .int .i64 x.n, .int .i64 x.off, .bool x.col, .bool x.whole] 38)).alloc (.cells #[.int .u8 10] 5)).ownsRow w2.heap.size 5 1 (.slice pa q.length pc) q.length (bc q) := HRW.out.prow
              have hBs := HRW.out.bs
              have cn := cells_new ((wr.alloc (.cells #[.bool false, .bool false, .int .i64 ind] 64)).alloc (.cells #[.int .u8 (y : Nat), .string (str x.tx), .int .i64 x.n, .int .i64 x.off, .bool x.col, .bool x.whole] 38)) 5 [.int .u8 10]
              rw [World.size_alloc, World.size_alloc] at cn
              have q3 : q.length + 1 ≤ maxLen := by unfold maxLen; omega
              have q4 : (q.length + 1) * 1 ≤ 140737488355328 := by omega
              obtain ⟨N, hN⟩ : ∃ N, (ind + x.off).toNat = N := ⟨_, rfl⟩
              have HNN := hidden hN
              clear hN1b hN2b hN
              go_wp2_with (at_builtin; refine wpList_append_own _ rfl _ _ 33 rfl w2.heap.size 5 i5 (.int .u8 0) 1 1 Try.underlying33 hi5 hz5 hy5 hb5 rfl (by decide) _ _ _ rfl hown ⟨wr.heap.size + 1 + 1, 0, none⟩ 1 1 [.int .u8 10] rfl rfl cn (one1 _ _) q3 q4 hBs ?_)
              intro v' w3 hr hg _
              obtain ⟨ua, uc, rfl⟩ := row_slice hr
              have HR3 := hidden (HRW.out.text (p' := q ++ [10]) 0 (by rw [List.length_append, List.length_singleton, bc_app]; exact hr) hg)
              have hN13 := heap_grown hown hg HN1c.out (by decide)
              have hN23 := heap_grown hown hg HN2c.out (by decide)
              have j2 := cell_of' hN13 2
              have i3 := cell_of' hN23 3
              simp only [List.getElem?_toArray, List.getElem?_cons_zero, List.getElem?_cons_succ] at j2 i3
              clear hr hg hown cn hBs hN13 hN23
              by_cases hneg : ind + x.off < 0
              · have HN0 : Hid (N = 0) := by unfold Hid; have := HNN.out; omega
                have HS1 : Hid (stepL wd ⟨q, col, ⟨false, false, ind⟩, gs⟩ x (l.drop (k + 1)) = ⟨q ++ [10] ++ sp N, (0 : Int), ⟨false, false, ind⟩, gs⟩) := by
                  unfold Hid
                  rw [stepL_gap _ _ _ _ K2.out, if_neg (by simp [HSZ.out]; omega)]
                  simp only [HNN.out]
                  have hcc : ((N : Nat) : Int) = (0 : Int) := by have := HN0.out; omega
                  rw [hcc]
                have cs := spread_any HR3.out.prow HR3.out.bs (0 : Int) (by omega) (by show (q ++ [10]).length ≤ 1000000; rw [List.length_append, List.length_singleton]; omega)
                have hl1' : (q ++ [10]).length = q.length + 1 := by simp
                have HCN : Hid (((0 : Int) : Int).toNat = N) := by unfold Hid; have := HN0.out; omega
                go_wp2_with fail
                refine cs.mono ?_
                clear cs
                intro e w4 hsp
                rcases hsp with ⟨hb, rfl, rfl⟩ | ⟨hle, v', rfl, hgb⟩
                · rw [hl1'] at hb
                  have HNo : Hid (lay wd l s0 = none) := by
                    unfold Hid
                    rw [HL2.out, HS1.out, if_pos]
                    show 65536 < (q ++ [10] ++ sp N).length
                    rw [List.length_append, sp_len, hl1']
                    have := HCN.out
                    omega
                  have HB4 := hidden (HBw.out.trans (HR3.out.bel.mono HBw.out.size))
                  clear hb
                  go_wp2_with fail
                  go_ret2
                  exact ⟨layB_none HNo.out, HB4.out⟩
                · rw [HCN.out] at hgb
                  rw [hl1'] at hle
                  have HR4 := HR3.out.text (p' := q ++ [10] ++ sp N) (0 : Int) hgb.row hgb.gr
                  obtain ⟨oa, oc, rfl⟩ := row_slice hgb.row
                  have hpl : (q ++ [10] ++ sp N).length = q.length + 1 + N := by rw [List.length_append, sp_len, hl1']
                  have hnb : q.length + 1 + N ≤ 65536 := by have := HCN.out; omega
                  have hmm : ¬ ((65536 : Int) < (q.length : Int) + 1 + (N : Int)) := by omega
                  rw [hpl] at HR4 ⊢
                  have HRL := hidden HR4
                  have Hle : Hid ((q ++ [10] ++ sp N).length ≤ most) := by unfold Hid; rw [hpl]; exact hnb
                  have HNx : Hid (lay wd (l.drop (k + 1)) ⟨q ++ [10] ++ sp N, (0 : Int), ⟨false, false, ind⟩, gs⟩ = lay wd l s0) := by
                    unfold Hid
                    rw [HL2.out, HS1.out, if_neg (Nat.not_lt_of_le Hle.out)]
                  have HLI := hidden (Hst.out (by rw [HS1.out]; exact Hle.out))
                  rw [HS1.out] at HLI
                  clear hgb hle hpl HR4 hl1'
                  go_wp2_with fail
                  go_roundw
                  case rel => exact ⟨k + 1, ⟨q ++ [10] ++ sp N, (0 : Int), ⟨false, false, ind⟩, gs⟩, hlt, by go_num, rfl, HLI.out, Hle.out, HNx.out, HRL.out⟩
                  case measure => simp [intOf]; omega
              · have HN0 : Hid ((N : Int) = ind + x.off) := by unfold Hid; have := HNN.out; omega
                have HS1 : Hid (stepL wd ⟨q, col, ⟨false, false, ind⟩, gs⟩ x (l.drop (k + 1)) = ⟨q ++ [10] ++ sp N, (ind + x.off), ⟨false, false, ind⟩, gs⟩) := by
                  unfold Hid
                  rw [stepL_gap _ _ _ _ K2.out, if_neg (by simp [HSZ.out]; omega)]
                  simp only [HNN.out]
                  have hcc : ((N : Nat) : Int) = (ind + x.off) := by have := HN0.out; omega
                  rw [hcc]
                have cs := spread_any HR3.out.prow HR3.out.bs (ind + x.off) (by omega) (by show (q ++ [10]).length ≤ 1000000; rw [List.length_append, List.length_singleton]; omega)
                have hl1' : (q ++ [10]).length = q.length + 1 := by simp
                have HCN : Hid (((ind + x.off) : Int).toNat = N) := by unfold Hid; have := HN0.out; omega
                go_wp2_with fail
                refine cs.mono ?_
                clear cs
                intro e w4 hsp
                rcases hsp with ⟨hb, rfl, rfl⟩ | ⟨hle, v', rfl, hgb⟩
                · rw [hl1'] at hb
                  have HNo : Hid (lay wd l s0 = none) := by
                    unfold Hid
                    rw [HL2.out, HS1.out, if_pos]
                    show 65536 < (q ++ [10] ++ sp N).length
                    rw [List.length_append, sp_len, hl1']
                    have := HCN.out
                    omega
                  have HB4 := hidden (HBw.out.trans (HR3.out.bel.mono HBw.out.size))
                  clear hb
                  go_wp2_with fail
                  go_ret2
                  exact ⟨layB_none HNo.out, HB4.out⟩
                · rw [HCN.out] at hgb
                  rw [hl1'] at hle
                  have HR4 := HR3.out.text (p' := q ++ [10] ++ sp N) (ind + x.off) hgb.row hgb.gr
                  obtain ⟨oa, oc, rfl⟩ := row_slice hgb.row
                  have hpl : (q ++ [10] ++ sp N).length = q.length + 1 + N := by rw [List.length_append, sp_len, hl1']
                  have hnb : q.length + 1 + N ≤ 65536 := by have := HCN.out; omega
                  have hmm : ¬ ((65536 : Int) < (q.length : Int) + 1 + (N : Int)) := by omega
                  rw [hpl] at HR4 ⊢
                  have HRL := hidden HR4
                  have Hle : Hid ((q ++ [10] ++ sp N).length ≤ most) := by unfold Hid; rw [hpl]; exact hnb
                  have HNx : Hid (lay wd (l.drop (k + 1)) ⟨q ++ [10] ++ sp N, (ind + x.off), ⟨false, false, ind⟩, gs⟩ = lay wd l s0) := by
                    unfold Hid
                    rw [HL2.out, HS1.out, if_neg (Nat.not_lt_of_le Hle.out)]
                  have HLI := hidden (Hst.out (by rw [HS1.out]; exact Hle.out))
                  rw [HS1.out] at HLI
                  clear hgb hle hpl HR4 hl1'
                  go_wp2_with fail
                  go_roundw
                  case rel => exact ⟨k + 1, ⟨q ++ [10] ++ sp N, (ind + x.off), ⟨false, false, ind⟩, gs⟩, hlt, by go_num, rfl, HLI.out, Hle.out, HNx.out, HRL.out⟩
                  case measure => simp [intOf]; omega
      have z2 : ((y : Int) == 2) = false := by simp; omega
      have HS1 : Hid (stepL wd ⟨q, col, ⟨fl, wh, ind⟩, gs⟩ x (l.drop (k + 1)) = ⟨q, col, ⟨fl, wh, ind⟩, gs⟩) := by
        unfold Hid
        have h1 : ¬ x.kind = 1 := by rw [HY.out]; exact k1
        have h2 : ¬ x.kind = 2 := by rw [HY.out]; exact k2
        have h3 : ¬ x.kind = 3 := by rw [HY.out]; exact k3
        have h4 : ¬ x.kind = 4 := by rw [HY.out]; exact k4
        simp [stepL, h1, h2, h3, h4]
      have HRL := hidden (HW.out #[.int .u8 (y : Nat), .string (str x.tx), .int .i64 x.n, .int .i64 x.off, .bool x.col, .bool x.whole])
      clear k1 k2 k3 k4
      have HNx : Hid (lay wd (l.drop (k + 1)) (⟨q, col, ⟨fl, wh, ind⟩, gs⟩) = lay wd l s0) := by
        unfold Hid
        rw [HL2.out, HS1.out, if_neg (Nat.not_lt_of_le Hm.out)]
      have HLI := hidden (Hst.out (by rw [HS1.out]; exact Hm.out))
      rw [HS1.out] at HLI
      go_wp2_with fail
      go_roundw
      case rel => exact ⟨k + 1, ⟨q, col, ⟨fl, wh, ind⟩, gs⟩, hlt, by go_num, rfl, HLI.out, Hm.out, HNx.out, HRL.out⟩
      case measure => simp [intOf]; omega
    · have hlz : ¬ ((k : Int) < (n : Int)) := by omega
      have hkn : l.drop k = [] := by rw [List.drop_eq_nil_iff, Hn.out]; omega
      rw [hkn] at hlay
      have HNo : Hid (lay wd l s0 = some q) := hlay.symm
      have HP := hidden R.prow
      have HB := hidden (HBw.out.trans (R.bel.mono HBw.out.size))
      clear hlay hkn R hli
      go_wp2_with fail
      go_ret2
      exact ⟨by rw [HNo.out]; exact ⟨_, w2.heap.size, rfl, HBw.out.size, HP.out⟩, HB.out⟩
end Go.Proofs.PlatenLayout
