/- The document's Ends. -/
import Derived.Test.YtaefnlknendapaaLzA
namespace Go.Proofs.PlatenLayout
open Go Go.RowKit Go.Shelf
set_option linter.unusedVariables false
set_option maxRecDepth 100000

/-- Two rows of one's own, apart. -/
structure TwoR (B : Nat) (w : World) (u v : Value) (xs : List Int) (ys : List Nat) : Prop where
  a : w.ownsRow B 3 1 u xs.length (zs xs)
  b : w.ownsRow B 3 1 v ys.length (ps ys)
  dis : ∀ q, u.ownBlock = some q → v.ownBlock ≠ some q
  bs : B ≤ w.heap.size
theorem TwoR.grown {B : Nat} {w w' : World} {u v : Value} {xs : List Int} {ys : List Nat} (h : TwoR B w u v xs ys) (hg : w.grownBy w' none) : TwoR B w' u v xs ys :=
  ⟨row_grown h.a hg (by simp), row_grown h.b hg (by simp), h.dis, Nat.le_trans h.bs hg.size⟩
theorem zs_app (a b : List Int) : zs (a ++ b) = zs a ++ zs b := by simp [zs]
theorem TwoR.pushA {B : Nat} {w w' : World} {u v u' : Value} {xs : List Int} {ys : List Nat} {x : Int} (h : TwoR B w u v xs ys) (hr : w'.ownsRow B 3 1 u' (xs.length + 1) (zs xs ++ [.int .i64 x])) (hg : w.grownBy w' u.ownBlock) (hl : u'.ownBlock = u.ownBlock ∨ ∃ m, w.heap.size ≤ m ∧ u'.ownBlock = some m) : TwoR B w' u' v (xs ++ [x]) ys where
  a := by rw [List.length_append, List.length_singleton, zs_app]; exact hr
  b := row_grown h.b hg (fun k hk e => h.dis k e hk)
  dis := fun q hq e => by
    rcases hl with l | ⟨m, hm, l⟩
    · exact h.dis q (l ▸ hq) e
    · rw [l] at hq
      injection hq with hq
      have := (h.b.lt q e).2
      omega
  bs := Nat.le_trans h.bs hg.size
theorem TwoR.pushB {B : Nat} {w w' : World} {u v v' : Value} {xs : List Int} {ys : List Nat} {y : Nat} (h : TwoR B w u v xs ys) (hr : w'.ownsRow B 3 1 v' (ys.length + 1) (ps ys ++ [.int .i64 (y : Nat)])) (hg : w.grownBy w' v.ownBlock) (hl : v'.ownBlock = v.ownBlock ∨ ∃ m, w.heap.size ≤ m ∧ v'.ownBlock = some m) : TwoR B w' u v' xs (ys ++ [y]) where
  a := row_grown h.a hg (fun k hk e => h.dis k hk e)
  b := by rw [List.length_append, List.length_singleton, ps_app]; exact hr
  dis := fun q hq e => by
    rcases hl with l | ⟨m, hm, l⟩
    · exact h.dis q hq (l ▸ e)
    · rw [l] at e
      injection e with e
      have := (h.a.lt q hq).2
      omega
  bs := Nat.le_trans h.bs hg.size
theorem TwoR.setA {B g n cap : Nat} {w : World} {v : Value} {xs : List Int} {ys : List Nat} (h : TwoR B w (.slice (some ⟨g, 0, none⟩) n cap) v xs ys) (hn : n = xs.length) (j : Nat) (x : Int) : TwoR B (w.setCell ⟨g, j, none⟩ (.int .i64 x)) (.slice (some ⟨g, 0, none⟩) n cap) v (xs.set j x) ys where
  a := by
    have h1 := h.a
    subst hn
    have h2 := (h1.stored j (.int .i64 x)).1
    rw [List.length_set]
    have e : zs (xs.set j x) = (zs xs).set j (.int .i64 x) := by simp [zs, List.map_set]
    rw [e]; exact h2
  b := row_same h.b (fun k hk => set_other _ _ _ _ _ (fun e => h.dis g rfl (by rw [hk, e])))
  dis := h.dis
  bs := by simpa using h.bs

theorem ei_start (l : List It) : EI l 0 [] [] := ⟨Nat.zero_le _, rfl, fun j hj => absurd hj (Nat.not_lt_zero _), fun t j h => by simp at h, fun j hj => absurd hj (Nat.not_lt_zero _), List.nodup_nil⟩
theorem set_snoc {α : Type} (l : List α) (a b : α) : (l ++ [a]).set l.length b = l ++ [b] := by
  rw [List.set_append_right _ _ (Nat.le_refl _), Nat.sub_self]
  rfl
theorem ends_eq {l : List It} {out : List Int} {os : List Nat} (E : EI l l.length out os) : out = ends l := by
  apply List.ext_getElem?
  intro j
  by_cases hj : j < l.length
  · rw [ei_all E j hj, ends_get l hj]
  · rw [List.getElem?_eq_none (by rw [E.len]; omega), List.getElem?_eq_none (by rw [ends_len]; omega)]
set_option maxHeartbeats 4000000 in
theorem ends_any {v : Value} {l : List It} {w : World} (h : IsItems w v l) (ok : OkL l) :
    Calls Try.prog 20 #[v] w fun e w' => ∃ u, e = .returned u ∧ IsZ w' u (ends l) ∧ Below w.heap.size w w' := by
  obtain ⟨i3, hi3, hz3, hy3, hb3⟩ := info_parts info3
  obtain ⟨a, cap, rfl⟩ := h.val
  have hl1 := ok.1
  have HL := hidden h
  obtain ⟨n, hn⟩ : ∃ n, l.length = n := ⟨_, rfl⟩
  rw [hn] at hl1 ⊢
  have Hn := hidden hn
  clear h ok hn
  go_enter Try.func20, Try.ntmps20
  go_wp2_with fail
  go_loopw [3, 4, 5] (fun ov pv iv wr => ∃ (k : Nat) (out : List Int) (os : List Nat), k ≤ n ∧ iv = .int .i64 (k : Nat) ∧ EI l k out os ∧ TwoR w.heap.size wr ov pv out os ∧ Below w.heap.size w wr) (fun _ _ iv _ => n - (intOf iv).toNat)
  case atStart => exact ⟨0, [], [], Nat.zero_le _, rfl, ei_start l, ⟨World.ownsRow_nil _ _ _ _, World.ownsRow_nil _ _ _ _, (fun q hq => by cases hq), Nat.le_refl _⟩, Below.refl _ _⟩
  case round =>
    obtain ⟨k, out, os, hk, rfl, E, R, hbel⟩ := hrel
    by_cases hlt : k < n
    · have hll : k < l.length := by rw [Hn.out]; exact hlt
      have hol : out.length = k := E.len
      have hos : os.length ≤ 1000 := by
        have := nodup_lt k os E.nd (fun j hj => by
          obtain ⟨t, ht⟩ := List.getElem?_of_mem (List.mem_reverse.2 hj)
          exact (E.opn t j ht).1)
        omega
      have hlz : (k : Int) < (n : Int) := by omega
      have R1 := R.grown (grownBy_alloc wr (.cells #[.int .i64 (-1)] 3))
      have hown := R1.a
      have hB := R1.bs
      have cn := cells_new wr 3 [.int .i64 (-1)]
      have q3 : out.length + 1 ≤ maxLen := by unfold maxLen; omega
      have q4 : (out.length + 1) * 8 ≤ 140737488355328 := by omega
      have HR1 := hidden R1
      have HE := hidden E
      have HB1 := hidden (hbel.alloc R.bs (.cells #[.int .i64 (-1)] 3))
      have HOL := hidden hol
      have hob : out.length ≤ 1000 := by omega
      clear E R R1 hbel hol
      go_wp2_with (at_builtin; refine wpList_append_at _ rfl _ _ 26 rfl w.heap.size 3 i3 (.int .i64 0) 1 8 Try.underlying26 hi3 hz3 hy3 hb3 rfl (by decide) _ _ _ rfl hown ⟨wr.heap.size, 0, none⟩ 1 1 [.int .i64 (-1)] rfl rfl cn (one1 _ _) q3 q4 hB (by decide) ?_)
      intro v' w1 hr hg hloc
      rcases hr.2 with ⟨_, h0⟩ | ⟨g, gc, cur, rfl, hbg, hgh, hnc, hcm, hcs, htk⟩
      · omega
      have R2 := HR1.out.pushA hr hg (hloc.imp id (fun e => ⟨_, by simp, e⟩))
      have hb1 := HB1.out.grown hg HR1.out.bs (fun q hq => (HR1.out.a.lt q hq).1)
      obtain ⟨b, off, cp, hv, hcap, x0, x1, x2, x3, x4, x5⟩ := (HL.out.below hb1).at' hll
      obtain ⟨x, hxx⟩ : ∃ x, l[k] = x := ⟨_, rfl⟩
      have hkd : kd l k = x.kind := by rw [kd_get hll, hxx]
      rw [hxx] at x0
      rw [Hn.out] at hv hcap
      injection hv with hv1 hv2 hv3
      subst hv1 hv3
      have hol := HOL.out
      clear hr hg hloc htk
      rw [hol] at R2 ⊢
      have HKD := hidden hkd
      have HB2 := hidden hb1
      have HR2 := hidden R2
      clear hbg hgh hnc hcm hcs hxx hv2 x1 x2 x3 x4 x5 hkd hb1 cn hown hB
      generalize x.kind = y at *
      have ha : w1.ownsRow w.heap.size 3 1 (.slice (some ⟨g, 0, none⟩) (k + 1) gc) (k + 1) (zs (out ++ [-1])) := by
        have h1 := HR2.out.a
        rw [List.length_append, List.length_singleton, hol] at h1
        exact h1
      have Ha := hidden ha
      clear ha
      obtain ⟨oa, oc, ho4⟩ := row_slice HR2.out.b
      subst ho4
      by_cases k3 : y = 3
      · have z3 : ((y : Int) == 3) = true := by simp; omega
        have z4 : ((y : Int) == 4) = false := by simp; omega
        have d1 : w1.cell? ⟨g, k, none⟩ = some (.int .i64 (-1)) := by
          rw [Ha.out.cellAt k (by omega)]
          simp only [zs, List.map_append]
          rw [List.getElem?_append_right (by simp [hol])]
          simp [hol]
        have f1 := Ha.out.frozenAt k
        have R3 := HR2.out.setA (by simp [hol]) k (n : Int)
        have he : (out ++ [-1]).set k (n : Int) = out ++ [(n : Int)] := by rw [← hol]; exact set_snoc _ _ _
        rw [he] at R3
        have R4 := R3.grown (grownBy_alloc _ (.cells #[.int .i64 (k : Nat)] 3))
        have hown := R4.b
        have hB := R4.bs
        have cn := cells_new (w1.setCell ⟨g, k, none⟩ (.int .i64 (n : Int))) 3 [.int .i64 (k : Nat)]
        have hsz : (w1.setCell ⟨g, k, none⟩ (.int .i64 (n : Int))).heap.size = w1.heap.size := by simp
        rw [hsz] at cn
        have p3 : os.length + 1 ≤ maxLen := by unfold maxLen; omega
        have p4 : (os.length + 1) * 8 ≤ 140737488355328 := by omega
        have hgB : w.heap.size ≤ g := (Ha.out.lt g rfl).1
        have HR4 := hidden R4
        have HB4 := hidden ((HB2.out.setCell (p := ⟨g, k, none⟩) hgB (.int .i64 (n : Int))).alloc (by rw [hsz]; exact HR2.out.bs) (.cells #[.int .i64 (k : Nat)] 3))
        have hE := ei_begin HE.out hll (HKD.out.trans k3)
        rw [Hn.out] at hE
        have HE3 := hidden hE
        clear R3 R4 he hsz hE
        go_wp2_with (at_builtin; refine wpList_append_at _ rfl _ _ 26 rfl w.heap.size 3 i3 (.int .i64 0) 1 8 Try.underlying26 hi3 hz3 hy3 hb3 rfl (by decide) _ _ _ rfl hown ⟨w1.heap.size, 0, none⟩ 1 1 [.int .i64 (k : Nat)] rfl rfl cn (one1 _ _) p3 p4 hB (by decide) ?_)
        intro v' w5 hr hg hloc
        have R5 := HR4.out.pushB hr hg (hloc.imp id (fun e => ⟨w1.heap.size + 1, by simp, e⟩))
        have hb5 := HB4.out.grown hg HR4.out.bs (fun q hq => (HR4.out.b.lt q hq).1)
        obtain ⟨b', off', cp', hv', hcap', y0, y1, y2, y3, y4, y5⟩ := (HL.out.below hb5).at' hll
        injection hv' with hv1 hv2 hv3
        injection hv1 with hv1
        injection hv1 with hb' hoff'
        subst hb' hoff'
        have hy := HKD.out
        rw [kd_get hll] at hy
        rw [hy] at y0
        have HR5 := hidden R5
        have HB5 := hidden hb5
        clear hr hg hloc R5 hb5 hv2 hv3 hcap' y1 y2 y3 y4 y5 hy hown hB cn d1 f1 x0
        go_wp2_with fail
        go_roundw
        case rel => exact ⟨k + 1, _, _, hlt, by go_num, HE3.out, HR5.out, HB5.out⟩
        case measure => simp [intOf]; omega
      have z3 : ((y : Int) == 3) = false := by simp; omega
      by_cases k4 : y = 4
      · have z4 : ((y : Int) == 4) = true := by simp; omega
        rcases List.eq_nil_or_concat os with hO | ⟨os', j0, hO⟩
        · subst hO
          have HE3 := hidden (ei_none HE.out hll (HKD.out.trans k4))
          go_wp2_with fail
          go_roundw
          case rel => exact ⟨k + 1, _, [], hlt, by go_num, HE3.out, HR2.out, HB2.out⟩
          case measure => simp [intOf]; omega
        · rw [List.concat_eq_append] at hO
          subst hO
          have hj0 := (HE.out.opn 0 j0 (by simp)).1
          have HE3 := hidden (ei_end HE.out hll (HKD.out.trans k4))
          obtain ⟨g2, rfl⟩ : ∃ g2, oa = some ⟨g2, 0, none⟩ := by
            rcases HR2.out.b.2 with ⟨e, h0⟩ | ⟨g2, cp2, cur2, e, _⟩
            · simp at h0
            · injection e with e1
              exact ⟨g2, e1⟩
          have hoc : os'.length + 1 ≤ oc := by
            rcases HR2.out.b.2 with ⟨e, h0⟩ | ⟨g2, cp2, cur2, e, hbg, hgh, hnc, _⟩
            · simp at h0
            · injection e with e1 e2 e3
              rw [List.length_append, List.length_singleton] at hnc
              omega
          have k6 : w1.cell? ⟨g2, os'.length, none⟩ = some (.int .i64 (j0 : Nat)) := by
            rw [HR2.out.b.cellAt os'.length (by simp)]
            simp [ps]
          have hd : ∃ dv, (out ++ [-1])[j0]? = some dv := ⟨_, List.getElem?_eq_getElem (by simp; omega)⟩
          obtain ⟨dv, hdv⟩ := hd
          have d1 : w1.cell? ⟨g, j0, none⟩ = some (.int .i64 dv) := by
            rw [Ha.out.cellAt j0 (by omega)]
            simp only [zs, List.getElem?_map, hdv]
            rfl
          have f1 := Ha.out.frozenAt j0
          have R3 := HR2.out.setA (by simp [hol]) j0 (k : Int)
          have hcut := prow_cut R3.b (f := os'.length) (by simp)
          have hgB : w.heap.size ≤ g := (Ha.out.lt g rfl).1
          have HB3 := hidden (HB2.out.setCell (p := ⟨g, j0, none⟩) hgB (.int .i64 (k : Int)))
          have HR3 : Hid (TwoR w.heap.size (w1.setCell ⟨g, j0, none⟩ (.int .i64 (k : Int))) (.slice (some ⟨g, 0, none⟩) (k + 1) gc) (.slice (some ⟨g2, 0, none⟩) os'.length oc) ((out ++ [-1]).set j0 (k : Int)) os') := by
            refine ⟨R3.a, ?_, R3.dis, R3.bs⟩
            have e : (os' ++ [j0]).take os'.length = os' := List.take_left
            rw [e] at hcut
            exact hcut
          have hos2 : os'.length ≤ 1000 := by simp at hos; omega
          have hll2 : (os' ++ [j0]).length = os'.length + 1 := by simp
          have hjk : j0 < k + 1 := by omega
          clear R3 hcut hdv hos
          rw [hll2]
          generalize hm : os'.length = m at *
          have HM := hidden hm
          clear hm
          go_wp2_with fail
          go_roundw
          case rel => exact ⟨k + 1, _, os', hlt, by go_num, HE3.out, HR3.out, HB3.out⟩
          case measure => simp [intOf]; omega
      have z4 : ((y : Int) == 4) = false := by simp; omega
      have HE3 := hidden (ei_other HE.out hll (by rw [HKD.out]; exact k3) (by rw [HKD.out]; exact k4))
      go_wp2_with fail
      go_roundw
      case rel => exact ⟨k + 1, _, _, hlt, by go_num, HE3.out, HR2.out, HB2.out⟩
      case measure => simp [intOf]; omega
    · have hkn : k = l.length := by rw [Hn.out]; omega
      have hlz : ¬ ((k : Int) < (n : Int)) := by omega
      subst hkn
      have HEQ := hidden (ends_eq E)
      have HR := hidden R.a
      clear E R hlt hk
      go_wp2_with fail
      go_ret
      exact ⟨_, rfl, by rw [← HEQ.out]; exact isZ_of HR.out, hbel⟩
end Go.Proofs.PlatenLayout
