/- The document's blanks, own and next. -/
import Derived.Test.YtfakfgmengcndaaGreatKI
import Derived.Test.YtfakfgmengcndaaGreatKJ
namespace Go.Proofs.PlatenLayout
open Go Go.RowKit Go.Shelf
set_option linter.unusedVariables false
set_option maxRecDepth 100000

theorem cell_of' {w : World} {k : Nat} {x : Array Value} {t : TypeId} (h : w.heap[k]? = some (.cells x t (0, 0))) (j : Nat) : w.cell? ⟨k, j, none⟩ = x[j]? := by simp [World.cell?, h]
set_option maxHeartbeats 1000000 in
theorem blanks_any (x : It) (w : World) (m : Nat) (hm : x.n.toNat = m) : Calls Tryz.prog 16 #[.agg #[.int .u8 (x.kind : Nat), .string (str x.tx), .int .i64 x.n, .int .i64 x.off, .bool x.col, .bool x.whole]] w fun e w' => e = .returned (.int .i64 (m : Nat)) ∧ Below w.heap.size w w' := by
  have hM : (w.alloc (.cells #[.int .u8 (x.kind : Nat), .string (str x.tx), .int .i64 x.n, .int .i64 x.off, .bool x.col, .bool x.whole] 47)).heap[w.heap.size]? = some (.cells #[.int .u8 (x.kind : Nat), .string (str x.tx), .int .i64 x.n, .int .i64 x.off, .bool x.col, .bool x.whole] 47 (0, 0)) := heap_alloc_new _ _
  have i2 := cell_of' hM 2
  simp only [List.getElem?_toArray, List.getElem?_cons_zero, List.getElem?_cons_succ] at i2
  have HB := hidden ((Below.refl w.heap.size w).alloc (Nat.le_refl _) (.cells #[.int .u8 (x.kind : Nat), .string (str x.tx), .int .i64 x.n, .int .i64 x.off, .bool x.col, .bool x.whole] 47))
  clear hM
  by_cases hn : x.n < 0
  · have HE : Hid (m = 0) := by unfold Hid; omega
    clear hm
    go_enter Tryz.func16, Tryz.ntmps16
    go_wp2
    go_ret
    exact ⟨by rw [HE.out]; rfl, HB.out⟩
  · have HE : Hid ((m : Int) = x.n) := by unfold Hid; omega
    clear hm
    go_enter Tryz.func16, Tryz.ntmps16
    go_wp2
    go_ret
    exact ⟨by rw [HE.out]; rfl, HB.out⟩
/-- []byte of a text, byte by byte. -/
theorem conv_cells (w : World) (l : List Nat) (h : ∀ c ∈ l, c < 256) (hl : l.length ≤ 100000) : ∃ cap w2, (convert 9 25 (.string (str l))).run Tryz.prog w = .ok (.slice (some ⟨w.heap.size, 0, none⟩) l.length cap) w2 ∧ (∀ j, l.getD j 0 < 256) ∧ l.length ≤ cap ∧ PlatenGlyph.Cells w2 w.heap.size 0 l.length (fun j => l.getD j 0) ∧ w.grownBy w2 none := by
  have hs := str_size l
  refine ⟨grownCap w l.length 0 5, _, by rw [run_bytes_of_string (P := Tryz.prog) w 9 25 5 (str l) Tryz.underlying9 Tryz.underlying25 Tryz.underlying5, hs], fun j => ?_, ?_, fun j hj => ?_, ?_⟩
  · rw [List.getD_eq_getElem?_getD]
    cases hj : l[j]? with
    | none => decide
    | some c => exact h c (List.mem_of_getElem? hj)
  · have := grownCap_ge w l.length 0 5; omega
  · have hh : ∀ o, (w.drew.alloc o).heap[w.heap.size]? = some o := fun o => heap_alloc_new w.drew o
    simp only [World.cell?, hh]
    have hj3 : j < (str l).size := by rw [hs]; exact hj
    have hj4 : j < (l.map UInt8.ofNat).length := by simpa using hj
    have hc := h l[j] (List.getElem_mem hj)
    simp [bytesRow, Array.getElem?_append, hj, str, List.getD_eq_getElem?_getD]
    omega
  · exact ⟨rfl, rfl, rfl, by simp, fun k hk _ => Below.heap_alloc w.drew _ k hk⟩
set_option maxHeartbeats 2000000 in
theorem own_any (x : It) (ok : OkIt x) (w : World) : Calls Tryz.prog 32 #[.agg #[.int .u8 (x.kind : Nat), .string (str x.tx), .int .i64 x.n, .int .i64 x.off, .bool x.col, .bool x.whole]] w fun e w' => e = .returned (.int .i64 (x.own : Nat)) ∧ Below w.heap.size w w' := by
  have hM : (w.alloc (.cells #[.int .u8 (x.kind : Nat), .string (str x.tx), .int .i64 x.n, .int .i64 x.off, .bool x.col, .bool x.whole] 47)).heap[w.heap.size]? = some (.cells #[.int .u8 (x.kind : Nat), .string (str x.tx), .int .i64 x.n, .int .i64 x.off, .bool x.col, .bool x.whole] 47 (0, 0)) := heap_alloc_new _ _
  have hB := (Below.refl w.heap.size w).alloc (Nat.le_refl _) (.cells #[.int .u8 (x.kind : Nat), .string (str x.tx), .int .i64 x.n, .int .i64 x.off, .bool x.col, .bool x.whole] 47)
  have i0 := cell_of' hM 0
  have i1 := cell_of' hM 1
  have i2 := cell_of' hM 2
  have i3 := cell_of' hM 3
  have i4 := cell_of' hM 4
  have i5 := cell_of' hM 5
  simp only [List.getElem?_toArray, List.getElem?_cons_zero, List.getElem?_cons_succ] at i0 i1 i2 i3 i4 i5
  have HB := hidden hB
  clear hM hB
  by_cases k1 : x.kind = 1
  · have z1 : ((x.kind : Int) == 1) = true := by simp; omega
    have HO : Hid (x.own = x.ch) := by unfold Hid It.own; rw [if_pos k1]
    obtain ⟨cc, w2, hcv, hf, hcap, hcells, hg2⟩ := conv_cells (w.alloc (.cells #[.int .u8 (x.kind : Nat), .string (str x.tx), .int .i64 x.n, .int .i64 x.off, .bool x.col, .bool x.whole] 47)) x.tx ok.tx (by have := ok.len; omega)
    rw [World.size_alloc] at hcv hcells
    have cs := PlatenGlyph.starts_row _ _ _ _ _ w2 hf (by have := ok.len; omega) hcap hcells
    rw [← ok.ch] at cs
    have hB2 := HB.out.grown hg2 (by simp) (by simp)
    have hsz2 : w.heap.size ≤ w2.heap.size := hB2.size
    have HB2 := hidden hB2
    clear k1 hf hcells hB2 hg2 HB
    go_enter Tryz.func32, Tryz.ntmps32
    go_wp2_with fail
    refine cs.mono ?_
    clear cs
    rintro e w3 ⟨v, rfl, hr, hb3⟩
    obtain ⟨va, vc, rfl⟩ := row_slice hr
    have HB3 := hidden (HB2.out.trans (hb3.mono hsz2))
    clear hr hb3
    go_wp2_with fail
    go_ret
    exact ⟨by rw [HO.out]; rfl, HB3.out⟩
  have z1 : ((x.kind : Int) == 1) = false := by simp; omega
  by_cases k2 : x.kind = 2
  · have z2 : ((x.kind : Int) == 2) = true := by simp; omega
    obtain ⟨m, hm⟩ : ∃ m, x.n.toNat = m := ⟨_, rfl⟩
    have HO : Hid (x.own = m) := by unfold Hid It.own; rw [if_neg k1, if_pos k2]; exact hm
    have cb := blanks_any x (w.alloc (.cells #[.int .u8 (x.kind : Nat), .string (str x.tx), .int .i64 x.n, .int .i64 x.off, .bool x.col, .bool x.whole] 47)) m hm
    clear k1 k2 hm
    go_enter Tryz.func32, Tryz.ntmps32
    go_wp2_with fail
    refine cb.mono ?_
    clear cb
    rintro e w3 ⟨rfl, hb3⟩
    have HB3 := hidden (HB.out.trans (hb3.mono (by simp)))
    clear hb3
    go_wp2_with fail
    go_ret
    exact ⟨by rw [HO.out]; rfl, HB3.out⟩
  have z2 : ((x.kind : Int) == 2) = false := by simp; omega
  have HO : Hid (x.own = 0) := by unfold Hid It.own; rw [if_neg k1, if_neg k2]
  clear k1 k2
  go_enter Tryz.func32, Tryz.ntmps32
  go_wp2_with fail
  go_ret
  exact ⟨by rw [HO.out]; rfl, HB.out⟩
/-- Where groups end, as the document tells it. -/
def ends (l : List It) : List Int := (List.range l.length).map fun j => if kd l j = 3 then ((endI l j : Nat) : Int) else -1
theorem ends_len (l : List It) : (ends l).length = l.length := by simp [ends]
theorem ends_get (l : List It) {j : Nat} (h : j < l.length) : (ends l)[j]? = some (if kd l j = 3 then ((endI l j : Nat) : Int) else -1) := by simp [ends, h]
/-- A place behind f, up to which there is so much. -/
def NextPost (l : List It) (f n C : Nat) (w : World) (e : Ending) (w' : World) : Prop := ∃ s : Nat, e = .returned (.int .i64 (s : Nat)) ∧ f + 1 ≤ s ∧ s ≤ n ∧ pre l s = C ∧ w' = w
set_option maxHeartbeats 2000000 in
theorem next_any {v ev : Value} {l : List It} {w : World} (h : IsItems w v l) (hz : IsZ w ev (ends l)) (ok : OkL l) (f : Nat) (hf : f < l.length) :
    Calls Tryz.prog 31 #[v, ev, .int .i64 (f : Nat)] w (NextPost l f l.length (pre l (f + 1) + brk (l.drop (f + 1)) 0) w) := by
  obtain ⟨a, cap, rfl⟩ := h.val
  have hl1 := ok.1
  have HL := hidden h
  have HZ := hidden hz
  have hst := nx_start (l := l) (i := f + 1) hf
  obtain ⟨C, hC⟩ : ∃ C, pre l (f + 1) + brk (l.drop (f + 1)) 0 = C := ⟨_, rfl⟩
  rw [hC] at hst ⊢
  have HS := hidden hst
  obtain ⟨n, hn⟩ : ∃ n, l.length = n := ⟨_, rfl⟩
  rw [hn] at hl1 hf ⊢
  have Hn := hidden hn
  clear h hz ok hst hC hn
  go_enter Tryz.func31, Tryz.ntmps31
  go_wp2_with fail
  go_loopw [7] (fun iv wr => wr = w ∧ ∃ i : Nat, iv = .int .i64 (i : Nat) ∧ f + 1 ≤ i ∧ i ≤ n + 1 ∧ Nx l C i) (fun iv _ => n + 2 - (intOf iv).toNat)
  case atStart => exact ⟨rfl, f + 1, by go_num, Nat.le_refl _, by omega, HS.out⟩
  case round =>
    obtain ⟨rfl, i, rfl, hfi, hin, hx⟩ := hrel
    by_cases hlt : i < n
    · have hll : i < l.length := by rw [Hn.out]; exact hlt
      obtain ⟨b, off, cp, hv, hcap, x0, x1, x2, x3, x4, x5⟩ := HL.out.at' hll
      obtain ⟨x, hxx⟩ : ∃ x, l[i] = x := ⟨_, rfl⟩
      have hkd : kd l i = x.kind := by rw [kd_get hll, hxx]
      rw [hxx] at x0
      rw [Hn.out] at hv hcap
      injection hv with hv1 hv2 hv3
      subst hv1 hv3
      have hlz : (i : Int) < (n : Int) := by omega
      have HX := hidden hx
      have HKD := hidden hkd
      clear hx hxx hv2 x1 x2 x3 x4 x5 hkd
      generalize x.kind = y at *
      by_cases k3 : y = 3
      · have z3 : ((y : Int) == 3) = true := by simp; omega
        obtain ⟨zg, zc, hzv, hzc, zz⟩ := HZ.out.at' (ends_get l hll)
        rw [if_pos (HKD.out.trans k3)] at zz
        rw [ends_len, Hn.out] at hzv hzc
        subst hzv
        have hE := endI_le l i hll
        have HNX := hidden (nx_begin HX.out hll (HKD.out.trans k3))
        rw [Hn.out] at hE
        generalize endI l i = en at *
        have h1 := hE.1
        have h2 := hE.2
        clear hE
        go_wp2_with fail
        go_roundw
        case rel => exact ⟨trivial, en + 1, by go_num, by omega, by omega, HNX.out⟩
        case measure => simp [intOf]; omega
      have z3 : ((y : Int) == 3) = false := by simp; omega
      by_cases k2 : y = 2
      · have z2 : ((y : Int) == 2) = true := by simp; omega
        have HP := hidden (nx_break HX.out hll (HKD.out.trans k2))
        go_wp2_with fail
        go_ret
        exact ⟨i, rfl, hfi, by omega, HP.out.symm, rfl⟩
      have z2 : ((y : Int) == 2) = false := by simp; omega
      have HNX := hidden (nx_other HX.out hll (by rw [HKD.out]; exact k3) (by rw [HKD.out]; exact k2))
      go_wp2_with fail
      go_roundw
      case rel => exact ⟨trivial, i + 1, by go_num, by omega, by omega, HNX.out⟩
      case measure => simp [intOf]; omega
    · have hlz : ¬ ((i : Int) < (n : Int)) := by omega
      have HP := hidden (nx_end hx (by rw [Hn.out]; omega))
      clear hx
      go_wp2_with fail
      go_ret
      exact ⟨n, rfl, by omega, Nat.le_refl _, by rw [HP.out, Hn.out], rfl⟩
end Go.Proofs.PlatenLayout

/- The document's Ends. -/
namespace Go.Proofs.PlatenLayout
open Go Go.RowKit Go.Shelf
set_option linter.unusedVariables false
set_option maxRecDepth 100000

/-- Two rows of one's own, apart. -/
structure TwoR (B : Nat) (w : World) (u v : Value) (xs : List Int) (ys : List Nat) : Prop where
  a : w.ownsRow B 3 1 u xs.length (zs xs)
  b : w.ownsRow B 3 1 v ys.length (ps ys)
  dis : ∀ q, u.ownBlock = some q → v.ownBlock ≠ some q
  bs : B ≤ w.heap.size
theorem TwoR.grown {B : Nat} {w w' : World} {u v : Value} {xs : List Int} {ys : List Nat} (h : TwoR B w u v xs ys) (hg : w.grownBy w' none) : TwoR B w' u v xs ys :=
  ⟨row_grown h.a hg (by simp), row_grown h.b hg (by simp), h.dis, Nat.le_trans h.bs hg.size⟩
theorem zs_app (a b : List Int) : zs (a ++ b) = zs a ++ zs b := by simp [zs]
theorem TwoR.pushA {B : Nat} {w w' : World} {u v u' : Value} {xs : List Int} {ys : List Nat} {x : Int} (h : TwoR B w u v xs ys) (hr : w'.ownsRow B 3 1 u' (xs.length + 1) (zs xs ++ [.int .i64 x])) (hg : w.grownBy w' u.ownBlock) (hl : u'.ownBlock = u.ownBlock ∨ ∃ m, w.heap.size ≤ m ∧ u'.ownBlock = some m) : TwoR B w' u' v (xs ++ [x]) ys where
  a := by rw [List.length_append, List.length_singleton, zs_app]; exact hr
  b := row_grown h.b hg (fun k hk e => h.dis k e hk)
  dis := fun q hq e => by
    rcases hl with l | ⟨m, hm, l⟩
    · exact h.dis q (l ▸ hq) e
    · rw [l] at hq
      injection hq with hq
      have := (h.b.lt q e).2
      omega
  bs := Nat.le_trans h.bs hg.size
theorem TwoR.pushB {B : Nat} {w w' : World} {u v v' : Value} {xs : List Int} {ys : List Nat} {y : Nat} (h : TwoR B w u v xs ys) (hr : w'.ownsRow B 3 1 v' (ys.length + 1) (ps ys ++ [.int .i64 (y : Nat)])) (hg : w.grownBy w' v.ownBlock) (hl : v'.ownBlock = v.ownBlock ∨ ∃ m, w.heap.size ≤ m ∧ v'.ownBlock = some m) : TwoR B w' u v' xs (ys ++ [y]) where
  a := row_grown h.a hg (fun k hk e => h.dis k hk e)
  b := by rw [List.length_append, List.length_singleton, ps_app]; exact hr
  dis := fun q hq e => by
    rcases hl with l | ⟨m, hm, l⟩
    · exact h.dis q hq (l ▸ e)
    · rw [l] at e
      injection e with e
      have := (h.a.lt q hq).2
      omega
  bs := Nat.le_trans h.bs hg.size
theorem TwoR.setA {B g n cap : Nat} {w : World} {v : Value} {xs : List Int} {ys : List Nat} (h : TwoR B w (.slice (some ⟨g, 0, none⟩) n cap) v xs ys) (hn : n = xs.length) (j : Nat) (x : Int) : TwoR B (w.setCell ⟨g, j, none⟩ (.int .i64 x)) (.slice (some ⟨g, 0, none⟩) n cap) v (xs.set j x) ys where
  a := by
    have h1 := h.a
    subst hn
    have h2 := (h1.stored j (.int .i64 x)).1
    rw [List.length_set]
    have e : zs (xs.set j x) = (zs xs).set j (.int .i64 x) := by simp [zs, List.map_set]
    rw [e]; exact h2
  b := row_same h.b (fun k hk => set_other _ _ _ _ _ (fun e => h.dis g rfl (by rw [hk, e])))
  dis := h.dis
  bs := by simpa using h.bs

theorem ei_start (l : List It) : EI l 0 [] [] := ⟨Nat.zero_le _, rfl, fun j hj => absurd hj (Nat.not_lt_zero _), fun t j h => by simp at h, fun j hj => absurd hj (Nat.not_lt_zero _), List.nodup_nil⟩
theorem set_snoc {α : Type} (l : List α) (a b : α) : (l ++ [a]).set l.length b = l ++ [b] := by
  rw [List.set_append_right _ _ (Nat.le_refl _), Nat.sub_self]
  rfl
theorem ends_eq {l : List It} {out : List Int} {os : List Nat} (E : EI l l.length out os) : out = ends l := by
  apply List.ext_getElem?
  intro j
  by_cases hj : j < l.length
  · rw [ei_all E j hj, ends_get l hj]
  · rw [List.getElem?_eq_none (by rw [E.len]; omega), List.getElem?_eq_none (by rw [ends_len]; omega)]
set_option maxHeartbeats 4000000 in
theorem ends_any {v : Value} {l : List It} {w : World} (h : IsItems w v l) (ok : OkL l) :
    Calls Tryz.prog 30 #[v] w fun e w' => ∃ u, e = .returned u ∧ IsZ w' u (ends l) ∧ Below w.heap.size w w' := by
  obtain ⟨i3, hi3, hz3, hy3, hb3⟩ := info_parts info3
  obtain ⟨a, cap, rfl⟩ := h.val
  have hl1 := ok.1
  have HL := hidden h
  obtain ⟨n, hn⟩ : ∃ n, l.length = n := ⟨_, rfl⟩
  rw [hn] at hl1 ⊢
  have Hn := hidden hn
  clear h ok hn
  go_enter Tryz.func30, Tryz.ntmps30
  go_wp2_with fail
  go_loopw [3, 4, 5] (fun ov pv iv wr => ∃ (k : Nat) (out : List Int) (os : List Nat), k ≤ n ∧ iv = .int .i64 (k : Nat) ∧ EI l k out os ∧ TwoR w.heap.size wr ov pv out os ∧ Below w.heap.size w wr) (fun _ _ iv _ => n - (intOf iv).toNat)
  case atStart => exact ⟨0, [], [], Nat.zero_le _, rfl, ei_start l, ⟨World.ownsRow_nil _ _ _ _, World.ownsRow_nil _ _ _ _, (fun q hq => by cases hq), Nat.le_refl _⟩, Below.refl _ _⟩
  case round =>
    obtain ⟨k, out, os, hk, rfl, E, R, hbel⟩ := hrel
    by_cases hlt : k < n
    · have hll : k < l.length := by rw [Hn.out]; exact hlt
      have hol : out.length = k := E.len
      have hos : os.length ≤ 1500 := by
        have := nodup_lt k os E.nd (fun j hj => by
          obtain ⟨t, ht⟩ := List.getElem?_of_mem (List.mem_reverse.2 hj)
          exact (E.opn t j ht).1)
        omega
      have hlz : (k : Int) < (n : Int) := by omega
      have R1 := R.grown (grownBy_alloc wr (.cells #[.int .i64 (-1)] 3))
      have hown := R1.a
      have hB := R1.bs
      have cn := cells_new wr 3 [.int .i64 (-1)]
      have q3 : out.length + 1 ≤ maxLen := by unfold maxLen; omega
      have q4 : (out.length + 1) * 8 ≤ 140737488355328 := by omega
      have HR1 := hidden R1
      have HE := hidden E
      have HB1 := hidden (hbel.alloc R.bs (.cells #[.int .i64 (-1)] 3))
      have HOL := hidden hol
      have hob : out.length ≤ 1500 := by omega
      clear E R R1 hbel hol
      go_wp2_with (at_builtin; refine wpList_append_at _ rfl _ _ 49 rfl w.heap.size 3 i3 (.int .i64 0) 1 8 Tryz.underlying49 hi3 hz3 hy3 hb3 rfl (by decide) _ _ _ rfl hown ⟨wr.heap.size, 0, none⟩ 1 1 [.int .i64 (-1)] rfl rfl cn (one1 _ _) q3 q4 hB (by decide) ?_)
      intro v' w1 hr hg hloc
      rcases hr.2 with ⟨_, h0⟩ | ⟨g, gc, cur, rfl, hbg, hgh, hnc, hcm, hcs, htk⟩
      · omega
      have R2 := HR1.out.pushA hr hg (hloc.imp id (fun e => ⟨_, by simp, e⟩))
      have hb1 := HB1.out.grown hg HR1.out.bs (fun q hq => (HR1.out.a.lt q hq).1)
      obtain ⟨b, off, cp, hv, hcap, x0, x1, x2, x3, x4, x5⟩ := (HL.out.below hb1).at' hll
      obtain ⟨x, hxx⟩ : ∃ x, l[k] = x := ⟨_, rfl⟩
      have hkd : kd l k = x.kind := by rw [kd_get hll, hxx]
      rw [hxx] at x0
      rw [Hn.out] at hv hcap
      injection hv with hv1 hv2 hv3
      subst hv1 hv3
      have hol := HOL.out
      clear hr hg hloc htk
      rw [hol] at R2 ⊢
      have HKD := hidden hkd
      have HB2 := hidden hb1
      have HR2 := hidden R2
      clear hbg hgh hnc hcm hcs hxx hv2 x1 x2 x3 x4 x5 hkd hb1 cn hown hB
      generalize x.kind = y at *
      have ha : w1.ownsRow w.heap.size 3 1 (.slice (some ⟨g, 0, none⟩) (k + 1) gc) (k + 1) (zs (out ++ [-1])) := by
        have h1 := HR2.out.a
        rw [List.length_append, List.length_singleton, hol] at h1
        exact h1
      have Ha := hidden ha
      clear ha
      obtain ⟨oa, oc, ho4⟩ := row_slice HR2.out.b
      subst ho4
      by_cases k3 : y = 3
      · have z3 : ((y : Int) == 3) = true := by simp; omega
        have z4 : ((y : Int) == 4) = false := by simp; omega
        have d1 : w1.cell? ⟨g, k, none⟩ = some (.int .i64 (-1)) := by
          rw [Ha.out.cellAt k (by omega)]
          simp only [zs, List.map_append]
          rw [List.getElem?_append_right (by simp [hol])]
          simp [hol]
        have f1 := Ha.out.frozenAt k
        have R3 := HR2.out.setA (by simp [hol]) k (n : Int)
        have he : (out ++ [-1]).set k (n : Int) = out ++ [(n : Int)] := by rw [← hol]; exact set_snoc _ _ _
        rw [he] at R3
        have R4 := R3.grown (grownBy_alloc _ (.cells #[.int .i64 (k : Nat)] 3))
        have hown := R4.b
        have hB := R4.bs
        have cn := cells_new (w1.setCell ⟨g, k, none⟩ (.int .i64 (n : Int))) 3 [.int .i64 (k : Nat)]
        have hsz : (w1.setCell ⟨g, k, none⟩ (.int .i64 (n : Int))).heap.size = w1.heap.size := by simp
        rw [hsz] at cn
        have p3 : os.length + 1 ≤ maxLen := by unfold maxLen; omega
        have p4 : (os.length + 1) * 8 ≤ 140737488355328 := by omega
        have hgB : w.heap.size ≤ g := (Ha.out.lt g rfl).1
        have HR4 := hidden R4
        have HB4 := hidden ((HB2.out.setCell (p := ⟨g, k, none⟩) hgB (.int .i64 (n : Int))).alloc (by rw [hsz]; exact HR2.out.bs) (.cells #[.int .i64 (k : Nat)] 3))
        have hE := ei_begin HE.out hll (HKD.out.trans k3)
        rw [Hn.out] at hE
        have HE3 := hidden hE
        clear R3 R4 he hsz hE
        go_wp2_with (at_builtin; refine wpList_append_at _ rfl _ _ 49 rfl w.heap.size 3 i3 (.int .i64 0) 1 8 Tryz.underlying49 hi3 hz3 hy3 hb3 rfl (by decide) _ _ _ rfl hown ⟨w1.heap.size, 0, none⟩ 1 1 [.int .i64 (k : Nat)] rfl rfl cn (one1 _ _) p3 p4 hB (by decide) ?_)
        intro v' w5 hr hg hloc
        have R5 := HR4.out.pushB hr hg (hloc.imp id (fun e => ⟨w1.heap.size + 1, by simp, e⟩))
        have hb5 := HB4.out.grown hg HR4.out.bs (fun q hq => (HR4.out.b.lt q hq).1)
        obtain ⟨b', off', cp', hv', hcap', y0, y1, y2, y3, y4, y5⟩ := (HL.out.below hb5).at' hll
        injection hv' with hv1 hv2 hv3
        injection hv1 with hv1
        injection hv1 with hb' hoff'
        subst hb' hoff'
        have hy := HKD.out
        rw [kd_get hll] at hy
        rw [hy] at y0
        have HR5 := hidden R5
        have HB5 := hidden hb5
        clear hr hg hloc R5 hb5 hv2 hv3 hcap' y1 y2 y3 y4 y5 hy hown hB cn d1 f1 x0
        go_wp2_with fail
        go_roundw
        case rel => exact ⟨k + 1, _, _, hlt, by go_num, HE3.out, HR5.out, HB5.out⟩
        case measure => simp [intOf]; omega
      have z3 : ((y : Int) == 3) = false := by simp; omega
      by_cases k4 : y = 4
      · have z4 : ((y : Int) == 4) = true := by simp; omega
        rcases List.eq_nil_or_concat os with hO | ⟨os', j0, hO⟩
        · subst hO
          have HE3 := hidden (ei_none HE.out hll (HKD.out.trans k4))
          go_wp2_with fail
          go_roundw
          case rel => exact ⟨k + 1, _, [], hlt, by go_num, HE3.out, HR2.out, HB2.out⟩
          case measure => simp [intOf]; omega
        · rw [List.concat_eq_append] at hO
          subst hO
          have hj0 := (HE.out.opn 0 j0 (by simp)).1
          have HE3 := hidden (ei_end HE.out hll (HKD.out.trans k4))
          obtain ⟨g2, rfl⟩ : ∃ g2, oa = some ⟨g2, 0, none⟩ := by
            rcases HR2.out.b.2 with ⟨e, h0⟩ | ⟨g2, cp2, cur2, e, _⟩
            · simp at h0
            · injection e with e1
              exact ⟨g2, e1⟩
          have hoc : os'.length + 1 ≤ oc := by
            rcases HR2.out.b.2 with ⟨e, h0⟩ | ⟨g2, cp2, cur2, e, hbg, hgh, hnc, _⟩
            · simp at h0
            · injection e with e1 e2 e3
              rw [List.length_append, List.length_singleton] at hnc
              omega
          have k6 : w1.cell? ⟨g2, os'.length, none⟩ = some (.int .i64 (j0 : Nat)) := by
            rw [HR2.out.b.cellAt os'.length (by simp)]
            simp [ps]
          have hd : ∃ dv, (out ++ [-1])[j0]? = some dv := ⟨_, List.getElem?_eq_getElem (by simp; omega)⟩
          obtain ⟨dv, hdv⟩ := hd
          have d1 : w1.cell? ⟨g, j0, none⟩ = some (.int .i64 dv) := by
            rw [Ha.out.cellAt j0 (by omega)]
            simp only [zs, List.getElem?_map, hdv]
            rfl
          have f1 := Ha.out.frozenAt j0
          have R3 := HR2.out.setA (by simp [hol]) j0 (k : Int)
          have hcut := prow_cut R3.b (f := os'.length) (by simp)
          have hgB : w.heap.size ≤ g := (Ha.out.lt g rfl).1
          have HB3 := hidden (HB2.out.setCell (p := ⟨g, j0, none⟩) hgB (.int .i64 (k : Int)))
          have HR3 : Hid (TwoR w.heap.size (w1.setCell ⟨g, j0, none⟩ (.int .i64 (k : Int))) (.slice (some ⟨g, 0, none⟩) (k + 1) gc) (.slice (some ⟨g2, 0, none⟩) os'.length oc) ((out ++ [-1]).set j0 (k : Int)) os') := by
            refine ⟨R3.a, ?_, R3.dis, R3.bs⟩
            have e : (os' ++ [j0]).take os'.length = os' := List.take_left
            rw [e] at hcut
            exact hcut
          have hos2 : os'.length ≤ 1500 := by simp at hos; omega
          have hll2 : (os' ++ [j0]).length = os'.length + 1 := by simp
          have hjk : j0 < k + 1 := by omega
          clear R3 hcut hdv hos
          rw [hll2]
          generalize hm : os'.length = m at *
          have HM := hidden hm
          clear hm
          go_wp2_with fail
          go_roundw
          case rel => exact ⟨k + 1, _, os', hlt, by go_num, HE3.out, HR3.out, HB3.out⟩
          case measure => simp [intOf]; omega
      have z4 : ((y : Int) == 4) = false := by simp; omega
      have HE3 := hidden (ei_other HE.out hll (by rw [HKD.out]; exact k3) (by rw [HKD.out]; exact k4))
      go_wp2_with fail
      go_roundw
      case rel => exact ⟨k + 1, _, _, hlt, by go_num, HE3.out, HR2.out, HB2.out⟩
      case measure => simp [intOf]; omega
    · have hkn : k = l.length := by rw [Hn.out]; omega
      have hlz : ¬ ((k : Int) < (n : Int)) := by omega
      subst hkn
      have HEQ := hidden (ends_eq E)
      have HR := hidden R.a
      clear E R hlt hk
      go_wp2_with fail
      go_ret
      exact ⟨_, rfl, by rw [← HEQ.out]; exact isZ_of HR.out, hbel⟩
end Go.Proofs.PlatenLayout

/- The document's Sizes. -/
namespace Go.Proofs.PlatenLayout
open Go Go.RowKit Go.Shelf
set_option linter.unusedVariables false
set_option maxRecDepth 100000

theorem szs_take (l : List It) {k : Nat} (h : k < l.length) : (szs l).take (k + 1) = (szs l).take k ++ [((size (l.drop k) : Nat) : Int)] := by
  rw [List.take_add_one, szs_get l h]
  rfl
theorem pre_mono (l : List It) {a b : Nat} (h : a ≤ b) : pre l a ≤ pre l b := by
  have := pre_add l a (b - a)
  rw [show a + (b - a) = b by omega] at this
  omega

set_option maxHeartbeats 8000000 in
theorem rsizes_any {v : Value} {l : List It} {w : World} (h : IsItems w v l) (ok : OkL l) :
    Calls Tryz.prog 14 #[v] w fun e w' => ∃ u, e = .returned u ∧ IsZ w' u (szs l) ∧ Below w.heap.size w w' := by
  obtain ⟨i3, hi3, hz3, hy3, hb3⟩ := info_parts info3
  have ce := ends_any h ok
  obtain ⟨a, cap, rfl⟩ := h.val
  have hl1 := ok.1
  have HL := hidden h
  have Hok := hidden ok
  obtain ⟨n, hn⟩ : ∃ n, l.length = n := ⟨_, rfl⟩
  rw [hn] at hl1 ce ⊢
  have Hn := hidden hn
  clear h ok hn
  go_enter Tryz.func14, Tryz.ntmps14
  go_wp2_with fail
  refine ce.mono ?_
  clear ce
  rintro e w2 ⟨ev, rfl, hz2, hb2⟩
  have HZ2 := hidden hz2
  have HBw := hidden hb2
  clear hz2 hb2
  go_wp2_with fail
  go_loopw [3, 5] (fun ov iv wr => ∃ k : Nat, k ≤ n ∧ iv = .int .i64 (k : Nat) ∧ wr.ownsRow w2.heap.size 3 1 ov ((szs l).take k).length (zs ((szs l).take k)) ∧ Below w2.heap.size w2 wr) (fun _ iv _ => n - (intOf iv).toNat)
  case atStart => exact ⟨0, Nat.zero_le _, rfl, World.ownsRow_nil _ _ _ _, Below.refl _ _⟩
  case round =>
    obtain ⟨k, hk, rfl, hr, hb⟩ := hrel
    by_cases hlt : k < n
    · have hll : k < l.length := by rw [Hn.out]; exact hlt
      obtain ⟨b, off, cp, hv, hcap, x0, x1, x2, x3, x4, x5⟩ := (HL.out.below (HBw.out.trans (hb.mono HBw.out.size))).at' hll
      obtain ⟨x, hx⟩ : ∃ x, l[k] = x := ⟨_, rfl⟩
      have hkd : kd l k = x.kind := by rw [kd_get hll, hx]
      rw [hx] at x0
      rw [Hn.out] at hv hcap
      injection hv with hv1 hv2 hv3
      subst hv1 hv3
      have hlz : (k : Int) < (n : Int) := by omega
      have HKD := hidden hkd
      have HR := hidden hr
      have HB := hidden hb
      have hZr := HZ2.out.below hb
      have hLr := HL.out.below (HBw.out.trans (hb.mono HBw.out.size))
      clear hr hb hv2 x1 x2 x3 x4 x5 hkd
      generalize x.kind = y at *
      by_cases k1 : y = 1
      · have z1 : ((y : Int) == 1) = true := by simp; omega
        have HSt := hidden (size_text hll (HKD.out.trans k1))
        have hks : k ≤ k + 1 := by omega
        have hsn : k + 1 ≤ n := by omega
        clear hZr hLr hx
        go_wp2_with fail
        go_loopw [7, 8] (fun sv jv wr => ∃ (j m : Nat), k ≤ j ∧ j ≤ (k + 1) ∧ jv = .int .i64 (j : Nat) ∧ sv = .int .i64 (m : Nat) ∧ m + pre l k = pre l j ∧ wr.ownsRow w2.heap.size 3 1 u3 ((szs l).take k).length (zs ((szs l).take k)) ∧ Below w2.heap.size w2 wr) (fun _ jv _ => (k + 1) - (intOf jv).toNat)
        case atStart => exact ⟨k, 0, Nat.le_refl _, hks, rfl, rfl, Nat.zero_add _, HR.out, HB.out⟩
        case round =>
          obtain ⟨j, m, hkj, hjs, rfl, rfl, hm, hr, hb⟩ := hrel
          by_cases hj : j < (k + 1)
          · have hjn : j < n := by omega
            have hjl : j < l.length := by rw [Hn.out]; exact hjn
            obtain ⟨b2, off2, cp2, hv2, hcap2, y0, y1, y2, y3, y4, y5⟩ := (HL.out.below (HBw.out.trans (hb.mono HBw.out.size))).at' hjl
            obtain ⟨x2, hx2⟩ : ∃ x2, l[j] = x2 := ⟨_, rfl⟩
            have hox : OkIt x2 := Hok.out.2 x2 (by rw [← hx2]; exact List.getElem_mem hjl)
            rw [hx2] at y0 y1 y2 y3 y4 y5
            rw [Hn.out] at hv2 hcap2
            injection hv2 with hv1 hv3 hv4
            injection hv1 with hv1
            injection hv1 with hb' hoff'
            subst hb' hoff'
            have hp := pre_succ hjl
            rw [hx2] at hp
            have hpb := Hok.out.pre j
            have hpb2 := Hok.out.pre (j + 1)
            have co := own_any x2 hox wr
            have hjz : (j : Int) < ((k : Int) + 1) := by omega
            have HR2 := hidden hr
            have HB2 := hidden hb
            have HP : Hid (m + x2.own + pre l k = pre l (j + 1)) := by unfold Hid; omega
            have hmb : m ≤ 1572864000 := by omega
            have hob : x2.own ≤ 1572864000 := by omega
            clear hr hb hox hx2 hv3 hv4 hp hm hcap2 hpb hpb2
            generalize x2.own = o at *
            go_wp2_with fail
            refine co.mono ?_
            clear co
            rintro e w4 ⟨rfl, hb4⟩
            have HR4 := hidden (row_grown HR2.out (grown_below hb4) (by simp))
            have HB4 := hidden (HB2.out.trans (hb4.mono HB2.out.size))
            clear hb4 y0 y1 y2 y3 y4 y5
            go_wp2_with fail
            go_roundw
            case rel => exact ⟨j + 1, m + o, by omega, by omega, by go_num, by go_num, HP.out, HR4.out, HB4.out⟩
            case measure => simp [intOf]; omega
          · have hjs2 : j = (k + 1) := by omega
            have hjz : ¬ ((j : Int) < ((k : Int) + 1)) := by omega
            rw [hjs2] at hm
            have hm2 : m = size (l.drop k) := by have := HSt.out; omega
            have hmb : m ≤ 1572864000 := by rw [hm2]; exact Hok.out.size k
            have hown := hr.alloc (.cells #[.int .i64 (m : Nat)] 3)
            have hlen : ((szs l).take k).length = k := by rw [List.length_take, szs_len, Hn.out]; omega
            rw [hlen] at hown
            have cn := cells_new wr 3 [.int .i64 (m : Nat)]
            have hB : w2.heap.size ≤ (wr.alloc (.cells #[.int .i64 (m : Nat)] 3)).heap.size := by have := hb.size; simp; omega
            have HB5 := hidden (hb.alloc hb.size (.cells #[.int .i64 (m : Nat)] 3))
            have HT : Hid ((szs l).take (k + 1) = (szs l).take k ++ [((m : Nat) : Int)]) := by unfold Hid; rw [hm2]; exact szs_take l (by rw [Hn.out]; omega)
            have HLN := hidden hlen
            have q3 : k + 1 ≤ maxLen := by unfold maxLen; omega
            have q4 : (k + 1) * 8 ≤ 140737488355328 := by omega
            clear hm2 hr hb hlen hm hj hjs hkj hjs2
            go_wp2_with (at_builtin; refine wpList_append_own _ rfl _ _ 49 rfl w2.heap.size 3 i3 (.int .i64 0) 1 8 Tryz.underlying49 hi3 hz3 hy3 hb3 rfl (by decide) _ _ _ rfl hown ⟨wr.heap.size, 0, none⟩ 1 1 [.int .i64 (m : Nat)] rfl rfl cn (one1 _ _) q3 q4 hB ?_)
            intro v' w7 hr7 hg7 _
            have HR7 : Hid (w7.ownsRow w2.heap.size 3 1 v' ((szs l).take (k + 1)).length (zs ((szs l).take (k + 1)))) := by
              unfold Hid
              rw [HT.out, List.length_append, List.length_singleton, HLN.out, zs_app]
              exact hr7
            have HB7 := hidden (HB5.out.grown hg7 hB (fun q hq => (hown.lt q hq).1))
            clear hr7 hg7 hown cn hB
            go_wp2_with fail
            go_roundw
            case rel => exact ⟨k + 1, by omega, by go_num, HR7.out, HB7.out⟩
            case measure => simp [intOf]; omega
      have z1 : ((y : Int) == 1) = false := by simp; omega
      by_cases k2 : y = 2
      · have z2 : ((y : Int) == 2) = true := by simp; omega
        have cx := next_any hLr hZr Hok.out k hll
        rw [Hn.out] at cx
        have HK2 := hidden (HKD.out.trans k2)
        clear hZr hLr hx
        go_wp2_with fail
        refine cx.mono ?_
        clear cx
        rintro e w3 ⟨s, rfl, hfs, hsn, hps, rfl⟩
        have HSt := hidden (size_break hll HK2.out hps)
        have hks : k ≤ s := by omega
        clear hps
        go_wp2_with fail
        go_loopw [7, 8] (fun sv jv wr => ∃ (j m : Nat), k ≤ j ∧ j ≤ s ∧ jv = .int .i64 (j : Nat) ∧ sv = .int .i64 (m : Nat) ∧ m + pre l k = pre l j ∧ wr.ownsRow w2.heap.size 3 1 u3 ((szs l).take k).length (zs ((szs l).take k)) ∧ Below w2.heap.size w2 wr) (fun _ jv _ => s - (intOf jv).toNat)
        case atStart => exact ⟨k, 0, Nat.le_refl _, hks, rfl, rfl, Nat.zero_add _, HR.out, HB.out⟩
        case round =>
          obtain ⟨j, m, hkj, hjs, rfl, rfl, hm, hr, hb⟩ := hrel
          by_cases hj : j < s
          · have hjn : j < n := by omega
            have hjl : j < l.length := by rw [Hn.out]; exact hjn
            obtain ⟨b2, off2, cp2, hv2, hcap2, y0, y1, y2, y3, y4, y5⟩ := (HL.out.below (HBw.out.trans (hb.mono HBw.out.size))).at' hjl
            obtain ⟨x2, hx2⟩ : ∃ x2, l[j] = x2 := ⟨_, rfl⟩
            have hox : OkIt x2 := Hok.out.2 x2 (by rw [← hx2]; exact List.getElem_mem hjl)
            rw [hx2] at y0 y1 y2 y3 y4 y5
            rw [Hn.out] at hv2 hcap2
            injection hv2 with hv1 hv3 hv4
            injection hv1 with hv1
            injection hv1 with hb' hoff'
            subst hb' hoff'
            have hp := pre_succ hjl
            rw [hx2] at hp
            have hpb := Hok.out.pre j
            have hpb2 := Hok.out.pre (j + 1)
            have co := own_any x2 hox wr
            have hjz : (j : Int) < (s : Int) := by omega
            have HR2 := hidden hr
            have HB2 := hidden hb
            have HP : Hid (m + x2.own + pre l k = pre l (j + 1)) := by unfold Hid; omega
            have hmb : m ≤ 1572864000 := by omega
            have hob : x2.own ≤ 1572864000 := by omega
            clear hr hb hox hx2 hv3 hv4 hp hm hcap2 hpb hpb2
            generalize x2.own = o at *
            go_wp2_with fail
            refine co.mono ?_
            clear co
            rintro e w4 ⟨rfl, hb4⟩
            have HR4 := hidden (row_grown HR2.out (grown_below hb4) (by simp))
            have HB4 := hidden (HB2.out.trans (hb4.mono HB2.out.size))
            clear hb4 y0 y1 y2 y3 y4 y5
            go_wp2_with fail
            go_roundw
            case rel => exact ⟨j + 1, m + o, by omega, by omega, by go_num, by go_num, HP.out, HR4.out, HB4.out⟩
            case measure => simp [intOf]; omega
          · have hjs2 : j = s := by omega
            have hjz : ¬ ((j : Int) < (s : Int)) := by omega
            rw [hjs2] at hm
            have hm2 : m = size (l.drop k) := by have := HSt.out; omega
            have hmb : m ≤ 1572864000 := by rw [hm2]; exact Hok.out.size k
            have hown := hr.alloc (.cells #[.int .i64 (m : Nat)] 3)
            have hlen : ((szs l).take k).length = k := by rw [List.length_take, szs_len, Hn.out]; omega
            rw [hlen] at hown
            have cn := cells_new wr 3 [.int .i64 (m : Nat)]
            have hB : w2.heap.size ≤ (wr.alloc (.cells #[.int .i64 (m : Nat)] 3)).heap.size := by have := hb.size; simp; omega
            have HB5 := hidden (hb.alloc hb.size (.cells #[.int .i64 (m : Nat)] 3))
            have HT : Hid ((szs l).take (k + 1) = (szs l).take k ++ [((m : Nat) : Int)]) := by unfold Hid; rw [hm2]; exact szs_take l (by rw [Hn.out]; omega)
            have HLN := hidden hlen
            have q3 : k + 1 ≤ maxLen := by unfold maxLen; omega
            have q4 : (k + 1) * 8 ≤ 140737488355328 := by omega
            clear hm2 hr hb hlen hm hj hjs hkj hjs2
            go_wp2_with (at_builtin; refine wpList_append_own _ rfl _ _ 49 rfl w2.heap.size 3 i3 (.int .i64 0) 1 8 Tryz.underlying49 hi3 hz3 hy3 hb3 rfl (by decide) _ _ _ rfl hown ⟨wr.heap.size, 0, none⟩ 1 1 [.int .i64 (m : Nat)] rfl rfl cn (one1 _ _) q3 q4 hB ?_)
            intro v' w7 hr7 hg7 _
            have HR7 : Hid (w7.ownsRow w2.heap.size 3 1 v' ((szs l).take (k + 1)).length (zs ((szs l).take (k + 1)))) := by
              unfold Hid
              rw [HT.out, List.length_append, List.length_singleton, HLN.out, zs_app]
              exact hr7
            have HB7 := hidden (HB5.out.grown hg7 hB (fun q hq => (hown.lt q hq).1))
            clear hr7 hg7 hown cn hB
            go_wp2_with fail
            go_roundw
            case rel => exact ⟨k + 1, by omega, by go_num, HR7.out, HB7.out⟩
            case measure => simp [intOf]; omega
      have z2 : ((y : Int) == 2) = false := by simp; omega
      by_cases k3 : y = 3
      · have z3 : ((y : Int) == 3) = true := by simp; omega
        have HK3 := hidden (HKD.out.trans k3)
        obtain ⟨zg, zc, hzv, hzc, zz⟩ := hZr.at' (ends_get l hll)
        rw [if_pos HK3.out] at zz
        rw [ends_len, Hn.out] at hzv hzc
        have hE := endI_le l k hll
        rw [Hn.out] at hE
        have hE1 := hE.1
        have hE2 := hE.2
        clear hE
        obtain ⟨en, hen⟩ : ∃ en, endI l k = en := ⟨_, rfl⟩
        have HEN := hidden hen
        rw [hen] at zz hE1 hE2
        clear hen hx
        by_cases hel : en < n
        · have hez : (en : Int) < (n : Int) := by omega
          have cx := next_any hLr hZr Hok.out en (by rw [Hn.out]; exact hel)
          rw [Hn.out] at cx
          subst hzv
          clear hZr hLr
          go_wp2_with fail
          refine cx.mono ?_
          clear cx
          rintro e w3 ⟨s, rfl, hfs, hsn, hps, rfl⟩
          have HSt : Hid (pre l s = pre l k + size (l.drop k)) := size_group hll HK3.out (by rw [HEN.out, Hn.out]; exact hel) (by rw [HEN.out]; exact hps)
          have hks : k ≤ s := by omega
          clear hps
          go_wp2_with fail
          go_loopw [7, 8] (fun sv jv wr => ∃ (j m : Nat), k ≤ j ∧ j ≤ s ∧ jv = .int .i64 (j : Nat) ∧ sv = .int .i64 (m : Nat) ∧ m + pre l k = pre l j ∧ wr.ownsRow w2.heap.size 3 1 u3 ((szs l).take k).length (zs ((szs l).take k)) ∧ Below w2.heap.size w2 wr) (fun _ jv _ => s - (intOf jv).toNat)
          case atStart => exact ⟨k, 0, Nat.le_refl _, hks, rfl, rfl, Nat.zero_add _, HR.out, HB.out⟩
          case round =>
            obtain ⟨j, m, hkj, hjs, rfl, rfl, hm, hr, hb⟩ := hrel
            by_cases hj : j < s
            · have hjn : j < n := by omega
              have hjl : j < l.length := by rw [Hn.out]; exact hjn
              obtain ⟨b2, off2, cp2, hv2, hcap2, y0, y1, y2, y3, y4, y5⟩ := (HL.out.below (HBw.out.trans (hb.mono HBw.out.size))).at' hjl
              obtain ⟨x2, hx2⟩ : ∃ x2, l[j] = x2 := ⟨_, rfl⟩
              have hox : OkIt x2 := Hok.out.2 x2 (by rw [← hx2]; exact List.getElem_mem hjl)
              rw [hx2] at y0 y1 y2 y3 y4 y5
              rw [Hn.out] at hv2 hcap2
              injection hv2 with hv1 hv3 hv4
              injection hv1 with hv1
              injection hv1 with hb' hoff'
              subst hb' hoff'
              have hp := pre_succ hjl
              rw [hx2] at hp
              have hpb := Hok.out.pre j
              have hpb2 := Hok.out.pre (j + 1)
              have co := own_any x2 hox wr
              have hjz : (j : Int) < (s : Int) := by omega
              have HR2 := hidden hr
              have HB2 := hidden hb
              have HP : Hid (m + x2.own + pre l k = pre l (j + 1)) := by unfold Hid; omega
              have hmb : m ≤ 1572864000 := by omega
              have hob : x2.own ≤ 1572864000 := by omega
              clear hr hb hox hx2 hv3 hv4 hp hm hcap2 hpb hpb2
              generalize x2.own = o at *
              go_wp2_with fail
              refine co.mono ?_
              clear co
              rintro e w4 ⟨rfl, hb4⟩
              have HR4 := hidden (row_grown HR2.out (grown_below hb4) (by simp))
              have HB4 := hidden (HB2.out.trans (hb4.mono HB2.out.size))
              clear hb4 y0 y1 y2 y3 y4 y5
              go_wp2_with fail
              go_roundw
              case rel => exact ⟨j + 1, m + o, by omega, by omega, by go_num, by go_num, HP.out, HR4.out, HB4.out⟩
              case measure => simp [intOf]; omega
            · have hjs2 : j = s := by omega
              have hjz : ¬ ((j : Int) < (s : Int)) := by omega
              rw [hjs2] at hm
              have hm2 : m = size (l.drop k) := by have := HSt.out; omega
              have hmb : m ≤ 1572864000 := by rw [hm2]; exact Hok.out.size k
              have hown := hr.alloc (.cells #[.int .i64 (m : Nat)] 3)
              have hlen : ((szs l).take k).length = k := by rw [List.length_take, szs_len, Hn.out]; omega
              rw [hlen] at hown
              have cn := cells_new wr 3 [.int .i64 (m : Nat)]
              have hB : w2.heap.size ≤ (wr.alloc (.cells #[.int .i64 (m : Nat)] 3)).heap.size := by have := hb.size; simp; omega
              have HB5 := hidden (hb.alloc hb.size (.cells #[.int .i64 (m : Nat)] 3))
              have HT : Hid ((szs l).take (k + 1) = (szs l).take k ++ [((m : Nat) : Int)]) := by unfold Hid; rw [hm2]; exact szs_take l (by rw [Hn.out]; omega)
              have HLN := hidden hlen
              have q3 : k + 1 ≤ maxLen := by unfold maxLen; omega
              have q4 : (k + 1) * 8 ≤ 140737488355328 := by omega
              clear hm2 hr hb hlen hm hj hjs hkj hjs2
              go_wp2_with (at_builtin; refine wpList_append_own _ rfl _ _ 49 rfl w2.heap.size 3 i3 (.int .i64 0) 1 8 Tryz.underlying49 hi3 hz3 hy3 hb3 rfl (by decide) _ _ _ rfl hown ⟨wr.heap.size, 0, none⟩ 1 1 [.int .i64 (m : Nat)] rfl rfl cn (one1 _ _) q3 q4 hB ?_)
              intro v' w7 hr7 hg7 _
              have HR7 : Hid (w7.ownsRow w2.heap.size 3 1 v' ((szs l).take (k + 1)).length (zs ((szs l).take (k + 1)))) := by
                unfold Hid
                rw [HT.out, List.length_append, List.length_singleton, HLN.out, zs_app]
                exact hr7
              have HB7 := hidden (HB5.out.grown hg7 hB (fun q hq => (hown.lt q hq).1))
              clear hr7 hg7 hown cn hB
              go_wp2_with fail
              go_roundw
              case rel => exact ⟨k + 1, by omega, by go_num, HR7.out, HB7.out⟩
              case measure => simp [intOf]; omega
        · have hez : ¬ ((en : Int) < (n : Int)) := by omega
          have HSt : Hid (pre l n = pre l k + size (l.drop k)) := by
            have h9 := size_open hll HK3.out (by rw [HEN.out, Hn.out]; omega)
            rw [Hn.out] at h9
            exact h9
          have hks : k ≤ n := by omega
          have hsn : n ≤ n := Nat.le_refl _
          subst hzv
          clear hZr hLr
          go_wp2_with fail
          go_loopw [7, 8] (fun sv jv wr => ∃ (j m : Nat), k ≤ j ∧ j ≤ n ∧ jv = .int .i64 (j : Nat) ∧ sv = .int .i64 (m : Nat) ∧ m + pre l k = pre l j ∧ wr.ownsRow w2.heap.size 3 1 u3 ((szs l).take k).length (zs ((szs l).take k)) ∧ Below w2.heap.size w2 wr) (fun _ jv _ => n - (intOf jv).toNat)
          case atStart => exact ⟨k, 0, Nat.le_refl _, hks, rfl, rfl, Nat.zero_add _, HR.out, HB.out⟩
          case round =>
            obtain ⟨j, m, hkj, hjs, rfl, rfl, hm, hr, hb⟩ := hrel
            by_cases hj : j < n
            · have hjn : j < n := by omega
              have hjl : j < l.length := by rw [Hn.out]; exact hjn
              obtain ⟨b2, off2, cp2, hv2, hcap2, y0, y1, y2, y3, y4, y5⟩ := (HL.out.below (HBw.out.trans (hb.mono HBw.out.size))).at' hjl
              obtain ⟨x2, hx2⟩ : ∃ x2, l[j] = x2 := ⟨_, rfl⟩
              have hox : OkIt x2 := Hok.out.2 x2 (by rw [← hx2]; exact List.getElem_mem hjl)
              rw [hx2] at y0 y1 y2 y3 y4 y5
              rw [Hn.out] at hv2 hcap2
              injection hv2 with hv1 hv3 hv4
              injection hv1 with hv1
              injection hv1 with hb' hoff'
              subst hb' hoff'
              have hp := pre_succ hjl
              rw [hx2] at hp
              have hpb := Hok.out.pre j
              have hpb2 := Hok.out.pre (j + 1)
              have co := own_any x2 hox wr
              have hjz : (j : Int) < (n : Int) := by omega
              have HR2 := hidden hr
              have HB2 := hidden hb
              have HP : Hid (m + x2.own + pre l k = pre l (j + 1)) := by unfold Hid; omega
              have hmb : m ≤ 1572864000 := by omega
              have hob : x2.own ≤ 1572864000 := by omega
              clear hr hb hox hx2 hv3 hv4 hp hm hcap2 hpb hpb2
              generalize x2.own = o at *
              go_wp2_with fail
              refine co.mono ?_
              clear co
              rintro e w4 ⟨rfl, hb4⟩
              have HR4 := hidden (row_grown HR2.out (grown_below hb4) (by simp))
              have HB4 := hidden (HB2.out.trans (hb4.mono HB2.out.size))
              clear hb4 y0 y1 y2 y3 y4 y5
              go_wp2_with fail
              go_roundw
              case rel => exact ⟨j + 1, m + o, by omega, by omega, by go_num, by go_num, HP.out, HR4.out, HB4.out⟩
              case measure => simp [intOf]; omega
            · have hjs2 : j = n := by omega
              have hjz : ¬ ((j : Int) < (n : Int)) := by omega
              rw [hjs2] at hm
              have hm2 : m = size (l.drop k) := by have := HSt.out; omega
              have hmb : m ≤ 1572864000 := by rw [hm2]; exact Hok.out.size k
              have hown := hr.alloc (.cells #[.int .i64 (m : Nat)] 3)
              have hlen : ((szs l).take k).length = k := by rw [List.length_take, szs_len, Hn.out]; omega
              rw [hlen] at hown
              have cn := cells_new wr 3 [.int .i64 (m : Nat)]
              have hB : w2.heap.size ≤ (wr.alloc (.cells #[.int .i64 (m : Nat)] 3)).heap.size := by have := hb.size; simp; omega
              have HB5 := hidden (hb.alloc hb.size (.cells #[.int .i64 (m : Nat)] 3))
              have HT : Hid ((szs l).take (k + 1) = (szs l).take k ++ [((m : Nat) : Int)]) := by unfold Hid; rw [hm2]; exact szs_take l (by rw [Hn.out]; omega)
              have HLN := hidden hlen
              have q3 : k + 1 ≤ maxLen := by unfold maxLen; omega
              have q4 : (k + 1) * 8 ≤ 140737488355328 := by omega
              clear hm2 hr hb hlen hm hj hjs hkj hjs2
              go_wp2_with (at_builtin; refine wpList_append_own _ rfl _ _ 49 rfl w2.heap.size 3 i3 (.int .i64 0) 1 8 Tryz.underlying49 hi3 hz3 hy3 hb3 rfl (by decide) _ _ _ rfl hown ⟨wr.heap.size, 0, none⟩ 1 1 [.int .i64 (m : Nat)] rfl rfl cn (one1 _ _) q3 q4 hB ?_)
              intro v' w7 hr7 hg7 _
              have HR7 : Hid (w7.ownsRow w2.heap.size 3 1 v' ((szs l).take (k + 1)).length (zs ((szs l).take (k + 1)))) := by
                unfold Hid
                rw [HT.out, List.length_append, List.length_singleton, HLN.out, zs_app]
                exact hr7
              have HB7 := hidden (HB5.out.grown hg7 hB (fun q hq => (hown.lt q hq).1))
              clear hr7 hg7 hown cn hB
              go_wp2_with fail
              go_roundw
              case rel => exact ⟨k + 1, by omega, by go_num, HR7.out, HB7.out⟩
              case measure => simp [intOf]; omega
      have z3 : ((y : Int) == 3) = false := by simp; omega
      have HSt : Hid (pre l k = pre l k + size (l.drop k)) := by
        unfold Hid
        rw [size_none hll (by rw [HKD.out]; exact k1) (by rw [HKD.out]; exact k2) (by rw [HKD.out]; exact k3)]
        rfl
      have hks : k ≤ k := Nat.le_refl _
      have hsn : k ≤ n := by omega
      clear hZr hLr hx
      go_wp2_with fail
      go_loopw [7, 8] (fun sv jv wr => ∃ (j m : Nat), k ≤ j ∧ j ≤ k ∧ jv = .int .i64 (j : Nat) ∧ sv = .int .i64 (m : Nat) ∧ m + pre l k = pre l j ∧ wr.ownsRow w2.heap.size 3 1 u3 ((szs l).take k).length (zs ((szs l).take k)) ∧ Below w2.heap.size w2 wr) (fun _ jv _ => k - (intOf jv).toNat)
      case atStart => exact ⟨k, 0, Nat.le_refl _, hks, rfl, rfl, Nat.zero_add _, HR.out, HB.out⟩
      case round =>
        obtain ⟨j, m, hkj, hjs, rfl, rfl, hm, hr, hb⟩ := hrel
        by_cases hj : j < k
        · have hjn : j < n := by omega
          have hjl : j < l.length := by rw [Hn.out]; exact hjn
          obtain ⟨b2, off2, cp2, hv2, hcap2, y0, y1, y2, y3, y4, y5⟩ := (HL.out.below (HBw.out.trans (hb.mono HBw.out.size))).at' hjl
          obtain ⟨x2, hx2⟩ : ∃ x2, l[j] = x2 := ⟨_, rfl⟩
          have hox : OkIt x2 := Hok.out.2 x2 (by rw [← hx2]; exact List.getElem_mem hjl)
          rw [hx2] at y0 y1 y2 y3 y4 y5
          rw [Hn.out] at hv2 hcap2
          injection hv2 with hv1 hv3 hv4
          injection hv1 with hv1
          injection hv1 with hb' hoff'
          subst hb' hoff'
          have hp := pre_succ hjl
          rw [hx2] at hp
          have hpb := Hok.out.pre j
          have hpb2 := Hok.out.pre (j + 1)
          have co := own_any x2 hox wr
          have hjz : (j : Int) < (k : Int) := by omega
          have HR2 := hidden hr
          have HB2 := hidden hb
          have HP : Hid (m + x2.own + pre l k = pre l (j + 1)) := by unfold Hid; omega
          have hmb : m ≤ 1572864000 := by omega
          have hob : x2.own ≤ 1572864000 := by omega
          clear hr hb hox hx2 hv3 hv4 hp hm hcap2 hpb hpb2
          generalize x2.own = o at *
          go_wp2_with fail
          refine co.mono ?_
          clear co
          rintro e w4 ⟨rfl, hb4⟩
          have HR4 := hidden (row_grown HR2.out (grown_below hb4) (by simp))
          have HB4 := hidden (HB2.out.trans (hb4.mono HB2.out.size))
          clear hb4 y0 y1 y2 y3 y4 y5
          go_wp2_with fail
          go_roundw
          case rel => exact ⟨j + 1, m + o, by omega, by omega, by go_num, by go_num, HP.out, HR4.out, HB4.out⟩
          case measure => simp [intOf]; omega
        · have hjs2 : j = k := by omega
          have hjz : ¬ ((j : Int) < (k : Int)) := by omega
          rw [hjs2] at hm
          have hm2 : m = size (l.drop k) := by have := HSt.out; omega
          have hmb : m ≤ 1572864000 := by rw [hm2]; exact Hok.out.size k
          have hown := hr.alloc (.cells #[.int .i64 (m : Nat)] 3)
          have hlen : ((szs l).take k).length = k := by rw [List.length_take, szs_len, Hn.out]; omega
          rw [hlen] at hown
          have cn := cells_new wr 3 [.int .i64 (m : Nat)]
          have hB : w2.heap.size ≤ (wr.alloc (.cells #[.int .i64 (m : Nat)] 3)).heap.size := by have := hb.size; simp; omega
          have HB5 := hidden (hb.alloc hb.size (.cells #[.int .i64 (m : Nat)] 3))
          have HT : Hid ((szs l).take (k + 1) = (szs l).take k ++ [((m : Nat) : Int)]) := by unfold Hid; rw [hm2]; exact szs_take l (by rw [Hn.out]; omega)
          have HLN := hidden hlen
          have q3 : k + 1 ≤ maxLen := by unfold maxLen; omega
          have q4 : (k + 1) * 8 ≤ 140737488355328 := by omega
          clear hm2 hr hb hlen hm hj hjs hkj hjs2
          go_wp2_with (at_builtin; refine wpList_append_own _ rfl _ _ 49 rfl w2.heap.size 3 i3 (.int .i64 0) 1 8 Tryz.underlying49 hi3 hz3 hy3 hb3 rfl (by decide) _ _ _ rfl hown ⟨wr.heap.size, 0, none⟩ 1 1 [.int .i64 (m : Nat)] rfl rfl cn (one1 _ _) q3 q4 hB ?_)
          intro v' w7 hr7 hg7 _
          have HR7 : Hid (w7.ownsRow w2.heap.size 3 1 v' ((szs l).take (k + 1)).length (zs ((szs l).take (k + 1)))) := by
            unfold Hid
            rw [HT.out, List.length_append, List.length_singleton, HLN.out, zs_app]
            exact hr7
          have HB7 := hidden (HB5.out.grown hg7 hB (fun q hq => (hown.lt q hq).1))
          clear hr7 hg7 hown cn hB
          go_wp2_with fail
          go_roundw
          case rel => exact ⟨k + 1, by omega, by go_num, HR7.out, HB7.out⟩
          case measure => simp [intOf]; omega
    · have hlz : ¬ ((k : Int) < (n : Int)) := by omega
      have hkn : k = n := by omega
      have hto : (szs l).take k = szs l := List.take_of_length_le (by rw [szs_len, Hn.out]; omega)
      rw [hto] at hr
      have HR := hidden hr
      have HB := hidden (HBw.out.trans (hb.mono HBw.out.size))
      clear hr hb hkn hto
      go_wp2_with fail
      go_ret
      exact ⟨_, rfl, isZ_of HR.out, HB.out⟩
end Go.Proofs.PlatenLayout

/- The document's spread. -/
namespace Go.Proofs.PlatenLayout
open Go Go.RowKit Go.Shelf
set_option linter.unusedVariables false
set_option maxRecDepth 100000

/-- A row of one's own that has grown, and perhaps moved. -/
structure GrowB (B : Nat) (w : World) (v : Value) (w' : World) (v' : Value) (bs : List Nat) : Prop where
  row : w'.ownsRow B 5 1 v' bs.length (bc bs)
  gr : w.grownBy w' v.ownBlock
  loc : v'.ownBlock = v.ownBlock ∨ ∃ m, w.heap.size ≤ m ∧ v'.ownBlock = some m
theorem GrowB.next {B : Nat} {w w1 w2 : World} {v v1 v2 : Value} {bs : List Nat} {c : Nat} {o : Obj} (h : GrowB B w v w1 v1 bs) (hr : w2.ownsRow B 5 1 v2 (bs.length + 1) (bc bs ++ [.int .u8 (c : Nat)])) (hg : (w1.alloc o).grownBy w2 v1.ownBlock) (hl : v2.ownBlock = v1.ownBlock ∨ ∃ m, w1.heap.size ≤ m ∧ v2.ownBlock = some m) : GrowB B w v w2 v2 (bs ++ [c]) where
  row := by rw [List.length_append, List.length_singleton, bc_app]; exact hr
  gr := by
    have hs := h.gr.size
    have hs2 := hg.size
    rw [World.size_alloc] at hs2
    refine ⟨hg.os.trans h.gr.os, hg.tape.trans h.gr.tape, hg.output.trans h.gr.output, by omega, fun k hk hne => ?_⟩
    have hne1 : some k ≠ v1.ownBlock := fun e => by
      rcases h.loc with l | ⟨m, hm, l⟩
      · exact hne (e.trans l)
      · rw [l] at e
        injection e with e
        omega
    have h1 := hg.block k (by rw [World.size_alloc]; omega) hne1
    rw [Below.heap_alloc w1 o k (by omega)] at h1
    exact h1.trans (h.gr.block k hk hne)
  loc := by
    rcases hl with l | ⟨m, hm, l⟩
    · rcases h.loc with l' | ⟨m', hm', l'⟩
      · exact Or.inl (l.trans l')
      · exact Or.inr ⟨m', hm', l.trans l'⟩
    · exact Or.inr ⟨m, Nat.le_trans h.gr.size hm, l⟩
theorem sp_snoc (q : Nat) : sp (q + 1) = sp q ++ [32] := by unfold sp; rw [List.replicate_succ']
/-- Spaces behind a text, or that it is too much. -/
def SprPost (B : Nat) (w : World) (v : Value) (bs : List Nat) (n : Int) (e : Ending) (w' : World) : Prop :=
  ((65536 : Int) - (bs.length : Nat) < n ∧ e = .returned (.tuple #[.slice none 0 0, .bool false]) ∧ w' = w) ∨
  (n ≤ (65536 : Int) - (bs.length : Nat) ∧ ∃ v', e = .returned (.tuple #[v', .bool true]) ∧ GrowB B w v w' v' (bs ++ sp n.toNat))
set_option maxHeartbeats 2000000 in
theorem spread_any {B : Nat} {w : World} {v : Value} {bs : List Nat} (hr : w.ownsRow B 5 1 v bs.length (bc bs)) (hB : B ≤ w.heap.size) (n : Int) (hn : -2000000000000 ≤ n ∧ n ≤ 2000000000000) (hl : bs.length ≤ 1000000) :
    Calls Tryz.prog 15 #[v, .int .i64 n] w (SprPost B w v bs n) := by
  obtain ⟨i5, hi5, hz5, hy5, hb5⟩ := info_parts info5
  obtain ⟨va, vc, rfl⟩ := row_slice hr
  by_cases hbig : (65536 : Int) - (bs.length : Nat) < n
  · have HB := hidden hbig
    clear hr
    go_enter Tryz.func15, Tryz.ntmps15
    go_wp2_with fail
    go_ret2
    exact Or.inl ⟨HB.out, rfl, rfl⟩
  · have hle : n ≤ (65536 : Int) - (bs.length : Nat) := by omega
    have HR : Hid (GrowB B w (.slice va bs.length vc) w (.slice va bs.length vc) bs) := ⟨hr, ⟨rfl, rfl, rfl, Nat.le_refl _, fun _ _ _ => rfl⟩, Or.inl rfl⟩
    obtain ⟨N, hN⟩ : ∃ N, n.toNat = N := ⟨_, rfl⟩
    have HN := hidden hN
    have hN2 : N ≤ 65536 := by omega
    have hN3 : (0 ≤ n ∧ n = (N : Int)) ∨ (n < 0 ∧ N = 0) := by omega
    have HLE := hidden hle
    clear hr hN hbig
    go_enter Tryz.func15, Tryz.ntmps15
    go_wp2_with fail
    go_loopw [0, 6] (fun pv iv wr => ∃ q : Nat, q ≤ N ∧ iv = .int .i64 (q : Nat) ∧ GrowB B w (.slice va bs.length vc) wr pv (bs ++ sp q)) (fun _ iv _ => N - (intOf iv).toNat)
    case atStart => exact ⟨0, Nat.zero_le _, rfl, by have e : bs ++ sp 0 = bs := List.append_nil _; rw [e]; exact HR.out⟩
    case round =>
      obtain ⟨q, hq, rfl, hg⟩ := hrel
      by_cases hqn : q < N
      · have hlz : (q : Int) < n := by omega
        have hown := hg.row.alloc (.cells #[.int .u8 32] 5)
        have hln : (bs ++ sp q).length = bs.length + q := by simp [sp]
        have cn := cells_new wr 5 [.int .u8 32]
        have hBs : B ≤ (wr.alloc (.cells #[.int .u8 32] 5)).heap.size := by have := hg.gr.size; simp; omega
        have HG := hidden hg
        rw [hln] at hown
        have q3 : bs.length + q + 1 ≤ maxLen := by unfold maxLen; omega
        have q4 : (bs.length + q + 1) * 1 ≤ 140737488355328 := by omega
        have HLN := hidden hln
        clear hg hln
        go_wp2_with (at_builtin; refine wpList_append_at _ rfl _ _ 25 rfl B 5 i5 (.int .u8 0) 1 1 Tryz.underlying25 hi5 hz5 hy5 hb5 rfl (by decide) _ _ _ rfl hown ⟨wr.heap.size, 0, none⟩ 1 1 [.int .u8 32] rfl rfl cn (one1 _ _) q3 q4 hBs (by decide) ?_)
        intro v' w3 hr3 hg3 hloc
        have hr4 : w3.ownsRow B 5 1 v' ((bs ++ sp q).length + 1) (bc (bs ++ sp q) ++ [.int .u8 ((32 : Nat) : Int)]) := by rw [HLN.out]; exact hr3
        have h5 := HG.out.next hr4 hg3 (hloc.imp id (fun e => ⟨wr.heap.size + 1, by omega, by rw [e]⟩))
        rw [List.append_assoc, ← sp_snoc] at h5
        have H5 := hidden h5
        clear hr3 hg3 hloc hr4 h5 hown cn
        go_wp2_with fail
        go_roundw
        case rel => exact ⟨q + 1, hqn, by go_num, H5.out⟩
        case measure => simp [intOf]; omega
      · have hqe : q = N := by omega
        have hlz : ¬ ((q : Int) < n) := by omega
        rw [hqe, ← HN.out] at hg
        have HG := hidden hg
        clear hg hqe hqn
        go_wp2_with fail
        go_ret2
        exact Or.inr ⟨HLE.out, _, rfl, HG.out⟩
end Go.Proofs.PlatenLayout

/- The document's Lay. -/
namespace Go.Proofs.PlatenLayout
open Go Go.RowKit Go.Shelf
set_option linter.unusedVariables false
set_option maxRecDepth 100000

def rowH (G : List Gr) : List Value := G.flatMap fun g => [.bool g.flat, .bool g.whole, .int .i64 g.ind]
theorem rowH_app (a b : List Gr) : rowH (a ++ b) = rowH a ++ rowH b := by simp [rowH]
theorem rowH_len (G : List Gr) : (rowH G).length = G.length * 3 := by
  induction G with
  | nil => rfl
  | cons x r ih => show ([_, _, _] ++ rowH r).length = _; rw [List.length_append, ih]; simp only [List.length_cons, List.length_nil]; omega
theorem rowH_last (G : List Gr) (g : Gr) : (rowH (G ++ [g]))[G.length * 3]? = some (.bool g.flat) ∧ (rowH (G ++ [g]))[G.length * 3 + 1]? = some (.bool g.whole) ∧ (rowH (G ++ [g]))[G.length * 3 + 2]? = some (.int .i64 g.ind) := by
  have hl := rowH_len G
  rw [rowH_app]
  refine ⟨?_, ?_, ?_⟩
  · rw [List.getElem?_append_right (by omega), hl, Nat.sub_self]; rfl
  · rw [List.getElem?_append_right (by omega), hl, show G.length * 3 + 1 - G.length * 3 = 1 by omega]; rfl
  · rw [List.getElem?_append_right (by omega), hl, show G.length * 3 + 2 - G.length * 3 = 2 by omega]; rfl
theorem rowH_cut {w : World} {a : Option Addr} {k cap C n : Nat} {O : List Gr} {o : Gr} (hn : n = O.length) (h : w.ownsRow C 52 3 (.slice a k cap) (n + 1) (rowH (O ++ [o]))) : w.ownsRow C 52 3 (.slice a n cap) n (rowH O) := by
  subst hn
  rcases h.2 with ⟨e, h0⟩ | ⟨g, cp, cur, e, hbg, hg, hnc, hcm, hcs, ht⟩
  · simp at h0
  · injection e with e1 e2 e3
    subst e1 e3
    refine ⟨rowH_len O, Or.inr ⟨g, _, cur, rfl, hbg, hg, by omega, hcm, hcs, ?_⟩⟩
    have := congrArg (List.take (O.length * 3)) ht
    rw [List.take_take, rowH_app, List.take_left' (rowH_len O)] at this
    rw [show O.length * 3 = min (O.length * 3) ((O.length + 1) * 3) by omega, this]
/-- The text so far and the groups, in rows of one's own. -/
structure RL (B : Nat) (w0 w : World) (pv gv : Value) (s : Ly) : Prop where
  prow : w.ownsRow B 5 1 pv s.p.length (bc s.p)
  grow : w.ownsRow B 52 3 gv (s.gs.length + 1) (rowH (s.gs.reverse ++ [s.g]))
  bs : B ≤ w.heap.size
  bel : Below B w0 w
theorem RL.grown {B : Nat} {w0 w w' : World} {pv gv : Value} {s : Ly} (h : RL B w0 w pv gv s) (hg : w.grownBy w' none) : RL B w0 w' pv gv s :=
  ⟨row_grown h.prow hg (by simp), row_grown h.grow hg (by simp), Nat.le_trans h.bs hg.size, h.bel.grown hg h.bs (by simp)⟩
/-- Another text. -/
theorem RL.text {B : Nat} {w0 w w' : World} {pv gv v' : Value} {s : Ly} (h : RL B w0 w pv gv s) {p' : List Nat} (col : Int) (hr : w'.ownsRow B 5 1 v' p'.length (bc p')) (hg : w.grownBy w' pv.ownBlock) : RL B w0 w' v' gv { s with p := p', col := col } :=
  ⟨hr, row_grown h.grow hg (fun k hk => row_ne h.grow h.prow (by decide) hk), Nat.le_trans h.bs hg.size, h.bel.grown hg h.bs (fun k e => (h.prow.lt k e).1)⟩
theorem heap_grown {B n : Nat} {w w' : World} {pv : Value} {xs : List Value} (h : w.ownsRow B 5 1 pv n xs) (hg : w.grownBy w' pv.ownBlock) {k : Nat} {x : Array Value} {t : TypeId} (hk : w.heap[k]? = some (.cells x t (0, 0))) (ht : t ≠ 5) : w'.heap[k]? = some (.cells x t (0, 0)) :=
  (hg.block k (Array.getElem?_eq_some_iff.1 hk).1 (fun e => row_head h hk (fun q => ht q.symm) e.symm)).trans hk
/-- What the document's Lay answers. -/
def LayB (w : World) (o : Option (List Nat)) (e : Ending) (w' : World) : Prop :=
  match o with
  | some q => ∃ v B, e = .returned (.tuple #[v, .bool true]) ∧ w.heap.size ≤ B ∧ w'.ownsRow B 5 1 v q.length (bc q)
  | none => e = .returned (.tuple #[.slice none 0 0, .bool false])
theorem layB_none {w w' : World} {o : Option (List Nat)} (h : o = none) : LayB w o (.returned (.tuple #[.slice none 0 0, .bool false])) w' := by rw [h]; rfl
theorem one3' (a b : Bool) (c : Int) : ∀ u ∈ [Value.bool a, Value.bool b, Value.int .i64 c], u.oneCell' = true := by
  intro u hu
  simp at hu
  rcases hu with rfl | rfl | rfl <;> rfl

set_option maxHeartbeats 8000000 in
theorem rlay_any {v : Value} {l : List It} {w : World} (h : IsItems w v l) (ok : OkL l) (wd : Int) (hwd : -4000000000 ≤ wd ∧ wd ≤ 4000000000) :
    Calls Tryz.prog 8 #[v, .int .i64 wd] w fun e w' => LayB w (lay wd l s0) e w' ∧ Below w.heap.size w w' := by
  obtain ⟨i5, hi5, hz5, hy5, hb5⟩ := info_parts info5
  obtain ⟨i64, hi64, hz64, hy64, hb64⟩ := info_parts info64
  have cs := rsizes_any h ok
  obtain ⟨a, cap, rfl⟩ := h.val
  have hl1 := ok.1
  have HL := hidden h
  have Hok := hidden ok
  obtain ⟨n, hn⟩ : ∃ n, l.length = n := ⟨_, rfl⟩
  rw [hn] at hl1 cs ⊢
  have Hn := hidden hn
  clear h ok hn
  go_enter Tryz.func8, Tryz.ntmps8
  go_wp2_with fail
  refine cs.mono ?_
  clear cs
  rintro e w2 ⟨u, rfl, hz2, hb2⟩
  obtain ⟨za, zc, rfl, _⟩ := id hz2
  have HZ2 := hidden hz2
  have HBw := hidden hb2
  rw [szs_len, Hn.out]
  have HR0 : Hid (RL w2.heap.size w2 (w2.alloc (.cells #[.bool false, .bool false, .int .i64 0] 52)) (.slice none 0 0) (.slice (some ⟨w2.heap.size, 0, none⟩) 1 1) s0) := by
    refine ⟨World.ownsRow_nil _ _ _ _, ?_, by simp, (Below.refl _ _).alloc (Nat.le_refl _) _⟩
    refine ⟨rfl, Or.inr ⟨w2.heap.size, 1, _, rfl, Nat.le_refl _, heap_alloc_new _ _, by show 1 ≤ 1; omega, by unfold maxLen; omega, rfl, rfl⟩⟩
  clear hz2 hb2
  go_wp2_with fail
  go_loopw [6, 8, 9, 10] (fun pv gv cv iv wr => ∃ (k : Nat) (s : Ly), k ≤ n ∧ iv = .int .i64 (k : Nat) ∧ cv = .int .i64 s.col ∧ LI k s ∧ s.p.length ≤ most ∧ lay wd (l.drop k) s = lay wd l s0 ∧ RL w2.heap.size w2 wr pv gv s) (fun _ _ _ iv _ => n - (intOf iv).toNat)
  case atStart => exact ⟨0, s0, Nat.zero_le _, rfl, rfl, li_start, Nat.zero_le _, rfl, HR0.out⟩
  case round =>
    obtain ⟨k, s, hk, rfl, rfl, hli, hm, hlay, R⟩ := hrel
    obtain ⟨q, col, ⟨fl, wh, ind⟩, gs⟩ := s
    simp only at hm
    by_cases hlt : k < n
    · have hll : k < l.length := by rw [Hn.out]; exact hlt
      have hm' : q.length ≤ 65536 := hm
      obtain ⟨x, hx⟩ : ∃ x, l[k] = x := ⟨_, rfl⟩
      have hdr : l.drop k = x :: l.drop (k + 1) := by rw [← hx]; exact List.drop_eq_getElem_cons hll
      have hox : OkIt x := Hok.out.2 x (by rw [← hx]; exact List.getElem_mem hll)
      have hszb := Hok.out.size k
      have HL2 : Hid (lay wd l s0 = if most < (stepL wd ⟨q, col, ⟨fl, wh, ind⟩, gs⟩ x (l.drop (k + 1))).p.length then none else lay wd (l.drop (k + 1)) (stepL wd ⟨q, col, ⟨fl, wh, ind⟩, gs⟩ x (l.drop (k + 1)))) := by
        unfold Hid
        rw [← hlay, hdr]
        rfl
      have Hst : Hid ((stepL wd ⟨q, col, ⟨fl, wh, ind⟩, gs⟩ x (l.drop (k + 1))).p.length ≤ most → LI (k + 1) (stepL wd ⟨q, col, ⟨fl, wh, ind⟩, gs⟩ x (l.drop (k + 1)))) := fun q => li_step hli hox hm q
      have hc0 := hli.c0
      have hcp := hli.cp
      have hind := hli.ind ⟨fl, wh, ind⟩ (by simp)
      have hgn := hli.gn
      simp only at hc0 hcp hind hgn
      have hkn : (k : Int) ≤ 1500 := by omega
      have hi1 : -1600000000 ≤ ind ∧ ind ≤ 1600000000 := by omega
      have hoff := hox.off
      have hxn := hox.n
      have hxl := hox.len
      have Hm := hidden hm
      have HOX := hidden hox
      obtain ⟨sz, hsz⟩ : ∃ sz, size (l.drop k) = sz := ⟨_, rfl⟩
      have HSZ0 := hidden hsz
      have HSZ : Hid (size (x :: l.drop (k + 1)) = sz) := by unfold Hid; rw [← hdr]; exact hsz
      rw [hsz] at hszb
      have hlz : (k : Int) < (n : Int) := by omega
      -- the groups' row
      obtain ⟨ga, gc, hgv⟩ := row_slice R.grow
      simp only at hgv
      subst hgv
      obtain ⟨gb, hgb⟩ : ∃ gb, ga = some ⟨gb, 0, none⟩ := by
        rcases R.grow.2 with ⟨e, h0⟩ | ⟨gb, cp, cur, e, _⟩
        · simp at h0
        · injection e with e1
          exact ⟨gb, e1⟩
      subst hgb
      obtain ⟨r0, r1, r2⟩ := rowH_last gs.reverse ⟨fl, wh, ind⟩
      rw [List.length_reverse] at r0 r1 r2
      have g0 : wr.cell? ⟨gb, gs.length * 3, none⟩ = some (.bool fl) := by rw [R.grow.cellAt _ (by show _ < (gs.length + 1) * 3; omega)]; exact r0
      have g1_ : wr.cell? ⟨gb, gs.length * 3 + 1, none⟩ = some (.bool wh) := by rw [R.grow.cellAt _ (by show _ < (gs.length + 1) * 3; omega)]; exact r1
      have g2 : wr.cell? ⟨gb, gs.length * 3 + 2, none⟩ = some (.int .i64 ind) := by rw [R.grow.cellAt _ (by show _ < (gs.length + 1) * 3; omega)]; exact r2
      have hgc : gs.length + 1 ≤ gc := by
        rcases R.grow.2 with ⟨e, h0⟩ | ⟨gb, cp, cur, e, hbg, hgh, hnc, _⟩
        · simp at h0
        · injection e with e1 e2 e3
          have hnc : gs.length + 1 ≤ cp := hnc
          omega
      obtain ⟨pa, pc, hpv⟩ := row_slice R.prow
      simp only at hpv
      subst hpv
      -- behind the two copies
      have R1 := R.grown (grownBy_alloc wr (.cells #[.bool fl, .bool wh, .int .i64 ind] 52))
      have hbr := HBw.out.trans (R1.bel.mono HBw.out.size)
      obtain ⟨b, off, cp, hv, hcap, x0, x1, x2, x3, x4, x5⟩ := (HL.out.below hbr).at' hll
      rw [hx] at x0 x1 x2 x3 x4 x5
      rw [Hn.out] at hv hcap
      injection hv with hv1 hv2 hv3
      subst hv1 hv3
      have HW : Hid (∀ cs, RL w2.heap.size w2 ((wr.alloc (.cells #[.bool fl, .bool wh, .int .i64 ind] 52)).alloc (.cells cs 47)) (.slice pa q.length pc) (.slice (some ⟨gb, 0, none⟩) (gs.length + 1) gc) ⟨q, col, ⟨fl, wh, ind⟩, gs⟩) := fun cs => R1.grown (grownBy_alloc _ _)
      obtain ⟨zg, zc', hzv, _, _⟩ := HZ2.out.at' (szs_get l hll)
      injection hzv with e1 e2 e3
      subst e1
      clear e2 e3
      have HZc : Hid (∀ u, Below w2.heap.size w2 u → u.cell? ⟨zg, k, none⟩ = some (.int .i64 (sz : Nat))) := fun u hu => by
        obtain ⟨g, cap, e, _, hc⟩ := (HZ2.out.below hu).at' (szs_get l hll)
        rw [szs_len, Hn.out] at e
        injection e with e1 e2 e3
        injection e1 with e1
        injection e1 with e1 e4
        subst e1
        rw [HSZ0.out] at hc
        exact hc
      have hbel1 := R1.bel
      have zz0 := HZc.out _ hbel1
      have zz1 := fun cs => HZc.out _ (HW.out cs).bel
      obtain ⟨y, hy⟩ : ∃ y, x.kind = y := ⟨_, rfl⟩
      rw [hy] at x0
      have HY := hidden hy
      have hN1 : ∀ cs, ((wr.alloc (.cells #[.bool fl, .bool wh, .int .i64 ind] 52)).alloc (.cells cs 47)).heap[wr.heap.size]? = some (.cells #[.bool fl, .bool wh, .int .i64 ind] 52 (0, 0)) := fun cs => by
        rw [Below.heap_alloc _ _ _ (by simp)]
        exact heap_alloc_new _ _
      have hN2 : ∀ cs, ((wr.alloc (.cells #[.bool fl, .bool wh, .int .i64 ind] 52)).alloc (.cells cs 47)).heap[wr.heap.size + 1]? = some (.cells cs 47 (0, 0)) := fun cs => by
        have h1 := heap_alloc_new (wr.alloc (.cells #[.bool fl, .bool wh, .int .i64 ind] 52)) (.cells cs 47)
        rw [World.size_alloc] at h1
        exact h1
      have HN1 := hidden hN1
      have HN2 := hidden hN2
      clear hx hdr hox hli hm hlay R r0 r1 r2 R1 hbr hv2 hsz hy hN1 hN2 hbel1
      by_cases k1 : y = 1
      · have z1 : ((y : Int) == 1) = true := by simp; omega
        have HS1 : Hid (stepL wd ⟨q, col, ⟨fl, wh, ind⟩, gs⟩ x (l.drop (k + 1)) = ⟨q ++ x.tx, col + (sz : Nat), ⟨fl, wh, ind⟩, gs⟩) := by unfold Hid; simp [stepL, HY.out.trans k1, HSZ.out]
        have K1 := hidden k1
        have HRW := hidden (HW.out #[.int .u8 (y : Nat), .string (str x.tx), .int .i64 x.n, .int .i64 x.off, .bool x.col, .bool x.whole])
        clear k1
        have hown := HRW.out.prow
        have hBs := HRW.out.bs
        have q1 : q.length + (str x.tx).size ≤ maxLen := by rw [str_size]; unfold maxLen; omega
        have q2 : q.length + (str x.tx).size ≤ 140737488355328 := by rw [str_size]; omega
        have HSL := hidden (str_size x.tx)
        have HSC := hidden (strCells_str x.tx HOX.out.tx)
        generalize str x.tx = st at *
        go_wp2_with (at_builtin; refine Lib.wpList_append_own_string _ rfl _ _ 25 9 rfl w2.heap.size 5 i5 Tryz.underlying25 Tryz.underlying9 hi5 hz5 hy5 hb5 _ _ _ rfl hown st rfl q1 q2 hBs ?_)
        intro v' w4 hr hg _
        rw [HSC.out, HSL.out, ← bc_app] at hr
        obtain ⟨ua, uc, rfl⟩ := row_slice hr
        have HRL := hidden (HRW.out.text (p' := q ++ x.tx) (col + (sz : Nat)) (by rw [List.length_append]; exact hr) hg)
        have zz2 := HZc.out _ HRL.out.bel
        clear hr hg hown hBs
        by_cases hbg : 65536 < q.length + x.tx.length
        · have hbz : (65536 : Int) < ((q.length : Int) + (x.tx.length : Int)) := by omega
          have HNo : Hid (lay wd l s0 = none) := by
            unfold Hid
            rw [HL2.out, HS1.out, if_pos (show most < (q ++ x.tx).length by have := (@List.length_append _ q x.tx); show 65536 < (q ++ x.tx).length; omega)]
          go_wp2_with fail
          go_ret2
          exact ⟨layB_none HNo.out, HBw.out.trans (HRL.out.bel.mono HBw.out.size)⟩
        · have hbz : ¬ ((65536 : Int) < ((q.length : Int) + (x.tx.length : Int))) := by omega
          have hle : (q ++ x.tx).length ≤ most := by have := (@List.length_append _ q x.tx); show (q ++ x.tx).length ≤ 65536; omega
          have HNx : Hid (lay wd (l.drop (k + 1)) (⟨q ++ x.tx, col + (sz : Nat), ⟨fl, wh, ind⟩, gs⟩) = lay wd l s0) := by
            unfold Hid
            rw [HL2.out, HS1.out, if_neg (Nat.not_lt_of_le hle)]
          have HLI := hidden (Hst.out (by rw [HS1.out]; exact hle))
          rw [HS1.out] at HLI
          have Hle := hidden hle
          clear hle
          go_wp2_with fail
          go_roundw
          case rel => exact ⟨k + 1, ⟨q ++ x.tx, col + (sz : Nat), ⟨fl, wh, ind⟩, gs⟩, hlt, by go_num, rfl, HLI.out, Hle.out, HNx.out, HRL.out⟩
          case measure => simp [intOf]; omega
      have z1 : ((y : Int) == 1) = false := by simp; omega
      by_cases k3 : y = 3
      · have z3 : ((y : Int) == 3) = true := by simp; omega
        have K3 := hidden (HY.out.trans k3)
        obtain ⟨xc, hxc⟩ : ∃ xc, x.col = xc := ⟨_, rfl⟩
        have HXC := hidden hxc
        clear k1 k3 hxc
        cases xc with
        | true =>
          have HS1 : Hid (stepL wd ⟨q, col, ⟨fl, wh, ind⟩, gs⟩ x (l.drop (k + 1)) = ⟨q, col, ⟨decide ((sz : Int) ≤ wd - col), x.whole, col + x.off⟩, ⟨fl, wh, ind⟩ :: gs⟩) := by unfold Hid; simp [stepL, K3.out, HSZ.out, HXC.out]
          have wr0 : IntKind.i64.wrap (col + x.off) = col + x.off := IntWalk.i64_in _ (by omega)
          have HRW := hidden ((HW.out #[.int .u8 (y : Nat), .string (str x.tx), .int .i64 x.n, .int .i64 x.off, .bool true, .bool x.whole]).grown (grownBy_alloc _ (.cells #[.bool (decide ((sz : Int) ≤ wd - col)), .bool x.whole, .int .i64 (col + x.off)] 52)))
          have hown : (((wr.alloc (.cells #[.bool fl, .bool wh, .int .i64 ind] 52)).alloc (.cells #[.int .u8 (y : Nat), .string (str x.tx), .int .i64 x.n, .int .i64 x.off, .bool true, .bool x.whole] 47)).alloc (.cells #[.bool (decide ((sz : Int) ≤ wd - col)), .bool x.whole, .int .i64 (col + x.off)] 52)).ownsRow w2.heap.size 52 3 (.slice (some ⟨gb, 0, none⟩) (gs.length + 1) gc) (gs.length + 1) (rowH (gs.reverse ++ [⟨fl, wh, ind⟩])) := HRW.out.grow
          have hBs := HRW.out.bs
          have cn := cells_new ((wr.alloc (.cells #[.bool fl, .bool wh, .int .i64 ind] 52)).alloc (.cells #[.int .u8 (y : Nat), .string (str x.tx), .int .i64 x.n, .int .i64 x.off, .bool true, .bool x.whole] 47)) 52 [.bool (decide ((sz : Int) ≤ wd - col)), .bool x.whole, .int .i64 (col + x.off)]
          rw [World.size_alloc, World.size_alloc] at cn
          have q3 : gs.length + 1 + 1 ≤ maxLen := by unfold maxLen; omega
          have q4 : (gs.length + 1 + 1) * 16 ≤ 140737488355328 := by omega
          have HN2b := hidden (HN2.out #[.int .u8 (y : Nat), .string (str x.tx), .int .i64 x.n, .int .i64 x.off, .bool true, .bool x.whole])
          rw [HXC.out] at x4
          go_wp2_with (at_builtin; refine wpList_append_own _ rfl _ _ 53 rfl w2.heap.size 52 i64 (.agg #[.bool false, .bool false, .int .i64 0]) 3 16 Tryz.underlying53 hi64 hz64 hy64 hb64 rfl (by decide) _ _ _ rfl hown ⟨wr.heap.size + 1 + 1, 0, none⟩ 1 1 [.bool (decide ((sz : Int) ≤ wd - col)), .bool x.whole, .int .i64 (col + x.off)] rfl rfl cn (one3' _ _ _) q3 q4 hBs ?_)
          intro v' w4 hr hg _
          have HRL : Hid (RL w2.heap.size w2 w4 (.slice pa q.length pc) v' ⟨q, col, ⟨decide ((sz : Int) ≤ wd - col), x.whole, col + x.off⟩, ⟨fl, wh, ind⟩ :: gs⟩) := by
            refine ⟨row_grown HRW.out.prow hg (fun q hq => row_ne HRW.out.prow hown (by decide) hq), ?_, Nat.le_trans HRW.out.bs hg.size, HRW.out.bel.grown hg HRW.out.bs (fun q e => (hown.lt q e).1)⟩
            show w4.ownsRow w2.heap.size 52 3 v' (gs.length + 1 + 1) (rowH ((⟨fl, wh, ind⟩ :: gs).reverse ++ [⟨decide ((sz : Int) ≤ wd - col), x.whole, col + x.off⟩]))
            rw [List.reverse_cons, rowH_app]
            exact hr
          clear hr hg hown cn hBs
          have HNx : Hid (lay wd (l.drop (k + 1)) (⟨q, col, ⟨decide ((sz : Int) ≤ wd - col), x.whole, col + x.off⟩, ⟨fl, wh, ind⟩ :: gs⟩) = lay wd l s0) := by
            unfold Hid
            rw [HL2.out, HS1.out, if_neg (Nat.not_lt_of_le Hm.out)]
          have HLI := hidden (Hst.out (by rw [HS1.out]; exact Hm.out))
          rw [HS1.out] at HLI
          go_wp2_with fail
          go_roundw
          case rel => exact ⟨k + 1, ⟨q, col, ⟨decide ((sz : Int) ≤ wd - col), x.whole, col + x.off⟩, ⟨fl, wh, ind⟩ :: gs⟩, hlt, by go_num, rfl, HLI.out, Hm.out, HNx.out, HRL.out⟩
          case measure => simp [intOf]; omega
        | false =>
          have HS1 : Hid (stepL wd ⟨q, col, ⟨fl, wh, ind⟩, gs⟩ x (l.drop (k + 1)) = ⟨q, col, ⟨decide ((sz : Int) ≤ wd - col), x.whole, ind + x.off⟩, ⟨fl, wh, ind⟩ :: gs⟩) := by unfold Hid; simp [stepL, K3.out, HSZ.out, HXC.out]
          have wr0 : IntKind.i64.wrap (ind + x.off) = ind + x.off := IntWalk.i64_in _ (by omega)
          have HRW := hidden ((HW.out #[.int .u8 (y : Nat), .string (str x.tx), .int .i64 x.n, .int .i64 x.off, .bool false, .bool x.whole]).grown (grownBy_alloc _ (.cells #[.bool (decide ((sz : Int) ≤ wd - col)), .bool x.whole, .int .i64 (ind + x.off)] 52)))
          have hown : (((wr.alloc (.cells #[.bool fl, .bool wh, .int .i64 ind] 52)).alloc (.cells #[.int .u8 (y : Nat), .string (str x.tx), .int .i64 x.n, .int .i64 x.off, .bool false, .bool x.whole] 47)).alloc (.cells #[.bool (decide ((sz : Int) ≤ wd - col)), .bool x.whole, .int .i64 (ind + x.off)] 52)).ownsRow w2.heap.size 52 3 (.slice (some ⟨gb, 0, none⟩) (gs.length + 1) gc) (gs.length + 1) (rowH (gs.reverse ++ [⟨fl, wh, ind⟩])) := HRW.out.grow
          have hBs := HRW.out.bs
          have cn := cells_new ((wr.alloc (.cells #[.bool fl, .bool wh, .int .i64 ind] 52)).alloc (.cells #[.int .u8 (y : Nat), .string (str x.tx), .int .i64 x.n, .int .i64 x.off, .bool false, .bool x.whole] 47)) 52 [.bool (decide ((sz : Int) ≤ wd - col)), .bool x.whole, .int .i64 (ind + x.off)]
          rw [World.size_alloc, World.size_alloc] at cn
          have q3 : gs.length + 1 + 1 ≤ maxLen := by unfold maxLen; omega
          have q4 : (gs.length + 1 + 1) * 16 ≤ 140737488355328 := by omega
          have HN2b := hidden (HN2.out #[.int .u8 (y : Nat), .string (str x.tx), .int .i64 x.n, .int .i64 x.off, .bool false, .bool x.whole])
          rw [HXC.out] at x4
          go_wp2_with (at_builtin; refine wpList_append_own _ rfl _ _ 53 rfl w2.heap.size 52 i64 (.agg #[.bool false, .bool false, .int .i64 0]) 3 16 Tryz.underlying53 hi64 hz64 hy64 hb64 rfl (by decide) _ _ _ rfl hown ⟨wr.heap.size + 1 + 1, 0, none⟩ 1 1 [.bool (decide ((sz : Int) ≤ wd - col)), .bool x.whole, .int .i64 (ind + x.off)] rfl rfl cn (one3' _ _ _) q3 q4 hBs ?_)
          intro v' w4 hr hg _
          have HRL : Hid (RL w2.heap.size w2 w4 (.slice pa q.length pc) v' ⟨q, col, ⟨decide ((sz : Int) ≤ wd - col), x.whole, ind + x.off⟩, ⟨fl, wh, ind⟩ :: gs⟩) := by
            refine ⟨row_grown HRW.out.prow hg (fun q hq => row_ne HRW.out.prow hown (by decide) hq), ?_, Nat.le_trans HRW.out.bs hg.size, HRW.out.bel.grown hg HRW.out.bs (fun q e => (hown.lt q e).1)⟩
            show w4.ownsRow w2.heap.size 52 3 v' (gs.length + 1 + 1) (rowH ((⟨fl, wh, ind⟩ :: gs).reverse ++ [⟨decide ((sz : Int) ≤ wd - col), x.whole, ind + x.off⟩]))
            rw [List.reverse_cons, rowH_app]
            exact hr
          clear hr hg hown cn hBs
          have HNx : Hid (lay wd (l.drop (k + 1)) (⟨q, col, ⟨decide ((sz : Int) ≤ wd - col), x.whole, ind + x.off⟩, ⟨fl, wh, ind⟩ :: gs⟩) = lay wd l s0) := by
            unfold Hid
            rw [HL2.out, HS1.out, if_neg (Nat.not_lt_of_le Hm.out)]
          have HLI := hidden (Hst.out (by rw [HS1.out]; exact Hm.out))
          rw [HS1.out] at HLI
          go_wp2_with fail
          go_roundw
          case rel => exact ⟨k + 1, ⟨q, col, ⟨decide ((sz : Int) ≤ wd - col), x.whole, ind + x.off⟩, ⟨fl, wh, ind⟩ :: gs⟩, hlt, by go_num, rfl, HLI.out, Hm.out, HNx.out, HRL.out⟩
          case measure => simp [intOf]; omega
      have z3 : ((y : Int) == 3) = false := by simp; omega
      by_cases k4 : y = 4
      · have z4 : ((y : Int) == 4) = true := by simp; omega
        have K4 := hidden (HY.out.trans k4)
        have HRW := hidden (HW.out #[.int .u8 (y : Nat), .string (str x.tx), .int .i64 x.n, .int .i64 x.off, .bool x.col, .bool x.whole])
        clear k1 k3 k4
        cases gs with
        | nil =>
          have HS1 : Hid (stepL wd ⟨q, col, ⟨fl, wh, ind⟩, []⟩ x (l.drop (k + 1)) = ⟨q, col, ⟨fl, wh, ind⟩, []⟩) := by unfold Hid; simp [stepL, K4.out]
          have HRL := HRW
          have g0 : wr.cell? ⟨gb, 0, none⟩ = some (.bool fl) := g0
          have g1' : wr.cell? ⟨gb, 0 + 1, none⟩ = some (.bool wh) := g1_
          have g1'' : wr.cell? ⟨gb, 1, none⟩ = some (.bool wh) := g1_
          have g2 : wr.cell? ⟨gb, 2, none⟩ = some (.int .i64 ind) := g2
          clear hgc
          simp only [List.length_nil, Nat.zero_add]
          have HNx : Hid (lay wd (l.drop (k + 1)) (⟨q, col, ⟨fl, wh, ind⟩, []⟩) = lay wd l s0) := by
            unfold Hid
            rw [HL2.out, HS1.out, if_neg (Nat.not_lt_of_le Hm.out)]
          have HLI := hidden (Hst.out (by rw [HS1.out]; exact Hm.out))
          rw [HS1.out] at HLI
          go_wp2_with fail
          go_roundw
          case rel => exact ⟨k + 1, ⟨q, col, ⟨fl, wh, ind⟩, []⟩, hlt, by go_num, rfl, HLI.out, Hm.out, HNx.out, HRL.out⟩
          case measure => simp [intOf]; omega
        | cons g1 gs =>
          have HS1 : Hid (stepL wd ⟨q, col, ⟨fl, wh, ind⟩, g1 :: gs⟩ x (l.drop (k + 1)) = ⟨q, col, g1, gs⟩) := by unfold Hid; simp [stepL, K4.out]
          have HRL : Hid (RL w2.heap.size w2 ((wr.alloc (.cells #[.bool fl, .bool wh, .int .i64 ind] 52)).alloc (.cells #[.int .u8 (y : Nat), .string (str x.tx), .int .i64 x.n, .int .i64 x.off, .bool x.col, .bool x.whole] 47)) (.slice pa q.length pc) (.slice (some ⟨gb, 0, none⟩) (gs.length + 1) gc) ⟨q, col, g1, gs⟩) := by
            refine ⟨HRW.out.prow, ?_, HRW.out.bs, HRW.out.bel⟩
            have h1 : ((wr.alloc (.cells #[.bool fl, .bool wh, .int .i64 ind] 52)).alloc (.cells #[.int .u8 (y : Nat), .string (str x.tx), .int .i64 x.n, .int .i64 x.off, .bool x.col, .bool x.whole] 47)).ownsRow w2.heap.size 52 3 (.slice (some ⟨gb, 0, none⟩) (gs.length + 1 + 1) gc) (gs.length + 1 + 1) (rowH ((g1 :: gs).reverse ++ [⟨fl, wh, ind⟩])) := HRW.out.grow
            have h2 := rowH_cut (n := gs.length + 1) (by simp) h1
            rw [List.reverse_cons] at h2
            exact h2
          have hg1 : gs.length + 1 + 1 ≤ gc := hgc
          have hgn1 : gs.length + 1 ≤ k := hgn
          have g0 : wr.cell? ⟨gb, (gs.length + 1) * 3, none⟩ = some (.bool fl) := g0
          have g1' : wr.cell? ⟨gb, (gs.length + 1) * 3 + 1, none⟩ = some (.bool wh) := g1_
          have g2 : wr.cell? ⟨gb, (gs.length + 1) * 3 + 2, none⟩ = some (.int .i64 ind) := g2
          clear hgc hgn HRW
          simp only [List.length_cons]
          generalize gs.length = m at *
          have HNx : Hid (lay wd (l.drop (k + 1)) (⟨q, col, g1, gs⟩) = lay wd l s0) := by
            unfold Hid
            rw [HL2.out, HS1.out, if_neg (Nat.not_lt_of_le Hm.out)]
          have HLI := hidden (Hst.out (by rw [HS1.out]; exact Hm.out))
          rw [HS1.out] at HLI
          go_wp2_with fail
          go_roundw
          case rel => exact ⟨k + 1, ⟨q, col, g1, gs⟩, hlt, by go_num, rfl, HLI.out, Hm.out, HNx.out, HRL.out⟩
          case measure => simp [intOf]; omega
      have z4 : ((y : Int) == 4) = false := by simp; omega
      by_cases k2 : y = 2
      · have z2 : ((y : Int) == 2) = true := by simp; omega
        have K2 := hidden (HY.out.trans k2)
        obtain ⟨m, hm⟩ : ∃ m, x.n.toNat = m := ⟨_, rfl⟩
        have hmb : m ≤ 1048576 := by omega
        have HM := hidden hm
        clear k1 k2 k3 k4 hm
        cases fl with
        | true =>
          have HS1 : Hid (stepL wd ⟨q, col, ⟨true, wh, ind⟩, gs⟩ x (l.drop (k + 1)) = ⟨q ++ sp m, col + (m : Nat), ⟨true, wh, ind⟩, gs⟩) := by
            unfold Hid
            rw [stepL_gap _ _ _ _ K2.out, if_pos (by simp), HM.out]
          have HRW := hidden (HW.out #[.int .u8 (y : Nat), .string (str x.tx), .int .i64 x.n, .int .i64 x.off, .bool x.col, .bool x.whole])
          have cb := blanks_any x ((wr.alloc (.cells #[.bool true, .bool wh, .int .i64 ind] 52)).alloc (.cells #[.int .u8 (y : Nat), .string (str x.tx), .int .i64 x.n, .int .i64 x.off, .bool x.col, .bool x.whole] 47)) m HM.out
          rw [HY.out] at cb
          have HN2b := hidden (HN2.out #[.int .u8 (y : Nat), .string (str x.tx), .int .i64 x.n, .int .i64 x.off, .bool x.col, .bool x.whole])
          go_wp2_with fail
          refine cb.mono ?_
          clear cb
          rintro e w3 ⟨rfl, hb3⟩
          have hN3 := (hb3.block _ (by simp)).trans HN2b.out
          have HR3 := hidden (HRW.out.grown (grown_below hb3))
          have cs := spread_any HR3.out.prow HR3.out.bs (m : Int) (by omega) (by show q.length ≤ 1000000; omega)
          clear hb3
          go_wp2_with fail
          refine cs.mono ?_
          clear cs
          intro e w4 hsp
          rcases hsp with ⟨hb, rfl, rfl⟩ | ⟨hle, v', rfl, hgb⟩
          · have cb := blanks_any x w4 m HM.out
            rw [HY.out] at cb
            have i0 := cell_of' hN3 0
            have i1 := cell_of' hN3 1
            have i2 := cell_of' hN3 2
            have i3 := cell_of' hN3 3
            have i4 := cell_of' hN3 4
            have i5' := cell_of' hN3 5
            simp only [List.getElem?_toArray, List.getElem?_cons_zero, List.getElem?_cons_succ] at i0 i1 i2 i3 i4 i5'
            have hb : (65536 : Int) - (q.length : Nat) < (m : Int) := hb
            have HNo : Hid (lay wd l s0 = none) := by
              unfold Hid
              rw [HL2.out, HS1.out, if_pos]
              show 65536 < (q ++ sp m).length
              rw [List.length_append, sp_len]
              omega
            have HB4 := hidden (HBw.out.trans (HR3.out.bel.mono HBw.out.size))
            have hsz4 := HBw.out.size
            have hsz5 := HR3.out.bel.size
            clear hN3 hb
            go_wp2_with fail
            refine cb.mono ?_
            clear cb
            rintro e w5 ⟨rfl, hb5⟩
            have HB5 := hidden (HB4.out.trans (hb5.mono (by omega)))
            clear hb5 i0 i1 i2 i3 i4 i5'
            go_wp2_with fail
            go_ret2
            exact ⟨layB_none HNo.out, HB5.out⟩
          · rw [Int.toNat_natCast] at hgb
            have hN4 := heap_grown HR3.out.prow hgb.gr hN3 (by decide)
            have cb := blanks_any x w4 m HM.out
            rw [HY.out] at cb
            have i0 := cell_of' hN4 0
            have i1 := cell_of' hN4 1
            have i2 := cell_of' hN4 2
            have i3 := cell_of' hN4 3
            have i4 := cell_of' hN4 4
            have i5' := cell_of' hN4 5
            simp only [List.getElem?_toArray, List.getElem?_cons_zero, List.getElem?_cons_succ] at i0 i1 i2 i3 i4 i5'
            have HR4 := hidden (HR3.out.text (p' := q ++ sp m) (col + (m : Nat)) hgb.row hgb.gr)
            obtain ⟨ua, uc, rfl⟩ := row_slice hgb.row
            have hle : (m : Int) ≤ (65536 : Int) - (q.length : Nat) := hle
            have hpl : (q ++ sp m).length = q.length + m := by rw [List.length_append, sp_len]
            have hmm : ¬ ((65536 : Int) < (q.length : Int) + (m : Int)) := by omega
            clear hN3 hN4 hgb
            rw [hpl]
            go_wp2_with fail
            refine cb.mono ?_
            clear cb
            rintro e w5 ⟨rfl, hb5⟩
            have HRL := HR4.out.grown (grown_below hb5)
            rw [hpl] at HRL
            have HRL := hidden HRL
            have Hle : Hid ((q ++ sp m).length ≤ most) := by unfold Hid; rw [hpl]; show q.length + m ≤ 65536; omega
            have HNx : Hid (lay wd (l.drop (k + 1)) ⟨q ++ sp m, col + (m : Nat), ⟨true, wh, ind⟩, gs⟩ = lay wd l s0) := by
              unfold Hid
              rw [HL2.out, HS1.out, if_neg (Nat.not_lt_of_le Hle.out)]
            have HLI := hidden (Hst.out (by rw [HS1.out]; exact Hle.out))
            rw [HS1.out] at HLI
            clear hb5 i0 i1 i2 i3 i4 i5' hle hpl
            go_wp2_with fail
            go_roundw
            case rel => exact ⟨k + 1, ⟨q ++ sp m, col + (m : Nat), ⟨true, wh, ind⟩, gs⟩, hlt, by go_num, rfl, HLI.out, Hle.out, HNx.out, HRL.out⟩
            case measure => simp [intOf]; omega
        | false =>
          cases wh with
          | true =>
            have HRW := hidden ((HW.out #[.int .u8 (y : Nat), .string (str x.tx), .int .i64 x.n, .int .i64 x.off, .bool x.col, .bool x.whole]).grown (grownBy_alloc _ (.cells #[.int .u8 10] 5)))
            have hN1b := (Below.heap_alloc ((wr.alloc (.cells #[.bool false, .bool true, .int .i64 ind] 52)).alloc (.cells #[.int .u8 (y : Nat), .string (str x.tx), .int .i64 x.n, .int .i64 x.off, .bool x.col, .bool x.whole] 47)) (.cells #[.int .u8 10] 5) wr.heap.size (by simp; omega)).trans (HN1.out #[.int .u8 (y : Nat), .string (str x.tx), .int .i64 x.n, .int .i64 x.off, .bool x.col, .bool x.whole])
            have hN2b := (Below.heap_alloc ((wr.alloc (.cells #[.bool false, .bool true, .int .i64 ind] 52)).alloc (.cells #[.int .u8 (y : Nat), .string (str x.tx), .int .i64 x.n, .int .i64 x.off, .bool x.col, .bool x.whole] 47)) (.cells #[.int .u8 10] 5) (wr.heap.size + 1) (by simp)).trans (HN2.out #[.int .u8 (y : Nat), .string (str x.tx), .int .i64 x.n, .int .i64 x.off, .bool x.col, .bool x.whole])
            have HN1c := hidden hN1b
            have HN2c := hidden hN2b
            have hown : (((wr.alloc (.cells #[.bool false, .bool true, .int .i64 ind] 52)).alloc (.cells #[.int .u8 (y : Nat), .string (str x.tx), .int .i64 x.n, .int .i64 x.off, .bool x.col, .bool x.whole] 47)).alloc (.cells #[.int .u8 10] 5)).ownsRow w2.heap.size 5 1 (.slice pa q.length pc) q.length (bc q) := HRW.out.prow
            have hBs := HRW.out.bs
            have cn := cells_new ((wr.alloc (.cells #[.bool false, .bool true, .int .i64 ind] 52)).alloc (.cells #[.int .u8 (y : Nat), .string (str x.tx), .int .i64 x.n, .int .i64 x.off, .bool x.col, .bool x.whole] 47)) 5 [.int .u8 10]
            rw [World.size_alloc, World.size_alloc] at cn
            have q3 : q.length + 1 ≤ maxLen := by unfold maxLen; omega
            have q4 : (q.length + 1) * 1 ≤ 140737488355328 := by omega
            obtain ⟨N, hN⟩ : ∃ N, (ind + x.off).toNat = N := ⟨_, rfl⟩
            have HNN := hidden hN
            clear hN1b hN2b hN
            go_wp2_with (at_builtin; refine wpList_append_own _ rfl _ _ 25 rfl w2.heap.size 5 i5 (.int .u8 0) 1 1 Tryz.underlying25 hi5 hz5 hy5 hb5 rfl (by decide) _ _ _ rfl hown ⟨wr.heap.size + 1 + 1, 0, none⟩ 1 1 [.int .u8 10] rfl rfl cn (one1 _ _) q3 q4 hBs ?_)
            intro v' w3 hr hg _
            obtain ⟨ua, uc, rfl⟩ := row_slice hr
            have HR3 := hidden (HRW.out.text (p' := q ++ [10]) 0 (by rw [List.length_append, List.length_singleton, bc_app]; exact hr) hg)
            have hN13 := heap_grown hown hg HN1c.out (by decide)
            have hN23 := heap_grown hown hg HN2c.out (by decide)
            have j2 := cell_of' hN13 2
            have i3 := cell_of' hN23 3
            simp only [List.getElem?_toArray, List.getElem?_cons_zero, List.getElem?_cons_succ] at j2 i3
            clear hr hg hown cn hBs hN13 hN23
            by_cases hneg : ind + x.off < 0
            · have HN0 : Hid (N = 0) := by unfold Hid; have := HNN.out; omega
              have HS1 : Hid (stepL wd ⟨q, col, ⟨false, true, ind⟩, gs⟩ x (l.drop (k + 1)) = ⟨q ++ [10] ++ sp N, (0 : Int), ⟨false, true, ind⟩, gs⟩) := by
                unfold Hid
                rw [stepL_gap _ _ _ _ K2.out, if_neg (by simp [HSZ.out])]
                simp only [HNN.out]
                have hcc : ((N : Nat) : Int) = (0 : Int) := by have := HN0.out; omega
                rw [hcc]
              have cs := spread_any HR3.out.prow HR3.out.bs (0 : Int) (by omega) (by show (q ++ [10]).length ≤ 1000000; rw [List.length_append, List.length_singleton]; omega)
              have hl1' : (q ++ [10]).length = q.length + 1 := by simp
              have HCN : Hid (((0 : Int) : Int).toNat = N) := by unfold Hid; have := HN0.out; omega
              go_wp2_with fail
              refine cs.mono ?_
              clear cs
              intro e w4 hsp
              rcases hsp with ⟨hb, rfl, rfl⟩ | ⟨hle, v', rfl, hgb⟩
              · rw [hl1'] at hb
                have HNo : Hid (lay wd l s0 = none) := by
                  unfold Hid
                  rw [HL2.out, HS1.out, if_pos]
                  show 65536 < (q ++ [10] ++ sp N).length
                  rw [List.length_append, sp_len, hl1']
                  have := HCN.out
                  omega
                have HB4 := hidden (HBw.out.trans (HR3.out.bel.mono HBw.out.size))
                clear hb
                go_wp2_with fail
                go_ret2
                exact ⟨layB_none HNo.out, HB4.out⟩
              · rw [HCN.out] at hgb
                rw [hl1'] at hle
                have HR4 := HR3.out.text (p' := q ++ [10] ++ sp N) (0 : Int) hgb.row hgb.gr
                obtain ⟨oa, oc, rfl⟩ := row_slice hgb.row
                have hpl : (q ++ [10] ++ sp N).length = q.length + 1 + N := by rw [List.length_append, sp_len, hl1']
                have hnb : q.length + 1 + N ≤ 65536 := by have := HCN.out; omega
                have hmm : ¬ ((65536 : Int) < (q.length : Int) + 1 + (N : Int)) := by omega
                rw [hpl] at HR4 ⊢
                have HRL := hidden HR4
                have Hle : Hid ((q ++ [10] ++ sp N).length ≤ most) := by unfold Hid; rw [hpl]; exact hnb
                have HNx : Hid (lay wd (l.drop (k + 1)) ⟨q ++ [10] ++ sp N, (0 : Int), ⟨false, true, ind⟩, gs⟩ = lay wd l s0) := by
                  unfold Hid
                  rw [HL2.out, HS1.out, if_neg (Nat.not_lt_of_le Hle.out)]
                have HLI := hidden (Hst.out (by rw [HS1.out]; exact Hle.out))
                rw [HS1.out] at HLI
                clear hgb hle hpl HR4 hl1'
                go_wp2_with fail
                go_roundw
                case rel => exact ⟨k + 1, ⟨q ++ [10] ++ sp N, (0 : Int), ⟨false, true, ind⟩, gs⟩, hlt, by go_num, rfl, HLI.out, Hle.out, HNx.out, HRL.out⟩
                case measure => simp [intOf]; omega
            · have HN0 : Hid ((N : Int) = ind + x.off) := by unfold Hid; have := HNN.out; omega
              have HS1 : Hid (stepL wd ⟨q, col, ⟨false, true, ind⟩, gs⟩ x (l.drop (k + 1)) = ⟨q ++ [10] ++ sp N, (ind + x.off), ⟨false, true, ind⟩, gs⟩) := by
                unfold Hid
                rw [stepL_gap _ _ _ _ K2.out, if_neg (by simp [HSZ.out])]
                simp only [HNN.out]
                have hcc : ((N : Nat) : Int) = (ind + x.off) := by have := HN0.out; omega
                rw [hcc]
              have cs := spread_any HR3.out.prow HR3.out.bs (ind + x.off) (by omega) (by show (q ++ [10]).length ≤ 1000000; rw [List.length_append, List.length_singleton]; omega)
              have hl1' : (q ++ [10]).length = q.length + 1 := by simp
              have HCN : Hid (((ind + x.off) : Int).toNat = N) := by unfold Hid; have := HN0.out; omega
              go_wp2_with fail
              refine cs.mono ?_
              clear cs
              intro e w4 hsp
              rcases hsp with ⟨hb, rfl, rfl⟩ | ⟨hle, v', rfl, hgb⟩
              · rw [hl1'] at hb
                have HNo : Hid (lay wd l s0 = none) := by
                  unfold Hid
                  rw [HL2.out, HS1.out, if_pos]
                  show 65536 < (q ++ [10] ++ sp N).length
                  rw [List.length_append, sp_len, hl1']
                  have := HCN.out
                  omega
                have HB4 := hidden (HBw.out.trans (HR3.out.bel.mono HBw.out.size))
                clear hb
                go_wp2_with fail
                go_ret2
                exact ⟨layB_none HNo.out, HB4.out⟩
              · rw [HCN.out] at hgb
                rw [hl1'] at hle
                have HR4 := HR3.out.text (p' := q ++ [10] ++ sp N) (ind + x.off) hgb.row hgb.gr
                obtain ⟨oa, oc, rfl⟩ := row_slice hgb.row
                have hpl : (q ++ [10] ++ sp N).length = q.length + 1 + N := by rw [List.length_append, sp_len, hl1']
                have hnb : q.length + 1 + N ≤ 65536 := by have := HCN.out; omega
                have hmm : ¬ ((65536 : Int) < (q.length : Int) + 1 + (N : Int)) := by omega
                rw [hpl] at HR4 ⊢
                have HRL := hidden HR4
                have Hle : Hid ((q ++ [10] ++ sp N).length ≤ most) := by unfold Hid; rw [hpl]; exact hnb
                have HNx : Hid (lay wd (l.drop (k + 1)) ⟨q ++ [10] ++ sp N, (ind + x.off), ⟨false, true, ind⟩, gs⟩ = lay wd l s0) := by
                  unfold Hid
                  rw [HL2.out, HS1.out, if_neg (Nat.not_lt_of_le Hle.out)]
                have HLI := hidden (Hst.out (by rw [HS1.out]; exact Hle.out))
                rw [HS1.out] at HLI
                clear hgb hle hpl HR4 hl1'
                go_wp2_with fail
                go_roundw
                case rel => exact ⟨k + 1, ⟨q ++ [10] ++ sp N, (ind + x.off), ⟨false, true, ind⟩, gs⟩, hlt, by go_num, rfl, HLI.out, Hle.out, HNx.out, HRL.out⟩
                case measure => simp [intOf]; omega
          | false =>
            by_cases hfit : (sz : Int) ≤ wd - col
            · have hdec : decide ((sz : Int) ≤ wd - col) = true := by simp [hfit]
              have HS1 : Hid (stepL wd ⟨q, col, ⟨false, false, ind⟩, gs⟩ x (l.drop (k + 1)) = ⟨q ++ sp m, col + (m : Nat), ⟨false, false, ind⟩, gs⟩) := by
                unfold Hid
                rw [stepL_gap _ _ _ _ K2.out, if_pos (by simp [HSZ.out, hfit]), HM.out]
              have HRW := hidden (HW.out #[.int .u8 (y : Nat), .string (str x.tx), .int .i64 x.n, .int .i64 x.off, .bool x.col, .bool x.whole])
              have cb := blanks_any x ((wr.alloc (.cells #[.bool false, .bool false, .int .i64 ind] 52)).alloc (.cells #[.int .u8 (y : Nat), .string (str x.tx), .int .i64 x.n, .int .i64 x.off, .bool x.col, .bool x.whole] 47)) m HM.out
              rw [HY.out] at cb
              have HN2b := hidden (HN2.out #[.int .u8 (y : Nat), .string (str x.tx), .int .i64 x.n, .int .i64 x.off, .bool x.col, .bool x.whole])
              go_wp2_with fail
              refine cb.mono ?_
              clear cb
              rintro e w3 ⟨rfl, hb3⟩
              have hN3 := (hb3.block _ (by simp)).trans HN2b.out
              have HR3 := hidden (HRW.out.grown (grown_below hb3))
              have cs := spread_any HR3.out.prow HR3.out.bs (m : Int) (by omega) (by show q.length ≤ 1000000; omega)
              clear hb3
              go_wp2_with fail
              refine cs.mono ?_
              clear cs
              intro e w4 hsp
              rcases hsp with ⟨hb, rfl, rfl⟩ | ⟨hle, v', rfl, hgb⟩
              · have cb := blanks_any x w4 m HM.out
                rw [HY.out] at cb
                have i0 := cell_of' hN3 0
                have i1 := cell_of' hN3 1
                have i2 := cell_of' hN3 2
                have i3 := cell_of' hN3 3
                have i4 := cell_of' hN3 4
                have i5' := cell_of' hN3 5
                simp only [List.getElem?_toArray, List.getElem?_cons_zero, List.getElem?_cons_succ] at i0 i1 i2 i3 i4 i5'
                have hb : (65536 : Int) - (q.length : Nat) < (m : Int) := hb
                have HNo : Hid (lay wd l s0 = none) := by
                  unfold Hid
                  rw [HL2.out, HS1.out, if_pos]
                  show 65536 < (q ++ sp m).length
                  rw [List.length_append, sp_len]
                  omega
                have HB4 := hidden (HBw.out.trans (HR3.out.bel.mono HBw.out.size))
                have hsz4 := HBw.out.size
                have hsz5 := HR3.out.bel.size
                clear hN3 hb
                go_wp2_with fail
                refine cb.mono ?_
                clear cb
                rintro e w5 ⟨rfl, hb5⟩
                have HB5 := hidden (HB4.out.trans (hb5.mono (by omega)))
                clear hb5 i0 i1 i2 i3 i4 i5'
                go_wp2_with fail
                go_ret2
                exact ⟨layB_none HNo.out, HB5.out⟩
              · rw [Int.toNat_natCast] at hgb
                have hN4 := heap_grown HR3.out.prow hgb.gr hN3 (by decide)
                have cb := blanks_any x w4 m HM.out
                rw [HY.out] at cb
                have i0 := cell_of' hN4 0
                have i1 := cell_of' hN4 1
                have i2 := cell_of' hN4 2
                have i3 := cell_of' hN4 3
                have i4 := cell_of' hN4 4
                have i5' := cell_of' hN4 5
                simp only [List.getElem?_toArray, List.getElem?_cons_zero, List.getElem?_cons_succ] at i0 i1 i2 i3 i4 i5'
                have HR4 := hidden (HR3.out.text (p' := q ++ sp m) (col + (m : Nat)) hgb.row hgb.gr)
                obtain ⟨ua, uc, rfl⟩ := row_slice hgb.row
                have hle : (m : Int) ≤ (65536 : Int) - (q.length : Nat) := hle
                have hpl : (q ++ sp m).length = q.length + m := by rw [List.length_append, sp_len]
                have hmm : ¬ ((65536 : Int) < (q.length : Int) + (m : Int)) := by omega
                clear hN3 hN4 hgb
                rw [hpl]
                go_wp2_with fail
                refine cb.mono ?_
                clear cb
                rintro e w5 ⟨rfl, hb5⟩
                have HRL := HR4.out.grown (grown_below hb5)
                rw [hpl] at HRL
                have HRL := hidden HRL
                have Hle : Hid ((q ++ sp m).length ≤ most) := by unfold Hid; rw [hpl]; show q.length + m ≤ 65536; omega
                have HNx : Hid (lay wd (l.drop (k + 1)) ⟨q ++ sp m, col + (m : Nat), ⟨false, false, ind⟩, gs⟩ = lay wd l s0) := by
                  unfold Hid
                  rw [HL2.out, HS1.out, if_neg (Nat.not_lt_of_le Hle.out)]
                have HLI := hidden (Hst.out (by rw [HS1.out]; exact Hle.out))
                rw [HS1.out] at HLI
                clear hb5 i0 i1 i2 i3 i4 i5' hle hpl
                go_wp2_with fail
                go_roundw
                case rel => exact ⟨k + 1, ⟨q ++ sp m, col + (m : Nat), ⟨false, false, ind⟩, gs⟩, hlt, by go_num, rfl, HLI.out, Hle.out, HNx.out, HRL.out⟩
                case measure => simp [intOf]; omega
            · have hdec : decide ((sz : Int) ≤ wd - col) = false := by simp; omega
              have HRW := hidden ((HW.out #[.int .u8 (y : Nat), .string (str x.tx), .int .i64 x.n, .int .i64 x.off, .bool x.col, .bool x.whole]).grown (grownBy_alloc _ (.cells #[.int .u8 10] 5)))
              have hN1b := (Below.heap_alloc ((wr.alloc (.cells #[.bool false, .bool false, .int .i64 ind] 52)).alloc (.cells #[.int .u8 (y : Nat), .string (str x.tx), .int .i64 x.n, .int .i64 x.off, .bool x.col, .bool x.whole] 47)) (.cells #[.int .u8 10] 5) wr.heap.size (by simp; omega)).trans (HN1.out #[.int .u8 (y : Nat), .string (str x.tx), .int .i64 x.n, .int .i64 x.off, .bool x.col, .bool x.whole])
              have hN2b := (Below.heap_alloc ((wr.alloc (.cells #[.bool false, .bool false, .int .i64 ind] 52)).alloc (.cells #[.int .u8 (y : Nat), .string (str x.tx), .int .i64 x.n, .int .i64 x.off, .bool x.col, .bool x.whole] 47)) (.cells #[.int .u8 10] 5) (wr.heap.size + 1) (by simp)).trans (HN2.out #[.int .u8 (y : Nat), .string (str x.tx), .int .i64 x.n, .int .i64 x.off, .bool x.col, .bool x.whole])
              have HN1c := hidden hN1b
              have HN2c := hidden hN2b
              have hown : (((wr.alloc (.cells #[.bool false, .bool false, .int .i64 ind] 52)).alloc (.cells #[.int .u8 (y : Nat), .string (str x.tx), .int .i64 x.n, .int .i64 x.off, .bool x.col, .bool x.whole] 47)).alloc (.cells #[.int .u8 10] 5)).ownsRow w2.heap.size 5 1 (.slice pa q.length pc) q.length (bc q) := HRW.out.prow
              have hBs := HRW.out.bs
              have cn := cells_new ((wr.alloc (.cells #[.bool false, .bool false, .int .i64 ind] 52)).alloc (.cells #[.int .u8 (y : Nat), .string (str x.tx), .int .i64 x.n, .int .i64 x.off, .bool x.col, .bool x.whole] 47)) 5 [.int .u8 10]
              rw [World.size_alloc, World.size_alloc] at cn
              have q3 : q.length + 1 ≤ maxLen := by unfold maxLen; omega
              have q4 : (q.length + 1) * 1 ≤ 140737488355328 := by omega
              obtain ⟨N, hN⟩ : ∃ N, (ind + x.off).toNat = N := ⟨_, rfl⟩
              have HNN := hidden hN
              clear hN1b hN2b hN
              go_wp2_with (at_builtin; refine wpList_append_own _ rfl _ _ 25 rfl w2.heap.size 5 i5 (.int .u8 0) 1 1 Tryz.underlying25 hi5 hz5 hy5 hb5 rfl (by decide) _ _ _ rfl hown ⟨wr.heap.size + 1 + 1, 0, none⟩ 1 1 [.int .u8 10] rfl rfl cn (one1 _ _) q3 q4 hBs ?_)
              intro v' w3 hr hg _
              obtain ⟨ua, uc, rfl⟩ := row_slice hr
              have HR3 := hidden (HRW.out.text (p' := q ++ [10]) 0 (by rw [List.length_append, List.length_singleton, bc_app]; exact hr) hg)
              have hN13 := heap_grown hown hg HN1c.out (by decide)
              have hN23 := heap_grown hown hg HN2c.out (by decide)
              have j2 := cell_of' hN13 2
              have i3 := cell_of' hN23 3
              simp only [List.getElem?_toArray, List.getElem?_cons_zero, List.getElem?_cons_succ] at j2 i3
              clear hr hg hown cn hBs hN13 hN23
              by_cases hneg : ind + x.off < 0
              · have HN0 : Hid (N = 0) := by unfold Hid; have := HNN.out; omega
                have HS1 : Hid (stepL wd ⟨q, col, ⟨false, false, ind⟩, gs⟩ x (l.drop (k + 1)) = ⟨q ++ [10] ++ sp N, (0 : Int), ⟨false, false, ind⟩, gs⟩) := by
                  unfold Hid
                  rw [stepL_gap _ _ _ _ K2.out, if_neg (by simp [HSZ.out]; omega)]
                  simp only [HNN.out]
                  have hcc : ((N : Nat) : Int) = (0 : Int) := by have := HN0.out; omega
                  rw [hcc]
                have cs := spread_any HR3.out.prow HR3.out.bs (0 : Int) (by omega) (by show (q ++ [10]).length ≤ 1000000; rw [List.length_append, List.length_singleton]; omega)
                have hl1' : (q ++ [10]).length = q.length + 1 := by simp
                have HCN : Hid (((0 : Int) : Int).toNat = N) := by unfold Hid; have := HN0.out; omega
                go_wp2_with fail
                refine cs.mono ?_
                clear cs
                intro e w4 hsp
                rcases hsp with ⟨hb, rfl, rfl⟩ | ⟨hle, v', rfl, hgb⟩
                · rw [hl1'] at hb
                  have HNo : Hid (lay wd l s0 = none) := by
                    unfold Hid
                    rw [HL2.out, HS1.out, if_pos]
                    show 65536 < (q ++ [10] ++ sp N).length
                    rw [List.length_append, sp_len, hl1']
                    have := HCN.out
                    omega
                  have HB4 := hidden (HBw.out.trans (HR3.out.bel.mono HBw.out.size))
                  clear hb
                  go_wp2_with fail
                  go_ret2
                  exact ⟨layB_none HNo.out, HB4.out⟩
                · rw [HCN.out] at hgb
                  rw [hl1'] at hle
                  have HR4 := HR3.out.text (p' := q ++ [10] ++ sp N) (0 : Int) hgb.row hgb.gr
                  obtain ⟨oa, oc, rfl⟩ := row_slice hgb.row
                  have hpl : (q ++ [10] ++ sp N).length = q.length + 1 + N := by rw [List.length_append, sp_len, hl1']
                  have hnb : q.length + 1 + N ≤ 65536 := by have := HCN.out; omega
                  have hmm : ¬ ((65536 : Int) < (q.length : Int) + 1 + (N : Int)) := by omega
                  rw [hpl] at HR4 ⊢
                  have HRL := hidden HR4
                  have Hle : Hid ((q ++ [10] ++ sp N).length ≤ most) := by unfold Hid; rw [hpl]; exact hnb
                  have HNx : Hid (lay wd (l.drop (k + 1)) ⟨q ++ [10] ++ sp N, (0 : Int), ⟨false, false, ind⟩, gs⟩ = lay wd l s0) := by
                    unfold Hid
                    rw [HL2.out, HS1.out, if_neg (Nat.not_lt_of_le Hle.out)]
                  have HLI := hidden (Hst.out (by rw [HS1.out]; exact Hle.out))
                  rw [HS1.out] at HLI
                  clear hgb hle hpl HR4 hl1'
                  go_wp2_with fail
                  go_roundw
                  case rel => exact ⟨k + 1, ⟨q ++ [10] ++ sp N, (0 : Int), ⟨false, false, ind⟩, gs⟩, hlt, by go_num, rfl, HLI.out, Hle.out, HNx.out, HRL.out⟩
                  case measure => simp [intOf]; omega
              · have HN0 : Hid ((N : Int) = ind + x.off) := by unfold Hid; have := HNN.out; omega
                have HS1 : Hid (stepL wd ⟨q, col, ⟨false, false, ind⟩, gs⟩ x (l.drop (k + 1)) = ⟨q ++ [10] ++ sp N, (ind + x.off), ⟨false, false, ind⟩, gs⟩) := by
                  unfold Hid
                  rw [stepL_gap _ _ _ _ K2.out, if_neg (by simp [HSZ.out]; omega)]
                  simp only [HNN.out]
                  have hcc : ((N : Nat) : Int) = (ind + x.off) := by have := HN0.out; omega
                  rw [hcc]
                have cs := spread_any HR3.out.prow HR3.out.bs (ind + x.off) (by omega) (by show (q ++ [10]).length ≤ 1000000; rw [List.length_append, List.length_singleton]; omega)
                have hl1' : (q ++ [10]).length = q.length + 1 := by simp
                have HCN : Hid (((ind + x.off) : Int).toNat = N) := by unfold Hid; have := HN0.out; omega
                go_wp2_with fail
                refine cs.mono ?_
                clear cs
                intro e w4 hsp
                rcases hsp with ⟨hb, rfl, rfl⟩ | ⟨hle, v', rfl, hgb⟩
                · rw [hl1'] at hb
                  have HNo : Hid (lay wd l s0 = none) := by
                    unfold Hid
                    rw [HL2.out, HS1.out, if_pos]
                    show 65536 < (q ++ [10] ++ sp N).length
                    rw [List.length_append, sp_len, hl1']
                    have := HCN.out
                    omega
                  have HB4 := hidden (HBw.out.trans (HR3.out.bel.mono HBw.out.size))
                  clear hb
                  go_wp2_with fail
                  go_ret2
                  exact ⟨layB_none HNo.out, HB4.out⟩
                · rw [HCN.out] at hgb
                  rw [hl1'] at hle
                  have HR4 := HR3.out.text (p' := q ++ [10] ++ sp N) (ind + x.off) hgb.row hgb.gr
                  obtain ⟨oa, oc, rfl⟩ := row_slice hgb.row
                  have hpl : (q ++ [10] ++ sp N).length = q.length + 1 + N := by rw [List.length_append, sp_len, hl1']
                  have hnb : q.length + 1 + N ≤ 65536 := by have := HCN.out; omega
                  have hmm : ¬ ((65536 : Int) < (q.length : Int) + 1 + (N : Int)) := by omega
                  rw [hpl] at HR4 ⊢
                  have HRL := hidden HR4
                  have Hle : Hid ((q ++ [10] ++ sp N).length ≤ most) := by unfold Hid; rw [hpl]; exact hnb
                  have HNx : Hid (lay wd (l.drop (k + 1)) ⟨q ++ [10] ++ sp N, (ind + x.off), ⟨false, false, ind⟩, gs⟩ = lay wd l s0) := by
                    unfold Hid
                    rw [HL2.out, HS1.out, if_neg (Nat.not_lt_of_le Hle.out)]
                  have HLI := hidden (Hst.out (by rw [HS1.out]; exact Hle.out))
                  rw [HS1.out] at HLI
                  clear hgb hle hpl HR4 hl1'
                  go_wp2_with fail
                  go_roundw
                  case rel => exact ⟨k + 1, ⟨q ++ [10] ++ sp N, (ind + x.off), ⟨false, false, ind⟩, gs⟩, hlt, by go_num, rfl, HLI.out, Hle.out, HNx.out, HRL.out⟩
                  case measure => simp [intOf]; omega
      have z2 : ((y : Int) == 2) = false := by simp; omega
      have HS1 : Hid (stepL wd ⟨q, col, ⟨fl, wh, ind⟩, gs⟩ x (l.drop (k + 1)) = ⟨q, col, ⟨fl, wh, ind⟩, gs⟩) := by
        unfold Hid
        have h1 : ¬ x.kind = 1 := by rw [HY.out]; exact k1
        have h2 : ¬ x.kind = 2 := by rw [HY.out]; exact k2
        have h3 : ¬ x.kind = 3 := by rw [HY.out]; exact k3
        have h4 : ¬ x.kind = 4 := by rw [HY.out]; exact k4
        simp [stepL, h1, h2, h3, h4]
      have HRL := hidden (HW.out #[.int .u8 (y : Nat), .string (str x.tx), .int .i64 x.n, .int .i64 x.off, .bool x.col, .bool x.whole])
      clear k1 k2 k3 k4
      have HNx : Hid (lay wd (l.drop (k + 1)) (⟨q, col, ⟨fl, wh, ind⟩, gs⟩) = lay wd l s0) := by
        unfold Hid
        rw [HL2.out, HS1.out, if_neg (Nat.not_lt_of_le Hm.out)]
      have HLI := hidden (Hst.out (by rw [HS1.out]; exact Hm.out))
      rw [HS1.out] at HLI
      go_wp2_with fail
      go_roundw
      case rel => exact ⟨k + 1, ⟨q, col, ⟨fl, wh, ind⟩, gs⟩, hlt, by go_num, rfl, HLI.out, Hm.out, HNx.out, HRL.out⟩
      case measure => simp [intOf]; omega
    · have hlz : ¬ ((k : Int) < (n : Int)) := by omega
      have hkn : l.drop k = [] := by rw [List.drop_eq_nil_iff, Hn.out]; omega
      rw [hkn] at hlay
      have HNo : Hid (lay wd l s0 = some q) := hlay.symm
      have HP := hidden R.prow
      have HB := hidden (HBw.out.trans (R.bel.mono HBw.out.size))
      clear hlay hkn R hli
      go_wp2_with fail
      go_ret2
      exact ⟨by rw [HNo.out]; exact ⟨_, w2.heap.size, rfl, HBw.out.size, HP.out⟩, HB.out⟩
end Go.Proofs.PlatenLayout
