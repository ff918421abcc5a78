/- The document's blanks, own and next. -/
import Derived.Test.YtaefnlknendapaaLyC
namespace Go.Proofs.PlatenLayout
open Go Go.RowKit Go.Shelf
set_option linter.unusedVariables false
set_option maxRecDepth 100000

theorem cell_of' {w : World} {k : Nat} {x : Array Value} {t : TypeId} (h : w.heap[k]? = some (.cells x t (0, 0))) (j : Nat) : w.cell? ⟨k, j, none⟩ = x[j]? := by simp [World.cell?, h]
set_option maxHeartbeats 1000000 in
theorem blanks_any (x : It) (w : World) (m : Nat) (hm : x.n.toNat = m) : Calls Try.prog 27 #[.agg #[.int .u8 (x.kind : Nat), .string (str x.tx), .int .i64 x.n, .int .i64 x.off, .bool x.col, .bool x.whole]] w fun e w' => e = .returned (.int .i64 (m : Nat)) ∧ Below w.heap.size w w' := by
  have hM : (w.alloc (.cells #[.int .u8 (x.kind : Nat), .string (str x.tx), .int .i64 x.n, .int .i64 x.off, .bool x.col, .bool x.whole] 38)).heap[w.heap.size]? = some (.cells #[.int .u8 (x.kind : Nat), .string (str x.tx), .int .i64 x.n, .int .i64 x.off, .bool x.col, .bool x.whole] 38 (0, 0)) := heap_alloc_new _ _
  have i2 := cell_of' hM 2
  simp only [List.getElem?_toArray, List.getElem?_cons_zero, List.getElem?_cons_succ] at i2
  have HB := hidden ((Below.refl w.heap.size w).alloc (Nat.le_refl _) (.cells #[.int .u8 (x.kind : Nat), .string (str x.tx), .int .i64 x.n, .int .i64 x.off, .bool x.col, .bool x.whole] 38))
  clear hM
  by_cases hn : x.n < 0
  · have HE : Hid (m = 0) := by unfold Hid; omega
    clear hm
    go_enter Try.func27, Try.ntmps27
    go_wp2
    go_ret
    exact ⟨by rw [HE.out]; rfl, HB.out⟩
  · have HE : Hid ((m : Int) = x.n) := by unfold Hid; omega
    clear hm
    go_enter Try.func27, Try.ntmps27
    go_wp2
    go_ret
    exact ⟨by rw [HE.out]; rfl, HB.out⟩
/-- []byte of a text, byte by byte. -/
theorem conv_cells (w : World) (l : List Nat) (h : ∀ c ∈ l, c < 256) (hl : l.length ≤ 100000) : ∃ cap w2, (convert 9 33 (.string (str l))).run Try.prog w = .ok (.slice (some ⟨w.heap.size, 0, none⟩) l.length cap) w2 ∧ (∀ j, l.getD j 0 < 256) ∧ l.length ≤ cap ∧ PlatenGlyph.Cells w2 w.heap.size 0 l.length (fun j => l.getD j 0) ∧ w.grownBy w2 none := by
  have hs := str_size l
  refine ⟨grownCap w l.length 0 5, _, by rw [run_bytes_of_string (P := Try.prog) w 9 33 5 (str l) Try.underlying9 Try.underlying33 Try.underlying5, hs], fun j => ?_, ?_, fun j hj => ?_, ?_⟩
  · rw [List.getD_eq_getElem?_getD]
    cases hj : l[j]? with
    | none => decide
    | some c => exact h c (List.mem_of_getElem? hj)
  · have := grownCap_ge w l.length 0 5; omega
  · have hh : ∀ o, (w.drew.alloc o).heap[w.heap.size]? = some o := fun o => heap_alloc_new w.drew o
    simp only [World.cell?, hh]
    have hj3 : j < (str l).size := by rw [hs]; exact hj
    have hj4 : j < (l.map UInt8.ofNat).length := by simpa using hj
    have hc := h l[j] (List.getElem_mem hj)
    simp [bytesRow, Array.getElem?_append, hj, str, List.getD_eq_getElem?_getD]
    omega
  · exact ⟨rfl, rfl, rfl, by simp, fun k hk _ => Below.heap_alloc w.drew _ k hk⟩
set_option maxHeartbeats 2000000 in
theorem own_any (x : It) (ok : OkIt x) (w : World) : Calls Try.prog 22 #[.agg #[.int .u8 (x.kind : Nat), .string (str x.tx), .int .i64 x.n, .int .i64 x.off, .bool x.col, .bool x.whole]] w fun e w' => e = .returned (.int .i64 (x.own : Nat)) ∧ Below w.heap.size w w' := by
  have hM : (w.alloc (.cells #[.int .u8 (x.kind : Nat), .string (str x.tx), .int .i64 x.n, .int .i64 x.off, .bool x.col, .bool x.whole] 38)).heap[w.heap.size]? = some (.cells #[.int .u8 (x.kind : Nat), .string (str x.tx), .int .i64 x.n, .int .i64 x.off, .bool x.col, .bool x.whole] 38 (0, 0)) := heap_alloc_new _ _
  have hB := (Below.refl w.heap.size w).alloc (Nat.le_refl _) (.cells #[.int .u8 (x.kind : Nat), .string (str x.tx), .int .i64 x.n, .int .i64 x.off, .bool x.col, .bool x.whole] 38)
  have i0 := cell_of' hM 0
  have i1 := cell_of' hM 1
  have i2 := cell_of' hM 2
  have i3 := cell_of' hM 3
  have i4 := cell_of' hM 4
  have i5 := cell_of' hM 5
  simp only [List.getElem?_toArray, List.getElem?_cons_zero, List.getElem?_cons_succ] at i0 i1 i2 i3 i4 i5
  have HB := hidden hB
  clear hM hB
  by_cases k1 : x.kind = 1
  · have z1 : ((x.kind : Int) == 1) = true := by simp; omega
    have HO : Hid (x.own = x.ch) := by unfold Hid It.own; rw [if_pos k1]
    obtain ⟨cc, w2, hcv, hf, hcap, hcells, hg2⟩ := conv_cells (w.alloc (.cells #[.int .u8 (x.kind : Nat), .string (str x.tx), .int .i64 x.n, .int .i64 x.off, .bool x.col, .bool x.whole] 38)) x.tx ok.tx (by have := ok.len; omega)
    rw [World.size_alloc] at hcv hcells
    have cs := PlatenGlyph.starts_row _ _ _ _ _ w2 hf (by have := ok.len; omega) hcap hcells
    rw [← ok.ch] at cs
    have hB2 := HB.out.grown hg2 (by simp) (by simp)
    have hsz2 : w.heap.size ≤ w2.heap.size := hB2.size
    have HB2 := hidden hB2
    clear k1 hf hcells hB2 hg2 HB
    go_enter Try.func22, Try.ntmps22
    go_wp2_with fail
    refine cs.mono ?_
    clear cs
    rintro e w3 ⟨v, rfl, hr, hb3⟩
    obtain ⟨va, vc, rfl⟩ := row_slice hr
    have HB3 := hidden (HB2.out.trans (hb3.mono hsz2))
    clear hr hb3
    go_wp2_with fail
    go_ret
    exact ⟨by rw [HO.out]; rfl, HB3.out⟩
  have z1 : ((x.kind : Int) == 1) = false := by simp; omega
  by_cases k2 : x.kind = 2
  · have z2 : ((x.kind : Int) == 2) = true := by simp; omega
    obtain ⟨m, hm⟩ : ∃ m, x.n.toNat = m := ⟨_, rfl⟩
    have HO : Hid (x.own = m) := by unfold Hid It.own; rw [if_neg k1, if_pos k2]; exact hm
    have cb := blanks_any x (w.alloc (.cells #[.int .u8 (x.kind : Nat), .string (str x.tx), .int .i64 x.n, .int .i64 x.off, .bool x.col, .bool x.whole] 38)) m hm
    clear k1 k2 hm
    go_enter Try.func22, Try.ntmps22
    go_wp2_with fail
    refine cb.mono ?_
    clear cb
    rintro e w3 ⟨rfl, hb3⟩
    have HB3 := hidden (HB.out.trans (hb3.mono (by simp)))
    clear hb3
    go_wp2_with fail
    go_ret
    exact ⟨by rw [HO.out]; rfl, HB3.out⟩
  have z2 : ((x.kind : Int) == 2) = false := by simp; omega
  have HO : Hid (x.own = 0) := by unfold Hid It.own; rw [if_neg k1, if_neg k2]
  clear k1 k2
  go_enter Try.func22, Try.ntmps22
  go_wp2_with fail
  go_ret
  exact ⟨by rw [HO.out]; rfl, HB.out⟩
/-- Where groups end, as the document tells it. -/
def ends (l : List It) : List Int := (List.range l.length).map fun j => if kd l j = 3 then ((endI l j : Nat) : Int) else -1
theorem ends_len (l : List It) : (ends l).length = l.length := by simp [ends]
theorem ends_get (l : List It) {j : Nat} (h : j < l.length) : (ends l)[j]? = some (if kd l j = 3 then ((endI l j : Nat) : Int) else -1) := by simp [ends, h]
/-- A place behind f, up to which there is so much. -/
def NextPost (l : List It) (f n C : Nat) (w : World) (e : Ending) (w' : World) : Prop := ∃ s : Nat, e = .returned (.int .i64 (s : Nat)) ∧ f + 1 ≤ s ∧ s ≤ n ∧ pre l s = C ∧ w' = w
set_option maxHeartbeats 2000000 in
theorem next_any {v ev : Value} {l : List It} {w : World} (h : IsItems w v l) (hz : IsZ w ev (ends l)) (ok : OkL l) (f : Nat) (hf : f < l.length) :
    Calls Try.prog 21 #[v, ev, .int .i64 (f : Nat)] w (NextPost l f l.length (pre l (f + 1) + brk (l.drop (f + 1)) 0) w) := by
  obtain ⟨a, cap, rfl⟩ := h.val
  have hl1 := ok.1
  have HL := hidden h
  have HZ := hidden hz
  have hst := nx_start (l := l) (i := f + 1) hf
  obtain ⟨C, hC⟩ : ∃ C, pre l (f + 1) + brk (l.drop (f + 1)) 0 = C := ⟨_, rfl⟩
  rw [hC] at hst ⊢
  have HS := hidden hst
  obtain ⟨n, hn⟩ : ∃ n, l.length = n := ⟨_, rfl⟩
  rw [hn] at hl1 hf ⊢
  have Hn := hidden hn
  clear h hz ok hst hC hn
  go_enter Try.func21, Try.ntmps21
  go_wp2_with fail
  go_loopw [7] (fun iv wr => wr = w ∧ ∃ i : Nat, iv = .int .i64 (i : Nat) ∧ f + 1 ≤ i ∧ i ≤ n + 1 ∧ Nx l C i) (fun iv _ => n + 2 - (intOf iv).toNat)
  case atStart => exact ⟨rfl, f + 1, by go_num, Nat.le_refl _, by omega, HS.out⟩
  case round =>
    obtain ⟨rfl, i, rfl, hfi, hin, hx⟩ := hrel
    by_cases hlt : i < n
    · have hll : i < l.length := by rw [Hn.out]; exact hlt
      obtain ⟨b, off, cp, hv, hcap, x0, x1, x2, x3, x4, x5⟩ := HL.out.at' hll
      obtain ⟨x, hxx⟩ : ∃ x, l[i] = x := ⟨_, rfl⟩
      have hkd : kd l i = x.kind := by rw [kd_get hll, hxx]
      rw [hxx] at x0
      rw [Hn.out] at hv hcap
      injection hv with hv1 hv2 hv3
      subst hv1 hv3
      have hlz : (i : Int) < (n : Int) := by omega
      have HX := hidden hx
      have HKD := hidden hkd
      clear hx hxx hv2 x1 x2 x3 x4 x5 hkd
      generalize x.kind = y at *
      by_cases k3 : y = 3
      · have z3 : ((y : Int) == 3) = true := by simp; omega
        obtain ⟨zg, zc, hzv, hzc, zz⟩ := HZ.out.at' (ends_get l hll)
        rw [if_pos (HKD.out.trans k3)] at zz
        rw [ends_len, Hn.out] at hzv hzc
        subst hzv
        have hE := endI_le l i hll
        have HNX := hidden (nx_begin HX.out hll (HKD.out.trans k3))
        rw [Hn.out] at hE
        generalize endI l i = en at *
        have h1 := hE.1
        have h2 := hE.2
        clear hE
        go_wp2_with fail
        go_roundw
        case rel => exact ⟨trivial, en + 1, by go_num, by omega, by omega, HNX.out⟩
        case measure => simp [intOf]; omega
      have z3 : ((y : Int) == 3) = false := by simp; omega
      by_cases k2 : y = 2
      · have z2 : ((y : Int) == 2) = true := by simp; omega
        have HP := hidden (nx_break HX.out hll (HKD.out.trans k2))
        go_wp2_with fail
        go_ret
        exact ⟨i, rfl, hfi, by omega, HP.out.symm, rfl⟩
      have z2 : ((y : Int) == 2) = false := by simp; omega
      have HNX := hidden (nx_other HX.out hll (by rw [HKD.out]; exact k3) (by rw [HKD.out]; exact k2))
      go_wp2_with fail
      go_roundw
      case rel => exact ⟨trivial, i + 1, by go_num, by omega, by omega, HNX.out⟩
      case measure => simp [intOf]; omega
    · have hlz : ¬ ((i : Int) < (n : Int)) := by omega
      have HP := hidden (nx_end hx (by rw [Hn.out]; omega))
      clear hx
      go_wp2_with fail
      go_ret
      exact ⟨n, rfl, by omega, Nat.le_refl _, by rw [HP.out, Hn.out], rfl⟩
end Go.Proofs.PlatenLayout
