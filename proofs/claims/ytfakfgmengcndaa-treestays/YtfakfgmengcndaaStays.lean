/- What tree.Format lays out is read, by the document's Read, as the same tokens, text by text; whatever the width. -/
import Derived.Test.YtfakfgmengcndaaArgsZ
import Derived.Test.YtfakfgmengcndaaKR
import Derived.Test.YtfakfgmengcndaaTxA
import Derived.OwnWalk
namespace Go.Proofs.Ytfakfgmengcndaa.Stays
open Go.ChangeShapes Go.WideShapes Go.ChangeAt Go.RowKit Go.Proofs.PlatenTree
open Go.Proofs.PlatenLayout (str str_size IsItems)
set_option linter.unusedVariables false
set_option maxRecDepth 100000

set_option maxHeartbeats 4000000 in
theorem long (v : Value) (n : Nat) (f : Nat → Nat) (u : Value) (l : List Nd) (s : Bool) (wd : Int) (w : World) (h : IsArg w v n f) (hu : IsNd w u l) (hwd : -32768 ≤ wd ∧ wd ≤ 32767) (hn : 80 < n) :
    Calls Try.prog 6 #[v, u, .bool s, .int .i16 wd] w fun e w' => e = .returned (.bool true) ∧ Below w.heap.size w w' := by
  obtain ⟨hf, hm, a, cap, rfl, _⟩ := h
  obtain ⟨_, a2, cap2, rfl, _⟩ := hu
  have hlz : (80 : Int) < (n : Int) := by omega
  clear hn
  go_enter Try.func6, Try.ntmps6
  go_wp2_with fail
  refine (laid_any w).mono ?_
  rintro e w1 ⟨rfl, hb⟩
  have B1 := hidden hb
  clear hb
  go_wp2_with fail
  refine (laid_any w1).mono ?_
  rintro e w2 ⟨rfl, hb⟩
  have B2 := hidden (B1.out.trans (hb.mono B1.out.size))
  clear hb
  go_wp2_with fail
  go_ret
  exact ⟨rfl, B2.out⟩
set_option maxHeartbeats 4000000 in
theorem longL (v : Value) (n : Nat) (f : Nat → Nat) (u : Value) (l : List Nd) (s : Bool) (wd : Int) (w : World) (h : IsArg w v n f) (hu : IsNd w u l) (hwd : -32768 ≤ wd ∧ wd ≤ 32767) (hn : n ≤ 80) (hl : 40 < l.length) :
    Calls Try.prog 6 #[v, u, .bool s, .int .i16 wd] w fun e w' => e = .returned (.bool true) ∧ Below w.heap.size w w' := by
  obtain ⟨hf, hm, a, cap, rfl, _⟩ := h
  obtain ⟨_, a2, cap2, rfl, _⟩ := hu
  have hlz : ¬ ((80 : Int) < (n : Int)) := by omega
  have hll : (40 : Int) < (l.length : Int) := by omega
  obtain ⟨m, hm⟩ : ∃ m, l.length = m := ⟨_, rfl⟩
  rw [hm] at hll hl ⊢
  clear hn hl hm
  go_enter Try.func6, Try.ntmps6
  go_wp2_with fail
  refine (laid_any w).mono ?_
  rintro e w1 ⟨rfl, hb⟩
  have B1 := hidden hb
  clear hb
  go_wp2_with fail
  refine (laid_any w1).mono ?_
  rintro e w2 ⟨rfl, hb⟩
  have B2 := hidden (B1.out.trans (hb.mono B1.out.size))
  clear hb
  go_wp2_with fail
  go_ret
  exact ⟨rfl, B2.out⟩
set_option maxHeartbeats 4000000 in
theorem short0 (v : Value) (n : Nat) (f : Nat → Nat) (u : Value) (l : List Nd) (s : Bool) (wd : Int) (w : World) (h : IsArg w v n f) (hu : IsNd w u l) (hwd : -32768 ≤ wd ∧ wd ≤ 32767) (hn : n ≤ 80) (hl : l.length ≤ 40) (hs : l.length = 0) :
    Calls Try.prog 6 #[v, u, .bool s, .int .i16 wd] w fun e w' => e = .returned (.bool true) ∧ Below w.heap.size w w' := by
  obtain ⟨hf, hm0, hr⟩ := h
  have HR := hidden hr
  have HF := hidden hf
  have HU := hidden hu
  have HN : Hid (n ≤ 80) := hidden hn
  have HL : Hid (l.length ≤ 40) := hidden hl
  obtain ⟨a, cap, rfl, _⟩ := hr
  obtain ⟨_, a2, cap2, rfl, _⟩ := hu
  have hlz : ¬ ((80 : Int) < (n : Int)) := by omega
  have hll : ¬ ((40 : Int) < (l.length : Int)) := by omega
  have hwr : IntKind.i64.wrap wd = wd := IntWalk.i64_in _ (by omega)
  have CT := fun (W : World) (hW : Below w.heap.size w W) => text_any s (w := W) (HR.out.below hW) HF.out (by have := HN.out; omega)
  have P1l := txtL_len s f n
  have hgz : ¬ (((0 : Nat) : Int) > 0) := by decide
  have hg : Pg s (txtL s f n) := pg_short (txtL_lt s f n) (by omega)
  obtain ⟨p, hp⟩ : ∃ p, txtL s f n = p := ⟨_, rfl⟩
  rw [hp] at hg
  simp only [hp] at CT
  clear hp P1l
  have hpl := hg.len
  have CF := fun (W : World) (x : Value) (hx : RowL W x p) => format_any s wd (w := W) (by omega) hg.lt (by omega) hx hg.items
  have CR := fun (W : World) (x : Value) (hx : RowL W x p) => rtread_any s (w := W) hg.lt (by omega) hx
  cases hrd : rd s p with
  | none =>
    have hne := ansL_no hrd
    simp only [fmt_no wd hrd] at CF
    have e0 : str [] = ByteArray.empty := rfl
    have CV := fun (W : World) => conv_rowL W [] (by simp) (by simp)
    rw [e0] at CV
    have CR2 := fun (W : World) (x : Value) (hx : RowL W x []) => rtread_any s (w := W) (p := []) (by simp) (by simp) hx
    obtain ⟨o, ho⟩ : ∃ o, ansL s p = o := ⟨_, rfl⟩
    obtain ⟨o2, ho2⟩ : ∃ o, ansL s [] = o := ⟨_, rfl⟩
    simp only [ho] at CF CR
    simp only [ho2] at CR2
    rw [ho] at hne
    clear ho ho2 hg hrd e0
    obtain ⟨T, at1, er⟩ := o
    obtain ⟨T2, at2, er2⟩ := o2
    have hne : er ≠ 0 := hne
    have hz : ((er : Int) == 0) = false := by rw [beq_eq_false_iff_ne]; omega
    unfold RdP at CR CR2
    try simp only at CR CR2 CF
    clear hne
    simp only [hs] at hll ⊢
    clear hs hn hl hm0 hf HN HL hwd hpl
    go_enter Try.func6, Try.ntmps6
    go_wp2_with fail
    refine (laid_any w).mono ?_
    rintro e w1 ⟨rfl, hb⟩
    have B1 := hidden hb
    clear hb
    have cx := CT w1 B1.out
    go_wp2_with fail
    refine cx.mono ?_
    clear cx
    rintro e w2 ⟨x, rfl, hx, hb⟩
    have B2 := hidden (B1.out.trans (hb.mono B1.out.size))
    have HX := hidden hx
    clear hb hx
    have cx := CR w2 x HX.out
    go_wp2_with fail
    refine cx.mono ?_
    clear cx
    rintro e w3 ⟨tv, rfl, _, hb⟩
    have B3 := hidden (B2.out.trans (hb.mono B2.out.size))
    have HX := hidden (HX.out.below hb)
    clear hb
    have cx := CF w3 x HX.out
    go_wp2_with fail
    refine cx.mono ?_
    clear cx
    rintro e w4 ⟨rfl, hb⟩
    have B4 := hidden (B3.out.trans (hb.mono B3.out.size))
    clear hb
    obtain ⟨c6, w6, hcv, hrow, hg6⟩ := CV w4
    have B6 := hidden (B4.out.grown hg6 B4.out.size (by simp))
    have cx := CR2 w6 _ hrow
    clear hrow hg6
    go_wp2_with fail
    refine cx.mono ?_
    clear cx
    rintro e w7 ⟨tv2, rfl, _, hb⟩
    have B7 := hidden (B6.out.trans (hb.mono B6.out.size))
    clear hb
    go_wp2_with fail
    go_ret
    exact ⟨rfl, B7.out⟩
  | some P =>
    obtain ⟨T, eT, hT, hTl, hTb⟩ := tok_ok hrd
    obtain ⟨q, hq⟩ := hg.room P hrd wd
    obtain ⟨q1, q2, q3⟩ := laid_out hg hrd hq
    obtain ⟨T2, eT2, hT2, hTl2, hTb2⟩ := tok_ok q3
    simp only [fmt_yes hrd hq] at CF
    have CV := fun (W : World) => conv_rowL W q q1 (by omega)
    have CR2 := fun (W : World) (x : Value) (hx : RowL W x q) => rtread_any s (w := W) (p := q) q1 (by omega) hx
    simp only [eT] at CR
    simp only [eT2] at CR2
    have hPl := rd_len hrd
    have CX := fun (W : World) (x t : Value) (hx : RowL W x p) (ht : IsTk W t T) => texts_any hg.lt (by omega) hx ht (by omega) hTb
    have CX2 := fun (W : World) (x t : Value) (hx : RowL W x q) (ht : IsTk W t T2) => texts_any q1 (by omega) hx ht (by omega) hTb2
    rw [hT] at CX
    rw [hT2] at CX2
    obtain ⟨L, hL⟩ : ∃ L, P.map tks = L := ⟨_, rfl⟩
    have hLl : L.length ≤ 1000000 := by rw [← hL, List.length_map]; omega
    simp only [hL] at CX CX2
    obtain ⟨S, hS⟩ : ∃ S, str q = S := ⟨_, rfl⟩
    rw [hS] at CV CF
    unfold RdP at CR CR2
    try simp only at CR CR2
    clear hrd hq hL hS eT eT2 hT hT2 hTl hTl2 hTb hTb2 q1 q2 q3 hPl hg
    simp only [hs] at hll ⊢
    clear hs hn hl hm0 hf HN HL hwd hpl
    go_enter Try.func6, Try.ntmps6
    go_wp2_with fail
    refine (laid_any w).mono ?_
    rintro e w1 ⟨rfl, hb⟩
    have B1 := hidden hb
    clear hb
    have cx := CT w1 B1.out
    go_wp2_with fail
    refine cx.mono ?_
    clear cx
    rintro e w2 ⟨x, rfl, hx, hb⟩
    have B2 := hidden (B1.out.trans (hb.mono B1.out.size))
    have HX := hidden hx
    clear hb hx
    have cx := CR w2 x HX.out
    go_wp2_with fail
    refine cx.mono ?_
    clear cx
    rintro e w3 ⟨tv, rfl, ht, hb⟩
    have B3 := hidden (B2.out.trans (hb.mono B2.out.size))
    have HX := hidden (HX.out.below hb)
    have HT := hidden ht
    clear hb ht
    have cx := CF w3 x HX.out
    go_wp2_with fail
    refine cx.mono ?_
    clear cx
    rintro e w4 ⟨rfl, hb⟩
    have B4 := hidden (B3.out.trans (hb.mono B3.out.size))
    have HX := hidden (HX.out.below hb)
    have HT := hidden (HT.out.below hb)
    clear hb
    obtain ⟨c6, u6, hcv, hrow, hg6⟩ := CV w4
    have B6 := hidden (B4.out.grown hg6 B4.out.size (by simp))
    have hb6 : Below w4.heap.size w4 u6 := (Below.refl _ _).grown hg6 (Nat.le_refl _) (by simp)
    have HX := hidden (HX.out.below hb6)
    have HT := hidden (HT.out.below hb6)
    have cx := CR2 u6 _ hrow
    clear hrow hg6 hb6
    go_wp2_with fail
    refine cx.mono ?_
    clear cx hcv
    rintro e w7 ⟨tv2, rfl, ht2, hb⟩
    have B7 := hidden (B6.out.trans (hb.mono B6.out.size))
    have HX := hidden (HX.out.below hb)
    have HT := hidden (HT.out.below hb)
    have HT2 := hidden ht2
    clear hb ht2
    have cx := CX w7 x tv HX.out HT.out
    go_wp2_with fail
    refine cx.mono ?_
    clear cx
    rintro e w8 ⟨d1, rfl, hd1, hb⟩
    have B8 := hidden (B7.out.trans (hb.mono B7.out.size))
    have HT2 := hidden (HT2.out.below hb)
    have HD1 := hidden hd1
    clear hb hd1
    obtain ⟨c9, w9, hcv, hrow, hg9⟩ := CV w8
    have B9 := hidden (B8.out.grown hg9 B8.out.size (by simp))
    have hb9 : Below w8.heap.size w8 w9 := (Below.refl _ _).grown hg9 (Nat.le_refl _) (by simp)
    have HT2 := hidden (HT2.out.below hb9)
    have HD1 := hidden (HD1.out.below hb9)
    have cx := CX2 w9 _ tv2 hrow HT2.out
    clear hrow hg9 hb9
    go_wp2_with fail
    refine cx.mono ?_
    clear cx hcv
    rintro e w10 ⟨d2, rfl, hd2, hb⟩
    have B10 := hidden (B9.out.trans (hb.mono B9.out.size))
    have HD1 := hidden (HD1.out.below hb)
    clear hb
    have cx := alike_any d1 d2 L w10 hLl HD1.out hd2
    go_wp2_with fail
    refine cx.mono ?_
    clear cx
    rintro e w11 ⟨rfl, hb⟩
    have B11 := hidden (B10.out.trans (hb.mono B10.out.size))
    clear hb
    go_wp2_with fail
    go_ret
    exact ⟨rfl, B11.out⟩
set_option maxHeartbeats 4000000 in
theorem short1 (v : Value) (n : Nat) (f : Nat → Nat) (u : Value) (l : List Nd) (s : Bool) (wd : Int) (w : World) (h : IsArg w v n f) (hu : IsNd w u l) (hwd : -32768 ≤ wd ∧ wd ≤ 32767) (hn : n ≤ 80) (hl : l.length ≤ 40) (hs : 0 < l.length) :
    Calls Try.prog 6 #[v, u, .bool s, .int .i16 wd] w fun e w' => e = .returned (.bool true) ∧ Below w.heap.size w w' := by
  obtain ⟨hf, hm0, hr⟩ := h
  have HR := hidden hr
  have HF := hidden hf
  have HU := hidden hu
  have HN : Hid (n ≤ 80) := hidden hn
  have HL : Hid (l.length ≤ 40) := hidden hl
  obtain ⟨a, cap, rfl, _⟩ := hr
  obtain ⟨_, a2, cap2, rfl, _⟩ := hu
  have hlz : ¬ ((80 : Int) < (n : Int)) := by omega
  have hll : ¬ ((40 : Int) < (l.length : Int)) := by omega
  have hwr : IntKind.i64.wrap wd = wd := IntWalk.i64_in _ (by omega)
  have CT := fun (W : World) (hW : Below w.heap.size w W) => text_any s (w := W) (HR.out.below hW) HF.out (by have := HN.out; omega)
  have P1l := txtL_len s f n
  have CG := fun (W : World) (hW : Below w.heap.size w W) => grown_any s (w := W) (HU.out.below hW) HL.out
  have hgz : (l.length : Int) > 0 := by omega
  have hg : Pg s (mk s 9 l).1 := pg_grown s hl
  obtain ⟨p, hp⟩ : ∃ p, (mk s 9 l).1 = p := ⟨_, rfl⟩
  rw [hp] at hg
  simp only [hp] at CG
  obtain ⟨p0, hp0⟩ : ∃ p, txtL s f n = p := ⟨_, rfl⟩
  simp only [hp0] at CT
  clear hp hp0 P1l
  have hpl := hg.len
  have CF := fun (W : World) (x : Value) (hx : RowL W x p) => format_any s wd (w := W) (by omega) hg.lt (by omega) hx hg.items
  have CR := fun (W : World) (x : Value) (hx : RowL W x p) => rtread_any s (w := W) hg.lt (by omega) hx
  cases hrd : rd s p with
  | none =>
    have hne := ansL_no hrd
    simp only [fmt_no wd hrd] at CF
    have e0 : str [] = ByteArray.empty := rfl
    have CV := fun (W : World) => conv_rowL W [] (by simp) (by simp)
    rw [e0] at CV
    have CR2 := fun (W : World) (x : Value) (hx : RowL W x []) => rtread_any s (w := W) (p := []) (by simp) (by simp) hx
    obtain ⟨o, ho⟩ : ∃ o, ansL s p = o := ⟨_, rfl⟩
    obtain ⟨o2, ho2⟩ : ∃ o, ansL s [] = o := ⟨_, rfl⟩
    simp only [ho] at CF CR
    simp only [ho2] at CR2
    rw [ho] at hne
    clear ho ho2 hg hrd e0
    obtain ⟨T, at1, er⟩ := o
    obtain ⟨T2, at2, er2⟩ := o2
    have hne : er ≠ 0 := hne
    have hz : ((er : Int) == 0) = false := by rw [beq_eq_false_iff_ne]; omega
    unfold RdP at CR CR2
    try simp only at CR CR2 CF
    clear hne
    clear hs hn hl hm0 hf HN HL hwd hpl
    go_enter Try.func6, Try.ntmps6
    go_wp2_with fail
    refine (laid_any w).mono ?_
    rintro e w1 ⟨rfl, hb⟩
    have B1 := hidden hb
    clear hb
    have cx := CT w1 B1.out
    go_wp2_with fail
    refine cx.mono ?_
    clear cx
    rintro e w2 ⟨x0, rfl, _, hb⟩
    have B2 := hidden (B1.out.trans (hb.mono B1.out.size))
    clear hb
    have cx := CG w2 B2.out
    go_wp2_with fail
    refine cx.mono ?_
    clear cx
    rintro e w3 ⟨x, rfl, hx, hb⟩
    have B3 := hidden (B2.out.trans (hb.mono B2.out.size))
    have HX := hidden hx
    clear hb hx
    have cx := CR w3 x HX.out
    go_wp2_with fail
    refine cx.mono ?_
    clear cx
    rintro e w4 ⟨tv, rfl, _, hb⟩
    have B4 := hidden (B3.out.trans (hb.mono B3.out.size))
    have HX := hidden (HX.out.below hb)
    clear hb
    have cx := CF w4 x HX.out
    go_wp2_with fail
    refine cx.mono ?_
    clear cx
    rintro e w5 ⟨rfl, hb⟩
    have B5 := hidden (B4.out.trans (hb.mono B4.out.size))
    clear hb
    obtain ⟨c6, w6, hcv, hrow, hg6⟩ := CV w5
    have B6 := hidden (B5.out.grown hg6 B5.out.size (by simp))
    have cx := CR2 w6 _ hrow
    clear hrow hg6
    go_wp2_with fail
    refine cx.mono ?_
    clear cx
    rintro e w7 ⟨tv2, rfl, _, hb⟩
    have B7 := hidden (B6.out.trans (hb.mono B6.out.size))
    clear hb
    go_wp2_with fail
    go_ret
    exact ⟨rfl, B7.out⟩
  | some P =>
    obtain ⟨T, eT, hT, hTl, hTb⟩ := tok_ok hrd
    obtain ⟨q, hq⟩ := hg.room P hrd wd
    obtain ⟨q1, q2, q3⟩ := laid_out hg hrd hq
    obtain ⟨T2, eT2, hT2, hTl2, hTb2⟩ := tok_ok q3
    simp only [fmt_yes hrd hq] at CF
    have CV := fun (W : World) => conv_rowL W q q1 (by omega)
    have CR2 := fun (W : World) (x : Value) (hx : RowL W x q) => rtread_any s (w := W) (p := q) q1 (by omega) hx
    simp only [eT] at CR
    simp only [eT2] at CR2
    have hPl := rd_len hrd
    have CX := fun (W : World) (x t : Value) (hx : RowL W x p) (ht : IsTk W t T) => texts_any hg.lt (by omega) hx ht (by omega) hTb
    have CX2 := fun (W : World) (x t : Value) (hx : RowL W x q) (ht : IsTk W t T2) => texts_any q1 (by omega) hx ht (by omega) hTb2
    rw [hT] at CX
    rw [hT2] at CX2
    obtain ⟨L, hL⟩ : ∃ L, P.map tks = L := ⟨_, rfl⟩
    have hLl : L.length ≤ 1000000 := by rw [← hL, List.length_map]; omega
    simp only [hL] at CX CX2
    obtain ⟨S, hS⟩ : ∃ S, str q = S := ⟨_, rfl⟩
    rw [hS] at CV CF
    unfold RdP at CR CR2
    try simp only at CR CR2
    clear hrd hq hL hS eT eT2 hT hT2 hTl hTl2 hTb hTb2 q1 q2 q3 hPl hg
    clear hs hn hl hm0 hf HN HL hwd hpl
    go_enter Try.func6, Try.ntmps6
    go_wp2_with fail
    refine (laid_any w).mono ?_
    rintro e w1 ⟨rfl, hb⟩
    have B1 := hidden hb
    clear hb
    have cx := CT w1 B1.out
    go_wp2_with fail
    refine cx.mono ?_
    clear cx
    rintro e w2 ⟨x0, rfl, _, hb⟩
    have B2 := hidden (B1.out.trans (hb.mono B1.out.size))
    clear hb
    have cx := CG w2 B2.out
    go_wp2_with fail
    refine cx.mono ?_
    clear cx
    rintro e w3 ⟨x, rfl, hx, hb⟩
    have B3 := hidden (B2.out.trans (hb.mono B2.out.size))
    have HX := hidden hx
    clear hb hx
    have cx := CR w3 x HX.out
    go_wp2_with fail
    refine cx.mono ?_
    clear cx
    rintro e w4 ⟨tv, rfl, ht, hb⟩
    have B4 := hidden (B3.out.trans (hb.mono B3.out.size))
    have HX := hidden (HX.out.below hb)
    have HT := hidden ht
    clear hb ht
    have cx := CF w4 x HX.out
    go_wp2_with fail
    refine cx.mono ?_
    clear cx
    rintro e w5 ⟨rfl, hb⟩
    have B5 := hidden (B4.out.trans (hb.mono B4.out.size))
    have HX := hidden (HX.out.below hb)
    have HT := hidden (HT.out.below hb)
    clear hb
    obtain ⟨c6, u6, hcv, hrow, hg6⟩ := CV w5
    have B6 := hidden (B5.out.grown hg6 B5.out.size (by simp))
    have hb6 : Below w5.heap.size w5 u6 := (Below.refl _ _).grown hg6 (Nat.le_refl _) (by simp)
    have HX := hidden (HX.out.below hb6)
    have HT := hidden (HT.out.below hb6)
    have cx := CR2 u6 _ hrow
    clear hrow hg6 hb6
    go_wp2_with fail
    refine cx.mono ?_
    clear cx hcv
    rintro e w7 ⟨tv2, rfl, ht2, hb⟩
    have B7 := hidden (B6.out.trans (hb.mono B6.out.size))
    have HX := hidden (HX.out.below hb)
    have HT := hidden (HT.out.below hb)
    have HT2 := hidden ht2
    clear hb ht2
    have cx := CX w7 x tv HX.out HT.out
    go_wp2_with fail
    refine cx.mono ?_
    clear cx
    rintro e w8 ⟨d1, rfl, hd1, hb⟩
    have B8 := hidden (B7.out.trans (hb.mono B7.out.size))
    have HT2 := hidden (HT2.out.below hb)
    have HD1 := hidden hd1
    clear hb hd1
    obtain ⟨c9, w9, hcv, hrow, hg9⟩ := CV w8
    have B9 := hidden (B8.out.grown hg9 B8.out.size (by simp))
    have hb9 : Below w8.heap.size w8 w9 := (Below.refl _ _).grown hg9 (Nat.le_refl _) (by simp)
    have HT2 := hidden (HT2.out.below hb9)
    have HD1 := hidden (HD1.out.below hb9)
    have cx := CX2 w9 _ tv2 hrow HT2.out
    clear hrow hg9 hb9
    go_wp2_with fail
    refine cx.mono ?_
    clear cx hcv
    rintro e w10 ⟨d2, rfl, hd2, hb⟩
    have B10 := hidden (B9.out.trans (hb.mono B9.out.size))
    have HD1 := hidden (HD1.out.below hb)
    clear hb
    have cx := alike_any d1 d2 L w10 hLl HD1.out hd2
    go_wp2_with fail
    refine cx.mono ?_
    clear cx
    rintro e w11 ⟨rfl, hb⟩
    have B11 := hidden (B10.out.trans (hb.mono B10.out.size))
    clear hb
    go_wp2_with fail
    go_ret
    exact ⟨rfl, B11.out⟩
theorem short (v : Value) (n : Nat) (f : Nat → Nat) (u : Value) (l : List Nd) (s : Bool) (wd : Int) (w : World) (h : IsArg w v n f) (hu : IsNd w u l) (hwd : -32768 ≤ wd ∧ wd ≤ 32767) (hn : n ≤ 80) (hl : l.length ≤ 40) :
    Calls Try.prog 6 #[v, u, .bool s, .int .i16 wd] w fun e w' => e = .returned (.bool true) ∧ Below w.heap.size w w' := by
  rcases Nat.eq_zero_or_pos l.length with h0 | h0
  · exact short0 v n f u l s wd w h hu hwd hn hl h0
  · exact short1 v n f u l s wd w h hu hwd hn hl h0
theorem law (v : Value) (n : Nat) (f : Nat → Nat) (u : Value) (l : List Nd) (s : Bool) (wd : Int) (w : World) (h : IsArg w v n f) (hu : IsNd w u l) (hwd : -32768 ≤ wd ∧ wd ≤ 32767) :
    Calls Try.prog 6 #[v, u, .bool s, .int .i16 wd] w fun e w' => e = .returned (.bool true) ∧ Below w.heap.size w w' := by
  rcases Nat.lt_or_ge 80 n with hn | hn
  · exact long v n f u l s wd w h hu hwd hn
  rcases Nat.lt_or_ge 40 l.length with hl | hl
  · exact longL v n f u l s wd w h hu hwd hn hl
  · exact short v n f u l s wd w h hu hwd hn hl
set_option maxRecDepth 100000 in
theorem lifted (os : Os) (started : os.Started) (H : Type) (enc : TypeId × Value → H) :
    ReturnsInHanded {} Try.checked os 6 .any (Rows.treeStaysSpec.pre6 enc Try.prog Try.f6 Rows.treeStaysRow.domain false) (Rows.treeStaysSpec.post enc Try.prog Try.f6 false true false false) := by
  refine returnsInHanded_of_change (C := Try.checked) own started (by kernel_rfl) Try.func6
    (ChangeSpec.witness6 (enc := enc) (C := Try.checked) false ⟨#[], #[.slice none 0 0, .slice none 0 0, .bool false, .int .i16 0], []⟩ 8 (by kernel_rfl) (by kernel_rfl) (by kernel_rfl) (by kernel_rfl)) ?_
  intro W base args ds gs before hval0 hW _ _
  have hval : ∀ (j : Nat) t v, Try.f6.params[j]? = some t → args[j]? = some v → Value.okWide Try.prog W .any base t v := hval0
  have hW' := hW
  obtain ⟨p, q, hA0, hV, rfl, _, _⟩ := hW
  have hA : DataW.TrodAll enc Try.prog W 0 (fun _ => true) true Try.f6.params.toList args.toList ds p := hA0
  rw [Try.params6] at hA hval
  obtain ⟨v0, vs0, d0, ds0, p0, q0, hargs, rfl, rfl, h0, r0⟩ := trodAll_cons hA
  obtain ⟨v1, vs1, d1, ds1, p1, q1, rfl, rfl, rfl, h1, r1⟩ := trodAll_cons r0
  obtain ⟨v2, vs2, d2, ds2, p2, q2, rfl, rfl, rfl, h2, r2⟩ := trodAll_cons r1
  obtain ⟨v3, vs3, d3, ds3, p3, q3, rfl, rfl, rfl, h3, r3⟩ := trodAll_cons r2
  obtain ⟨rfl, rfl, rfl⟩ := trodAll_nil r3
  obtain rfl : args = #[v0, v1, v2, v3] := by cases args; simp_all
  obtain ⟨rfl, rfl⟩ := trodVars_none hV
  have lt0 : ∀ x ∈ p0, x.block < W.heap.size := by obtain ⟨m, hm⟩ := h0; exact DataW.trod_lt m _ _ _ hm
  obtain ⟨n0, f0, g0⟩ := open_bytes (hval 0 22 v0 rfl rfl) h0
  have lt1 : ∀ x ∈ p1, x.block < W.heap.size := by obtain ⟨m, hm⟩ := h1; exact DataW.trod_lt m _ _ _ hm
  obtain ⟨f1, g1⟩ := open_acts (hval 1 30 v1 rfl rfl) h1
  obtain ⟨x2, rfl, rfl, rfl⟩ := open_bool Try.underlying4 (hval 2 4 v2 rfl rfl) h2
  obtain ⟨x3, rfl, rfl, rfl, w3⟩ := open_int Try.underlying38 (hval 3 38 v3 rfl rfl) h3
  have b3 : -32768 ≤ x3 ∧ x3 ≤ 32767 := by simpa [Lit.wf, IntKind.min, IntKind.max, IntKind.signed, IntKind.bits] using w3
  clear hA0 hval0
  simp only [List.append_nil] at hW'
  refine (law v0 n0 f0 v1 f1 x2 x3 W g0 g1 b3).mono fun e W' ⟨he, bel⟩ => ?_
  subst he
  exact ⟨_, rfl, _, _, _, [], _, [], hW', trodAll_mk1 (shut_bool Try.underlying4 _), (trodAll_cons_mk (Below.trod laidOut (by kernel_rfl) (of_decide_eq_true (by kernel_rfl)) h0 bel lt0) (trodAll_cons_mk (Below.trod laidOut (by kernel_rfl) (of_decide_eq_true (by kernel_rfl)) h1 bel lt1) (trodAll_cons_mk (shut_bool Try.underlying4 _) (trodAll_cons_mk (shut_int Try.underlying38 w3) trodAll_mk0)))), rfl, bel.frame _, fun h => by cases h⟩

theorem said : Rows.TreeStaysSaid :=
  OpenClaim.holds_of_wide 6 Try.f6 rfl rfl rfl rfl rfl rfl rfl ⟨rfl, rfl, rfl, rfl, rfl⟩ rfl rfl rfl rfl rfl (by kernel_rfl) Try.func6 (by kernel_rfl)
    (of_decide_eq_true (by kernel_rfl)) (by unfold Func.isWrapper; first | (rw [if_pos (by decide +kernel)]; kernel_rfl) | (rw [if_neg (by decide +kernel)]; exact ⟨rfl, rfl⟩))
    (fun os started H enc _ => lifted os started H enc)
#print axioms said
end Go.Proofs.Ytfakfgmengcndaa.Stays
