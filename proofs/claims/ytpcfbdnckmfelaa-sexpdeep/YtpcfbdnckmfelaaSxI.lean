/- What feed of the document's machine comes to. -/
import Derived.Test.YtpcfbdnckmfelaaSxH
import Derived.Test.YtpcfbdnckmfelaaSxN
namespace Go.Proofs.PlatenSexp
open Go Go.RowKit
set_option linter.unusedVariables false
set_option maxRecDepth 100000

/-- What holds of the machine ahead of byte i. -/
structure Iv (M : Sm) (i : Nat) : Prop where
  d : M.dep ≤ 512
  fr : M.fr ≤ i
  l : M.l.length ≤ 2 * i
  one : M.st = 1 → M.dep ≠ 0
theorem aft_one {d : Nat} (h : aft d = 1) : d ≠ 0 := by rcases aft_cases d with ⟨e, _⟩ | ⟨_, e⟩; rw [h] at e; cases e; exact e
theorem start_iv {M : Sm} {c i : Nat} (hd : M.dep ≤ 512) (h : (start M c i).1 = 0) : (start M c i).2.dep ≤ 512 ∧ (start M c i).2.fr ≤ i + 1 ∧ ((start M c i).2.st = 1 → (start M c i).2.dep ≠ 0) := by
  unfold start at h ⊢
  split
  · simp; exact hd
  split
  · simp; exact hd
  split
  · split
    · simp_all
    · simp; omega
  split
  · simp; exact hd
  split
  · simp; exact hd
  · simp_all
theorem feedB_iv {M : Sm} {c i : Nat} (hd : M.dep ≤ 512) (hf : M.fr ≤ i) (h1 : M.st = 1 → M.dep ≠ 0) (h : (feedB M c i).1 = 0) : (feedB M c i).2.dep ≤ 512 ∧ (feedB M c i).2.fr ≤ i + 1 ∧ ((feedB M c i).2.st = 1 → (feedB M c i).2.dep ≠ 0) := by
  unfold feedB at h ⊢
  split
  · exact ⟨hd, Nat.le_succ_of_le hf, h1⟩
  split
  · exact ⟨hd, Nat.le_succ_of_le hf, h1⟩
  split
  · exact ⟨by simp; omega, by simp; omega, fun e => aft_one e⟩
  · rename_i h2 h3 h4
    rw [if_neg h2, if_neg h3, if_neg h4] at h
    exact start_iv hd h
theorem feed_iv {M : Sm} {c i : Nat} (v : Iv M i) (h : (feed M c i).1 = 0) : Iv (feed M c i).2 (i + 1) := by
  have hl := feed_len M c i
  have hl2 := v.l
  have hf := v.fr
  have key : (feed M c i).2.dep ≤ 512 ∧ (feed M c i).2.fr ≤ i + 1 ∧ ((feed M c i).2.st = 1 → (feed M c i).2.dep ≠ 0) := by
    unfold feed at h ⊢
    split
    · split
      · exact ⟨v.d, by simp; omega, fun e => aft_one e⟩
      split
      · exact ⟨v.d, by simp; omega, fun e => by cases e⟩
      · exact ⟨v.d, Nat.le_succ_of_le hf, v.one⟩
    rename_i n4
    rw [if_neg n4] at h
    split
    · exact ⟨v.d, by simp; omega, fun e => by cases e⟩
    rename_i n5
    rw [if_neg n5] at h
    split
    · rename_i n3
      rw [if_pos n3] at h
      split
      · exact ⟨v.d, Nat.le_succ_of_le hf, v.one⟩
      · rename_i np
        rw [if_neg np] at h
        exact feedB_iv (M := ⟨aft M.dep, M.dep, M.fr, M.l ++ [(5, M.fr, i - M.fr)]⟩) v.d hf (fun e => aft_one e) h
    rename_i n3
    rw [if_neg n3] at h
    split
    · rename_i n2
      rw [if_pos n2] at h
      split
      · exact ⟨v.d, by simp; omega, fun e => by cases e⟩
      · rename_i np
        rw [if_neg np] at h
        exact feedB_iv (M := ⟨0, M.dep, M.fr, M.l ++ [(6, M.fr, i - M.fr)]⟩) v.d hf (fun e => by cases e) h
    rename_i n2
    rw [if_neg n2] at h
    exact feedB_iv v.d hf v.one h
  exact ⟨key.1, key.2.1, by omega, key.2.2⟩
theorem b_not {c : Nat} (h0 : c ≠ 32) (h1 : c ≠ 9) (h2 : c ≠ 10) (h3 : c ≠ 13) : isB c = false := by simp [isB, h0, h1, h2, h3]

set_option maxHeartbeats 8000000 in
theorem feed4 {B K : Nat} {w0 w : World} {dep fr : Nat} {T : List Tk} (h : MM B K w0 w ⟨4, dep, fr, T⟩) (c i : Nat) (hi : i ≤ 100000) (v : Iv ⟨4, dep, fr, T⟩ i) :
    Calls Try.prog 19 #[.pointer (some ⟨K, 0, none⟩), .int .u8 (c : Nat), .int .i64 (i : Nat)] w (Does B K w0 (feed ⟨4, dep, fr, T⟩ c i)) := by
  have hfr : fr ≤ i := v.fr
  have hT : T.length ≤ 2 * i := v.l
  have hd : dep ≤ 512 := v.d
  have h1 := v.one
  simp only at h1
  clear v
  obtain ⟨M, hM⟩ : ∃ M, M = (⟨4, dep, fr, T⟩ : Sm) := ⟨_, rfl⟩
  have hm := h
  rw [← hM] at h ⊢
  have HM := hidden hM
  clear hM h
  obtain ⟨lv, h⟩ := hm
  simp only at h
  have c0 := h.c0
  have c2 := h.c2
  have f0 := h.free 0
  rw [show ((4 : Nat) : Int) = 4 from rfl] at c0
  by_cases q : c = 34
  · have z : ((c : Int) == 34) = true := by simp; omega
    have HF : Hid (feed M c i = (0, ⟨aft dep, dep, fr, T ++ [(5, fr, i + 1 - fr)]⟩)) := by unfold Hid; rw [HM.out]; simp [feed, q]
    have ct := mtoken (M := ⟨4, dep, fr, T⟩) ⟨lv, h⟩ 5 fr (i + 1) (by omega) (by omega) (by simp only; omega)
    rw [show ((i + 1 : Nat) : Int) = (i : Int) + 1 by omega] at ct
    clear h q HM
    go_enter Try.func19, Try.ntmps19
    go_wp2_with fail
    refine ct.mono ?_
    clear ct
    rintro e w4 ⟨rfl, h4⟩
    have cd := mdone h4
    clear h4
    go_wp2_with fail
    refine cd.mono ?_
    clear cd
    rintro e w5 ⟨rfl, h5⟩
    have H5 := hidden h5
    clear h5
    go_wp2_with fail
    go_ret
    rw [HF.out]
    exact ⟨rfl, H5.out⟩
  have z : ((c : Int) == 34) = false := by simp; omega
  by_cases q9 : c = 92
  · have z9 : ((c : Int) == 92) = true := by simp; omega
    have HF : Hid (feed M c i = (0, ⟨5, dep, fr, T⟩)) := by unfold Hid; rw [HM.out]; simp [feed, q9]
    have H2 := hidden (h.state 5)
    clear h q q9 HM
    go_enter Try.func19, Try.ntmps19
    go_wp2_with fail
    go_ret
    rw [HF.out]
    exact ⟨rfl, lv, by simpa using H2.out⟩
  have z9 : ((c : Int) == 92) = false := by simp; omega
  have HF : Hid (feed M c i = (0, ⟨4, dep, fr, T⟩)) := by unfold Hid; rw [HM.out]; simp [feed, q, q9]
  have H2 := hidden h
  clear h q q9 HM
  go_enter Try.func19, Try.ntmps19
  go_wp2_with fail
  go_ret
  rw [HF.out]
  exact ⟨rfl, lv, H2.out⟩

set_option maxHeartbeats 8000000 in
theorem feed5 {B K : Nat} {w0 w : World} {dep fr : Nat} {T : List Tk} (h : MM B K w0 w ⟨5, dep, fr, T⟩) (c i : Nat) (hi : i ≤ 100000) (v : Iv ⟨5, dep, fr, T⟩ i) :
    Calls Try.prog 19 #[.pointer (some ⟨K, 0, none⟩), .int .u8 (c : Nat), .int .i64 (i : Nat)] w (Does B K w0 (feed ⟨5, dep, fr, T⟩ c i)) := by
  have hfr : fr ≤ i := v.fr
  have hT : T.length ≤ 2 * i := v.l
  have hd : dep ≤ 512 := v.d
  have h1 := v.one
  simp only at h1
  clear v
  obtain ⟨M, hM⟩ : ∃ M, M = (⟨5, dep, fr, T⟩ : Sm) := ⟨_, rfl⟩
  have hm := h
  rw [← hM] at h ⊢
  have HM := hidden hM
  clear hM h
  obtain ⟨lv, h⟩ := hm
  simp only at h
  have c0 := h.c0
  have c2 := h.c2
  have f0 := h.free 0
  rw [show ((5 : Nat) : Int) = 5 from rfl] at c0
  have HF : Hid (feed M c i = (0, ⟨4, dep, fr, T⟩)) := by unfold Hid; rw [HM.out]; simp [feed]
  have H2 := hidden (h.state 4)
  clear h HM
  go_enter Try.func19, Try.ntmps19
  go_wp2_with fail
  go_ret
  rw [HF.out]
  exact ⟨rfl, lv, by simpa using H2.out⟩

set_option maxHeartbeats 8000000 in
theorem feed3 {B K : Nat} {w0 w : World} {dep fr : Nat} {T : List Tk} (h : MM B K w0 w ⟨3, dep, fr, T⟩) (c i : Nat) (hi : i ≤ 100000) (v : Iv ⟨3, dep, fr, T⟩ i) :
    Calls Try.prog 19 #[.pointer (some ⟨K, 0, none⟩), .int .u8 (c : Nat), .int .i64 (i : Nat)] w (Does B K w0 (feed ⟨3, dep, fr, T⟩ c i)) := by
  have hfr : fr ≤ i := v.fr
  have hT : T.length ≤ 2 * i := v.l
  have hd : dep ≤ 512 := v.d
  have h1 := v.one
  simp only at h1
  clear v
  obtain ⟨M, hM⟩ : ∃ M, M = (⟨3, dep, fr, T⟩ : Sm) := ⟨_, rfl⟩
  have hm := h
  rw [← hM] at h ⊢
  have HM := hidden hM
  clear hM h
  obtain ⟨lv, h⟩ := hm
  simp only at h
  have c0 := h.c0
  have c2 := h.c2
  have f0 := h.free 0
  rw [show ((3 : Nat) : Int) = 3 from rfl] at c0
  have cp := part_any c
  cases hp : isP c with
  | true =>
    rw [hp] at cp
    have HF : Hid (feed M c i = (0, ⟨3, dep, fr, T⟩)) := by unfold Hid; rw [HM.out]; simp [feed, hp]
    have H2 := hidden h
    clear h HM hp
    go_enter Try.func19, Try.ntmps19
    go_wp2_with fail
    refine (cp _).mono ?_
    rintro e w1 ⟨rfl, rfl⟩
    go_wp2_with fail
    go_ret
    rw [HF.out]
    exact ⟨rfl, lv, H2.out⟩
  | false =>
    rw [hp] at cp
    have HE : Hid (feed M c i = feedB ⟨aft dep, dep, fr, T ++ [(5, fr, i - fr)]⟩ c i) := by unfold Hid; rw [HM.out]; simp [feed, hp]
    have ct := mtoken (M := ⟨3, dep, fr, T⟩) ⟨lv, h⟩ 5 fr i (by omega) (by omega) (by simp only; omega)
    clear h HM hp
    go_enter Try.func19, Try.ntmps19
    go_wp2_with fail
    refine (cp _).mono ?_
    rintro e w1 ⟨rfl, rfl⟩
    go_wp2_with fail
    refine ct.mono ?_
    clear ct cp c0 c2 f0
    rintro e w4 ⟨rfl, h4⟩
    have cd := mdone h4
    clear h4
    go_wp2_with fail
    refine cd.mono ?_
    clear cd
    rintro e wa ⟨rfl, hm⟩
    have hT2 : (T ++ [(5, fr, i - fr)]).length ≤ 900000 := by simp; omega
    have h1d : aft dep = 1 → dep ≠ 0 := aft_one
    clear h1
    try simp only at hm
    generalize aft dep = s2 at *
    generalize T ++ [(5, fr, i - fr)] = T2 at *
    obtain ⟨lv2, h⟩ := hm
    simp only at h
    have d0 := h.c0
    have d1 := h.c1
    have g1 := h.free 1
    have H := hidden h
    have cst := mstart (M := ⟨s2, dep, fr, T2⟩) ⟨lv2, h⟩ c i (by omega) hd (by simp only; omega)
    clear h
    by_cases q32 : c = 32
    · have z32 : ((c : Int) == 32) = true := by simp; omega
      have HF : Hid (feed M c i = (0, ⟨s2, dep, fr, T2⟩)) := HE.out.trans (by simp [feedB, isB, q32])
      clear HE cst q32
      go_wp2_with fail
      go_ret
      rw [HF.out]
      exact ⟨rfl, lv2, H.out⟩
    have z32 : ((c : Int) == 32) = false := by simp; omega
    by_cases q9 : c = 9
    · have z9 : ((c : Int) == 9) = true := by simp; omega
      have HF : Hid (feed M c i = (0, ⟨s2, dep, fr, T2⟩)) := HE.out.trans (by simp [feedB, isB, q9])
      clear HE cst q9
      go_wp2_with fail
      go_ret
      rw [HF.out]
      exact ⟨rfl, lv2, H.out⟩
    have z9 : ((c : Int) == 9) = false := by simp; omega
    by_cases q10 : c = 10
    · have z10 : ((c : Int) == 10) = true := by simp; omega
      have HF : Hid (feed M c i = (0, ⟨s2, dep, fr, T2⟩)) := HE.out.trans (by simp [feedB, isB, q10])
      clear HE cst q10
      go_wp2_with fail
      go_ret
      rw [HF.out]
      exact ⟨rfl, lv2, H.out⟩
    have z10 : ((c : Int) == 10) = false := by simp; omega
    by_cases q13 : c = 13
    · have z13 : ((c : Int) == 13) = true := by simp; omega
      have HF : Hid (feed M c i = (0, ⟨s2, dep, fr, T2⟩)) := HE.out.trans (by simp [feedB, isB, q13])
      clear HE cst q13
      go_wp2_with fail
      go_ret
      rw [HF.out]
      exact ⟨rfl, lv2, H.out⟩
    have z13 : ((c : Int) == 13) = false := by simp; omega
    have hb := b_not q32 q9 q10 q13
    clear q32 q9 q10 q13
    by_cases q6 : s2 = 6
    · have z6 : ((s2 : Int) == 6) = true := by simp; omega
      have HF : Hid (feed M c i = (5, ⟨s2, dep, fr, T2⟩)) := HE.out.trans (by simp [feedB, hb, q6])
      clear HE cst q6 hb h1d
      go_wp2_with fail
      go_ret
      rw [HF.out]
      exact ⟨rfl, lv2, H.out⟩
    have z6 : ((s2 : Int) == 6) = false := by simp; omega
    have HST : Hid (¬ (c = 41 ∧ s2 = 1) → feed M c i = start ⟨s2, dep, fr, T2⟩ c i) := fun q => HE.out.trans (by unfold feedB; rw [if_neg (by simp [hb]), if_neg q6, if_neg q])
    have HCL : Hid (c = 41 ∧ s2 = 1 → feed M c i = (0, ⟨aft (dep - 1), dep - 1, fr, T2 ++ [(2, i, 1)]⟩)) := fun q => HE.out.trans (by unfold feedB; rw [if_neg (by simp [hb]), if_neg q6, if_pos q])
    clear HE hb q6
    by_cases q41 : c = 41
    · have z41 : ((c : Int) == 41) = true := by simp; omega
      by_cases q1 : s2 = 1
      · have z1 : ((s2 : Int) == 1) = true := by simp; omega
        have hdp := h1d q1
        have HF := hidden (HCL.out ⟨q41, q1⟩)
        have h2 := H.out.deep (dep - 1)
        have ct := mtoken (M := ⟨s2, dep - 1, fr, T2⟩) ⟨lv2, h2⟩ 2 i (i + 1) (by omega) (by omega) (by simp only; omega)
        rw [show i + 1 - i = 1 by omega] at ct
        rw [show ((dep - 1 : Nat) : Int) = (dep : Int) - 1 by omega] at ct
        clear HST HCL q41 q1 h1d hdp H h2 cst
        go_wp2_with fail
        refine ct.mono ?_
        clear ct
        rintro e w4 ⟨rfl, h4⟩
        have cd := mdone h4
        clear h4
        go_wp2_with fail
        refine cd.mono ?_
        clear cd
        rintro e w5 ⟨rfl, h5⟩
        have H5 := hidden h5
        clear h5
        go_wp2_with fail
        go_ret
        rw [HF.out]
        exact ⟨rfl, H5.out⟩
      · have z1 : ((s2 : Int) == 1) = false := by simp; omega
        have HF := hidden (HST.out (fun q => q1 q.2))
        clear HST HCL q41 q1 h1d H
        rw [← HF.out] at cst
        go_wp2_with fail
        refine cst.mono ?_
        clear cst
        rintro e w4 ⟨rfl, h4⟩
        have H4 := hidden h4
        clear h4
        go_wp2_with fail
        go_ret
        exact ⟨rfl, H4.out⟩
    · have z41 : ((c : Int) == 41) = false := by simp; omega
      have HF := hidden (HST.out (fun q => q41 q.1))
      clear HST HCL q41 h1d H
      rw [← HF.out] at cst
      go_wp2_with fail
      refine cst.mono ?_
      clear cst
      rintro e w4 ⟨rfl, h4⟩
      have H4 := hidden h4
      clear h4
      go_wp2_with fail
      go_ret
      exact ⟨rfl, H4.out⟩

set_option maxHeartbeats 8000000 in
theorem feed2 {B K : Nat} {w0 w : World} {dep fr : Nat} {T : List Tk} (h : MM B K w0 w ⟨2, dep, fr, T⟩) (c i : Nat) (hi : i ≤ 100000) (v : Iv ⟨2, dep, fr, T⟩ i) :
    Calls Try.prog 19 #[.pointer (some ⟨K, 0, none⟩), .int .u8 (c : Nat), .int .i64 (i : Nat)] w (Does B K w0 (feed ⟨2, dep, fr, T⟩ c i)) := by
  have hfr : fr ≤ i := v.fr
  have hT : T.length ≤ 2 * i := v.l
  have hd : dep ≤ 512 := v.d
  have h1 := v.one
  simp only at h1
  clear v
  obtain ⟨M, hM⟩ : ∃ M, M = (⟨2, dep, fr, T⟩ : Sm) := ⟨_, rfl⟩
  have hm := h
  rw [← hM] at h ⊢
  have HM := hidden hM
  clear hM h
  obtain ⟨lv, h⟩ := hm
  simp only at h
  have c0 := h.c0
  have c2 := h.c2
  have f0 := h.free 0
  rw [show ((2 : Nat) : Int) = 2 from rfl] at c0
  have h0 := h.state 0
  have e2 := h0.c2
  rw [show ((0 : Nat) : Int) = 0 from rfl] at e2
  by_cases q : c = 64
  · have z : ((c : Int) == 64) = true := by simp; omega
    have HF : Hid (feed M c i = (0, ⟨0, dep, fr, T ++ [(6, fr, i + 1 - fr)]⟩)) := by unfold Hid; rw [HM.out]; simp [feed, q]
    have ct := mtoken (M := ⟨0, dep, fr, T⟩) ⟨lv, h0⟩ 6 fr (i + 1) (by omega) (by omega) (by simp only; omega)
    rw [show ((i + 1 : Nat) : Int) = (i : Int) + 1 by omega, show ((0 : Nat) : Int) = 0 from rfl] at ct
    clear h h0 q HM
    go_enter Try.func19, Try.ntmps19
    go_wp2_with fail
    refine ct.mono ?_
    clear ct
    rintro e w4 ⟨rfl, h4⟩
    have H4 := hidden h4
    clear h4
    go_wp2_with fail
    go_ret
    rw [HF.out]
    exact ⟨rfl, H4.out⟩
  have z : ((c : Int) == 64) = false := by simp; omega
  have HE : Hid (feed M c i = feedB ⟨0, dep, fr, T ++ [(6, fr, i - fr)]⟩ c i) := by unfold Hid; rw [HM.out]; simp [feed, q]
  have ct := mtoken (M := ⟨0, dep, fr, T⟩) ⟨lv, h0⟩ 6 fr i (by omega) (by omega) (by simp only; omega)
  rw [show ((0 : Nat) : Int) = 0 from rfl] at ct
  clear h h0 HM q
  go_enter Try.func19, Try.ntmps19
  go_wp2_with fail
  refine ct.mono ?_
  clear ct c0 c2 f0 e2
  rintro e wa ⟨rfl, hm⟩
  have hT2 : (T ++ [(6, fr, i - fr)]).length ≤ 900000 := by simp; omega
  obtain ⟨s2, hs2⟩ : ∃ s2, s2 = 0 := ⟨_, rfl⟩
  have h1d : s2 = 1 → dep ≠ 0 := fun e => by omega
  rw [← hs2] at HE hm
  clear h1 hs2
  try simp only at hm
  generalize T ++ [(6, fr, i - fr)] = T2 at *
  obtain ⟨lv2, h⟩ := hm
  simp only at h
  have d0 := h.c0
  have d1 := h.c1
  have g1 := h.free 1
  have H := hidden h
  have cst := mstart (M := ⟨s2, dep, fr, T2⟩) ⟨lv2, h⟩ c i (by omega) hd (by simp only; omega)
  clear h
  by_cases q32 : c = 32
  · have z32 : ((c : Int) == 32) = true := by simp; omega
    have HF : Hid (feed M c i = (0, ⟨s2, dep, fr, T2⟩)) := HE.out.trans (by simp [feedB, isB, q32])
    clear HE cst q32
    go_wp2_with fail
    go_ret
    rw [HF.out]
    exact ⟨rfl, lv2, H.out⟩
  have z32 : ((c : Int) == 32) = false := by simp; omega
  by_cases q9 : c = 9
  · have z9 : ((c : Int) == 9) = true := by simp; omega
    have HF : Hid (feed M c i = (0, ⟨s2, dep, fr, T2⟩)) := HE.out.trans (by simp [feedB, isB, q9])
    clear HE cst q9
    go_wp2_with fail
    go_ret
    rw [HF.out]
    exact ⟨rfl, lv2, H.out⟩
  have z9 : ((c : Int) == 9) = false := by simp; omega
  by_cases q10 : c = 10
  · have z10 : ((c : Int) == 10) = true := by simp; omega
    have HF : Hid (feed M c i = (0, ⟨s2, dep, fr, T2⟩)) := HE.out.trans (by simp [feedB, isB, q10])
    clear HE cst q10
    go_wp2_with fail
    go_ret
    rw [HF.out]
    exact ⟨rfl, lv2, H.out⟩
  have z10 : ((c : Int) == 10) = false := by simp; omega
  by_cases q13 : c = 13
  · have z13 : ((c : Int) == 13) = true := by simp; omega
    have HF : Hid (feed M c i = (0, ⟨s2, dep, fr, T2⟩)) := HE.out.trans (by simp [feedB, isB, q13])
    clear HE cst q13
    go_wp2_with fail
    go_ret
    rw [HF.out]
    exact ⟨rfl, lv2, H.out⟩
  have z13 : ((c : Int) == 13) = false := by simp; omega
  have hb := b_not q32 q9 q10 q13
  clear q32 q9 q10 q13
  by_cases q6 : s2 = 6
  · have z6 : ((s2 : Int) == 6) = true := by simp; omega
    have HF : Hid (feed M c i = (5, ⟨s2, dep, fr, T2⟩)) := HE.out.trans (by simp [feedB, hb, q6])
    clear HE cst q6 hb h1d
    go_wp2_with fail
    go_ret
    rw [HF.out]
    exact ⟨rfl, lv2, H.out⟩
  have z6 : ((s2 : Int) == 6) = false := by simp; omega
  have HST : Hid (¬ (c = 41 ∧ s2 = 1) → feed M c i = start ⟨s2, dep, fr, T2⟩ c i) := fun q => HE.out.trans (by unfold feedB; rw [if_neg (by simp [hb]), if_neg q6, if_neg q])
  have HCL : Hid (c = 41 ∧ s2 = 1 → feed M c i = (0, ⟨aft (dep - 1), dep - 1, fr, T2 ++ [(2, i, 1)]⟩)) := fun q => HE.out.trans (by unfold feedB; rw [if_neg (by simp [hb]), if_neg q6, if_pos q])
  clear HE hb q6
  by_cases q41 : c = 41
  · have z41 : ((c : Int) == 41) = true := by simp; omega
    by_cases q1 : s2 = 1
    · have z1 : ((s2 : Int) == 1) = true := by simp; omega
      have hdp := h1d q1
      have HF := hidden (HCL.out ⟨q41, q1⟩)
      have h2 := H.out.deep (dep - 1)
      have ct := mtoken (M := ⟨s2, dep - 1, fr, T2⟩) ⟨lv2, h2⟩ 2 i (i + 1) (by omega) (by omega) (by simp only; omega)
      rw [show i + 1 - i = 1 by omega] at ct
      rw [show ((dep - 1 : Nat) : Int) = (dep : Int) - 1 by omega] at ct
      clear HST HCL q41 q1 h1d hdp H h2 cst
      go_wp2_with fail
      refine ct.mono ?_
      clear ct
      rintro e w4 ⟨rfl, h4⟩
      have cd := mdone h4
      clear h4
      go_wp2_with fail
      refine cd.mono ?_
      clear cd
      rintro e w5 ⟨rfl, h5⟩
      have H5 := hidden h5
      clear h5
      go_wp2_with fail
      go_ret
      rw [HF.out]
      exact ⟨rfl, H5.out⟩
    · have z1 : ((s2 : Int) == 1) = false := by simp; omega
      have HF := hidden (HST.out (fun q => q1 q.2))
      clear HST HCL q41 q1 h1d H
      rw [← HF.out] at cst
      go_wp2_with fail
      refine cst.mono ?_
      clear cst
      rintro e w4 ⟨rfl, h4⟩
      have H4 := hidden h4
      clear h4
      go_wp2_with fail
      go_ret
      exact ⟨rfl, H4.out⟩
  · have z41 : ((c : Int) == 41) = false := by simp; omega
    have HF := hidden (HST.out (fun q => q41 q.1))
    clear HST HCL q41 h1d H
    rw [← HF.out] at cst
    go_wp2_with fail
    refine cst.mono ?_
    clear cst
    rintro e w4 ⟨rfl, h4⟩
    have H4 := hidden h4
    clear h4
    go_wp2_with fail
    go_ret
    exact ⟨rfl, H4.out⟩

set_option maxHeartbeats 8000000 in
theorem feedx {B K : Nat} {w0 w : World} {s2 dep fr : Nat} {T : List Tk} (h : MM B K w0 w ⟨s2, dep, fr, T⟩) (c i : Nat) (hi : i ≤ 100000) (hs : s2 = 0 ∨ s2 = 1 ∨ s2 = 6) (v : Iv ⟨s2, dep, fr, T⟩ i) :
    Calls Try.prog 19 #[.pointer (some ⟨K, 0, none⟩), .int .u8 (c : Nat), .int .i64 (i : Nat)] w (Does B K w0 (feed ⟨s2, dep, fr, T⟩ c i)) := by
  have hfr : fr ≤ i := v.fr
  have hT : T.length ≤ 2 * i := v.l
  have hd : dep ≤ 512 := v.d
  have h1 := v.one
  simp only at h1
  clear v
  obtain ⟨M, hM⟩ : ∃ M, M = (⟨s2, dep, fr, T⟩ : Sm) := ⟨_, rfl⟩
  have hm := h
  rw [← hM] at h ⊢
  have HM := hidden hM
  clear hM h
  obtain ⟨lv, h⟩ := hm
  simp only at h
  have c0 := h.c0
  have c2 := h.c2
  have f0 := h.free 0
  have z4 : ((s2 : Int) == 4) = false := by simp; omega
  have z5 : ((s2 : Int) == 5) = false := by simp; omega
  have z3 : ((s2 : Int) == 3) = false := by simp; omega
  have z2 : ((s2 : Int) == 2) = false := by simp; omega
  have HE : Hid (feed M c i = feedB ⟨s2, dep, fr, T⟩ c i) := by
    unfold Hid; rw [HM.out]
    rcases hs with rfl | rfl | rfl <;> rfl
  have hm : MM B K w0 w ⟨s2, dep, fr, T⟩ := ⟨lv, h⟩
  have h1d := h1
  have hT2 : T.length ≤ 900000 := by omega
  clear h h1 c2 f0 hs HM hT
  generalize T = T2 at *
  clear c0
  obtain ⟨lv2, h⟩ := hm
  simp only at h
  have d0 := h.c0
  have d1 := h.c1
  have g1 := h.free 1
  have H := hidden h
  have cst := mstart (M := ⟨s2, dep, fr, T2⟩) ⟨lv2, h⟩ c i (by omega) hd (by simp only; omega)
  clear h
  by_cases q32 : c = 32
  · have z32 : ((c : Int) == 32) = true := by simp; omega
    have HF : Hid (feed M c i = (0, ⟨s2, dep, fr, T2⟩)) := HE.out.trans (by simp [feedB, isB, q32])
    clear HE cst q32
    go_enter Try.func19, Try.ntmps19
    go_wp2_with fail
    go_ret
    rw [HF.out]
    exact ⟨rfl, lv2, H.out⟩
  have z32 : ((c : Int) == 32) = false := by simp; omega
  by_cases q9 : c = 9
  · have z9 : ((c : Int) == 9) = true := by simp; omega
    have HF : Hid (feed M c i = (0, ⟨s2, dep, fr, T2⟩)) := HE.out.trans (by simp [feedB, isB, q9])
    clear HE cst q9
    go_enter Try.func19, Try.ntmps19
    go_wp2_with fail
    go_ret
    rw [HF.out]
    exact ⟨rfl, lv2, H.out⟩
  have z9 : ((c : Int) == 9) = false := by simp; omega
  by_cases q10 : c = 10
  · have z10 : ((c : Int) == 10) = true := by simp; omega
    have HF : Hid (feed M c i = (0, ⟨s2, dep, fr, T2⟩)) := HE.out.trans (by simp [feedB, isB, q10])
    clear HE cst q10
    go_enter Try.func19, Try.ntmps19
    go_wp2_with fail
    go_ret
    rw [HF.out]
    exact ⟨rfl, lv2, H.out⟩
  have z10 : ((c : Int) == 10) = false := by simp; omega
  by_cases q13 : c = 13
  · have z13 : ((c : Int) == 13) = true := by simp; omega
    have HF : Hid (feed M c i = (0, ⟨s2, dep, fr, T2⟩)) := HE.out.trans (by simp [feedB, isB, q13])
    clear HE cst q13
    go_enter Try.func19, Try.ntmps19
    go_wp2_with fail
    go_ret
    rw [HF.out]
    exact ⟨rfl, lv2, H.out⟩
  have z13 : ((c : Int) == 13) = false := by simp; omega
  have hb := b_not q32 q9 q10 q13
  clear q32 q9 q10 q13
  by_cases q6 : s2 = 6
  · have z6 : ((s2 : Int) == 6) = true := by simp; omega
    have HF : Hid (feed M c i = (5, ⟨s2, dep, fr, T2⟩)) := HE.out.trans (by simp [feedB, hb, q6])
    clear HE cst q6 hb h1d
    go_enter Try.func19, Try.ntmps19
    go_wp2_with fail
    go_ret
    rw [HF.out]
    exact ⟨rfl, lv2, H.out⟩
  have z6 : ((s2 : Int) == 6) = false := by simp; omega
  have HST : Hid (¬ (c = 41 ∧ s2 = 1) → feed M c i = start ⟨s2, dep, fr, T2⟩ c i) := fun q => HE.out.trans (by unfold feedB; rw [if_neg (by simp [hb]), if_neg q6, if_neg q])
  have HCL : Hid (c = 41 ∧ s2 = 1 → feed M c i = (0, ⟨aft (dep - 1), dep - 1, fr, T2 ++ [(2, i, 1)]⟩)) := fun q => HE.out.trans (by unfold feedB; rw [if_neg (by simp [hb]), if_neg q6, if_pos q])
  clear HE hb q6
  by_cases q41 : c = 41
  · have z41 : ((c : Int) == 41) = true := by simp; omega
    by_cases q1 : s2 = 1
    · have z1 : ((s2 : Int) == 1) = true := by simp; omega
      have hdp := h1d q1
      have HF := hidden (HCL.out ⟨q41, q1⟩)
      have h2 := H.out.deep (dep - 1)
      have ct := mtoken (M := ⟨s2, dep - 1, fr, T2⟩) ⟨lv2, h2⟩ 2 i (i + 1) (by omega) (by omega) (by simp only; omega)
      rw [show i + 1 - i = 1 by omega] at ct
      rw [show ((dep - 1 : Nat) : Int) = (dep : Int) - 1 by omega] at ct
      clear HST HCL q41 q1 h1d hdp H h2 cst
      go_enter Try.func19, Try.ntmps19
      go_wp2_with fail
      refine ct.mono ?_
      clear ct
      rintro e w4 ⟨rfl, h4⟩
      have cd := mdone h4
      clear h4
      go_wp2_with fail
      refine cd.mono ?_
      clear cd
      rintro e w5 ⟨rfl, h5⟩
      have H5 := hidden h5
      clear h5
      go_wp2_with fail
      go_ret
      rw [HF.out]
      exact ⟨rfl, H5.out⟩
    · have z1 : ((s2 : Int) == 1) = false := by simp; omega
      have HF := hidden (HST.out (fun q => q1 q.2))
      clear HST HCL q41 q1 h1d H
      rw [← HF.out] at cst
      go_enter Try.func19, Try.ntmps19
      go_wp2_with fail
      refine cst.mono ?_
      clear cst
      rintro e w4 ⟨rfl, h4⟩
      have H4 := hidden h4
      clear h4
      go_wp2_with fail
      go_ret
      exact ⟨rfl, H4.out⟩
  · have z41 : ((c : Int) == 41) = false := by simp; omega
    have HF := hidden (HST.out (fun q => q41 q.1))
    clear HST HCL q41 h1d H
    rw [← HF.out] at cst
    go_enter Try.func19, Try.ntmps19
    go_wp2_with fail
    refine cst.mono ?_
    clear cst
    rintro e w4 ⟨rfl, h4⟩
    have H4 := hidden h4
    clear h4
    go_wp2_with fail
    go_ret
    exact ⟨rfl, H4.out⟩

theorem feed_any {B K : Nat} {w0 w : World} {M : Sm} (h : MM B K w0 w M) (c i : Nat) (hi : i ≤ 100000) (hs : M.st ≤ 6) (v : Iv M i) :
    Calls Try.prog 19 #[.pointer (some ⟨K, 0, none⟩), .int .u8 (c : Nat), .int .i64 (i : Nat)] w (Does B K w0 (feed M c i)) := by
  obtain ⟨st, dep, fr, T⟩ := M
  simp only at hs
  by_cases q4 : st = 4
  · subst q4; exact feed4 h c i hi v
  by_cases q5 : st = 5
  · subst q5; exact feed5 h c i hi v
  by_cases q3 : st = 3
  · subst q3; exact feed3 h c i hi v
  by_cases q2 : st = 2
  · subst q2; exact feed2 h c i hi v
  exact feedx h c i hi (by omega) v
end Go.Proofs.PlatenSexp
