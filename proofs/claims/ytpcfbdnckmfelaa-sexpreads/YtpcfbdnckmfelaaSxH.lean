/- The document's machine in memory; what its token, done, part and start come to. -/
import Derived.Test.YtpcfbdnckmfelaaSxG
namespace Go.Proofs.PlatenSexp
open Go Go.RowKit
set_option linter.unusedVariables false
set_option maxRecDepth 100000

/-- The machine at block K, with all its own blocks from B on. -/
structure MS (B K : Nat) (w0 w : World) (lv : Value) (st dep fr : Nat) (T : List Tk) : Prop where
  low : B ≤ K
  bs : B ≤ w.heap.size
  head : w.heap[K]? = some (.cells #[.int .u8 (st : Nat), .int .i64 (dep : Nat), .int .i64 (fr : Nat), lv] 45 (0, 0))
  lrow : w.ownsRow B 34 3 lv T.length (rowT T)
  bel : Below B w0 w
def MM (B K : Nat) (w0 w : World) (M : Sm) : Prop := ∃ lv, MS B K w0 w lv M.st M.dep M.fr M.l

section
variable {B K : Nat} {w0 w w' : World} {lv : Value} {st dep fr : Nat} {T : List Tk}
theorem MS.lt (h : MS B K w0 w lv st dep fr T) : K < w.heap.size := (Array.getElem?_eq_some_iff.1 h.head).1
theorem MS.c0 (h : MS B K w0 w lv st dep fr T) : w.cell? ⟨K, 0, none⟩ = some (.int .u8 (st : Nat)) := by simp [World.cell?, h.head]
theorem MS.c1 (h : MS B K w0 w lv st dep fr T) : w.cell? ⟨K, 1, none⟩ = some (.int .i64 (dep : Nat)) := by simp [World.cell?, h.head]
theorem MS.c2 (h : MS B K w0 w lv st dep fr T) : w.cell? ⟨K, 2, none⟩ = some (.int .i64 (fr : Nat)) := by simp [World.cell?, h.head]
theorem MS.c3 (h : MS B K w0 w lv st dep fr T) : w.cell? ⟨K, 3, none⟩ = some lv := by simp [World.cell?, h.head]
theorem MS.free (h : MS B K w0 w lv st dep fr T) (j : Nat) : w.frozen? ⟨K, j, none⟩ = false := frozen_of_row w K j _ 45 h.head
theorem MS.lown (h : MS B K w0 w lv st dep fr T) : lv.ownBlock ≠ some K := row_head h.lrow h.head (by decide)
theorem MS.grown (h : MS B K w0 w lv st dep fr T) (hg : w.grownBy w' none) : MS B K w0 w' lv st dep fr T where
  low := h.low
  bs := Nat.le_trans h.bs hg.size
  head := (hg.block K h.lt (by simp)).trans h.head
  lrow := row_same h.lrow (fun k hk => hg.block k (h.lrow.lt k hk).2 (by simp))
  bel := h.bel.grown hg h.bs (by simp)
/-- One of its own cells has changed, but no row. -/
theorem MS.store (h : MS B K w0 w lv st dep fr T) {c : Nat} {u : Value} {st' dep' fr' : Nat}
    (hc : #[.int .u8 (st : Nat), .int .i64 (dep : Nat), .int .i64 (fr : Nat), lv].set! c u = #[.int .u8 (st' : Nat), .int .i64 (dep' : Nat), .int .i64 (fr' : Nat), lv]) :
    MS B K w0 (w.setCell ⟨K, c, none⟩ u) lv st' dep' fr' T where
  low := h.low
  bs := by simpa using h.bs
  head := by rw [← hc]; exact heap_setCell_same w K c _ 45 u h.head
  lrow := row_same h.lrow (fun k hk => heap_setCell_other _ _ _ _ (fun e => h.lown (by rw [hk, e])))
  bel := h.bel.setCell (p := ⟨K, c, none⟩) h.low u
theorem MS.state (h : MS B K w0 w lv st dep fr T) (s : Nat) : MS B K w0 (w.setCell ⟨K, 0, none⟩ (.int .u8 (s : Nat))) lv s dep fr T := h.store (by simp)
theorem MS.deep (h : MS B K w0 w lv st dep fr T) (s : Nat) : MS B K w0 (w.setCell ⟨K, 1, none⟩ (.int .i64 (s : Nat))) lv st s fr T := h.store (by simp)
theorem MS.from' (h : MS B K w0 w lv st dep fr T) (s : Nat) : MS B K w0 (w.setCell ⟨K, 2, none⟩ (.int .i64 (s : Nat))) lv st dep s T := h.store (by simp)
/-- A token more. -/
theorem MS.push (h : MS B K w0 w lv st dep fr T) {w3 : World} {v' : Value} {t : Tk} (hr : w3.ownsRow B 34 3 v' (T.length + 1) (rowT T ++ rowT [t])) (hg : w.grownBy w3 lv.ownBlock) :
    MS B K w0 (w3.setCell ⟨K, 3, none⟩ v') v' st dep fr (T ++ [t]) where
  low := h.low
  bs := by simpa using Nat.le_trans h.bs hg.size
  head := by
    have hh3 := (hg.block K h.lt (fun e => h.lown e.symm)).trans h.head
    have := heap_setCell_same w3 K 3 _ 45 v' hh3
    simpa using this
  lrow := by
    have hh3 := (hg.block K h.lt (fun e => h.lown e.symm)).trans h.head
    have n2 := row_head hr hh3 (by decide)
    rw [List.length_append, List.length_singleton, rowT_app]
    exact row_same hr (fun k hk => heap_setCell_other _ _ _ _ (fun e => n2 (by rw [hk, e])))
  bel := (h.bel.grown hg h.bs (fun k e => (h.lrow.lt k e).1)).setCell (p := ⟨K, 3, none⟩) h.low _
end
set_option maxHeartbeats 2000000 in
theorem mtoken {B K : Nat} {w0 w : World} {M : Sm} (h : MM B K w0 w M) (k s t : Nat) (hst : s ≤ t) (ht : t ≤ 1000000) (hT : M.l.length ≤ 1000000) :
    Calls Try.prog 20 #[.pointer (some ⟨K, 0, none⟩), .int .u8 (k : Nat), .int .i64 (s : Nat), .int .i64 (t : Nat)] w fun e w' => e = .returned (.tuple #[]) ∧ MM B K w0 w' ⟨M.st, M.dep, M.fr, M.l ++ [(k, s, t - s)]⟩ := by
  obtain ⟨i0, hi, hz0, hz1, hz2⟩ := info_parts info34
  obtain ⟨lv, h⟩ := h
  obtain ⟨st, dep, fr, T⟩ := M
  simp only at h hT
  have c3 := h.c3
  have wr1 : IntKind.i64.wrap ((t : Int) - (s : Int)) = (t : Int) - (s : Int) := IntWalk.i64_in _ (by omega)
  have H1 := hidden (h.grown (grownBy_alloc w (.cells #[.int .u8 (k : Nat), .int .i64 (s : Nat), .int .i64 ((t : Int) - (s : Int))] 34)))
  have hown := H1.out.lrow
  clear h
  go_enter Try.func20, Try.ntmps20
  go_wp2_with (at_builtin; refine wpList_append_at _ rfl _ _ 24 rfl B 34 i0 (.agg #[.int .u8 0, .int .i64 0, .int .i64 0]) 3 24 Try.underlying24 hi hz0 hz1 hz2 rfl (by decide) _ _ _ rfl hown ⟨w.heap.size, 0, none⟩ 1 1 [.int .u8 (k : Nat), .int .i64 (s : Nat), .int .i64 ((t : Int) - (s : Int))] rfl rfl ?c1 ?c2 ?c3 ?c4 ?c5 ?c6 ?_)
  case c1 => exact cells3e _ _ _ _ _
  case c2 => intro u hu; simp at hu; rcases hu with rfl | rfl | rfl <;> rfl
  case c3 => unfold maxLen; omega
  case c4 => omega
  case c5 => exact H1.out.bs
  case c6 => decide
  intro v' w3 hr3 hg3 _
  have HP : Hid (MS B K w0 (w3.setCell ⟨K, 3, none⟩ v') v' st dep fr (T ++ [(k, s, t - s)])) := H1.out.push (by rw [rowT_one, show (((t - s : Nat) : Nat) : Int) = (t : Int) - (s : Int) by omega]; exact hr3) hg3
  have hd3 := (hg3.block K H1.out.lt (fun e => H1.out.lown e.symm)).trans H1.out.head
  have e3 : w3.cell? ⟨K, 3, none⟩ = some lv := by simp only [World.cell?, hd3]; rfl
  have f3 : w3.frozen? ⟨K, 3, none⟩ = false := frozen_of_row w3 K 3 _ 45 hd3
  obtain ⟨va, vc, rfl⟩ := row_slice hr3
  clear hr3 hg3 hd3 hown
  go_wp2_with fail
  go_end0
  exact ⟨rfl, _, HP.out⟩
set_option maxHeartbeats 1000000 in
theorem mdone {B K : Nat} {w0 w : World} {M : Sm} (h : MM B K w0 w M) :
    Calls Try.prog 21 #[.pointer (some ⟨K, 0, none⟩)] w fun e w' => e = .returned (.tuple #[]) ∧ MM B K w0 w' ⟨aft M.dep, M.dep, M.fr, M.l⟩ := by
  obtain ⟨lv, h⟩ := h
  obtain ⟨st, dep, fr, T⟩ := M
  simp only at h
  have c0 := h.c0
  have c1 := h.c1
  have f0 := h.free 0
  have h1 := h.state 1
  by_cases hd : dep = 0
  · have hz : ((dep : Int) == 0) = true := by simp; omega
    have ha : aft dep = 6 := by simp [aft, hd]
    have H6 := hidden (h1.state 6)
    have d0 := h1.c0
    have d1 := h1.c1
    have g0 := h1.free 0
    rw [show ((1 : Nat) : Int) = 1 from rfl] at d0 d1 g0
    have Ha := hidden ha
    clear h h1 ha hd
    go_enter Try.func21, Try.ntmps21
    go_wp2_with fail
    go_end0
    rw [Ha.out]
    exact ⟨rfl, lv, by simpa using H6.out⟩
  · have hz : ((dep : Int) == 0) = false := by simp; omega
    have ha : aft dep = 1 := by simp [aft, hd]
    have H6 := hidden h1
    have d1 := h1.c1
    rw [show ((1 : Nat) : Int) = 1 from rfl] at d1
    have Ha := hidden ha
    clear h h1 ha hd
    go_enter Try.func21, Try.ntmps21
    go_wp2_with fail
    go_end0
    rw [Ha.out]
    exact ⟨rfl, lv, by simpa using H6.out⟩

set_option maxHeartbeats 2000000 in
theorem part_any (c : Nat) (w : World) : Calls Try.prog 28 #[.int .u8 (c : Nat)] w fun e w' => e = .returned (.bool (isP c)) ∧ w' = w := by
  have Hs : Hid (isP c = (decide (32 < c) && !(decide (c = 40) || decide (c = 41) || decide (c = 34) || decide (c = 39) || decide (c = 96) || decide (c = 44) || decide (c = 59) || decide (c = 127)))) := rfl
  by_cases h40 : c = 40
  · have z40 : ((c : Int) == 40) = true := by simp; omega
    go_enter Try.func28, Try.ntmps28
    go_wp2
    go_ret
    exact ⟨by rw [Hs.out]; simp [h40], rfl⟩
  have z40 : ((c : Int) == 40) = false := by simp; omega
  by_cases h41 : c = 41
  · have z41 : ((c : Int) == 41) = true := by simp; omega
    go_enter Try.func28, Try.ntmps28
    go_wp2
    go_ret
    exact ⟨by rw [Hs.out]; simp [h41], rfl⟩
  have z41 : ((c : Int) == 41) = false := by simp; omega
  by_cases h34 : c = 34
  · have z34 : ((c : Int) == 34) = true := by simp; omega
    go_enter Try.func28, Try.ntmps28
    go_wp2
    go_ret
    exact ⟨by rw [Hs.out]; simp [h34], rfl⟩
  have z34 : ((c : Int) == 34) = false := by simp; omega
  by_cases h39 : c = 39
  · have z39 : ((c : Int) == 39) = true := by simp; omega
    go_enter Try.func28, Try.ntmps28
    go_wp2
    go_ret
    exact ⟨by rw [Hs.out]; simp [h39], rfl⟩
  have z39 : ((c : Int) == 39) = false := by simp; omega
  by_cases h96 : c = 96
  · have z96 : ((c : Int) == 96) = true := by simp; omega
    go_enter Try.func28, Try.ntmps28
    go_wp2
    go_ret
    exact ⟨by rw [Hs.out]; simp [h96], rfl⟩
  have z96 : ((c : Int) == 96) = false := by simp; omega
  by_cases h44 : c = 44
  · have z44 : ((c : Int) == 44) = true := by simp; omega
    go_enter Try.func28, Try.ntmps28
    go_wp2
    go_ret
    exact ⟨by rw [Hs.out]; simp [h44], rfl⟩
  have z44 : ((c : Int) == 44) = false := by simp; omega
  by_cases h59 : c = 59
  · have z59 : ((c : Int) == 59) = true := by simp; omega
    go_enter Try.func28, Try.ntmps28
    go_wp2
    go_ret
    exact ⟨by rw [Hs.out]; simp [h59], rfl⟩
  have z59 : ((c : Int) == 59) = false := by simp; omega
  by_cases h127 : c = 127
  · have z127 : ((c : Int) == 127) = true := by simp; omega
    go_enter Try.func28, Try.ntmps28
    go_wp2
    go_ret
    exact ⟨by rw [Hs.out]; simp [h127], rfl⟩
  have z127 : ((c : Int) == 127) = false := by simp; omega
  have hs : Hid (isP c = decide ((32 : Int) < (c : Int))) := by
    unfold Hid; rw [Hs.out]; simp [h40, h41, h34, h39, h96, h44, h59, h127]; omega
  clear h40 h41 h34 h39 h96 h44 h59 h127 Hs
  go_enter Try.func28, Try.ntmps28
  go_wp2
  go_ret
  exact ⟨by rw [hs.out]; simp, rfl⟩

/-- A call of the machine's answers what the plain function does. -/
def Does (B K : Nat) (w0 : World) (p : Nat × Sm) (e : Ending) (w : World) : Prop := e = .returned (.int .i64 (p.1 : Nat)) ∧ MM B K w0 w p.2
set_option maxHeartbeats 4000000 in
theorem mstart {B K : Nat} {w0 w : World} {M : Sm} (h : MM B K w0 w M) (c i : Nat) (hi : i ≤ 900000) (hd : M.dep ≤ 512) (hT : M.l.length ≤ 1000000) :
    Calls Try.prog 29 #[.pointer (some ⟨K, 0, none⟩), .int .u8 (c : Nat), .int .i64 (i : Nat)] w (Does B K w0 (start M c i)) := by
  obtain ⟨lv, h⟩ := h
  obtain ⟨st, dep, fr, T⟩ := M
  simp only at h hT hd
  have c2 := h.c2
  have f2 := h.free 2
  have h1 := h.from' i
  have HS : Hid (start ⟨st, dep, fr, T⟩ c i = start ⟨st, dep, fr, T⟩ c i) := rfl
  have hib : i + 1 ≤ 1000000 := by omega

  by_cases h39 : c = 39
  · have z39 : ((c : Int) == 39) = true := by simp; omega
    have HF : Hid (start ⟨st, dep, fr, T⟩ c i = (0, ⟨0, dep, i, T ++ [(6, i, 1)]⟩)) := by unfold Hid; simp [start, h39]
    have ct := mtoken (M := ⟨st, dep, i, T⟩) ⟨lv, h1⟩ 6 i (i + 1) (by omega) hib hT
    rw [show i + 1 - i = 1 by omega] at ct
    clear h h1 HS h39
    go_enter Try.func29, Try.ntmps29
    go_wp2_with fail
    refine ct.mono ?_
    rintro e w1 ⟨rfl, lv1, h1⟩
    have c0 := h1.c0
    have f0 := h1.free 0
    have H2 := hidden (h1.state 0)
    clear ct h1
    go_wp2_with fail
    go_ret
    rw [HF.out]
    exact ⟨rfl, lv1, by simpa using H2.out⟩
  have z39 : ((c : Int) == 39) = false := by simp; omega

  by_cases h96 : c = 96
  · have z96 : ((c : Int) == 96) = true := by simp; omega
    have HF : Hid (start ⟨st, dep, fr, T⟩ c i = (0, ⟨0, dep, i, T ++ [(6, i, 1)]⟩)) := by unfold Hid; simp [start, h96]
    have ct := mtoken (M := ⟨st, dep, i, T⟩) ⟨lv, h1⟩ 6 i (i + 1) (by omega) hib hT
    rw [show i + 1 - i = 1 by omega] at ct
    clear h h1 HS h96
    go_enter Try.func29, Try.ntmps29
    go_wp2_with fail
    refine ct.mono ?_
    rintro e w1 ⟨rfl, lv1, h1⟩
    have c0 := h1.c0
    have f0 := h1.free 0
    have H2 := hidden (h1.state 0)
    clear ct h1
    go_wp2_with fail
    go_ret
    rw [HF.out]
    exact ⟨rfl, lv1, by simpa using H2.out⟩
  have z96 : ((c : Int) == 96) = false := by simp; omega

  have d0 := h1.c0
  have d1 := h1.c1
  have g0 := h1.free 0
  have g1 := h1.free 1
  by_cases h44 : c = 44
  · have z44 : ((c : Int) == 44) = true := by simp; omega
    have HF : Hid (start ⟨st, dep, fr, T⟩ c i = (0, ⟨2, dep, i, T⟩)) := by unfold Hid; simp [start, h44]
    have H2 := hidden (h1.state 2)
    clear h h1 HS h39 h96 h44
    go_enter Try.func29, Try.ntmps29
    go_wp2_with fail
    go_ret
    rw [HF.out]
    exact ⟨rfl, lv, by simpa using H2.out⟩
  have z44 : ((c : Int) == 44) = false := by simp; omega
  by_cases h40 : c = 40
  · have z40 : ((c : Int) == 40) = true := by simp; omega
    by_cases h5 : dep = 512
    · have z5 : ((dep : Int) == 512) = true := by simp; omega
      have HF : Hid (start ⟨st, dep, fr, T⟩ c i = (6, ⟨st, dep, i, T⟩)) := by unfold Hid; simp [start, h40, h5]
      have H2 := hidden h1
      clear h h1 HS h39 h96 h44 h40 h5
      go_enter Try.func29, Try.ntmps29
      go_wp2_with fail
      go_ret
      rw [HF.out]
      exact ⟨rfl, lv, by simpa using H2.out⟩
    · have z5 : ((dep : Int) == 512) = false := by simp; omega
      have HF : Hid (start ⟨st, dep, fr, T⟩ c i = (0, ⟨1, dep + 1, i, T ++ [(1, i, 1)]⟩)) := by unfold Hid; simp [start, h40, h5]
      have h2 := h1.deep (dep + 1)
      have ct := mtoken (M := ⟨st, dep + 1, i, T⟩) ⟨lv, h2⟩ 1 i (i + 1) (by omega) hib hT
      rw [show i + 1 - i = 1 by omega] at ct
      rw [show ((dep + 1 : Nat) : Int) = (dep : Int) + 1 by omega] at ct
      clear h h1 h2 HS h39 h96 h44 h40 h5
      go_enter Try.func29, Try.ntmps29
      go_wp2_with fail
      refine ct.mono ?_
      rintro e w1 ⟨rfl, lv1, h1⟩
      have c0 := h1.c0
      have f0 := h1.free 0
      have H2 := hidden (h1.state 1)
      clear ct h1
      go_wp2_with fail
      go_ret
      rw [HF.out]
      exact ⟨rfl, lv1, by simpa using H2.out⟩
  have z40 : ((c : Int) == 40) = false := by simp; omega
  by_cases h34 : c = 34
  · have z34 : ((c : Int) == 34) = true := by simp; omega
    have HF : Hid (start ⟨st, dep, fr, T⟩ c i = (0, ⟨4, dep, i, T⟩)) := by unfold Hid; simp [start, h34]
    have H2 := hidden (h1.state 4)
    clear h h1 HS h39 h96 h44 h40 h34
    go_enter Try.func29, Try.ntmps29
    go_wp2_with fail
    go_ret
    rw [HF.out]
    exact ⟨rfl, lv, by simpa using H2.out⟩
  have z34 : ((c : Int) == 34) = false := by simp; omega
  have cp := part_any c
  cases hp : isP c with
  | true =>
    rw [hp] at cp
    by_cases h64 : c = 64
    · have z64 : ((c : Int) != 64) = false := by simp; omega
      have HF : Hid (start ⟨st, dep, fr, T⟩ c i = (5, ⟨st, dep, i, T⟩)) := by unfold Hid; simp [start, h64]
      have H2 := hidden h1
      clear h h1 HS h39 h96 h44 h40 h34 h64 hp
      go_enter Try.func29, Try.ntmps29
      go_wp2_with fail
      refine (cp _).mono ?_
      rintro e w1 ⟨rfl, rfl⟩
      go_wp2_with fail
      go_ret
      rw [HF.out]
      exact ⟨rfl, lv, by simpa using H2.out⟩
    · have z64 : ((c : Int) != 64) = true := by rw [bne_iff_ne]; omega
      have HF : Hid (start ⟨st, dep, fr, T⟩ c i = (0, ⟨3, dep, i, T⟩)) := by unfold Hid; simp [start, h39, h96, h44, h40, h34, h64, hp]
      have H2 := hidden (h1.state 3)
      clear h h1 HS h39 h96 h44 h40 h34 h64 hp
      go_enter Try.func29, Try.ntmps29
      go_wp2_with fail
      refine (cp _).mono ?_
      rintro e w1 ⟨rfl, rfl⟩
      go_wp2_with fail
      go_ret
      rw [HF.out]
      exact ⟨rfl, lv, by simpa using H2.out⟩
  | false =>
    rw [hp] at cp
    have HF : Hid (start ⟨st, dep, fr, T⟩ c i = (5, ⟨st, dep, i, T⟩)) := by unfold Hid; simp [start, h39, h96, h44, h40, h34, hp]
    have H2 := hidden h1
    clear h h1 HS h39 h96 h44 h40 h34 hp
    go_enter Try.func29, Try.ntmps29
    go_wp2_with fail
    refine (cp _).mono ?_
    rintro e w1 ⟨rfl, rfl⟩
    go_wp2_with fail
    go_ret
    rw [HF.out]
    exact ⟨rfl, lv, by simpa using H2.out⟩
end Go.Proofs.PlatenSexp
