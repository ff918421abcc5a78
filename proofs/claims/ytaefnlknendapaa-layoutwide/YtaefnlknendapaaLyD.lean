/- The printer in memory; what its builder's methods come to. -/
import Derived.Test.YtaefnlknendapaaLyB
import Derived.Lib.Builder
import Derived.Lib.AppendStr
import Derived.Lib.UnsafeStr
namespace Go.Proofs.PlatenLayout
open Go Go.RowKit Go.Shelf
set_option linter.unusedVariables false
set_option maxRecDepth 100000

def bc (l : List Nat) : List Value := l.map fun c => Value.int .u8 (c : Nat)
theorem bc_len (l : List Nat) : (bc l).length = l.length := by simp [bc]
theorem bc_app (a b : List Nat) : bc (a ++ b) = bc a ++ bc b := by simp [bc]
theorem strCells_str (l : List Nat) (h : ∀ c ∈ l, c < 256) : Lib.strCells (str l) = bc l := by
  unfold Lib.strCells str bc
  simp only [List.map_map]
  apply List.map_congr_left
  intro c hc
  have := h c hc
  simp
  omega
def rowG (G : List Gr) : List Value := G.flatMap fun g => [.int .i64 g.ind, .bool g.flat, .bool g.whole]
theorem rowG_app (a b : List Gr) : rowG (a ++ b) = rowG a ++ rowG b := by simp [rowG]
theorem rowG_len (G : List Gr) : (rowG G).length = G.length * 3 := by
  induction G with
  | nil => rfl
  | cons x r ih => show ([_, _, _] ++ rowG r).length = _; rw [List.length_append, ih]; simp only [List.length_cons, List.length_nil]; omega
theorem rowG_last (G : List Gr) (g : Gr) : (rowG (G ++ [g]))[G.length * 3]? = some (.int .i64 g.ind) ∧ (rowG (G ++ [g]))[G.length * 3 + 1]? = some (.bool g.flat) ∧ (rowG (G ++ [g]))[G.length * 3 + 2]? = some (.bool g.whole) := by
  have hl := rowG_len G
  rw [rowG_app]
  refine ⟨?_, ?_, ?_⟩
  · rw [List.getElem?_append_right (by omega), hl, Nat.sub_self]; rfl
  · rw [List.getElem?_append_right (by omega), hl, show G.length * 3 + 1 - G.length * 3 = 1 by omega]; rfl
  · rw [List.getElem?_append_right (by omega), hl, show G.length * 3 + 2 - G.length * 3 = 2 by omega]; rfl
theorem rowG_cut {w : World} {a : Option Addr} {k cap C : Nat} {O : List Gr} {o : Gr} (h : w.ownsRow C 78 3 (.slice a k cap) (O ++ [o]).length (rowG (O ++ [o]))) : w.ownsRow C 78 3 (.slice a O.length cap) O.length (rowG O) := by
  rcases h.2 with ⟨e, h0⟩ | ⟨g, cp, cur, e, hbg, hg, hnc, hcm, hcs, ht⟩
  · simp at h0
  · injection e with e1 e2 e3
    subst e1 e3
    simp only [List.length_append, List.length_singleton] at hnc ht
    refine ⟨rowG_len O, Or.inr ⟨g, _, cur, rfl, hbg, hg, by omega, hcm, hcs, ?_⟩⟩
    have := congrArg (List.take (O.length * 3)) ht
    rw [List.take_take, rowG_app, List.take_left' (rowG_len O)] at this
    rw [show O.length * 3 = min (O.length * 3) ((O.length + 1) * 3) by omega, this]

/-- All rows of integers stand. -/
def Kept3 (w w' : World) : Prop := ∀ (k : Nat) (x : Array Value), w.heap[k]? = some (Obj.cells x 3 (0, 0)) → w'.heap[k]? = some (Obj.cells x 3 (0, 0))
theorem Kept3.set {w w' : World} (h : Kept3 w w') {K : Nat} {c : Array Value} {t : TypeId} (hK : w'.heap[K]? = some (.cells c t (0, 0))) (ht : t ≠ 3) (j : Nat) (u : Value) : Kept3 w (w'.setCell ⟨K, j, none⟩ u) := fun k x a => by
  have h1 := h k x a
  exact (set_other _ _ _ _ _ (fun e => by rw [e, hK] at h1; simp only [Option.some.injEq, Obj.cells.injEq] at h1; exact ht h1.2.1)).trans h1
theorem Kept3.row {w w' w'' : World} (h : Kept3 w w') {B n s : Nat} {e : TypeId} {v : Value} {xs : List Value} (hr : w'.ownsRow B e s v n xs) (he : e ≠ 3) (hg : w'.grownBy w'' v.ownBlock) : Kept3 w w'' := fun k x a => by
  have h1 := h k x a
  exact (hg.block k (Array.getElem?_eq_some_iff.1 h1).1 (fun q => row_head hr h1 he q.symm)).trans h1
theorem Kept3.none {w w' w'' : World} (h : Kept3 w w') (hg : w'.grownBy w'' none) : Kept3 w w'' := fun k x a => (hg.block k (Array.getElem?_eq_some_iff.1 (h k x a)).1 (by simp)).trans (h k x a)
/-- The printer at block K: its builder's address and bytes, its width, the column, the groups, the innermost last. -/
structure PR (B K : Nat) (w0 w : World) (p bv gv : Value) (wd col : Int) (bs : List Nat) (G : List Gr) : Prop where
  low : B ≤ K
  sz : B ≤ w.heap.size
  head : w.heap[K]? = some (.cells #[p, bv, .int .i64 wd, .int .i64 col, gv] 59 (0, 0))
  hp : p = .pointer none ∨ p = .pointer (some ⟨K, 0, none⟩)
  brow : w.ownsRow B 5 1 bv bs.length (bc bs)
  grow : w.ownsRow B 78 3 gv G.length (rowG G)
  bel : Below B w0 w
  nil : bs = [] → bv = .slice none 0 0
  k3 : Kept3 w0 w
section
variable {B K : Nat} {w0 w w' : World} {p bv gv : Value} {wd col : Int} {bs : List Nat} {G : List Gr}
theorem PR.lt (h : PR B K w0 w p bv gv wd col bs G) : K < w.heap.size := (Array.getElem?_eq_some_iff.1 h.head).1
theorem PR.c0 (h : PR B K w0 w p bv gv wd col bs G) : w.cell? ⟨K, 0, none⟩ = some p := by simp [World.cell?, h.head]
theorem PR.c1 (h : PR B K w0 w p bv gv wd col bs G) : w.cell? ⟨K, 1, none⟩ = some bv := by simp [World.cell?, h.head]
theorem PR.c2 (h : PR B K w0 w p bv gv wd col bs G) : w.cell? ⟨K, 2, none⟩ = some (.int .i64 wd) := by simp [World.cell?, h.head]
theorem PR.c3 (h : PR B K w0 w p bv gv wd col bs G) : w.cell? ⟨K, 3, none⟩ = some (.int .i64 col) := by simp [World.cell?, h.head]
theorem PR.c4 (h : PR B K w0 w p bv gv wd col bs G) : w.cell? ⟨K, 4, none⟩ = some gv := by simp [World.cell?, h.head]
theorem PR.free (h : PR B K w0 w p bv gv wd col bs G) (j : Nat) : w.frozen? ⟨K, j, none⟩ = false := frozen_of_row w K j _ 59 h.head
theorem PR.bown (h : PR B K w0 w p bv gv wd col bs G) : bv.ownBlock ≠ some K := row_head h.brow h.head (by decide)
theorem PR.gown (h : PR B K w0 w p bv gv wd col bs G) : gv.ownBlock ≠ some K := row_head h.grow h.head (by decide)
theorem PR.shape (h : PR B K w0 w p bv gv wd col bs G) : w.shape? K = some (59, 5) := by simp [World.shape?, h.head]
theorem PR.grown (h : PR B K w0 w p bv gv wd col bs G) (hg : w.grownBy w' none) : PR B K w0 w' p bv gv wd col bs G where
  low := h.low
  sz := Nat.le_trans h.sz hg.size
  head := (hg.block K h.lt (by simp)).trans h.head
  hp := h.hp
  brow := row_grown h.brow hg (by simp)
  grow := row_grown h.grow hg (by simp)
  bel := h.bel.grown hg h.sz (by simp)
  nil := h.nil
  k3 := h.k3.none hg
theorem PR.below (h : PR B K w0 w p bv gv wd col bs G) (hb : Below w.heap.size w w') : PR B K w0 w' p bv gv wd col bs G := h.grown (grown_below hb)
theorem PR.used (h : PR B K w0 w p bv gv wd col bs G) : PR B K w0 (w.setCell ⟨K, 0, none⟩ (.pointer (some ⟨K, 0, none⟩))) (.pointer (some ⟨K, 0, none⟩)) bv gv wd col bs G where
  low := h.low
  sz := by simpa using h.sz
  head := by
    have := heap_setCell_same w K 0 _ 59 (.pointer (some ⟨K, 0, none⟩)) h.head
    simpa using this
  hp := Or.inr rfl
  brow := row_same h.brow (fun k hk => set_other _ _ _ _ _ (fun e => h.bown (by rw [hk, e])))
  grow := row_same h.grow (fun k hk => set_other _ _ _ _ _ (fun e => h.gown (by rw [hk, e])))
  bel := h.bel.setCell (p := ⟨K, 0, none⟩) h.low _
  nil := h.nil
  k3 := h.k3.set h.head (by decide) _ _
theorem PR.column (h : PR B K w0 w p bv gv wd col bs G) (c : Int) : PR B K w0 (w.setCell ⟨K, 3, none⟩ (.int .i64 c)) p bv gv wd c bs G where
  low := h.low
  sz := by simpa using h.sz
  head := by
    have := heap_setCell_same w K 3 _ 59 (.int .i64 c) h.head
    simpa using this
  hp := h.hp
  brow := row_same h.brow (fun k hk => set_other _ _ _ _ _ (fun e => h.bown (by rw [hk, e])))
  grow := row_same h.grow (fun k hk => set_other _ _ _ _ _ (fun e => h.gown (by rw [hk, e])))
  bel := h.bel.setCell (p := ⟨K, 3, none⟩) h.low _
  nil := h.nil
  k3 := h.k3.set h.head (by decide) _ _
/-- More bytes. -/
theorem PR.more (h : PR B K w0 w p bv gv wd col bs G) {w3 : World} {v' : Value} {bs' : List Nat} (hr : w3.ownsRow B 5 1 v' bs'.length (bc bs')) (hg : w.grownBy w3 bv.ownBlock) (hn : bs' = [] → v' = .slice none 0 0) : PR B K w0 (w3.setCell ⟨K, 1, none⟩ v') p v' gv wd col bs' G := by
  have hh := (hg.block K h.lt (fun e => h.bown e.symm)).trans h.head
  have hgr := row_grown h.grow hg (fun k hk => row_ne h.grow h.brow (by decide) hk)
  refine ⟨h.low, by simpa using Nat.le_trans h.sz hg.size, ?_, h.hp, row_same hr (fun k hk => set_other _ _ _ _ _ (fun e => row_head hr hh (by decide) (by rw [hk, e]))), row_same hgr (fun k hk => set_other _ _ _ _ _ (fun e => row_head hgr hh (by decide) (by rw [hk, e]))), (h.bel.grown hg h.sz (fun k e => (h.brow.lt k e).1)).setCell (p := ⟨K, 1, none⟩) h.low _, hn, (h.k3.row h.brow (by decide) hg).set hh (by decide) _ _⟩
  have := heap_setCell_same w3 K 1 _ 59 v' hh
  simpa using this
/-- Other groups. -/
theorem PR.groups (h : PR B K w0 w p bv gv wd col bs G) {w3 : World} {v' : Value} {G' : List Gr} (hr : w3.ownsRow B 78 3 v' G'.length (rowG G')) (hg : w.grownBy w3 gv.ownBlock) : PR B K w0 (w3.setCell ⟨K, 4, none⟩ v') p bv v' wd col bs G' := by
  have hh := (hg.block K h.lt (fun e => h.gown e.symm)).trans h.head
  have hgr := row_grown h.brow hg (fun k hk => row_ne h.brow h.grow (by decide) hk)
  refine ⟨h.low, by simpa using Nat.le_trans h.sz hg.size, ?_, h.hp, row_same hgr (fun k hk => set_other _ _ _ _ _ (fun e => row_head hgr hh (by decide) (by rw [hk, e]))), row_same hr (fun k hk => set_other _ _ _ _ _ (fun e => row_head hr hh (by decide) (by rw [hk, e]))), (h.bel.grown hg h.sz (fun k e => (h.grow.lt k e).1)).setCell (p := ⟨K, 4, none⟩) h.low _, h.nil, (h.k3.row h.grow (by decide) hg).set hh (by decide) _ _⟩
  have := heap_setCell_same w3 K 4 _ 59 v' hh
  simpa using this
end
theorem info57 : (Try.prog.info? 57).map (fun i => i.size) = some 2 := by kernel_rfl
theorem lies57 : liesAt Try.prog Try.prog.depth 59 (5 / Try.prog.cellsOf 59) 0 57 1 = true := by kernel_rfl

set_option maxHeartbeats 1000000 in
theorem check_used {B K : Nat} {w0 w : World} {bv gv : Value} {wd col : Int} {bs : List Nat} {G : List Gr} (h : PR B K w0 w (.pointer (some ⟨K, 0, none⟩)) bv gv wd col bs G) :
    Calls Try.prog 35 #[.pointer (some ⟨K, 0, none⟩)] w fun e w' => e = .returned (.tuple #[]) ∧ w' = w := by
  obtain ⟨j, hj, _⟩ := Option.map_eq_some_iff.1 info57
  have h0 := h.c0
  clear h
  go_enter Try.func35, Try.ntmps35
  go_wp2
  rw [Lib.run_neq_ptr_same w _ Try.underlying55 hj]
  go_wp2
  go_end0
  exact ⟨rfl, rfl⟩
set_option maxHeartbeats 1000000 in
theorem check_fresh {B K : Nat} {w0 w : World} {bv gv : Value} {wd col : Int} {bs : List Nat} {G : List Gr} (h : PR B K w0 w (.pointer none) bv gv wd col bs G) :
    Calls Try.prog 35 #[.pointer (some ⟨K, 0, none⟩)] w fun e w' => e = .returned (.tuple #[]) ∧ w' = w.setCell ⟨K, 0, none⟩ (.pointer (some ⟨K, 0, none⟩)) := by
  obtain ⟨j, hj, hjs⟩ := Option.map_eq_some_iff.1 info57
  have h0 := h.c0
  have hsh := h.shape
  have hfz := h.free 0
  clear h
  go_enter Try.func35, Try.ntmps35
  go_wp2
  rw [Lib.run_to_unsafe w ⟨K, 0, none⟩ Try.underlying55 Try.underlying81 hj (by rw [hjs]; decide) hsh (show 0 < 5 by decide)]
  simp only [Result.andThen]
  rw [Oper.upon_value]
  go_wp2
  rw [run_callFunc_extern Try.func39 (by kernel_rfl) (by kernel_rfl) (by kernel_rfl) (e := Extern.AbiNoEscape.same) (by kernel_rfl)]
  rw [Lib.run_noEscape]
  simp only [Result.andThen]
  rw [Oper.upon_value]
  go_wp2
  rw [Lib.run_from_unsafe w ⟨K, 0, none⟩ Try.underlying81 Try.underlying55 hj hsh lies57]
  simp only [Result.andThen]
  rw [Oper.upon_value]
  go_wp2
  go_end0
  exact ⟨rfl, rfl⟩
/-- All rows but of bytes stand, outside block K. -/
def KeptX (K : Nat) (w w' : World) : Prop := ∀ k x t, w.heap[k]? = some (.cells x t (0, 0)) → k ≠ K → t ≠ 5 → w'.heap[k]? = some (.cells x t (0, 0))
theorem KeptX.trans {K : Nat} {w w' w'' : World} (h : KeptX K w w') (g : KeptX K w' w'') : KeptX K w w'' := fun k x t a b c => g k x t (h k x t a b c) b c
theorem KeptX.set {K : Nat} (w : World) (j : Nat) (u : Value) : KeptX K w (w.setCell ⟨K, j, none⟩ u) := fun k x t a b c => (set_other _ _ _ _ _ b).trans a
theorem KeptX.row {K B n : Nat} {w w' : World} {v : Value} {xs : List Value} (h : w.ownsRow B 5 1 v n xs) (hg : w.grownBy w' v.ownBlock) : KeptX K w w' := fun k x t a b c => (hg.block k (Array.getElem?_eq_some_iff.1 a).1 (fun e => row_head h a (fun q => c q.symm) e.symm)).trans a
theorem KeptX.none {K : Nat} {w w' : World} (hg : w.grownBy w' none) : KeptX K w w' := fun k x t a b c => (hg.block k (Array.getElem?_eq_some_iff.1 a).1 (by simp)).trans a
theorem check_any {B K : Nat} {w0 w : World} {p bv gv : Value} {wd col : Int} {bs : List Nat} {G : List Gr} (h : PR B K w0 w p bv gv wd col bs G) :
    Calls Try.prog 35 #[.pointer (some ⟨K, 0, none⟩)] w fun e w' => e = .returned (.tuple #[]) ∧ PR B K w0 w' (.pointer (some ⟨K, 0, none⟩)) bv gv wd col bs G ∧ KeptX K w w' := by
  rcases h.hp with rfl | rfl
  · refine (check_fresh h).mono ?_
    rintro e w' ⟨rfl, rfl⟩
    exact ⟨rfl, h.used, KeptX.set _ _ _⟩
  · refine (check_used h).mono ?_
    rintro e w' ⟨rfl, rfl⟩
    exact ⟨rfl, h, fun _ _ _ a _ _ => a⟩

set_option maxHeartbeats 2000000 in
theorem writeS_any {B K : Nat} {w0 w : World} {p bv gv : Value} {wd col : Int} {bs : List Nat} {G : List Gr} (h : PR B K w0 w p bv gv wd col bs G) (l : List Nat) (hl : ∀ c ∈ l, c < 256) (hlen : bs.length + l.length ≤ 1000000) :
    Calls Try.prog 30 #[.pointer (some ⟨K, 0, none⟩), .string (str l)] w fun e w' => e = .returned (.tuple #[.int .i64 (l.length : Nat), .nilIface]) ∧ (∃ p' bv', PR B K w0 w' p' bv' gv wd col (bs ++ l) G) ∧ KeptX K w w' := by
  obtain ⟨i5, hi5, hz5, hy5, hb5⟩ := info_parts info5
  have hs := str_size l
  have hsl : Hid ((str l).size = l.length) := hs
  have cc := check_any h
  have q1 : bs.length + (str l).size ≤ maxLen := by rw [hs]; unfold maxLen; omega
  have q2 : bs.length + (str l).size ≤ 140737488355328 := by rw [hs]; omega
  have HS := hidden (strCells_str l hl)
  have HE : Hid (l = [] → str l = ByteArray.empty) := fun e => by rw [e]; rfl
  clear h hs
  generalize str l = s at *
  go_enter Try.func30, Try.ntmps30
  go_wp2_with fail
  refine cc.mono ?_
  rintro e w1 ⟨rfl, h, hk1⟩
  have c0 := h.c0
  have c1 := h.c1
  have hown := h.brow
  have hsz := h.sz
  have H := hidden h
  clear cc h
  go_wp2_with (at_builtin; refine Lib.wpList_append_own_string _ rfl _ _ 33 9 rfl B 5 i5 Try.underlying33 Try.underlying9 hi5 hz5 hy5 hb5 _ _ _ rfl hown s rfl q1 q2 hsz ?_)
  intro v' w2 hr hg hnil
  rw [HS.out, hsl.out, ← bc_app] at hr
  have hn : bs ++ l = [] → v' = .slice none 0 0 := by
    intro e
    obtain ⟨e1, e2⟩ := List.append_eq_nil_iff.1 e
    exact hnil.2 ⟨H.out.nil e1, HE.out e2⟩
  obtain ⟨va, vc, rfl⟩ := row_slice hr
  have hr2 : w2.ownsRow B 5 1 (.slice va (bs.length + l.length) vc) (bs ++ l).length (bc (bs ++ l)) := by rw [List.length_append]; exact hr
  have hb2 := (hg.block K H.out.lt (fun e => H.out.bown e.symm)).trans H.out.head
  have d1 : w2.cell? ⟨K, 1, none⟩ = some bv := by simp [World.cell?, hb2]
  have f1 : w2.frozen? ⟨K, 1, none⟩ = false := frozen_of_row w2 K 1 _ 59 hb2
  have HF := hidden (H.out.more hr2 hg hn)
  have HK := hidden ((hk1.trans (KeptX.row hown hg)).trans (KeptX.set _ 1 (.slice va (bs.length + l.length) vc)))
  clear hr hg hr2 hb2 hown c0 c1 hn hnil hk1
  go_wp2
  go_ret2
  exact ⟨by rw [hsl.out]; rfl, ⟨_, _, HF.out⟩, HK.out⟩
set_option maxHeartbeats 2000000 in
theorem writeB_any {B K : Nat} {w0 w : World} {p bv gv : Value} {wd col : Int} {bs : List Nat} {G : List Gr} (h : PR B K w0 w p bv gv wd col bs G) (c : Nat) (hlen : bs.length + 1 ≤ 1000000) :
    Calls Try.prog 38 #[.pointer (some ⟨K, 0, none⟩), .int .u8 (c : Nat)] w fun e w' => e = .returned .nilIface ∧ (∃ p' bv', PR B K w0 w' p' bv' gv wd col (bs ++ [c]) G) ∧ KeptX K w w' := by
  obtain ⟨i5, hi5, hz5, hy5, hb5⟩ := info_parts info5
  have cc := check_any h
  have q3 : bs.length + 1 ≤ maxLen := by unfold maxLen; omega
  have q4 : (bs.length + 1) * 1 ≤ 140737488355328 := by omega
  clear h
  go_enter Try.func38, Try.ntmps38
  go_wp2_with fail
  refine cc.mono ?_
  rintro e w1 ⟨rfl, h, hk1⟩
  have c0 := h.c0
  have c1 := h.c1
  have h2 := h.grown (grownBy_alloc w1 (.cells #[.int .u8 (c : Nat)] 5))
  have hown := h2.brow
  have hsz := h2.sz
  have cn := cells_new w1 5 [.int .u8 (c : Nat)]
  have H := hidden h2
  clear cc h h2
  go_wp2_with (at_builtin; refine wpList_append_own _ rfl _ _ 33 rfl B 5 i5 (.int .u8 0) 1 1 Try.underlying33 hi5 hz5 hy5 hb5 rfl (by decide) _ _ _ rfl hown ⟨w1.heap.size, 0, none⟩ 1 1 [.int .u8 (c : Nat)] rfl rfl cn (one1 _ _) q3 q4 hsz ?_)
  intro v' w2 hr hg _
  obtain ⟨va, vc, rfl⟩ := row_slice hr
  have hr2 : w2.ownsRow B 5 1 (.slice va (bs.length + 1) vc) (bs ++ [c]).length (bc (bs ++ [c])) := by rw [List.length_append, bc_app]; exact hr
  have hb2 := (hg.block K H.out.lt (fun e => H.out.bown e.symm)).trans H.out.head
  have d1 : w2.cell? ⟨K, 1, none⟩ = some bv := by simp [World.cell?, hb2]
  have f1 : w2.frozen? ⟨K, 1, none⟩ = false := frozen_of_row w2 K 1 _ 59 hb2
  have HF := hidden (H.out.more hr2 hg (fun e => by simp at e))
  have HK := hidden (((hk1.trans (KeptX.none (grownBy_alloc w1 (.cells #[.int .u8 (c : Nat)] 5)))).trans (KeptX.row hown hg)).trans (KeptX.set _ 1 (.slice va (bs.length + 1) vc)))
  clear hr hg hr2 hb2 hown c0 c1 hk1
  go_wp2
  go_ret
  exact ⟨rfl, ⟨_, _, HF.out⟩, HK.out⟩
set_option maxHeartbeats 1000000 in
theorem len_any {B K : Nat} {w0 w : World} {p bv gv : Value} {wd col : Int} {bs : List Nat} {G : List Gr} (h : PR B K w0 w p bv gv wd col bs G) :
    Calls Try.prog 24 #[.pointer (some ⟨K, 0, none⟩)] w fun e w' => e = .returned (.int .i64 (bs.length : Nat)) ∧ w' = w := by
  obtain ⟨va, vc, rfl⟩ := row_slice h.brow
  have c1 := h.c1
  clear h
  go_enter Try.func24, Try.ntmps24
  go_wp2
  go_ret
  exact ⟨rfl, rfl⟩
end Go.Proofs.PlatenLayout
