/- The laws' maker in memory: the next node, an atom. -/
import Derived.Test.YtfakfgmengcndaaKD
import Derived.Test.YtfakfgmengcndaaKN
import Derived.Deep.CutBlock
namespace Go.Proofs.PlatenTree
open Go Go.RowKit Go.Shelf
open Go.Proofs.PlatenLayout (str str_size)
set_option linter.unusedVariables false
set_option maxRecDepth 100000

/-- Bytes as cells. -/
def bc (l : List Nat) : List Value := l.map fun c => .int .u8 (c : Nat)
theorem bc_len (l : List Nat) : (bc l).length = l.length := by simp [bc]
theorem bc_app (a b : List Nat) : bc (a ++ b) = bc a ++ bc b := by simp [bc]
theorem bc_one (l : List Nat) : ∀ u ∈ bc l, u.oneCell' = true := by
  intro u hu
  obtain ⟨c, _, rfl⟩ := List.mem_map.1 hu
  rfl
theorem strCells_str (l : List Nat) (h : ∀ c ∈ l, c < 256) : Lib.strCells (str l) = bc l := by
  unfold Lib.strCells bc str
  rw [List.map_map]
  apply List.map_congr_left
  intro c hc
  have := h c hc
  simp
  omega
theorem info5 : (Try.prog.info? 5).map (fun i => (i.zero, i.size, i.bytes)) = some (some (.int .u8 0), 1, 1) := by kernel_rfl
theorem rowL_of {B : Nat} {w : World} {v : Value} {l : List Nat} (h : w.ownsRow B 5 1 v l.length (bc l)) : RowL w v l := by
  have hc := fun g => h.cells (g := g)
  rcases h.2 with ⟨rfl, h0⟩ | ⟨g, cap, cur, rfl, hb, hg, hnc, _⟩
  · exact ⟨none, 0, by rw [h0], fun q => by omega⟩
  · refine ⟨_, cap, rfl, fun _ => ⟨g, 0, rfl, hnc, fun j hj => ?_⟩⟩
    have := hc g rfl j (.int .u8 (l.getD j 0 : Nat)) (by simp [bc, List.getD_eq_getElem?_getD, List.getElem?_eq_getElem hj])
    rw [Addr.add_lit] at this
    exact this
/-- Nodes in memory. -/
def ndC (x : Nd) : List Value := [.int .u8 (x.kind : Nat), .int .u8 (x.n : Nat)]
def IsNd (w : World) (v : Value) (l : List Nd) : Prop :=
  (∀ x ∈ l, x.kind < 256 ∧ x.n < 256) ∧ ∃ a cap, v = .slice a l.length cap ∧ l.length ≤ cap ∧ (0 < l.length → ∃ b off, a = some ⟨b, off, none⟩ ∧ ∀ i x, l[i]? = some x → w.cell? ⟨b, off + i * 2, none⟩ = some (.int .u8 (x.kind : Nat)) ∧ w.cell? ⟨b, off + i * 2 + 1, none⟩ = some (.int .u8 (x.n : Nat)))
theorem IsNd.below {w w' : World} {v : Value} {l : List Nd} (h : IsNd w v l) (hb : Below w.heap.size w w') : IsNd w' v l := by
  obtain ⟨h0, a, cap, e, hc, h⟩ := h
  refine ⟨h0, a, cap, e, hc, fun hl => ?_⟩
  obtain ⟨b, off, e1, h1⟩ := h hl
  refine ⟨b, off, e1, fun i x hi => ?_⟩
  obtain ⟨c0, c1⟩ := h1 i x hi
  refine ⟨?_, ?_⟩
  · rw [hb.cell (p := ⟨b, off + i * 2, none⟩) (World.block_lt_of_cell? _ _ c0)]; exact c0
  · rw [hb.cell (p := ⟨b, off + i * 2 + 1, none⟩) (World.block_lt_of_cell? _ _ c1)]; exact c1
/-- The maker at block M: the nodes that are left, the text so far, how deep it is. -/
structure MV (w0 : World) (M : Nat) (s : Bool) (w : World) (lv ov : Value) (l : List Nd) (out : List Nat) (d : Nat) : Prop where
  head : w.heap[M]? = some (.cells #[lv, .bool s, ov, .int .i64 (d : Nat)] 58 (0, 0))
  nds : IsNd w0 lv l
  row : w.ownsRow (M + 1) 5 1 ov out.length (bc out)
  low : w0.heap.size ≤ M
  bel : Below w0.heap.size w0 w
  dle : d ≤ 100
  len : out.length ≤ 1000000
def MK (w0 : World) (M : Nat) (s : Bool) (w : World) (l : List Nd) (out : List Nat) (d : Nat) : Prop := ∃ lv ov, MV w0 M s w lv ov l out d
section
variable {w0 : World} {M : Nat} {s : Bool} {w w' : World} {lv ov : Value} {l : List Nd} {out : List Nat} {d : Nat}
theorem MV.lt (h : MV w0 M s w lv ov l out d) : M < w.heap.size := (Array.getElem?_eq_some_iff.1 h.head).1
theorem MV.c (h : MV w0 M s w lv ov l out d) : w.cell? ⟨M, 0, none⟩ = some lv ∧ w.cell? ⟨M, 1, none⟩ = some (.bool s) ∧ w.cell? ⟨M, 2, none⟩ = some ov ∧ w.cell? ⟨M, 3, none⟩ = some (.int .i64 (d : Nat)) := by
  have hb := h.head
  refine ⟨?_, ?_, ?_, ?_⟩ <;> (unfold World.cell?; rw [hb]; rfl)
theorem MV.free (h : MV w0 M s w lv ov l out d) (j : Nat) : w.frozen? ⟨M, j, none⟩ = false := frozen_of_row w M j _ 58 h.head
theorem MV.own (h : MV w0 M s w lv ov l out d) : ov.ownBlock ≠ some M := PlatenLayout.row_head h.row h.head (by decide)
theorem MV.grown (h : MV w0 M s w lv ov l out d) (hg : w.grownBy w' none) : MV w0 M s w' lv ov l out d where
  head := (hg.block M h.lt (by simp)).trans h.head
  nds := h.nds
  row := PlatenLayout.row_same h.row (fun j hj => hg.block j (h.row.lt j hj).2 (by simp))
  low := h.low
  bel := h.bel.grown hg h.bel.size (by simp)
  dle := h.dle
  len := h.len
theorem MV.alloc (h : MV w0 M s w lv ov l out d) (o : Obj) : MV w0 M s (w.alloc o) lv ov l out d := h.grown (PlatenLayout.grownBy_alloc w o)
/-- A cell of the maker changes. -/
theorem MV.set (h : MV w0 M s w lv ov l out d) {c : Nat} {u lv' : Value} {l' : List Nd} {d' : Nat} (hd : d' ≤ 100) (hl : IsNd w0 lv' l') (hc : #[lv, .bool s, ov, .int .i64 (d : Nat)].set! c u = #[lv', .bool s, ov, .int .i64 (d' : Nat)]) :
    MV w0 M s (w.setCell ⟨M, c, none⟩ u) lv' ov l' out d' where
  head := by rw [← hc]; exact heap_setCell_same w M c _ 58 u h.head
  nds := hl
  row := PlatenLayout.row_same h.row (fun k hk => heap_setCell_other _ _ _ _ (fun e => h.own (by rw [hk, e])))
  low := h.low
  bel := h.bel.setCell (p := ⟨M, c, none⟩) h.low u
  dle := hd
  len := h.len
/-- More bytes. -/
theorem MV.push (h : MV w0 M s w lv ov l out d) {v' : Value} {x : List Nat} (ho : w'.ownsRow (M + 1) 5 1 v' (out.length + x.length) (bc out ++ bc x)) (hg : w.grownBy w' ov.ownBlock) (hx : out.length + x.length ≤ 1000000) :
    MV w0 M s (w'.setCell ⟨M, 2, none⟩ v') lv v' l (out ++ x) d where
  head := by
    have hh := (hg.block M h.lt (fun e => h.own e.symm)).trans h.head
    have := heap_setCell_same w' M 2 _ 58 v' hh
    simpa using this
  nds := h.nds
  row := by
    have hh := (hg.block M h.lt (fun e => h.own e.symm)).trans h.head
    have n2 := PlatenLayout.row_head ho hh (by decide)
    rw [List.length_append, bc_app]
    exact PlatenLayout.row_same ho (fun k hk => heap_setCell_other _ _ _ _ (fun e => n2 (by rw [hk, e])))
  low := h.low
  bel := (h.bel.grown hg h.bel.size (fun j hj => Nat.le_trans h.low (by have := (h.row.lt j hj).1; omega))).setCell (p := ⟨M, 2, none⟩) h.low v'
  dle := h.dle
  len := by rw [List.length_append]; exact hx
/-- The other blocks stand but the row's and the maker's. -/
theorem MV.keep (h : MV w0 M s w lv ov l out d) {v' : Value} (hg : w.grownBy w' ov.ownBlock) {X : Nat} {cs : Array Value} (hX : w.heap[X]? = some (.cells cs 82 (0, 0))) : w'.heap[X]? = some (.cells cs 82 (0, 0)) ∧ (w'.setCell ⟨M, 2, none⟩ v').heap[X]? = some (.cells cs 82 (0, 0)) := by
  have h1 : w'.heap[X]? = some (.cells cs 82 (0, 0)) := (hg.block X (Array.getElem?_eq_some_iff.1 hX).1 (fun e => PlatenLayout.row_head h.row hX (by decide) e.symm)).trans hX
  have hM := (hg.block M h.lt (fun e => h.own e.symm)).trans h.head
  exact ⟨h1, (heap_setCell_other _ _ _ _ (fun e => PlatenLayout.ty_ne h1 hM (by decide) (by simpa using e))).trans h1⟩
/-- append to the maker's text, of bytes that lie at hand. -/
theorem app_mv {ops : Array Oper} {rest : List Oper} {o : Oper} {ac : Act} {Q : Exit → Act → World → Prop} (hgd : o.guard = none) (sl x : Operand)
    (ho : o.op = .call { callee := .builtin .append, args := #[sl, x], argTypes := #[22, 22] }) (H : MV w0 M s w lv ov l out d) (hs : ac.eval sl = ov) (ad : Addr) (m c : Nat) (y : List Nat) (hx : ac.eval x = .slice (some ad) m c) (hm : m = y.length) (hy : ∀ j u, (bc y)[j]? = some u → w.cell? (ad.add j) = some u) (hl : out.length + y.length ≤ 1000000)
    (h : ∀ v' w', Hid (w'.ownsRow (M + 1) 5 1 v' (out.length + y.length) (bc out ++ bc y)) → Hid (w.grownBy w' ov.ownBlock) → wpList Try.prog ops Q rest (ac.put o.dst v') w') : wpList Try.prog ops Q (o :: rest) ac w := by
  obtain ⟨i0, hi, hz0, hz1, hz2⟩ := info_parts info5
  subst hm
  exact wpList_append_own w hgd sl x 22 ho (M + 1) 5 i0 (.int .u8 0) 1 1 Try.underlying22 hi hz0 hz1 hz2 rfl (by decide) ov out.length (bc out) hs H.row ad y.length c (bc y) hx (by rw [bc_len, Nat.mul_one]) hy (bc_one y) (by unfold maxLen; omega) (by omega) H.lt fun v' w' h1 h2 _ => h v' w' h1 h2
/-- append of a text that the program holds. -/
theorem apps_mv {ops : Array Oper} {rest : List Oper} {o : Oper} {ac : Act} {Q : Exit → Act → World → Prop} (hgd : o.guard = none) (sl x : Operand)
    (ho : o.op = .call { callee := .builtin .append, args := #[sl, x], argTypes := #[22, 9] }) (H : MV w0 M s w lv ov l out d) (hs : ac.eval sl = ov) (S : ByteArray) (y : List Nat) (hx : ac.eval x = .string S) (hS : S = str y) (hy : ∀ c ∈ y, c < 256) (hl : out.length + y.length ≤ 1000000)
    (h : ∀ v' w', Hid (w'.ownsRow (M + 1) 5 1 v' (out.length + y.length) (bc out ++ bc y)) → Hid (w.grownBy w' ov.ownBlock) → wpList Try.prog ops Q rest (ac.put o.dst v') w') : wpList Try.prog ops Q (o :: rest) ac w := by
  obtain ⟨i0, hi, hz0, hz1, hz2⟩ := info_parts info5
  subst hS
  have hsz := str_size y
  refine Lib.wpList_append_own_string w hgd sl x 22 9 ho (M + 1) 5 i0 Try.underlying22 Try.underlying9 hi hz0 hz1 hz2 ov out.length (bc out) hs H.row (str y) hx (by unfold maxLen; omega) (by omega) H.lt fun v' w' h1 h2 _ => h v' w' ?_ h2
  rw [hsz, strCells_str y hy] at h1
  exact h1
theorem bytes_new (W : World) (y : List Nat) {cs : Array Value} (h : cs = (bc y).toArray) : ∀ j u, (bc y)[j]? = some u → (W.alloc (.cells cs 5)).cell? ((⟨W.heap.size, 0, none⟩ : Addr).add j) = some u := by
  rw [h]; exact PlatenLayout.cells_new W 5 (bc y)
end
end Go.Proofs.PlatenTree

/- The laws' maker: the next node, an atom by its number. -/
namespace Go.Proofs.PlatenTree
open Go Go.RowKit Go.Shelf
open Go.Proofs.PlatenLayout (str str_size)
set_option linter.unusedVariables false
set_option maxRecDepth 100000

theorem nd_nil (w : World) (a : Option Addr) (c : Nat) : IsNd w (.slice a 0 c) [] := ⟨fun y hy => (by cases hy), a, c, rfl, Nat.zero_le _, fun q => absurd q (Nat.lt_irrefl _)⟩
theorem nd_tail {w : World} {b off cap : Nat} {x : Nd} {r : List Nd} (h : IsNd w (.slice (some ⟨b, off, none⟩) (x :: r).length cap) (x :: r)) (hc : ¬ cap = 1) : IsNd w (.slice (some ⟨b, off + 2, none⟩) r.length (cap - 1)) r := by
  obtain ⟨h0, a, cap', e, hcap, h⟩ := h
  injection e with e1 e2 e3
  subst e1 e3
  obtain ⟨b', off', e4, h⟩ := h (by simp)
  injection e4 with e4
  injection e4 with e5 e6
  subst e5 e6
  rw [List.length_cons] at hcap
  refine ⟨fun y hy => h0 y (by simp [hy]), _, _, rfl, by omega, fun _ => ⟨b, off + 2, rfl, fun i y hy => ?_⟩⟩
  obtain ⟨c0, c1⟩ := h (i + 1) y (by simpa using hy)
  rw [show off + (i + 1) * 2 = off + 2 + i * 2 by omega] at c0 c1
  exact ⟨c0, c1⟩
section
variable {w0 : World} {M : Nat} {s : Bool} {w w' : World} {l : List Nd} {out : List Nat} {d : Nat}
set_option maxHeartbeats 2000000 in
theorem next_any (h : MK w0 M s w l out d) : Calls Try.prog 45 #[.pointer (some ⟨M, 0, none⟩)] w fun e w' => e = .returned (.agg #[.int .u8 ((hd l).kind : Nat), .int .u8 ((hd l).n : Nat)]) ∧ MK w0 M s w' l.tail out d := by
  obtain ⟨lv, ov, h⟩ := h
  obtain ⟨hb, a, cap, rfl, hcap, hnd⟩ := id h.nds
  cases l with
  | nil =>
    have hA := fun o => (h.alloc o).c
    have c0 := fun o => (hA o).1
    have H := hidden h
    have hlt := h.lt
    clear h hA hnd
    go_enter Try.func45, Try.ntmps45
    go_wp2_with fail
    refine bodyPost_ret (v := .agg #[.int .u8 0, .int .u8 0]) (by simp [results, Try.results45, go_sem]) rfl ?_
    exact ⟨rfl, _, _, H.out.alloc _⟩
  | cons x r =>
    obtain ⟨b, off, rfl, hc⟩ := hnd (by simp)
    obtain ⟨x0, x1⟩ := hc 0 x rfl
    simp only [Nat.zero_mul, Nat.add_zero] at x0 x1
    have hlen : ((x :: r).length : Int) = (r.length : Int) + 1 := by simp
    have hH := h.bel
    have c0 := fun o => (h.alloc o).c.1
    have c0b := fun o o' => ((h.alloc o).alloc o').c.1
    have f0b := fun o o' => ((h.alloc o).alloc o').free 0
    have hBel := fun o => (h.alloc o).bel
    have y0 : ∀ o, (w.alloc o).cell? ⟨b, off, none⟩ = some (.int .u8 (x.kind : Nat)) := fun o => by rw [(hBel o).cell (p := ⟨b, off, none⟩) (World.block_lt_of_cell? _ _ x0)]; exact x0
    have y1 : ∀ o, (w.alloc o).cell? ⟨b, off + 1, none⟩ = some (.int .u8 (x.n : Nat)) := fun o => by rw [(hBel o).cell (p := ⟨b, off + 1, none⟩) (World.block_lt_of_cell? _ _ x1)]; exact x1
    have hlt := h.lt
    by_cases hc1 : cap = 1
    · have hr0 : r = [] := by
        have : (x :: r).length ≤ 1 := by rw [← hc1]; exact hcap
        simp at this
        exact this
      subst hr0
      subst hc1
      have HM : Hid (∀ o o', MV w0 M s (((w.setCell ⟨M, 0, none⟩ (.slice (some ⟨b, off, none⟩) 0 0)).alloc o).alloc o') (.slice (some ⟨b, off, none⟩) 0 0) ov [] out d) := fun o o' => ((h.set (c := 0) h.dle (nd_nil _ _ _) rfl).alloc o).alloc o'
      clear h hnd hc hb hcap hlen hBel hH x0 x1
      go_enter Try.func45, Try.ntmps45
      go_wp2_with fail
      refine bodyPost_ret (v := .agg #[.int .u8 (x.kind : Nat), .int .u8 (x.n : Nat)]) (by simp [results, Try.results45, go_sem]) rfl ?_
      exact ⟨rfl, _, _, HM.out _ _⟩
    · have HM : Hid (∀ o o', MV w0 M s (((w.setCell ⟨M, 0, none⟩ (.slice (some ⟨b, off + 2, none⟩) r.length (cap - 1))).alloc o).alloc o') (.slice (some ⟨b, off + 2, none⟩) r.length (cap - 1)) ov r out d) := fun o o' => ((h.set (c := 0) h.dle (nd_tail h.nds hc1) rfl).alloc o).alloc o'
      obtain ⟨k, hk⟩ : ∃ k, r.length = k := ⟨_, rfl⟩
      have hlk : (x :: r).length = k + 1 := by rw [List.length_cons, hk]
      rw [hlk] at c0 c0b hcap
      rw [hk] at HM
      have hk63 : True := trivial
      clear h hnd hc hb hlen hBel hH x0 x1 hlk hk hk63
      go_enter Try.func45, Try.ntmps45
      go_wp2_with fail
      refine bodyPost_ret (v := .agg #[.int .u8 (x.kind : Nat), .int .u8 (x.n : Nat)]) (by simp [results, Try.results45, go_sem]) rfl ?_
      exact ⟨rfl, _, _, HM.out _ _⟩
/-- An atom by its number. -/
theorem name_eq (n : Nat) : n % 6 = 0 ∧ nameB n = [49] ∨ n % 6 = 1 ∧ nameB n = [34, 97, 32, 98, 34] ∨ n % 6 = 2 ∧ nameB n = [45, 49, 50, 46, 53, 101, 51] ∨ n % 6 = 3 ∧ nameB n = [110, 117, 108, 108] ∨ n % 6 = 4 ∧ nameB n = [34, 92, 34, 195, 169, 34] ∨ n % 6 = 5 ∧ nameB n = [116, 114, 117, 101] := by
  have h6 := Nat.mod_lt n (show 0 < 6 by decide)
  unfold nameB
  match h : n % 6, h6 with
  | 0, _ => simp
  | 1, _ => simp
  | 2, _ => simp
  | 3, _ => simp
  | 4, _ => simp
  | 5, _ => simp
set_option maxHeartbeats 2000000 in
theorem name_any (n : Nat) (hn : n < 256) (h : MK w0 M s w l out d) (hl : out.length + 7 ≤ 1000000) : Calls Try.prog 46 #[.pointer (some ⟨M, 0, none⟩), .int .u8 (n : Nat)] w fun e w' => e = .returned (.tuple #[]) ∧ MK w0 M s w' l (out ++ nameB n) d := by
  obtain ⟨lv, ov, h⟩ := h
  obtain ⟨c0, c1, c2, c3⟩ := h.c
  have H := hidden h
  have hA : ∀ o, (w.alloc o).cell? ⟨M, 2, none⟩ = some ov := fun o => (h.alloc o).c.2.2.1
  clear h
  rcases name_eq n with ⟨q, e⟩ | ⟨q, e⟩ | ⟨q, e⟩ | ⟨q, e⟩ | ⟨q, e⟩ | ⟨q, e⟩
  · rw [e]
    have hq : (n : Int) % 6 = 0 := by omega
    clear q e
    go_enter Try.func46, Try.ntmps46
    go_wp2_with (at_builtin; refine app_mv rfl (.tmp 20) (.tmp 21) rfl (H.out.alloc _) rfl ⟨w.heap.size, 0, none⟩ 1 1 [49] rfl rfl (bytes_new w [49] rfl) (by simp; omega) ?_)
    intro v' w' ho hg
    obtain ⟨ua, uc, rfl⟩ := PlatenLayout.row_slice ho.out
    have H0 := H.out.alloc (.cells #[.int .u8 49] 5)
    have H2 := H0.push ho.out hg.out (by simp; omega)
    have hh := (hg.out.block M H0.lt (fun e => H0.own e.symm)).trans H0.head
    have k2 : w'.cell? ⟨M, 2, none⟩ = some ov := by unfold World.cell?; rw [hh]; rfl
    have f2 : w'.frozen? ⟨M, 2, none⟩ = false := frozen_of_row w' M 2 _ 58 hh
    have HH := hidden H2
    clear H0 H2 hh
    go_wp2_with fail
    go_end0
    exact ⟨rfl, _, _, HH.out⟩
  · rw [e]
    have hq : (n : Int) % 6 = 1 := by omega
    clear q e
    go_enter Try.func46, Try.ntmps46
    go_wp2_with (at_builtin; refine apps_mv rfl _ _ rfl H.out rfl _ [34, 97, 32, 98, 34] rfl rfl (by decide) (by simp; omega) ?_)
    intro v' w' ho hg
    obtain ⟨ua, uc, rfl⟩ := PlatenLayout.row_slice ho.out
    have H0 := H.out
    have H2 := H0.push ho.out hg.out (by simp; omega)
    have hh := (hg.out.block M H0.lt (fun e => H0.own e.symm)).trans H0.head
    have k2 : w'.cell? ⟨M, 2, none⟩ = some ov := by unfold World.cell?; rw [hh]; rfl
    have f2 : w'.frozen? ⟨M, 2, none⟩ = false := frozen_of_row w' M 2 _ 58 hh
    have HH := hidden H2
    clear H0 H2 hh
    go_wp2_with fail
    go_end0
    exact ⟨rfl, _, _, HH.out⟩
  · rw [e]
    have hq : (n : Int) % 6 = 2 := by omega
    clear q e
    go_enter Try.func46, Try.ntmps46
    go_wp2_with (at_builtin; refine apps_mv rfl _ _ rfl H.out rfl _ [45, 49, 50, 46, 53, 101, 51] rfl rfl (by decide) (by simp; omega) ?_)
    intro v' w' ho hg
    obtain ⟨ua, uc, rfl⟩ := PlatenLayout.row_slice ho.out
    have H0 := H.out
    have H2 := H0.push ho.out hg.out (by simp; omega)
    have hh := (hg.out.block M H0.lt (fun e => H0.own e.symm)).trans H0.head
    have k2 : w'.cell? ⟨M, 2, none⟩ = some ov := by unfold World.cell?; rw [hh]; rfl
    have f2 : w'.frozen? ⟨M, 2, none⟩ = false := frozen_of_row w' M 2 _ 58 hh
    have HH := hidden H2
    clear H0 H2 hh
    go_wp2_with fail
    go_end0
    exact ⟨rfl, _, _, HH.out⟩
  · rw [e]
    have hq : (n : Int) % 6 = 3 := by omega
    clear q e
    go_enter Try.func46, Try.ntmps46
    go_wp2_with (at_builtin; refine apps_mv rfl _ _ rfl H.out rfl _ [110, 117, 108, 108] rfl rfl (by decide) (by simp; omega) ?_)
    intro v' w' ho hg
    obtain ⟨ua, uc, rfl⟩ := PlatenLayout.row_slice ho.out
    have H0 := H.out
    have H2 := H0.push ho.out hg.out (by simp; omega)
    have hh := (hg.out.block M H0.lt (fun e => H0.own e.symm)).trans H0.head
    have k2 : w'.cell? ⟨M, 2, none⟩ = some ov := by unfold World.cell?; rw [hh]; rfl
    have f2 : w'.frozen? ⟨M, 2, none⟩ = false := frozen_of_row w' M 2 _ 58 hh
    have HH := hidden H2
    clear H0 H2 hh
    go_wp2_with fail
    go_end0
    exact ⟨rfl, _, _, HH.out⟩
  · rw [e]
    have hq : (n : Int) % 6 = 4 := by omega
    clear q e
    go_enter Try.func46, Try.ntmps46
    go_wp2_with (at_builtin; refine apps_mv rfl _ _ rfl H.out rfl _ [34, 92, 34, 195, 169, 34] rfl rfl (by decide) (by simp; omega) ?_)
    intro v' w' ho hg
    obtain ⟨ua, uc, rfl⟩ := PlatenLayout.row_slice ho.out
    have H0 := H.out
    have H2 := H0.push ho.out hg.out (by simp; omega)
    have hh := (hg.out.block M H0.lt (fun e => H0.own e.symm)).trans H0.head
    have k2 : w'.cell? ⟨M, 2, none⟩ = some ov := by unfold World.cell?; rw [hh]; rfl
    have f2 : w'.frozen? ⟨M, 2, none⟩ = false := frozen_of_row w' M 2 _ 58 hh
    have HH := hidden H2
    clear H0 H2 hh
    go_wp2_with fail
    go_end0
    exact ⟨rfl, _, _, HH.out⟩
  · rw [e]
    have hq : (n : Int) % 6 = 5 := by omega
    clear q e
    go_enter Try.func46, Try.ntmps46
    go_wp2_with (at_builtin; refine apps_mv rfl _ _ rfl H.out rfl _ [116, 114, 117, 101] rfl rfl (by decide) (by simp; omega) ?_)
    intro v' w' ho hg
    obtain ⟨ua, uc, rfl⟩ := PlatenLayout.row_slice ho.out
    have H0 := H.out
    have H2 := H0.push ho.out hg.out (by simp; omega)
    have hh := (hg.out.block M H0.lt (fun e => H0.own e.symm)).trans H0.head
    have k2 : w'.cell? ⟨M, 2, none⟩ = some ov := by unfold World.cell?; rw [hh]; rfl
    have f2 : w'.frozen? ⟨M, 2, none⟩ = false := frozen_of_row w' M 2 _ 58 hh
    have HH := hidden H2
    clear H0 H2 hh
    go_wp2_with fail
    go_end0
    exact ⟨rfl, _, _, HH.out⟩
end
end Go.Proofs.PlatenTree

/- The laws' maker: parts between two signs. -/
namespace Go.Proofs.PlatenTree
open Go Go.RowKit Go.Shelf
open Go.Proofs.PlatenLayout (str str_size)
set_option linter.unusedVariables false
set_option maxRecDepth 100000

theorem bytes_set (W : World) (a : Addr) (v : Value) (y : List Nat) {cs : Array Value} (h : cs = (bc y).toArray) : ∀ j u, (bc y)[j]? = some u → ((W.setCell a v).alloc (.cells cs 5)).cell? ((⟨W.heap.size, 0, none⟩ : Addr).add j) = some u := by
  have := bytes_new (W.setCell a v) y h
  rw [show (W.setCell a v).heap.size = W.heap.size by simp] at this
  exact this
theorem MV.after {w0 : World} {M : Nat} {s : Bool} {w w' : World} {lv ov : Value} {l : List Nd} {out : List Nat} {d : Nat} (h : MV w0 M s w lv ov l out d) (hg : w.grownBy w' ov.ownBlock) : w'.cell? ⟨M, 0, none⟩ = some lv ∧ w'.cell? ⟨M, 1, none⟩ = some (.bool s) ∧ w'.cell? ⟨M, 2, none⟩ = some ov ∧ w'.cell? ⟨M, 3, none⟩ = some (.int .i64 (d : Nat)) ∧ w'.frozen? ⟨M, 2, none⟩ = false ∧ w'.frozen? ⟨M, 3, none⟩ = false := by
  have hh := (hg.block M h.lt (fun e => h.own e.symm)).trans h.head
  refine ⟨?_, ?_, ?_, ?_, frozen_of_row w' M 2 _ 58 hh, frozen_of_row w' M 3 _ 58 hh⟩ <;> (unfold World.cell?; rw [hh]; rfl)
/-- One call, at depth 9 - f. -/
def El (w0 : World) (M : Nat) (s : Bool) (f : Nat) : Prop := ∀ (w : World) (l : List Nd) (out : List Nat), MK w0 M s w l out (9 - f) → out.length + 27 * l.length + 40 * (f + 1) ≤ 900000 →
  Calls Try.prog 30 #[.pointer (some ⟨M, 0, none⟩)] w fun e w' => e = .returned (.tuple #[]) ∧ MK w0 M s w' (mk s f l).2 (out ++ (mk s f l).1) (9 - f)
theorem parts_succ (s named : Bool) (f m : Nat) (first : Bool) (l : List Nd) : (parts s named (mk s f) (m + 1) first l).1 = ((if first then [] else if s then [32] else [44]) ++ (if named then [34, 107, 34, 32, 58] else [])) ++ ((mk s f l).1 ++ (parts s named (mk s f) m false (mk s f l).2).1) := by
  show (if first then [] else if s then [32] else [44]) ++ ((if named then [34, 107, 34, 32, 58] else []) ++ ((mk s f l).1 ++ (parts s named (mk s f) m false (mk s f l).2).1)) = _
  rw [List.append_assoc]

set_option maxHeartbeats 4000000 in
theorem list_tf {w0 w : World} {M f n op en : Nat} {l : List Nd} {out : List Nat} (hE : El w0 M true f) (hf : f < 9) (hn : n ≤ 3) (hop : op < 256) (hen : en < 256) (h : MK w0 M true w l out (9 - (f + 1))) (hb : out.length + 27 * l.length + 40 * (f + 1) + 30 ≤ 900000) :
    Calls Try.prog 47 #[.pointer (some ⟨M, 0, none⟩), .int .u8 (op : Nat), .int .u8 (en : Nat), .int .i64 (n : Nat), .bool false] w fun e w' => e = .returned (.tuple #[]) ∧ MK w0 M true w' (parts true false (mk true f) n true l).2 (out ++ (op :: ((parts true false (mk true f) n true l).1 ++ [en]))) (9 - (f + 1)) := by
  obtain ⟨lv, ov, h⟩ := h
  obtain ⟨d, hd⟩ : ∃ d, 9 - (f + 1) = d := ⟨_, rfl⟩
  have hd1 : 9 - f = d + 1 := by omega
  have hd8 : d ≤ 8 := by omega
  rw [hd] at h ⊢
  unfold El at hE
  rw [hd1] at hE
  have HE := hidden hE
  clear hE hd hd1
  obtain ⟨c0, c1, c2, c3⟩ := h.c
  have f3 := h.free 3
  have H1 : Hid (MV w0 M true (w.setCell ⟨M, 3, none⟩ (.int .i64 ((d : Nat) + 1 : Int))) lv ov l out (d + 1)) := by
    have := h.set (c := 3) (u := .int .i64 ((d + 1 : Nat) : Int)) (lv' := lv) (l' := l) (d' := d + 1) (by omega) h.nds rfl
    rw [show ((d + 1 : Nat) : Int) = (d : Int) + 1 by omega] at this
    exact this
  obtain ⟨TOT, hT⟩ : ∃ x, out ++ (op :: (parts true false (mk true f) n true l).1) = x := ⟨_, rfl⟩
  obtain ⟨LF, hL⟩ : ∃ x, (parts true false (mk true f) n true l).2 = x := ⟨_, rfl⟩
  have hfin : out ++ (op :: ((parts true false (mk true f) n true l).1 ++ [en])) = TOT ++ [en] := by rw [← hT]; simp
  rw [hfin, hL]
  have HT := hidden hT
  have HL := hidden hL
  have hTl : TOT.length + 1 ≤ 1000000 := by
    have := parts_len true false f (mk_len true f) n true l
    rw [← hT, List.length_append, List.length_cons]
    omega
  clear h hT hL hfin
  go_enter Try.func47, Try.ntmps47
  go_wp2_with (at_builtin; refine app_mv rfl (.tmp 22) (.tmp 24) rfl (H1.out.alloc _) rfl ⟨w.heap.size, 0, none⟩ 1 1 [op] rfl rfl (bytes_set w _ _ [op] rfl) (by simp; omega) ?_)
  intro v2 w2 ho hg
  obtain ⟨ua, uc, rfl⟩ := PlatenLayout.row_slice ho.out
  have H2 := hidden ((H1.out.alloc (.cells #[.int .u8 (op : Nat)] 5)).push ho.out hg.out (by simp; omega))
  obtain ⟨k0, k1, k2, k3, e2, e3⟩ := (H1.out.alloc (.cells #[.int .u8 (op : Nat)] 5)).after hg.out
  clear ho hg
  go_wp2_with fail
  go_loopw [10] (fun i wr => ∃ (q : Nat) (lq : List Nd) (oq : List Nat), q ≤ n ∧ i = .int .i64 (q : Nat) ∧ MK w0 M true wr lq oq (d + 1) ∧ oq ++ (parts true false (mk true f) (n - q) (q == 0) lq).1 = TOT ∧ (parts true false (mk true f) (n - q) (q == 0) lq).2 = LF ∧ oq.length + 27 * lq.length + 7 * (n - q) + 40 * (f + 1) ≤ 900000) (fun i _ => n - (intOf i).toNat)
  case atStart =>
    refine ⟨0, l, out ++ [op], Nat.zero_le _, rfl, ⟨_, _, H2.out⟩, ?_, ?_, ?_⟩
    · rw [← HT.out]; simp
    · exact HL.out
    · rw [List.length_append, List.length_singleton]; omega
  case round =>
    obtain ⟨q, lq, oq, hq, rfl, ⟨lvq, ovq, hm⟩, e1, e2, hbq⟩ := hrel
    have hoq : oq.length ≤ TOT.length := by rw [← e1, List.length_append]; omega
    by_cases hlt : q < n
    · have hlz : (q : Int) < (n : Int) := by omega
      obtain ⟨m, hnm⟩ : ∃ m, n - q = m + 1 := ⟨n - q - 1, by omega⟩
      have hnm1 : n - (q + 1) = m := by omega
      rw [hnm, parts_succ] at e1
      have e2' : (parts true false (mk true f) m false (mk true f lq).2).2 = LF := by rw [← e2, hnm]; rfl
      have hml := mk_len true f lq
      have EC := fun (W : World) (o : List Nat) (hM : MK w0 M true W lq o (d + 1)) (hlo : o.length + 27 * lq.length + 40 * (f + 1) ≤ 900000) => HE.out W lq o hM hlo
      have Hm := hidden hm
      have E1 := hidden e1
      have E2 := hidden e2'
      obtain ⟨b0, b1, b2, b3⟩ := hm.c
      have g2 := hm.free 2
      clear e1 e2 e2' hm k0 k1 k2 k3 c0 c1 c2 c3 f3 H2 H1 HL HT HE
      obtain ⟨z, hz⟩ : ∃ z, (mk true f lq).1 = z := ⟨_, rfl⟩
      obtain ⟨lz, hlzz⟩ : ∃ z, (mk true f lq).2 = z := ⟨_, rfl⟩
      rw [hz] at EC hml
      rw [hlzz] at EC hml
      rw [hz, hlzz] at E1
      rw [hlzz] at E2
      clear hz hlzz
      by_cases hq0 : q = 0
      · have hq00 : ¬ (0 : Int) < (q : Int) := by omega
        have hqb : (q == 0) = true := by simp [hq0]
        rw [hqb] at E1
        clear hqb hq0
        go_wp2_with fail
        refine (EC _ _ ⟨_, _, Hm.out⟩ (by omega)).mono ?_
        rintro e w9 ⟨rfl, hm9⟩
        have H9 := hidden hm9
        clear hm9 EC
        go_wp2_with fail
        go_roundw
        case rel =>
          refine ⟨q + 1, lz, _, by omega, by go_num, H9.out, ?_, ?_, ?_⟩
          · rw [hnm1, ← E1.out]
            simp
          · rw [hnm1]; exact E2.out
          · simp
            omega
        case measure => simp [intOf]; omega
      · have hq00 : (0 : Int) < (q : Int) := by omega
        have hqb : (q == 0) = false := by simp [hq0]
        rw [hqb] at E1
        clear hqb hq0
        go_wp2_with (at_builtin; refine app_mv rfl (.tmp 63) (.tmp 64) rfl (Hm.out.alloc _) rfl ⟨wr.heap.size, 0, none⟩ 1 1 [32] rfl rfl (bytes_new wr [32] rfl) (by simp; omega) ?_)
        intro v3 w3 ho hg
        obtain ⟨ua, uc, rfl⟩ := PlatenLayout.row_slice ho.out
        have H3 := hidden ((Hm.out.alloc (.cells #[.int .u8 32] 5)).push ho.out hg.out (by simp; omega))
        obtain ⟨k0, k1, k2, k3, q2, q3⟩ := (Hm.out.alloc (.cells #[.int .u8 32] 5)).after hg.out
        clear ho hg
        go_wp2_with fail
        refine (EC _ _ ⟨_, _, H3.out⟩ (by simp; omega)).mono ?_
        rintro e w9 ⟨rfl, hm9⟩
        have H9 := hidden hm9
        clear hm9 EC
        go_wp2_with fail
        go_roundw
        case rel =>
          refine ⟨q + 1, lz, _, by omega, by go_num, H9.out, ?_, ?_, ?_⟩
          · rw [hnm1, ← E1.out]
            simp
          · rw [hnm1]; exact E2.out
          · simp
            omega
        case measure => simp [intOf]; omega
    · have hqn : q = n := by omega
      have hlz : ¬ ((q : Int) < (n : Int)) := by omega
      rw [hqn, Nat.sub_self] at e1 e2
      have e1 : oq = TOT := by rw [← e1]; exact (List.append_nil oq).symm
      have e2 : lq = LF := e2
      subst e1 e2
      obtain ⟨b0, b1, b2, b3⟩ := hm.c
      have Hm := hidden hm
      clear hm k0 k1 k2 k3 c0 c1 c2 c3 f3 H2 H1 HT hqn
      go_wp2_with (at_builtin; refine app_mv rfl (.tmp 83) (.tmp 85) rfl (Hm.out.alloc _) rfl ⟨wr.heap.size, 0, none⟩ 1 1 [en] rfl rfl (bytes_new wr [en] rfl) (by simp; omega) ?_)
      intro v5 w5 ho hg
      obtain ⟨ua, uc, rfl⟩ := PlatenLayout.row_slice ho.out
      have H5 := hidden ((Hm.out.alloc (.cells #[.int .u8 (en : Nat)] 5)).push ho.out hg.out (by simp; omega))
      obtain ⟨k0, k1, k2, k3, q2, q3⟩ := (Hm.out.alloc (.cells #[.int .u8 (en : Nat)] 5)).after hg.out
      have H6 : Hid (MV w0 M true ((w5.setCell ⟨M, 2, none⟩ (.slice ua (oq.length + [en].length) uc)).setCell ⟨M, 3, none⟩ (.int .i64 (d : Nat))) lvq (.slice ua (oq.length + [en].length) uc) lq (oq ++ [en]) d) := H5.out.set (c := 3) (by omega) H5.out.nds rfl
      clear ho hg H5
      go_wp2_with fail
      go_end0
      exact ⟨rfl, _, _, H6.out⟩

set_option maxHeartbeats 4000000 in
theorem list_ff {w0 w : World} {M f n op en : Nat} {l : List Nd} {out : List Nat} (hE : El w0 M false f) (hf : f < 9) (hn : n ≤ 3) (hop : op < 256) (hen : en < 256) (h : MK w0 M false w l out (9 - (f + 1))) (hb : out.length + 27 * l.length + 40 * (f + 1) + 30 ≤ 900000) :
    Calls Try.prog 47 #[.pointer (some ⟨M, 0, none⟩), .int .u8 (op : Nat), .int .u8 (en : Nat), .int .i64 (n : Nat), .bool false] w fun e w' => e = .returned (.tuple #[]) ∧ MK w0 M false w' (parts false false (mk false f) n true l).2 (out ++ (op :: ((parts false false (mk false f) n true l).1 ++ [en]))) (9 - (f + 1)) := by
  obtain ⟨lv, ov, h⟩ := h
  obtain ⟨d, hd⟩ : ∃ d, 9 - (f + 1) = d := ⟨_, rfl⟩
  have hd1 : 9 - f = d + 1 := by omega
  have hd8 : d ≤ 8 := by omega
  rw [hd] at h ⊢
  unfold El at hE
  rw [hd1] at hE
  have HE := hidden hE
  clear hE hd hd1
  obtain ⟨c0, c1, c2, c3⟩ := h.c
  have f3 := h.free 3
  have H1 : Hid (MV w0 M false (w.setCell ⟨M, 3, none⟩ (.int .i64 ((d : Nat) + 1 : Int))) lv ov l out (d + 1)) := by
    have := h.set (c := 3) (u := .int .i64 ((d + 1 : Nat) : Int)) (lv' := lv) (l' := l) (d' := d + 1) (by omega) h.nds rfl
    rw [show ((d + 1 : Nat) : Int) = (d : Int) + 1 by omega] at this
    exact this
  obtain ⟨TOT, hT⟩ : ∃ x, out ++ (op :: (parts false false (mk false f) n true l).1) = x := ⟨_, rfl⟩
  obtain ⟨LF, hL⟩ : ∃ x, (parts false false (mk false f) n true l).2 = x := ⟨_, rfl⟩
  have hfin : out ++ (op :: ((parts false false (mk false f) n true l).1 ++ [en])) = TOT ++ [en] := by rw [← hT]; simp
  rw [hfin, hL]
  have HT := hidden hT
  have HL := hidden hL
  have hTl : TOT.length + 1 ≤ 1000000 := by
    have := parts_len false false f (mk_len false f) n true l
    rw [← hT, List.length_append, List.length_cons]
    omega
  clear h hT hL hfin
  go_enter Try.func47, Try.ntmps47
  go_wp2_with (at_builtin; refine app_mv rfl (.tmp 22) (.tmp 24) rfl (H1.out.alloc _) rfl ⟨w.heap.size, 0, none⟩ 1 1 [op] rfl rfl (bytes_set w _ _ [op] rfl) (by simp; omega) ?_)
  intro v2 w2 ho hg
  obtain ⟨ua, uc, rfl⟩ := PlatenLayout.row_slice ho.out
  have H2 := hidden ((H1.out.alloc (.cells #[.int .u8 (op : Nat)] 5)).push ho.out hg.out (by simp; omega))
  obtain ⟨k0, k1, k2, k3, e2, e3⟩ := (H1.out.alloc (.cells #[.int .u8 (op : Nat)] 5)).after hg.out
  clear ho hg
  go_wp2_with fail
  go_loopw [10] (fun i wr => ∃ (q : Nat) (lq : List Nd) (oq : List Nat), q ≤ n ∧ i = .int .i64 (q : Nat) ∧ MK w0 M false wr lq oq (d + 1) ∧ oq ++ (parts false false (mk false f) (n - q) (q == 0) lq).1 = TOT ∧ (parts false false (mk false f) (n - q) (q == 0) lq).2 = LF ∧ oq.length + 27 * lq.length + 7 * (n - q) + 40 * (f + 1) ≤ 900000) (fun i _ => n - (intOf i).toNat)
  case atStart =>
    refine ⟨0, l, out ++ [op], Nat.zero_le _, rfl, ⟨_, _, H2.out⟩, ?_, ?_, ?_⟩
    · rw [← HT.out]; simp
    · exact HL.out
    · rw [List.length_append, List.length_singleton]; omega
  case round =>
    obtain ⟨q, lq, oq, hq, rfl, ⟨lvq, ovq, hm⟩, e1, e2, hbq⟩ := hrel
    have hoq : oq.length ≤ TOT.length := by rw [← e1, List.length_append]; omega
    by_cases hlt : q < n
    · have hlz : (q : Int) < (n : Int) := by omega
      obtain ⟨m, hnm⟩ : ∃ m, n - q = m + 1 := ⟨n - q - 1, by omega⟩
      have hnm1 : n - (q + 1) = m := by omega
      rw [hnm, parts_succ] at e1
      have e2' : (parts false false (mk false f) m false (mk false f lq).2).2 = LF := by rw [← e2, hnm]; rfl
      have hml := mk_len false f lq
      have EC := fun (W : World) (o : List Nat) (hM : MK w0 M false W lq o (d + 1)) (hlo : o.length + 27 * lq.length + 40 * (f + 1) ≤ 900000) => HE.out W lq o hM hlo
      have Hm := hidden hm
      have E1 := hidden e1
      have E2 := hidden e2'
      obtain ⟨b0, b1, b2, b3⟩ := hm.c
      have g2 := hm.free 2
      clear e1 e2 e2' hm k0 k1 k2 k3 c0 c1 c2 c3 f3 H2 H1 HL HT HE
      obtain ⟨z, hz⟩ : ∃ z, (mk false f lq).1 = z := ⟨_, rfl⟩
      obtain ⟨lz, hlzz⟩ : ∃ z, (mk false f lq).2 = z := ⟨_, rfl⟩
      rw [hz] at EC hml
      rw [hlzz] at EC hml
      rw [hz, hlzz] at E1
      rw [hlzz] at E2
      clear hz hlzz
      by_cases hq0 : q = 0
      · have hq00 : ¬ (0 : Int) < (q : Int) := by omega
        have hqb : (q == 0) = true := by simp [hq0]
        rw [hqb] at E1
        clear hqb hq0
        go_wp2_with fail
        refine (EC _ _ ⟨_, _, Hm.out⟩ (by omega)).mono ?_
        rintro e w9 ⟨rfl, hm9⟩
        have H9 := hidden hm9
        clear hm9 EC
        go_wp2_with fail
        go_roundw
        case rel =>
          refine ⟨q + 1, lz, _, by omega, by go_num, H9.out, ?_, ?_, ?_⟩
          · rw [hnm1, ← E1.out]
            simp
          · rw [hnm1]; exact E2.out
          · simp
            omega
        case measure => simp [intOf]; omega
      · have hq00 : (0 : Int) < (q : Int) := by omega
        have hqb : (q == 0) = false := by simp [hq0]
        rw [hqb] at E1
        clear hqb hq0
        go_wp2_with (at_builtin; refine app_mv rfl (.tmp 46) (.tmp 47) rfl (Hm.out.alloc _) rfl ⟨wr.heap.size, 0, none⟩ 1 1 [44] rfl rfl (bytes_new wr [44] rfl) (by simp; omega) ?_)
        intro v3 w3 ho hg
        obtain ⟨ua, uc, rfl⟩ := PlatenLayout.row_slice ho.out
        have H3 := hidden ((Hm.out.alloc (.cells #[.int .u8 44] 5)).push ho.out hg.out (by simp; omega))
        obtain ⟨k0, k1, k2, k3, q2, q3⟩ := (Hm.out.alloc (.cells #[.int .u8 44] 5)).after hg.out
        clear ho hg
        go_wp2_with fail
        refine (EC _ _ ⟨_, _, H3.out⟩ (by simp; omega)).mono ?_
        rintro e w9 ⟨rfl, hm9⟩
        have H9 := hidden hm9
        clear hm9 EC
        go_wp2_with fail
        go_roundw
        case rel =>
          refine ⟨q + 1, lz, _, by omega, by go_num, H9.out, ?_, ?_, ?_⟩
          · rw [hnm1, ← E1.out]
            simp
          · rw [hnm1]; exact E2.out
          · simp
            omega
        case measure => simp [intOf]; omega
    · have hqn : q = n := by omega
      have hlz : ¬ ((q : Int) < (n : Int)) := by omega
      rw [hqn, Nat.sub_self] at e1 e2
      have e1 : oq = TOT := by rw [← e1]; exact (List.append_nil oq).symm
      have e2 : lq = LF := e2
      subst e1 e2
      obtain ⟨b0, b1, b2, b3⟩ := hm.c
      have Hm := hidden hm
      clear hm k0 k1 k2 k3 c0 c1 c2 c3 f3 H2 H1 HT hqn
      go_wp2_with (at_builtin; refine app_mv rfl (.tmp 83) (.tmp 85) rfl (Hm.out.alloc _) rfl ⟨wr.heap.size, 0, none⟩ 1 1 [en] rfl rfl (bytes_new wr [en] rfl) (by simp; omega) ?_)
      intro v5 w5 ho hg
      obtain ⟨ua, uc, rfl⟩ := PlatenLayout.row_slice ho.out
      have H5 := hidden ((Hm.out.alloc (.cells #[.int .u8 (en : Nat)] 5)).push ho.out hg.out (by simp; omega))
      obtain ⟨k0, k1, k2, k3, q2, q3⟩ := (Hm.out.alloc (.cells #[.int .u8 (en : Nat)] 5)).after hg.out
      have H6 : Hid (MV w0 M false ((w5.setCell ⟨M, 2, none⟩ (.slice ua (oq.length + [en].length) uc)).setCell ⟨M, 3, none⟩ (.int .i64 (d : Nat))) lvq (.slice ua (oq.length + [en].length) uc) lq (oq ++ [en]) d) := H5.out.set (c := 3) (by omega) H5.out.nds rfl
      clear ho hg H5
      go_wp2_with fail
      go_end0
      exact ⟨rfl, _, _, H6.out⟩

set_option maxHeartbeats 4000000 in
theorem list_ft {w0 w : World} {M f n op en : Nat} {l : List Nd} {out : List Nat} (hE : El w0 M false f) (hf : f < 9) (hn : n ≤ 3) (hop : op < 256) (hen : en < 256) (h : MK w0 M false w l out (9 - (f + 1))) (hb : out.length + 27 * l.length + 40 * (f + 1) + 30 ≤ 900000) :
    Calls Try.prog 47 #[.pointer (some ⟨M, 0, none⟩), .int .u8 (op : Nat), .int .u8 (en : Nat), .int .i64 (n : Nat), .bool true] w fun e w' => e = .returned (.tuple #[]) ∧ MK w0 M false w' (parts false true (mk false f) n true l).2 (out ++ (op :: ((parts false true (mk false f) n true l).1 ++ [en]))) (9 - (f + 1)) := by
  obtain ⟨lv, ov, h⟩ := h
  obtain ⟨d, hd⟩ : ∃ d, 9 - (f + 1) = d := ⟨_, rfl⟩
  have hd1 : 9 - f = d + 1 := by omega
  have hd8 : d ≤ 8 := by omega
  rw [hd] at h ⊢
  unfold El at hE
  rw [hd1] at hE
  have HE := hidden hE
  clear hE hd hd1
  obtain ⟨c0, c1, c2, c3⟩ := h.c
  have f3 := h.free 3
  have H1 : Hid (MV w0 M false (w.setCell ⟨M, 3, none⟩ (.int .i64 ((d : Nat) + 1 : Int))) lv ov l out (d + 1)) := by
    have := h.set (c := 3) (u := .int .i64 ((d + 1 : Nat) : Int)) (lv' := lv) (l' := l) (d' := d + 1) (by omega) h.nds rfl
    rw [show ((d + 1 : Nat) : Int) = (d : Int) + 1 by omega] at this
    exact this
  obtain ⟨TOT, hT⟩ : ∃ x, out ++ (op :: (parts false true (mk false f) n true l).1) = x := ⟨_, rfl⟩
  obtain ⟨LF, hL⟩ : ∃ x, (parts false true (mk false f) n true l).2 = x := ⟨_, rfl⟩
  have hfin : out ++ (op :: ((parts false true (mk false f) n true l).1 ++ [en])) = TOT ++ [en] := by rw [← hT]; simp
  rw [hfin, hL]
  have HT := hidden hT
  have HL := hidden hL
  have hTl : TOT.length + 1 ≤ 1000000 := by
    have := parts_len false true f (mk_len false f) n true l
    rw [← hT, List.length_append, List.length_cons]
    omega
  clear h hT hL hfin
  go_enter Try.func47, Try.ntmps47
  go_wp2_with (at_builtin; refine app_mv rfl (.tmp 22) (.tmp 24) rfl (H1.out.alloc _) rfl ⟨w.heap.size, 0, none⟩ 1 1 [op] rfl rfl (bytes_set w _ _ [op] rfl) (by simp; omega) ?_)
  intro v2 w2 ho hg
  obtain ⟨ua, uc, rfl⟩ := PlatenLayout.row_slice ho.out
  have H2 := hidden ((H1.out.alloc (.cells #[.int .u8 (op : Nat)] 5)).push ho.out hg.out (by simp; omega))
  obtain ⟨k0, k1, k2, k3, e2, e3⟩ := (H1.out.alloc (.cells #[.int .u8 (op : Nat)] 5)).after hg.out
  clear ho hg
  go_wp2_with fail
  go_loopw [10] (fun i wr => ∃ (q : Nat) (lq : List Nd) (oq : List Nat), q ≤ n ∧ i = .int .i64 (q : Nat) ∧ MK w0 M false wr lq oq (d + 1) ∧ oq ++ (parts false true (mk false f) (n - q) (q == 0) lq).1 = TOT ∧ (parts false true (mk false f) (n - q) (q == 0) lq).2 = LF ∧ oq.length + 27 * lq.length + 7 * (n - q) + 40 * (f + 1) ≤ 900000) (fun i _ => n - (intOf i).toNat)
  case atStart =>
    refine ⟨0, l, out ++ [op], Nat.zero_le _, rfl, ⟨_, _, H2.out⟩, ?_, ?_, ?_⟩
    · rw [← HT.out]; simp
    · exact HL.out
    · rw [List.length_append, List.length_singleton]; omega
  case round =>
    obtain ⟨q, lq, oq, hq, rfl, ⟨lvq, ovq, hm⟩, e1, e2, hbq⟩ := hrel
    have hoq : oq.length ≤ TOT.length := by rw [← e1, List.length_append]; omega
    by_cases hlt : q < n
    · have hlz : (q : Int) < (n : Int) := by omega
      obtain ⟨m, hnm⟩ : ∃ m, n - q = m + 1 := ⟨n - q - 1, by omega⟩
      have hnm1 : n - (q + 1) = m := by omega
      rw [hnm, parts_succ] at e1
      have e2' : (parts false true (mk false f) m false (mk false f lq).2).2 = LF := by rw [← e2, hnm]; rfl
      have hml := mk_len false f lq
      have EC := fun (W : World) (o : List Nat) (hM : MK w0 M false W lq o (d + 1)) (hlo : o.length + 27 * lq.length + 40 * (f + 1) ≤ 900000) => HE.out W lq o hM hlo
      have Hm := hidden hm
      have E1 := hidden e1
      have E2 := hidden e2'
      obtain ⟨b0, b1, b2, b3⟩ := hm.c
      have g2 := hm.free 2
      clear e1 e2 e2' hm k0 k1 k2 k3 c0 c1 c2 c3 f3 H2 H1 HL HT HE
      obtain ⟨z, hz⟩ : ∃ z, (mk false f lq).1 = z := ⟨_, rfl⟩
      obtain ⟨lz, hlzz⟩ : ∃ z, (mk false f lq).2 = z := ⟨_, rfl⟩
      rw [hz] at EC hml
      rw [hlzz] at EC hml
      rw [hz, hlzz] at E1
      rw [hlzz] at E2
      clear hz hlzz
      by_cases hq0 : q = 0
      · have hq00 : ¬ (0 : Int) < (q : Int) := by omega
        have hqb : (q == 0) = true := by simp [hq0]
        rw [hqb] at E1
        clear hqb hq0
        go_wp2_with (at_builtin; refine apps_mv rfl (.tmp 73) _ rfl Hm.out rfl _ [34, 107, 34, 32, 58] rfl rfl (by decide) (by simp; omega) ?_)
        intro v4 w4 ho hg
        obtain ⟨ub, ud, rfl⟩ := PlatenLayout.row_slice ho.out
        have H4 := hidden (Hm.out.push (x := [34, 107, 34, 32, 58]) ho.out hg.out (by simp; omega))
        obtain ⟨j0, j1, j2, j3, q4, q5⟩ := Hm.out.after hg.out
        clear ho hg
        go_wp2_with fail
        refine (EC _ _ ⟨_, _, H4.out⟩ (by simp; omega)).mono ?_
        rintro e w9 ⟨rfl, hm9⟩
        have H9 := hidden hm9
        clear hm9 EC
        go_wp2_with fail
        go_roundw
        case rel =>
          refine ⟨q + 1, lz, _, by omega, by go_num, H9.out, ?_, ?_, ?_⟩
          · rw [hnm1, ← E1.out]
            simp
          · rw [hnm1]; exact E2.out
          · simp
            omega
        case measure => simp [intOf]; omega
      · have hq00 : (0 : Int) < (q : Int) := by omega
        have hqb : (q == 0) = false := by simp [hq0]
        rw [hqb] at E1
        clear hqb hq0
        go_wp2_with (at_builtin; refine app_mv rfl (.tmp 46) (.tmp 47) rfl (Hm.out.alloc _) rfl ⟨wr.heap.size, 0, none⟩ 1 1 [44] rfl rfl (bytes_new wr [44] rfl) (by simp; omega) ?_)
        intro v3 w3 ho hg
        obtain ⟨ua, uc, rfl⟩ := PlatenLayout.row_slice ho.out
        have H3 := hidden ((Hm.out.alloc (.cells #[.int .u8 44] 5)).push ho.out hg.out (by simp; omega))
        obtain ⟨k0, k1, k2, k3, q2, q3⟩ := (Hm.out.alloc (.cells #[.int .u8 44] 5)).after hg.out
        clear ho hg
        go_wp2_with (at_builtin; refine apps_mv rfl (.tmp 73) _ rfl H3.out rfl _ [34, 107, 34, 32, 58] rfl rfl (by decide) (by simp; omega) ?_)
        intro v4 w4 ho hg
        obtain ⟨ub, ud, rfl⟩ := PlatenLayout.row_slice ho.out
        have H4 := hidden (H3.out.push (x := [34, 107, 34, 32, 58]) (show w4.ownsRow (M + 1) 5 1 (.slice ub (oq.length + 1 + 5) ud) ((oq ++ [44]).length + 5) (bc (oq ++ [44]) ++ bc [34, 107, 34, 32, 58]) from by rw [List.length_append]; exact ho.out) hg.out (by simp; omega))
        obtain ⟨j0, j1, j2, j3, q4, q5⟩ := H3.out.after hg.out
        clear ho hg
        go_wp2_with fail
        refine (EC _ _ ⟨_, _, H4.out⟩ (by simp; omega)).mono ?_
        rintro e w9 ⟨rfl, hm9⟩
        have H9 := hidden hm9
        clear hm9 EC
        go_wp2_with fail
        go_roundw
        case rel =>
          refine ⟨q + 1, lz, _, by omega, by go_num, H9.out, ?_, ?_, ?_⟩
          · rw [hnm1, ← E1.out]
            simp
          · rw [hnm1]; exact E2.out
          · simp
            omega
        case measure => simp [intOf]; omega
    · have hqn : q = n := by omega
      have hlz : ¬ ((q : Int) < (n : Int)) := by omega
      rw [hqn, Nat.sub_self] at e1 e2
      have e1 : oq = TOT := by rw [← e1]; exact (List.append_nil oq).symm
      have e2 : lq = LF := e2
      subst e1 e2
      obtain ⟨b0, b1, b2, b3⟩ := hm.c
      have Hm := hidden hm
      clear hm k0 k1 k2 k3 c0 c1 c2 c3 f3 H2 H1 HT hqn
      go_wp2_with (at_builtin; refine app_mv rfl (.tmp 83) (.tmp 85) rfl (Hm.out.alloc _) rfl ⟨wr.heap.size, 0, none⟩ 1 1 [en] rfl rfl (bytes_new wr [en] rfl) (by simp; omega) ?_)
      intro v5 w5 ho hg
      obtain ⟨ua, uc, rfl⟩ := PlatenLayout.row_slice ho.out
      have H5 := hidden ((Hm.out.alloc (.cells #[.int .u8 (en : Nat)] 5)).push ho.out hg.out (by simp; omega))
      obtain ⟨k0, k1, k2, k3, q2, q3⟩ := (Hm.out.alloc (.cells #[.int .u8 (en : Nat)] 5)).after hg.out
      have H6 : Hid (MV w0 M false ((w5.setCell ⟨M, 2, none⟩ (.slice ua (oq.length + [en].length) uc)).setCell ⟨M, 3, none⟩ (.int .i64 (d : Nat))) lvq (.slice ua (oq.length + [en].length) uc) lq (oq ++ [en]) d) := H5.out.set (c := 3) (by omega) H5.out.nds rfl
      clear ho hg H5
      go_wp2_with fail
      go_end0
      exact ⟨rfl, _, _, H6.out⟩
end Go.Proofs.PlatenTree
