/- What undo comes to. -/
import Derived.Test.YtibdhahkkejnjaaPsM
namespace Go.Proofs.PlatenPiece
open Go Go.RowKit Go.Shelf
set_option linter.unusedVariables false
set_option maxRecDepth 100000
attribute [local go_sem] Oper.semAt_some

section
variable {B : Nat} {w : World} {H T : Nat} {l : List Nat} {c : Nat} {O : Nat → Prop} {ov dv uv : Value} {op : List Ed} {dn ud : List (Value × List Ed)}
theorem HP.isCells (h : HP B w H T l c O ov dv uv op dn ud) : ∀ k, HOwn H O ov dv uv dn ud k → ∃ x t, w.heap[k]? = some (.cells x t (0, 0)) := by
  intro k hk
  rcases hk with rfl | hk | hk | hk | hk | ⟨t, ht, hk⟩
  · exact ⟨_, _, h.head⟩
  · obtain ⟨x, t, hx, _⟩ := h.tx.ty k hk; exact ⟨x, t, hx⟩
  · obtain ⟨x, hx⟩ := row_ty h.orow hk; exact ⟨x, _, hx⟩
  · obtain ⟨x, hx⟩ := row_ty h.drow hk; exact ⟨x, _, hx⟩
  · obtain ⟨x, hx⟩ := row_ty h.urow hk; exact ⟨x, _, hx⟩
  · obtain ⟨x, hx⟩ := row_ty (h.trs t ht).1 hk; exact ⟨x, _, hx⟩
end

/-- Between two rounds of undo. -/
structure Un (B s0 : Nat) (w0 : World) (H T : Nat) (l : List Nat) (c : Nat) (O : Nat → Prop) (ov dv uv : Value) (op : List Ed) (dn ud : List (Value × List Ed)) (pre : List Ed) (O' : Nat → Prop) (vo : Value) (W : World) : Prop where
  hp : HP B W H T (pre.foldl appL l) (c + 2 * pre.length) O' ov dv uv op dn ud
  sub : ∀ k, k < w0.heap.size → O' k → O k
  kept : Kept (fun k => O k ∨ k = s0 + 1) w0 W
  box : W.heap[s0 + 1]? = some (.cells #[vo] 49 (0, 0))
  row : W.ownsRow w0.heap.size 57 3 vo pre.length (rowE pre)

theorem Un.own {B s0 : Nat} {w0 : World} {H T : Nat} {l : List Nat} {c : Nat} {O : Nat → Prop} {ov dv uv : Value} {op : List Ed} {dn ud : List (Value × List Ed)} {pre : List Ed} {O' : Nat → Prop} {vo : Value} {W W' : World} {row : Option Nat}
    (h : Un B s0 w0 H T l c O ov dv uv op dn ud pre O' vo W) (hs : s0 + 1 < w0.heap.size) (hg : W.grownBy W' row) (hr : ∀ r, row = some r → w0.heap.size ≤ r ∧ ∃ o : Obj, W.heap[r]? = some o ∧ o.isCells = false) : Un B s0 w0 H T l c O ov dv uv op dn ud pre O' vo W' := by
  have key : ∀ (k : Nat) (x : Array Value) (t : TypeId), W.heap[k]? = some (.cells x t (0, 0)) → W'.heap[k]? = W.heap[k]? := by
    intro k x t hk
    refine hg.block k (Array.getElem?_eq_some_iff.1 hk).1 (fun e => ?_)
    obtain ⟨_, o, ho, hc⟩ := hr k e.symm
    rw [hk] at ho
    simp only [Option.some.injEq] at ho
    subst ho
    simp [Obj.isCells] at hc
  refine ⟨h.hp.same hg.size (fun k hk => ?_), h.sub, ?_, (key _ _ _ h.box).trans h.box, row_same h.row (fun k hk => ?_)⟩
  · obtain ⟨x, t, hx⟩ := h.hp.isCells k hk; exact key k x t hx
  · exact ⟨hg.os.trans h.kept.os, hg.tape.trans h.kept.tape, hg.output.trans h.kept.output, Nat.le_trans h.kept.size hg.size, fun k hk ho => (hg.block k (Nat.lt_of_lt_of_le hk h.kept.size) (fun e => by have := (hr k e.symm).1; omega)).trans (h.kept.block k hk ho)⟩
  · obtain ⟨x, hx⟩ := row_ty h.row hk; exact key k x _ hx

/-- An edit that lies in a block of its own. -/
def EdAt (s : Nat) (x : Ed) (Bx : Nat) (W : World) : Prop := s ≤ Bx ∧ W.heap[Bx]? = some (.cells #[.int .i64 x.at', .string x.old, .string x.new] 57 (0, 0))
theorem EdAt.own {s Bx : Nat} {x : Ed} {W W' : World} {row : Option Nat} (h : EdAt s x Bx W) (hg : W.grownBy W' row) (hr : ∀ r, row = some r → s ≤ r ∧ ∃ o : Obj, W.heap[r]? = some o ∧ o.isCells = false) : EdAt s x Bx W' := by
  refine ⟨h.1, (hg.block Bx (Array.getElem?_eq_some_iff.1 h.2).1 (fun e => ?_)).trans h.2⟩
  obtain ⟨_, o, ho, hc⟩ := hr Bx e.symm
  rw [h.2] at ho
  simp only [Option.some.injEq] at ho
  subst ho
  simp [Obj.isCells] at hc

theorem Un.step {B s0 : Nat} {w0 : World} {H T : Nat} {l : List Nat} {c : Nat} {O : Nat → Prop} {ov dv uv : Value} {op : List Ed} {dn ud : List (Value × List Ed)} {pre : List Ed} {O' O5 : Nat → Prop} {vo v' : Value} {W W5 W7 w8 : World} {g : Nat} {x : Ed}
    (hu : Un B s0 w0 H T l c O ov dv uv op dn ud pre O' vo W) (hz : w0.heap.size = s0 + 3) (hHo : ∀ k, HOwn H O ov dv uv dn ud k → k < s0) (hg0 : g < s0) (hgO : ¬ O g)
    (hT5 : Tx B W5 T (appL (pre.foldl appL l) x) (c + 2 * pre.length + 2) O5) (hK5 : Kept O' W W5) (hO5 : ∀ k, k < W.heap.size → O5 k → O' k) (hg7 : W5.grownBy W7 none)
    (hr8 : w8.ownsRow w0.heap.size 57 3 v' (pre.length + 1) (rowE pre ++ x.row)) (hg8 : W7.grownBy w8 vo.ownBlock) :
    KeepsFrom w0.heap.size W (w8.setCell ⟨s0 + 1, 0, none⟩ v') ∧ Two (s0 + 1 + 1) g W (w8.setCell ⟨s0 + 1, 0, none⟩ v') ∧ Un B s0 w0 H T l c O ov dv uv op dn ud (pre ++ [x]) O5 v' (w8.setCell ⟨s0 + 1, 0, none⟩ v') := by
  have hsW := hu.kept.size
  have hO'lt : ∀ k, k < w0.heap.size → O' k → k < s0 := fun k hk ho => hHo k (Or.inr (Or.inl (hu.sub k hk ho)))
  have hvo : ∀ k, vo.ownBlock = some k → w0.heap.size ≤ k ∧ k < W.heap.size := fun k hk => own_lt_row hu.row hk
  have hs5 := hK5.size
  have hs7 := hg7.size
  have hs8 := hg8.size
  have hsz : (w8.setCell ⟨s0 + 1, 0, none⟩ v').heap.size = w8.heap.size := by simp
  have hst : ∀ k, k < W.heap.size → ¬ O' k → vo.ownBlock ≠ some k → k ≠ s0 + 1 → (w8.setCell ⟨s0 + 1, 0, none⟩ v').heap[k]? = W.heap[k]? := by
    intro k hk ho hv hne
    rw [heap_setCell_other _ _ _ _ (by simpa using hne), hg8.block k (by omega) (fun e => hv e.symm), hg7.block k (by omega) (by simp)]
    exact hK5.block k hk ho
  have hv7 : ∀ k, vo.ownBlock = some k → ∃ y, W7.heap[k]? = some (.cells y 57 (0, 0)) := by
    intro k hk
    obtain ⟨y, hy⟩ := row_ty hu.row hk
    refine ⟨y, ?_⟩
    rw [hg7.block k (by have := hvo k hk; omega) (by simp), hK5.block k (hvo k hk).2 (fun ho => ?_)]
    · exact hy
    · obtain ⟨x', s', hx', hs'⟩ := hu.hp.tx.ty k ho
      rw [hx'] at hy
      simp only [Option.some.injEq, Obj.cells.injEq] at hy
      obtain ⟨_, rfl, _⟩ := hy
      rcases hs' with q | q | q <;> exact absurd q (by decide)
  have hHP7 : HP B W7 H T (appL (pre.foldl appL l) x) (c + 2 * pre.length + 2) O5 ov dv uv op dn ud := (hu.hp.text hT5 hK5).grown hg7
  have hb7 : W7.heap[s0 + 1]? = some (.cells #[vo] 49 (0, 0)) := by
    rw [hg7.block _ (by omega) (by simp), hK5.block _ (by omega) (fun ho => by have := hO'lt _ (by omega) ho; omega)]
    exact hu.box
  have hb8 : w8.heap[s0 + 1]? = some (.cells #[vo] 49 (0, 0)) := by
    rw [hg8.block _ (by omega) (fun e => by have := (hvo _ e.symm).1; omega)]
    exact hb7
  refine ⟨⟨by rw [hsz]; omega, fun k o hk ho hc => ?_⟩, ⟨?_, ?_⟩, ⟨?_, ?_, ?_, ?_, ?_⟩⟩
  · rw [hst k (Array.getElem?_eq_some_iff.1 ho).1 (fun q => ?_) (fun q => ?_) (by omega)]
    · exact ho
    · obtain ⟨x', s', hx', _⟩ := hu.hp.tx.ty k q
      rw [ho] at hx'
      simp only [Option.some.injEq] at hx'
      subst hx'
      simp [Obj.isCells] at hc
    · obtain ⟨y, hy⟩ := row_ty hu.row q
      rw [ho] at hy
      simp only [Option.some.injEq] at hy
      subst hy
      simp [Obj.isCells] at hc
  · exact hst _ (by omega) (fun ho => by have := hO'lt _ (by omega) ho; omega) (fun q => by have := (hvo _ q).1; omega) (by omega)
  · exact hst _ (by omega) (fun ho => hgO (hu.sub g (by omega) ho)) (fun q => by have := (hvo _ q).1; omega) (by omega)
  · rw [List.foldl_append, List.length_append, List.length_singleton, show c + 2 * (pre.length + 1) = c + 2 * pre.length + 2 by omega]
    refine hHP7.same (by rw [hsz]; exact hs8) (fun k hk => ?_)
    have hne : k ≠ s0 + 1 ∧ vo.ownBlock ≠ some k := by
      rcases hk with rfl | hk | hk
      · have := hHo k (Or.inl rfl); exact ⟨by omega, fun q => by have := (hvo k q).1; omega⟩
      · constructor
        · rintro rfl
          have := hO'lt _ (by omega) (hO5 _ (by omega) hk)
          omega
        · intro q
          obtain ⟨y, hy⟩ := hv7 k q
          obtain ⟨x', s', hx', hs'⟩ := hHP7.tx.ty k hk
          rw [hx'] at hy
          simp only [Option.some.injEq, Obj.cells.injEq] at hy
          obtain ⟨_, rfl, _⟩ := hy
          rcases hs' with q | q | q <;> exact absurd q (by decide)
      · have := hHo k (Or.inr (Or.inr hk)); exact ⟨by omega, fun q => by have := (hvo k q).1; omega⟩
    rw [heap_setCell_other _ _ _ _ (by simpa using hne.1), hg8.block k (hHP7.own k hk).2 (fun e => hne.2 e.symm)]
  · exact fun k hk ho => hu.sub k hk (hO5 k (by omega) ho)
  · refine ⟨((grownBy_set w8 (s0 + 1) 0 v').os.trans hg8.os).trans (hg7.os.trans (hK5.os.trans hu.kept.os)), ((grownBy_set w8 (s0 + 1) 0 v').tape.trans hg8.tape).trans (hg7.tape.trans (hK5.tape.trans hu.kept.tape)), ((grownBy_set w8 (s0 + 1) 0 v').output.trans hg8.output).trans (hg7.output.trans (hK5.output.trans hu.kept.output)), by rw [hsz]; omega, fun k hk ho => ?_⟩
    rw [hst k (by omega) (fun q => ho (Or.inl (hu.sub k hk q))) (fun q => by have := (hvo k q).1; omega) (fun q => ho (Or.inr q))]
    exact hu.kept.block k hk ho
  · exact heap_setCell_same w8 (s0 + 1) 0 _ 49 v' hb8
  · rw [List.length_append, List.length_singleton, rowE_app, show rowE [x] = x.row by simp [rowE]]
    refine row_same hr8 (fun k hk => heap_setCell_other _ _ _ _ ?_)
    have := (own_lt_row hr8 hk).1
    simp
    omega

theorem box_after {B s0 : Nat} {w0 : World} {H T : Nat} {l : List Nat} {c : Nat} {O : Nat → Prop} {ov dv uv : Value} {op : List Ed} {dn ud : List (Value × List Ed)} {pre : List Ed} {O' : Nat → Prop} {vo : Value} {W W5 w8 : World} {o : Obj}
    (hu : Un B s0 w0 H T l c O ov dv uv op dn ud pre O' vo W) (hz : w0.heap.size = s0 + 3) (hg : (W5.alloc o).grownBy w8 vo.ownBlock) (hb : W5.heap[s0 + 1]? = some (.cells #[vo] 49 (0, 0))) :
    w8.cell? ⟨s0 + 1, 0, none⟩ = some vo ∧ w8.frozen? ⟨s0 + 1, 0, none⟩ = false := by
  have hlt := (Array.getElem?_eq_some_iff.1 hb).1
  have h8 : w8.heap[s0 + 1]? = some (.cells #[vo] 49 (0, 0)) := by
    rw [hg.block (s0 + 1) (by simp; omega) (fun e => by have := (own_lt_row hu.row e.symm).1; omega), Below.heap_alloc _ _ _ hlt]
    exact hb
  exact ⟨by simp only [World.cell?, h8]; rfl, frozen_of_row w8 (s0 + 1) 0 _ 49 h8⟩

set_option maxHeartbeats 4000000 in
theorem undo_some {B : Nat} {w : World} {H T : Nat} {l : List Nat} {c : Nat} {O : Nat → Prop} {ov dv uv : Value} {op : List Ed} {dn ud : List (Value × List Ed)} (h : HP B w H T l c O ov dv uv op dn ud) (es : List Ed) (h0 : 0 < es.length) (hc : c + 2 * es.length ≤ 4500) (v : Value) (hv : w.ownsRow B 57 3 v es.length (rowE es)) :
    Calls Try.prog 56 #[.pointer (some ⟨H, 0, none⟩), v] w fun q w' => ∃ vo O', q = .returned vo ∧ w'.ownsRow w.heap.size 57 3 vo es.length (rowE (es.reverse.map Ed.back)) ∧ HP B w' H T ((es.reverse.map Ed.back).foldl appL l) (c + 2 * es.length) O' ov dv uv op dn ud ∧ Kept O w w' ∧ (∀ k, k < w.heap.size → O' k → O k) := by
  have hvb : ∃ g cap, v = .slice (some ⟨g, 0, none⟩) es.length cap := by
    rcases hv.2 with ⟨_, e⟩ | ⟨g, cap, cur, e, _⟩
    · omega
    · exact ⟨g, cap, e⟩
  obtain ⟨g, cap, rfl⟩ := hvb
  have hgl := own_lt_row hv (k := g) rfl
  refine (callsIn_wide (n := 9)).1 ?_
  refine callsIn_of_wp_marks Try.func56 rfl trivial ?_ rfl
  simp only [Try.ntmps56, List.size_toArray, List.length_cons, List.length_nil, Nat.reduceAdd, Nat.reduceSub, Array.replicate_succ, Array.replicate_zero, List.push_toArray, List.append_toArray, List.nil_append, List.cons_append]
  gi_wp2
  refine ⟨trivial, ?_⟩
  refine (callsIn_wide.2 (backs_call _ _ ⟨_, _, _, rfl⟩)).mono ?_
  rintro q w1 ⟨rfl, rfl⟩
  gi_wp2
  have hO : ∀ k, HOwn H O ov dv uv dn ud k → k < w.heap.size := fun k hk => (h.own k hk).2
  have hgO : ¬ O g := fun ho => by
    obtain ⟨x', s', hx', hs'⟩ := h.tx.ty g ho
    obtain ⟨y, hy⟩ := row_ty hv (k := g) rfl
    rw [hx'] at hy
    simp only [Option.some.injEq, Obj.cells.injEq] at hy
    obtain ⟨_, rfl, _⟩ := hy
    rcases hs' with q | q | q <;> exact absurd q (by decide)
  obtain ⟨W0, hW0⟩ : ∃ W0, (((w.alloc (.cells #[.pointer (some ⟨H, 0, none⟩)] 44)).alloc (.cells #[.slice none 0 0] 49)).alloc (.cells #[.slice (some ⟨g, 0, none⟩) es.length cap] 49)) = W0 := ⟨_, rfl⟩
  have hz : W0.heap.size = w.heap.size + 3 := by rw [← hW0]; simp
  have hgw : w.grownBy W0 none := by rw [← hW0]; exact grown_tr (grown_tr (grownBy_alloc _ _) (grownBy_alloc _ _)) (grownBy_alloc _ _)
  have hbh : W0.heap[w.heap.size]? = some (.cells #[.pointer (some ⟨H, 0, none⟩)] 44 (0, 0)) := by
    rw [← hW0, Below.heap_alloc _ _ _ (by simp; omega), Below.heap_alloc _ _ _ (by simp)]
    exact heap_alloc_new _ _
  have hbo : W0.heap[w.heap.size + 1]? = some (.cells #[.slice none 0 0] 49 (0, 0)) := by
    have q := heap_alloc_new (w.alloc (.cells #[.pointer (some ⟨H, 0, none⟩)] 44)) (.cells #[.slice none 0 0] 49)
    rw [World.size_alloc] at q
    rw [← hW0, Below.heap_alloc _ _ _ (by simp)]
    exact q
  have hbb : W0.heap[w.heap.size + 1 + 1]? = some (.cells #[.slice (some ⟨g, 0, none⟩) es.length cap] 49 (0, 0)) := by
    have q := heap_alloc_new ((w.alloc (.cells #[.pointer (some ⟨H, 0, none⟩)] 44)).alloc (.cells #[.slice none 0 0] 49)) (.cells #[.slice (some ⟨g, 0, none⟩) es.length cap] 49)
    rw [World.size_alloc, World.size_alloc] at q
    rw [← hW0]
    exact q
  have hRd : Rd (w.heap.size + 1 + 1) (.slice (some ⟨g, 0, none⟩) es.length cap) g cap es W0 := by
    refine ⟨hbb, rfl, ?_⟩
    have hv0 := row_same hv (w' := W0) (fun k hk => hgw.block k (own_lt_row hv hk).2 (by simp))
    rcases hv0.2 with ⟨e, _⟩ | ⟨g', cap', cur, e, _, e3, _, _, _, e7⟩
    · cases e
    · simp only [Value.slice.injEq, Option.some.injEq, Addr.mk.injEq, and_true, true_and] at e
      obtain ⟨rfl, _⟩ := e
      exact ⟨cur, e3, e7⟩
  have hH0 : HP B W0 H T l c O ov dv uv op dn ud := h.grown hgw
  rw [hW0]
  clear hW0
  obtain ⟨i0, hi, hz0, hz1, hz2⟩ := info_parts info57e
  refine wpIn_rangeFunc_ownH rfl (by omega) (gf := 75) (lb := #[.pointer (some ⟨w.heap.size + 1 + 1, 0, none⟩)]) rfl trivial (enters_of Try.func75 (by kernel_rfl) rfl)
    (backs_stops 8 (w.heap.size + 1 + 1) g cap _ es (by omega) h0 W0 hRd (by omega) (by omega)) two_t (fun W lx o o' hl _ _ _ => ⟨by simp only [World.putObj]; rw [Array.getElem?_setIfInBounds_ne (by omega)], by simp only [World.putObj]; rw [Array.getElem?_setIfInBounds_ne (by omega)]⟩) (Below.refl _ _) (fun _ => rfl)
    (fun pre W => ∃ O' vo, Un B w.heap.size W0 H T l c O ov dv uv op dn ud pre O' vo W) (fun _ _ _ => False)
    (fun s W W' row hs hg hr => by obtain ⟨O', vo, hu⟩ := hs; exact ⟨O', vo, hu.own (by omega) hg hr⟩) (fun _ _ _ _ _ hs _ _ => hs)
    ⟨O, .slice none 0 0, ⟨hH0, fun _ _ h => h, Kept.refl _ _, hbo, World.ownsRow_nil _ _ _ _⟩⟩
    (fun x a' W => ∃ Bx, EdAt W0.heap.size x Bx W ∧ a' = { tmps := #[.pointer (some ⟨H, 0, none⟩), .slice (some ⟨g, 0, none⟩) es.length cap, .pointer (some ⟨w.heap.size, 0, none⟩), undef, .slice none 0 0, .pointer (some ⟨w.heap.size + 1, 0, none⟩), .pointer (some ⟨Bx, 0, none⟩), .slice (some ⟨g, 0, none⟩) es.length cap, .func (.func 75) #[] #[.pointer (some ⟨w.heap.size + 1 + 1, 0, none⟩)], .agg #[.int .i64 x.at', .string x.old, .string x.new], undef, undef, undef, undef, undef, undef, undef, undef], defers := [] })
    (fun x a' _ W W' row hs hg hr => by obtain ⟨Bx, q1, q2⟩ := hs; exact ⟨Bx, q1.own hg hr, q2⟩) ?assign ?body ?done ?stop
  case assign =>
    rintro lp pre x W K ⟨O', vo, hu⟩ hK
    have hsW := hu.kept.size
    have HU := hidden hu
    clear hu
    gi_wp2
    refine hK _ _ ((KeepsOthers.alloc _ _).from _) ⟨Below.heap_alloc _ _ _ (by omega), Below.heap_alloc _ _ _ (by omega)⟩ ⟨O', vo, HU.out.own (by omega) (grownBy_alloc _ _) (fun r e => by cases e)⟩ ⟨W.heap.size, ⟨hsW, heap_alloc_new _ _⟩, rfl⟩
  case body =>
    rintro lp pre x a' W hl ⟨r, hr⟩ ⟨O', vo, hu⟩ ⟨Bx, hx, rfl⟩ hlt
    have hsW := hu.kept.size
    have hle : pre.length ≤ 2250 := by omega
    have cH : W.cell? ⟨w.heap.size, 0, none⟩ = some (.pointer (some ⟨H, 0, none⟩)) := by
      have q := (hu.kept.block w.heap.size (by omega) (fun q => by rcases q with q | q; (have := hO _ (Or.inr (Or.inl q)); omega); omega)).trans hbh
      simp only [World.cell?, q]; rfl
    have x0 : W.cell? ⟨Bx, 0, none⟩ = some (.int .i64 x.at') := by simp only [World.cell?, hx.2]; rfl
    have x1 : W.cell? ⟨Bx, 1, none⟩ = some (.string x.old) := by simp only [World.cell?, hx.2]; rfl
    have x2 : W.cell? ⟨Bx, 2, none⟩ = some (.string x.new) := by simp only [World.cell?, hx.2]; rfl
    obtain ⟨oa, oc, rfl⟩ := row_slice hu.row
    have HU := hidden hu
    have HX := hidden hx
    have HR := hidden hRd
    have HO := hidden hO
    have Hc := hidden hc
    have Hh := hidden h
    have Hv := hidden hv
    have H0 := hidden hH0
    clear hu hx hRd hO hc h hv hH0 hbh hbo hbb hr
    gi_wp2
    refine ⟨trivial, ?_⟩
    refine (CallsIn.inRound lp (callsIn_wide.2 (apply_any HU.out.hp.tx (by have := Hc.out; omega) _ HU.out.hp.head rfl x))).mono ?_
    rintro q W5 ⟨⟨v5, rfl⟩, O5, hT5, hK5, hO5⟩
    have hs5 := hK5.size
    have hx5 : W5.heap[Bx]? = some (.cells #[.int .i64 x.at', .string x.old, .string x.new] 57 (0, 0)) := by
      rw [hK5.block Bx (Array.getElem?_eq_some_iff.1 HX.out.2).1 (fun ho => ?_)]
      · exact HX.out.2
      · obtain ⟨x', s', hx', hs'⟩ := HU.out.hp.tx.ty Bx ho
        have hy := HX.out.2
        rw [hx'] at hy
        simp only [Option.some.injEq, Obj.cells.injEq] at hy
        obtain ⟨_, rfl, _⟩ := hy
        rcases hs' with q | q | q <;> exact absurd q (by decide)
    have hb5 : W5.heap[w.heap.size + 1]? = some (.cells #[.slice oa pre.length oc] 49 (0, 0)) := by
      rw [hK5.block _ (by omega) (fun ho => by have := HO.out _ (Or.inr (Or.inl (HU.out.sub _ (by omega) ho))); omega)]
      exact HU.out.box
    have hr5 : W5.ownsRow W0.heap.size 57 3 (.slice oa pre.length oc) pre.length (rowE pre) := by
      refine row_same HU.out.row (fun k hk => hK5.block k (own_lt_row HU.out.row hk).2 (fun ho => ?_))
      obtain ⟨x', s', hx', hs'⟩ := HU.out.hp.tx.ty k ho
      obtain ⟨y, hy⟩ := row_ty HU.out.row hk
      rw [hx'] at hy
      simp only [Option.some.injEq, Obj.cells.injEq] at hy
      obtain ⟨_, rfl, _⟩ := hy
      rcases hs' with q | q | q <;> exact absurd q (by decide)
    have HR7 : Hid ((W5.alloc (.cells #[.int .i64 x.at', .string x.old, .string x.new] 57)).ownsRow W0.heap.size 57 3 (.slice oa pre.length oc) pre.length (rowE pre)) := row_same hr5 (fun k hk => Below.heap_alloc _ _ _ (own_lt_row hr5 hk).2)
    have y0 : W5.cell? ⟨Bx, 0, none⟩ = some (.int .i64 x.at') := by simp only [World.cell?, hx5]; rfl
    have y1 : W5.cell? ⟨Bx, 1, none⟩ = some (.string x.old) := by simp only [World.cell?, hx5]; rfl
    have y2 : W5.cell? ⟨Bx, 2, none⟩ = some (.string x.new) := by simp only [World.cell?, hx5]; rfl
    have y3 : W5.cell? ⟨w.heap.size + 1, 0, none⟩ = some (.slice oa pre.length oc) := by simp only [World.cell?, hb5]; rfl
    have HT5 := hidden hT5
    have HK5 := hidden hK5
    have HO5 := hidden hO5
    have HB5 := hidden hb5
    clear hT5 hK5 hO5 hx5 hb5 hr5 x0 x1 x2 cH
    gi_wp2_with (gi_at_builtin; refine wpListIn_append_own _ rfl _ _ 49 rfl W0.heap.size 57 i0 (.agg #[.int .i64 0, .string ⟨#[]⟩, .string ⟨#[]⟩]) 3 40 Try.underlying49 hi hz0 hz1 hz2 rfl (by decide) _ _ _ rfl HR7.out ⟨W5.heap.size, 0, none⟩ 1 1 x.row rfl rfl (cells3e _ _ _ _) (by intro u hu; simp [Ed.row] at hu; rcases hu with rfl | rfl | rfl <;> rfl) (by unfold maxLen; omega) (by omega) (by simp; omega) ?_; intro v' w8 hown' hgrow _; have hq := row_slice hown'; obtain ⟨va, vc, rfl⟩ := hq; have hb8 := box_after HU.out hz hgrow HB5.out; have e1 := hb8.1; have f1 := hb8.2; have HS := hidden (HU.out.step hz HO.out hgl.2 hgO HT5.out HK5.out HO5.out (grownBy_alloc W5 (.cells #[.int .i64 x.at', .string x.old, .string x.new] 57)) hown' hgrow); clear hown' hgrow hb8)
    exact ⟨HS.out.1, HS.out.2.1, O5, _, HS.out.2.2⟩
  case done =>
    rintro D ys W hD rfl ⟨O', vo, hu⟩ hK
    have c0 : W.cell? ⟨w.heap.size + 1, 0, none⟩ = some vo := by simp only [World.cell?, hu.box]; rfl
    have HU := hidden (hu.own (by omega) (grownBy_putObj' W D (.deferred none)) (fun r e => by cases e; exact ⟨hD, _, hK, rfl⟩))
    obtain ⟨oa, oc, rfl⟩ := row_slice hu.row
    have Hz := hidden hz
    have Hgw := hidden hgw
    have HO := hidden hO
    have Hh := hidden h
    clear hu hRd hO hc h hv hH0 hbh hbo hbb hgl hgO hz hgw
    gi_wp2
    refine ⟨by simp, .inl ⟨_, _, rfl, run_takeDeferred hK, ?_⟩⟩
    have hlen : (es.reverse.map Ed.back).length = es.length := by simp
    have hp := HU.out.hp
    have hrow := HU.out.row
    rw [hlen] at hp hrow
    refine ⟨_, results_tmp rfl _ _ _, _, O', by simp; rfl, ?_, hp, ?_, fun k hk ho => HU.out.sub k (by have := Hz.out; omega) ho⟩
    · obtain ⟨q0, q1⟩ := hrow
      refine ⟨q0, ?_⟩
      rcases q1 with q1 | ⟨g', cap', cur, e1, e2, e3⟩
      · exact Or.inl q1
      · exact Or.inr ⟨g', cap', cur, e1, by have := Hz.out; omega, e3⟩
    · have hk := HU.out.kept
      have hw := Hgw.out
      refine ⟨hk.os.trans hw.os, hk.tape.trans hw.tape, hk.output.trans hw.output, Nat.le_trans hw.size hk.size, fun k h1 h2 => ?_⟩
      rw [hk.block k (Nat.lt_of_lt_of_le h1 hw.size) (fun q => by rcases q with q | q; exact h2 q; omega), hw.block k h1 (by simp)]
  case stop =>
    rintro D c pre W _ _ h _
    exact h.elim
end Go.Proofs.PlatenPiece
