/- Do refused, undo of nothing, Cancel, slices.Clone, Redo. -/
import Derived.Test.YtibdhahkkejnjaaPsQ
import Derived.Test.YtibdhahkkejnjaaPuA
import Derived.Lib.SliceRun
namespace Go.Proofs.PlatenPiece
open Go Go.RowKit Go.Shelf
set_option linter.unusedVariables false
set_option maxRecDepth 100000
attribute [local go_sem] Oper.semAt_some

section
variable {B : Nat} {w : World} {H T : Nat} {l : List Nat} {c : Nat} {O : Nat → Prop} {ov dv uv : Value} {op : List Ed} {dn ud : List (Value × List Ed)}
set_option maxHeartbeats 2000000 in
theorem do_no (h : HP B w H T l c O ov dv uv op dn ud) (hl : ∀ c ∈ l, c < 256) (hc : c + 1 ≤ 4500) (e : Ed) (hf : ¬ fitsL l e) :
    Calls Try.prog 37 #[.pointer (some ⟨H, 0, none⟩), .agg #[.int .i64 e.at', .string e.old, .string e.new]] w fun q w' => q = .returned (.int .i64 1) ∧ w.grownBy w' none := by
  have hg0 := grownBy_alloc w (.cells #[.int .i64 e.at', .string e.old, .string e.new] 57)
  have HH := hidden (h.grown hg0)
  have HG := hidden hg0
  have hbx : (w.alloc (.cells #[.int .i64 e.at', .string e.old, .string e.new] 57)).heap[w.heap.size]? = some (.cells #[.int .i64 e.at', .string e.old, .string e.new] 57 (0, 0)) := heap_alloc_new _ _
  have Hl := hidden hl
  have Hc := hidden hc
  have Hf := hidden hf
  obtain ⟨b0, b1, b2⟩ : (w.alloc (.cells #[.int .i64 e.at', .string e.old, .string e.new] 57)).cell? ⟨w.heap.size, 0, none⟩ = some (.int .i64 e.at') ∧ (w.alloc (.cells #[.int .i64 e.at', .string e.old, .string e.new] 57)).cell? ⟨w.heap.size, 1, none⟩ = some (.string e.old) ∧ (w.alloc (.cells #[.int .i64 e.at', .string e.old, .string e.new] 57)).cell? ⟨w.heap.size, 2, none⟩ = some (.string e.new) := ⟨by simp only [World.cell?, hbx]; rfl, by simp only [World.cell?, hbx]; rfl, by simp only [World.cell?, hbx]; rfl⟩
  clear h hl hc hf hg0 hbx
  go_enter Try.func37, Try.ntmps37
  go_wp2_with fail
  generalize (w.alloc (.cells #[.int .i64 e.at', .string e.old, .string e.new] 57)) = W at *
  refine (fits_any HH.out.tx Hl.out (by have := Hc.out; omega) _ HH.out.head rfl e).mono ?_
  rintro q w1 ⟨⟨r, rfl, hr⟩, hg1⟩
  obtain rfl : r = false := by
    cases r with
    | false => rfl
    | true => exact absurd (hr.1 rfl) Hf.out
  have HG1 := hidden (grown_tr HG.out hg1)
  clear b0 b1 b2 hr hg1 HH HG
  go_wp2
  go_ret
  exact ⟨rfl, HG1.out⟩
end

set_option maxHeartbeats 2000000 in
theorem backs0 (n l b : Nat) (va : Option Addr) (vc : Nat) (J Jx : List Ed → World → Prop) (W : World) (hb : W.heap[b]? = some (.cells #[.slice va 0 vc] 49 (0, 0))) (hJ0 : J [] W) :
    CallsIn Fence.wide n Try.prog 75 #[.func (.yield l) #[] #[], .pointer (some ⟨b, 0, none⟩)] W fun e W' => (∃ v, e = .returned v) ∧
      ((∃ ys, ys = ([] : List Ed) ∧ J ys W') ∨ (∃ pre : List Ed, True ∧ Jx pre W')) := by
  have hc0 : W.cell? ⟨b, 0, none⟩ = some (.slice va 0 vc) := by simp only [World.cell?, hb]; rfl
  have HJ0 := hidden hJ0
  clear hJ0 hb
  refine callsIn_of_wp Try.func75 rfl trivial ?_ rfl
  simp only [Try.ntmps75, List.size_toArray, List.length_cons, List.length_nil, Nat.reduceAdd, Nat.reduceSub, Array.replicate_succ, Array.replicate_zero, List.push_toArray, List.append_toArray, List.nil_append, List.cons_append]
  gi_wp2
  gi_loopw [6] (fun i wr => i = .int .i64 0 ∧ wr = W) (fun _ _ => 0)
  case atStart => exact ⟨rfl, rfl⟩
  case round =>
    obtain ⟨rfl, rfl⟩ := hrel
    gi_wp2
    go_end0
    exact ⟨⟨_, rfl⟩, Or.inl (by first | exact ⟨[], rfl, HJ0.out⟩ | exact HJ0.out)⟩
theorem backs_stops0 (n b : Nat) (va : Option Addr) (vc : Nat) (w : World) (hb : w.heap[b]? = some (.cells #[.slice va 0 vc] 49 (0, 0))) :
    SeqStopsK Fence.wide n Try.prog 75 #[.pointer (some ⟨b, 0, none⟩)] (fun x : Ed => #[.agg #[.int .i64 x.at', .string x.old, .string x.new]]) (Two b b) (fun ys => ys = ([] : List Ed)) (fun _ => True) 0 w := fun l J Jx W hW hJ _ hY hJ0 =>
  backs0 n l b va vc J Jx W ((hW.block b (Array.getElem?_eq_some_iff.1 hb).1).trans hb) hJ0

set_option maxHeartbeats 4000000 in
theorem undo_zero {B : Nat} {w : World} {H T : Nat} {l : List Nat} {c : Nat} {O : Nat → Prop} {ov dv uv : Value} {op : List Ed} {dn ud : List (Value × List Ed)} (h : HP B w H T l c O ov dv uv op dn ud) (va : Option Addr) (vc : Nat) :
    Calls Try.prog 56 #[.pointer (some ⟨H, 0, none⟩), .slice va 0 vc] w fun q w' => ∃ vo O', q = .returned vo ∧ w'.ownsRow w.heap.size 57 3 vo 0 (rowE []) ∧ HP B w' H T l c O' ov dv uv op dn ud ∧ Kept O w w' ∧ (∀ k, k < w.heap.size → O' k → O k) := by
  refine (callsIn_wide (n := 9)).1 ?_
  refine callsIn_of_wp_marks Try.func56 rfl trivial ?_ rfl
  simp only [Try.ntmps56, List.size_toArray, List.length_cons, List.length_nil, Nat.reduceAdd, Nat.reduceSub, Array.replicate_succ, Array.replicate_zero, List.push_toArray, List.append_toArray, List.nil_append, List.cons_append]
  gi_wp2
  refine ⟨trivial, ?_⟩
  refine (callsIn_wide.2 (backs_call _ _ ⟨_, _, _, rfl⟩)).mono ?_
  rintro q w1 ⟨rfl, rfl⟩
  gi_wp2
  obtain ⟨W0, hW0⟩ : ∃ W0, (((w.alloc (.cells #[.pointer (some ⟨H, 0, none⟩)] 44)).alloc (.cells #[.slice none 0 0] 49)).alloc (.cells #[.slice va 0 vc] 49)) = W0 := ⟨_, rfl⟩
  have hz : W0.heap.size = w.heap.size + 3 := by rw [← hW0]; simp
  have hgw : w.grownBy W0 none := by rw [← hW0]; exact grown_tr (grown_tr (grownBy_alloc _ _) (grownBy_alloc _ _)) (grownBy_alloc _ _)
  have hbo : W0.heap[w.heap.size + 1]? = some (.cells #[.slice none 0 0] 49 (0, 0)) := by
    have q := heap_alloc_new (w.alloc (.cells #[.pointer (some ⟨H, 0, none⟩)] 44)) (.cells #[.slice none 0 0] 49)
    rw [World.size_alloc] at q
    rw [← hW0, Below.heap_alloc _ _ _ (by simp)]
    exact q
  have hbb : W0.heap[w.heap.size + 1 + 1]? = some (.cells #[.slice va 0 vc] 49 (0, 0)) := by
    have q := heap_alloc_new ((w.alloc (.cells #[.pointer (some ⟨H, 0, none⟩)] 44)).alloc (.cells #[.slice none 0 0] 49)) (.cells #[.slice va 0 vc] 49)
    rw [World.size_alloc, World.size_alloc] at q
    rw [← hW0]
    exact q
  have hH0 : HP B W0 H T l c O ov dv uv op dn ud := h.grown hgw
  rw [hW0]
  clear hW0
  refine wpIn_rangeFunc_ownH rfl (by omega) (gf := 75) (lb := #[.pointer (some ⟨w.heap.size + 1 + 1, 0, none⟩)]) rfl trivial (enters_of Try.func75 (by kernel_rfl) rfl)
    (backs_stops0 8 (w.heap.size + 1 + 1) va vc W0 hbb) two_t (fun W lx o o' hl _ _ _ => ⟨by simp only [World.putObj]; rw [Array.getElem?_setIfInBounds_ne (by omega)], by simp only [World.putObj]; rw [Array.getElem?_setIfInBounds_ne (by omega)]⟩) (Below.refl _ _) (fun _ => rfl)
    (fun pre W => ∃ O' vo, Un B w.heap.size W0 H T l c O ov dv uv op dn ud pre O' vo W) (fun _ _ _ => False)
    (fun s W W' row hs hg hr => by obtain ⟨O', vo, hu⟩ := hs; exact ⟨O', vo, hu.own (by omega) hg hr⟩) (fun _ _ _ _ _ hs _ _ => hs)
    ⟨O, .slice none 0 0, ⟨hH0, fun _ _ h => h, Kept.refl _ _, hbo, World.ownsRow_nil _ _ _ _⟩⟩
    (fun x a' W => ∃ Bx, EdAt W0.heap.size x Bx W ∧ a' = { tmps := #[.pointer (some ⟨H, 0, none⟩), .slice va 0 vc, .pointer (some ⟨w.heap.size, 0, none⟩), undef, .slice none 0 0, .pointer (some ⟨w.heap.size + 1, 0, none⟩), .pointer (some ⟨Bx, 0, none⟩), .slice va 0 vc, .func (.func 75) #[] #[.pointer (some ⟨w.heap.size + 1 + 1, 0, none⟩)], .agg #[.int .i64 x.at', .string x.old, .string x.new], undef, undef, undef, undef, undef, undef, undef, undef], defers := [] })
    (fun x a' _ W W' row hs hg hr => by obtain ⟨Bx, q1, q2⟩ := hs; exact ⟨Bx, q1.own hg hr, q2⟩) ?assign ?body ?done ?stop
  case assign =>
    rintro lp pre x W K ⟨O', vo, hu⟩ hK
    have hsW := hu.kept.size
    have HU := hidden hu
    clear hu
    gi_wp2
    refine hK _ _ ((KeepsOthers.alloc _ _).from _) ⟨Below.heap_alloc _ _ _ (by omega), Below.heap_alloc _ _ _ (by omega)⟩ ⟨O', vo, HU.out.own (by omega) (grownBy_alloc _ _) (fun r e => by cases e)⟩ ⟨W.heap.size, ⟨hsW, heap_alloc_new _ _⟩, rfl⟩
  case body =>
    rintro lp pre x a' W hl ⟨r, hr⟩ ⟨O', vo, hu⟩ ⟨Bx, hx, rfl⟩ hlt
    exact absurd hlt (Nat.not_lt_zero _)
  case done =>
    rintro D ys W hD rfl ⟨O', vo, hu⟩ hK
    have c0 : W.cell? ⟨w.heap.size + 1, 0, none⟩ = some vo := by simp only [World.cell?, hu.box]; rfl
    have HU := hidden (hu.own (by omega) (grownBy_putObj' W D (.deferred none)) (fun r e => by cases e; exact ⟨hD, _, hK, rfl⟩))
    obtain ⟨oa, oc, rfl⟩ := row_slice hu.row
    have Hz := hidden hz
    have Hgw := hidden hgw
    have Hh := hidden h
    clear hu h hH0 hbo hbb hz hgw
    gi_wp2
    refine ⟨by simp, .inl ⟨_, _, rfl, run_takeDeferred hK, ?_⟩⟩
    have hp := HU.out.hp
    have hrow := HU.out.row
    refine ⟨_, results_tmp rfl _ _ _, _, O', by simp; rfl, ?_, hp, ?_, fun k hk ho => HU.out.sub k (by have := Hz.out; omega) ho⟩
    · obtain ⟨q0, q1⟩ := hrow
      refine ⟨q0, ?_⟩
      rcases q1 with q1 | ⟨g', cap', cur, e1, e2, e3⟩
      · exact Or.inl q1
      · exact Or.inr ⟨g', cap', cur, e1, by have := Hz.out; omega, e3⟩
    · have hk := HU.out.kept
      have hw := Hgw.out
      refine ⟨hk.os.trans hw.os, hk.tape.trans hw.tape, hk.output.trans hw.output, Nat.le_trans hw.size hk.size, fun k h1 h2 => ?_⟩
      rw [hk.block k (Nat.lt_of_lt_of_le h1 hw.size) (fun q => by rcases q with q | q; exact h2 q; omega), hw.block k h1 (by simp)]
  case stop =>
    rintro D c pre W _ _ h _
    exact h.elim

theorem undo_all {B : Nat} {w : World} {H T : Nat} {l : List Nat} {c : Nat} {O : Nat → Prop} {ov dv uv : Value} {op : List Ed} {dn ud : List (Value × List Ed)} (h : HP B w H T l c O ov dv uv op dn ud) (es : List Ed) (hc : c + 2 * es.length ≤ 4500) (v : Value) (hv : w.ownsRow B 57 3 v es.length (rowE es)) :
    Calls Try.prog 56 #[.pointer (some ⟨H, 0, none⟩), v] w fun q w' => ∃ vo O', q = .returned vo ∧ w'.ownsRow w.heap.size 57 3 vo es.length (rowE (backsL es)) ∧ HP B w' H T ((backsL es).foldl appL l) (c + 2 * es.length) O' ov dv uv op dn ud ∧ Kept O w w' ∧ (∀ k, k < w.heap.size → O' k → O k) := by
  rcases Nat.eq_zero_or_pos es.length with h0 | h0
  · obtain rfl := List.length_eq_zero_iff.1 h0
    obtain ⟨va, vc, rfl⟩ := row_slice hv
    exact undo_zero h va vc
  · exact undo_some h es h0 hc v hv

section
variable {B : Nat} {w : World} {H T : Nat} {l : List Nat} {c : Nat} {O : Nat → Prop} {ov dv uv : Value} {op : List Ed} {dn ud : List (Value × List Ed)}
/-- The edits at hand are let go. -/
theorem HP.drop (h : HP B w H T l c O ov dv uv op dn ud) :
    HP B (w.setCell ⟨H, 1, none⟩ (.slice none 0 0)) H T l c O (.slice none 0 0) dv uv [] dn ud ∧ (w.setCell ⟨H, 1, none⟩ (.slice none 0 0)).ownsRow B 57 3 ov op.length (rowE op) ∧ Kept (HOwn H O ov dv uv dn ud) w (w.setCell ⟨H, 1, none⟩ (.slice none 0 0)) := by
  have q1 := heap_setCell_same w H 1 _ 91 (.slice none 0 0) h.head
  have hoth : ∀ k, k ≠ H → (w.setCell ⟨H, 1, none⟩ (.slice none 0 0)).heap[k]? = w.heap[k]? := fun k hk => by
    rw [heap_setCell_other _ _ _ _ (by simpa using fun e => hk e)]
  have hsz : (w.setCell ⟨H, 1, none⟩ (.slice none 0 0)).heap.size = w.heap.size := by simp
  have hrow : ∀ {e : TypeId} {s n : Nat} {v : Value} {xs : List Value}, w.ownsRow B e s v n xs → e ≠ 91 → (w.setCell ⟨H, 1, none⟩ (.slice none 0 0)).ownsRow B e s v n xs := fun hr he => row_same hr (fun k hk => hoth k (fun e => row_head hr h.head he (by rw [← e]; exact hk)))
  refine ⟨⟨h.low, by rw [hsz]; exact h.bs, q1, h.tx.same (by rw [hsz]; exact Nat.le_refl _) (fun k hk => hoth k (h.off k hk).1), World.ownsRow_nil _ _ _ _, hrow h.drow (by decide), hrow h.urow (by decide), fun t ht => ⟨hrow (h.trs t ht).1 (by decide), ?_, (h.trs t ht).2.2⟩, h.apart⟩, hrow h.orow (by decide), ?_⟩
  · obtain ⟨a1, a2, a3⟩ := h.trs t ht
    rcases a1.2 with ⟨_, e⟩ | ⟨g, cap, cur, e, _⟩
    · omega
    · rw [e]; simp [Value.ownBlock]
  · exact ⟨(grownBy_set w H 1 _).os, (grownBy_set w H 1 _).tape, (grownBy_set w H 1 _).output, by rw [hsz]; exact Nat.le_refl _, fun k hk ho => hoth k (fun e => ho (Or.inl e))⟩
set_option maxHeartbeats 2000000 in
theorem Cancel_any (h : HP B w H T l c O ov dv uv op dn ud) (hc : c + 2 * op.length ≤ 4500) :
    Calls Try.prog 39 #[.pointer (some ⟨H, 0, none⟩)] w fun q w' => ∃ vo O', q = .returned vo ∧ w'.ownsRow w.heap.size 57 3 vo op.length (rowE (backsL op)) ∧ HP B w' H T ((backsL op).foldl appL l) (c + 2 * op.length) O' (.slice none 0 0) dv uv [] dn ud ∧ Kept (HOwn H O ov dv uv dn ud) w w' ∧ (∀ k, k < w.heap.size → HOwn H O' (.slice none 0 0) dv uv dn ud k → HOwn H O ov dv uv dn ud k) := by
  have c1 := h.cells.2.1
  have f1 := h.free 1
  obtain ⟨h1, hr1, hK1⟩ := h.drop
  have hsz : (w.setCell ⟨H, 1, none⟩ (.slice none 0 0)).heap.size = w.heap.size := by simp
  have C2 := hidden (undo_all h1 op hc ov hr1)
  rw [hsz] at C2
  obtain ⟨oa, oc, rfl⟩ := row_slice h.orow
  have HK1 := hidden hK1
  clear h h1 hr1 hK1 hc
  go_enter Try.func39, Try.ntmps39
  go_wp2_with fail
  refine C2.out.mono ?_
  rintro q w2 ⟨vo, O', rfl, hr2, h2, hK2, hO2⟩
  obtain ⟨va, vc, rfl⟩ := row_slice hr2
  have HR2 := hidden hr2
  have H2 := hidden h2
  have HK2 : Hid (Kept (HOwn H O (.slice oa op.length oc) dv uv dn ud) w w2) := HK1.out.trans hK2 (fun i hi ho => Or.inr (Or.inl ho))
  have HO2 : Hid (∀ k, k < w.heap.size → HOwn H O' (.slice none 0 0) dv uv dn ud k → HOwn H O (.slice oa op.length oc) dv uv dn ud k) := fun k hk ho => by
    rcases ho with ho | ho | ho | ho
    · exact Or.inl ho
    · exact Or.inr (Or.inl (hO2 k hk ho))
    · simp [Value.ownBlock] at ho
    · exact Or.inr (Or.inr (Or.inr ho))
  clear hr2 h2 hK2 hO2 HK1 C2
  go_wp2
  go_ret
  exact ⟨_, O', rfl, HR2.out, H2.out, HK2.out, HO2.out⟩
end
end Go.Proofs.PlatenPiece

namespace Go.Proofs.PlatenPiece
open Go Go.RowKit
set_option linter.unusedVariables false
set_option maxRecDepth 100000

theorem grown_new {a b c : World} {k : Nat} (h : a.grownBy b none) (q : b.grownBy c (some k)) (hk : a.heap.size ≤ k) : a.grownBy c none :=
  ⟨q.os.trans h.os, q.tape.trans h.tape, q.output.trans h.output, Nat.le_trans h.size q.size, fun i hi _ => (q.block i (Nat.lt_of_lt_of_le hi h.size) (fun e => by simp only [Option.some.injEq] at e; omega)).trans (h.block i hi (by simp))⟩
set_option maxHeartbeats 2000000 in
theorem clone_some {B : Nat} {w : World} (es : List Ed) (h0 : 0 < es.length) (hes : es.length ≤ 100000) (v : Value) (hv : w.ownsRow B 57 3 v es.length (rowE es)) :
    Calls Try.prog 58 #[v] w fun q w' => ∃ vo, q = .returned vo ∧ w'.ownsRow w.heap.size 57 3 vo es.length (rowE es) ∧ w.grownBy w' none := by
  obtain ⟨i0, hi, hz0, hz1, hz2⟩ := info_parts info57e
  obtain ⟨g, cap, rfl⟩ := own_some hv h0
  have hcs := hv.cells (g := g) rfl
  have HC : Hid (∀ j u, (rowE es)[j]? = some u → (w.alloc (.cells #[] 57)).cell? ((⟨g, 0, none⟩ : Addr).add j) = some u) := fun j u hj => by
    have hq := hcs j u hj
    have hlt := (own_lt_row hv (k := g) rfl).2
    rw [Addr.add_lit] at hq ⊢
    simp only [World.cell?, Below.heap_alloc _ _ _ hlt] at hq ⊢
    exact hq
  have hown : (w.alloc (.cells #[] 57)).ownsRow w.heap.size 57 3 (.slice (some ⟨w.heap.size, 0, none⟩) 0 0) 0 [] := ⟨rfl, Or.inr ⟨_, 0, #[], rfl, Nat.le_refl _, heap_alloc_new _ _, by omega, by unfold maxLen; omega, rfl, rfl⟩⟩
  have Hl : Hid ((rowE es).length = es.length * 3) := rowE_len es
  obtain ⟨N, hN⟩ : ∃ N, es.length = N := ⟨_, rfl⟩
  rw [hN] at Hl hes h0 ⊢
  have Hown := hidden hown
  have q49 : (binOp .eql 49 (.slice (some ⟨g, 0, none⟩) N cap) (.slice none 0 0)).run Try.prog w = .ok (.bool false) w := Lib.run_eql_slice_nil w _ _ _ _ _ _ _ Try.underlying49
  clear hv hcs hN hown
  go_enter Try.func58, Try.ntmps58
  go_wp2_with (at_builtin; refine wpList_append_at _ rfl _ _ 49 rfl w.heap.size 57 i0 (.agg #[.int .i64 0, .string ⟨#[]⟩, .string ⟨#[]⟩]) 3 40 Try.underlying49 hi hz0 hz1 hz2 rfl (by decide) _ _ _ rfl Hown.out ⟨g, 0, none⟩ N cap (rowE es) rfl Hl.out HC.out (rowE_one es) (by unfold maxLen; omega) (by omega) (by simp) h0 ?_; intro v5 w5 hr5 hg5 hw5; have hq := row_slice hr5; obtain ⟨va, vc, rfl⟩ := hq; have HR := hidden hr5; have HG := hidden (grown_new (grownBy_alloc w (.cells #[] 57)) hg5 (Nat.le_refl _)); clear hr5 hg5 hw5)
  go_ret
  refine ⟨_, rfl, ?_, HG.out⟩
  have := HR.out
  rw [Nat.zero_add, List.nil_append] at this
  exact this

section
variable {B : Nat} {w : World} {H T : Nat} {l : List Nat} {c : Nat} {O : Nat → Prop} {ov dv uv : Value} {op : List Ed} {dn ud : List (Value × List Ed)}

set_option maxHeartbeats 2000000 in
theorem Redo_none {P : World → Prop} (hcl : Calls Try.prog 42 #[.pointer (some ⟨H, 0, none⟩)] w fun q w' => (∃ v, q = .returned v) ∧ (∃ c O ov dv uv dn, HP B w' H T l c O ov dv uv [] dn []) ∧ P w') :
    Calls Try.prog 35 #[.pointer (some ⟨H, 0, none⟩)] w fun q w' => q = .returned (.tuple #[.slice none 0 0, .int .i64 7]) ∧ P w' := by
  have Hcl := hidden hcl
  clear hcl
  go_enter Try.func35, Try.ntmps35
  go_wp2_with fail
  refine Hcl.out.mono ?_
  rintro q w1 ⟨⟨v, rfl⟩, ⟨c1, O1, ov1, dv1, uv1, dn1, h1⟩, hP⟩
  obtain ⟨da, dc, rfl⟩ := row_slice h1.urow
  have c3 := h1.cells.2.2.2
  simp only [List.length_nil] at c3
  have HP' := hidden hP
  clear h1 Hcl hP
  go_wp2
  go_ret2
  exact ⟨rfl, HP'.out⟩

theorem trs_snocD (h : HP B w H T l c O ov dv uv op dn ud) {t : Value × List Ed} (ht : TrAt B w ov t) : ∀ p ∈ dn ++ [t], TrAt B w ov p := by
  intro p hp
  rcases List.mem_append.1 hp with hp | hp
  · exact h.trs p (List.mem_append_left _ hp)
  · simp only [List.mem_singleton] at hp
    subst hp
    exact ht

set_option maxHeartbeats 4000000 in
theorem Redo_of {u0 : List (Value × List Ed)} {t : Value × List Ed} (h : HP B w H T l c O ov dv uv [] dn (u0 ++ [t])) (hc : c + 2 * t.2.length ≤ 4500) (hd : dn.length ≤ 100000) (hu : u0.length ≤ 100000) :
    Calls Try.prog 35 #[.pointer (some ⟨H, 0, none⟩)] w fun q w' => ∃ vo O' dv' uv', q = .returned (.tuple #[vo, .int .i64 0]) ∧ w'.ownsRow w.heap.size 57 3 vo t.2.length (rowE t.2) ∧ HP B w' H T (t.2.foldl appL l) (c + 2 * t.2.length) O' ov dv' uv' [] (dn ++ [t]) u0 ∧ Kept (HOwn H O ov dv uv dn (u0 ++ [t])) w w' ∧ (∀ k, k < w.heap.size → HOwn H O' ov dv' uv' (dn ++ [t]) u0 k → HOwn H O ov dv uv dn (u0 ++ [t]) k) := by
  obtain ⟨i0, hi, hz0, hz1, hz2⟩ := info_parts info49
  obtain ⟨X, hX⟩ : ∃ X, HOwn H O ov dv uv dn (u0 ++ [t]) = X := ⟨_, rfl⟩
  have hdv : ∃ g cap, uv = .slice (some ⟨g, 0, none⟩) (u0.length + 1) cap := by
    rcases h.urow.2 with ⟨_, e⟩ | ⟨g, cap, cur, e, _⟩
    · simp at e
    · exact ⟨g, cap, by rw [e]; simp⟩
  obtain ⟨g, cap, rfl⟩ := hdv
  have ht : TrAt B w ov t := h.trs _ (by simp)
  obtain ⟨tv, te⟩ := t
  dsimp only at hc ⊢
  have htr0 : w.ownsRow B 57 3 tv te.length (rowE te) := ht.1
  have hte0 : 0 < te.length := ht.2.2
  obtain ⟨gt, tc, rfl⟩ := own_some htr0 hte0
  have c1 := close_none h
  have c3 := h.cells.2.2.2
  have hrow := h.urow
  rw [List.length_append, List.length_singleton, List.map_append, List.map_singleton] at hrow
  have cl := past_last g u0.length cap B _ (.slice (some ⟨gt, 0, none⟩) te.length tc) w (by omega) hrow (by
    intro u hu'
    simp only [List.mem_append, List.mem_map, List.mem_singleton] at hu'
    have aux : ∀ p : Value × List Ed, TrAt B w ov p → p.1.oneCell' = true := fun p hp => by
      obtain ⟨a, b, e⟩ := row_slice hp.1
      rw [e]; rfl
    rcases hu' with ⟨p, hp, rfl⟩ | rfl
    · exact aux p (h.trs p (by simp [hp]))
    · exact aux _ ht) (by simp)
  rw [List.take_left' (by simp)] at cl
  have Cl := hidden cl
  have C1 := hidden c1
  have H1 := hidden h
  have HT := hidden ht
  have hnz : ¬ ((u0.length : Int) + 1 = 0) := by omega
  have Hc := hidden hc
  have Hd := hidden hd
  have Hu := hidden hu
  have HX := hidden hX
  rw [hX]
  clear h cl c1 ht hrow hc hd hu hX htr0
  go_enter Try.func35, Try.ntmps35
  go_wp2_with fail
  refine C1.out.mono ?_
  rintro q w1 ⟨⟨v1, rfl⟩, rfl⟩
  clear C1
  go_wp2_with fail
  refine Cl.out.mono ?_
  rintro q w2 ⟨rfl, hr2, hg2⟩
  obtain ⟨h3, hK3, hX3, hT3⟩ := H1.out.setU u0 (fun p hp => H1.out.trs p (by simp [hp])) hr2 hg2 (Or.inl rfl)
  have hh2 : w2.heap[H]? = some (.cells #[.pointer (some ⟨T, 0, none⟩), ov, dv, .slice (some ⟨g, 0, none⟩) (u0.length + 1) cap] 91 (0, 0)) := (hg2.block H H1.out.lt (fun e => row_head H1.out.urow H1.out.head (by decide) e.symm)).trans H1.out.head
  have e2 : w2.cell? ⟨H, 2, none⟩ = some dv := by simp only [World.cell?, hh2]; rfl
  have e3 : w2.cell? ⟨H, 3, none⟩ = some (.slice (some ⟨g, 0, none⟩) (u0.length + 1) cap) := by simp only [World.cell?, hh2]; rfl
  have f3 : w2.frozen? ⟨H, 3, none⟩ = false := frozen_of_row w2 H 3 _ 91 hh2
  have HT3 := hidden (hT3 _ HT.out)
  have H3 := hidden h3
  have HK3 : Hid (Kept X w1 (w2.setCell ⟨H, 3, none⟩ (.slice (some ⟨g, 0, none⟩) u0.length cap))) := by rw [← HX.out]; exact hK3
  have HX3 : Hid (∀ k, k < w1.heap.size → HOwn H O ov dv (.slice (some ⟨g, 0, none⟩) u0.length cap) dn u0 k → X k) := fun k hk ho => by
    rw [← HX.out]
    rcases hX3 k hk ho with q | ⟨p, hp, q⟩
    · exact q
    · exact Or.inr (Or.inr (Or.inr (Or.inr (Or.inr ⟨p, by simp [hp], q⟩))))
  have HXt : Hid (∀ k, k < w1.heap.size → Value.ownBlock (.slice (some ⟨gt, 0, none⟩) te.length tc) = some k → X k) := fun k hk q => by
    rw [← HX.out]
    exact Or.inr (Or.inr (Or.inr (Or.inr (Or.inr ⟨(.slice (some ⟨gt, 0, none⟩) te.length tc, te), by simp, q⟩))))
  clear Cl hr2 hg2 h3 hK3 hX3 hT3 hh2 c3 H1 HT
  have H4 := hidden (H3.out.grown (grownBy_alloc _ (.cells #[.slice (some ⟨gt, 0, none⟩) te.length tc] 49)))
  have HTa : Hid (TrAt B ((w2.setCell ⟨H, 3, none⟩ (.slice (some ⟨g, 0, none⟩) u0.length cap)).alloc (.cells #[.slice (some ⟨gt, 0, none⟩) te.length tc] 49)) ov (.slice (some ⟨gt, 0, none⟩) te.length tc, te)) := ⟨row_same HT3.out.1 (fun k hk => Below.heap_alloc _ _ _ (own_lt_row HT3.out.1 hk).2), HT3.out.2⟩
  have HK4 : Hid (Kept X w1 ((w2.setCell ⟨H, 3, none⟩ (.slice (some ⟨g, 0, none⟩) u0.length cap)).alloc (.cells #[.slice (some ⟨gt, 0, none⟩) te.length tc] 49))) := HK3.out.trans (O' := X) (kept_none (grownBy_alloc _ _)) (fun _ _ h => h)
  obtain ⟨da, dc, rfl⟩ := row_slice H4.out.drow
  go_wp2_with (at_builtin; refine wpList_append_at _ rfl _ _ 48 rfl B 49 i0 (.slice none 0 0) 1 24 Try.underlying48 hi hz0 hz1 hz2 rfl (by decide) _ _ _ rfl H4.out.drow ⟨(w2.setCell ⟨H, 3, none⟩ (.slice (some ⟨g, 0, none⟩) u0.length cap)).heap.size, 0, none⟩ 1 1 [.slice (some ⟨gt, 0, none⟩) te.length tc] (by simp [Act.eval]) rfl (cells1e _ _) (by intro u hu; simp at hu; subst hu; rfl) (by have := Hd.out; unfold maxLen; omega) (by have := Hd.out; omega) H4.out.bs (by decide) ?_; intro v5 w5 hr5 hg5 hw5; have hq := row_slice hr5; obtain ⟨va, vc, rfl⟩ := hq; have hh5 := (hg5.block H H4.out.lt (fun e => row_head H4.out.drow H4.out.head (by decide) e.symm)).trans H4.out.head; have k2 : w5.cell? ⟨H, 2, none⟩ = some (.slice da dn.length dc) := (by simp only [World.cell?, hh5]; rfl); have g2 : w5.frozen? ⟨H, 2, none⟩ = false := frozen_of_row w5 H 2 _ 91 hh5; have HSU := hidden (H4.out.setD (dn ++ [(.slice (some ⟨gt, 0, none⟩) te.length tc, te)]) (trs_snocD H4.out HTa.out) (by rw [List.length_append, List.length_singleton, List.map_append, List.map_singleton]; exact hr5) hg5 hw5); clear hr5 hg5 hw5 hh5)
  obtain ⟨h6, hK6, hX6, hT6⟩ := HSU.out
  have H6 := hidden h6
  have HK6 : Hid (Kept X w1 (w5.setCell ⟨H, 2, none⟩ (.slice va (dn.length + 1) vc))) := HK4.out.trans hK6 (fun i hi ho => HX3.out i hi ho)
  have HX6 : Hid (∀ k, k < w1.heap.size → HOwn H O ov (.slice va (dn.length + 1) vc) (.slice (some ⟨g, 0, none⟩) u0.length cap) (dn ++ [(.slice (some ⟨gt, 0, none⟩) te.length tc, te)]) u0 k → X k) := fun k hk ho => by
    rcases hX6 k (Nat.lt_of_lt_of_le hk HK4.out.size) ho with q | ⟨p, hp, q⟩
    · exact HX3.out k hk q
    · rcases List.mem_append.1 hp with hp | hp
      · exact HX3.out k hk (Or.inr (Or.inr (Or.inr (Or.inr (Or.inr ⟨p, by simp [hp], q⟩)))))
      · simp only [List.mem_singleton] at hp
        subst hp
        exact HXt.out k hk q
  clear HSU h6 hK6 hX6 hT6 k2 g2 e2 e3 f3 H3 H4 HTa HK4 HK3 HX3 HXt HT3 HX
  generalize (w5.setCell ⟨H, 2, none⟩ (.slice va (dn.length + 1) vc)) = W6 at *
  obtain ⟨n, hn⟩ : ∃ n, te.length = n := ⟨_, rfl⟩
  have Hn := hidden hn
  rw [hn] at H6 HX6 Hc ⊢
  clear hn
  go_loopw [44] (fun i wr => ∃ (k : Nat) (O' : Nat → Prop), k ≤ n ∧ i = .int .i64 (k : Nat) ∧ HP B wr H T ((te.take k).foldl appL l) (c + 2 * k) O' ov (.slice va (dn.length + 1) vc) (.slice (some ⟨g, 0, none⟩) u0.length cap) [] (dn ++ [(.slice (some ⟨gt, 0, none⟩) n tc, te)]) u0 ∧ Kept X w1 wr ∧ (∀ k, k < w1.heap.size → HOwn H O' ov (.slice va (dn.length + 1) vc) (.slice (some ⟨g, 0, none⟩) u0.length cap) (dn ++ [(.slice (some ⟨gt, 0, none⟩) n tc, te)]) u0 k → X k)) (fun i _ => n - (intOf i).toNat)
  case atStart => exact ⟨0, O, Nat.zero_le _, rfl, H6.out, HK6.out, HX6.out⟩
  case round =>
    obtain ⟨k, O', hk, rfl, hP, hK, hX⟩ := hrel
    have htr := (hP.trs (.slice (some ⟨gt, 0, none⟩) n tc, te) (by simp)).1
    dsimp only at htr
    rw [Hn.out] at htr
    by_cases hlt : k < n
    · obtain ⟨e, he⟩ : ∃ e, te[k]? = some e := ⟨_, List.getElem?_eq_getElem (by have := Hn.out; omega)⟩
      obtain ⟨x0, x1, x2⟩ := row_cells3 htr he
      have hkz : (k : Int) < (n : Int) := by omega
      have q3 : IntKind.i64.wrap ((k : Int) + 1) = ((k + 1 : Nat) : Int) := by push_cast; exact IntWalk.i64_in _ (by have := Hc.out; omega)
      have Hs : Hid ((te.take (k + 1)).foldl appL l = appL ((te.take k).foldl appL l) e) := by
        unfold Hid
        rw [List.take_add_one, he, Option.toList_some, List.foldl_append]; rfl
      have hga := grownBy_alloc wr (.cells #[.int .i64 e.at', .string e.old, .string e.new] 57)
      have HPa := hidden (hP.grown hga)
      have HKa : Hid (Kept X w1 (wr.alloc (.cells #[.int .i64 e.at', .string e.old, .string e.new] 57))) := hK.trans (O' := X) (kept_none hga) (fun _ _ h => h)
      have HXa := hidden hX
      clear hP hK hX htr he hga
      go_wp2_with fail
      refine (apply_any HPa.out.tx (by have := Hc.out; omega) _ HPa.out.head rfl e).mono ?_
      rintro q w8 ⟨⟨v8, rfl⟩, O8, hT8, hK8, hO8⟩
      have HP8 := hidden (HPa.out.text hT8 hK8)
      have HK8 : Hid (Kept X w1 w8) := HKa.out.trans hK8 (fun i hi ho => HXa.out i hi (Or.inr (Or.inl ho)))
      have HX8 : Hid (∀ k, k < w1.heap.size → HOwn H O8 ov (.slice va (dn.length + 1) vc) (.slice (some ⟨g, 0, none⟩) u0.length cap) (dn ++ [(.slice (some ⟨gt, 0, none⟩) n tc, te)]) u0 k → X k) := fun k hk ho => HXa.out k hk (HOwn.text ho (hO8 k (Nat.lt_of_lt_of_le hk HKa.out.size)))
      clear hT8 hK8 hO8 HPa HKa HXa x0 x1 x2
      go_wp2
      go_roundw
      case rel => exact ⟨k + 1, O8, by omega, rfl, by rw [Hs.out, show c + 2 * (k + 1) = c + 2 * k + 2 by omega]; exact HP8.out, HK8.out, HX8.out⟩
      case measure => simp [intOf]; omega
    · have hkz : ¬ ((k : Int) < (n : Int)) := by omega
      obtain rfl : k = n := by omega
      have hall : te.take k = te := List.take_of_length_le (by have := Hn.out; omega)
      rw [hall] at hP
      have h0 : 0 < te.length := (hP.trs (.slice (some ⟨gt, 0, none⟩) k tc, te) (by simp)).2.2
      have C9 := clone_some te h0 (by have := Hn.out; have := Hc.out; omega) _ (by rw [Hn.out]; exact htr)
      rw [Hn.out] at C9
      have C9' := hidden C9
      have HP9 := hidden hP
      have HK9 := hidden hK
      have HX9 := hidden hX
      clear hP hK hX htr hall h0 C9
      go_wp2_with fail
      refine C9'.out.mono ?_
      rintro q w9 ⟨vo, rfl, hr9, hg9⟩
      obtain ⟨xa, xc, rfl⟩ := row_slice hr9
      have HR : Hid (w9.ownsRow w1.heap.size 57 3 (.slice xa k xc) k (rowE te)) := by
        obtain ⟨q0, q1⟩ := hr9
        refine ⟨q0, ?_⟩
        rcases q1 with q1 | ⟨g', cap', cur, e1, e2, e3⟩
        · exact Or.inl q1
        · exact Or.inr ⟨g', cap', cur, e1, Nat.le_trans HK9.out.size e2, e3⟩
      have HPf := hidden (HP9.out.grown hg9)
      have HKf : Hid (Kept X w1 w9) := HK9.out.trans (O' := X) (kept_none hg9) (fun _ _ h => h)
      clear hr9 hg9 C9' HP9 HK9
      go_wp2
      go_ret2
      obtain rfl := Hn.out
      exact ⟨_, _, _, _, rfl, HR.out, HPf.out, HKf.out, HX9.out⟩
end
end Go.Proofs.PlatenPiece
