/- The iterator that goes through the ways back of edits, from the last one on. -/
import Derived.Test.YtibdhahkkejnjaaPsL
import Derived.RangeFuncNested
import Derived.RangeFuncBound
import Derived.RangeFuncCalls
import Derived.RangeFuncLeaves
import Derived.Shelf.Abstract
import Derived.Shelf.RegionOpen
import Derived.WalkKit
import Derived.OwnWalkIn
import Derived.TacticsInMore
import Derived.LoopNIn
import Derived.LoopIn
namespace Go.Proofs.PlatenPiece
open Go Go.RowKit Go.Shelf
set_option linter.unusedVariables false
set_option maxRecDepth 100000
attribute [local go_sem] Oper.semAt_some

/-- The first k ways back. -/
def bks (es : List Ed) (k : Nat) : List Ed := (es.reverse.map Ed.back).take k
theorem bks_succ (es : List Ed) (k : Nat) (e : Ed) (h : es[es.length - 1 - k]? = some e) (hk : k < es.length) : bks es (k + 1) = bks es k ++ [e.back] := by
  unfold bks
  rw [List.take_add_one]
  congr 1
  rw [List.getElem?_map, List.getElem?_reverse hk, h]
  rfl
theorem bks_all (es : List Ed) : bks es es.length = es.reverse.map Ed.back := by
  unfold bks
  exact List.take_of_length_le (by simp)

/-- Two blocks stand. -/
def Two (b g : Nat) (A A' : World) : Prop := A'.heap[b]? = A.heap[b]? ∧ A'.heap[g]? = A.heap[g]?
theorem two_t {b g : Nat} {A A' A'' : World} (h : Two b g A A') (k : Two b g A' A'') : Two b g A A'' := ⟨k.1.trans h.1, k.2.trans h.2⟩

/-- What the iterator reads. -/
structure Rd (b : Nat) (v : Value) (g cap : Nat) (es : List Ed) (W : World) : Prop where
  hb : W.heap[b]? = some (.cells #[v] 49 (0, 0))
  hv : v = .slice (some ⟨g, 0, none⟩) es.length cap
  hg : ∃ cur, W.heap[g]? = some (.cells cur 57 (0, 0)) ∧ cur.toList.take (es.length * 3) = rowE es
theorem Rd.two {b g cap : Nat} {v : Value} {es : List Ed} {W W' : World} (h : Rd b v g cap es W) (k : Two b g W W') : Rd b v g cap es W' := by
  obtain ⟨cur, h1, h2⟩ := h.hg
  exact ⟨k.1.trans h.hb, h.hv, cur, k.2.trans h1, h2⟩
theorem Rd.grown {b g cap : Nat} {v : Value} {es : List Ed} {W W' : World} (h : Rd b v g cap es W) (k : W.grownBy W' none) : Rd b v g cap es W' := by
  obtain ⟨cur, h1, h2⟩ := h.hg
  exact h.two ⟨k.block b (Array.getElem?_eq_some_iff.1 h.hb).1 (by simp), k.block g (Array.getElem?_eq_some_iff.1 h1).1 (by simp)⟩
theorem Rd.cells {b g cap : Nat} {v : Value} {es : List Ed} {W : World} (h : Rd b v g cap es W) {i : Nat} {e : Ed} (he : es[i]? = some e) :
    W.cell? ⟨g, i * 3, none⟩ = some (.int .i64 e.at') ∧ W.cell? ⟨g, i * 3 + 1, none⟩ = some (.string e.old) ∧ W.cell? ⟨g, i * 3 + 2, none⟩ = some (.string e.new) := by
  obtain ⟨cur, h1, h2⟩ := h.hg
  have hi : i < es.length := (List.getElem?_eq_some_iff.1 he).1
  have key : ∀ j, j < 3 → cur[i * 3 + j]? = e.row[j]? := by
    intro j hj
    rw [← rowE_at es i e he j hj, ← h2, List.getElem?_take_of_lt (by omega), Array.getElem?_toList]
  have k0 := key 0 (by decide)
  have k1 := key 1 (by decide)
  have k2 := key 2 (by decide)
  simp only [World.cell?, h1]
  exact ⟨k0, k1, k2⟩

set_option maxHeartbeats 2000000 in
theorem backs_call (v : Value) (w : World) (hv : ∃ va n vc, v = .slice va n vc) :
    Calls Try.prog 70 #[v] w fun e w' => e = .returned (.func (.func 75) #[] #[.pointer (some ⟨w.heap.size, 0, none⟩)]) ∧ w' = w.alloc (.cells #[v] 49) := by
  obtain ⟨va, n, vc, rfl⟩ := hv
  go_enter Try.func70, Try.ntmps70
  go_wp2
  go_ret
  exact ⟨rfl, rfl⟩

set_option maxHeartbeats 4000000 in
theorem backs1 (n l b g cap : Nat) (v : Value) (es : List Ed) (hes : es.length ≤ 100000) (h0 : 0 < es.length) (J Jx : List Ed → World → Prop) (hJ : ∀ s W W', J s W → W.grownBy W' none → J s W')
    (hY : ∀ pre x W, J pre W → pre.length < es.length → YieldAt Fence.wide (n - 1) Try.prog l #[.agg #[.int .i64 x.at', .string x.old, .string x.new]] W fun e W' =>
      (e = .returned (.bool true) ∧ J (pre ++ [x]) W' ∧ Two b g W W') ∨ (e = .returned (.bool false) ∧ Jx (pre ++ [x]) W'))
    (W : World) (hR : Rd b v g cap es W) (hJ0 : J [] W) :
    CallsIn Fence.wide n Try.prog 75 #[.func (.yield l) #[] #[], .pointer (some ⟨b, 0, none⟩)] W fun e W' => (∃ v, e = .returned v) ∧
      ((∃ ys, ys = es.reverse.map Ed.back ∧ J ys W') ∨ (∃ pre : List Ed, True ∧ Jx pre W')) := by
  have hc0 : W.cell? ⟨b, 0, none⟩ = some (.slice (some ⟨g, 0, none⟩) es.length cap) := by rw [← hR.hv]; simp only [World.cell?, hR.hb]; rfl
  obtain ⟨N, hN⟩ : ∃ N, es.length = N := ⟨_, rfl⟩
  have HN := hidden hN
  have HJ := hidden hJ
  have HY := hidden hY
  have HR := hidden hR
  have HJ0 := hidden hJ0
  rw [hN] at hc0 hes h0
  clear hN hJ hY hR hJ0
  refine callsIn_of_wp Try.func75 rfl trivial ?_ rfl
  simp only [Try.ntmps75, List.size_toArray, List.length_cons, List.length_nil, Nat.reduceAdd, Nat.reduceSub, Array.replicate_succ, Array.replicate_zero, List.push_toArray, List.append_toArray, List.nil_append, List.cons_append]
  gi_wp2
  gi_loopw [6] (fun i wr => ∃ k : Nat, k ≤ N ∧ i = .int .i64 (k : Nat) ∧ J (bks es k) wr ∧ Rd b v g cap es wr) (fun i _ => N - (intOf i).toNat)
  case atStart => exact ⟨0, Nat.zero_le _, rfl, by simpa [bks] using HJ0.out, HR.out⟩
  case round =>
    obtain ⟨k, hk, rfl, hJk, hRk⟩ := hrel
    by_cases hlt : k < N
    · obtain ⟨m, hm⟩ : ∃ m : Nat, (N : Int) - 1 - (k : Int) = (m : Int) := ⟨N - 1 - k, by omega⟩
      have hm1 : m < N := by omega
      have hidx : es.length - 1 - k = m := by have := HN.out; omega
      obtain ⟨e, he⟩ : ∃ e, es[m]? = some e := ⟨_, List.getElem?_eq_getElem (by have := HN.out; omega)⟩
      have hc1 : wr.cell? ⟨b, 0, none⟩ = some (.slice (some ⟨g, 0, none⟩) N cap) := by rw [← HN.out, ← hRk.hv]; simp only [World.cell?, hRk.hb]; rfl
      obtain ⟨x0, x1, x2⟩ := hRk.cells he
      have hsucc := bks_succ es k e (by rw [hidx]; exact he) (by have := HN.out; omega)
      have hlen : (bks es k).length < es.length := by unfold bks; rw [List.length_take]; have := HN.out; omega
      have Hsucc := hidden hsucc
      have Hlen := hidden hlen
      have HJk := hidden hJk
      have HRk := hidden hRk
      have hkz : (k : Int) < (N : Int) := by omega
      have hmz : (m : Int) < (N : Int) := by omega
      have q1 : IntKind.i64.wrap ((N : Int) - 1) = (N : Int) - 1 := IntWalk.i64_in _ (by omega)
      have q2 : IntKind.i64.wrap ((N : Int) - 1 - (k : Int)) = (m : Int) := by rw [hm]; exact IntWalk.i64_in _ (by omega)
      have q3 : IntKind.i64.wrap ((k : Int) + 1) = ((k + 1 : Nat) : Int) := by push_cast; exact IntWalk.i64_in _ (by omega)
      clear hsucc hlen hJk hRk he hidx hm
      gi_wp2
      refine ⟨trivial, fun h => (by cases h), ?_⟩
      refine (callsIn_wide.2 (ed_back _ _ _ _)).mono ?_
      rintro e1 w1 ⟨rfl, hb1⟩
      have hg1 := grown_of_below hb1
      have HR1 := hidden (HRk.out.grown hg1)
      obtain ⟨fn, tmps, assign, body, hy, hRd⟩ := HY.out _ e.back _ (HJ.out _ _ _ HJk.out hg1) Hlen.out
      dsimp only [Ed.back] at hy
      clear hb1 hg1 x0 x1 x2 hc1
      gi_wp2
      refine ⟨fun h => (by cases h), ?_⟩
      refine hRd.mono ?_
      rintro e3 W3 (⟨rfl, hJ3, hk3⟩ | ⟨rfl, hJx3⟩)
      · have HR3 := hidden (HR1.out.two hk3)
        have HJ3 := hidden hJ3
        clear hJ3 hk3
        gi_wp2
        go_roundw
        case rel => exact ⟨k + 1, by omega, rfl, by rw [Hsucc.out]; exact HJ3.out, HR3.out⟩
        case measure => simp [intOf]; omega
      · gi_wp2
        refine bodyPost_ret (results_none rfl _ _ _) rfl ?_
        exact ⟨⟨_, rfl⟩, Or.inr (by first | exact ⟨_, trivial, hJx3⟩ | exact ⟨_, hJx3⟩)⟩
    · have hkz : ¬ ((k : Int) < (N : Int)) := by omega
      have hkn : k = N := by omega
      have HJk := hidden hJk
      have Hkn := hidden hkn
      clear hJk hRk hkn
      gi_wp2
      go_end0
      have hf := HJk.out
      rw [Hkn.out, ← HN.out, bks_all] at hf
      exact ⟨⟨_, rfl⟩, Or.inl (by rw [List.map_reverse] at hf; exact hf)⟩

theorem backs_stops (n b g cap : Nat) (v : Value) (es : List Ed) (hes : es.length ≤ 100000) (h0 : 0 < es.length) (w : World) (hR : Rd b v g cap es w) (hbw : b < w.heap.size) (hgw : g < w.heap.size) :
    SeqStopsK Fence.wide n Try.prog 75 #[.pointer (some ⟨b, 0, none⟩)] (fun x : Ed => #[.agg #[.int .i64 x.at', .string x.old, .string x.new]]) (Two b g) (fun ys => ys = es.reverse.map Ed.back) (fun _ => True) es.length w := fun l J Jx W hW hJ _ hY hJ0 =>
  backs1 n l b g cap v es hes h0 J Jx (fun s W W' h hg => hJ s W W' none h hg (fun r e => by cases e)) hY W (hR.two ⟨hW.block b hbw, hW.block g hgw⟩) hJ0
end Go.Proofs.PlatenPiece
