/- The bytes of a table's pieces behind an Insert; Inserts that change nothing; the table's blocks are there. -/
import Derived.Test.YtibdhahkkejnjaaTabI
import Derived.Test.YtibdhahkkejnjaaTabK
namespace Go.Proofs.PlatenPiece
open Go Go.RowKit
set_option linter.unusedVariables false

theorem flat_take_drop (ps : List Pc) (i : Nat) : flat (ps.take i) ++ flat (ps.drop i) = flat ps := by rw [← flat_app, List.take_append_drop]
theorem flat_cut (ps : List Pc) (i at' : Nat) (h : lenSum (ps.take i) = at') : (flat ps).take at' = flat (ps.take i) ∧ (flat ps).drop at' = flat (ps.drop i) := by
  have hl := flat_len (ps.take i)
  rw [← flat_take_drop ps i]
  constructor
  · rw [List.take_append_of_le_length (by omega), List.take_of_length_le (by omega)]
  · rw [List.drop_append, List.drop_of_length_le (by omega), List.nil_append, show at' - (flat (ps.take i)).length = 0 by omega, List.drop_zero]

theorem Cut.flat {ps ps' : List Pc} {at' i : Nat} (h : Cut ps at' i ps') : flat ps' = PlatenPiece.flat ps ∧ lenSum (ps'.take i) = at' := by
  rcases h with ⟨rfl, _, h⟩ | ⟨j, p, n, q1, q2, hp, hl, h0, h1, rfl, rfl⟩
  · exact ⟨rfl, h⟩
  · have hj : j < ps.length := (List.getElem?_eq_some_iff.1 hp).1
    constructor
    · rw [flat_app, flat_app, flat_at hp]
      congr 1
      show (p.l.take n ++ (p.l.drop n ++ [])) ++ _ = _
      rw [List.append_nil, List.take_append_drop]
    · rw [List.take_append, List.take_of_length_le (by rw [List.length_take]; omega), lenSum_app, List.length_take, show j + 1 - min j ps.length = 1 by omega]
      simp only [List.cons_append, List.nil_append, List.take_succ_cons, List.take_zero, lenSum, List.length_take]
      omega

theorem Ins.flat {ps ps' : List Pc} {at' : Nat} {l : List Nat} {a : Int} (h : Ins ps at' l a ps') : flat ps' = (PlatenPiece.flat ps).take at' ++ (l ++ (PlatenPiece.flat ps).drop at') := by
  obtain ⟨i, ps1, hc, hh⟩ := h
  have hle := hc.le
  obtain ⟨e1, e2⟩ := hc.flat
  obtain ⟨f1, f2⟩ := flat_cut ps1 i at' e2
  rw [← e1, f1, f2]
  rcases hh with ⟨_, q, rfl⟩ | ⟨hi0, ha0, p, q, hp, hpk, rfl⟩
  · rw [flat_app, flat_app]
    congr 1
    show (l ++ []) ++ _ = _
    rw [List.append_nil]
  · have hi1 : i - 1 < ps1.length := (List.getElem?_eq_some_iff.1 hp).1
    have et : ps1.take i = ps1.take (i - 1) ++ [p] := by
      have := List.take_add_one (i := i - 1) (l := ps1)
      rw [show i - 1 + 1 = i by omega, hp] at this
      simpa using this
    rw [flat_app, flat_app, et, flat_app, List.append_assoc]
    congr 1
    show ((p.l ++ l) ++ []) ++ _ = (p.l ++ []) ++ _
    rw [List.append_nil, List.append_nil, List.append_assoc]
theorem Ins.sum {ps ps' : List Pc} {at' : Nat} {l : List Nat} {a : Int} (h : Ins ps at' l a ps') (hat : at' ≤ lenSum ps) : lenSum ps' = lenSum ps + l.length := by
  have e := congrArg List.length h.flat
  rw [flat_len, List.length_append, List.length_append, List.length_take, List.length_drop, flat_len] at e
  omega
theorem Ins.len {ps ps' : List Pc} {at' : Nat} {l : List Nat} {a : Int} (h : Ins ps at' l a ps') : ps'.length ≤ ps.length + 2 := by
  obtain ⟨i, ps1, hc, hh⟩ := h
  have hle := hc.le
  rcases hh with ⟨_, q, rfl⟩ | ⟨hi0, ha0, p, q, hp, hpk, rfl⟩
  · simp only [List.length_append, List.length_take, List.length_drop, List.length_cons, List.length_nil]; omega
  · simp only [List.length_append, List.length_take, List.length_drop, List.length_cons, List.length_nil]; omega

theorem own_lt_row {B : Nat} {w : World} {e : TypeId} {s n : Nat} {v : Value} {xs : List Value} (h : w.ownsRow B e s v n xs) {k : Nat} (hk : v.ownBlock = some k) : B ≤ k ∧ k < w.heap.size := h.lt k hk
theorem Tab.own_lt {B : Nat} {w : World} {T : Nat} {pv : Value} {ps : List Pc} {s a : Int} (h : Tab B w T pv ps s a) {k : Nat} (hk : Own T pv ps k) : B ≤ k ∧ k < w.heap.size := by
  rcases hk with rfl | hk | ⟨p, hp, hk⟩
  · exact ⟨h.low, h.lt⟩
  · exact own_lt_row h.row hk
  · exact own_lt_row (h.good p hp).1 hk
theorem Kept.bel {B : Nat} {w w' : World} {T : Nat} {pv : Value} {ps : List Pc} {s a : Int} (hK : Kept (Own T pv ps) w w') (h : Tab B w T pv ps s a) (hB : B ≤ w.heap.size) : Below B w w' :=
  hK.below hB (fun k hk => (h.own_lt hk).1)

theorem src_new (w : World) (l : List Nat) (cap : Nat) : Src (w.alloc (.cells (bytesV l).toArray 5)) (.slice (some ⟨w.heap.size, 0, none⟩) l.length cap) l := by
  refine Or.inr ⟨_, _, rfl, fun j u hj => ?_⟩
  have hh : (w.alloc (.cells (bytesV l).toArray 5)).heap[w.heap.size]? = some (.cells (bytesV l).toArray 5 (0, 0)) := heap_alloc_new w _
  rw [Addr.add_lit]
  simp only [World.cell?, hh, Nat.zero_add]
  simpa using hj
theorem out_new {B : Nat} {w : World} {T : Nat} {pv : Value} {ps : List Pc} {s a : Int} (h : Tab B w T pv ps s a) (m c : Nat) : Outside (Own T pv ps) (.slice (some ⟨w.heap.size, 0, none⟩) m c) := by
  intro b hb ho
  have h1 : w.heap.size = b := by simpa [Value.ownBlock] using hb
  have := (h.own_lt ho).2
  omega
end Go.Proofs.PlatenPiece
