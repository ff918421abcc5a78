/- What layout.Sizes comes to. -/
import Derived.Test.YtaefnlknendapaaLyA
namespace Go.Proofs.PlatenLayout
open Go Go.RowKit Go.Shelf
set_option linter.unusedVariables false
set_option maxRecDepth 100000

theorem stop {p : Prop} (h : Hid p) : p := h.out
theorem one1 (k : IntKind) (x : Int) : ∀ u ∈ [Value.int k x], u.oneCell' = true := by
  intro u hu
  simp at hu
  subst hu
  rfl
theorem grown_below {w w' : World} (h : Below w.heap.size w w') : w.grownBy w' none := ⟨h.os, h.tape, h.output, h.size, fun k hk _ => h.block k hk⟩
theorem SZ.below {B G V n T : Nat} {w0 w w' : World} {pv : Value} {z : List Int} {P : List Nat} (h : SZ B G V w0 w n pv T z P) (hb : Below w.heap.size w w') : SZ B G V w0 w' n pv T z P := h.grown (grown_below hb)
/-- []byte of a text. -/
theorem conv_bytes (w : World) (l : List Nat) (h : ∀ c ∈ l, c < 256) (hl : l.length ≤ 100000) : ∃ cap w2, (convert 9 33 (.string (str l))).run Try.prog w = .ok (.slice (some ⟨w.heap.size, 0, none⟩) l.length cap) w2 ∧ PlatenGlyph.IsBytes w2 (.slice (some ⟨w.heap.size, 0, none⟩) l.length cap) l.length (fun j => l.getD j 0) ∧ w.grownBy w2 none := by
  have hs := str_size l
  refine ⟨grownCap w l.length 0 5, _, by rw [run_bytes_of_string (P := Try.prog) w 9 33 5 (str l) Try.underlying9 Try.underlying33 Try.underlying5, hs], ⟨fun j => ?_, by omega, Or.inr ⟨_, 0, _, rfl, ?_, fun j hj => ?_⟩⟩, ?_⟩
  · show l.getD j 0 < 256
    rw [List.getD_eq_getElem?_getD]
    cases hj : l[j]? with
    | none => decide
    | some c => exact h c (List.mem_of_getElem? hj)
  · have := grownCap_ge w l.length 0 5; omega
  · have hh : ∀ o, (w.drew.alloc o).heap[w.heap.size]? = some o := fun o => heap_alloc_new w.drew o
    simp only [World.cell?, hh]
    have hj3 : j < (str l).size := by rw [hs]; exact hj
    have hj4 : j < (l.map UInt8.ofNat).length := by simpa using hj
    have hc := h l[j] (List.getElem_mem hj)
    simp [bytesRow, Array.getElem?_append, hj, str, List.getD_eq_getElem?_getD]
    omega
  · exact ⟨rfl, rfl, rfl, by simp, fun k hk _ => Below.heap_alloc w.drew _ k hk⟩
/-- Numbers in memory, to be read. -/
def IsZ (w : World) (u : Value) (z : List Int) : Prop := ∃ a cap, u = .slice a z.length cap ∧ z.length ≤ cap ∧ (0 < z.length → ∃ g X, a = some ⟨g, 0, none⟩ ∧ w.heap[g]? = some (Obj.cells X 3 (0, 0)) ∧ ∀ (j : Nat) (x : Int), z[j]? = some x → X[j]? = some (.int .i64 x))
theorem IsZ.of {w w' : World} {v : Value} {l : List Int} (h : IsZ w v l) (hb : ∀ (k : Nat) (x : Array Value), w.heap[k]? = some (Obj.cells x 3 (0, 0)) → w'.heap[k]? = some (Obj.cells x 3 (0, 0))) : IsZ w' v l := by
  obtain ⟨a, cap, e, hc, h⟩ := h
  refine ⟨a, cap, e, hc, fun h0 => ?_⟩
  obtain ⟨g, X, e1, h1, h2⟩ := h h0
  exact ⟨g, X, e1, hb g X h1, h2⟩
theorem IsZ.below {w w' : World} {v : Value} {l : List Int} (h : IsZ w v l) (hb : Below w.heap.size w w') : IsZ w' v l :=
  h.of fun k x hk => (hb.block k (Array.getElem?_eq_some_iff.1 hk).1).trans hk
theorem IsZ.at' {w : World} {v : Value} {l : List Int} (h : IsZ w v l) {j : Nat} {x : Int} (hj : l[j]? = some x) : ∃ g cap, v = .slice (some ⟨g, 0, none⟩) l.length cap ∧ l.length ≤ cap ∧ w.cell? ⟨g, j, none⟩ = some (.int .i64 x) := by
  obtain ⟨a, cap, e, hc, h⟩ := h
  obtain ⟨g, X, e1, h1, h2⟩ := h (by have := (List.getElem?_eq_some_iff.1 hj).1; omega)
  subst e1
  exact ⟨g, cap, e, hc, by simp only [World.cell?, h1]; exact h2 j x hj⟩
theorem isZ_of {w : World} {B : Nat} {v : Value} {l : List Int} (h : w.ownsRow B 3 1 v l.length (zs l)) : IsZ w v l := by
  rcases h.2 with ⟨e, h0⟩ | ⟨g, cap, cur, e, hb, hg, hnc, hcm, hcs, ht⟩
  · exact ⟨none, 0, by rw [e, h0], by omega, fun q => by omega⟩
  · refine ⟨_, cap, e, hnc, fun _ => ⟨g, cur, rfl, hg, fun j x hj => ?_⟩⟩
    have hil : j < l.length := (List.getElem?_eq_some_iff.1 hj).1
    have h2 : (zs l)[j]? = some (.int .i64 x) := by simp [zs, hj]
    rw [← ht, List.getElem?_take, if_pos (by omega), Array.getElem?_toList] at h2
    exact h2
/-- All sizes. -/
def szs (l : List It) : List Int := (List.range l.length).map fun i => ((size (l.drop i) : Nat) : Int)
theorem szs_len (l : List It) : (szs l).length = l.length := by simp [szs]
theorem szs_get (l : List It) {i : Nat} (h : i < l.length) : (szs l)[i]? = some ((size (l.drop i) : Nat) : Int) := by simp [szs, h]
/-- The open groups, as cells. -/
def rowO (O : List (Nat × Nat)) : List Value := O.flatMap fun o => [.int .i64 (o.1 : Nat), .int .i64 (o.2 : Nat)]
theorem rowO_app (a b : List (Nat × Nat)) : rowO (a ++ b) = rowO a ++ rowO b := by simp [rowO]
theorem rowO_len (O : List (Nat × Nat)) : (rowO O).length = O.length * 2 := by
  induction O with
  | nil => rfl
  | cons x r ih => show ([_, _] ++ rowO r).length = _; rw [List.length_append, ih]; simp only [List.length_cons, List.length_nil]; omega
theorem rowO_get (O : List (Nat × Nat)) (k : Nat) (o : Nat × Nat) (h : O[k]? = some o) : (rowO O)[k * 2]? = some (.int .i64 (o.1 : Nat)) ∧ (rowO O)[k * 2 + 1]? = some (.int .i64 (o.2 : Nat)) := by
  have hk : k < O.length := (List.getElem?_eq_some_iff.1 h).1
  have hx := (List.getElem?_eq_some_iff.1 h).2
  have hs : O = O.take k ++ (o :: O.drop (k + 1)) := by rw [← hx, ← List.drop_eq_getElem_cons hk, List.take_append_drop]
  have hl : (rowO (O.take k)).length = k * 2 := by rw [rowO_len, List.length_take]; congr 1; omega
  have : rowO O = rowO (O.take k) ++ ([.int .i64 (o.1 : Nat), .int .i64 (o.2 : Nat)] ++ rowO (O.drop (k + 1))) := by
    rw [hs, rowO_app, ← hs]
    rfl
  rw [this]
  constructor
  · rw [List.getElem?_append_right (by omega), hl, Nat.sub_self]; rfl
  · rw [List.getElem?_append_right (by omega), hl, show k * 2 + 1 - k * 2 = 1 by omega]; rfl
theorem rowO_cut {w : World} {a : Option Addr} {k cap C : Nat} {O : List (Nat × Nat)} {o : Nat × Nat} (h : w.ownsRow C 51 2 (.slice a k cap) (O ++ [o]).length (rowO (O ++ [o]))) : w.ownsRow C 51 2 (.slice a O.length cap) O.length (rowO O) := by
  rcases h.2 with ⟨e, h0⟩ | ⟨g, cp, cur, e, hbg, hg, hnc, hcm, hcs, ht⟩
  · simp at h0
  · injection e with e1 e2 e3
    subst e1 e3
    simp only [List.length_append, List.length_singleton] at hnc ht
    refine ⟨rowO_len O, Or.inr ⟨g, _, cur, rfl, hbg, hg, by omega, hcm, hcs, ?_⟩⟩
    have := congrArg (List.take (O.length * 2)) ht
    rw [List.take_take, rowO_app, List.take_left' (rowO_len O)] at this
    rw [show O.length * 2 = min (O.length * 2) ((O.length + 1) * 2) by omega, this]
theorem row_grown {B e s n : Nat} {w w' : World} {v : Value} {xs : List Value} {r : Option Nat} (h : w.ownsRow B e s v n xs) (hg : w.grownBy w' r) (hne : ∀ k, v.ownBlock = some k → r ≠ some k) : w'.ownsRow B e s v n xs :=
  row_same h (fun k hk => hg.block k (h.lt k hk).2 (fun e => hne k hk e.symm))
theorem nodup_lt : ∀ (k : Nat) (L : List Nat), L.Nodup → (∀ j ∈ L, j < k) → L.length ≤ k
  | 0, L, _, h => by
    cases L with
    | nil => exact Nat.le_refl _
    | cons a r => exact absurd (h a (by simp)) (Nat.not_lt_zero _)
  | k + 1, L, hn, h => by
    have h1 := nodup_lt k (L.erase k) (hn.erase k) (fun j hj => by
      have h2 := (hn.mem_erase_iff).1 hj
      have := h j h2.2
      have := h2.1
      omega)
    rw [List.length_erase] at h1
    split at h1 <;> omega
theorem inv_b {l : List It} {k : Nat} {z : List Int} {P : List Nat} {O : List (Nat × Nat)} (I : Inv l k z P O) (ok : OkL l) : P.length ≤ 1000 ∧ O.length ≤ 1000 ∧ (∀ (j : Nat) (a : Int), z[j]? = some a → -1048576000 ≤ a ∧ a ≤ 1048576000) := by
  have hnd := I.nd
  have hlt := I.lt
  have hk := I.hi
  have h1 := ok.1
  have hlen : (P ++ O.map Prod.fst).length ≤ k :=  nodup_lt k _ hnd hlt
  rw [List.length_append, List.length_map] at hlen
  refine ⟨by omega, by omega, fun j a ha => ?_⟩
  have hjl : j < l.length := by
    have := (List.getElem?_eq_some_iff.1 ha).1
    rw [I.len] at this; exact this
  by_cases hj : j < k
  · by_cases hm : j ∈ P ++ O.map Prod.fst
    · have : z[j]? = some (-((pre l j : Nat) : Int)) := by
        rcases List.mem_append.1 hm with q | q
        · obtain ⟨t, ht⟩ := List.getElem?_of_mem q
          exact (I.pend t j ht).1
        · obtain ⟨o, ho, rfl⟩ := List.mem_map.1 q
          obtain ⟨t, ht⟩ := List.getElem?_of_mem ho
          exact (I.opn t o ht).1
      rw [this] at ha
      injection ha with ha
      have := ok.pre j
      omega
    · have := I.done j hj hm
      rw [this] at ha
      injection ha with ha
      have := ok.size j
      omega
  · have := I.rest j (by omega) hjl
    rw [this] at ha
    injection ha with ha
    omega
/-- Another row of one's own has grown. -/
theorem SZ.other {B G V n T : Nat} {w0 w w' : World} {pv : Value} {z : List Int} {P : List Nat} {r : Option Nat} (h : SZ B G V w0 w n pv T z P) (hg : w.grownBy w' r) (hr : ∀ k, r = some k → V + 3 ≤ k ∧ pv.ownBlock ≠ some k) : SZ B G V w0 w' n pv T z P where
  lo := h.lo
  gv := h.gv
  bs := Nat.le_trans h.bs hg.size
  h0 := (hg.block _ (by have := h.bs; have := h.gv; omega) (fun e => by have := (hr _ e.symm).1; have := h.gv; omega)).trans h.h0
  h1 := (hg.block _ (by have := h.bs; omega) (fun e => by have := (hr _ e.symm).1; omega)).trans h.h1
  h2 := (hg.block _ (by have := h.bs; omega) (fun e => by have := (hr _ e.symm).1; omega)).trans h.h2
  h3 := (hg.block _ (by have := h.bs; omega) (fun e => by have := (hr _ e.symm).1; omega)).trans h.h3
  len := h.len
  prow := row_same h.prow (fun k hk => hg.block k (h.prow.lt k hk).2 (fun e => (hr k e.symm).2 hk))
  bel := h.bel.grown hg (by have := h.bs; have := h.gv; have := h.lo; omega) (fun k e => by have := (hr k e).1; have := h.gv; have := h.lo; omega)
theorem one2 (k : IntKind) (x y : Int) : ∀ u ∈ [Value.int k x, Value.int k y], u.oneCell' = true := by
  intro u hu
  simp at hu
  rcases hu with rfl | rfl <;> rfl
end Go.Proofs.PlatenLayout
