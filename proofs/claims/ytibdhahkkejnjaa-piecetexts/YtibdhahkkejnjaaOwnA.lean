/- New and Insert of whatever bytes; blocks that are written over. -/
import Derived.Test.YtibdhahkkejnjaaArgs
import Derived.Test.YtibdhahkkejnjaaTabO
namespace Go.Proofs.Ytibdhahkkejnjaa.Own
open Go.ChangeShapes Go.WideShapes Go.ChangeAt Go.RowKit Go.Proofs.PlatenPiece
set_option linter.unusedVariables false
set_option maxRecDepth 100000

theorem IsSrc.len {w : World} {v : Value} {n : Nat} {l : List Nat} (h : IsSrc w v n l) : ∃ a cap, v = .slice a n cap := by
  rcases h.2.2.2 with ⟨rfl, rfl⟩ | ⟨ad, cap, rfl, _⟩
  · exact ⟨_, _, by rw [← h.2.1]; rfl⟩
  · exact ⟨_, _, by rw [h.2.1]⟩

/-- New, of whatever bytes. -/
theorem new_any (v : Value) (l : List Nat) (w : World) (hs : PlatenPiece.Src w v l) (hl : l.length ≤ 65536) :
    Calls Try.prog 15 #[v] w fun e w' => ∃ T pv ps, e = .returned (.tuple #[.pointer (some ⟨T, 0, none⟩), .int .i64 0]) ∧ Tab w.heap.size w' T pv ps l.length 0 ∧ flat ps = l ∧ ps.length ≤ 1 ∧ (∀ p ∈ ps, p.k = 0) ∧ w.grownBy w' none := by
  rcases Nat.eq_zero_or_pos l.length with h0 | h0
  · obtain rfl : l = [] := List.eq_nil_of_length_eq_zero h0
    exact (new_empty v w hs).mono fun e w' ⟨he, hT, hg⟩ => ⟨_, _, [], he, hT, rfl, by simp, by simp, hg⟩
  · exact (new_some v l w hs h0 hl).mono fun e w' ⟨he, ⟨pv, q, hT⟩, hg⟩ => ⟨_, pv, _, he, hT, by simp [flat], by simp, by simp, hg⟩
/-- Insert, of whatever bytes. -/
theorem ins_any (B T : Nat) (pv : Value) (ps : List Pc) (s a : Int) (at' : Nat) (v : Value) (l : List Nat) (w : World) (h : Tab B w T pv ps s a) (hB : B ≤ w.heap.size) (hN : ps.length ≤ 99999) (hs : s = lenSum ps) (hat : at' ≤ lenSum ps) (hS : lenSum ps + l.length ≤ 65536) (hsrc : PlatenPiece.Src w v l) (hout : PlatenPiece.Outside (PlatenPiece.Own T pv ps) v)
    (hk : ∀ p ∈ ps, -1000000000 ≤ p.k ∧ p.k ≤ 1000000000) (ha : 0 ≤ a ∧ a ≤ 1000000000) :
    Calls Try.prog 43 #[.pointer (some ⟨T, 0, none⟩), .int .i64 at', v] w fun e w' => e = .returned (.int .i64 0) ∧ ∃ pv' ps', Tab B w' T pv' ps' (s + l.length) (a + l.length) ∧ flat ps' = (flat ps).take at' ++ (l ++ (flat ps).drop at') ∧ ps'.length ≤ ps.length + 2 ∧ Kept (PlatenPiece.Own T pv ps) w w' ∧ (∀ k, k < w.heap.size → PlatenPiece.Own T pv' ps' k → PlatenPiece.Own T pv ps k) := by
  rcases Nat.eq_zero_or_pos l.length with h0 | h0
  · obtain rfl : l = [] := List.eq_nil_of_length_eq_zero h0
    obtain ⟨va, vc, rfl⟩ := hsrc.form
    exact (insert_zero B T pv ps s a at' va vc w h (by omega) (by omega) (by omega)).mono fun e w' ⟨he, hw⟩ => ⟨he, pv, ps, by rw [hw]; simpa using h, by simp, by omega, by rw [hw]; exact Kept.refl _ _, fun _ _ hk => hk⟩
  · exact (insert_tab B T pv ps s a at' v l w h hB hN hs hat hS h0 hsrc hout hk ha).mono fun e w' ⟨he, pv', ps', hT, hI, hK, hO⟩ => ⟨he, pv', ps', hT, hI.flat, hI.len, hK, hO⟩

/-- A block of n bytes at least, that may be written. -/
def Blk (w : World) (g n : Nat) : Prop := ∃ cur : Array Value, w.heap[g]? = some (.cells cur 5 (0, 0)) ∧ n ≤ cur.size
theorem Blk.cell {w : World} {g n k : Nat} (h : Blk w g n) (hk : k < n) : ∃ u, w.cell? ⟨g, k, none⟩ = some u := by
  obtain ⟨cur, hh, hn⟩ := h
  exact ⟨cur[k], by simp only [World.cell?, hh]; simp [Array.getElem?_eq_getElem (show k < cur.size by omega)]⟩
theorem Blk.fz {w : World} {g n : Nat} (h : Blk w g n) (k : Nat) : w.frozen? ⟨g, k, none⟩ = false := by
  obtain ⟨cur, hh, _⟩ := h
  exact frozen_of_row w g k cur 5 hh
theorem Blk.set {w : World} {g n : Nat} (h : Blk w g n) (k : Nat) (v : Value) : Blk (w.setCell ⟨g, k, none⟩ v) g n := by
  obtain ⟨cur, hh, hn⟩ := h
  exact ⟨_, heap_setCell_same w g k cur 5 v hh, by simpa using hn⟩
theorem blk_own {w : World} {B n : Nat} {v : Value} {l : List Nat} (h : w.ownsRow B 5 1 v l.length (bytesV l)) (hn : l.length = n) : ∀ g, v.ownBlock = some g → Blk w g n := by
  intro g hg
  rcases h.2 with ⟨rfl, _⟩ | ⟨g', cap, cur, rfl, _, hh, hc, _, hs, _⟩
  · cases hg
  · obtain rfl : g' = g := by simpa [Value.ownBlock] using hg
    exact ⟨cur, hh, by omega⟩
theorem blk_grown {w w' : World} {g n : Nat} (h : Blk w g n) {o : Option Nat} (hg : w.grownBy w' o) (hne : o ≠ some g) : Blk w' g n := by
  obtain ⟨cur, hh, hn⟩ := h
  exact ⟨cur, by rw [hg.block g (Array.getElem?_eq_some_iff.1 hh).1 (fun e => hne e.symm)]; exact hh, hn⟩
theorem grown_set {w wr : World} {g k : Nat} {v : Value} (h : w.grownBy wr (some g)) : w.grownBy (wr.setCell ⟨g, k, none⟩ v) (some g) := by
  have k2 := grownBy_set wr g k v
  exact ⟨k2.os.trans h.os, k2.tape.trans h.tape, k2.output.trans h.output, Nat.le_trans h.size k2.size, fun i hi hne => (k2.block i (Nat.lt_of_lt_of_le hi h.size) hne).trans (h.block i hi hne)⟩
theorem Tab.opt {B : Nat} {o : Option Nat} {w w' : World} {T : Nat} {pv : Value} {ps : List Pc} {s a : Int} (h : Tab B w T pv ps s a) (hg : w.grownBy w' o) (hne : ∀ g, o = some g → ¬ PlatenPiece.Own T pv ps g) : Tab B w' T pv ps s a := by
  cases o with
  | none => exact h.grown hg
  | some g => exact h.but hg (hne g rfl)
end Go.Proofs.Ytibdhahkkejnjaa.Own
