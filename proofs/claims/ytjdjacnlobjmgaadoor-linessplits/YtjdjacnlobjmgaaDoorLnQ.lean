/- Lines joined by line ends, as far as the law has come; a line's bytes have no line end. -/
import Derived.Test.YtjdjacnlobjmgaaDoorLnP
import Derived.Test.YtjdjacnlobjmgaaDoorLnO
import Derived.Lib.AppendStr
namespace Go.Proofs.PlatenLines
open Go.RowKit Go.Shelf Go.Proofs.PlatenGlyph
set_option linter.unusedVariables false

/-- How many bytes k lines and what is between them have. -/
def outN (f : Nat → Nat) (n k : Nat) : Nat := if k = 0 then 0 else fin f n (k - 1)
theorem outN_zero (f : Nat → Nat) (n : Nat) : outN f n 0 = 0 := rfl
theorem outN_succ (f : Nat → Nat) (n k : Nat) : outN f n (k + 1) = fin f n k := by simp [outN]
theorem listOf_succ (f : Nat → Nat) (m : Nat) : listOf f (m + 1) = listOf f m ++ [f m] := by simp [listOf, List.range_succ]
theorem listOf_ten {f : Nat → Nat} {n k : Nat} (h0 : 0 < k) (hk : k ≤ lc f n) : listOf f (outN f n k) ++ [10] = listOf f (beg f n k) ∧ beg f n k = outN f n k + 1 := by
  obtain ⟨j, rfl⟩ : ∃ j, k = j + 1 := ⟨k - 1, by omega⟩
  have hj : j < lc f n := by omega
  rw [outN_succ, beg_next hj, listOf_succ, (fin_end hj).2]
  exact ⟨rfl, rfl⟩
theorem listOf_add (f : Nat → Nat) (m : Nat) : ∀ d, listOf f (m + d) = listOf f m ++ (List.range d).map fun i => f (m + i)
  | 0 => by simp
  | d + 1 => by rw [← Nat.add_assoc, listOf_succ, listOf_add f m d, List.range_succ, List.map_append, List.append_assoc]; rfl
theorem piece_cells {f : Nat → Nat} {n k : Nat} (hf : ∀ j, f j < 256) (hk : k ≤ lc f n) : bytesV (listOf f (beg f n k)) ++ Lib.strCells (pieceB f n k) = bytesV (listOf f (fin f n k)) := by
  have hle := beg_le_fin hk
  have e : listOf f (fin f n k) = listOf f (beg f n k) ++ (List.range (fin f n k - beg f n k)).map fun i => f (beg f n k + i) := by
    rw [← listOf_add, show beg f n k + (fin f n k - beg f n k) = fin f n k by omega]
  rw [e, bytesV_app]
  congr 1
  show ((pieceL f n k).toArray.toList).map _ = _
  rw [pieceL, bytesV, List.map_map, List.map_map]
  apply List.map_congr_left
  intro i _
  have := hf (beg f n k + i)
  simp [Function.comp]
  omega
theorem piece_byt {f : Nat → Nat} {n k j : Nat} (hf : ∀ j, f j < 256) (hj : j < fin f n k - beg f n k) : byt (pieceB f n k) j = f (beg f n k + j) := by
  unfold byt
  show ((pieceL f n k).toArray.toList.getD j 0).toNat = _
  have := hf (beg f n k + j)
  simp [pieceL, List.getD_eq_getElem?_getD, hj]
  omega
theorem piece_free {f : Nat → Nat} {n k : Nat} (hf : ∀ j, f j < 256) (hk : k ≤ lc f n) : lc (byt (pieceB f n k)) (pieceB f n k).size = 0 := by
  have h := lc_free (f := byt (pieceB f n k)) (j := 0) (pieceB f n k).size (fun x _ hx => by
    rw [pieceB_size] at hx
    rw [piece_byt hf (by omega)]
    exact line_free hk (by omega) (by omega))
  rw [Nat.zero_add] at h
  exact h

/-- A string made into bytes: the world behind it. -/
def convCap (u : World) (s : ByteArray) : Nat := grownCap u s.size 0 5
def convW (u : World) (s : ByteArray) : World := u.drew.alloc (.cells (bytesRow s (grownCap u s.size 0 5)) 5 ((bytesRow s (grownCap u s.size 0 5)).size, (bytesRow s (grownCap u s.size 0 5)).size + 1))
theorem convW_run (s : ByteArray) (u : World) : (convert 9 22 (.string s)).run Tryd.prog u = .ok (.slice (some ⟨u.heap.size, 0, none⟩) s.size (convCap u s)) (convW u s) :=
  run_bytes_of_string u 9 22 5 s Tryd.underlying9 Tryd.underlying22 Tryd.underlying5
theorem convW_cells (s : ByteArray) (u : World) : Cells (convW u s) u.heap.size 0 s.size (byt s) := by
  obtain ⟨W, cap, hr, _, hc, _⟩ := conv_bytes s u
  rw [convW_run] at hr
  injection hr with _ e
  rw [e]; exact hc
theorem convCap_ge (u : World) (s : ByteArray) : s.size ≤ convCap u s := grownCap_ge u s.size 0 5
theorem Rel.conv {w u : World} (h : Rel w u) (s : ByteArray) : Rel w (convW u s) := by
  unfold Rel convW
  exact (Below.drew h).alloc (by have := Below.size h; exact this) _

/-- The document's Ends of a line's bytes: none. -/
theorem ends_piece (s : ByteArray) (g cp : Nat) (w : World) (hs : s.size ≤ 100000) (h0 : lc (byt s) s.size = 0) (hcp : s.size ≤ cp) (hc : Cells w g 0 s.size (byt s)) :
    Calls Tryd.prog 13 #[.slice (some ⟨g, 0, none⟩) s.size cp] w fun e w' => ∃ x c, e = .returned (.slice x 0 c) ∧ Below w.heap.size w w' := by
  refine (ends_row (byt s) g 0 s.size cp w (byt_lt s) hs hcp hc).mono fun e w' ⟨v, he, hown, hb⟩ => ?_
  have hi := isInts_list (l := ends (byt s) s.size) hown
  rw [ends_len, h0] at hi
  rcases hi with ⟨rfl, _⟩ | ⟨g', c', rfl, _⟩
  · exact ⟨none, 0, he, hb⟩
  · exact ⟨_, c', he, hb⟩
theorem sub_text (f : Nat → Nat) (n k : Nat) : pieceB f n k = textB (fun j => f (beg f n k + j)) (fin f n k - beg f n k) := rfl
end Go.Proofs.PlatenLines
