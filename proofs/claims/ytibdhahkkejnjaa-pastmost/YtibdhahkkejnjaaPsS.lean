/- Edits that each put one byte behind the text; a table of nothing. -/
import Derived.Test.YtibdhahkkejnjaaPsR
namespace Go.Proofs.PlatenPiece
open Go Go.RowKit
set_option linter.unusedVariables false
set_option maxRecDepth 100000

def ex (i : Nat) : Ed := ⟨i, ⟨#[]⟩, ⟨#[120]⟩, by decide, by decide⟩
theorem ex_fits (i : Nat) : fitsL (List.replicate i 120) (ex i) := by
  refine ⟨by show (0 : Int) ≤ (i : Int); omega, ?_, ?_⟩
  · show (i : Int) + ((0 : Nat) : Int) ≤ _
    rw [List.length_replicate]; omega
  · show ((List.replicate i 120).drop _).take 0 = []
    simp
theorem ex_app (i : Nat) (hi : i < 65536) : appL (List.replicate i 120) (ex i) = List.replicate (i + 1) 120 := by
  have hd : delL (List.replicate i 120) (i : Int) 0 = List.replicate i 120 := by
    unfold delL
    rw [if_pos (by rw [List.length_replicate]; omega), Nat.add_zero, List.take_append_drop]
  have e1 : appL (List.replicate i 120) (ex i) = insL (delL (List.replicate i 120) (i : Int) 0) (i : Int) [120] := rfl
  rw [e1, hd]
  unfold insL
  rw [if_pos (by rw [List.length_replicate]; exact ⟨by omega, by simp; omega⟩), Int.toNat_natCast, List.take_of_length_le (by simp), List.drop_of_length_le (by simp), List.append_nil, ← List.replicate_succ']
theorem ex_back (i : Nat) (hi : i < 65536) : ([ex i].reverse.map Ed.back).foldl appL (List.replicate (i + 1) 120) = List.replicate i 120 := by
  have hd : delL (List.replicate (i + 1) 120) (i : Int) 1 = List.replicate i 120 := by
    unfold delL
    rw [if_pos (by rw [List.length_replicate]; omega), Int.toNat_natCast, List.drop_of_length_le (by simp), List.append_nil, List.take_replicate, Nat.min_eq_left (by omega)]
  have e1 : ([ex i].reverse.map Ed.back).foldl appL (List.replicate (i + 1) 120) = insL (delL (List.replicate (i + 1) 120) (i : Int) 1) (i : Int) [] := rfl
  rw [e1, hd]
  unfold insL
  rw [if_pos (by rw [List.length_replicate]; exact ⟨by omega, by simp; omega⟩), List.nil_append, List.take_append_drop]
theorem tx_empty {B : Nat} {w : World} {T : Nat} {pv : Value} (h : Tab B w T pv [] 0 0) (hB : B ≤ w.heap.size) : Tx B w T [] 0 (PlatenPiece.Own T pv []) :=
  ⟨pv, [], 0, rfl, h, rfl, by simp [lenSum], by simp, by omega, by simp, hB⟩
end Go.Proofs.PlatenPiece
