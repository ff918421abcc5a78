/- Transactions of one edit each: what is kept of them, and what an Undo takes away. -/
import Derived.Test.YtibdhahkkejnjaaPsS
namespace Go.Proofs.PlatenPiece
open Go Go.RowKit
set_option linter.unusedVariables false
set_option maxRecDepth 100000

/-- What is kept of the first i transactions. -/
def trs (i : Nat) : List (List Ed) := ((List.range i).map (fun j => [ex j])).drop (i - 1000)
theorem trs_len (i : Nat) : (trs i).length = min i 1000 := by
  unfold trs
  rw [List.length_drop, List.length_map, List.length_range]
  omega
theorem trs_succ (i : Nat) : trs (i + 1) = if i < 1000 then trs i ++ [[ex i]] else (trs i ++ [[ex i]]).drop 1 := by
  unfold trs
  rw [List.range_succ, List.map_append, List.map_singleton]
  split
  · rw [show i + 1 - 1000 = 0 by omega, show i - 1000 = 0 by omega, List.drop_zero, List.drop_zero]
  · rw [show i + 1 - 1000 = (i - 1000) + 1 by omega, ← List.drop_drop, List.drop_append_of_le_length (by simp)]
theorem trs_at (i k : Nat) (hk : k < 1000) (hi : 1000 ≤ i) : (trs i)[k]? = some [ex (i - 1000 + k)] := by
  unfold trs
  rw [List.getElem?_drop, List.getElem?_map, List.getElem?_range (by omega)]
  rfl
theorem last_of {dn : List (Value × List Ed)} {L : List (List Ed)} {m : Nat} {x : List Ed} (h : dn.map (·.2) = L.take (m + 1)) (hx : L[m]? = some x) : ∃ d0 v, dn = d0 ++ [(v, x)] ∧ d0.map (·.2) = L.take m := by
  have hm : m < L.length := (List.getElem?_eq_some_iff.1 hx).1
  have h1 : L.take (m + 1) = L.take m ++ [x] := by
    rw [List.take_add_one, hx]; rfl
  rw [h1] at h
  have hne : dn ≠ [] := by
    rintro rfl
    simp at h
  obtain ⟨d0, t, rfl⟩ : ∃ d0 t, dn = d0 ++ [t] := ⟨dn.dropLast, dn.getLast hne, (List.dropLast_concat_getLast hne).symm⟩
  rw [List.map_append, List.map_singleton] at h
  have h2 := List.append_inj' h rfl
  obtain ⟨v, y⟩ := t
  simp only [List.cons.injEq, and_true] at h2
  obtain ⟨h3, rfl⟩ := h2
  exact ⟨d0, v, rfl, h3⟩

section
variable {B : Nat} {w : World} {H T : Nat} {l : List Nat} {c : Nat} {O : Nat → Prop} {ov dv uv : Value} {dn ud : List (Value × List Ed)}
theorem close_step {e : Ed} (h : HP B w H T l c O ov dv uv [e] dn ud) (hd : dn.length ≤ 1000) :
    Calls Try.prog 42 #[.pointer (some ⟨H, 0, none⟩)] w fun q w' => (∃ v, q = .returned v) ∧ ∃ dv' dn', HP B w' H T l c O (.slice none 0 0) dv' uv [] dn' ud ∧ Kept (HOwn H O ov dv uv dn ud) w w' ∧ dn'.map (·.2) = if dn.length < 1000 then dn.map (·.2) ++ [[e]] else (dn.map (·.2) ++ [[e]]).drop 1 := by
  by_cases hlt : dn.length < 1000
  · refine (close_some h (by simp) (by simp) hlt).mono ?_
    rintro q w' ⟨hv, dv', hp, hk, _⟩
    exact ⟨hv, dv', _, hp, hk, by rw [if_pos hlt, List.map_append]; rfl⟩
  · refine (close_full h (by simp) (by simp) (by omega)).mono ?_
    rintro q w' ⟨hv, dv', hp, hk, _⟩
    exact ⟨hv, dv', _, hp, hk, by rw [if_neg hlt, List.map_drop, List.map_append]; rfl⟩
theorem undo_step {k : Nat} {d0 : List (Value × List Ed)} {v : Value} (h : HP B w H T (List.replicate (k + 1) 120) c O ov dv uv [] (d0 ++ [(v, [ex k])]) ud) (hc : c + 2 ≤ 4500) (hd : d0.length ≤ 1000) (hu : ud.length ≤ 1000) (hk : k < 65536) :
    Calls Try.prog 34 #[.pointer (some ⟨H, 0, none⟩)] w fun q w' => ∃ vo O' ov' dv' uv', q = .returned (.tuple #[vo, .int .i64 0]) ∧ HP B w' H T (List.replicate k 120) (c + 2) O' ov' dv' uv' [] d0 (ud ++ [(v, [ex k])]) ∧ Kept (HOwn H O ov dv uv (d0 ++ [(v, [ex k])]) ud) w w' := by
  refine (Undo_of (X := HOwn H O ov dv uv (d0 ++ [(v, [ex k])]) ud) (d0 := d0) (t := (v, [ex k])) ((close_none h).mono (fun q w' hq => ⟨hq.1, ov, dv, by rw [hq.2]; exact h, by rw [hq.2]; exact Kept.refl _ _, fun _ _ h => h⟩)) (by simpa using hc) (by omega) (by omega)).mono ?_
  rintro q w' ⟨vo, O', ov', dv', uv', rfl, _, h1, h2, _⟩
  refine ⟨vo, O', ov', dv', uv', rfl, ?_, h2⟩
  have := ex_back k hk
  rw [← this]
  exact h1
end
end Go.Proofs.PlatenPiece
