/- Rows of bytes told by lists. -/
import Derived.Test.YtpcfbdnckmfelaaSg
namespace Go.Proofs.Ytpcfbdnckmfelaa
open Go.ChangeShapes Go.WideShapes Go.ChangeAt Go.RowKit Go.Proofs.PlatenSexp
set_option linter.unusedVariables false
set_option maxRecDepth 100000

def rowL (L : List Nat) : List Value := L.map fun c => Value.int .u8 (c : Nat)
theorem rowL_app (a b : List Nat) : rowL (a ++ b) = rowL a ++ rowL b := by simp [rowL]
theorem rowL_one (c : Nat) : rowL [c] = [.int .u8 (c : Nat)] := rfl
theorem rowL_len (L : List Nat) : (rowL L).length = L.length := by simp [rowL]
theorem fOf_get (L : List Nat) (j : Nat) (h : j < L.length) : fOf L j = L[j] := by
  unfold fOf; rw [List.getD_eq_getElem?_getD, List.getElem?_eq_getElem h]; rfl
theorem row_ofL {w : World} {B : Nat} {v : Value} {n : Nat} {L : List Nat} (hn : n = L.length) (h : w.ownsRow B 5 1 v n (rowL L)) : Row w v n (fOf L) := by
  subst hn
  have hcl := fun b => h.cells (g := b)
  rcases h.2 with ⟨rfl, h0⟩ | ⟨b, cap, cur, rfl, hbg, hg, hnc, hcm, hcs, htake⟩
  · exact ⟨none, 0, by rw [h0], fun hl => by omega⟩
  · refine ⟨_, cap, rfl, fun _ => ⟨b, 0, rfl, hnc, fun j hj => ?_⟩⟩
    have := hcl b rfl j (.int .u8 (fOf L j : Nat)) (by rw [fOf_get L j hj]; simp [rowL, hj])
    have ea : ∀ j, (⟨b, 0, none⟩ : Addr).add j = ⟨b, j, none⟩ := fun j => by unfold Addr.add; split <;> simp_all
    rw [ea] at this
    rw [Nat.zero_add]; exact this
/-- A new row of one's own. -/
theorem owns_new (w : World) (B : Nat) (L : List Nat) (cs : List Value) (h : cs = rowL L) (hB : B ≤ w.heap.size) (hl : L.length ≤ 1000) : (w.alloc (.cells cs.toArray 5)).ownsRow B 5 1 (.slice (some ⟨w.heap.size, 0, none⟩) L.length L.length) L.length (rowL L) := by
  refine ⟨by rw [rowL_len, Nat.mul_one], Or.inr ⟨_, _, _, rfl, hB, heap_alloc_new _ _, Nat.le_refl _, by unfold maxLen; omega, by rw [h, List.size_toArray, rowL_len, Nat.mul_one], ?_⟩⟩
  rw [h, List.toList_toArray, Nat.mul_one]
  exact List.take_of_length_le (by rw [rowL_len]; exact Nat.le_refl _)

end Go.Proofs.Ytpcfbdnckmfelaa
