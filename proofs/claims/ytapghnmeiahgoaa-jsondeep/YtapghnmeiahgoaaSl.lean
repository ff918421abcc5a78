/- Rows of bytes told by lists; what a text between quotes is. -/
import Derived.Test.YtapghnmeiahgoaaSg
namespace Go.Proofs.Ytapghnmeiahgoaa
open Go.ChangeShapes Go.WideShapes Go.ChangeAt Go.RowKit Go.Proofs.PlatenJson
set_option linter.unusedVariables false
set_option maxRecDepth 100000

def rowL (L : List Nat) : List Value := L.map fun c => Value.int .u8 (c : Nat)
theorem rowL_app (a b : List Nat) : rowL (a ++ b) = rowL a ++ rowL b := by simp [rowL]
theorem rowL_one (c : Nat) : rowL [c] = [.int .u8 (c : Nat)] := rfl
theorem rowL_len (L : List Nat) : (rowL L).length = L.length := by simp [rowL]
theorem fOf_get (L : List Nat) (j : Nat) (h : j < L.length) : fOf L j = L[j] := by
  unfold fOf; rw [List.getD_eq_getElem?_getD, List.getElem?_eq_getElem h]; rfl
theorem row_ofL {w : World} {B : Nat} {v : Value} {n : Nat} {L : List Nat} (hn : n = L.length) (h : w.ownsRow B 5 1 v n (rowL L)) : Row w v n (fOf L) := by
  subst hn
  have hcl := fun b => h.cells (g := b)
  rcases h.2 with ⟨rfl, h0⟩ | ⟨b, cap, cur, rfl, hbg, hg, hnc, hcm, hcs, htake⟩
  · exact ⟨none, 0, by rw [h0], fun hl => by omega⟩
  · refine ⟨_, cap, rfl, fun _ => ⟨b, 0, rfl, hnc, fun j hj => ?_⟩⟩
    have := hcl b rfl j (.int .u8 (fOf L j : Nat)) (by rw [fOf_get L j hj]; simp [rowL, hj])
    have ea : ∀ j, (⟨b, 0, none⟩ : Addr).add j = ⟨b, j, none⟩ := fun j => by unfold Addr.add; split <;> simp_all
    rw [ea] at this
    rw [Nat.zero_add]; exact this
/-- A new row of one's own. -/
theorem owns_new (w : World) (B : Nat) (L : List Nat) (cs : List Value) (h : cs = rowL L) (hB : B ≤ w.heap.size) (hl : L.length ≤ 1000) : (w.alloc (.cells cs.toArray 5)).ownsRow B 5 1 (.slice (some ⟨w.heap.size, 0, none⟩) L.length L.length) L.length (rowL L) := by
  refine ⟨by rw [rowL_len, Nat.mul_one], Or.inr ⟨_, _, _, rfl, hB, heap_alloc_new _ _, Nat.le_refl _, by unfold maxLen; omega, by rw [h, List.size_toArray, rowL_len, Nat.mul_one], ?_⟩⟩
  rw [h, List.toList_toArray, Nat.mul_one]
  exact List.take_of_length_le (by rw [rowL_len]; exact Nat.le_refl _)

/-- Bytes that may stand in a text as they are. -/
def okc (c : Nat) : Bool := decide (32 ≤ c) && (decide (c ≠ 34) && decide (c ≠ 92))
theorem ans_text (m : List Nat) (hm : ∀ c ∈ m, okc c = true) : ans (fOf ([34] ++ m ++ [34])) (m.length + 2) = ([(5, 0, m.length + 2)], 0, 0) := by
  generalize hf : fOf ([34] ++ m ++ [34]) = f
  have h0 : f 0 = 34 := by rw [← hf]; rfl
  have hi : ∀ j, j < m.length → okc (f (1 + j)) = true := fun j hj => by
    rw [← hf, fOf_get _ _ (by simp; omega)]
    have : ([34] ++ m ++ [34])[1 + j]'(by simp; omega) = m[j] := by
      rw [List.getElem_append_left (by simp; omega), List.getElem_append_right (by simp)]
      simp
    rw [this]
    exact hm _ (List.getElem_mem hj)
  have hl : f (1 + m.length) = 34 := by
    rw [← hf, fOf_get _ _ (by simp; omega)]
    rw [List.getElem_append_right (by simp; omega)]
    simp
  clear hf hm
  generalize m.length = k at *
  have s0 := Go.Proofs.PlatenJson.start f (k + 2)
  generalize ans f (k + 2) = o at *
  have s1 := t_open s0 (Or.inl rfl) (by omega) h0
  have sj : ∀ j, j ≤ k → Cur f (k + 2) o 6 [] [] false 0 (1 + j) := by
    intro j
    induction j with
    | zero => intro _; exact s1
    | succ j ih =>
      intro hj
      have h := hi j (by omega)
      simp only [okc, Bool.and_eq_true, decide_eq_true_eq] at h
      exact t_plain (j := 1 + j) (ih (by omega)) (by omega) h.1 h.2.1 h.2.2
  have sk := t_close (sj k (Nat.le_refl _)) (by omega) hl
  simp only [Bool.false_eq_true, if_false, List.nil_append, Nat.sub_zero] at sk
  rw [show 1 + k + 1 = k + 2 by omega] at sk
  exact top_ok sk
/-- What of the first k bytes of f may stand so, behind a quote. -/
def QL (f : Nat → Nat) (k : Nat) : List Nat := [34] ++ ((List.range k).map f).filter okc
theorem QL_yes {f : Nat → Nat} {k : Nat} (h : okc (f k) = true) : QL f (k + 1) = QL f k ++ [f k] := by
  simp [QL, List.range_succ, h]
theorem QL_no {f : Nat → Nat} {k : Nat} (h : okc (f k) = false) : QL f (k + 1) = QL f k := by
  simp [QL, List.range_succ, h]
theorem QL_len (f : Nat → Nat) (k : Nat) : (QL f k).length ≤ k + 1 := by
  have := List.length_filter_le okc ((List.range k).map f)
  simp at this
  simp [QL]; omega
theorem ans_QL (f : Nat → Nat) (k : Nat) : ans (fOf (QL f k ++ [34])) ((QL f k).length + 1) = ([(5, 0, (QL f k).length + 1)], 0, 0) := by
  have := ans_text (((List.range k).map f).filter okc) (fun c hc => (List.mem_filter.1 hc).2)
  have e : (QL f k).length = (((List.range k).map f).filter okc).length + 1 := by simp [QL]
  rw [e]
  exact this
theorem QL_lt (f : Nat → Nat) (hf : ∀ j, f j < 256) (k : Nat) : ∀ c ∈ QL f k ++ [34], c < 256 := by
  intro c hc
  simp only [QL, List.mem_append, List.mem_singleton, List.mem_filter, List.mem_map] at hc
  rcases hc with (rfl | ⟨⟨j, _, rfl⟩, _⟩) | rfl
  · decide
  · exact hf j
  · decide
end Go.Proofs.Ytapghnmeiahgoaa
