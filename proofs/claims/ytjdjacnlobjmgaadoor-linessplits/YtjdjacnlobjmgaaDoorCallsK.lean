/- What the program's Fill, the document's Fill, and Same at two texts of the same bytes come to. -/
import Derived.Test.YtjdjacnlobjmgaaDoorCallsJ
import Derived.Test.YtjdjacnlobjmgaaDoorFillM
import Derived.BigQuiet
import Derived.Deep.QuietTactic
namespace Go.Proofs.PlatenGlyph
open Go.RowKit Go.Shelf
set_option linter.unusedVariables false

def bytesV (l : List Nat) : List Value := l.map fun c => Value.int .u8 (c : Nat)

theorem bytesV_snoc (l : List Nat) (c : Nat) : bytesV (l ++ [c]) = bytesV l ++ [Value.int .u8 (c : Nat)] := by simp [bytesV]

theorem isBytes_own {w : World} {base : Nat} {v : Value} {l : List Nat} (hl : ∀ c, c ∈ l → c < 256) (hn : l.length ≤ 1000000) (h : w.ownsRow base 5 1 v l.length (bytesV l)) : IsBytes w v l.length (fun j => l.getD j 0) := by
  refine ⟨fun j => ?_, by omega, ?_⟩
  · show l.getD j 0 < 256
    by_cases hj : j < l.length
    · rw [List.getD_eq_getElem?_getD, List.getElem?_eq_getElem hj]; exact hl _ (List.getElem_mem hj)
    · rw [List.getD_eq_getElem?_getD, List.getElem?_eq_none (by omega)]; decide
  obtain ⟨_, h⟩ := h
  rcases h with ⟨rfl, h0⟩ | ⟨g, cap, cur, rfl, _, hh, hc, _, hs, ht⟩
  · exact Or.inl ⟨none, 0, rfl, h0⟩
  · refine Or.inr ⟨g, 0, cap, rfl, hc, fun i hi => ?_⟩
    have h1 : (cur.toList.take (l.length * 1))[i]? = some (Value.int .u8 (l.getD i 0 : Nat)) := by
      rw [ht, bytesV, List.getElem?_map, List.getD_eq_getElem?_getD, List.getElem?_eq_getElem hi]; rfl
    rw [List.getElem?_take, if_pos (by omega), Array.getElem?_toList] at h1
    simp only [World.cell?, hh]
    simpa using h1

/-- What a call that lays blanks leaves. -/
def Laid (w w' : World) (v : Value) (l : List Nat) : Prop := w'.ownsRow w.heap.size 5 1 v l.length (bytesV l) ∧ Below w.heap.size w w'

theorem laid_next {w wr w1 : World} {v v' : Value} {o : Obj} {l : List Nat} {c : Nat} (h : Laid w wr v l) (hown' : w1.ownsRow w.heap.size 5 1 v' (l.length + 1) (bytesV l ++ [Value.int .u8 (c : Nat)])) (hg : (wr.alloc o).grownBy w1 v.ownBlock) : Laid w w1 v' (l ++ [c]) := by
  refine ⟨?_, below_append h.2.size h.1 h.2 hg⟩
  rw [bytesV_snoc, List.length_append]; exact hown'

/-- Where the loop stands: what is laid, and what is left to lay. -/
def Mid (from' to tab : Nat) (expand : Bool) (a : Nat) (l : List Nat) : Prop := l ++ fll a to tab expand = fll from' to tab expand ∧ from' ≤ a ∧ (a ≤ to ∨ a = from') ∧ l.length ≤ a - from'

theorem mid_space {from' to tab a : Nat} {expand : Bool} {l : List Nat} (h1 : 1 ≤ tab) (h : Mid from' to tab expand a l) (ha : a < to) (hs : spc a to tab expand) : Mid from' to tab expand (a + 1) (l ++ [32]) := by
  obtain ⟨e, g1, g2, g3⟩ := h
  refine ⟨?_, by omega, by omega, by simp; omega⟩
  rw [← e, fll_space h1 ha hs, List.append_assoc]; rfl
theorem mid_tab {from' to tab a : Nat} {expand : Bool} {l : List Nat} (h1 : 1 ≤ tab) (h : Mid from' to tab expand a l) (ha : a < to) (hs : ¬ spc a to tab expand) : Mid from' to tab expand (a + rch a tab) (l ++ [9]) := by
  obtain ⟨e, g1, g2, g3⟩ := h
  have hr := rch_pos a tab h1
  have hle : a + rch a tab ≤ to := by rw [spc_iff] at hs; omega
  refine ⟨?_, by omega, by omega, by simp; omega⟩
  rw [← e, fll_tab h1 ha hs, List.append_assoc]; rfl
theorem mid_end {from' to tab a : Nat} {expand : Bool} {l : List Nat} (h : Mid from' to tab expand a l) (ha : ¬ a < to) : l = fll from' to tab expand := by
  have := h.1; rw [fll_end ha, List.append_nil] at this; exact this

end Go.Proofs.PlatenGlyph
