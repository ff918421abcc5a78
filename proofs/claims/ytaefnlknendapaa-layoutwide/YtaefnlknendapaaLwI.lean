/- Starts of a text's bytes; results of any kind. -/
import Derived.Test.YtaefnlknendapaaLwH
import Derived.Test.YtaefnlknendapaaLyK
namespace Go.Proofs.PlatenLayout
open Go Go.RowKit Go.Shelf
set_option linter.unusedVariables false
set_option maxRecDepth 100000

theorem starts_of {w2 : World} {q : List Nat} {m cap B : Nat} (hs : Sg q m) (hl : q.length ≤ 65536) (hb : PlatenGlyph.IsBytes w2 (.slice (some ⟨B, 0, none⟩) q.length cap) q.length (fun j => q.getD j 0)) :
    Calls Try.prog 17 #[.slice (some ⟨B, 0, none⟩) q.length cap] w2 fun e w' => ∃ a c, e = .returned (.slice a m c) ∧ Below w2.heap.size w2 w' := by
  obtain ⟨hf, hn, h⟩ := hb
  have hc : q.length ≤ cap ∧ PlatenGlyph.Cells w2 B 0 q.length (fun j => q.getD j 0) ∨ q.length = 0 := by
    rcases h with ⟨a, c, e, h0⟩ | ⟨b, off, c, e, hc, hcs⟩
    · exact Or.inr h0
    · injection e with e1 e2 e3
      injection e1 with e1
      injection e1 with e4 e5
      subst e4 e5 e3
      exact Or.inl ⟨hc, hcs⟩
  have hc2 : q.length ≤ cap ∧ PlatenGlyph.Cells w2 B 0 q.length (fun j => q.getD j 0) := by
    rcases hc with h | h
    · exact h
    · exact ⟨by omega, fun j hj => by omega⟩
  have c := PlatenGlyph.starts_row (fun j => q.getD j 0) B 0 q.length cap w2 hf (by omega) hc2.1 hc2.2
  rw [hs.cnt] at c
  refine c.mono ?_
  rintro e w' ⟨v, rfl, hr, hb⟩
  obtain ⟨a, c, rfl⟩ := row_slice hr
  exact ⟨a, c, rfl, hb⟩
theorem layRes_any {o : Option (List Nat)} {e : Ending} (h : LayRes o e) : ∃ (S : ByteArray) (E : Int), e = .returned (.tuple #[.string S, .int .i64 E]) := ⟨_, _, h⟩
theorem layB_any {w w' : World} {o : Option (List Nat)} {e : Ending} (h : LayB w o e w') : ∃ a n c b, e = .returned (.tuple #[.slice a n c, .bool b]) := by
  cases o with
  | none => exact ⟨none, 0, 0, false, h⟩
  | some q =>
    obtain ⟨v, B, e1, _, hr⟩ := h
    obtain ⟨a, c, rfl⟩ := row_slice hr
    exact ⟨a, _, c, true, e1⟩
theorem not_ten {q : List Nat} (h : ∀ c ∈ q, c ≠ 10) {j D : Nat} (hj : q[j]? = some D) : D ≠ 10 := h D (List.mem_of_getElem? hj)
theorem conv_bytes' (w : World) {l : List Nat} {S : ByteArray} (e : str l = S) (h : ∀ c ∈ l, c < 256) (hl : l.length ≤ 65536) {m : Nat} (hs : Sg l m) : ∃ n cap w2, (convert 9 33 (.string S)).run Try.prog w = .ok (.slice (some ⟨w.heap.size, 0, none⟩) n cap) w2 ∧ w.grownBy w2 none ∧
    Calls Try.prog 17 #[.slice (some ⟨w.heap.size, 0, none⟩) n cap] w2 fun e w' => ∃ a c, e = .returned (.slice a m c) ∧ Below w2.heap.size w2 w' := by
  subst e
  obtain ⟨cap, w2, h1, h2, h3⟩ := conv_bytes w l h (by omega)
  exact ⟨l.length, cap, w2, h1, h3, starts_of hs hl h2⟩
end Go.Proofs.PlatenLayout
