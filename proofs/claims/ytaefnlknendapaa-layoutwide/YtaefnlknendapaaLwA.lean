/- What is laid out is bytes; a row of bytes as a string. -/
import Derived.Test.YtaefnlknendapaaLzE
namespace Go.Proofs.PlatenLayout
open Go Go.RowKit Go.Shelf
set_option linter.unusedVariables false
set_option maxRecDepth 100000

theorem stepL_lt (w : Int) (s : Ly) (x : It) (r : List It) (hs : ∀ c ∈ s.p, c < 256) (hx : ∀ c ∈ x.tx, c < 256) : ∀ c ∈ (stepL w s x r).p, c < 256 := by
  have h32 : ∀ n, ∀ c ∈ sp n, c < 256 := fun n c hc => by rw [List.eq_of_mem_replicate hc]; decide
  unfold stepL
  split
  · intro c hc
    rcases List.mem_append.1 hc with h | h
    · exact hs c h
    · exact hx c h
  · split
    · exact hs
    · split
      · split <;> exact hs
      · split
        · split
          · intro c hc
            rcases List.mem_append.1 hc with h | h
            · exact hs c h
            · exact h32 _ c h
          · intro c hc
            rcases List.mem_append.1 hc with h | h
            · rcases List.mem_append.1 h with h | h
              · exact hs c h
              · simp at h; omega
            · exact h32 _ c h
        · exact hs
theorem lay_lt (w : Int) : ∀ (l : List It) (s : Ly) (q : List Nat), (∀ c ∈ s.p, c < 256) → (∀ x ∈ l, ∀ c ∈ x.tx, c < 256) → lay w l s = some q → ∀ c ∈ q, c < 256
  | [], s, q, h, hl, e => by
    unfold lay at e
    injection e with e
    rw [← e]; exact h
  | x :: r, s, q, h, hl, e => by
    unfold lay at e
    split at e
    · cases e
    · exact lay_lt w r _ q (stepL_lt w s x r h (hl x (by simp))) (fun y hy => hl y (by simp [hy])) e
theorem lay_some {w : Int} {l : List It} {q : List Nat} (ok : OkL l) (e : lay w l s0 = some q) : (∀ c ∈ q, c < 256) ∧ q.length ≤ 65536 :=
  ⟨lay_lt w l s0 q (fun c hc => by simp [s0] at hc) (fun x hx => (ok.2 x hx).tx) e, lay_le w l s0 q (by show 0 ≤ most; exact Nat.zero_le _) e⟩

/-- A row of bytes as a string. -/
theorem conv_row {B : Nat} {w : World} {v : Value} {l : List Nat} (h : w.ownsRow B 5 1 v l.length (bc l)) (hl : ∀ c ∈ l, c < 256) :
    (convert 33 9 v).run Try.prog w = .ok (.string (str l)) w := by
  have hc := fun g => h.cells (g := g)
  rcases h.2 with ⟨rfl, h0⟩ | ⟨g, cap, cur, rfl, _⟩
  · obtain rfl := List.eq_nil_of_length_eq_zero h0
    exact run_convert_bytes_nil (P := Try.prog) w 33 5 Try.underlying33 Try.underlying5 0 0 9 Try.underlying9
  · have := run_convert_bytes_back (P := Try.prog) w 33 9 5 ⟨g, 0, none⟩ cap (l.map UInt8.ofNat) Try.underlying33 Try.underlying5 Try.underlying9 (fun j hj => by
      have hj' : j < l.length := by simpa using hj
      have h1 := hc g rfl j (.int .u8 (l[j] : Nat)) (by simp [bc, List.getElem?_eq_getElem hj'])
      have h2 := hl _ (List.getElem_mem hj')
      rw [h1]
      simp
      omega)
    rw [List.length_map] at this
    exact this
theorem itemsTx {l : List It} (ok : OkL l) : ∀ x ∈ l, ∀ c ∈ x.tx, c < 256 := fun x hx => (ok.2 x hx).tx
end Go.Proofs.PlatenLayout
