/- Parts as items. -/
import Derived.Test.YtaefnlknendapaaLyC
namespace Go.Proofs.PlatenLayout
open Go Go.RowKit Go.Shelf
set_option linter.unusedVariables false
set_option maxRecDepth 100000

structure Pt where
  kind : Nat
  n : Int
  off : Int
  like : Nat
structure Pt.ok (p : Pt) : Prop where
  k : p.kind < 256
  n : -32768 ≤ p.n ∧ p.n ≤ 32767
  o : -128 ≤ p.off ∧ p.off ≤ 127
  l : p.like < 256
def letters : List Nat := [97, 98, 99, 100, 101, 102, 103, 104, 105, 106, 107, 108, 109, 110, 111, 112, 113, 114, 115, 116, 117, 118, 119, 120, 121, 122]
/-- As an unsigned number of 16 bits. -/
def Pt.u (p : Pt) : Nat := (p.n % 65536).toNat
/-- A part's text, and how many characters it has. -/
def ptx (k : Nat) (e : Bool) : List Nat := letters.take k ++ if e then [195, 169] else []
def itemOf (p : Pt) : It where
  kind := p.kind % 6
  tx := if p.kind % 6 = 1 then ptx (p.u % 9) (decide (p.like % 8 = 7)) else []
  ch := if p.kind % 6 = 1 then p.u % 9 + (if p.like % 8 = 7 then 1 else 0) else 0
  n := if p.like % 16 < 12 ∧ p.kind % 6 = 2 then ((p.u % 3 : Nat) : Int) else p.n
  off := p.off
  col := decide (p.like % 2 = 1)
  whole := decide (p.like / 2 % 2 = 1)
theorem ptx_cnt : ∀ k, k < 9 → ∀ e : Bool, PlatenGlyph.cnt (fun j => (ptx k e).getD j 0) (ptx k e).length = k + (if e = true then 1 else 0) ∧ (ptx k e).length ≤ 10 ∧ (∀ c ∈ ptx k e, c < 256 ∧ c ≠ 32 ∧ c ≠ 10) := by decide +kernel
theorem item_ok {p : Pt} (h : p.ok) : OkIt (itemOf p) := by
  have h9 := Nat.mod_lt p.u (show 0 < 9 by decide)
  obtain ⟨c1, c2, c3⟩ := ptx_cnt (p.u % 9) h9 (decide (p.like % 8 = 7))
  have hn := h.n
  have ho := h.o
  refine ⟨?_, ?_, ?_, ?_, ?_, ?_⟩
  · show p.kind % 6 < 256; omega
  · intro c hc
    simp only [itemOf] at hc
    split at hc
    · exact (c3 c hc).1
    · simp at hc
  · show (if p.kind % 6 = 1 then ptx (p.u % 9) (decide (p.like % 8 = 7)) else []).length ≤ 70000
    split
    · omega
    · simp
  · simp only [itemOf]
    split
    · rw [c1]
      simp
    · rfl
  · simp only [itemOf]
    split <;> omega
  · simp only [itemOf]; omega
/-- Parts in memory. -/
def IsParts (w : World) (v : Value) (l : List Pt) : Prop :=
  l.length ≤ 9223372036854775807 ∧ ∃ a cap, v = .slice a l.length cap ∧ ∀ (i : Nat) (p : Pt), l[i]? = some p → p.ok ∧ ∃ b off, a = some ⟨b, off, none⟩ ∧ w.cell? ⟨b, off + i * 4, none⟩ = some (.int .u8 (p.kind : Nat)) ∧ w.cell? ⟨b, off + i * 4 + 1, none⟩ = some (.int .i16 p.n) ∧ w.cell? ⟨b, off + i * 4 + 2, none⟩ = some (.int .i8 p.off) ∧ w.cell? ⟨b, off + i * 4 + 3, none⟩ = some (.int .u8 (p.like : Nat))
theorem IsParts.below {w w' : World} {v : Value} {l : List Pt} (h : IsParts w v l) (hb : Below w.heap.size w w') : IsParts w' v l := by
  obtain ⟨hl, a, cap, e, h⟩ := h
  refine ⟨hl, a, cap, e, fun i p hp => ?_⟩
  obtain ⟨ok, b, off, e1, c0, c1, c2, c3⟩ := h i p hp
  refine ⟨ok, b, off, e1, ?_, ?_, ?_, ?_⟩
  · rw [hb.cell (p := ⟨b, off + i * 4, none⟩) (World.block_lt_of_cell? _ _ c0)]; exact c0
  · rw [hb.cell (p := ⟨b, off + i * 4 + 1, none⟩) (World.block_lt_of_cell? _ _ c1)]; exact c1
  · rw [hb.cell (p := ⟨b, off + i * 4 + 2, none⟩) (World.block_lt_of_cell? _ _ c2)]; exact c2
  · rw [hb.cell (p := ⟨b, off + i * 4 + 3, none⟩) (World.block_lt_of_cell? _ _ c3)]; exact c3
end Go.Proofs.PlatenLayout
