/- A slice of acts that comes in as an argument; both tables at first. -/
import Derived.Test.YtibdhahkkejnjaaPcA
namespace Go.Proofs.PlatenPiece
open Go Go.RowKit
set_option linter.unusedVariables false
set_option maxRecDepth 100000

theorem newC_c (l : List Nat) : (newC l).map (·.c) = l := by
  apply List.ext_getElem?
  intro k
  simp only [newC, List.getElem?_map, List.getElem?_mapIdx]
  cases l[k]? <;> rfl
theorem tx_begin {B : Nat} {w : World} {T : Nat} {pv : Value} {ps : List Pc} {l : List Nat} (h : Tab B w T pv ps l.length 0) (hf : PlatenPiece.flat ps = l) (hp : ps.length ≤ 1) (hk : ∀ p ∈ ps, p.k = 0) (hl : l.length ≤ 65536) (hB : B ≤ w.heap.size) : Tx B w T l 0 (PlatenPiece.Own T pv ps) := by
  have hs : lenSum ps = l.length := by rw [← hf, flat_len]
  exact ⟨pv, ps, 0, rfl, by rw [hs]; exact h, hf, by omega, by omega, by omega, fun p hp => by have := hk p hp; omega, hB⟩
theorem RTab.base {B B' : Nat} {w : World} {M : Nat} {lv : Value} {cs : List Rc} {N : Int} (h : RTab B w M lv cs N) (hB : B' ≤ B) : RTab B' w M lv cs N := ⟨Nat.le_trans hB h.low, h.head, ownsRow_base h.row hB⟩
theorem tr_begin {w w1 w2 : World} {T : Nat} {l : List Nat} {O : Nat → Prop} {lv : Value} (hX : Tx w.heap.size w1 T l 0 O) (hg : w.grownBy w1 none) (hR : RTab w1.heap.size w2 w1.heap.size lv (newC l) 0) (hb : Below w1.heap.size w1 w2) : TR w.heap.size w w2 T w1.heap.size l 0 O lv (newC l) 0 := by
  have hg2 : w1.grownBy w2 none := ⟨hb.os, hb.tape, hb.output, hb.size, fun k hk _ => hb.block k hk⟩
  have hg3 := grown_trans hg hg2
  refine ⟨hX.grown hg2, hR.base hg.size, fun k ho hr => ?_, ⟨hg3.os, hg3.tape, hg3.output, hg3.size, fun k hk => hg3.block k hk (by simp)⟩, hg3.size⟩
  have h1 := (hX.own k ho).2
  have h2 := (hR.own k hr).1
  omega
end Go.Proofs.PlatenPiece

namespace Go.Proofs.Ytibdhahkkejnjaa
open Go.ChangeShapes Go.WideShapes Go.ChangeAt Go.RowKit Go.Proofs.PlatenPiece
set_option linter.unusedVariables false
set_option maxRecDepth 100000

theorem c35 : Try.prog.cellsOf 35 = 4 := by kernel_rfl
theorem exists_list {α : Type} {P : Nat → α → Prop} (n : Nat) (h : ∀ i, i < n → ∃ a, P i a) : ∃ xs : List α, xs.length = n ∧ ∀ i a, xs[i]? = some a → P i a := by
  induction n with
  | zero => exact ⟨[], rfl, fun i a hi => by simp at hi⟩
  | succ n ih =>
    obtain ⟨xs, h1, h2⟩ := ih (fun i hi => h i (by omega))
    obtain ⟨a, ha⟩ := h n (by omega)
    refine ⟨xs ++ [a], by simp [h1], fun i b hb => ?_⟩
    rcases Nat.lt_or_ge i n with q | q
    · rw [List.getElem?_append_left (by omega)] at hb
      exact h2 i b hb
    · rw [List.getElem?_append_right (by omega)] at hb
      have : i - xs.length = 0 := by
        have := (List.getElem?_eq_some_iff.1 hb).1
        simp at this
        omega
      rw [this] at hb
      simp at hb
      subst hb
      have : i = n := by omega
      rw [this]
      exact ha
theorem four {α : Type} {cs : List α} (h : cs.length = 4) : ∃ a b c d, cs = [a, b, c, d] := by
  match cs, h with
  | [a, b, c, d], _ => exact ⟨a, b, c, d, rfl⟩
theorem int_of {H : Type} {enc : TypeId × Value → H} {W : World} {n : Nat} {c : Value} {k : IntKind} {t : TypeId} {y : DataW H × List MemPlace} (ht : Try.prog.underlying t = some (.int k)) (h : DataW.trod enc Try.prog W 0 (fun _ => true) true n t [c] = some y) : ∃ z, c = .int k z ∧ (Lit.int k z).wf = true := by
  obtain ⟨z, h1, _, h2⟩ := DataW.trod_int ht h
  exact ⟨z, by simpa using h1, h2⟩
theorem src_of {H : Type} {enc : TypeId × Value → H} {W : World} {n : Nat} {c : Value} {y : DataW H × List MemPlace} (h : DataW.trod enc Try.prog W 0 (fun _ => true) true n 22 [c] = some y) : ∃ l, (∀ x ∈ l, x < 256) ∧ PlatenPiece.Src W c l := by
  rcases open_ints Try.underlying22 Try.underlying5 c5 h with ⟨hcs, _⟩ | ⟨x, l, cc, zs, hcs, _, hl, hm, hz, _, hcell, hwz⟩
  · simp at hcs
    subst hcs
    exact ⟨[], by simp, Or.inl ⟨rfl, rfl⟩⟩
  · simp at hcs
    subst hcs
    have := isSrc_of (w := W) (n := l) (by simpa using hz) hl hm hcell hwz
    exact ⟨_, this.1, this.2.2.2⟩

theorem open_actsP {H : Type} {enc : TypeId × Value → H} {W : World} {base : Nat} {v : Value} {d : DataW H} {p : List MemPlace} (hv : Value.okWide Try.prog W .any base 23 v)
    (h : DataW.Trod enc Try.prog W 0 (fun _ => true) true 23 v d p) : ∃ xs, IsActsP W v xs := by
  obtain ⟨a0, len0, cap0, rfl⟩ := okWide_slice Try.underlying23 hv
  obtain ⟨fuel, hf⟩ := h
  rcases DataW.trod_slice Try.underlying23 hf with ⟨hcs, _⟩ | ⟨a, len, cap, elems, rest, n, _, hcs, _, hb, hl, hm, hlen, hel, _⟩
  · simp [Value.cells] at hcs
    obtain ⟨rfl, rfl, rfl⟩ := hcs
    exact ⟨[], by simp, none, 0, rfl, fun i a hi => by simp at hi⟩
  · simp [Value.cells] at hcs
    obtain ⟨rfl, rfl, rfl⟩ := hcs
    have each : ∀ i, i < len0 → ∃ x : AP, x.ok W ∧ ApAt W (a.add (i * 4)) x := by
      intro i hi
      have h1 := hel i hi
      rw [List.getElem?_eq_getElem (by omega), Option.bind_eq_some_iff, c35] at h1
      obtain ⟨cs, h2, h3⟩ := h1
      obtain ⟨_, h4, h5⟩ := World.cells?_some h2
      obtain ⟨x0, x1, x2, x3, rfl⟩ := four h4
      obtain ⟨ys, k, _, _, _, h6, h7⟩ := DataW.trod_struct Try.underlying35 h3
      have g0 := h7 0 _ rfl
      have g1 := h7 1 _ rfl
      have g2 := h7 2 _ rfl
      have g3 := h7 3 _ rfl
      have hy : ys.length = 4 := h6
      obtain ⟨y0, y1, y2, y3, rfl⟩ := four hy
      simp only [List.getElem?_cons_zero, List.getElem?_cons_succ] at g0 g1 g2 g3
      obtain ⟨z0, rfl, w0⟩ := int_of Try.underlying5 g0
      obtain ⟨z1, rfl, w1⟩ := int_of Try.underlying3 g1
      obtain ⟨z2, rfl, w2⟩ := int_of Try.underlying3 g2
      obtain ⟨l3, u3, v3⟩ := src_of g3
      have b0 : 0 ≤ z0 ∧ z0 ≤ 255 := by simpa [Lit.wf, IntKind.min, IntKind.max, IntKind.signed, IntKind.bits] using w0
      have b1 : -9223372036854775808 ≤ z1 ∧ z1 ≤ 9223372036854775807 := by simpa [Lit.wf, IntKind.min, IntKind.max, IntKind.signed, IntKind.bits] using w1
      have b2 : -9223372036854775808 ≤ z2 ∧ z2 ≤ 9223372036854775807 := by simpa [Lit.wf, IntKind.min, IntKind.max, IntKind.signed, IntKind.bits] using w2
      have q0 := h5 0 (by omega)
      have q1 := h5 1 (by omega)
      have q2 := h5 2 (by omega)
      have q3 := h5 3 (by omega)
      refine ⟨⟨z0.toNat, z1, z2, x3, l3⟩, ⟨by simp only; omega, b1, b2, u3, v3⟩, ?_, ?_, ?_, ?_⟩
      · have e0 : ((z0.toNat : Nat) : Int) = z0 := by omega
        show W.cell? _ = some (.int .u8 ((z0.toNat : Nat) : Int))
        rw [e0]
        simpa [Addr.add] using q0
      · simpa [Addr.add] using q1
      · simpa [Addr.add] using q2
      · simpa [Addr.add] using q3
    obtain ⟨xs, h1, h2⟩ := exists_list len0 each
    unfold maxLen at hm
    exact ⟨xs, by omega, some a, cap0, by rw [h1], fun i x hx => ⟨(h2 i x hx).1, a, rfl, (h2 i x hx).2⟩⟩
end Go.Proofs.Ytibdhahkkejnjaa
