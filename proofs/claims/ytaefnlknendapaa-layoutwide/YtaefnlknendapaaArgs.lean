/- A slice of bytes, or of parts, that comes in as an argument, as the walks are told of it. -/
import Derived.Test.YtaefnlknendapaaPtA
import Derived.ProofKit
import Derived.OpenShut
import Derived.ChangeOld
namespace Go.Proofs.Ytaefnlknendapaa
open Go.ChangeShapes Go.WideShapes Go.ChangeAt Go.RowKit Go.Proofs.PlatenLayout Go.Proofs.PlatenGlyph
set_option linter.unusedVariables false
set_option maxRecDepth 100000

theorem c5 : Try.prog.cellsOf 5 = 1 := by kernel_rfl
theorem c45 : Try.prog.cellsOf 45 = 4 := by kernel_rfl
theorem own : ownKnob Try.prog.godebug = none := by kernel_rfl
theorem laidOut : laidOutB Try.prog = true := by kernel_rfl

theorem exists_list {α : Type} {P : Nat → α → Prop} (n : Nat) (h : ∀ i, i < n → ∃ a, P i a) : ∃ xs : List α, xs.length = n ∧ ∀ i a, xs[i]? = some a → P i a := by
  induction n with
  | zero => exact ⟨[], rfl, fun i a hi => by simp at hi⟩
  | succ n ih =>
    obtain ⟨xs, h1, h2⟩ := ih (fun i hi => h i (by omega))
    obtain ⟨a, ha⟩ := h n (by omega)
    refine ⟨xs ++ [a], by simp [h1], fun i b hb => ?_⟩
    rcases Nat.lt_or_ge i n with q | q
    · rw [List.getElem?_append_left (by omega)] at hb
      exact h2 i b hb
    · rw [List.getElem?_append_right (by omega)] at hb
      have : i - xs.length = 0 := by
        have := (List.getElem?_eq_some_iff.1 hb).1
        simp at this
        omega
      rw [this] at hb
      simp at hb
      subst hb
      have : i = n := by omega
      rw [this]
      exact ha
theorem four {α : Type} {cs : List α} (h : cs.length = 4) : ∃ a b c d, cs = [a, b, c, d] := by
  match cs, h with
  | [a, b, c, d], _ => exact ⟨a, b, c, d, rfl⟩
theorem int_of {H : Type} {enc : TypeId × Value → H} {W : World} {n : Nat} {c : Value} {k : IntKind} {t : TypeId} {y : DataW H × List MemPlace} (ht : Try.prog.underlying t = some (.int k)) (h : DataW.trod enc Try.prog W 0 (fun _ => true) true n t [c] = some y) : ∃ z, c = .int k z ∧ (Lit.int k z).wf = true := by
  obtain ⟨z, h1, _, h2⟩ := DataW.trod_int ht h
  exact ⟨z, by simpa using h1, h2⟩

theorem open_acts {H : Type} {enc : TypeId × Value → H} {W : World} {base : Nat} {v : Value} {d : DataW H} {p : List MemPlace} (hv : Value.okWide Try.prog W .any base 22 v)
    (h : DataW.Trod enc Try.prog W 0 (fun _ => true) true 22 v d p) : ∃ xs, IsParts W v xs := by
  obtain ⟨a0, len0, cap0, rfl⟩ := okWide_slice Try.underlying22 hv
  obtain ⟨fuel, hf⟩ := h
  rcases DataW.trod_slice Try.underlying22 hf with ⟨hcs, _⟩ | ⟨a, len, cap, elems, rest, n, _, hcs, _, hb, hl, hm, hlen, hel, _⟩
  · simp [Value.cells] at hcs
    obtain ⟨rfl, rfl, rfl⟩ := hcs
    exact ⟨[], by simp, none, 0, rfl, fun i a hi => by simp at hi⟩
  · simp [Value.cells] at hcs
    obtain ⟨rfl, rfl, rfl⟩ := hcs
    have each : ∀ i, i < len0 → ∃ x : Pt, x.ok ∧ W.cell? ((a.add (i * 4)).add 0) = some (.int .u8 (x.kind : Nat)) ∧ W.cell? ((a.add (i * 4)).add 1) = some (.int .i16 x.n) ∧ W.cell? ((a.add (i * 4)).add 2) = some (.int .i8 x.off) ∧ W.cell? ((a.add (i * 4)).add 3) = some (.int .u8 (x.like : Nat)) := by
      intro i hi
      have h1 := hel i hi
      rw [List.getElem?_eq_getElem (by omega), Option.bind_eq_some_iff, c45] at h1
      obtain ⟨cs, h2, h3⟩ := h1
      obtain ⟨_, h4, h5⟩ := World.cells?_some h2
      obtain ⟨x0, x1, x2, x3, rfl⟩ := four h4
      obtain ⟨ys, k, _, _, _, h6, h7⟩ := DataW.trod_struct Try.underlying45 h3
      have g0 := h7 0 _ rfl
      have g1 := h7 1 _ rfl
      have g2 := h7 2 _ rfl
      have g3 := h7 3 _ rfl
      have hy : ys.length = 4 := h6
      obtain ⟨y0, y1, y2, y3, rfl⟩ := four hy
      simp only [List.getElem?_cons_zero, List.getElem?_cons_succ] at g0 g1 g2 g3
      obtain ⟨z0, rfl, w0⟩ := int_of Try.underlying5 g0
      obtain ⟨z1, rfl, w1⟩ := int_of Try.underlying29 g1
      obtain ⟨z2, rfl, w2⟩ := int_of Try.underlying43 g2
      obtain ⟨z3, rfl, w3⟩ := int_of Try.underlying5 g3
      have b0 : 0 ≤ z0 ∧ z0 ≤ 255 := by simpa [Lit.wf, IntKind.min, IntKind.max, IntKind.signed, IntKind.bits] using w0
      have b1 : -32768 ≤ z1 ∧ z1 ≤ 32767 := by simpa [Lit.wf, IntKind.min, IntKind.max, IntKind.signed, IntKind.bits] using w1
      have b2 : -128 ≤ z2 ∧ z2 ≤ 127 := by simpa [Lit.wf, IntKind.min, IntKind.max, IntKind.signed, IntKind.bits] using w2
      have b3 : 0 ≤ z3 ∧ z3 ≤ 255 := by simpa [Lit.wf, IntKind.min, IntKind.max, IntKind.signed, IntKind.bits] using w3
      have q0 := h5 0 (by omega)
      have q1 := h5 1 (by omega)
      have q2 := h5 2 (by omega)
      have q3 := h5 3 (by omega)
      have e0 : ((z0.toNat : Nat) : Int) = z0 := by omega
      have e3 : ((z3.toNat : Nat) : Int) = z3 := by omega
      refine ⟨⟨z0.toNat, z1, z2, z3.toNat⟩, ⟨by show z0.toNat < 256; omega, b1, b2, by show z3.toNat < 256; omega⟩, ?_, ?_, ?_, ?_⟩
      · show W.cell? _ = some (.int .u8 ((z0.toNat : Nat) : Int))
        rw [e0]
        exact q0
      · exact q1
      · exact q2
      · show W.cell? _ = some (.int .u8 ((z3.toNat : Nat) : Int))
        rw [e3]
        exact q3
    obtain ⟨xs, h1, h2⟩ := exists_list len0 each
    unfold maxLen at hm
    refine ⟨xs, by omega, some a, cap0, by rw [h1], fun i x hx => ?_⟩
    obtain ⟨b, off, spot⟩ := a
    have hi := (List.getElem?_eq_some_iff.1 hx).1
    obtain ⟨_, z0, _⟩ := h2 0 xs[0] (List.getElem?_eq_getElem (by omega))
    have hspot : spot = none := by simpa [Addr.add] using World.cell?_spot z0
    subst hspot
    obtain ⟨ok, q0, q1, q2, q3⟩ := h2 i x hx
    simp only [Addr.add_lit, Nat.add_zero] at q0 q1 q2 q3
    exact ⟨ok, b, off, rfl, q0, q1, q2, q3⟩

/-- A slice of bytes by its length and its bytes. -/
def IsRow (w : World) (v : Value) (n : Nat) (f : Nat → Nat) : Prop := (∀ j, f j < 256) ∧ n ≤ 9223372036854775807 ∧ ∃ a cap, v = .slice a n cap ∧ (0 < n → ∃ b off, a = some ⟨b, off, none⟩ ∧ n ≤ cap ∧ Cells w b off n f)
theorem isRow_of {w : World} {n cap : Nat} {zs : List Int} (hz : zs.length = cap) (hl : n ≤ cap) (hm : cap ≤ maxLen) {x : Addr}
    (hcell : ∀ i, i < zs.length → w.cell? (x.add i) = some (.int .u8 (zs.getD i 0))) (hwz : ∀ m ∈ zs, (Lit.int .u8 m).wf = true) : ∃ f, IsRow w (.slice (some x) n cap) n f := by
  have hb : ∀ i, 0 ≤ zs.getD i 0 ∧ zs.getD i 0 ≤ 255 := by
    intro i
    by_cases hi : i < zs.length
    · have hmem : zs.getD i 0 ∈ zs := by
        rw [List.getD_eq_getElem?_getD, List.getElem?_eq_getElem hi]
        exact List.getElem_mem hi
      simpa [Lit.wf, IntKind.min, IntKind.max, IntKind.signed, IntKind.bits] using hwz _ hmem
    · rw [List.getD_eq_getElem?_getD, List.getElem?_eq_none (by omega)]
      decide
  refine ⟨fun j => (zs.getD j 0).toNat, fun j => by have := hb j; show (zs.getD j 0).toNat < 256; omega, by unfold maxLen at hm; omega, some x, cap, rfl, fun hn => ?_⟩
  obtain ⟨b, off, spot⟩ := x
  have hc := hcell 0 (by omega)
  have hspot : spot = none := by simpa [Addr.add] using World.cell?_spot hc
  subst hspot
  refine ⟨b, off, rfl, hl, fun j hj => ?_⟩
  have := hcell j (by omega)
  have h2 := hb j
  rw [show ((((zs.getD j 0).toNat : Nat) : Int)) = zs.getD j 0 from Int.toNat_of_nonneg h2.1]
  by_cases hj0 : j = 0
  · subst hj0; simpa [Addr.add] using this
  · simpa [Addr.add, hj0] using this

theorem open_bytes {H : Type} {enc : TypeId × Value → H} {W : World} {base : Nat} {v : Value} {d : DataW H} {p : List MemPlace} (hv : Value.okWide Try.prog W .any base 33 v)
    (h : DataW.Trod enc Try.prog W 0 (fun _ => true) true 33 v d p) : ∃ n f, IsRow W v n f := by
  obtain ⟨a, len, cap, rfl⟩ := okWide_slice Try.underlying33 hv
  obtain ⟨fuel, hf⟩ := h
  rcases open_ints Try.underlying33 Try.underlying5 c5 hf with ⟨hcs, _⟩ | ⟨x, l, c, zs, hcs, _, hl, hm, hz, _, hcell, hwz⟩
  · simp [Value.cells] at hcs
    obtain ⟨rfl, rfl, rfl⟩ := hcs
    exact ⟨0, fun _ => 0, fun _ => (by decide : 0 < 256), by omega, none, 0, rfl, fun h => absurd h (Nat.lt_irrefl _)⟩
  · simp [Value.cells] at hcs
    obtain ⟨rfl, rfl, rfl⟩ := hcs
    obtain ⟨f, hf⟩ := isRow_of (w := W) (n := len) (by simpa using hz) hl hm hcell hwz
    exact ⟨len, f, hf⟩
theorem itemsOk {w : World} {v : Value} {l : List Pt} (h : IsParts w v l) (hl : l.length ≤ 100) : OkL (l.map itemOf) := by
  obtain ⟨_, a, cap, _, h⟩ := h
  refine ⟨by rw [List.length_map]; omega, fun x hx => ?_⟩
  obtain ⟨p, hp, rfl⟩ := List.mem_map.1 hx
  obtain ⟨i, hi⟩ := List.getElem?_of_mem hp
  exact item_ok (h i p hi).1
end Go.Proofs.Ytaefnlknendapaa
