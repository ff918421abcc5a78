/- A slice of bytes, or of nodes, that comes in as an argument, as the walks are told of it; what is asked of the laws' texts. -/
import Derived.Test.YtfakfgmengcndaaRows
import Derived.Test.YtfakfgmengcndaaKQ
import Derived.Test.YtfakfgmengcndaaKO
import Derived.ProofKit
import Derived.OpenShut
import Derived.ChangeOld
namespace Go.Proofs.Ytfakfgmengcndaa
open Go.ChangeShapes Go.WideShapes Go.ChangeAt Go.RowKit Go.Proofs.PlatenTree
set_option linter.unusedVariables false
set_option maxRecDepth 100000

theorem c5 : Try.prog.cellsOf 5 = 1 := by kernel_rfl
theorem c82 : Try.prog.cellsOf 82 = 2 := by kernel_rfl
theorem own : ownKnob Try.prog.godebug = none := by kernel_rfl
theorem laidOut : laidOutB Try.prog = true := by kernel_rfl

/-- A slice of n bytes of whatever length. -/
def IsArg (w : World) (v : Value) (n : Nat) (f : Nat → Nat) : Prop := (∀ j, f j < 256) ∧ n ≤ 9223372036854775807 ∧ PlatenJson.Row w v n f
theorem isArg_of {w : World} {n cap : Nat} {zs : List Int} (hz : zs.length = cap) (hl : n ≤ cap) (hm : cap ≤ maxLen) {x : Addr}
    (hcell : ∀ i, i < zs.length → w.cell? (x.add i) = some (.int .u8 (zs.getD i 0))) (hwz : ∀ m ∈ zs, (Lit.int .u8 m).wf = true) : ∃ f, IsArg w (.slice (some x) n cap) n f := by
  have hb : ∀ i, 0 ≤ zs.getD i 0 ∧ zs.getD i 0 ≤ 255 := by
    intro i
    by_cases hi : i < zs.length
    · have hmem : zs.getD i 0 ∈ zs := by
        rw [List.getD_eq_getElem?_getD, List.getElem?_eq_getElem hi]
        exact List.getElem_mem hi
      simpa [Lit.wf, IntKind.min, IntKind.max, IntKind.signed, IntKind.bits] using hwz _ hmem
    · rw [List.getD_eq_getElem?_getD, List.getElem?_eq_none (by omega)]
      decide
  refine ⟨fun j => (zs.getD j 0).toNat, fun j => by have := hb j; show (zs.getD j 0).toNat < 256; omega, by unfold maxLen at hm; omega, some x, cap, rfl, fun hn => ?_⟩
  obtain ⟨b, off, spot⟩ := x
  have hc := hcell 0 (by omega)
  have hspot : spot = none := by simpa [Addr.add] using World.cell?_spot hc
  subst hspot
  refine ⟨b, off, rfl, hl, fun j hj => ?_⟩
  have := hcell j (by omega)
  have h2 := hb j
  rw [show ((((zs.getD j 0).toNat : Nat) : Int)) = zs.getD j 0 from Int.toNat_of_nonneg h2.1]
  by_cases hj0 : j = 0
  · subst hj0; simpa [Addr.add] using this
  · simpa [Addr.add, hj0] using this

theorem open_bytes {H : Type} {enc : TypeId × Value → H} {W : World} {base : Nat} {v : Value} {d : DataW H} {p : List MemPlace} (hv : Value.okWide Try.prog W .any base 22 v)
    (h : DataW.Trod enc Try.prog W 0 (fun _ => true) true 22 v d p) : ∃ n f, IsArg W v n f := by
  obtain ⟨a, len, cap, rfl⟩ := okWide_slice Try.underlying22 hv
  obtain ⟨fuel, hf⟩ := h
  rcases open_ints Try.underlying22 Try.underlying5 c5 hf with ⟨hcs, _⟩ | ⟨x, l, c, zs, hcs, _, hl, hm, hz, _, hcell, hwz⟩
  · simp [Value.cells] at hcs
    obtain ⟨rfl, rfl, rfl⟩ := hcs
    exact ⟨0, fun _ => 0, fun _ => (by decide : 0 < 256), by omega, none, 0, rfl, fun h => absurd h (Nat.lt_irrefl _)⟩
  · simp [Value.cells] at hcs
    obtain ⟨rfl, rfl, rfl⟩ := hcs
    obtain ⟨f, hf⟩ := isArg_of (w := W) (n := len) (by simpa using hz) hl hm hcell hwz
    exact ⟨len, f, hf⟩
theorem exists_list {α : Type} {P : Nat → α → Prop} (n : Nat) (h : ∀ i, i < n → ∃ a, P i a) : ∃ xs : List α, xs.length = n ∧ ∀ i a, xs[i]? = some a → P i a := by
  induction n with
  | zero => exact ⟨[], rfl, fun i a hi => by simp at hi⟩
  | succ n ih =>
    obtain ⟨xs, h1, h2⟩ := ih (fun i hi => h i (by omega))
    obtain ⟨a, ha⟩ := h n (by omega)
    refine ⟨xs ++ [a], by simp [h1], fun i b hb => ?_⟩
    rcases Nat.lt_or_ge i n with q | q
    · rw [List.getElem?_append_left (by omega)] at hb
      exact h2 i b hb
    · rw [List.getElem?_append_right (by omega)] at hb
      have : i - xs.length = 0 := by
        have := (List.getElem?_eq_some_iff.1 hb).1
        simp at this
        omega
      rw [this] at hb
      simp at hb
      subst hb
      have : i = n := by omega
      rw [this]
      exact ha
theorem two {α : Type} {cs : List α} (h : cs.length = 2) : ∃ a b, cs = [a, b] := by
  match cs, h with
  | [a, b], _ => exact ⟨a, b, rfl⟩
theorem int_of {H : Type} {enc : TypeId × Value → H} {W : World} {n : Nat} {c : Value} {k : IntKind} {t : TypeId} {y : DataW H × List MemPlace} (ht : Try.prog.underlying t = some (.int k)) (h : DataW.trod enc Try.prog W 0 (fun _ => true) true n t [c] = some y) : ∃ z, c = .int k z ∧ (Lit.int k z).wf = true := by
  obtain ⟨z, h1, _, h2⟩ := DataW.trod_int ht h
  exact ⟨z, by simpa using h1, h2⟩
theorem open_acts {H : Type} {enc : TypeId × Value → H} {W : World} {base : Nat} {v : Value} {d : DataW H} {p : List MemPlace} (hv : Value.okWide Try.prog W .any base 30 v)
    (h : DataW.Trod enc Try.prog W 0 (fun _ => true) true 30 v d p) : ∃ xs, IsNd W v xs := by
  obtain ⟨a0, len0, cap0, rfl⟩ := okWide_slice Try.underlying30 hv
  obtain ⟨fuel, hf⟩ := h
  rcases DataW.trod_slice Try.underlying30 hf with ⟨hcs, _⟩ | ⟨a, len, cap, elems, rest, n, _, hcs, _, hb, hl, hm, hlen, hel, _⟩
  · simp [Value.cells] at hcs
    obtain ⟨rfl, rfl, rfl⟩ := hcs
    exact ⟨[], nd_nil W none 0⟩
  · simp [Value.cells] at hcs
    obtain ⟨rfl, rfl, rfl⟩ := hcs
    have each : ∀ i, i < len0 → ∃ x : Nd, (x.kind < 256 ∧ x.n < 256) ∧ W.cell? ((a.add (i * 2)).add 0) = some (.int .u8 (x.kind : Nat)) ∧ W.cell? ((a.add (i * 2)).add 1) = some (.int .u8 (x.n : Nat)) := by
      intro i hi
      have h1 := hel i hi
      rw [List.getElem?_eq_getElem (by omega), Option.bind_eq_some_iff, c82] at h1
      obtain ⟨cs, h2, h3⟩ := h1
      obtain ⟨_, h4, h5⟩ := World.cells?_some h2
      obtain ⟨x0, x1, rfl⟩ := two h4
      obtain ⟨ys, k, _, _, _, h6, h7⟩ := DataW.trod_struct Try.underlying82 h3
      have g0 := h7 0 _ rfl
      have g1 := h7 1 _ rfl
      have hy : ys.length = 2 := h6
      obtain ⟨y0, y1, rfl⟩ := two hy
      simp only [List.getElem?_cons_zero, List.getElem?_cons_succ] at g0 g1
      obtain ⟨z0, rfl, w0⟩ := int_of Try.underlying5 g0
      obtain ⟨z1, rfl, w1⟩ := int_of Try.underlying5 g1
      have b0 : 0 ≤ z0 ∧ z0 ≤ 255 := by simpa [Lit.wf, IntKind.min, IntKind.max, IntKind.signed, IntKind.bits] using w0
      have b1 : 0 ≤ z1 ∧ z1 ≤ 255 := by simpa [Lit.wf, IntKind.min, IntKind.max, IntKind.signed, IntKind.bits] using w1
      have q0 := h5 0 (by omega)
      have q1 := h5 1 (by omega)
      have e0 : ((z0.toNat : Nat) : Int) = z0 := by omega
      have e1 : ((z1.toNat : Nat) : Int) = z1 := by omega
      refine ⟨⟨z0.toNat, z1.toNat⟩, ⟨by show z0.toNat < 256; omega, by show z1.toNat < 256; omega⟩, ?_, ?_⟩
      · show W.cell? _ = some (.int .u8 ((z0.toNat : Nat) : Int))
        rw [e0]
        exact q0
      · show W.cell? _ = some (.int .u8 ((z1.toNat : Nat) : Int))
        rw [e1]
        exact q1
    obtain ⟨xs, h1, h2⟩ := exists_list len0 each
    unfold maxLen at hm
    refine ⟨xs, fun x hx => ?_, some a, cap0, by rw [h1], by omega, fun h0 => ?_⟩
    · obtain ⟨i, hi⟩ := List.getElem?_of_mem hx
      exact (h2 i x hi).1
    · obtain ⟨b, off, spot⟩ := a
      obtain ⟨_, z0, _⟩ := h2 0 xs[0] (List.getElem?_eq_getElem (by omega))
      have hspot : spot = none := by simpa [Addr.add] using World.cell?_spot z0
      subst hspot
      refine ⟨b, off, rfl, fun i x hx => ?_⟩
      obtain ⟨_, q0, q1⟩ := h2 i x hx
      simp only [Addr.add_lit, Nat.add_zero] at q0 q1
      exact ⟨q0, q1⟩
/-- The bytes of an argument as a list. -/
def pL (n : Nat) (f : Nat → Nat) : List Nat := (List.range n).map f
theorem pL_len (n : Nat) (f : Nat → Nat) : (pL n f).length = n := by simp [pL]
theorem pL_lt {f : Nat → Nat} (hf : ∀ j, f j < 256) (n : Nat) : ∀ c ∈ pL n f, c < 256 := by
  intro c hc
  obtain ⟨j, _, rfl⟩ := List.mem_map.1 hc
  exact hf j
theorem pL_row {w : World} {v : Value} {n : Nat} {f : Nat → Nat} (h : PlatenJson.Row w v n f) : RowL w v (pL n f) := by
  obtain ⟨a, cap, rfl, h⟩ := h
  refine ⟨a, cap, by rw [pL_len], fun h0 => ?_⟩
  rw [pL_len] at h0
  obtain ⟨b, off, e, hc, hr⟩ := h h0
  refine ⟨b, off, e, by rw [pL_len]; exact hc, fun j hj => ?_⟩
  rw [pL_len] at hj
  have : (pL n f).getD j 0 = f j := by
    unfold pL
    rw [List.getD_eq_getElem?_getD, List.getElem?_map, List.getElem?_range hj]; rfl
  show w.cell? _ = some (.int .u8 (((pL n f).getD j 0 : Nat) : Int))
  rw [this]
  exact hr j hj
end Go.Proofs.Ytfakfgmengcndaa
