/- A slice of bytes that comes in as an argument, as the walks are told of it. -/
import Derived.Test.YtpcfbdnckmfelaaRows
import Derived.Test.YtpcfbdnckmfelaaSxK
import Derived.ProofKit
import Derived.OpenShut
import Derived.ChangeOld
namespace Go.Proofs.Ytpcfbdnckmfelaa
open Go.ChangeShapes Go.WideShapes Go.ChangeAt Go.RowKit Go.Proofs.PlatenSexp
set_option linter.unusedVariables false
set_option maxRecDepth 100000

theorem c5 : Try.prog.cellsOf 5 = 1 := by kernel_rfl
theorem own : ownKnob Try.prog.godebug = none := by kernel_rfl
theorem laidOut : laidOutB Try.prog = true := by kernel_rfl

/-- A slice of n bytes of whatever length. -/
def IsArg (w : World) (v : Value) (n : Nat) (f : Nat → Nat) : Prop := (∀ j, f j < 256) ∧ n ≤ 9223372036854775807 ∧ Row w v n f

theorem isArg_of {w : World} {n cap : Nat} {zs : List Int} (hz : zs.length = cap) (hl : n ≤ cap) (hm : cap ≤ maxLen) {x : Addr}
    (hcell : ∀ i, i < zs.length → w.cell? (x.add i) = some (.int .u8 (zs.getD i 0))) (hwz : ∀ m ∈ zs, (Lit.int .u8 m).wf = true) : ∃ f, IsArg w (.slice (some x) n cap) n f := by
  have hb : ∀ i, 0 ≤ zs.getD i 0 ∧ zs.getD i 0 ≤ 255 := by
    intro i
    by_cases hi : i < zs.length
    · have hmem : zs.getD i 0 ∈ zs := by
        rw [List.getD_eq_getElem?_getD, List.getElem?_eq_getElem hi]
        exact List.getElem_mem hi
      simpa [Lit.wf, IntKind.min, IntKind.max, IntKind.signed, IntKind.bits] using hwz _ hmem
    · rw [List.getD_eq_getElem?_getD, List.getElem?_eq_none (by omega)]
      decide
  refine ⟨fun j => (zs.getD j 0).toNat, fun j => by have := hb j; show (zs.getD j 0).toNat < 256; omega, by unfold maxLen at hm; omega, some x, cap, rfl, fun hn => ?_⟩
  obtain ⟨b, off, spot⟩ := x
  have hc := hcell 0 (by omega)
  have hspot : spot = none := by simpa [Addr.add] using World.cell?_spot hc
  subst hspot
  refine ⟨b, off, rfl, hl, fun j hj => ?_⟩
  have := hcell j (by omega)
  have h2 := hb j
  rw [show ((((zs.getD j 0).toNat : Nat) : Int)) = zs.getD j 0 from Int.toNat_of_nonneg h2.1]
  by_cases hj0 : j = 0
  · subst hj0; simpa [Addr.add] using this
  · simpa [Addr.add, hj0] using this

theorem open_bytes {H : Type} {enc : TypeId × Value → H} {W : World} {base : Nat} {v : Value} {d : DataW H} {p : List MemPlace} (hv : Value.okWide Try.prog W .any base 22 v)
    (h : DataW.Trod enc Try.prog W 0 (fun _ => true) true 22 v d p) : ∃ n f, IsArg W v n f := by
  obtain ⟨a, len, cap, rfl⟩ := okWide_slice Try.underlying22 hv
  obtain ⟨fuel, hf⟩ := h
  rcases open_ints Try.underlying22 Try.underlying5 c5 hf with ⟨hcs, _⟩ | ⟨x, l, c, zs, hcs, _, hl, hm, hz, _, hcell, hwz⟩
  · simp [Value.cells] at hcs
    obtain ⟨rfl, rfl, rfl⟩ := hcs
    exact ⟨0, fun _ => 0, fun _ => (by decide : 0 < 256), by omega, none, 0, rfl, fun h => absurd h (Nat.lt_irrefl _)⟩
  · simp [Value.cells] at hcs
    obtain ⟨rfl, rfl, rfl⟩ := hcs
    obtain ⟨f, hf⟩ := isArg_of (w := W) (n := len) (by simpa using hz) hl hm hcell hwz
    exact ⟨len, f, hf⟩
end Go.Proofs.Ytpcfbdnckmfelaa
