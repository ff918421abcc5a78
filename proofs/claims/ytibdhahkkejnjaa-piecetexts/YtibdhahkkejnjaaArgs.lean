/- A slice of bytes that comes in as an argument, as the walks are told of it. -/
import Derived.Test.YtibdhahkkejnjaaRows
import Derived.Test.YtibdhahkkejnjaaTabM
import Derived.ProofKit
import Derived.OpenShut
import Derived.ChangeOld
namespace Go.Proofs.Ytibdhahkkejnjaa
open Go.ChangeShapes Go.WideShapes Go.ChangeAt Go.RowKit Go.Proofs.PlatenPiece
set_option linter.unusedVariables false
set_option maxRecDepth 100000

theorem c5 : Try.prog.cellsOf 5 = 1 := by kernel_rfl
theorem own : ownKnob Try.prog.godebug = none := by kernel_rfl
theorem laidOut : laidOutB Try.prog = true := by kernel_rfl

/-- A slice of n bytes, those of l. -/
def IsSrc (w : World) (v : Value) (n : Nat) (l : List Nat) : Prop := (∀ c ∈ l, c < 256) ∧ l.length = n ∧ n ≤ 9223372036854775807 ∧ PlatenPiece.Src w v l

theorem isSrc_of {w : World} {n cap : Nat} {zs : List Int} (hz : zs.length = cap) (hl : n ≤ cap) (hm : cap ≤ maxLen) {x : Addr}
    (hcell : ∀ i, i < zs.length → w.cell? (x.add i) = some (.int .u8 (zs.getD i 0))) (hwz : ∀ m ∈ zs, (Lit.int .u8 m).wf = true) : IsSrc w (.slice (some x) n cap) n ((zs.take n).map Int.toNat) := by
  have hb : ∀ m ∈ zs, 0 ≤ m ∧ m ≤ 255 := fun m hm => by
    simpa [Lit.wf, IntKind.min, IntKind.max, IntKind.signed, IntKind.bits] using hwz m hm
  have hlen : ((zs.take n).map Int.toNat).length = n := by simp; omega
  refine ⟨fun c hc => ?_, hlen, by unfold maxLen at hm; omega, Or.inr ⟨x, cap, by rw [hlen], fun j u hj => ?_⟩⟩
  · obtain ⟨m, hm, rfl⟩ := List.mem_map.1 hc
    have := hb m (List.mem_of_mem_take hm)
    omega
  · have hjn : j < n := by
      have := (List.getElem?_eq_some_iff.1 hj).1
      rw [bytesV_len, hlen] at this
      exact this
    have hjz : j < zs.length := by omega
    have hc := hcell j hjz
    unfold bytesV at hj
    rw [List.getElem?_map, List.getElem?_map, List.getElem?_take, if_pos hjn, List.getElem?_eq_getElem hjz] at hj
    simp only [Option.map_some, Option.some.injEq] at hj
    have h2 := hb _ (List.getElem_mem hjz)
    rw [hc, ← hj, List.getD_eq_getElem?_getD, List.getElem?_eq_getElem hjz, Option.getD_some, Int.toNat_of_nonneg h2.1]

theorem open_src {H : Type} {enc : TypeId × Value → H} {W : World} {base : Nat} {v : Value} {d : DataW H} {p : List MemPlace} (hv : Value.okWide Try.prog W .any base 22 v)
    (h : DataW.Trod enc Try.prog W 0 (fun _ => true) true 22 v d p) : ∃ n l, IsSrc W v n l := by
  obtain ⟨a, len, cap, rfl⟩ := okWide_slice Try.underlying22 hv
  obtain ⟨fuel, hf⟩ := h
  rcases open_ints Try.underlying22 Try.underlying5 c5 hf with ⟨hcs, _⟩ | ⟨x, l, c, zs, hcs, _, hl, hm, hz, _, hcell, hwz⟩
  · simp [Value.cells] at hcs
    obtain ⟨rfl, rfl, rfl⟩ := hcs
    exact ⟨0, [], fun c hc => by simp at hc, rfl, by omega, Or.inl ⟨rfl, rfl⟩⟩
  · simp [Value.cells] at hcs
    obtain ⟨rfl, rfl, rfl⟩ := hcs
    exact ⟨len, _, isSrc_of (w := W) (n := len) (by simpa using hz) hl hm hcell hwz⟩
end Go.Proofs.Ytibdhahkkejnjaa
