/- A slice of bytes that comes in as an argument, as the walks are told of it. -/
import Derived.Test.YtglgcbocpdenhaaDoorLaid
import Derived.OpenShut
import Derived.ChangeOld
namespace Go.Proofs.YtglgcbocpdenhaaDoor
open Go.ChangeShapes Go.WideShapes Go.ChangeAt Go.RowKit Go.Proofs.PlatenGlyph
set_option linter.unusedVariables false

/-- A slice of n bytes of whatever length. -/
def IsArg (w : World) (v : Value) (n : Nat) (f : Nat → Nat) : Prop :=
  (∀ j, f j < 256) ∧ n ≤ 9223372036854775807 ∧ ((∃ a cap, v = .slice a 0 cap ∧ n = 0) ∨ ∃ b off cap, v = .slice (some ⟨b, off, none⟩) n cap ∧ n ≤ cap ∧ Cells w b off n f)

theorem IsArg.bytes {w : World} {v : Value} {n : Nat} {f : Nat → Nat} (h : IsArg w v n f) (hn : n ≤ 9223372036854775806) : IsBytes w v n f := ⟨h.1, hn, h.2.2⟩

theorem IsArg.val {w : World} {v : Value} {n : Nat} {f : Nat → Nat} (h : IsArg w v n f) : ∃ a cap, v = .slice a n cap := by
  rcases h.2.2 with ⟨a, cap, rfl, rfl⟩ | ⟨b, off, cap, rfl, _, _⟩
  · exact ⟨_, _, rfl⟩
  · exact ⟨_, _, rfl⟩

theorem isArg_of {w : World} {a : Option Addr} {n cap : Nat} {zs : List Int} (hz : zs.length = cap) (hl : n ≤ cap) (hm : cap ≤ maxLen) {x : Addr} (ha : a = some x)
    (hcell : ∀ i, i < zs.length → w.cell? (x.add i) = some (.int .u8 (zs.getD i 0))) (hwz : ∀ m ∈ zs, (Lit.int .u8 m).wf = true) : ∃ f, IsArg w (.slice a n cap) n f := by
  have hb : ∀ i, 0 ≤ zs.getD i 0 ∧ zs.getD i 0 ≤ 255 := by
    intro i
    by_cases hi : i < zs.length
    · have hmem : zs.getD i 0 ∈ zs := by
        rw [List.getD_eq_getElem?_getD, List.getElem?_eq_getElem hi]
        exact List.getElem_mem hi
      simpa [Lit.wf, IntKind.min, IntKind.max, IntKind.signed, IntKind.bits] using hwz _ hmem
    · rw [List.getD_eq_getElem?_getD, List.getElem?_eq_none (by omega)]
      decide
  refine ⟨fun j => (zs.getD j 0).toNat, fun j => by have := hb j; show (zs.getD j 0).toNat < 256; omega, ?_, ?_⟩
  · unfold maxLen at hm; omega
  subst ha
  by_cases h0 : zs.length = 0
  · have hn : n = 0 := by omega
    subst hn
    exact Or.inl ⟨_, _, rfl, rfl⟩
  · obtain ⟨b, off, spot⟩ := x
    have hc := hcell 0 (by omega)
    have hspot : spot = none := by simpa [Addr.add] using World.cell?_spot hc
    subst hspot
    refine Or.inr ⟨b, off, cap, rfl, hl, fun j hj => ?_⟩
    have := hcell j (by omega)
    have h2 := hb j
    rw [show ((((zs.getD j 0).toNat : Nat) : Int)) = zs.getD j 0 from Int.toNat_of_nonneg h2.1]
    by_cases hj0 : j = 0
    · subst hj0; simpa [Addr.add] using this
    · simpa [Addr.add, hj0] using this

theorem open_bytes {H : Type} {enc : TypeId × Value → H} {W : World} {base : Nat} {v : Value} {d : DataW H} {p : List MemPlace} (hv : Value.okWide Tryd.prog W .any base 25 v)
    (h : DataW.Trod enc Tryd.prog W 0 (fun _ => true) true 25 v d p) : ∃ n f, IsArg W v n f := by
  obtain ⟨a, len, cap, rfl⟩ := okWide_slice Tryd.underlying25 hv
  obtain ⟨fuel, hf⟩ := h
  rcases open_ints Tryd.underlying25 Tryd.underlying5 c5 hf with ⟨hcs, _⟩ | ⟨x, l, c, zs, hcs, _, hl, hm, hz, _, hcell, hwz⟩
  · simp [Value.cells] at hcs
    obtain ⟨rfl, rfl, rfl⟩ := hcs
    exact ⟨0, fun _ => 0, fun _ => (by decide : 0 < 256), by omega, Or.inl ⟨_, _, rfl, rfl⟩⟩
  · simp [Value.cells] at hcs
    obtain ⟨rfl, rfl, rfl⟩ := hcs
    obtain ⟨f, hf⟩ := isArg_of (w := W) (n := len) (by simpa using hz) hl hm rfl hcell hwz
    exact ⟨len, f, hf⟩
end Go.Proofs.YtglgcbocpdenhaaDoor
