/- The library's tables that are slices, and the shape of float64: where they lie, and what is in them. -/
import Derived.Test.YtgijplljpimbmaaGreatDoorFgC
import GoSem.PinnedTables
namespace Go.Proofs.PlatenFigure
open Go.RowKit
set_option linter.unusedVariables false

/-- The powers of ten from 10^0 to 10^22, as words. -/
def t10 : List Nat := [4607182418800017408, 4621819117588971520, 4636737291354636288, 4652007308841189376, 4666723172467343360, 4681608360884174848, 4696837146684686336, 4711630319722168320, 4726483295884279808, 4741671816366391296, 4756540486875873280, 4771362005757984768, 4786511204640096256, 4801453603149578240, 4816244402031689728, 4831355200913801216, 4846369599423283200, 4861130398305394688, 4876203697187506176, 4891288408196988160, 4906019910204099648, 4921056587992461136, 4936209963552724370]
def tp : List Nat := [1, 3, 6, 9, 13, 16, 19, 23, 26]
def cheat (i : Nat) : Nat × List UInt8 := Go.Pinned.cheatRows.getD i (0, [])
structure Tabs (w : World) : Prop where
  er : ∃ te pe, w.cell? ⟨2, 0, none⟩ = some (.iface te pe)
  f10 : ∃ b off cap, 23 ≤ cap ∧ w.cell? ⟨9, 0, none⟩ = some (.slice (some ⟨b, off, none⟩) 23 cap) ∧ ∀ i, i < 23 → w.cell? ⟨b, off + i, none⟩ = some (.float .f64 (t10.getD i 0))
  eb : w.cell? ⟨6, 1, none⟩ = some (.int .u64 11)
  bias : w.cell? ⟨6, 2, none⟩ = some (.int .i64 (-1023))
  pt : ∃ b off cap, 9 ≤ cap ∧ w.cell? ⟨8, 0, none⟩ = some (.slice (some ⟨b, off, none⟩) 9 cap) ∧ ∀ i, i < 9 → w.cell? ⟨b, off + i, none⟩ = some (.int .i64 (tp.getD i 0 : Nat))
  lc : ∃ b off cap, 61 ≤ cap ∧ w.cell? ⟨11, 0, none⟩ = some (.slice (some ⟨b, off, none⟩) 61 cap) ∧ ∀ i, i < 61 → w.cell? ⟨b, off + i * 2, none⟩ = some (.int .i64 ((cheat i).1 : Nat)) ∧ w.cell? ⟨b, off + i * 2 + 1, none⟩ = some (.string ⟨(cheat i).2.toArray⟩)
theorem Tabs.below {w w' : World} (h : Tabs w) (hb : Below w.heap.size w w') : Tabs w' := by
  have key : ∀ (a : Addr) v, w.cell? a = some v → w'.cell? a = some v := fun a v e => (hb.cell (World.block_lt_of_cell? _ _ e)).trans e
  obtain ⟨⟨te, pe, he⟩, ⟨b, off, cap, h0, h1, h2⟩, h3, h4, ⟨b2, off2, cap2, h50, h5, h6⟩, ⟨b3, off3, cap3, h70, h7, h8⟩⟩ := h
  exact ⟨⟨te, pe, key _ _ he⟩, ⟨b, off, cap, h0, key _ _ h1, fun i hi => key _ _ (h2 i hi)⟩, key _ _ h3, key _ _ h4, ⟨b2, off2, cap2, h50, key _ _ h5, fun i hi => key _ _ (h6 i hi)⟩, ⟨b3, off3, cap3, h70, key _ _ h7, fun i hi => ⟨key _ _ (h8 i hi).1, key _ _ (h8 i hi).2⟩⟩⟩
end Go.Proofs.PlatenFigure
