/- A fact kept from the walk's rules. -/
import Derived.Test.YtjdjacnlobjmgaaDoorCallsD
namespace Go.Proofs.PlatenGlyph
open Go.RowKit
theorem hidden {p : Prop} (h : p) : Hid p := h
end Go.Proofs.PlatenGlyph
