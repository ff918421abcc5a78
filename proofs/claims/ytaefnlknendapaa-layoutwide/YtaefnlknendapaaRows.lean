/-
  No cell of these rows narrows 'for every input' (looked for: loops, veiled, ifaces, maps, wideKeys, modest, calm, conditions, laid).
  DERIVED. THE GIVEN ROWS OF THIS SEAT. 8 by the template 'for every input the law returns true; each argument reads behind the call as it read before'; 0 by the template 'total and deterministic' (their statements: YtaefnlknendapaaTotals.lean).
  GIVEN WITH THE SEED: the statements are not yours to turn. If you find one false, say at which input.
  Laid BY PROGRAM, IN A SANDBOX (cutbox-rows.mjs): the forced cells as the released guide's own fill.sh prints them over the translation 3f0d9605a0d64000… (all of the seat's roots in one cut). By AI agents, Wed Nov 11 2026. No macro, syntax, notation, axiom, sorry.
-/
import Derived.Test.YtaefnlknendapaaChecked
import GoSem.Claim
import GoSem.ClaimJoined
import GoSem.ClaimMapViews
import Derived.JoinedTies
import Derived.KernelRfl
namespace Go.Proofs.Ytaefnlknendapaa
/- THE CELL 'sum', in the pinned program and in every row, IS THE sha256 OF THE DUMP (.gsa) THAT YtaefnlknendapaaProg.lean LOADS. Nothing in Lean hashes anything: it is a label: what it is worth is what the hold of that sum in a sandbox is worth. -/
noncomputable def Try.pinned : Pinned := { name := "ytaefnlknendapaa", sum := "3f0d9605a0d64000d49cd7f1f3e9e0a75af2733a86ada1b1b8e6b7d67eb63a58", checked := Try.checked }
namespace Rows
def none {H : Type} : Left H := { results := [], args := [] }

/-- 'platenlaw10.LayoutSizes': WHATEVER THE INPUT: true; the input reads as it did. -/
def layoutSizesSpec : ChangeSpec := { name := "layoutSizes", fn := fun _ => fun
  | [d] => { results := [.lit (.bool true)], args := [d] }
  | _ => none }
def layoutSizesRow : OpenClaim := { program := "ytaefnlknendapaa", sum := "3f0d9605a0d64000d49cd7f1f3e9e0a75af2733a86ada1b1b8e6b7d67eb63a58", func := "platen/platenlaw10.LayoutSizes", spec := "layoutSizes", inPlace := ["internal/abi.NoEscape", "internal/bytealg.MakeNoZero"], unfollowed := true, recurses := true, apart := false }
def LayoutSizesSaid : Prop := layoutSizesRow.holds Try.pinned (OpenSpec.ofChange layoutSizesSpec)

/-- ITS FALSE NEIGHBOUR: 'it returns false'. Refute it at one input. -/
def layoutSizesWrong : ChangeSpec := { name := "layoutSizes", fn := fun _ => fun
  | [d] => { results := [.lit (.bool false)], args := [d] }
  | _ => none }
def LayoutSizesWrongFalsely : Prop := layoutSizesRow.holds Try.pinned (OpenSpec.ofChange layoutSizesWrong)

/-- 'platenlaw10.LayoutLays': WHATEVER THE INPUT: true; the input reads as it did. -/
def layoutLaysSpec : ChangeSpec := { name := "layoutLays", fn := fun _ => fun
  | [d1, d2] => { results := [.lit (.bool true)], args := [d1, d2] }
  | _ => none }
def layoutLaysRow : OpenClaim := { program := "ytaefnlknendapaa", sum := "3f0d9605a0d64000d49cd7f1f3e9e0a75af2733a86ada1b1b8e6b7d67eb63a58", func := "platen/platenlaw10.LayoutLays", spec := "layoutLays", inPlace := ["internal/abi.NoEscape", "internal/bytealg.MakeNoZero"], unfollowed := true, recurses := true, apart := false }
def LayoutLaysSaid : Prop := layoutLaysRow.holds Try.pinned (OpenSpec.ofChange layoutLaysSpec)

/-- ITS FALSE NEIGHBOUR: 'it returns false'. Refute it at one input. -/
def layoutLaysWrong : ChangeSpec := { name := "layoutLays", fn := fun _ => fun
  | [d1, d2] => { results := [.lit (.bool false)], args := [d1, d2] }
  | _ => none }
def LayoutLaysWrongFalsely : Prop := layoutLaysRow.holds Try.pinned (OpenSpec.ofChange layoutLaysWrong)

/-- 'platenlaw10.LayoutTexts': WHATEVER THE INPUT: true; the input reads as it did. -/
def layoutTextsSpec : ChangeSpec := { name := "layoutTexts", fn := fun _ => fun
  | [d1, d2] => { results := [.lit (.bool true)], args := [d1, d2] }
  | _ => none }
def layoutTextsRow : OpenClaim := { program := "ytaefnlknendapaa", sum := "3f0d9605a0d64000d49cd7f1f3e9e0a75af2733a86ada1b1b8e6b7d67eb63a58", func := "platen/platenlaw10.LayoutTexts", spec := "layoutTexts", inPlace := ["internal/abi.NoEscape", "internal/bytealg.MakeNoZero"], unfollowed := true, recurses := true, apart := false }
def LayoutTextsSaid : Prop := layoutTextsRow.holds Try.pinned (OpenSpec.ofChange layoutTextsSpec)

/-- ITS FALSE NEIGHBOUR: 'it returns false'. Refute it at one input. -/
def layoutTextsWrong : ChangeSpec := { name := "layoutTexts", fn := fun _ => fun
  | [d1, d2] => { results := [.lit (.bool false)], args := [d1, d2] }
  | _ => none }
def LayoutTextsWrongFalsely : Prop := layoutTextsRow.holds Try.pinned (OpenSpec.ofChange layoutTextsWrong)

/-- 'platenlaw10.LayoutFits': WHATEVER THE INPUT: true; the input reads as it did. -/
def layoutFitsSpec : ChangeSpec := { name := "layoutFits", fn := fun _ => fun
  | [d1, d2] => { results := [.lit (.bool true)], args := [d1, d2] }
  | _ => none }
def layoutFitsRow : OpenClaim := { program := "ytaefnlknendapaa", sum := "3f0d9605a0d64000d49cd7f1f3e9e0a75af2733a86ada1b1b8e6b7d67eb63a58", func := "platen/platenlaw10.LayoutFits", spec := "layoutFits", inPlace := ["internal/abi.NoEscape", "internal/bytealg.MakeNoZero"], unfollowed := true, recurses := true, apart := false }
def LayoutFitsSaid : Prop := layoutFitsRow.holds Try.pinned (OpenSpec.ofChange layoutFitsSpec)

/-- ITS FALSE NEIGHBOUR: 'it returns false'. Refute it at one input. -/
def layoutFitsWrong : ChangeSpec := { name := "layoutFits", fn := fun _ => fun
  | [d1, d2] => { results := [.lit (.bool false)], args := [d1, d2] }
  | _ => none }
def LayoutFitsWrongFalsely : Prop := layoutFitsRow.holds Try.pinned (OpenSpec.ofChange layoutFitsWrong)

/-- 'platenlaw10.LayoutOver': WHATEVER THE INPUT: true; the input reads as it did. -/
def layoutOverSpec : ChangeSpec := { name := "layoutOver", fn := fun _ => fun
  | [d1, d2] => { results := [.lit (.bool true)], args := [d1, d2] }
  | _ => none }
def layoutOverRow : OpenClaim := { program := "ytaefnlknendapaa", sum := "3f0d9605a0d64000d49cd7f1f3e9e0a75af2733a86ada1b1b8e6b7d67eb63a58", func := "platen/platenlaw10.LayoutOver", spec := "layoutOver", inPlace := ["internal/abi.NoEscape", "internal/bytealg.MakeNoZero"], unfollowed := true, recurses := true, apart := false }
def LayoutOverSaid : Prop := layoutOverRow.holds Try.pinned (OpenSpec.ofChange layoutOverSpec)

/-- ITS FALSE NEIGHBOUR: 'it returns false'. Refute it at one input. -/
def layoutOverWrong : ChangeSpec := { name := "layoutOver", fn := fun _ => fun
  | [d1, d2] => { results := [.lit (.bool false)], args := [d1, d2] }
  | _ => none }
def LayoutOverWrongFalsely : Prop := layoutOverRow.holds Try.pinned (OpenSpec.ofChange layoutOverWrong)

/-- 'platenlaw10.LayoutWhole': WHATEVER THE INPUT: true; the input reads as it did. -/
def layoutWholeSpec : ChangeSpec := { name := "layoutWhole", fn := fun _ => fun
  | [d1, d2, d3] => { results := [.lit (.bool true)], args := [d1, d2, d3] }
  | _ => none }
def layoutWholeRow : OpenClaim := { program := "ytaefnlknendapaa", sum := "3f0d9605a0d64000d49cd7f1f3e9e0a75af2733a86ada1b1b8e6b7d67eb63a58", func := "platen/platenlaw10.LayoutWhole", spec := "layoutWhole", inPlace := ["internal/abi.NoEscape", "internal/bytealg.MakeNoZero"], unfollowed := true, recurses := true, apart := false }
def LayoutWholeSaid : Prop := layoutWholeRow.holds Try.pinned (OpenSpec.ofChange layoutWholeSpec)

/-- ITS FALSE NEIGHBOUR: 'it returns false'. Refute it at one input. -/
def layoutWholeWrong : ChangeSpec := { name := "layoutWhole", fn := fun _ => fun
  | [d1, d2, d3] => { results := [.lit (.bool false)], args := [d1, d2, d3] }
  | _ => none }
def LayoutWholeWrongFalsely : Prop := layoutWholeRow.holds Try.pinned (OpenSpec.ofChange layoutWholeWrong)

/-- 'platenlaw10.LayoutMuch': WHATEVER THE INPUT: true; the input reads as it did. -/
def layoutMuchSpec : ChangeSpec := { name := "layoutMuch", fn := fun _ => fun
  | [d1, d2] => { results := [.lit (.bool true)], args := [d1, d2] }
  | _ => none }
def layoutMuchRow : OpenClaim := { program := "ytaefnlknendapaa", sum := "3f0d9605a0d64000d49cd7f1f3e9e0a75af2733a86ada1b1b8e6b7d67eb63a58", func := "platen/platenlaw10.LayoutMuch", spec := "layoutMuch", inPlace := ["internal/abi.NoEscape", "internal/bytealg.MakeNoZero"], unfollowed := true, recurses := true, apart := false }
def LayoutMuchSaid : Prop := layoutMuchRow.holds Try.pinned (OpenSpec.ofChange layoutMuchSpec)

/-- ITS FALSE NEIGHBOUR: 'it returns false'. Refute it at one input. -/
def layoutMuchWrong : ChangeSpec := { name := "layoutMuch", fn := fun _ => fun
  | [d1, d2] => { results := [.lit (.bool false)], args := [d1, d2] }
  | _ => none }
def LayoutMuchWrongFalsely : Prop := layoutMuchRow.holds Try.pinned (OpenSpec.ofChange layoutMuchWrong)

/-- 'platenlaw10.LayoutWide': WHATEVER THE INPUT: true; the input reads as it did. -/
def layoutWideSpec : ChangeSpec := { name := "layoutWide", fn := fun _ => fun
  | [d] => { results := [.lit (.bool true)], args := [d] }
  | _ => none }
def layoutWideRow : OpenClaim := { program := "ytaefnlknendapaa", sum := "3f0d9605a0d64000d49cd7f1f3e9e0a75af2733a86ada1b1b8e6b7d67eb63a58", func := "platen/platenlaw10.LayoutWide", spec := "layoutWide", inPlace := ["internal/abi.NoEscape", "internal/bytealg.MakeNoZero"], unfollowed := true, recurses := true, apart := false }
def LayoutWideSaid : Prop := layoutWideRow.holds Try.pinned (OpenSpec.ofChange layoutWideSpec)

/-- ITS FALSE NEIGHBOUR: 'it returns false'. Refute it at one input. -/
def layoutWideWrong : ChangeSpec := { name := "layoutWide", fn := fun _ => fun
  | [d] => { results := [.lit (.bool false)], args := [d] }
  | _ => none }
def LayoutWideWrongFalsely : Prop := layoutWideRow.holds Try.pinned (OpenSpec.ofChange layoutWideWrong)

/- THE SECOND FORM. 'bulk': how many values and letters a reading holds, each counted each time it is reached (what is shared counts as often as it is met; a slice's spare places count too). A statement '..UptoSaid' is the law's where the arguments, and the package variables that the reading takes, are together of bulk at most 1048576: NARROWER than '..Said'. Prove '..Said' where nothing that the law and all that it calls make is longer than what came in: it says more and counts as full. Else prove '..UptoSaid'. A law counts once. -/
mutual
def uptoBulk {H : Type} : DataW H → Nat
  | .lit (.string bytes) => bytes.length + 1
  | .lit _ => 1
  | .nil => 1
  | .ptr d => uptoBulk d + 1
  | .slice elems spare => uptoBulkAll elems + uptoBulkAll spare + 1
  | .agg parts => uptoBulkAll parts + 1
  | .iface _ d => uptoBulk d + 1
  | .map entries => uptoBulkEntries entries + 1
  | .held _ => 1
def uptoBulkAll {H : Type} : List (DataW H) → Nat
  | [] => 0
  | d :: r => uptoBulk d + uptoBulkAll r
def uptoBulkEntries {H : Type} : List (Lit × DataW H) → Nat
  | [] => 0
  | x :: r => uptoBulkEntry x + uptoBulkEntries r
def uptoBulkEntry {H : Type} : Lit × DataW H → Nat
  | (.string bytes, d) => bytes.length + uptoBulk d + 1
  | (_, d) => uptoBulk d + 1
 end
def uptoSmall : (H : Type) → List (DataW H) → Bool := fun _ ds => decide (uptoBulkAll ds ≤ 1048576)
def OpenSpec.upto (s : _root_.Go.ChangeSpec) : _root_.Go.OpenSpec := { _root_.Go.OpenSpec.ofChange s with cond := some uptoSmall }

/-- 'platenlaw10.LayoutSizes', WHERE WHAT IT READS IS OF BULK AT MOST 1048576: true; the input reads as it did. -/
def layoutSizesUptoRow : OpenClaim := { program := "ytaefnlknendapaa", sum := "3f0d9605a0d64000d49cd7f1f3e9e0a75af2733a86ada1b1b8e6b7d67eb63a58", func := "platen/platenlaw10.LayoutSizes", spec := "layoutSizes", inPlace := ["internal/abi.NoEscape", "internal/bytealg.MakeNoZero"], unfollowed := true, recurses := true, apart := false, narrowed := true }
def LayoutSizesUptoSaid : Prop := layoutSizesUptoRow.holds Try.pinned (OpenSpec.upto layoutSizesSpec)

/-- 'platenlaw10.LayoutLays', WHERE WHAT IT READS IS OF BULK AT MOST 1048576: true; the input reads as it did. -/
def layoutLaysUptoRow : OpenClaim := { program := "ytaefnlknendapaa", sum := "3f0d9605a0d64000d49cd7f1f3e9e0a75af2733a86ada1b1b8e6b7d67eb63a58", func := "platen/platenlaw10.LayoutLays", spec := "layoutLays", inPlace := ["internal/abi.NoEscape", "internal/bytealg.MakeNoZero"], unfollowed := true, recurses := true, apart := false, narrowed := true }
def LayoutLaysUptoSaid : Prop := layoutLaysUptoRow.holds Try.pinned (OpenSpec.upto layoutLaysSpec)

/-- 'platenlaw10.LayoutTexts', WHERE WHAT IT READS IS OF BULK AT MOST 1048576: true; the input reads as it did. -/
def layoutTextsUptoRow : OpenClaim := { program := "ytaefnlknendapaa", sum := "3f0d9605a0d64000d49cd7f1f3e9e0a75af2733a86ada1b1b8e6b7d67eb63a58", func := "platen/platenlaw10.LayoutTexts", spec := "layoutTexts", inPlace := ["internal/abi.NoEscape", "internal/bytealg.MakeNoZero"], unfollowed := true, recurses := true, apart := false, narrowed := true }
def LayoutTextsUptoSaid : Prop := layoutTextsUptoRow.holds Try.pinned (OpenSpec.upto layoutTextsSpec)

/-- 'platenlaw10.LayoutFits', WHERE WHAT IT READS IS OF BULK AT MOST 1048576: true; the input reads as it did. -/
def layoutFitsUptoRow : OpenClaim := { program := "ytaefnlknendapaa", sum := "3f0d9605a0d64000d49cd7f1f3e9e0a75af2733a86ada1b1b8e6b7d67eb63a58", func := "platen/platenlaw10.LayoutFits", spec := "layoutFits", inPlace := ["internal/abi.NoEscape", "internal/bytealg.MakeNoZero"], unfollowed := true, recurses := true, apart := false, narrowed := true }
def LayoutFitsUptoSaid : Prop := layoutFitsUptoRow.holds Try.pinned (OpenSpec.upto layoutFitsSpec)

/-- 'platenlaw10.LayoutOver', WHERE WHAT IT READS IS OF BULK AT MOST 1048576: true; the input reads as it did. -/
def layoutOverUptoRow : OpenClaim := { program := "ytaefnlknendapaa", sum := "3f0d9605a0d64000d49cd7f1f3e9e0a75af2733a86ada1b1b8e6b7d67eb63a58", func := "platen/platenlaw10.LayoutOver", spec := "layoutOver", inPlace := ["internal/abi.NoEscape", "internal/bytealg.MakeNoZero"], unfollowed := true, recurses := true, apart := false, narrowed := true }
def LayoutOverUptoSaid : Prop := layoutOverUptoRow.holds Try.pinned (OpenSpec.upto layoutOverSpec)

/-- 'platenlaw10.LayoutWhole', WHERE WHAT IT READS IS OF BULK AT MOST 1048576: true; the input reads as it did. -/
def layoutWholeUptoRow : OpenClaim := { program := "ytaefnlknendapaa", sum := "3f0d9605a0d64000d49cd7f1f3e9e0a75af2733a86ada1b1b8e6b7d67eb63a58", func := "platen/platenlaw10.LayoutWhole", spec := "layoutWhole", inPlace := ["internal/abi.NoEscape", "internal/bytealg.MakeNoZero"], unfollowed := true, recurses := true, apart := false, narrowed := true }
def LayoutWholeUptoSaid : Prop := layoutWholeUptoRow.holds Try.pinned (OpenSpec.upto layoutWholeSpec)

/-- 'platenlaw10.LayoutMuch', WHERE WHAT IT READS IS OF BULK AT MOST 1048576: true; the input reads as it did. -/
def layoutMuchUptoRow : OpenClaim := { program := "ytaefnlknendapaa", sum := "3f0d9605a0d64000d49cd7f1f3e9e0a75af2733a86ada1b1b8e6b7d67eb63a58", func := "platen/platenlaw10.LayoutMuch", spec := "layoutMuch", inPlace := ["internal/abi.NoEscape", "internal/bytealg.MakeNoZero"], unfollowed := true, recurses := true, apart := false, narrowed := true }
def LayoutMuchUptoSaid : Prop := layoutMuchUptoRow.holds Try.pinned (OpenSpec.upto layoutMuchSpec)

/-- 'platenlaw10.LayoutWide', WHERE WHAT IT READS IS OF BULK AT MOST 1048576: true; the input reads as it did. -/
def layoutWideUptoRow : OpenClaim := { program := "ytaefnlknendapaa", sum := "3f0d9605a0d64000d49cd7f1f3e9e0a75af2733a86ada1b1b8e6b7d67eb63a58", func := "platen/platenlaw10.LayoutWide", spec := "layoutWide", inPlace := ["internal/abi.NoEscape", "internal/bytealg.MakeNoZero"], unfollowed := true, recurses := true, apart := false, narrowed := true }
def LayoutWideUptoSaid : Prop := layoutWideUptoRow.holds Try.pinned (OpenSpec.upto layoutWideSpec)

end Rows
end Go.Proofs.Ytaefnlknendapaa
