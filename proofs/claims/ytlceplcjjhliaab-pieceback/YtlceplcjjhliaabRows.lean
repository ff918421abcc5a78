/-
  No cell of these rows narrows 'for every input' (looked for: loops, veiled, ifaces, maps, wideKeys, modest, calm, conditions, laid).
  DERIVED. THE GIVEN ROWS OF THIS SEAT. 5 by the template 'for every input the law returns true; each argument reads behind the call as it read before'; 0 by the template 'total and deterministic' (their statements: YtlceplcjjhliaabTotals.lean).
  GIVEN WITH THE SEED: the statements are not yours to turn. If you find one false, say at which input.
  Laid BY PROGRAM, IN A SANDBOX (cutbox-rows.mjs): the forced cells as the released guide's own fill.sh prints them over the translation 1cec86e40249094a… (all of the seat's roots in one cut). By AI agents, Wed Nov 11 2026. No macro, syntax, notation, axiom, sorry.
-/
import Derived.Test.YtlceplcjjhliaabChecked
import GoSem.Claim
import GoSem.ClaimJoined
import GoSem.ClaimMapViews
import Derived.JoinedTies
import Derived.KernelRfl
namespace Go.Proofs.Ytlceplcjjhliaab
/- THE CELL 'sum', in the pinned program and in every row, IS THE sha256 OF THE DUMP (.gsa) THAT YtlceplcjjhliaabProg.lean LOADS. Nothing in Lean hashes anything: it is a label: what it is worth is what the hold of that sum in a sandbox is worth. -/
noncomputable def Try.pinned : Pinned := { name := "ytlceplcjjhliaab", sum := "1cec86e40249094a53e420297368722612a5d377e78210b8c81a8fb0f076b884", checked := Try.checked }
namespace Rows
def none {H : Type} : Left H := { results := [], args := [] }

/-- 'platenlaw02.PieceSlices': WHATEVER THE INPUT: true; the input reads as it did. -/
def pieceSlicesSpec : ChangeSpec := { name := "pieceSlices", fn := fun _ => fun
  | [d1, d2, d3, d4] => { results := [.lit (.bool true)], args := [d1, d2, d3, d4] }
  | _ => none }
def pieceSlicesRow : OpenClaim := { program := "ytlceplcjjhliaab", sum := "1cec86e40249094a53e420297368722612a5d377e78210b8c81a8fb0f076b884", func := "platen/platenlaw02.PieceSlices", spec := "pieceSlices", inPlace := ["slices.overlaps[platen/piece.part]"], apart := false }
def PieceSlicesSaid : Prop := pieceSlicesRow.holds Try.pinned (OpenSpec.ofChange pieceSlicesSpec)

/-- ITS FALSE NEIGHBOUR: 'it returns false'. Refute it at one input. -/
def pieceSlicesWrong : ChangeSpec := { name := "pieceSlices", fn := fun _ => fun
  | [d1, d2, d3, d4] => { results := [.lit (.bool false)], args := [d1, d2, d3, d4] }
  | _ => none }
def PieceSlicesWrongFalsely : Prop := pieceSlicesRow.holds Try.pinned (OpenSpec.ofChange pieceSlicesWrong)

/-- 'platenlaw02.PieceBack': WHATEVER THE INPUT: true; the input reads as it did. -/
def pieceBackSpec : ChangeSpec := { name := "pieceBack", fn := fun _ => fun
  | [d1, d2, d3] => { results := [.lit (.bool true)], args := [d1, d2, d3] }
  | _ => none }
def pieceBackRow : OpenClaim := { program := "ytlceplcjjhliaab", sum := "1cec86e40249094a53e420297368722612a5d377e78210b8c81a8fb0f076b884", func := "platen/platenlaw02.PieceBack", spec := "pieceBack", inPlace := ["slices.overlaps[platen/piece.part]"], apart := false }
def PieceBackSaid : Prop := pieceBackRow.holds Try.pinned (OpenSpec.ofChange pieceBackSpec)

/-- ITS FALSE NEIGHBOUR: 'it returns false'. Refute it at one input. -/
def pieceBackWrong : ChangeSpec := { name := "pieceBack", fn := fun _ => fun
  | [d1, d2, d3] => { results := [.lit (.bool false)], args := [d1, d2, d3] }
  | _ => none }
def PieceBackWrongFalsely : Prop := pieceBackRow.holds Try.pinned (OpenSpec.ofChange pieceBackWrong)

/-- 'platenlaw02.PieceOwn': WHATEVER THE INPUT: true; the input reads as it did. -/
def pieceOwnSpec : ChangeSpec := { name := "pieceOwn", fn := fun _ => fun
  | [d1, d2, d3] => { results := [.lit (.bool true)], args := [d1, d2, d3] }
  | _ => none }
def pieceOwnRow : OpenClaim := { program := "ytlceplcjjhliaab", sum := "1cec86e40249094a53e420297368722612a5d377e78210b8c81a8fb0f076b884", func := "platen/platenlaw02.PieceOwn", spec := "pieceOwn", inPlace := ["slices.overlaps[platen/piece.part]"], apart := false }
def PieceOwnSaid : Prop := pieceOwnRow.holds Try.pinned (OpenSpec.ofChange pieceOwnSpec)

/-- ITS FALSE NEIGHBOUR: 'it returns false'. Refute it at one input. -/
def pieceOwnWrong : ChangeSpec := { name := "pieceOwn", fn := fun _ => fun
  | [d1, d2, d3] => { results := [.lit (.bool false)], args := [d1, d2, d3] }
  | _ => none }
def PieceOwnWrongFalsely : Prop := pieceOwnRow.holds Try.pinned (OpenSpec.ofChange pieceOwnWrong)

/-- 'platenlaw02.PieceLimits': WHATEVER THE INPUT: true; the input reads as it did. -/
def pieceLimitsSpec : ChangeSpec := { name := "pieceLimits", fn := fun _ => fun
  | [d1, d2] => { results := [.lit (.bool true)], args := [d1, d2] }
  | _ => none }
def pieceLimitsRow : OpenClaim := { program := "ytlceplcjjhliaab", sum := "1cec86e40249094a53e420297368722612a5d377e78210b8c81a8fb0f076b884", func := "platen/platenlaw02.PieceLimits", spec := "pieceLimits", inPlace := ["slices.overlaps[platen/piece.part]"], apart := false }
def PieceLimitsSaid : Prop := pieceLimitsRow.holds Try.pinned (OpenSpec.ofChange pieceLimitsSpec)

/-- ITS FALSE NEIGHBOUR: 'it returns false'. Refute it at one input. -/
def pieceLimitsWrong : ChangeSpec := { name := "pieceLimits", fn := fun _ => fun
  | [d1, d2] => { results := [.lit (.bool false)], args := [d1, d2] }
  | _ => none }
def PieceLimitsWrongFalsely : Prop := pieceLimitsRow.holds Try.pinned (OpenSpec.ofChange pieceLimitsWrong)

/-- 'platenlaw02.PieceNil': WHATEVER THE INPUT: true; the input reads as it did. -/
def pieceNilSpec : ChangeSpec := { name := "pieceNil", fn := fun _ => fun
  | [d1, d2, d3] => { results := [.lit (.bool true)], args := [d1, d2, d3] }
  | _ => none }
def pieceNilRow : OpenClaim := { program := "ytlceplcjjhliaab", sum := "1cec86e40249094a53e420297368722612a5d377e78210b8c81a8fb0f076b884", func := "platen/platenlaw02.PieceNil", spec := "pieceNil", inPlace := ["slices.overlaps[platen/piece.part]"], apart := false }
def PieceNilSaid : Prop := pieceNilRow.holds Try.pinned (OpenSpec.ofChange pieceNilSpec)

/-- ITS FALSE NEIGHBOUR: 'it returns false'. Refute it at one input. -/
def pieceNilWrong : ChangeSpec := { name := "pieceNil", fn := fun _ => fun
  | [d1, d2, d3] => { results := [.lit (.bool false)], args := [d1, d2, d3] }
  | _ => none }
def PieceNilWrongFalsely : Prop := pieceNilRow.holds Try.pinned (OpenSpec.ofChange pieceNilWrong)

/- THE SECOND FORM. 'bulk': how many values and letters a reading holds, each counted each time it is reached (what is shared counts as often as it is met; a slice's spare places count too). A statement '..UptoSaid' is the law's where the arguments, and the package variables that the reading takes, are together of bulk at most 1048576: NARROWER than '..Said'. Prove '..Said' where nothing that the law and all that it calls make is longer than what came in: it says more and counts as full. Else prove '..UptoSaid'. A law counts once. -/
mutual
def uptoBulk {H : Type} : DataW H → Nat
  | .lit (.string bytes) => bytes.length + 1
  | .lit _ => 1
  | .nil => 1
  | .ptr d => uptoBulk d + 1
  | .slice elems spare => uptoBulkAll elems + uptoBulkAll spare + 1
  | .agg parts => uptoBulkAll parts + 1
  | .iface _ d => uptoBulk d + 1
  | .map entries => uptoBulkEntries entries + 1
  | .held _ => 1
def uptoBulkAll {H : Type} : List (DataW H) → Nat
  | [] => 0
  | d :: r => uptoBulk d + uptoBulkAll r
def uptoBulkEntries {H : Type} : List (Lit × DataW H) → Nat
  | [] => 0
  | x :: r => uptoBulkEntry x + uptoBulkEntries r
def uptoBulkEntry {H : Type} : Lit × DataW H → Nat
  | (.string bytes, d) => bytes.length + uptoBulk d + 1
  | (_, d) => uptoBulk d + 1
 end
def uptoSmall : (H : Type) → List (DataW H) → Bool := fun _ ds => decide (uptoBulkAll ds ≤ 1048576)
def OpenSpec.upto (s : _root_.Go.ChangeSpec) : _root_.Go.OpenSpec := { _root_.Go.OpenSpec.ofChange s with cond := some uptoSmall }

/-- 'platenlaw02.PieceSlices', WHERE WHAT IT READS IS OF BULK AT MOST 1048576: true; the input reads as it did. -/
def pieceSlicesUptoRow : OpenClaim := { program := "ytlceplcjjhliaab", sum := "1cec86e40249094a53e420297368722612a5d377e78210b8c81a8fb0f076b884", func := "platen/platenlaw02.PieceSlices", spec := "pieceSlices", inPlace := ["slices.overlaps[platen/piece.part]"], apart := false, narrowed := true }
def PieceSlicesUptoSaid : Prop := pieceSlicesUptoRow.holds Try.pinned (OpenSpec.upto pieceSlicesSpec)

/-- 'platenlaw02.PieceBack', WHERE WHAT IT READS IS OF BULK AT MOST 1048576: true; the input reads as it did. -/
def pieceBackUptoRow : OpenClaim := { program := "ytlceplcjjhliaab", sum := "1cec86e40249094a53e420297368722612a5d377e78210b8c81a8fb0f076b884", func := "platen/platenlaw02.PieceBack", spec := "pieceBack", inPlace := ["slices.overlaps[platen/piece.part]"], apart := false, narrowed := true }
def PieceBackUptoSaid : Prop := pieceBackUptoRow.holds Try.pinned (OpenSpec.upto pieceBackSpec)

/-- 'platenlaw02.PieceOwn', WHERE WHAT IT READS IS OF BULK AT MOST 1048576: true; the input reads as it did. -/
def pieceOwnUptoRow : OpenClaim := { program := "ytlceplcjjhliaab", sum := "1cec86e40249094a53e420297368722612a5d377e78210b8c81a8fb0f076b884", func := "platen/platenlaw02.PieceOwn", spec := "pieceOwn", inPlace := ["slices.overlaps[platen/piece.part]"], apart := false, narrowed := true }
def PieceOwnUptoSaid : Prop := pieceOwnUptoRow.holds Try.pinned (OpenSpec.upto pieceOwnSpec)

/-- 'platenlaw02.PieceLimits', WHERE WHAT IT READS IS OF BULK AT MOST 1048576: true; the input reads as it did. -/
def pieceLimitsUptoRow : OpenClaim := { program := "ytlceplcjjhliaab", sum := "1cec86e40249094a53e420297368722612a5d377e78210b8c81a8fb0f076b884", func := "platen/platenlaw02.PieceLimits", spec := "pieceLimits", inPlace := ["slices.overlaps[platen/piece.part]"], apart := false, narrowed := true }
def PieceLimitsUptoSaid : Prop := pieceLimitsUptoRow.holds Try.pinned (OpenSpec.upto pieceLimitsSpec)

/-- 'platenlaw02.PieceNil', WHERE WHAT IT READS IS OF BULK AT MOST 1048576: true; the input reads as it did. -/
def pieceNilUptoRow : OpenClaim := { program := "ytlceplcjjhliaab", sum := "1cec86e40249094a53e420297368722612a5d377e78210b8c81a8fb0f076b884", func := "platen/platenlaw02.PieceNil", spec := "pieceNil", inPlace := ["slices.overlaps[platen/piece.part]"], apart := false, narrowed := true }
def PieceNilUptoSaid : Prop := pieceNilUptoRow.holds Try.pinned (OpenSpec.upto pieceNilSpec)

end Rows
end Go.Proofs.Ytlceplcjjhliaab
