/-
  No cell of these rows narrows 'for every input' (looked for: loops, veiled, ifaces, maps, wideKeys, modest, calm, conditions, laid).
  DERIVED. THE GIVEN ROWS OF THIS SEAT. 10 by the template 'for every input the law returns true; each argument reads behind the call as it read before'; 0 by the template 'total and deterministic' (their statements: YtibdhahkkejnjaaTotals.lean).
  GIVEN WITH THE SEED: the statements are not yours to turn. If you find one false, say at which input.
  Laid BY PROGRAM, IN A SANDBOX (cutbox-rows.mjs): the forced cells as the released guide's own fill.sh prints them over the translation f81b0ca1d805457e… (all of the seat's roots in one cut). By AI agents, Wed Nov 11 2026. No macro, syntax, notation, axiom, sorry.
-/
import Derived.Test.YtibdhahkkejnjaaChecked
import GoSem.Claim
import GoSem.ClaimJoined
import GoSem.ClaimMapViews
import Derived.JoinedTies
import Derived.KernelRfl
namespace Go.Proofs.Ytibdhahkkejnjaa
/- THE CELL 'sum', in the pinned program and in every row, IS THE sha256 OF THE DUMP (.gsa) THAT YtibdhahkkejnjaaProg.lean LOADS. Nothing in Lean hashes anything: it is a label: what it is worth is what the hold of that sum in a sandbox is worth. -/
noncomputable def Try.pinned : Pinned := { name := "ytibdhahkkejnjaa", sum := "f81b0ca1d805457e9194d078f970eb323ad88e1b96a792642a158bc799256ff8", checked := Try.checked }
namespace Rows
def none {H : Type} : Left H := { results := [], args := [] }

/-- 'platenlaw02.PieceTexts': WHATEVER THE INPUT: true; the input reads as it did. -/
def pieceTextsSpec : ChangeSpec := { name := "pieceTexts", fn := fun _ => fun
  | [d1, d2] => { results := [.lit (.bool true)], args := [d1, d2] }
  | _ => none }
def pieceTextsRow : OpenClaim := { program := "ytibdhahkkejnjaa", sum := "f81b0ca1d805457e9194d078f970eb323ad88e1b96a792642a158bc799256ff8", func := "platen/platenlaw02.PieceTexts", spec := "pieceTexts", inPlace := ["slices.overlaps[platen/piece.part]"], apart := false }
def PieceTextsSaid : Prop := pieceTextsRow.holds Try.pinned (OpenSpec.ofChange pieceTextsSpec)

/-- ITS FALSE NEIGHBOUR: 'it returns false'. Refute it at one input. -/
def pieceTextsWrong : ChangeSpec := { name := "pieceTexts", fn := fun _ => fun
  | [d1, d2] => { results := [.lit (.bool false)], args := [d1, d2] }
  | _ => none }
def PieceTextsWrongFalsely : Prop := pieceTextsRow.holds Try.pinned (OpenSpec.ofChange pieceTextsWrong)

/-- 'platenlaw02.PieceSlices': WHATEVER THE INPUT: true; the input reads as it did. -/
def pieceSlicesSpec : ChangeSpec := { name := "pieceSlices", fn := fun _ => fun
  | [d1, d2, d3, d4] => { results := [.lit (.bool true)], args := [d1, d2, d3, d4] }
  | _ => none }
def pieceSlicesRow : OpenClaim := { program := "ytibdhahkkejnjaa", sum := "f81b0ca1d805457e9194d078f970eb323ad88e1b96a792642a158bc799256ff8", func := "platen/platenlaw02.PieceSlices", spec := "pieceSlices", inPlace := ["slices.overlaps[platen/piece.part]"], apart := false }
def PieceSlicesSaid : Prop := pieceSlicesRow.holds Try.pinned (OpenSpec.ofChange pieceSlicesSpec)

/-- ITS FALSE NEIGHBOUR: 'it returns false'. Refute it at one input. -/
def pieceSlicesWrong : ChangeSpec := { name := "pieceSlices", fn := fun _ => fun
  | [d1, d2, d3, d4] => { results := [.lit (.bool false)], args := [d1, d2, d3, d4] }
  | _ => none }
def PieceSlicesWrongFalsely : Prop := pieceSlicesRow.holds Try.pinned (OpenSpec.ofChange pieceSlicesWrong)

/-- 'platenlaw04.PastActs': WHATEVER THE INPUT: true; the input reads as it did. -/
def pastActsSpec : ChangeSpec := { name := "pastActs", fn := fun _ => fun
  | [d1, d2] => { results := [.lit (.bool true)], args := [d1, d2] }
  | _ => none }
def pastActsRow : OpenClaim := { program := "ytibdhahkkejnjaa", sum := "f81b0ca1d805457e9194d078f970eb323ad88e1b96a792642a158bc799256ff8", func := "platen/platenlaw04.PastActs", spec := "pastActs", inPlace := ["slices.overlaps[platen/piece.part]"], unfollowed := true, recurses := true, apart := false }
def PastActsSaid : Prop := pastActsRow.holds Try.pinned (OpenSpec.ofChange pastActsSpec)

/-- ITS FALSE NEIGHBOUR: 'it returns false'. Refute it at one input. -/
def pastActsWrong : ChangeSpec := { name := "pastActs", fn := fun _ => fun
  | [d1, d2] => { results := [.lit (.bool false)], args := [d1, d2] }
  | _ => none }
def PastActsWrongFalsely : Prop := pastActsRow.holds Try.pinned (OpenSpec.ofChange pastActsWrong)

/-- 'platenlaw04.PastBacks': WHATEVER THE INPUT: true; the input reads as it did. -/
def pastBacksSpec : ChangeSpec := { name := "pastBacks", fn := fun _ => fun
  | [d1, d2, d3] => { results := [.lit (.bool true)], args := [d1, d2, d3] }
  | _ => none }
def pastBacksRow : OpenClaim := { program := "ytibdhahkkejnjaa", sum := "f81b0ca1d805457e9194d078f970eb323ad88e1b96a792642a158bc799256ff8", func := "platen/platenlaw04.PastBacks", spec := "pastBacks", inPlace := ["slices.overlaps[platen/piece.part]"], unfollowed := true, recurses := true, apart := false }
def PastBacksSaid : Prop := pastBacksRow.holds Try.pinned (OpenSpec.ofChange pastBacksSpec)

/-- ITS FALSE NEIGHBOUR: 'it returns false'. Refute it at one input. -/
def pastBacksWrong : ChangeSpec := { name := "pastBacks", fn := fun _ => fun
  | [d1, d2, d3] => { results := [.lit (.bool false)], args := [d1, d2, d3] }
  | _ => none }
def PastBacksWrongFalsely : Prop := pastBacksRow.holds Try.pinned (OpenSpec.ofChange pastBacksWrong)

/-- 'platenlaw04.PastThere': WHATEVER THE INPUT: true; the input reads as it did. -/
def pastThereSpec : ChangeSpec := { name := "pastThere", fn := fun _ => fun
  | [d1, d2, d3] => { results := [.lit (.bool true)], args := [d1, d2, d3] }
  | _ => none }
def pastThereRow : OpenClaim := { program := "ytibdhahkkejnjaa", sum := "f81b0ca1d805457e9194d078f970eb323ad88e1b96a792642a158bc799256ff8", func := "platen/platenlaw04.PastThere", spec := "pastThere", inPlace := ["slices.overlaps[platen/piece.part]"], unfollowed := true, recurses := true, apart := false }
def PastThereSaid : Prop := pastThereRow.holds Try.pinned (OpenSpec.ofChange pastThereSpec)

/-- ITS FALSE NEIGHBOUR: 'it returns false'. Refute it at one input. -/
def pastThereWrong : ChangeSpec := { name := "pastThere", fn := fun _ => fun
  | [d1, d2, d3] => { results := [.lit (.bool false)], args := [d1, d2, d3] }
  | _ => none }
def PastThereWrongFalsely : Prop := pastThereRow.holds Try.pinned (OpenSpec.ofChange pastThereWrong)

/-- 'platenlaw04.PastFirst': WHATEVER THE INPUT: true; the input reads as it did. -/
def pastFirstSpec : ChangeSpec := { name := "pastFirst", fn := fun _ => fun
  | [d1, d2] => { results := [.lit (.bool true)], args := [d1, d2] }
  | _ => none }
def pastFirstRow : OpenClaim := { program := "ytibdhahkkejnjaa", sum := "f81b0ca1d805457e9194d078f970eb323ad88e1b96a792642a158bc799256ff8", func := "platen/platenlaw04.PastFirst", spec := "pastFirst", inPlace := ["slices.overlaps[platen/piece.part]"], unfollowed := true, recurses := true, apart := false }
def PastFirstSaid : Prop := pastFirstRow.holds Try.pinned (OpenSpec.ofChange pastFirstSpec)

/-- ITS FALSE NEIGHBOUR: 'it returns false'. Refute it at one input. -/
def pastFirstWrong : ChangeSpec := { name := "pastFirst", fn := fun _ => fun
  | [d1, d2] => { results := [.lit (.bool false)], args := [d1, d2] }
  | _ => none }
def PastFirstWrongFalsely : Prop := pastFirstRow.holds Try.pinned (OpenSpec.ofChange pastFirstWrong)

/-- 'platenlaw04.PastCancels': WHATEVER THE INPUT: true; the input reads as it did. -/
def pastCancelsSpec : ChangeSpec := { name := "pastCancels", fn := fun _ => fun
  | [d1, d2, d3] => { results := [.lit (.bool true)], args := [d1, d2, d3] }
  | _ => none }
def pastCancelsRow : OpenClaim := { program := "ytibdhahkkejnjaa", sum := "f81b0ca1d805457e9194d078f970eb323ad88e1b96a792642a158bc799256ff8", func := "platen/platenlaw04.PastCancels", spec := "pastCancels", inPlace := ["slices.overlaps[platen/piece.part]"], unfollowed := true, recurses := true, apart := false }
def PastCancelsSaid : Prop := pastCancelsRow.holds Try.pinned (OpenSpec.ofChange pastCancelsSpec)

/-- ITS FALSE NEIGHBOUR: 'it returns false'. Refute it at one input. -/
def pastCancelsWrong : ChangeSpec := { name := "pastCancels", fn := fun _ => fun
  | [d1, d2, d3] => { results := [.lit (.bool false)], args := [d1, d2, d3] }
  | _ => none }
def PastCancelsWrongFalsely : Prop := pastCancelsRow.holds Try.pinned (OpenSpec.ofChange pastCancelsWrong)

/-- 'platenlaw04.PastMost': WHATEVER THE INPUT: true; the input reads as it did. -/
def pastMostSpec : ChangeSpec := { name := "pastMost", fn := fun _ => fun
  | [d] => { results := [.lit (.bool true)], args := [d] }
  | _ => none }
def pastMostRow : OpenClaim := { program := "ytibdhahkkejnjaa", sum := "f81b0ca1d805457e9194d078f970eb323ad88e1b96a792642a158bc799256ff8", func := "platen/platenlaw04.PastMost", spec := "pastMost", inPlace := ["slices.overlaps[platen/piece.part]"], unfollowed := true, recurses := true, apart := false }
def PastMostSaid : Prop := pastMostRow.holds Try.pinned (OpenSpec.ofChange pastMostSpec)

/-- ITS FALSE NEIGHBOUR: 'it returns false'. Refute it at one input. -/
def pastMostWrong : ChangeSpec := { name := "pastMost", fn := fun _ => fun
  | [d] => { results := [.lit (.bool false)], args := [d] }
  | _ => none }
def PastMostWrongFalsely : Prop := pastMostRow.holds Try.pinned (OpenSpec.ofChange pastMostWrong)

/-- 'platenlaw04.PastLong': WHATEVER THE INPUT: true; the input reads as it did. -/
def pastLongSpec : ChangeSpec := { name := "pastLong", fn := fun _ => fun
  | [d1, d2] => { results := [.lit (.bool true)], args := [d1, d2] }
  | _ => none }
def pastLongRow : OpenClaim := { program := "ytibdhahkkejnjaa", sum := "f81b0ca1d805457e9194d078f970eb323ad88e1b96a792642a158bc799256ff8", func := "platen/platenlaw04.PastLong", spec := "pastLong", inPlace := ["slices.overlaps[platen/piece.part]"], unfollowed := true, recurses := true, apart := false }
def PastLongSaid : Prop := pastLongRow.holds Try.pinned (OpenSpec.ofChange pastLongSpec)

/-- ITS FALSE NEIGHBOUR: 'it returns false'. Refute it at one input. -/
def pastLongWrong : ChangeSpec := { name := "pastLong", fn := fun _ => fun
  | [d1, d2] => { results := [.lit (.bool false)], args := [d1, d2] }
  | _ => none }
def PastLongWrongFalsely : Prop := pastLongRow.holds Try.pinned (OpenSpec.ofChange pastLongWrong)

/-- 'platenlaw04.PastNil': WHATEVER THE INPUT: true; the input reads as it did. -/
def pastNilSpec : ChangeSpec := { name := "pastNil", fn := fun _ => fun
  | [d1, d2] => { results := [.lit (.bool true)], args := [d1, d2] }
  | _ => none }
def pastNilRow : OpenClaim := { program := "ytibdhahkkejnjaa", sum := "f81b0ca1d805457e9194d078f970eb323ad88e1b96a792642a158bc799256ff8", func := "platen/platenlaw04.PastNil", spec := "pastNil", inPlace := ["slices.overlaps[platen/piece.part]"], unfollowed := true, recurses := true, apart := false }
def PastNilSaid : Prop := pastNilRow.holds Try.pinned (OpenSpec.ofChange pastNilSpec)

/-- ITS FALSE NEIGHBOUR: 'it returns false'. Refute it at one input. -/
def pastNilWrong : ChangeSpec := { name := "pastNil", fn := fun _ => fun
  | [d1, d2] => { results := [.lit (.bool false)], args := [d1, d2] }
  | _ => none }
def PastNilWrongFalsely : Prop := pastNilRow.holds Try.pinned (OpenSpec.ofChange pastNilWrong)

/- THE SECOND FORM. 'bulk': how many values and letters a reading holds, each counted each time it is reached (what is shared counts as often as it is met; a slice's spare places count too). A statement '..UptoSaid' is the law's where the arguments, and the package variables that the reading takes, are together of bulk at most 1048576: NARROWER than '..Said'. Prove '..Said' where nothing that the law and all that it calls make is longer than what came in: it says more and counts as full. Else prove '..UptoSaid'. A law counts once. -/
mutual
def uptoBulk {H : Type} : DataW H → Nat
  | .lit (.string bytes) => bytes.length + 1
  | .lit _ => 1
  | .nil => 1
  | .ptr d => uptoBulk d + 1
  | .slice elems spare => uptoBulkAll elems + uptoBulkAll spare + 1
  | .agg parts => uptoBulkAll parts + 1
  | .iface _ d => uptoBulk d + 1
  | .map entries => uptoBulkEntries entries + 1
  | .held _ => 1
def uptoBulkAll {H : Type} : List (DataW H) → Nat
  | [] => 0
  | d :: r => uptoBulk d + uptoBulkAll r
def uptoBulkEntries {H : Type} : List (Lit × DataW H) → Nat
  | [] => 0
  | x :: r => uptoBulkEntry x + uptoBulkEntries r
def uptoBulkEntry {H : Type} : Lit × DataW H → Nat
  | (.string bytes, d) => bytes.length + uptoBulk d + 1
  | (_, d) => uptoBulk d + 1
 end
def uptoSmall : (H : Type) → List (DataW H) → Bool := fun _ ds => decide (uptoBulkAll ds ≤ 1048576)
def OpenSpec.upto (s : _root_.Go.ChangeSpec) : _root_.Go.OpenSpec := { _root_.Go.OpenSpec.ofChange s with cond := some uptoSmall }

/-- 'platenlaw02.PieceTexts', WHERE WHAT IT READS IS OF BULK AT MOST 1048576: true; the input reads as it did. -/
def pieceTextsUptoRow : OpenClaim := { program := "ytibdhahkkejnjaa", sum := "f81b0ca1d805457e9194d078f970eb323ad88e1b96a792642a158bc799256ff8", func := "platen/platenlaw02.PieceTexts", spec := "pieceTexts", inPlace := ["slices.overlaps[platen/piece.part]"], apart := false, narrowed := true }
def PieceTextsUptoSaid : Prop := pieceTextsUptoRow.holds Try.pinned (OpenSpec.upto pieceTextsSpec)

/-- 'platenlaw02.PieceSlices', WHERE WHAT IT READS IS OF BULK AT MOST 1048576: true; the input reads as it did. -/
def pieceSlicesUptoRow : OpenClaim := { program := "ytibdhahkkejnjaa", sum := "f81b0ca1d805457e9194d078f970eb323ad88e1b96a792642a158bc799256ff8", func := "platen/platenlaw02.PieceSlices", spec := "pieceSlices", inPlace := ["slices.overlaps[platen/piece.part]"], apart := false, narrowed := true }
def PieceSlicesUptoSaid : Prop := pieceSlicesUptoRow.holds Try.pinned (OpenSpec.upto pieceSlicesSpec)

/-- 'platenlaw04.PastActs', WHERE WHAT IT READS IS OF BULK AT MOST 1048576: true; the input reads as it did. -/
def pastActsUptoRow : OpenClaim := { program := "ytibdhahkkejnjaa", sum := "f81b0ca1d805457e9194d078f970eb323ad88e1b96a792642a158bc799256ff8", func := "platen/platenlaw04.PastActs", spec := "pastActs", inPlace := ["slices.overlaps[platen/piece.part]"], unfollowed := true, recurses := true, apart := false, narrowed := true }
def PastActsUptoSaid : Prop := pastActsUptoRow.holds Try.pinned (OpenSpec.upto pastActsSpec)

/-- 'platenlaw04.PastBacks', WHERE WHAT IT READS IS OF BULK AT MOST 1048576: true; the input reads as it did. -/
def pastBacksUptoRow : OpenClaim := { program := "ytibdhahkkejnjaa", sum := "f81b0ca1d805457e9194d078f970eb323ad88e1b96a792642a158bc799256ff8", func := "platen/platenlaw04.PastBacks", spec := "pastBacks", inPlace := ["slices.overlaps[platen/piece.part]"], unfollowed := true, recurses := true, apart := false, narrowed := true }
def PastBacksUptoSaid : Prop := pastBacksUptoRow.holds Try.pinned (OpenSpec.upto pastBacksSpec)

/-- 'platenlaw04.PastThere', WHERE WHAT IT READS IS OF BULK AT MOST 1048576: true; the input reads as it did. -/
def pastThereUptoRow : OpenClaim := { program := "ytibdhahkkejnjaa", sum := "f81b0ca1d805457e9194d078f970eb323ad88e1b96a792642a158bc799256ff8", func := "platen/platenlaw04.PastThere", spec := "pastThere", inPlace := ["slices.overlaps[platen/piece.part]"], unfollowed := true, recurses := true, apart := false, narrowed := true }
def PastThereUptoSaid : Prop := pastThereUptoRow.holds Try.pinned (OpenSpec.upto pastThereSpec)

/-- 'platenlaw04.PastFirst', WHERE WHAT IT READS IS OF BULK AT MOST 1048576: true; the input reads as it did. -/
def pastFirstUptoRow : OpenClaim := { program := "ytibdhahkkejnjaa", sum := "f81b0ca1d805457e9194d078f970eb323ad88e1b96a792642a158bc799256ff8", func := "platen/platenlaw04.PastFirst", spec := "pastFirst", inPlace := ["slices.overlaps[platen/piece.part]"], unfollowed := true, recurses := true, apart := false, narrowed := true }
def PastFirstUptoSaid : Prop := pastFirstUptoRow.holds Try.pinned (OpenSpec.upto pastFirstSpec)

/-- 'platenlaw04.PastCancels', WHERE WHAT IT READS IS OF BULK AT MOST 1048576: true; the input reads as it did. -/
def pastCancelsUptoRow : OpenClaim := { program := "ytibdhahkkejnjaa", sum := "f81b0ca1d805457e9194d078f970eb323ad88e1b96a792642a158bc799256ff8", func := "platen/platenlaw04.PastCancels", spec := "pastCancels", inPlace := ["slices.overlaps[platen/piece.part]"], unfollowed := true, recurses := true, apart := false, narrowed := true }
def PastCancelsUptoSaid : Prop := pastCancelsUptoRow.holds Try.pinned (OpenSpec.upto pastCancelsSpec)

/-- 'platenlaw04.PastMost', WHERE WHAT IT READS IS OF BULK AT MOST 1048576: true; the input reads as it did. -/
def pastMostUptoRow : OpenClaim := { program := "ytibdhahkkejnjaa", sum := "f81b0ca1d805457e9194d078f970eb323ad88e1b96a792642a158bc799256ff8", func := "platen/platenlaw04.PastMost", spec := "pastMost", inPlace := ["slices.overlaps[platen/piece.part]"], unfollowed := true, recurses := true, apart := false, narrowed := true }
def PastMostUptoSaid : Prop := pastMostUptoRow.holds Try.pinned (OpenSpec.upto pastMostSpec)

/-- 'platenlaw04.PastLong', WHERE WHAT IT READS IS OF BULK AT MOST 1048576: true; the input reads as it did. -/
def pastLongUptoRow : OpenClaim := { program := "ytibdhahkkejnjaa", sum := "f81b0ca1d805457e9194d078f970eb323ad88e1b96a792642a158bc799256ff8", func := "platen/platenlaw04.PastLong", spec := "pastLong", inPlace := ["slices.overlaps[platen/piece.part]"], unfollowed := true, recurses := true, apart := false, narrowed := true }
def PastLongUptoSaid : Prop := pastLongUptoRow.holds Try.pinned (OpenSpec.upto pastLongSpec)

/-- 'platenlaw04.PastNil', WHERE WHAT IT READS IS OF BULK AT MOST 1048576: true; the input reads as it did. -/
def pastNilUptoRow : OpenClaim := { program := "ytibdhahkkejnjaa", sum := "f81b0ca1d805457e9194d078f970eb323ad88e1b96a792642a158bc799256ff8", func := "platen/platenlaw04.PastNil", spec := "pastNil", inPlace := ["slices.overlaps[platen/piece.part]"], unfollowed := true, recurses := true, apart := false, narrowed := true }
def PastNilUptoSaid : Prop := pastNilUptoRow.holds Try.pinned (OpenSpec.upto pastNilSpec)

end Rows
end Go.Proofs.Ytibdhahkkejnjaa
