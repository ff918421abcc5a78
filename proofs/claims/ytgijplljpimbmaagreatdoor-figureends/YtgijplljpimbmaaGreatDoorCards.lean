/-
  DERIVED. GIVEN WITH THE SEED: THE CARDS: each row of YtgijplljpimbmaaGreatDoorRows.lean that lists a variable, with what it lists TIED to the program's text (the seventh form; the later family's looks); each row that meets fmt, with fmt's text TOLD by the authors' own Lean function (tested against real Go, not proved from fmt's source: count such statements apart). THE CARD IS WHAT COUNTS. Prove the row's statement (the work); the ties are given (YtgijplljpimbmaaGreatDoorTie.lean); close each card by the builder's one call (the guide's Derived/Test/ToyasCard.lean, 'card_holds'). Laid BY PROGRAM, IN A SANDBOX (cutbox-door.mjs). By AI agents, Wed Nov 11 2026. No macro, syntax, notation, axiom, sorry.
-/
import Derived.Test.YtgijplljpimbmaaGreatDoorRows
import GoSem.ClaimSeven
namespace Go.Proofs.YtgijplljpimbmaaGreatDoor
namespace Rows

/-- THE TIED CARD OF 'platenlaw07.FigureLens'. -/
def figureLensCard : Claim7 := { stood := { row := figureLensRow, standIns := [], harness := (true, "95aa67f71923efd228d2ea166fd595cbfb3c34769537a59560087ba4e7731395"), looks := true }, kinds := [], alts := [], laidByText := true, laidKinds := [.data, .data, .widerDeep, .widerDeep, .data, .data, .data, .data, .data, .sentinel, .sentinel, .pinned, .pinned], laidTests := true, laidLooks := .later }
def FigureLensCardSaid : Prop := Claim7.holds Tryz.pinned (.plain (OpenSpec.ofChange figureLensSpec)) figureLensCard

/-- THE TIED CARD OF 'platenlaw07.FigureReads'. -/
def figureReadsCard : Claim7 := { stood := { row := figureReadsRow, standIns := [], harness := (true, "95aa67f71923efd228d2ea166fd595cbfb3c34769537a59560087ba4e7731395"), looks := true }, kinds := [], alts := [], laidByText := true, laidKinds := [.data, .data, .widerDeep, .widerDeep, .data, .data, .data, .data, .data, .sentinel, .sentinel, .pinned, .pinned], laidTests := true, laidLooks := .later }
def FigureReadsCardSaid : Prop := Claim7.holds Tryz.pinned (.plain (OpenSpec.ofChange figureReadsSpec)) figureReadsCard

/-- THE TIED CARD OF 'platenlaw07.FigureFirsts'. -/
def figureFirstsCard : Claim7 := { stood := { row := figureFirstsRow, standIns := [], harness := (true, "95aa67f71923efd228d2ea166fd595cbfb3c34769537a59560087ba4e7731395"), looks := true }, kinds := [], alts := [], laidByText := true, laidKinds := [.data, .data, .widerDeep, .widerDeep, .data, .data, .data, .data, .data, .sentinel, .sentinel, .pinned, .pinned], laidTests := true, laidLooks := .later }
def FigureFirstsCardSaid : Prop := Claim7.holds Tryz.pinned (.plain (OpenSpec.ofChange figureFirstsSpec)) figureFirstsCard

/-- THE TIED CARD OF 'platenlaw07.FigureThere'. -/
def figureThereCard : Claim7 := { stood := { row := figureThereRow, standIns := [], harness := (true, "95aa67f71923efd228d2ea166fd595cbfb3c34769537a59560087ba4e7731395"), looks := true }, kinds := [], alts := [], laidByText := true, laidKinds := [.data, .data, .widerDeep, .widerDeep, .data, .data, .data, .data, .data, .sentinel, .sentinel, .pinned, .pinned], laidTests := true, laidLooks := .later }
def FigureThereCardSaid : Prop := Claim7.holds Tryz.pinned (.plain (OpenSpec.ofChange figureThereSpec)) figureThereCard

/-- THE TIED CARD OF 'platenlaw07.FigureOrders'. -/
def figureOrdersCard : Claim7 := { stood := { row := figureOrdersRow, standIns := [], harness := (true, "95aa67f71923efd228d2ea166fd595cbfb3c34769537a59560087ba4e7731395"), looks := true }, kinds := [], alts := [], laidByText := true, laidKinds := [.data, .data, .widerDeep, .widerDeep, .data, .data, .data, .data, .data, .sentinel, .sentinel, .pinned, .pinned], laidTests := true, laidLooks := .later }
def FigureOrdersCardSaid : Prop := Claim7.holds Tryz.pinned (.plain (OpenSpec.ofChange figureOrdersSpec)) figureOrdersCard

/-- THE TIED CARD OF 'platenlaw07.FigureSums'. -/
def figureSumsCard : Claim7 := { stood := { row := figureSumsRow, standIns := [], harness := (true, "95aa67f71923efd228d2ea166fd595cbfb3c34769537a59560087ba4e7731395"), looks := true }, kinds := [], alts := [], laidByText := true, laidKinds := [.data, .data, .widerDeep, .widerDeep, .data, .data, .data, .data, .data, .sentinel, .sentinel, .pinned, .pinned], laidTests := true, laidLooks := .later }
def FigureSumsCardSaid : Prop := Claim7.holds Tryz.pinned (.plain (OpenSpec.ofChange figureSumsSpec)) figureSumsCard

/-- THE TIED CARD OF 'platenlaw07.FigureSigns'. -/
def figureSignsCard : Claim7 := { stood := { row := figureSignsRow, standIns := [], harness := (true, "95aa67f71923efd228d2ea166fd595cbfb3c34769537a59560087ba4e7731395"), looks := true }, kinds := [], alts := [], laidByText := true, laidKinds := [.data, .data, .widerDeep, .widerDeep, .data, .data, .data, .data, .data, .sentinel, .sentinel, .pinned, .pinned], laidTests := true, laidLooks := .later }
def FigureSignsCardSaid : Prop := Claim7.holds Tryz.pinned (.plain (OpenSpec.ofChange figureSignsSpec)) figureSignsCard

/-- THE TIED CARD OF 'platenlaw07.FigureEnds'. -/
def figureEndsCard : Claim7 := { stood := { row := figureEndsRow, standIns := [], harness := (true, "95aa67f71923efd228d2ea166fd595cbfb3c34769537a59560087ba4e7731395"), looks := true }, kinds := [], alts := [], laidByText := true, laidKinds := [.data, .data, .widerDeep, .widerDeep, .data, .data, .data, .data, .data, .sentinel, .sentinel, .pinned, .pinned], laidTests := true, laidLooks := .later }
def FigureEndsCardSaid : Prop := Claim7.holds Tryz.pinned (.plain (OpenSpec.ofChange figureEndsSpec)) figureEndsCard

/-- THE TIED CARD OF 'platenlaw07.FigureGrows'. -/
def figureGrowsCard : Claim7 := { stood := { row := figureGrowsRow, standIns := [], harness := (true, "95aa67f71923efd228d2ea166fd595cbfb3c34769537a59560087ba4e7731395"), looks := true }, kinds := [], alts := [], laidByText := true, laidKinds := [.data, .data, .widerDeep, .widerDeep, .data, .data, .data, .data, .data, .sentinel, .sentinel, .pinned, .pinned], laidTests := true, laidLooks := .later }
def FigureGrowsCardSaid : Prop := Claim7.holds Tryz.pinned (.plain (OpenSpec.ofChange figureGrowsSpec)) figureGrowsCard

/-- THE SECOND FORM's CARD OF 'platenlaw07.FigureLens'. -/
def figureLensUptoCard : Claim7 := { stood := { row := figureLensUptoRow, standIns := [], harness := (true, "95aa67f71923efd228d2ea166fd595cbfb3c34769537a59560087ba4e7731395"), looks := true }, kinds := [], alts := [], laidByText := true, laidKinds := [.data, .data, .widerDeep, .widerDeep, .data, .data, .data, .data, .data, .sentinel, .sentinel, .pinned, .pinned], laidTests := true, laidLooks := .later }
def FigureLensUptoCardSaid : Prop := Claim7.holds Tryz.pinned (.plain (OpenSpec.upto figureLensSpec)) figureLensUptoCard

/-- THE SECOND FORM's CARD OF 'platenlaw07.FigureReads'. -/
def figureReadsUptoCard : Claim7 := { stood := { row := figureReadsUptoRow, standIns := [], harness := (true, "95aa67f71923efd228d2ea166fd595cbfb3c34769537a59560087ba4e7731395"), looks := true }, kinds := [], alts := [], laidByText := true, laidKinds := [.data, .data, .widerDeep, .widerDeep, .data, .data, .data, .data, .data, .sentinel, .sentinel, .pinned, .pinned], laidTests := true, laidLooks := .later }
def FigureReadsUptoCardSaid : Prop := Claim7.holds Tryz.pinned (.plain (OpenSpec.upto figureReadsSpec)) figureReadsUptoCard

/-- THE SECOND FORM's CARD OF 'platenlaw07.FigureFirsts'. -/
def figureFirstsUptoCard : Claim7 := { stood := { row := figureFirstsUptoRow, standIns := [], harness := (true, "95aa67f71923efd228d2ea166fd595cbfb3c34769537a59560087ba4e7731395"), looks := true }, kinds := [], alts := [], laidByText := true, laidKinds := [.data, .data, .widerDeep, .widerDeep, .data, .data, .data, .data, .data, .sentinel, .sentinel, .pinned, .pinned], laidTests := true, laidLooks := .later }
def FigureFirstsUptoCardSaid : Prop := Claim7.holds Tryz.pinned (.plain (OpenSpec.upto figureFirstsSpec)) figureFirstsUptoCard

/-- THE SECOND FORM's CARD OF 'platenlaw07.FigureThere'. -/
def figureThereUptoCard : Claim7 := { stood := { row := figureThereUptoRow, standIns := [], harness := (true, "95aa67f71923efd228d2ea166fd595cbfb3c34769537a59560087ba4e7731395"), looks := true }, kinds := [], alts := [], laidByText := true, laidKinds := [.data, .data, .widerDeep, .widerDeep, .data, .data, .data, .data, .data, .sentinel, .sentinel, .pinned, .pinned], laidTests := true, laidLooks := .later }
def FigureThereUptoCardSaid : Prop := Claim7.holds Tryz.pinned (.plain (OpenSpec.upto figureThereSpec)) figureThereUptoCard

/-- THE SECOND FORM's CARD OF 'platenlaw07.FigureOrders'. -/
def figureOrdersUptoCard : Claim7 := { stood := { row := figureOrdersUptoRow, standIns := [], harness := (true, "95aa67f71923efd228d2ea166fd595cbfb3c34769537a59560087ba4e7731395"), looks := true }, kinds := [], alts := [], laidByText := true, laidKinds := [.data, .data, .widerDeep, .widerDeep, .data, .data, .data, .data, .data, .sentinel, .sentinel, .pinned, .pinned], laidTests := true, laidLooks := .later }
def FigureOrdersUptoCardSaid : Prop := Claim7.holds Tryz.pinned (.plain (OpenSpec.upto figureOrdersSpec)) figureOrdersUptoCard

/-- THE SECOND FORM's CARD OF 'platenlaw07.FigureSums'. -/
def figureSumsUptoCard : Claim7 := { stood := { row := figureSumsUptoRow, standIns := [], harness := (true, "95aa67f71923efd228d2ea166fd595cbfb3c34769537a59560087ba4e7731395"), looks := true }, kinds := [], alts := [], laidByText := true, laidKinds := [.data, .data, .widerDeep, .widerDeep, .data, .data, .data, .data, .data, .sentinel, .sentinel, .pinned, .pinned], laidTests := true, laidLooks := .later }
def FigureSumsUptoCardSaid : Prop := Claim7.holds Tryz.pinned (.plain (OpenSpec.upto figureSumsSpec)) figureSumsUptoCard

/-- THE SECOND FORM's CARD OF 'platenlaw07.FigureSigns'. -/
def figureSignsUptoCard : Claim7 := { stood := { row := figureSignsUptoRow, standIns := [], harness := (true, "95aa67f71923efd228d2ea166fd595cbfb3c34769537a59560087ba4e7731395"), looks := true }, kinds := [], alts := [], laidByText := true, laidKinds := [.data, .data, .widerDeep, .widerDeep, .data, .data, .data, .data, .data, .sentinel, .sentinel, .pinned, .pinned], laidTests := true, laidLooks := .later }
def FigureSignsUptoCardSaid : Prop := Claim7.holds Tryz.pinned (.plain (OpenSpec.upto figureSignsSpec)) figureSignsUptoCard

/-- THE SECOND FORM's CARD OF 'platenlaw07.FigureEnds'. -/
def figureEndsUptoCard : Claim7 := { stood := { row := figureEndsUptoRow, standIns := [], harness := (true, "95aa67f71923efd228d2ea166fd595cbfb3c34769537a59560087ba4e7731395"), looks := true }, kinds := [], alts := [], laidByText := true, laidKinds := [.data, .data, .widerDeep, .widerDeep, .data, .data, .data, .data, .data, .sentinel, .sentinel, .pinned, .pinned], laidTests := true, laidLooks := .later }
def FigureEndsUptoCardSaid : Prop := Claim7.holds Tryz.pinned (.plain (OpenSpec.upto figureEndsSpec)) figureEndsUptoCard

/-- THE SECOND FORM's CARD OF 'platenlaw07.FigureGrows'. -/
def figureGrowsUptoCard : Claim7 := { stood := { row := figureGrowsUptoRow, standIns := [], harness := (true, "95aa67f71923efd228d2ea166fd595cbfb3c34769537a59560087ba4e7731395"), looks := true }, kinds := [], alts := [], laidByText := true, laidKinds := [.data, .data, .widerDeep, .widerDeep, .data, .data, .data, .data, .data, .sentinel, .sentinel, .pinned, .pinned], laidTests := true, laidLooks := .later }
def FigureGrowsUptoCardSaid : Prop := Claim7.holds Tryz.pinned (.plain (OpenSpec.upto figureGrowsSpec)) figureGrowsUptoCard
end Rows
end Go.Proofs.YtgijplljpimbmaaGreatDoor
