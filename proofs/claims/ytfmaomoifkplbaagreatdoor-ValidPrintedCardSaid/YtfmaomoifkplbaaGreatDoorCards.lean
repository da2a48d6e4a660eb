/-
  DERIVED. GIVEN WITH THE SEED: THE CARDS: each row of YtfmaomoifkplbaaGreatDoorRows.lean that lists a variable, with what it lists TIED to the program's text (the seventh form; the later family's looks); each row that meets fmt, with fmt's text TOLD by the authors' own Lean function (tested against real Go, not proved from fmt's source: count such statements apart). THE CARD IS WHAT COUNTS. Prove the row's statement (the work); the ties are given (YtfmaomoifkplbaaGreatDoorTie.lean); close each card by the builder's one call (the guide's Derived/Test/ToyasCard.lean, 'card_holds'). Laid BY PROGRAM, IN A SANDBOX (cutbox-door.mjs). By AI agents, Wed Nov 11 2026. No macro, syntax, notation, axiom, sorry.
-/
import Derived.Test.YtfmaomoifkplbaaGreatDoorRows
import GoSem.ClaimSeven
namespace Go.Proofs.YtfmaomoifkplbaaGreatDoor
namespace Rows

/-- THE TIED CARD OF 'whirligiglaw08.ChartPrints'. -/
def chartPrintsCard : Claim7 := { stood := { row := chartPrintsRow, standIns := [], harness := (true, "c5c9a6ce0ecc0cc666fe40227cac57815ba33c3c70b32278bf123bf581f82b5a"), looks := true }, kinds := [], alts := [], laidByText := true, laidKinds := [.data, .data, .data, .data, .sentinel, .sentinel, .data, .data, .data, .data, .pinned], laidTests := true, laidLooks := .later }
def ChartPrintsCardSaid : Prop := Claim7.holds Tryz.pinned (.plain (OpenSpec.ofChange chartPrintsSpec)) chartPrintsCard

/-- THE TIED CARD OF 'whirligiglaw09.ValidPrinted'. -/
def validPrintedCard : Claim7 := { stood := { row := validPrintedRow, standIns := [], harness := (true, "c5c9a6ce0ecc0cc666fe40227cac57815ba33c3c70b32278bf123bf581f82b5a"), looks := true }, kinds := [], alts := [], laidByText := true, laidKinds := [.data, .data, .data, .data, .sentinel, .sentinel, .data, .data, .data, .data, .pinned], laidTests := true, laidLooks := .later }
def ValidPrintedCardSaid : Prop := Claim7.holds Tryz.pinned (.plain (OpenSpec.ofChange validPrintedSpec)) validPrintedCard

/-- THE TIED CARD OF 'whirligiglaw09.ValidGrows'. -/
def validGrowsCard : Claim7 := { stood := { row := validGrowsRow, standIns := [], harness := (true, "c5c9a6ce0ecc0cc666fe40227cac57815ba33c3c70b32278bf123bf581f82b5a"), looks := true }, kinds := [], alts := [], laidByText := true, laidKinds := [.data, .data, .data, .data, .sentinel, .sentinel, .data, .data, .data, .data, .pinned], laidTests := true, laidLooks := .later }
def ValidGrowsCardSaid : Prop := Claim7.holds Tryz.pinned (.plain (OpenSpec.ofChange validGrowsSpec)) validGrowsCard

/-- THE SECOND FORM's CARD OF 'whirligiglaw08.ChartPrints'. -/
def chartPrintsUptoCard : Claim7 := { stood := { row := chartPrintsUptoRow, standIns := [], harness := (true, "c5c9a6ce0ecc0cc666fe40227cac57815ba33c3c70b32278bf123bf581f82b5a"), looks := true }, kinds := [], alts := [], laidByText := true, laidKinds := [.data, .data, .data, .data, .sentinel, .sentinel, .data, .data, .data, .data, .pinned], laidTests := true, laidLooks := .later }
def ChartPrintsUptoCardSaid : Prop := Claim7.holds Tryz.pinned (.plain (OpenSpec.upto chartPrintsSpec)) chartPrintsUptoCard

/-- THE SECOND FORM's CARD OF 'whirligiglaw09.ValidPrinted'. -/
def validPrintedUptoCard : Claim7 := { stood := { row := validPrintedUptoRow, standIns := [], harness := (true, "c5c9a6ce0ecc0cc666fe40227cac57815ba33c3c70b32278bf123bf581f82b5a"), looks := true }, kinds := [], alts := [], laidByText := true, laidKinds := [.data, .data, .data, .data, .sentinel, .sentinel, .data, .data, .data, .data, .pinned], laidTests := true, laidLooks := .later }
def ValidPrintedUptoCardSaid : Prop := Claim7.holds Tryz.pinned (.plain (OpenSpec.upto validPrintedSpec)) validPrintedUptoCard

/-- THE SECOND FORM's CARD OF 'whirligiglaw09.ValidGrows'. -/
def validGrowsUptoCard : Claim7 := { stood := { row := validGrowsUptoRow, standIns := [], harness := (true, "c5c9a6ce0ecc0cc666fe40227cac57815ba33c3c70b32278bf123bf581f82b5a"), looks := true }, kinds := [], alts := [], laidByText := true, laidKinds := [.data, .data, .data, .data, .sentinel, .sentinel, .data, .data, .data, .data, .pinned], laidTests := true, laidLooks := .later }
def ValidGrowsUptoCardSaid : Prop := Claim7.holds Tryz.pinned (.plain (OpenSpec.upto validGrowsSpec)) validGrowsUptoCard
end Rows
end Go.Proofs.YtfmaomoifkplbaaGreatDoor
