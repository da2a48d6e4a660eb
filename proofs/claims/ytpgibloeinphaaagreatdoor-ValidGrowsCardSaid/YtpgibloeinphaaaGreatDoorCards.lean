/-
  DERIVED. GIVEN WITH THE SEED: THE CARDS: each row of YtpgibloeinphaaaGreatDoorRows.lean that lists a variable, with what it lists TIED to the program's text (the seventh form; the later family's looks); each row that meets fmt, with fmt's text TOLD by the authors' own Lean function (tested against real Go, not proved from fmt's source: count such statements apart). THE CARD IS WHAT COUNTS. Prove the row's statement (the work); the ties are given (YtpgibloeinphaaaGreatDoorTie.lean); close each card by the builder's one call (the guide's Derived/Test/ToyasCard.lean, 'card_holds'). Laid BY PROGRAM, IN A SANDBOX (cutbox-door.mjs). By AI agents, Wed Nov 11 2026. No macro, syntax, notation, axiom, sorry.
-/
import Derived.Test.YtpgibloeinphaaaGreatDoorRows
import GoSem.ClaimSeven
namespace Go.Proofs.YtpgibloeinphaaaGreatDoor
namespace Rows

/-- THE TIED CARD OF 'whirligiglaw08.ChartPrints'. -/
def chartPrintsCard : Claim7 := { stood := { row := chartPrintsRow, standIns := [], harness := (true, "96ce507da02b24ff405c560a20dadbfa0540d14bae75161b4142eab79fe77b19"), looks := true }, kinds := [], alts := [], laidByText := true, laidKinds := [.data, .data, .data, .data, .sentinel, .sentinel, .data, .data, .data, .data, .pinned], laidTests := true, laidLooks := .later }
def ChartPrintsCardSaid : Prop := Claim7.holds Tryz.pinned (.plain (OpenSpec.ofChange chartPrintsSpec)) chartPrintsCard

/-- THE TIED CARD OF 'whirligiglaw09.ValidGrows'. -/
def validGrowsCard : Claim7 := { stood := { row := validGrowsRow, standIns := [], harness := (true, "96ce507da02b24ff405c560a20dadbfa0540d14bae75161b4142eab79fe77b19"), looks := true }, kinds := [], alts := [], laidByText := true, laidKinds := [.data, .data, .data, .data, .sentinel, .sentinel, .data, .data, .data, .data, .pinned], laidTests := true, laidLooks := .later }
def ValidGrowsCardSaid : Prop := Claim7.holds Tryz.pinned (.plain (OpenSpec.ofChange validGrowsSpec)) validGrowsCard

/-- THE TIED CARD OF 'whirligiglaw11.TableMakes'. -/
def tableMakesCard : Claim7 := { stood := { row := tableMakesRow, standIns := [], harness := (true, "96ce507da02b24ff405c560a20dadbfa0540d14bae75161b4142eab79fe77b19"), looks := true }, kinds := [], alts := [], laidByText := true, laidKinds := [.data, .data, .data, .data, .sentinel, .sentinel, .data, .data, .data, .data, .pinned], laidTests := true, laidLooks := .later }
def TableMakesCardSaid : Prop := Claim7.holds Tryz.pinned (.plain (OpenSpec.ofChange tableMakesSpec)) tableMakesCard

/-- THE TIED CARD OF 'whirligiglaw11.TableAround'. -/
def tableAroundCard : Claim7 := { stood := { row := tableAroundRow, standIns := [], harness := (true, "96ce507da02b24ff405c560a20dadbfa0540d14bae75161b4142eab79fe77b19"), looks := true }, kinds := [], alts := [], laidByText := true, laidKinds := [.data, .data, .data, .data, .sentinel, .sentinel, .data, .data, .data, .data, .pinned], laidTests := true, laidLooks := .later }
def TableAroundCardSaid : Prop := Claim7.holds Tryz.pinned (.plain (OpenSpec.ofChange tableAroundSpec)) tableAroundCard

/-- THE TIED CARD OF 'whirligiglaw11.TableFinds'. -/
def tableFindsCard : Claim7 := { stood := { row := tableFindsRow, standIns := [], harness := (true, "96ce507da02b24ff405c560a20dadbfa0540d14bae75161b4142eab79fe77b19"), looks := true }, kinds := [], alts := [], laidByText := true, laidKinds := [.data, .data, .data, .data, .sentinel, .sentinel, .data, .data, .data, .data, .pinned], laidTests := true, laidLooks := .later }
def TableFindsCardSaid : Prop := Claim7.holds Tryz.pinned (.plain (OpenSpec.ofChange tableFindsSpec)) tableFindsCard

/-- THE TIED CARD OF 'whirligiglaw11.TableTrees'. -/
def tableTreesCard : Claim7 := { stood := { row := tableTreesRow, standIns := [], harness := (true, "96ce507da02b24ff405c560a20dadbfa0540d14bae75161b4142eab79fe77b19"), looks := true }, kinds := [], alts := [], laidByText := true, laidKinds := [.data, .data, .data, .data, .sentinel, .sentinel, .data, .data, .data, .data, .pinned], laidTests := true, laidLooks := .later }
def TableTreesCardSaid : Prop := Claim7.holds Tryz.pinned (.plain (OpenSpec.ofChange tableTreesSpec)) tableTreesCard

/-- THE SECOND FORM's CARD OF 'whirligiglaw08.ChartPrints'. -/
def chartPrintsUptoCard : Claim7 := { stood := { row := chartPrintsUptoRow, standIns := [], harness := (true, "96ce507da02b24ff405c560a20dadbfa0540d14bae75161b4142eab79fe77b19"), looks := true }, kinds := [], alts := [], laidByText := true, laidKinds := [.data, .data, .data, .data, .sentinel, .sentinel, .data, .data, .data, .data, .pinned], laidTests := true, laidLooks := .later }
def ChartPrintsUptoCardSaid : Prop := Claim7.holds Tryz.pinned (.plain (OpenSpec.upto chartPrintsSpec)) chartPrintsUptoCard

/-- THE SECOND FORM's CARD OF 'whirligiglaw09.ValidGrows'. -/
def validGrowsUptoCard : Claim7 := { stood := { row := validGrowsUptoRow, standIns := [], harness := (true, "96ce507da02b24ff405c560a20dadbfa0540d14bae75161b4142eab79fe77b19"), looks := true }, kinds := [], alts := [], laidByText := true, laidKinds := [.data, .data, .data, .data, .sentinel, .sentinel, .data, .data, .data, .data, .pinned], laidTests := true, laidLooks := .later }
def ValidGrowsUptoCardSaid : Prop := Claim7.holds Tryz.pinned (.plain (OpenSpec.upto validGrowsSpec)) validGrowsUptoCard

/-- THE SECOND FORM's CARD OF 'whirligiglaw11.TableMakes'. -/
def tableMakesUptoCard : Claim7 := { stood := { row := tableMakesUptoRow, standIns := [], harness := (true, "96ce507da02b24ff405c560a20dadbfa0540d14bae75161b4142eab79fe77b19"), looks := true }, kinds := [], alts := [], laidByText := true, laidKinds := [.data, .data, .data, .data, .sentinel, .sentinel, .data, .data, .data, .data, .pinned], laidTests := true, laidLooks := .later }
def TableMakesUptoCardSaid : Prop := Claim7.holds Tryz.pinned (.plain (OpenSpec.upto tableMakesSpec)) tableMakesUptoCard

/-- THE SECOND FORM's CARD OF 'whirligiglaw11.TableAround'. -/
def tableAroundUptoCard : Claim7 := { stood := { row := tableAroundUptoRow, standIns := [], harness := (true, "96ce507da02b24ff405c560a20dadbfa0540d14bae75161b4142eab79fe77b19"), looks := true }, kinds := [], alts := [], laidByText := true, laidKinds := [.data, .data, .data, .data, .sentinel, .sentinel, .data, .data, .data, .data, .pinned], laidTests := true, laidLooks := .later }
def TableAroundUptoCardSaid : Prop := Claim7.holds Tryz.pinned (.plain (OpenSpec.upto tableAroundSpec)) tableAroundUptoCard

/-- THE SECOND FORM's CARD OF 'whirligiglaw11.TableFinds'. -/
def tableFindsUptoCard : Claim7 := { stood := { row := tableFindsUptoRow, standIns := [], harness := (true, "96ce507da02b24ff405c560a20dadbfa0540d14bae75161b4142eab79fe77b19"), looks := true }, kinds := [], alts := [], laidByText := true, laidKinds := [.data, .data, .data, .data, .sentinel, .sentinel, .data, .data, .data, .data, .pinned], laidTests := true, laidLooks := .later }
def TableFindsUptoCardSaid : Prop := Claim7.holds Tryz.pinned (.plain (OpenSpec.upto tableFindsSpec)) tableFindsUptoCard

/-- THE SECOND FORM's CARD OF 'whirligiglaw11.TableTrees'. -/
def tableTreesUptoCard : Claim7 := { stood := { row := tableTreesUptoRow, standIns := [], harness := (true, "96ce507da02b24ff405c560a20dadbfa0540d14bae75161b4142eab79fe77b19"), looks := true }, kinds := [], alts := [], laidByText := true, laidKinds := [.data, .data, .data, .data, .sentinel, .sentinel, .data, .data, .data, .data, .pinned], laidTests := true, laidLooks := .later }
def TableTreesUptoCardSaid : Prop := Claim7.holds Tryz.pinned (.plain (OpenSpec.upto tableTreesSpec)) tableTreesUptoCard
end Rows
end Go.Proofs.YtpgibloeinphaaaGreatDoor
