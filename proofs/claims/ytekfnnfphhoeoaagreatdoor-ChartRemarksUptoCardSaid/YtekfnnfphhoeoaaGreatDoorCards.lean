/-
  DERIVED. GIVEN WITH THE SEED: THE CARDS: each row of YtekfnnfphhoeoaaGreatDoorRows.lean that lists a variable, with what it lists TIED to the program's text (the seventh form; the later family's looks); each row that meets fmt, with fmt's text TOLD by the authors' own Lean function (tested against real Go, not proved from fmt's source: count such statements apart). THE CARD IS WHAT COUNTS. Prove the row's statement (the work); the ties are given (YtekfnnfphhoeoaaGreatDoorTie.lean); close each card by the builder's one call (the guide's Derived/Test/ToyasCard.lean, 'card_holds'). Laid BY PROGRAM, IN A SANDBOX (cutbox-door.mjs). By AI agents, Wed Nov 11 2026. No macro, syntax, notation, axiom, sorry.
-/
import Derived.Test.YtekfnnfphhoeoaaGreatDoorRows
import GoSem.ClaimSeven
namespace Go.Proofs.YtekfnnfphhoeoaaGreatDoor
namespace Rows

/-- THE TIED CARD OF 'whirligiglaw08.ChartPrints'. -/
def chartPrintsCard : Claim7 := { stood := { row := chartPrintsRow, standIns := [], harness := (true, "c0e5ec09896dc4ab54a0aaad03e09f4f127fb8f223e29ded282574f045b0d769"), looks := true }, kinds := [], alts := [], laidByText := true, laidKinds := [.data, .data, .data, .data, .sentinel, .sentinel, .data, .data, .data, .data, .pinned], laidTests := true, laidLooks := .later }
def ChartPrintsCardSaid : Prop := Claim7.holds Tryz.pinned (.plain (OpenSpec.ofChange chartPrintsSpec)) chartPrintsCard

/-- THE TIED CARD OF 'whirligiglaw08.ChartFinds'. -/
def chartFindsCard : Claim7 := { stood := { row := chartFindsRow, standIns := [], harness := (true, "c0e5ec09896dc4ab54a0aaad03e09f4f127fb8f223e29ded282574f045b0d769"), looks := true }, kinds := [], alts := [], laidByText := true, laidKinds := [.data, .data, .data, .data, .sentinel, .sentinel, .data, .data, .data, .data, .pinned], laidTests := true, laidLooks := .later }
def ChartFindsCardSaid : Prop := Claim7.holds Tryz.pinned (.plain (OpenSpec.ofChange chartFindsSpec)) chartFindsCard

/-- THE TIED CARD OF 'whirligiglaw08.ChartRemarks'. -/
def chartRemarksCard : Claim7 := { stood := { row := chartRemarksRow, standIns := [], harness := (true, "c0e5ec09896dc4ab54a0aaad03e09f4f127fb8f223e29ded282574f045b0d769"), looks := true }, kinds := [], alts := [], laidByText := true, laidKinds := [.data, .data, .data, .data, .sentinel, .sentinel, .data, .data, .data, .data, .pinned], laidTests := true, laidLooks := .later }
def ChartRemarksCardSaid : Prop := Claim7.holds Tryz.pinned (.plain (OpenSpec.ofChange chartRemarksSpec)) chartRemarksCard

/-- THE SECOND FORM's CARD OF 'whirligiglaw08.ChartPrints'. -/
def chartPrintsUptoCard : Claim7 := { stood := { row := chartPrintsUptoRow, standIns := [], harness := (true, "c0e5ec09896dc4ab54a0aaad03e09f4f127fb8f223e29ded282574f045b0d769"), looks := true }, kinds := [], alts := [], laidByText := true, laidKinds := [.data, .data, .data, .data, .sentinel, .sentinel, .data, .data, .data, .data, .pinned], laidTests := true, laidLooks := .later }
def ChartPrintsUptoCardSaid : Prop := Claim7.holds Tryz.pinned (.plain (OpenSpec.upto chartPrintsSpec)) chartPrintsUptoCard

/-- THE SECOND FORM's CARD OF 'whirligiglaw08.ChartFinds'. -/
def chartFindsUptoCard : Claim7 := { stood := { row := chartFindsUptoRow, standIns := [], harness := (true, "c0e5ec09896dc4ab54a0aaad03e09f4f127fb8f223e29ded282574f045b0d769"), looks := true }, kinds := [], alts := [], laidByText := true, laidKinds := [.data, .data, .data, .data, .sentinel, .sentinel, .data, .data, .data, .data, .pinned], laidTests := true, laidLooks := .later }
def ChartFindsUptoCardSaid : Prop := Claim7.holds Tryz.pinned (.plain (OpenSpec.upto chartFindsSpec)) chartFindsUptoCard

/-- THE SECOND FORM's CARD OF 'whirligiglaw08.ChartRemarks'. -/
def chartRemarksUptoCard : Claim7 := { stood := { row := chartRemarksUptoRow, standIns := [], harness := (true, "c0e5ec09896dc4ab54a0aaad03e09f4f127fb8f223e29ded282574f045b0d769"), looks := true }, kinds := [], alts := [], laidByText := true, laidKinds := [.data, .data, .data, .data, .sentinel, .sentinel, .data, .data, .data, .data, .pinned], laidTests := true, laidLooks := .later }
def ChartRemarksUptoCardSaid : Prop := Claim7.holds Tryz.pinned (.plain (OpenSpec.upto chartRemarksSpec)) chartRemarksUptoCard
end Rows
end Go.Proofs.YtekfnnfphhoeoaaGreatDoor
