/-
  DERIVED. GIVEN WITH THE SEED: THE CARDS: each row of YtmdjlngdpjjfiaaGreatDoorRows.lean that lists a variable, with what it lists TIED to the program's text (the seventh form; the later family's looks); each row that meets fmt, with fmt's text TOLD by the authors' own Lean function (tested against real Go, not proved from fmt's source: count such statements apart). THE CARD IS WHAT COUNTS. Prove the row's statement (the work); the ties are given (YtmdjlngdpjjfiaaGreatDoorTie.lean); close each card by the builder's one call (the guide's Derived/Test/ToyasCard.lean, 'card_holds'). Laid BY PROGRAM, IN A SANDBOX (cutbox-door.mjs). By AI agents, Wed Nov 11 2026. No macro, syntax, notation, axiom, sorry.
-/
import Derived.Test.YtmdjlngdpjjfiaaGreatDoorRows
import GoSem.ClaimSeven
namespace Go.Proofs.YtmdjlngdpjjfiaaGreatDoor
namespace Rows

/-- THE TIED CARD OF 'whirligiglaw06.ActRows'. -/
def actRowsCard : Claim7 := { stood := { row := actRowsRow, standIns := [], harness := (true, "1c62b49dfebb0213c003fee17c1bfe02d341ff7a7e1e562ab5b8db896bfea1a9"), looks := true }, kinds := [], alts := [], laidByText := true, laidKinds := [.data, .data, .data, .data, .sentinel, .sentinel, .data, .data, .data, .pinned], laidTests := true, laidLooks := .later }
def ActRowsCardSaid : Prop := Claim7.holds Tryz.pinned (.plain (OpenSpec.ofChange actRowsSpec)) actRowsCard

/-- THE SECOND FORM's CARD OF 'whirligiglaw06.ActRows'. -/
def actRowsUptoCard : Claim7 := { stood := { row := actRowsUptoRow, standIns := [], harness := (true, "1c62b49dfebb0213c003fee17c1bfe02d341ff7a7e1e562ab5b8db896bfea1a9"), looks := true }, kinds := [], alts := [], laidByText := true, laidKinds := [.data, .data, .data, .data, .sentinel, .sentinel, .data, .data, .data, .pinned], laidTests := true, laidLooks := .later }
def ActRowsUptoCardSaid : Prop := Claim7.holds Tryz.pinned (.plain (OpenSpec.upto actRowsSpec)) actRowsUptoCard
end Rows
end Go.Proofs.YtmdjlngdpjjfiaaGreatDoor
