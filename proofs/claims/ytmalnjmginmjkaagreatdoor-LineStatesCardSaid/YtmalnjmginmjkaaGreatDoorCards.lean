/-
  DERIVED. GIVEN WITH THE SEED: THE CARDS: each row of YtmalnjmginmjkaaGreatDoorRows.lean that lists a variable, with what it lists TIED to the program's text (the seventh form; the later family's looks); each row that meets fmt, with fmt's text TOLD by the authors' own Lean function (tested against real Go, not proved from fmt's source: count such statements apart). THE CARD IS WHAT COUNTS. Prove the row's statement (the work); the ties are given (YtmalnjmginmjkaaGreatDoorTie.lean); close each card by the builder's one call (the guide's Derived/Test/ToyasCard.lean, 'card_holds'). Laid BY PROGRAM, IN A SANDBOX (cutbox-door.mjs). By AI agents, Wed Nov 11 2026. No macro, syntax, notation, axiom, sorry.
-/
import Derived.Test.YtmalnjmginmjkaaGreatDoorRows
import GoSem.ClaimSeven
namespace Go.Proofs.YtmalnjmginmjkaaGreatDoor
namespace Rows

/-- THE TIED CARD OF 'whirligiglaw07.LineStates'. -/
def lineStatesCard : Claim7 := { stood := { row := lineStatesRow, standIns := [], harness := (true, "5f4b3eab962ade2a024abdde7732933dc0d06eed8eb44fe423f3b00d862ef307"), looks := true }, kinds := [], alts := [], laidByText := true, laidKinds := [.data, .data, .data, .data, .sentinel, .sentinel, .data, .data, .data, .data, .pinned], laidTests := true, laidLooks := .later }
def LineStatesCardSaid : Prop := Claim7.holds Tryz.pinned (.plain (OpenSpec.ofChange lineStatesSpec)) lineStatesCard

/-- THE SECOND FORM's CARD OF 'whirligiglaw07.LineStates'. -/
def lineStatesUptoCard : Claim7 := { stood := { row := lineStatesUptoRow, standIns := [], harness := (true, "5f4b3eab962ade2a024abdde7732933dc0d06eed8eb44fe423f3b00d862ef307"), looks := true }, kinds := [], alts := [], laidByText := true, laidKinds := [.data, .data, .data, .data, .sentinel, .sentinel, .data, .data, .data, .data, .pinned], laidTests := true, laidLooks := .later }
def LineStatesUptoCardSaid : Prop := Claim7.holds Tryz.pinned (.plain (OpenSpec.upto lineStatesSpec)) lineStatesUptoCard
end Rows
end Go.Proofs.YtmalnjmginmjkaaGreatDoor
