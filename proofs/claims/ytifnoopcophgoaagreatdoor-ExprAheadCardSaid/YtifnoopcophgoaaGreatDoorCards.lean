/-
  DERIVED. GIVEN WITH THE SEED: THE CARDS: each row of YtifnoopcophgoaaGreatDoorRows.lean that lists a variable, with what it lists TIED to the program's text (the seventh form; the later family's looks); each row that meets fmt, with fmt's text TOLD by the authors' own Lean function (tested against real Go, not proved from fmt's source: count such statements apart). THE CARD IS WHAT COUNTS. Prove the row's statement (the work); the ties are given (YtifnoopcophgoaaGreatDoorTie.lean); close each card by the builder's one call (the guide's Derived/Test/ToyasCard.lean, 'card_holds'). Laid BY PROGRAM, IN A SANDBOX (cutbox-door.mjs). By AI agents, Wed Nov 11 2026. No macro, syntax, notation, axiom, sorry.
-/
import Derived.Test.YtifnoopcophgoaaGreatDoorRows
import GoSem.ClaimSeven
namespace Go.Proofs.YtifnoopcophgoaaGreatDoor
namespace Rows

/-- THE TIED CARD OF 'whirligiglaw03.ExprAhead'. -/
def exprAheadCard : Claim7 := { stood := { row := exprAheadRow, standIns := [], harness := (true, "09de56c03d1744431d43dc2501afcf5fb47d769568a3435d8e0e84f33a30c9ba"), looks := true }, kinds := [], alts := [], laidByText := true, laidKinds := [.data, .data, .data, .data, .sentinel, .sentinel, .data, .data, .pinned], laidTests := true, laidLooks := .later }
def ExprAheadCardSaid : Prop := Claim7.holds Tryz.pinned (.plain (OpenSpec.ofChange exprAheadSpec)) exprAheadCard

/-- THE SECOND FORM's CARD OF 'whirligiglaw03.ExprAhead'. -/
def exprAheadUptoCard : Claim7 := { stood := { row := exprAheadUptoRow, standIns := [], harness := (true, "09de56c03d1744431d43dc2501afcf5fb47d769568a3435d8e0e84f33a30c9ba"), looks := true }, kinds := [], alts := [], laidByText := true, laidKinds := [.data, .data, .data, .data, .sentinel, .sentinel, .data, .data, .pinned], laidTests := true, laidLooks := .later }
def ExprAheadUptoCardSaid : Prop := Claim7.holds Tryz.pinned (.plain (OpenSpec.upto exprAheadSpec)) exprAheadUptoCard
end Rows
end Go.Proofs.YtifnoopcophgoaaGreatDoor
