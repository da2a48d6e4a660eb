/-
  DERIVED. GIVEN WITH THE SEED: THE CARDS: each row of YtlekmpjmcbnjdaaGreatDoorRows.lean that lists a variable, with what it lists TIED to the program's text (the seventh form; the later family's looks); each row that meets fmt, with fmt's text TOLD by the authors' own Lean function (tested against real Go, not proved from fmt's source: count such statements apart). THE CARD IS WHAT COUNTS. Prove the row's statement (the work); the ties are given (YtlekmpjmcbnjdaaGreatDoorTie.lean); close each card by the builder's one call (the guide's Derived/Test/ToyasCard.lean, 'card_holds'). Laid BY PROGRAM, IN A SANDBOX (cutbox-door.mjs). By AI agents, Wed Nov 11 2026. No macro, syntax, notation, axiom, sorry.
-/
import Derived.Test.YtlekmpjmcbnjdaaGreatDoorRows
import GoSem.ClaimSeven
namespace Go.Proofs.YtlekmpjmcbnjdaaGreatDoor
namespace Rows

/-- THE TIED CARD OF 'whirligiglaw05.EvalComes'. -/
def evalComesCard : Claim7 := { stood := { row := evalComesRow, standIns := [], harness := (true, "630644550d4e389210e81e6398eeaca4a960b6af80cc7d4ac93c628e02ab5efa"), looks := true }, kinds := [], alts := [], laidByText := true, laidKinds := [.data, .data, .data, .data, .sentinel, .sentinel, .data, .data, .pinned], laidTests := true, laidLooks := .later }
def EvalComesCardSaid : Prop := Claim7.holds Tryz.pinned (.plain (OpenSpec.ofChange evalComesSpec)) evalComesCard

/-- THE TIED CARD OF 'whirligiglaw05.EvalTyped'. -/
def evalTypedCard : Claim7 := { stood := { row := evalTypedRow, standIns := [], harness := (true, "630644550d4e389210e81e6398eeaca4a960b6af80cc7d4ac93c628e02ab5efa"), looks := true }, kinds := [], alts := [], laidByText := true, laidKinds := [.data, .data, .data, .data, .sentinel, .sentinel, .data, .data, .pinned], laidTests := true, laidLooks := .later }
def EvalTypedCardSaid : Prop := Claim7.holds Tryz.pinned (.plain (OpenSpec.ofChange evalTypedSpec)) evalTypedCard

/-- THE TIED CARD OF 'whirligiglaw05.EvalForms'. -/
def evalFormsCard : Claim7 := { stood := { row := evalFormsRow, standIns := [], harness := (true, "630644550d4e389210e81e6398eeaca4a960b6af80cc7d4ac93c628e02ab5efa"), looks := true }, kinds := [], alts := [], laidByText := true, laidKinds := [.data, .data, .data, .data, .sentinel, .sentinel, .data, .data, .pinned], laidTests := true, laidLooks := .later }
def EvalFormsCardSaid : Prop := Claim7.holds Tryz.pinned (.plain (OpenSpec.ofChange evalFormsSpec)) evalFormsCard

/-- THE TIED CARD OF 'whirligiglaw05.EvalShort'. -/
def evalShortCard : Claim7 := { stood := { row := evalShortRow, standIns := [], harness := (true, "630644550d4e389210e81e6398eeaca4a960b6af80cc7d4ac93c628e02ab5efa"), looks := true }, kinds := [], alts := [], laidByText := true, laidKinds := [.data, .data, .data, .data, .sentinel, .sentinel, .data, .data, .pinned], laidTests := true, laidLooks := .later }
def EvalShortCardSaid : Prop := Claim7.holds Tryz.pinned (.plain (OpenSpec.ofChange evalShortSpec)) evalShortCard

/-- THE SECOND FORM's CARD OF 'whirligiglaw05.EvalComes'. -/
def evalComesUptoCard : Claim7 := { stood := { row := evalComesUptoRow, standIns := [], harness := (true, "630644550d4e389210e81e6398eeaca4a960b6af80cc7d4ac93c628e02ab5efa"), looks := true }, kinds := [], alts := [], laidByText := true, laidKinds := [.data, .data, .data, .data, .sentinel, .sentinel, .data, .data, .pinned], laidTests := true, laidLooks := .later }
def EvalComesUptoCardSaid : Prop := Claim7.holds Tryz.pinned (.plain (OpenSpec.upto evalComesSpec)) evalComesUptoCard

/-- THE SECOND FORM's CARD OF 'whirligiglaw05.EvalTyped'. -/
def evalTypedUptoCard : Claim7 := { stood := { row := evalTypedUptoRow, standIns := [], harness := (true, "630644550d4e389210e81e6398eeaca4a960b6af80cc7d4ac93c628e02ab5efa"), looks := true }, kinds := [], alts := [], laidByText := true, laidKinds := [.data, .data, .data, .data, .sentinel, .sentinel, .data, .data, .pinned], laidTests := true, laidLooks := .later }
def EvalTypedUptoCardSaid : Prop := Claim7.holds Tryz.pinned (.plain (OpenSpec.upto evalTypedSpec)) evalTypedUptoCard

/-- THE SECOND FORM's CARD OF 'whirligiglaw05.EvalForms'. -/
def evalFormsUptoCard : Claim7 := { stood := { row := evalFormsUptoRow, standIns := [], harness := (true, "630644550d4e389210e81e6398eeaca4a960b6af80cc7d4ac93c628e02ab5efa"), looks := true }, kinds := [], alts := [], laidByText := true, laidKinds := [.data, .data, .data, .data, .sentinel, .sentinel, .data, .data, .pinned], laidTests := true, laidLooks := .later }
def EvalFormsUptoCardSaid : Prop := Claim7.holds Tryz.pinned (.plain (OpenSpec.upto evalFormsSpec)) evalFormsUptoCard

/-- THE SECOND FORM's CARD OF 'whirligiglaw05.EvalShort'. -/
def evalShortUptoCard : Claim7 := { stood := { row := evalShortUptoRow, standIns := [], harness := (true, "630644550d4e389210e81e6398eeaca4a960b6af80cc7d4ac93c628e02ab5efa"), looks := true }, kinds := [], alts := [], laidByText := true, laidKinds := [.data, .data, .data, .data, .sentinel, .sentinel, .data, .data, .pinned], laidTests := true, laidLooks := .later }
def EvalShortUptoCardSaid : Prop := Claim7.holds Tryz.pinned (.plain (OpenSpec.upto evalShortSpec)) evalShortUptoCard
end Rows
end Go.Proofs.YtlekmpjmcbnjdaaGreatDoor
