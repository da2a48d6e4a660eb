/-
  DERIVED. GIVEN WITH THE SEED: THE CARDS: each row of YtphdnfijefddlaaDoorRows.lean that lists a variable, with what it lists TIED to the program's text (the seventh form; the later family's looks); each row that meets fmt, with fmt's text TOLD by the authors' own Lean function (tested against real Go, not proved from fmt's source: count such statements apart). THE CARD IS WHAT COUNTS. Prove the row's statement (the work); the ties are given (YtphdnfijefddlaaDoorTie.lean); close each card by the builder's one call (the guide's Derived/Test/ToyasCard.lean, 'card_holds'). Laid BY PROGRAM, IN A SANDBOX (cutbox-door.mjs). By AI agents, Wed Nov 11 2026. No macro, syntax, notation, axiom, sorry.
-/
import Derived.Test.YtphdnfijefddlaaDoorRows
import GoSem.ClaimSeven
namespace Go.Proofs.YtphdnfijefddlaaDoor
namespace Rows

/-- THE TIED CARD OF 'whirligiglaw12.EventParts'. -/
def eventPartsCard : Claim7 := { stood := { row := eventPartsRow, standIns := [], harness := (true, "d1364e68b00bfe970ee5c9bcf7fcdce848daf4401155b6de66c126cdf87406fa"), looks := false }, kinds := [], alts := [], laidByText := true, laidKinds := [.data, .pinned], laidTests := true, laidLooks := .later }
def EventPartsCardSaid : Prop := Claim7.holds Tryd.pinned (.plain (OpenSpec.ofChange eventPartsSpec)) eventPartsCard

/-- THE TIED CARD OF 'whirligiglaw12.EventDone'. -/
def eventDoneCard : Claim7 := { stood := { row := eventDoneRow, standIns := [], harness := (true, "d1364e68b00bfe970ee5c9bcf7fcdce848daf4401155b6de66c126cdf87406fa"), looks := false }, kinds := [], alts := [], laidByText := true, laidKinds := [.data, .pinned], laidTests := true, laidLooks := .later }
def EventDoneCardSaid : Prop := Claim7.holds Tryd.pinned (.plain (OpenSpec.ofChange eventDoneSpec)) eventDoneCard

/-- THE SECOND FORM's CARD OF 'whirligiglaw12.EventParts'. -/
def eventPartsUptoCard : Claim7 := { stood := { row := eventPartsUptoRow, standIns := [], harness := (true, "d1364e68b00bfe970ee5c9bcf7fcdce848daf4401155b6de66c126cdf87406fa"), looks := false }, kinds := [], alts := [], laidByText := true, laidKinds := [.data, .pinned], laidTests := true, laidLooks := .later }
def EventPartsUptoCardSaid : Prop := Claim7.holds Tryd.pinned (.plain (OpenSpec.upto eventPartsSpec)) eventPartsUptoCard

/-- THE SECOND FORM's CARD OF 'whirligiglaw12.EventDone'. -/
def eventDoneUptoCard : Claim7 := { stood := { row := eventDoneUptoRow, standIns := [], harness := (true, "d1364e68b00bfe970ee5c9bcf7fcdce848daf4401155b6de66c126cdf87406fa"), looks := false }, kinds := [], alts := [], laidByText := true, laidKinds := [.data, .pinned], laidTests := true, laidLooks := .later }
def EventDoneUptoCardSaid : Prop := Claim7.holds Tryd.pinned (.plain (OpenSpec.upto eventDoneSpec)) eventDoneUptoCard
end Rows
end Go.Proofs.YtphdnfijefddlaaDoor
