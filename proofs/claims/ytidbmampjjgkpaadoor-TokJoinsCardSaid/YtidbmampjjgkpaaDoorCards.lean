/-
  DERIVED. GIVEN WITH THE SEED: THE CARDS: each row of YtidbmampjjgkpaaDoorRows.lean that lists a variable, with what it lists TIED to the program's text (the seventh form; the later family's looks); each row that meets fmt, with fmt's text TOLD by the authors' own Lean function (tested against real Go, not proved from fmt's source: count such statements apart). THE CARD IS WHAT COUNTS. Prove the row's statement (the work); the ties are given (YtidbmampjjgkpaaDoorTie.lean); close each card by the builder's one call (the guide's Derived/Test/ToyasCard.lean, 'card_holds'). Laid BY PROGRAM, IN A SANDBOX (cutbox-door.mjs). By AI agents, Wed Nov 11 2026. No macro, syntax, notation, axiom, sorry.
-/
import Derived.Test.YtidbmampjjgkpaaDoorRows
import GoSem.ClaimSeven
namespace Go.Proofs.YtidbmampjjgkpaaDoor
namespace Rows

/-- THE TIED CARD OF 'whirligiglaw01.ValReckons'. -/
def valReckonsCard : Claim7 := { stood := { row := valReckonsRow, standIns := [], harness := (true, "feb41659be1c76f461d6d81aa8da12a78787fb6c573178341e836102691000c5"), looks := true }, kinds := [], alts := [], laidByText := true, laidKinds := [.data, .data, .data], laidTests := true, laidLooks := .later }
def ValReckonsCardSaid : Prop := Claim7.holds Tryd.pinned (.plain (OpenSpec.ofChange valReckonsSpec)) valReckonsCard

/-- THE TIED CARD OF 'whirligiglaw01.ValReads'. -/
def valReadsCard : Claim7 := { stood := { row := valReadsRow, standIns := [], harness := (true, "feb41659be1c76f461d6d81aa8da12a78787fb6c573178341e836102691000c5"), looks := true }, kinds := [], alts := [], laidByText := true, laidKinds := [.data, .data, .data, .sentinel, .sentinel], laidTests := true, laidLooks := .later }
def ValReadsCardSaid : Prop := Claim7.holds Tryd.pinned (.plain (OpenSpec.ofChange valReadsSpec)) valReadsCard

/-- THE TIED CARD OF 'whirligiglaw01.ValShows'. -/
def valShowsCard : Claim7 := { stood := { row := valShowsRow, standIns := [], harness := (true, "feb41659be1c76f461d6d81aa8da12a78787fb6c573178341e836102691000c5"), looks := true }, kinds := [], alts := [], laidByText := true, laidKinds := [.data, .data, .data, .sentinel, .sentinel], laidTests := true, laidLooks := .later }
def ValShowsCardSaid : Prop := Claim7.holds Tryd.pinned (.plain (OpenSpec.ofChange valShowsSpec)) valShowsCard

/-- THE TIED CARD OF 'whirligiglaw01.ValMakes'. -/
def valMakesCard : Claim7 := { stood := { row := valMakesRow, standIns := [], harness := (true, "feb41659be1c76f461d6d81aa8da12a78787fb6c573178341e836102691000c5"), looks := true }, kinds := [], alts := [], laidByText := true, laidKinds := [.data, .data, .data], laidTests := true, laidLooks := .later }
def ValMakesCardSaid : Prop := Claim7.holds Tryd.pinned (.plain (OpenSpec.ofChange valMakesSpec)) valMakesCard

/-- THE TIED CARD OF 'whirligiglaw01.ValLaws'. -/
def valLawsCard : Claim7 := { stood := { row := valLawsRow, standIns := [], harness := (true, "feb41659be1c76f461d6d81aa8da12a78787fb6c573178341e836102691000c5"), looks := true }, kinds := [], alts := [], laidByText := true, laidKinds := [.data, .data, .data], laidTests := true, laidLooks := .later }
def ValLawsCardSaid : Prop := Claim7.holds Tryd.pinned (.plain (OpenSpec.ofChange valLawsSpec)) valLawsCard

/-- THE TIED CARD OF 'whirligiglaw01.ValOrders'. -/
def valOrdersCard : Claim7 := { stood := { row := valOrdersRow, standIns := [], harness := (true, "feb41659be1c76f461d6d81aa8da12a78787fb6c573178341e836102691000c5"), looks := true }, kinds := [], alts := [], laidByText := true, laidKinds := [.data, .data, .data], laidTests := true, laidLooks := .later }
def ValOrdersCardSaid : Prop := Claim7.holds Tryd.pinned (.plain (OpenSpec.ofChange valOrdersSpec)) valOrdersCard

/-- THE TIED CARD OF 'whirligiglaw02.TokLexes'. -/
def tokLexesCard : Claim7 := { stood := { row := tokLexesRow, standIns := [], harness := (true, "feb41659be1c76f461d6d81aa8da12a78787fb6c573178341e836102691000c5"), looks := true }, kinds := [], alts := [], laidByText := true, laidKinds := [.data, .data, .data, .data, .sentinel, .sentinel, .data, .pinned], laidTests := true, laidLooks := .later }
def TokLexesCardSaid : Prop := Claim7.holds Tryd.pinned (.plain (OpenSpec.ofChange tokLexesSpec)) tokLexesCard

/-- THE TIED CARD OF 'whirligiglaw02.TokJoins'. -/
def tokJoinsCard : Claim7 := { stood := { row := tokJoinsRow, standIns := [], harness := (true, "feb41659be1c76f461d6d81aa8da12a78787fb6c573178341e836102691000c5"), looks := true }, kinds := [], alts := [], laidByText := true, laidKinds := [.data, .data, .data, .data, .sentinel, .sentinel, .data, .pinned], laidTests := true, laidLooks := .later }
def TokJoinsCardSaid : Prop := Claim7.holds Tryd.pinned (.plain (OpenSpec.ofChange tokJoinsSpec)) tokJoinsCard

/-- THE TIED CARD OF 'whirligiglaw02.TokNames'. -/
def tokNamesCard : Claim7 := { stood := { row := tokNamesRow, standIns := [], harness := (true, "feb41659be1c76f461d6d81aa8da12a78787fb6c573178341e836102691000c5"), looks := true }, kinds := [], alts := [], laidByText := true, laidKinds := [.data, .data, .data, .data, .sentinel, .sentinel, .data, .pinned], laidTests := true, laidLooks := .later }
def TokNamesCardSaid : Prop := Claim7.holds Tryd.pinned (.plain (OpenSpec.ofChange tokNamesSpec)) tokNamesCard

/-- THE TIED CARD OF 'whirligiglaw02.TokIs'. -/
def tokIsCard : Claim7 := { stood := { row := tokIsRow, standIns := [], harness := (true, "feb41659be1c76f461d6d81aa8da12a78787fb6c573178341e836102691000c5"), looks := true }, kinds := [], alts := [], laidByText := true, laidKinds := [.data, .data, .data, .data, .sentinel, .sentinel, .data, .pinned], laidTests := true, laidLooks := .later }
def TokIsCardSaid : Prop := Claim7.holds Tryd.pinned (.plain (OpenSpec.ofChange tokIsSpec)) tokIsCard

/-- THE TIED CARD OF 'whirligiglaw02.TokPlaces'. -/
def tokPlacesCard : Claim7 := { stood := { row := tokPlacesRow, standIns := [], harness := (true, "feb41659be1c76f461d6d81aa8da12a78787fb6c573178341e836102691000c5"), looks := true }, kinds := [], alts := [], laidByText := true, laidKinds := [.data, .data, .data, .data, .sentinel, .sentinel, .data, .pinned], laidTests := true, laidLooks := .later }
def TokPlacesCardSaid : Prop := Claim7.holds Tryd.pinned (.plain (OpenSpec.ofChange tokPlacesSpec)) tokPlacesCard

/-- THE SECOND FORM's CARD OF 'whirligiglaw01.ValReckons'. -/
def valReckonsUptoCard : Claim7 := { stood := { row := valReckonsUptoRow, standIns := [], harness := (true, "feb41659be1c76f461d6d81aa8da12a78787fb6c573178341e836102691000c5"), looks := true }, kinds := [], alts := [], laidByText := true, laidKinds := [.data, .data, .data], laidTests := true, laidLooks := .later }
def ValReckonsUptoCardSaid : Prop := Claim7.holds Tryd.pinned (.plain (OpenSpec.upto valReckonsSpec)) valReckonsUptoCard

/-- THE SECOND FORM's CARD OF 'whirligiglaw01.ValReads'. -/
def valReadsUptoCard : Claim7 := { stood := { row := valReadsUptoRow, standIns := [], harness := (true, "feb41659be1c76f461d6d81aa8da12a78787fb6c573178341e836102691000c5"), looks := true }, kinds := [], alts := [], laidByText := true, laidKinds := [.data, .data, .data, .sentinel, .sentinel], laidTests := true, laidLooks := .later }
def ValReadsUptoCardSaid : Prop := Claim7.holds Tryd.pinned (.plain (OpenSpec.upto valReadsSpec)) valReadsUptoCard

/-- THE SECOND FORM's CARD OF 'whirligiglaw01.ValShows'. -/
def valShowsUptoCard : Claim7 := { stood := { row := valShowsUptoRow, standIns := [], harness := (true, "feb41659be1c76f461d6d81aa8da12a78787fb6c573178341e836102691000c5"), looks := true }, kinds := [], alts := [], laidByText := true, laidKinds := [.data, .data, .data, .sentinel, .sentinel], laidTests := true, laidLooks := .later }
def ValShowsUptoCardSaid : Prop := Claim7.holds Tryd.pinned (.plain (OpenSpec.upto valShowsSpec)) valShowsUptoCard

/-- THE SECOND FORM's CARD OF 'whirligiglaw01.ValMakes'. -/
def valMakesUptoCard : Claim7 := { stood := { row := valMakesUptoRow, standIns := [], harness := (true, "feb41659be1c76f461d6d81aa8da12a78787fb6c573178341e836102691000c5"), looks := true }, kinds := [], alts := [], laidByText := true, laidKinds := [.data, .data, .data], laidTests := true, laidLooks := .later }
def ValMakesUptoCardSaid : Prop := Claim7.holds Tryd.pinned (.plain (OpenSpec.upto valMakesSpec)) valMakesUptoCard

/-- THE SECOND FORM's CARD OF 'whirligiglaw01.ValLaws'. -/
def valLawsUptoCard : Claim7 := { stood := { row := valLawsUptoRow, standIns := [], harness := (true, "feb41659be1c76f461d6d81aa8da12a78787fb6c573178341e836102691000c5"), looks := true }, kinds := [], alts := [], laidByText := true, laidKinds := [.data, .data, .data], laidTests := true, laidLooks := .later }
def ValLawsUptoCardSaid : Prop := Claim7.holds Tryd.pinned (.plain (OpenSpec.upto valLawsSpec)) valLawsUptoCard

/-- THE SECOND FORM's CARD OF 'whirligiglaw01.ValOrders'. -/
def valOrdersUptoCard : Claim7 := { stood := { row := valOrdersUptoRow, standIns := [], harness := (true, "feb41659be1c76f461d6d81aa8da12a78787fb6c573178341e836102691000c5"), looks := true }, kinds := [], alts := [], laidByText := true, laidKinds := [.data, .data, .data], laidTests := true, laidLooks := .later }
def ValOrdersUptoCardSaid : Prop := Claim7.holds Tryd.pinned (.plain (OpenSpec.upto valOrdersSpec)) valOrdersUptoCard

/-- THE SECOND FORM's CARD OF 'whirligiglaw02.TokLexes'. -/
def tokLexesUptoCard : Claim7 := { stood := { row := tokLexesUptoRow, standIns := [], harness := (true, "feb41659be1c76f461d6d81aa8da12a78787fb6c573178341e836102691000c5"), looks := true }, kinds := [], alts := [], laidByText := true, laidKinds := [.data, .data, .data, .data, .sentinel, .sentinel, .data, .pinned], laidTests := true, laidLooks := .later }
def TokLexesUptoCardSaid : Prop := Claim7.holds Tryd.pinned (.plain (OpenSpec.upto tokLexesSpec)) tokLexesUptoCard

/-- THE SECOND FORM's CARD OF 'whirligiglaw02.TokJoins'. -/
def tokJoinsUptoCard : Claim7 := { stood := { row := tokJoinsUptoRow, standIns := [], harness := (true, "feb41659be1c76f461d6d81aa8da12a78787fb6c573178341e836102691000c5"), looks := true }, kinds := [], alts := [], laidByText := true, laidKinds := [.data, .data, .data, .data, .sentinel, .sentinel, .data, .pinned], laidTests := true, laidLooks := .later }
def TokJoinsUptoCardSaid : Prop := Claim7.holds Tryd.pinned (.plain (OpenSpec.upto tokJoinsSpec)) tokJoinsUptoCard

/-- THE SECOND FORM's CARD OF 'whirligiglaw02.TokNames'. -/
def tokNamesUptoCard : Claim7 := { stood := { row := tokNamesUptoRow, standIns := [], harness := (true, "feb41659be1c76f461d6d81aa8da12a78787fb6c573178341e836102691000c5"), looks := true }, kinds := [], alts := [], laidByText := true, laidKinds := [.data, .data, .data, .data, .sentinel, .sentinel, .data, .pinned], laidTests := true, laidLooks := .later }
def TokNamesUptoCardSaid : Prop := Claim7.holds Tryd.pinned (.plain (OpenSpec.upto tokNamesSpec)) tokNamesUptoCard

/-- THE SECOND FORM's CARD OF 'whirligiglaw02.TokIs'. -/
def tokIsUptoCard : Claim7 := { stood := { row := tokIsUptoRow, standIns := [], harness := (true, "feb41659be1c76f461d6d81aa8da12a78787fb6c573178341e836102691000c5"), looks := true }, kinds := [], alts := [], laidByText := true, laidKinds := [.data, .data, .data, .data, .sentinel, .sentinel, .data, .pinned], laidTests := true, laidLooks := .later }
def TokIsUptoCardSaid : Prop := Claim7.holds Tryd.pinned (.plain (OpenSpec.upto tokIsSpec)) tokIsUptoCard

/-- THE SECOND FORM's CARD OF 'whirligiglaw02.TokPlaces'. -/
def tokPlacesUptoCard : Claim7 := { stood := { row := tokPlacesUptoRow, standIns := [], harness := (true, "feb41659be1c76f461d6d81aa8da12a78787fb6c573178341e836102691000c5"), looks := true }, kinds := [], alts := [], laidByText := true, laidKinds := [.data, .data, .data, .data, .sentinel, .sentinel, .data, .pinned], laidTests := true, laidLooks := .later }
def TokPlacesUptoCardSaid : Prop := Claim7.holds Tryd.pinned (.plain (OpenSpec.upto tokPlacesSpec)) tokPlacesUptoCard
end Rows
end Go.Proofs.YtidbmampjjgkpaaDoor
