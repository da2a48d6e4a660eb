/-
  DERIVED. GIVEN WITH THE SEED: THE CARDS: each row of YtkjgfcbanlcmgaaGreatDoorRows.lean that lists a variable, with what it lists TIED to the program's text (the seventh form; the later family's looks); each row that meets fmt, with fmt's text TOLD by the authors' own Lean function (tested against real Go, not proved from fmt's source: count such statements apart). THE CARD IS WHAT COUNTS. Prove the row's statement (the work); the ties are given (YtkjgfcbanlcmgaaGreatDoorTie.lean); close each card by the builder's one call (the guide's Derived/Test/ToyasCard.lean, 'card_holds'). Laid BY PROGRAM, IN A SANDBOX (cutbox-door.mjs). By AI agents, Wed Nov 11 2026. No macro, syntax, notation, axiom, sorry.
-/
import Derived.Test.YtkjgfcbanlcmgaaGreatDoorRows
import GoSem.ClaimSeven
namespace Go.Proofs.YtkjgfcbanlcmgaaGreatDoor
namespace Rows

/-- THE TIED CARD OF 'whirligiglaw04.KindOf'. -/
def kindOfCard : Claim7 := { stood := { row := kindOfRow, standIns := [], harness := (true, "bd6273a00f2af37030f440bb204a11e66f98e3893750effe8102b39dc69d6664"), looks := true }, kinds := [], alts := [], laidByText := true, laidKinds := [.data, .data, .data, .data, .sentinel, .sentinel, .data, .data, .pinned], laidTests := true, laidLooks := .later }
def KindOfCardSaid : Prop := Claim7.holds Tryz.pinned (.plain (OpenSpec.ofChange kindOfSpec)) kindOfCard

/-- THE TIED CARD OF 'whirligiglaw04.KindForms'. -/
def kindFormsCard : Claim7 := { stood := { row := kindFormsRow, standIns := [], harness := (true, "bd6273a00f2af37030f440bb204a11e66f98e3893750effe8102b39dc69d6664"), looks := true }, kinds := [], alts := [], laidByText := true, laidKinds := [.data, .data, .data, .data, .sentinel, .sentinel, .data, .data, .pinned], laidTests := true, laidLooks := .later }
def KindFormsCardSaid : Prop := Claim7.holds Tryz.pinned (.plain (OpenSpec.ofChange kindFormsSpec)) kindFormsCard

/-- THE TIED CARD OF 'whirligiglaw04.KindMore'. -/
def kindMoreCard : Claim7 := { stood := { row := kindMoreRow, standIns := [], harness := (true, "bd6273a00f2af37030f440bb204a11e66f98e3893750effe8102b39dc69d6664"), looks := true }, kinds := [], alts := [], laidByText := true, laidKinds := [.data, .data, .data, .data, .sentinel, .sentinel, .data, .data, .pinned], laidTests := true, laidLooks := .later }
def KindMoreCardSaid : Prop := Claim7.holds Tryz.pinned (.plain (OpenSpec.ofChange kindMoreSpec)) kindMoreCard

/-- THE SECOND FORM's CARD OF 'whirligiglaw04.KindOf'. -/
def kindOfUptoCard : Claim7 := { stood := { row := kindOfUptoRow, standIns := [], harness := (true, "bd6273a00f2af37030f440bb204a11e66f98e3893750effe8102b39dc69d6664"), looks := true }, kinds := [], alts := [], laidByText := true, laidKinds := [.data, .data, .data, .data, .sentinel, .sentinel, .data, .data, .pinned], laidTests := true, laidLooks := .later }
def KindOfUptoCardSaid : Prop := Claim7.holds Tryz.pinned (.plain (OpenSpec.upto kindOfSpec)) kindOfUptoCard

/-- THE SECOND FORM's CARD OF 'whirligiglaw04.KindForms'. -/
def kindFormsUptoCard : Claim7 := { stood := { row := kindFormsUptoRow, standIns := [], harness := (true, "bd6273a00f2af37030f440bb204a11e66f98e3893750effe8102b39dc69d6664"), looks := true }, kinds := [], alts := [], laidByText := true, laidKinds := [.data, .data, .data, .data, .sentinel, .sentinel, .data, .data, .pinned], laidTests := true, laidLooks := .later }
def KindFormsUptoCardSaid : Prop := Claim7.holds Tryz.pinned (.plain (OpenSpec.upto kindFormsSpec)) kindFormsUptoCard

/-- THE SECOND FORM's CARD OF 'whirligiglaw04.KindMore'. -/
def kindMoreUptoCard : Claim7 := { stood := { row := kindMoreUptoRow, standIns := [], harness := (true, "bd6273a00f2af37030f440bb204a11e66f98e3893750effe8102b39dc69d6664"), looks := true }, kinds := [], alts := [], laidByText := true, laidKinds := [.data, .data, .data, .data, .sentinel, .sentinel, .data, .data, .pinned], laidTests := true, laidLooks := .later }
def KindMoreUptoCardSaid : Prop := Claim7.holds Tryz.pinned (.plain (OpenSpec.upto kindMoreSpec)) kindMoreUptoCard
end Rows
end Go.Proofs.YtkjgfcbanlcmgaaGreatDoor
