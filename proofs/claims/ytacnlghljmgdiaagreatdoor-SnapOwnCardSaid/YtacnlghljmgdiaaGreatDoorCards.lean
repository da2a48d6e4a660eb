/-
  DERIVED. GIVEN WITH THE SEED: THE CARDS: each row of YtacnlghljmgdiaaGreatDoorRows.lean that lists a variable, with what it lists TIED to the program's text (the seventh form; the later family's looks); each row that meets fmt, with fmt's text TOLD by the authors' own Lean function (tested against real Go, not proved from fmt's source: count such statements apart). THE CARD IS WHAT COUNTS. Prove the row's statement (the work); the ties are given (YtacnlghljmgdiaaGreatDoorTie.lean); close each card by the builder's one call (the guide's Derived/Test/ToyasCard.lean, 'card_holds'). Laid BY PROGRAM, IN A SANDBOX (cutbox-door.mjs). By AI agents, Wed Nov 11 2026. No macro, syntax, notation, axiom, sorry.
-/
import Derived.Test.YtacnlghljmgdiaaGreatDoorRows
import GoSem.ClaimSeven
namespace Go.Proofs.YtacnlghljmgdiaaGreatDoor
namespace Rows

/-- THE TIED CARD OF 'whirligiglaw14.SnapBegins'. -/
def snapBeginsCard : Claim7 := { stood := { row := snapBeginsRow, standIns := [], harness := (true, "3b0e6f2fea1e1c08aa2d39d364ce5845839ea557ed3b2a84c9333c5db2a4f033"), looks := true }, kinds := [], alts := [], laidByText := true, laidKinds := [.data, .data, .data, .data, .sentinel, .sentinel, .data, .data, .data, .data, .data, .pinned], laidTests := true, laidLooks := .later }
def SnapBeginsCardSaid : Prop := Claim7.holds Tryz.pinned (.plain (OpenSpec.ofChange snapBeginsSpec)) snapBeginsCard

/-- THE TIED CARD OF 'whirligiglaw14.SnapSame'. -/
def snapSameCard : Claim7 := { stood := { row := snapSameRow, standIns := [], harness := (true, "3b0e6f2fea1e1c08aa2d39d364ce5845839ea557ed3b2a84c9333c5db2a4f033"), looks := true }, kinds := [], alts := [], laidByText := true, laidKinds := [.data, .data, .data, .data, .sentinel, .sentinel, .data, .data, .data, .data, .data, .pinned], laidTests := true, laidLooks := .later }
def SnapSameCardSaid : Prop := Claim7.holds Tryz.pinned (.plain (OpenSpec.ofChange snapSameSpec)) snapSameCard

/-- THE TIED CARD OF 'whirligiglaw14.SnapOwn'. -/
def snapOwnCard : Claim7 := { stood := { row := snapOwnRow, standIns := [], harness := (true, "3b0e6f2fea1e1c08aa2d39d364ce5845839ea557ed3b2a84c9333c5db2a4f033"), looks := true }, kinds := [], alts := [], laidByText := true, laidKinds := [.data, .data, .data, .data, .sentinel, .sentinel, .data, .data, .data, .data, .data, .pinned], laidTests := true, laidLooks := .later }
def SnapOwnCardSaid : Prop := Claim7.holds Tryz.pinned (.plain (OpenSpec.ofChange snapOwnSpec)) snapOwnCard

/-- THE SECOND FORM's CARD OF 'whirligiglaw14.SnapBegins'. -/
def snapBeginsUptoCard : Claim7 := { stood := { row := snapBeginsUptoRow, standIns := [], harness := (true, "3b0e6f2fea1e1c08aa2d39d364ce5845839ea557ed3b2a84c9333c5db2a4f033"), looks := true }, kinds := [], alts := [], laidByText := true, laidKinds := [.data, .data, .data, .data, .sentinel, .sentinel, .data, .data, .data, .data, .data, .pinned], laidTests := true, laidLooks := .later }
def SnapBeginsUptoCardSaid : Prop := Claim7.holds Tryz.pinned (.plain (OpenSpec.upto snapBeginsSpec)) snapBeginsUptoCard

/-- THE SECOND FORM's CARD OF 'whirligiglaw14.SnapSame'. -/
def snapSameUptoCard : Claim7 := { stood := { row := snapSameUptoRow, standIns := [], harness := (true, "3b0e6f2fea1e1c08aa2d39d364ce5845839ea557ed3b2a84c9333c5db2a4f033"), looks := true }, kinds := [], alts := [], laidByText := true, laidKinds := [.data, .data, .data, .data, .sentinel, .sentinel, .data, .data, .data, .data, .data, .pinned], laidTests := true, laidLooks := .later }
def SnapSameUptoCardSaid : Prop := Claim7.holds Tryz.pinned (.plain (OpenSpec.upto snapSameSpec)) snapSameUptoCard

/-- THE SECOND FORM's CARD OF 'whirligiglaw14.SnapOwn'. -/
def snapOwnUptoCard : Claim7 := { stood := { row := snapOwnUptoRow, standIns := [], harness := (true, "3b0e6f2fea1e1c08aa2d39d364ce5845839ea557ed3b2a84c9333c5db2a4f033"), looks := true }, kinds := [], alts := [], laidByText := true, laidKinds := [.data, .data, .data, .data, .sentinel, .sentinel, .data, .data, .data, .data, .data, .pinned], laidTests := true, laidLooks := .later }
def SnapOwnUptoCardSaid : Prop := Claim7.holds Tryz.pinned (.plain (OpenSpec.upto snapOwnSpec)) snapOwnUptoCard
end Rows
end Go.Proofs.YtacnlghljmgdiaaGreatDoor
