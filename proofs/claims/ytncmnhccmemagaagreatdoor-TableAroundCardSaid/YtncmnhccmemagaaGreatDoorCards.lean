/-
  DERIVED. GIVEN WITH THE SEED: THE CARDS: each row of YtncmnhccmemagaaGreatDoorRows.lean that lists a variable, with what it lists TIED to the program's text (the seventh form; the later family's looks); each row that meets fmt, with fmt's text TOLD by the authors' own Lean function (tested against real Go, not proved from fmt's source: count such statements apart). THE CARD IS WHAT COUNTS. Prove the row's statement (the work); the ties are given (YtncmnhccmemagaaGreatDoorTie.lean); close each card by the builder's one call (the guide's Derived/Test/ToyasCard.lean, 'card_holds'). Laid BY PROGRAM, IN A SANDBOX (cutbox-door.mjs). By AI agents, Wed Nov 11 2026. No macro, syntax, notation, axiom, sorry.
-/
import Derived.Test.YtncmnhccmemagaaGreatDoorRows
import GoSem.ClaimSeven
namespace Go.Proofs.YtncmnhccmemagaaGreatDoor
namespace Rows

/-- THE TIED CARD OF 'whirligiglaw11.TableAround'. -/
def tableAroundCard : Claim7 := { stood := { row := tableAroundRow, standIns := [], harness := (true, "d61350c553112276557e75c59703dc1ad3c57b7de5b9d2537de0fae05e4f9f27"), looks := true }, kinds := [], alts := [], laidByText := true, laidKinds := [.data, .data, .data, .data, .sentinel, .sentinel, .data, .data, .data, .data, .pinned], laidTests := true, laidLooks := .later }
def TableAroundCardSaid : Prop := Claim7.holds Tryz.pinned (.plain (OpenSpec.ofChange tableAroundSpec)) tableAroundCard

/-- THE TIED CARD OF 'whirligiglaw11.TableFinds'. -/
def tableFindsCard : Claim7 := { stood := { row := tableFindsRow, standIns := [], harness := (true, "d61350c553112276557e75c59703dc1ad3c57b7de5b9d2537de0fae05e4f9f27"), looks := true }, kinds := [], alts := [], laidByText := true, laidKinds := [.data, .data, .data, .data, .sentinel, .sentinel, .data, .data, .data, .data, .pinned], laidTests := true, laidLooks := .later }
def TableFindsCardSaid : Prop := Claim7.holds Tryz.pinned (.plain (OpenSpec.ofChange tableFindsSpec)) tableFindsCard

/-- THE TIED CARD OF 'whirligiglaw11.TableTrees'. -/
def tableTreesCard : Claim7 := { stood := { row := tableTreesRow, standIns := [], harness := (true, "d61350c553112276557e75c59703dc1ad3c57b7de5b9d2537de0fae05e4f9f27"), looks := true }, kinds := [], alts := [], laidByText := true, laidKinds := [.data, .data, .data, .data, .sentinel, .sentinel, .data, .data, .data, .data, .pinned], laidTests := true, laidLooks := .later }
def TableTreesCardSaid : Prop := Claim7.holds Tryz.pinned (.plain (OpenSpec.ofChange tableTreesSpec)) tableTreesCard

/-- THE SECOND FORM's CARD OF 'whirligiglaw11.TableAround'. -/
def tableAroundUptoCard : Claim7 := { stood := { row := tableAroundUptoRow, standIns := [], harness := (true, "d61350c553112276557e75c59703dc1ad3c57b7de5b9d2537de0fae05e4f9f27"), looks := true }, kinds := [], alts := [], laidByText := true, laidKinds := [.data, .data, .data, .data, .sentinel, .sentinel, .data, .data, .data, .data, .pinned], laidTests := true, laidLooks := .later }
def TableAroundUptoCardSaid : Prop := Claim7.holds Tryz.pinned (.plain (OpenSpec.upto tableAroundSpec)) tableAroundUptoCard

/-- THE SECOND FORM's CARD OF 'whirligiglaw11.TableFinds'. -/
def tableFindsUptoCard : Claim7 := { stood := { row := tableFindsUptoRow, standIns := [], harness := (true, "d61350c553112276557e75c59703dc1ad3c57b7de5b9d2537de0fae05e4f9f27"), looks := true }, kinds := [], alts := [], laidByText := true, laidKinds := [.data, .data, .data, .data, .sentinel, .sentinel, .data, .data, .data, .data, .pinned], laidTests := true, laidLooks := .later }
def TableFindsUptoCardSaid : Prop := Claim7.holds Tryz.pinned (.plain (OpenSpec.upto tableFindsSpec)) tableFindsUptoCard

/-- THE SECOND FORM's CARD OF 'whirligiglaw11.TableTrees'. -/
def tableTreesUptoCard : Claim7 := { stood := { row := tableTreesUptoRow, standIns := [], harness := (true, "d61350c553112276557e75c59703dc1ad3c57b7de5b9d2537de0fae05e4f9f27"), looks := true }, kinds := [], alts := [], laidByText := true, laidKinds := [.data, .data, .data, .data, .sentinel, .sentinel, .data, .data, .data, .data, .pinned], laidTests := true, laidLooks := .later }
def TableTreesUptoCardSaid : Prop := Claim7.holds Tryz.pinned (.plain (OpenSpec.upto tableTreesSpec)) tableTreesUptoCard
end Rows
end Go.Proofs.YtncmnhccmemagaaGreatDoor
