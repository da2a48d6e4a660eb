/- Plain: what is read may be: its nodes stand as rightT asks; and where a node's parts stand. No program. -/
import Derived.Test.YthpofpndlkhciaaOB
import Derived.Test.YthpofpndlkhciaaX0
import Derived.Test.YthpofpndlkhciaaNM
import Derived.WalkKit
import Derived.ProofKit
import Derived.OpenShut
import Derived.Handy
import Derived.BigQuiet
import Derived.OwnWalk
import Derived.Lib.Hide
import Derived.WalkSmall
import Derived.WalkLawsBesides
import Derived.Test.YthpofpndlkhciaaT2
import Derived.Deep.MidRow
import Derived.Deep.AppendLies
import Derived.OneCell
import Derived.Deep.RegionHeld3
import Derived.Deep.RegionLaw
import Derived.StillTailTactics
import Derived.BigRegion
namespace Go.Proofs.Ythpofpndlkhciaa
/-! ### Tokens -/
/-! ### The machine keeps it -/
section
variable {ts : List Tk}
end
/-! ### Where a node's parts stand -/
/-- A node's operation is one, and its parts stand ahead of it, at place j. -/
structure Ahead (j : Nat) (n : Nd) : Prop where
  range : n.op = 0 ∨ (1 ≤ n.op ∧ n.op ≤ 15) ∨ n.op = 16 ∨ n.op = 17
  l : 1 ≤ n.op → n.op ≤ 15 → ∃ a : Nat, n.l = a ∧ a < j
  r : 3 ≤ n.op → n.op ≤ 15 → ∃ a : Nat, n.r = a ∧ a < j
end Go.Proofs.Ythpofpndlkhciaa

