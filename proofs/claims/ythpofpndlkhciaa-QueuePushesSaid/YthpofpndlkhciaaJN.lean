/- Plain: a line's tokens, joined, are the same tokens again. No program. -/
import Derived.Test.YthpofpndlkhciaaOB
import Derived.Test.YthpofpndlkhciaaT2
import Derived.WalkKit
import Derived.ProofKit
import Derived.OpenShut
import Derived.Handy
import Derived.BigQuiet
import Derived.Lib.Hide
import Derived.WalkSmall
import Derived.Deep.MidRow
import Derived.WalkLawsBesides
import Derived.OwnWalk
import Derived.Deep.AppendLies
namespace Go.Proofs.Ythpofpndlkhciaa
/-- What may stand behind a token: nothing, or a blank. -/
def Behind (r : List UInt8) : Prop := r = [] ∨ ∃ q, r = 32 :: q
end Go.Proofs.Ythpofpndlkhciaa

