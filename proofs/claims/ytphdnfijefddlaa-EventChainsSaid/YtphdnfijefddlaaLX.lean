/- Plain: a line's tokens, from the left. No program. -/
import Derived.Test.YtphdnfijefddlaaChecked
import Derived.Test.YtphdnfijefddlaaG0
import Derived.Test.YtphdnfijefddlaaNum
import Derived.WalkKit
import Derived.ProofKit
import Derived.OpenShut
import Derived.Handy
import Derived.BigQuiet
import Derived.Lib.Hide
import Derived.WalkLawsBesides
namespace Go.Proofs.Ytphdnfijefddlaa
open Go.RowKit

/-- A token: its kind, text, number, and place. -/
structure Tk where
  k : Int
  s : List UInt8
  n : Int
  a : Nat
end Go.Proofs.Ytphdnfijefddlaa

