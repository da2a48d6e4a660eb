/- Plain: a line's tokens, from the left. No program. -/
import Derived.Test.YthpofpndlkhciaaChecked
import Derived.Test.YthpofpndlkhciaaG0
import Derived.WalkKit
import Derived.ProofKit
import Derived.OpenShut
import Derived.Handy
import Derived.BigQuiet
import Derived.Lib.Hide
import Derived.WalkLawsBesides
namespace Go.Proofs.Ythpofpndlkhciaa
open Go.RowKit

def ones : List UInt8 := [40, 41, 59, 58, 43, 45, 42, 47, 37, 60, 62, 61]
/-- A token: its kind, text, number, and place. -/
structure Tk where
  k : Int
  s : List UInt8
  n : Int
  a : Nat
end Go.Proofs.Ythpofpndlkhciaa

