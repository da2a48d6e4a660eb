/- A value (a struct of a number, a number and a text) that came in. -/
import Derived.Test.YthpofpndlkhciaaChecked
import Derived.Test.YthpofpndlkhciaaNum
import Derived.WalkKit
import Derived.ProofKit
import Derived.OpenShut
import Derived.Lib.SmallJoins
namespace Go.Proofs.Ythpofpndlkhciaa
open Go.RowKit Go.ChangeShapes Go.WideShapes Go.Joins
theorem i64_of_wf {n : Int} (h : (Lit.int .i64 n).wf = true) : I64 n := by
  have := bounds_i64 h
  unfold I64; omega
end Go.Proofs.Ythpofpndlkhciaa

