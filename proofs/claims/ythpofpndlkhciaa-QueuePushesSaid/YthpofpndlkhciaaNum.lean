/- Plain arithmetic: when the wrapped sum, difference, product and quotient of two numbers of 64 bits are the true ones. No program. -/
import Derived.WalkKit
namespace Go.Proofs.Ythpofpndlkhciaa
open Go.RowKit

/-- A number of 64 bits. -/
def I64 (x : Int) : Prop := -9223372036854775808 ≤ x ∧ x ≤ 9223372036854775807
end Go.Proofs.Ythpofpndlkhciaa

