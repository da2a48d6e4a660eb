/- From a row's list of laid variables to the table of powers of ten. -/
import Derived.Test.YtidbmampjjgkpaaDoorSH
import Derived.Lib.LaidTab
import Derived.Stop.LaidErr
namespace Go.Proofs.YtidbmampjjgkpaaDoor
theorem tab_of {W : World} (hL : laidMetH Tryd.prog Rows.valShowsRow.laid W) : Tab W :=
  Lib.tabIs_of_head (g := 1) (by kernel_rfl) (by kernel_rfl) Tryd.underlying131 Tryd.underlying109 (by kernel_rfl) (by kernel_rfl) (laidMet.tail (laidMet.tail hL))
end Go.Proofs.YtidbmampjjgkpaaDoor
