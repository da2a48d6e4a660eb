/- From a row's list of laid variables to the table of powers of ten. -/
import Derived.Test.YtnpjphnmcpglkaaDoorSH
import Derived.Lib.LaidTab
import Derived.Stop.LaidErr
namespace Go.Proofs.YtnpjphnmcpglkaaDoor
theorem tab_of {W : World} (hL : laidMetH Tryd.prog Rows.valShowsRow.laid W) : Tab W :=
  Lib.tabIs_of_head (g := 0) (by kernel_rfl) (by kernel_rfl) Tryd.underlying91 Tryd.underlying77 (by kernel_rfl) (by kernel_rfl) (laidMet.tail (laidMet.tail hL))
end Go.Proofs.YtnpjphnmcpglkaaDoor
