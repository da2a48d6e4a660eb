/- From a row's list of laid variables, and the world's shape, to what a lexer's walk asks. -/
import Derived.Test.YtphdnfijefddlaaDoorT4
import Derived.Test.YtphdnfijefddlaaDoorRG
import Derived.Lib.LaidTab
import Derived.Stop.LaidErr
import Derived.Shelf.Vars
namespace Go.Proofs.YtphdnfijefddlaaDoor
open Go.RowKit Go.Lib
theorem maxl_of {W : World} (h : W.ShapedOpen Tryd.prog) : MaxL W :=
  cell_of_shapedOpen_int (P := Tryd.prog) (g := 0) (t := 3) (zero := #[.int .i64 0]) h (of_decide_eq_true (by kernel_rfl)) (by kernel_rfl) rfl (by kernel_rfl) (by kernel_rfl) Tryd.underlying3
end Go.Proofs.YtphdnfijefddlaaDoor

