import Derived.Test.YtniecghigmgbnaaDoorLX
import Derived.Test.YtniecghigmgbnaaDoorQ0
import Derived.WalkKit
import Derived.ProofKit
import Derived.OpenShut
import Derived.Handy
import Derived.BigQuiet
import Derived.Lib.Hide
import Derived.WalkLawsBesides
import Derived.Lib.SplitLaws
import Derived.Test.YtniecghigmgbnaaDoorRG
import Derived.Test.YtniecghigmgbnaaDoorShelf2
import Derived.WalkSmall
namespace Go.Proofs.YtniecghigmgbnaaDoor
open Go.RowKit
/-- The place where the library's greatest index stands holds a number. -/
def MaxL (w : World) : Prop := ∃ m, w.cell? ⟨2, 0, none⟩ = some (.int .i64 m)
end Go.Proofs.YtniecghigmgbnaaDoor

