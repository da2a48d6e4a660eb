/- The acts' forms, as the program lays them; what a form asks of a name, an expression, a number. -/
import Derived.Test.YtniecghigmgbnaaDoorXP
import Derived.Test.YtniecghigmgbnaaDoorXG
import Derived.Test.YtniecghigmgbnaaDoorNM
import Derived.WalkKit
import Derived.ProofKit
import Derived.OpenShut
import Derived.Handy
import Derived.BigQuiet
import Derived.OwnWalk
import Derived.Lib.Hide
import Derived.WalkSmall
import Derived.WalkLawsBesides
import Derived.Test.YtniecghigmgbnaaDoorT2
import Derived.Test.YtniecghigmgbnaaDoorDG
import Derived.Test.YtniecghigmgbnaaDoorT4
import Derived.Deep.AppendLies
import Derived.Test.YtniecghigmgbnaaDoorX1
import Derived.Deep.RegionHeld3
import Derived.Deep.RegionLaw
import Derived.StillTailTactics
namespace Go.Proofs.YtniecghigmgbnaaDoor
open Go.RowKit
theorem blk_keep {b : Nat} {w w' : World} {cs : Array Value} {t : TypeId} {fr : Nat × Nat} (h : w.heap[b]? = some (.cells cs t fr)) (hb : Below w.heap.size w w') : w'.heap[b]? = some (.cells cs t fr) := (hb.block b (lt_of_block h)).trans h
end Go.Proofs.YtniecghigmgbnaaDoor

