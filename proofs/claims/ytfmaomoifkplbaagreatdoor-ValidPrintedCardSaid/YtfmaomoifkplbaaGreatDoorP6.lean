/- Several texts of this proof, joined: BI. -/
import Derived.Test.YtfmaomoifkplbaaGreatDoorP5
import Derived.Test.YtfmaomoifkplbaaGreatDoorP4
import Derived.Test.YtfmaomoifkplbaaGreatDoorP1
import Derived.Test.YtfmaomoifkplbaaGreatDoorY1
import Derived.WalkKit
import Derived.ProofKit
import Derived.OpenShut
import Derived.Handy
import Derived.BigQuiet
import Derived.OwnWalk
import Derived.Lib.Hide
import Derived.WalkSmall
import Derived.WalkLawsBesides
namespace Go.Proofs.YtfmaomoifkplbaaGreatDoor
open Go.RowKit
structure Az (w : World) : Prop where
 al : Al w
 tab : Tab w
theorem az_below {w w' : World} (h : Az w) (hb : Below w.heap.size w w') : Az w' := ⟨al_below h.al hb,tab_below h.tab hb⟩
end Go.Proofs.YtfmaomoifkplbaaGreatDoor
