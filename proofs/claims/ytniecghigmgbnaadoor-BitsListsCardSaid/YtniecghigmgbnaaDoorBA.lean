/- What takes acts from tokens: what stands behind an act's word. -/
import Derived.Test.YtniecghigmgbnaaDoorAQ
import Derived.Test.YtniecghigmgbnaaDoorX1
import Derived.WalkKit
import Derived.ProofKit
import Derived.OpenShut
import Derived.Handy
import Derived.BigQuiet
import Derived.Deep.RegionHeld3
import Derived.Lib.Hide
import Derived.WalkSmall
import Derived.WalkLawsBesides
import Derived.Test.YtniecghigmgbnaaDoorX8
import Derived.OwnWalk
import Derived.Deep.AppendLies
import Derived.BigRegion
import Derived.Deep.RegionLaw
import Derived.StillTailTactics
namespace Go.Proofs.YtniecghigmgbnaaDoor
open Go.RowKit
theorem blk_old {b : Nat} {w : World} {cs : Array Value} {t : TypeId} {fr : Nat × Nat} {o : Obj} (h : w.heap[b]? = some (.cells cs t fr)) : (w.alloc o).heap[b]? = some (.cells cs t fr) := by
  rw [heap_alloc_old w o (lt_of_block h)]
  exact h
end Go.Proofs.YtniecghigmgbnaaDoor

