/- tok's own words, beside the reference: one token alone, what a word means, a name, is. -/
import Derived.Test.YtphdnfijefddlaaNM
import Derived.WalkKit
import Derived.ProofKit
import Derived.OpenShut
import Derived.Handy
import Derived.BigQuiet
import Derived.OwnWalk
import Derived.Lib.Hide
import Derived.WalkSmall
import Derived.WalkLawsBesides
namespace Go.Proofs.Ytphdnfijefddlaa
open Go.RowKit
/-- The texts zs lie where the slice says. -/
def Txts (w : World) (ao : Option Addr) (zs : List ByteArray) : Prop := ∀ i (h : i < zs.length), ∃ a, ao = some a ∧ w.cell? (a.add i) = some (.string zs[i])
theorem txts_below {w w' : World} {ao : Option Addr} {zs : List ByteArray} (h : Txts w ao zs) (hb : Below w.heap.size w w') : Txts w' ao zs := by
  intro i hi
  obtain ⟨a, ha, hc⟩ := h i hi
  exact ⟨a, ha, (hb.cell (World.block_lt_of_cell? _ _ hc)).trans hc⟩
end Go.Proofs.Ytphdnfijefddlaa

