/- The document's kinds: whirligigref04.Of, from a node down. -/
import Derived.Test.YtphdnfijefddlaaXG
import Derived.Test.YtphdnfijefddlaaChecked
import Derived.Test.YtphdnfijefddlaaG0
import Derived.Test.YtphdnfijefddlaaNum
import Derived.WalkKit
import Derived.ProofKit
import Derived.OpenShut
import Derived.Handy
import Derived.BigQuiet
import Derived.Lib.Hide
import Derived.WalkLawsBesides
import Derived.WalkSmall
namespace Go.Proofs.Ytphdnfijefddlaa
open Go.RowKit
def StrsAt (w : World) (ao : Option Addr) (ss : List ByteArray) : Prop := 0 < ss.length → ∃ g o, ao = some ⟨g, o, none⟩ ∧ g < w.heap.size ∧ ∀ i (h : i < ss.length), w.cell? ⟨g, o + i, none⟩ = some (.string ss[i])
theorem strs_below {w w' : World} {ao : Option Addr} {ss : List ByteArray} (h : StrsAt w ao ss) (hb : Below w.heap.size w w') : StrsAt w' ao ss := by
  intro h0
  obtain ⟨g, o, e, hg, hc⟩ := h h0
  exact ⟨g, o, e, Nat.lt_of_lt_of_le hg hb.size, fun i hi => (hb.cell (p := ⟨g, _, none⟩) hg).trans (hc i hi)⟩
end Go.Proofs.Ytphdnfijefddlaa

