/- kind: names that are looked up in a scope. -/
import Derived.Test.YtphdnfijefddlaaXO
import Derived.Test.YtphdnfijefddlaaAR
import Derived.Test.YtphdnfijefddlaaTN
import Derived.WalkKit
import Derived.ProofKit
import Derived.OpenShut
import Derived.Handy
import Derived.BigQuiet
import Derived.Lib.Hide
import Derived.WalkSmall
import Derived.WalkLawsBesides
namespace Go.Proofs.Ytphdnfijefddlaa
open Go.RowKit
theorem strs_txts {w : World} {ao : Option Addr} {ss : List ByteArray} (h : StrsAt w ao ss) : Txts w ao ss := by
  intro i hi
  obtain ⟨g, o, rfl, _, hc⟩ := h (by omega)
  exact ⟨_, rfl, by rw [add_plain]; exact hc i hi⟩
end Go.Proofs.Ytphdnfijefddlaa

