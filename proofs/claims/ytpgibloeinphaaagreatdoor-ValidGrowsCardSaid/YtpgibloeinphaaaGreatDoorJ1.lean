/- Several texts of this proof, joined: BU. -/
import Derived.Test.YtpgibloeinphaaaGreatDoorZ1
import Derived.Test.YtpgibloeinphaaaGreatDoorChecked
import Derived.WalkKit
import Derived.ProofKit
import Derived.OpenShut
import Derived.Handy
import Derived.BigQuiet
import Derived.OwnWalk
import Derived.Lib.Hide
import Derived.Lib.Builder
import Derived.Lib.AppendStr
import Derived.Lib.UnsafeStr
import Derived.Laws.Externs
import Derived.WalkLawsBesides
namespace Go.Proofs.YtpgibloeinphaaaGreatDoor
open Go.RowKit
def KeptB (b : Nat) (w w' : World) : Prop := ∀ k cs T fr,k ≠ b → T ≠ 5 → w.heap[k]? = some (.cells cs T fr) → w'.heap[k]? = some (.cells cs T fr)
theorem KeptB.trans {b : Nat} {w w1 w2 : World} (h : KeptB b w w1) (h' : KeptB b w1 w2) : KeptB b w w2 := fun k cs T fr hk hT hw => h' k cs T fr hk hT (h k cs T fr hk hT hw)
end Go.Proofs.YtpgibloeinphaaaGreatDoor
