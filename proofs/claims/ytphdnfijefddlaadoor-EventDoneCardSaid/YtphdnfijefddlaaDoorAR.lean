/- Rows that came in: an address at which a cell lies is a block and a place in it. -/
import Derived.Test.YtphdnfijefddlaaDoorChecked
import Derived.Test.YtphdnfijefddlaaDoorOV
import Derived.Test.YtphdnfijefddlaaDoorTN
import Derived.Test.YtphdnfijefddlaaDoorV0
import Derived.WalkKit
import Derived.ProofKit
import Derived.OpenShut
import Derived.Handy
import Derived.BigQuiet
import Derived.Lib.Hide
import Derived.WalkSmall
import Derived.WalkLawsBesides
import Derived.SliceStrings
import Derived.Lib.SmallJoins
import Derived.Test.YtphdnfijefddlaaDoorK8
import Derived.Test.YtphdnfijefddlaaDoorG0
import Derived.Test.YtphdnfijefddlaaDoorNum
namespace Go.Proofs.YtphdnfijefddlaaDoor
open Go.RowKit
theorem add_plain (b o i : Nat) : (⟨b, o, none⟩ : Addr).add i = ⟨b, o + i, none⟩ := by
  unfold Addr.add
  split
  · rename_i h; subst h; rfl
  · rfl
end Go.Proofs.YtphdnfijefddlaaDoor

