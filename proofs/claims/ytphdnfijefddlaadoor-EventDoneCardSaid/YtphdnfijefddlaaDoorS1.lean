import Derived.Test.YtphdnfijefddlaaDoorQ0
import Derived.Test.YtphdnfijefddlaaDoorChecked
import Derived.Test.YtphdnfijefddlaaDoorG0
import Derived.Test.YtphdnfijefddlaaDoorNum
import Derived.WalkKit
import Derived.ProofKit
import Derived.OpenShut
import Derived.Handy
import Derived.BigQuiet
import Derived.Lib.Hide
import Derived.WalkLawsBesides
namespace Go.Proofs.YtphdnfijefddlaaDoor
open Go.RowKit
/-- A text with a sign ahead and one behind. -/
def quote (s : ByteArray) : ByteArray := (⟨#[39]⟩ ++ s) ++ ⟨#[39]⟩
end Go.Proofs.YtphdnfijefddlaaDoor

