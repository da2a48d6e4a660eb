import Derived.Test.YtphdnfijefddlaaDoorRF
import Derived.Test.YtphdnfijefddlaaDoorShelf
import Derived.Test.YtphdnfijefddlaaDoorDG
import Derived.Test.YtphdnfijefddlaaDoorS1
import Derived.Test.YtphdnfijefddlaaDoorChecked
import Derived.Test.YtphdnfijefddlaaDoorG0
import Derived.Test.YtphdnfijefddlaaDoorNum
import Derived.WalkKit
import Derived.ProofKit
import Derived.OpenShut
import Derived.Handy
import Derived.BigQuiet
import Derived.Lib.Hide
import Derived.WalkLawsBesides
import Derived.Test.YtphdnfijefddlaaDoorE
import Derived.Lib.Strings
import Derived.Lib.AppendIntMem
import Derived.WalkSmall
import Derived.Lib.ParseIntBTie
import Derived.Lib.AtoiErrMem
namespace Go.Proofs.YtphdnfijefddlaaDoor
open Go.RowKit
/-- What ParseInt says of what is no number of 64 bits: some error. -/
def BadIs (w : World) (e : Ending) (w' : World) : Prop := ∃ x t n, e = .returned (.tuple #[.int .i64 x, .iface t (.pointer (some ⟨n, 0, none⟩))]) ∧ Below w.heap.size w w'
theorem BadIs.out {w : World} {e : Ending} {w' : World} (h : BadIs w e w') : ∃ x t n p, e = .returned (.tuple #[.int .i64 x, .iface t (.pointer (some ⟨n, 0, none⟩))]) ∧ w' = G p w := by
  obtain ⟨x, t, n, he, hb⟩ := h
  obtain ⟨p, hp⟩ := toG hb
  exact ⟨x, t, n, p, he, hp⟩
end Go.Proofs.YtphdnfijefddlaaDoor

