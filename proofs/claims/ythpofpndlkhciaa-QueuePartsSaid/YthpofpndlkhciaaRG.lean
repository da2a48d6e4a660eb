import Derived.Test.YthpofpndlkhciaaRF
import Derived.Test.YthpofpndlkhciaaShelf
import Derived.Test.YthpofpndlkhciaaQ0
import Derived.Test.YthpofpndlkhciaaChecked
import Derived.Test.YthpofpndlkhciaaG0
import Derived.WalkKit
import Derived.ProofKit
import Derived.OpenShut
import Derived.Handy
import Derived.BigQuiet
import Derived.Lib.Hide
import Derived.WalkLawsBesides
import Derived.Deep.DeepCutAuto
import Derived.Lib.ItoaNum
import Derived.Lib.Strings
import Derived.Lib.AppendIntMem
import Derived.WalkSmall
import Derived.Lib.ParseIntBTie
import Derived.Lib.AtoiErrMem
namespace Go.Proofs.Ythpofpndlkhciaa
open Go.RowKit
/-- What ParseInt says of what is no number of 64 bits: some error. -/
def BadIs (w : World) (e : Ending) (w' : World) : Prop := ∃ x t n, e = .returned (.tuple #[.int .i64 x, .iface t (.pointer (some ⟨n, 0, none⟩))]) ∧ Below w.heap.size w w'
theorem BadIs.out {w : World} {e : Ending} {w' : World} (h : BadIs w e w') : ∃ x t n p, e = .returned (.tuple #[.int .i64 x, .iface t (.pointer (some ⟨n, 0, none⟩))]) ∧ w' = G p w := by
  obtain ⟨x, t, n, he, hb⟩ := h
  obtain ⟨p, hp⟩ := toG hb
  exact ⟨x, t, n, p, he, hp⟩
end Go.Proofs.Ythpofpndlkhciaa

