import Derived.Test.YthpofpndlkhciaaLX
import Derived.Test.YthpofpndlkhciaaQ0
import Derived.WalkKit
import Derived.ProofKit
import Derived.OpenShut
import Derived.Handy
import Derived.BigQuiet
import Derived.Lib.Hide
import Derived.WalkLawsBesides
import Derived.Lib.SplitLaws
import Derived.Test.YthpofpndlkhciaaRG
import Derived.Test.YthpofpndlkhciaaShelf2
import Derived.WalkSmall
namespace Go.Proofs.Ythpofpndlkhciaa
open Go.RowKit
def CutIs (l : List UInt8) (w : World) (e : Ending) (w' : World) : Prop := ∃ y, e = .returned (.tuple #[.string ⟨(Lib.cut l [39]).1.toArray⟩, .string y, .bool (Lib.cut l [39]).2.2]) ∧ Below w.heap.size w w'
theorem CutIs.out {l : List UInt8} {w : World} {e : Ending} {w' : World} (h : CutIs l w e w') : ∃ y p, e = .returned (.tuple #[.string ⟨(Lib.cut l [39]).1.toArray⟩, .string y, .bool (Lib.cut l [39]).2.2]) ∧ w' = G p w := by
  obtain ⟨y, he, hb⟩ := h
  obtain ⟨p, hp⟩ := toG hb
  exact ⟨y, p, he, hp⟩
end Go.Proofs.Ythpofpndlkhciaa

