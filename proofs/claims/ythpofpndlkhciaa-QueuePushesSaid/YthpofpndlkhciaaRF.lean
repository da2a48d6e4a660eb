import Derived.Test.YthpofpndlkhciaaQ0
import Derived.Test.YthpofpndlkhciaaChecked
import Derived.Test.YthpofpndlkhciaaG0
import Derived.WalkKit
import Derived.ProofKit
import Derived.OpenShut
import Derived.Handy
import Derived.BigQuiet
import Derived.Lib.Hide
import Derived.WalkLawsBesides
import Derived.Deep.DeepCutAuto
import Derived.Lib.ItoaNum
import Derived.Lib.Strings
import Derived.Lib.ParseIntB
import Derived.WalkSmall
import Derived.Test.YthpofpndlkhciaaShelf
import Derived.Lib.AppendIntMem
import Derived.Lib.AtoiErrMem
namespace Go.Proofs.Ythpofpndlkhciaa
open Go.RowKit
def NoneIs (w : World) (e : Ending) (w' : World) : Prop := ∃ v, e = .returned (.tuple #[.int .i64 v, .bool false]) ∧ Below w.heap.size w w'
theorem NoneIs.out {w : World} {e : Ending} {w' : World} (h : NoneIs w e w') : ∃ v p, e = .returned (.tuple #[.int .i64 v, .bool false]) ∧ w' = G p w := by
  obtain ⟨v, he, hb⟩ := h
  obtain ⟨p, hp⟩ := toG hb
  exact ⟨v, p, he, hp⟩
end Go.Proofs.Ythpofpndlkhciaa

