import Derived.Test.YtniecghigmgbnaaDoorDG
import Derived.Test.YtniecghigmgbnaaDoorNum
import Derived.Lib.ParseIntB
import Derived.Lib.ItoaNum
import Derived.WalkKit
import Derived.ProofKit
import Derived.OpenShut
import Derived.Handy
import Derived.BigQuiet
import Derived.Lib.Hide
import Derived.Lib.Strings
import Derived.WalkSmall
import Derived.WalkLawsBesides
import Derived.Test.YtniecghigmgbnaaDoorSH
import Derived.Lib.AtoiErrMem
import Derived.Test.YtniecghigmgbnaaDoorChecked
import Derived.Test.YtniecghigmgbnaaDoorG0
namespace Go.Proofs.YtniecghigmgbnaaDoor
open Go.RowKit
def NoneIs (w : World) (e : Ending) (w' : World) : Prop := ∃ v, e = .returned (.tuple #[.int .i64 v, .bool false]) ∧ Below w.heap.size w w'
theorem NoneIs.out {w : World} {e : Ending} {w' : World} (h : NoneIs w e w') : ∃ v p, e = .returned (.tuple #[.int .i64 v, .bool false]) ∧ w' = G p w := by
  obtain ⟨v, he, hb⟩ := h
  obtain ⟨p, hp⟩ := toG hb
  exact ⟨v, p, he, hp⟩
end Go.Proofs.YtniecghigmgbnaaDoor

