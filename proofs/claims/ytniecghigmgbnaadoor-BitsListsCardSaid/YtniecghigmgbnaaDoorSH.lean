import Derived.Test.YtniecghigmgbnaaDoorShelf
import Derived.Test.YtniecghigmgbnaaDoorDG
import Derived.Test.YtniecghigmgbnaaDoorQ0
import Derived.Test.YtniecghigmgbnaaDoorChecked
import Derived.Test.YtniecghigmgbnaaDoorG0
import Derived.Test.YtniecghigmgbnaaDoorNum
import Derived.WalkKit
import Derived.ProofKit
import Derived.OpenShut
import Derived.Handy
import Derived.BigQuiet
import Derived.Lib.Hide
import Derived.WalkLawsBesides
import Derived.Lib.Strings
import Derived.Lib.AppendIntMem
import Derived.WalkSmall
namespace Go.Proofs.YtniecghigmgbnaaDoor
open Go.RowKit
/-- The library's table of powers of ten holds what its text lays. -/
def Tab (w : World) : Prop := Lib.TabIs Tryd.prog w "internal/strconv.uint64pow10" .u64 Lib.pow10Tab
theorem tab_below {w w' : World} (h : Tab w) (hb : Below w.heap.size w w') : Tab w' := by
  have hg : Tryd.prog.globalNamed "internal/strconv.uint64pow10" = some 1 := by kernel_rfl
  have hlt : 1 < w.heap.size := by
    rcases Nat.lt_or_ge 1 w.heap.size with h1 | h1
    · exact h1
    · unfold Tab Lib.TabIs World.var? at h
      rw [hg] at h
      simp only [Option.bind_some] at h
      rw [Array.getElem?_eq_none h1] at h
      cases h
  exact var?_below hb hg hlt h
end Go.Proofs.YtniecghigmgbnaaDoor

