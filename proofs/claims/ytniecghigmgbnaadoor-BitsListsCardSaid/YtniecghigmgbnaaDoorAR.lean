/- Rows that came in: an address at which a cell lies is a block and a place in it. -/
import Derived.Test.YtniecghigmgbnaaDoorChecked
import Derived.Test.YtniecghigmgbnaaDoorOV
import Derived.Test.YtniecghigmgbnaaDoorNM
import Derived.WalkKit
import Derived.ProofKit
import Derived.OpenShut
import Derived.Handy
import Derived.BigQuiet
import Derived.OwnWalk
import Derived.Lib.Hide
import Derived.WalkSmall
import Derived.WalkLawsBesides
import Derived.Test.YtniecghigmgbnaaDoorT4
import Derived.SliceStrings
import Derived.Lib.SmallJoins
import Derived.Test.YtniecghigmgbnaaDoorXG
import Derived.Test.YtniecghigmgbnaaDoorG0
import Derived.Test.YtniecghigmgbnaaDoorNum
namespace Go.Proofs.YtniecghigmgbnaaDoor
open Go.RowKit
theorem spot_none {w : World} {a : Addr} {v : Value} (h : w.cell? a = some v) : a = ⟨a.block, a.off, none⟩ := by
  obtain ⟨b, o, s⟩ := a
  cases s with
  | none => rfl
  | some k =>
    unfold World.cell? at h
    simp only [Option.isSome_some, if_true] at h
    repeat' split at h
    all_goals cases h
theorem add_zero_addr (a : Addr) : a.add 0 = a := by unfold Addr.add; rw [if_pos rfl]
theorem add_plain (b o i : Nat) : (⟨b, o, none⟩ : Addr).add i = ⟨b, o + i, none⟩ := by
  unfold Addr.add
  split
  · rename_i h; subst h; rfl
  · rfl
end Go.Proofs.YtniecghigmgbnaaDoor

