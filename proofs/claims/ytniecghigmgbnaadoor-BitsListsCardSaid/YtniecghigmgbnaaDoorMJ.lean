/- chart.Parse. -/
import Derived.Test.YtniecghigmgbnaaDoorXP
import Derived.Test.YtniecghigmgbnaaDoorXG
import Derived.Test.YtniecghigmgbnaaDoorX8
import Derived.WalkKit
import Derived.ProofKit
import Derived.OpenShut
import Derived.Handy
import Derived.BigQuiet
import Derived.OwnWalk
import Derived.Deep.AppendLies
import Derived.Lib.Hide
import Derived.WalkSmall
import Derived.WalkLawsBesides
import Derived.BigRegion
import Derived.Test.YtniecghigmgbnaaDoorX1
import Derived.Deep.RegionHeld3
import Derived.Deep.RegionLaw
import Derived.Test.YtniecghigmgbnaaDoorBA
import Derived.Test.YtniecghigmgbnaaDoorXR
import Derived.Test.YtniecghigmgbnaaDoorQ0
import Derived.OneCell
import Derived.StillTailTactics
import Derived.Test.YtniecghigmgbnaaDoorSH
import Derived.Test.YtniecghigmgbnaaDoorShelf4
import Derived.Test.YtniecghigmgbnaaDoorMS
namespace Go.Proofs.YtniecghigmgbnaaDoor
open Go.RowKit
attribute [local go_sem] Oper.semAt_some
theorem cell1_old {w : World} {b : Nat} {v : Value} {t : TypeId} (o : Obj) (h : Cell1 w b v t) : Cell1 (w.alloc o) b v t := blk_old h
theorem cell1_keep {w w' : World} {b : Nat} {v : Value} {t : TypeId} (h : Cell1 w b v t) (hb : Below w.heap.size w w') : Cell1 w' b v t := blk_keep h hb
theorem cell1_low {w w' : World} {b j : Nat} {v : Value} {t : TypeId} (h : Cell1 w b v t) (hg : w.grownBy w' (some j)) (hne : b ≠ j) : Cell1 w' b v t := (hg.block b (one_cells h).2.2 (by simpa using hne)).trans h
theorem set_heap {w : World} {b i j : Nat} {v : Value} (h : j ≠ b) : (w.setCell ⟨b, i, none⟩ v).heap[j]? = w.heap[j]? := Below.heap_setCell _ _ _ _ (fun e => h (by simpa using e))
theorem grown_set (w : World) (b i : Nat) (v : Value) : w.grownBy (w.setCell ⟨b, i, none⟩ v) (some b) := ⟨rfl, rfl, rfl, Nat.le_of_eq (by simp [World.setCell]), fun j _ hne => set_heap (by simpa using hne)⟩
section
variable {w w1 : World} {a1 a2 : Nat} {y n : Int}
end
end Go.Proofs.YtniecghigmgbnaaDoor

