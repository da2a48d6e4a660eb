/- A text's lines, one by one (strings.SplitSeq): what the function that is ranged over does, and a range over it. -/
import Derived.Test.YtniecghigmgbnaaDoorShelf4
import Derived.Test.YtniecghigmgbnaaDoorXP
import Derived.Test.YtniecghigmgbnaaDoorXG
import Derived.Test.YtniecghigmgbnaaDoorX8
import Derived.WalkKit
import Derived.ProofKit
import Derived.OpenShut
import Derived.Handy
import Derived.BigQuiet
import Derived.OwnWalk
import Derived.Deep.AppendLies
import Derived.Lib.Hide
import Derived.WalkSmall
import Derived.WalkLawsBesides
import Derived.BigRegion
import Derived.Test.YtniecghigmgbnaaDoorX1
import Derived.Deep.RegionHeld3
import Derived.Deep.RegionLaw
import Derived.Test.YtniecghigmgbnaaDoorQ0
import Derived.RangeFuncNested
import Derived.RangeFuncBound
import Derived.RangeFuncCalls
import Derived.RangeFuncLeaves
import Derived.Shelf.Abstract
import Derived.Shelf.RegionOpen
import Derived.OwnWalkIn
import Derived.TacticsInMore
import Derived.LoopNIn
import Derived.LoopIn
import Derived.Lib.IndexLaws
namespace Go.Proofs.YtniecghigmgbnaaDoor
open Go.RowKit
attribute [local go_sem] Oper.semAt_some
/-- A block's one cell. -/
def Cell1 (w : World) (b : Nat) (v : Value) (t : TypeId) : Prop := w.heap[b]? = some (.cells #[v] t (0, 0))
theorem one_cells {w : World} {b : Nat} {v : Value} {t : TypeId} (h : Cell1 w b v t) : w.cell? ⟨b, 0, none⟩ = some v ∧ w.frozen? ⟨b, 0, none⟩ = false ∧ b < w.heap.size :=
  ⟨(cell_of_row w b 0 _ _ _ h).trans rfl, frozen_of_row w b 0 _ _ h, (Array.getElem?_eq_some_iff.1 h).1⟩
theorem set_one {w : World} {b : Nat} {v u : Value} {t : TypeId} (h : Cell1 w b v t) : Cell1 (w.setCell ⟨b, 0, none⟩ u) b u t := by
  have hlt := (one_cells h).2.2
  have h' : w.heap[b] = .cells #[v] t (0, 0) := by simpa [Cell1, Array.getElem?_eq_getElem hlt] using h
  show (w.heap.modify b _)[b]? = _
  rw [Array.getElem?_eq_getElem (by simpa using hlt), Array.getElem_modify_self, h']
  rfl
theorem set_far {w : World} {b c : Nat} {v u : Value} {t : TypeId} (h : Cell1 w b v t) (hne : c ≠ b) : Cell1 (w.setCell ⟨c, 0, none⟩ u) b v t := by
  unfold Cell1
  rw [Below.heap_setCell _ _ _ _ (fun e => hne (by simpa using e.symm))]
  exact h
/-! ### A range over it -/
/-- The loop's record. -/
abbrev recL (fn : FuncId) (tmps : Array Value) (ps : Array Tmp) (assign body : Code) (d : Nat) (st : LoopState) (pe : Option Code) : Loop := { state := st, pending := pe, fn, tmps, params := ps, assign, body, defers := d }
end Go.Proofs.YtniecghigmgbnaaDoor

