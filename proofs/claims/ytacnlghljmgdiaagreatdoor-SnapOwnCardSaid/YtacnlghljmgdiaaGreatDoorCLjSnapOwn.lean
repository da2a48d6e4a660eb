/- SnapOwn: closed facts of its row. -/
import Derived.Test.YtacnlghljmgdiaaGreatDoorCards
import Derived.Test.YtacnlghljmgdiaaGreatDoorTie
import Derived.Test.YtacnlghljmgdiaaGreatDoorZ1
namespace Go.Proofs.YtacnlghljmgdiaaGreatDoor
namespace cardSnapOwn
open Go.ChangeShapes Go.WideShapes Go.ChangeAt Go.RowKit
open Go.ChangeMaps (open_string)
set_option maxHeartbeats 8000000 in
theorem facts:joinedFacts Tryz.pinned.checked.prog 5 Tryz.f5 (OpenSpec.ofChange Rows.snapOwnSpec).bare Rows.snapOwnRow = true:=by
 unfold joinedFacts
 repeat' (with_reducible refine (Bool.and_eq_true _ _).mpr ⟨?_,?_⟩)
 all_goals
  as_aux_lemma=>kernel_rfl
end cardSnapOwn
end Go.Proofs.YtacnlghljmgdiaaGreatDoor
