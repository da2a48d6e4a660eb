/- SnapWords: closed facts of its row. -/
import Derived.Test.YtfgpmcepppcmiaaGreatDoorCards
import Derived.Test.YtfgpmcepppcmiaaGreatDoorTie
import Derived.Test.YtfgpmcepppcmiaaGreatDoorZ1
namespace Go.Proofs.YtfgpmcepppcmiaaGreatDoor
namespace cardSnapWords
open Go.ChangeShapes Go.WideShapes Go.ChangeAt Go.RowKit
open Go.ChangeMaps (open_string)
set_option maxHeartbeats 8000000 in
theorem facts:joinedFacts Tryz.pinned.checked.prog 6 Tryz.f6 (OpenSpec.ofChange Rows.snapWordsSpec).bare Rows.snapWordsRow = true:=by
 unfold joinedFacts
 repeat' (with_reducible refine (Bool.and_eq_true _ _).mpr ⟨?_,?_⟩)
 all_goals
  as_aux_lemma=>kernel_rfl
end cardSnapWords
end Go.Proofs.YtfgpmcepppcmiaaGreatDoor
