/- EventDone: closed facts of its row. -/
import Derived.Test.YtphdnfijefddlaaDoorCards
import Derived.Test.YtphdnfijefddlaaDoorTie
import Derived.Test.YtphdnfijefddlaaDoorLW
namespace Go.Proofs.YtphdnfijefddlaaDoor
namespace cardEventDone
open Go.ChangeShapes Go.WideShapes Go.ChangeAt Go.RowKit
open Go.ChangeMaps (open_string)

set_option maxHeartbeats 8000000 in
theorem facts : joinedFacts Tryd.pinned.checked.prog 4 Tryd.f4 (OpenSpec.ofChange Rows.eventDoneSpec).bare Rows.eventDoneRow = true := by
  unfold joinedFacts
  repeat' (with_reducible refine (Bool.and_eq_true _ _).mpr ⟨?_, ?_⟩)
  all_goals
    as_aux_lemma => kernel_rfl
end cardEventDone
end Go.Proofs.YtphdnfijefddlaaDoor
