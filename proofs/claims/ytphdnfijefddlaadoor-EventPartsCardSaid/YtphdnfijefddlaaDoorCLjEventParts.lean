/- EventParts: closed facts of its row. -/
import Derived.Test.YtphdnfijefddlaaDoorCards
import Derived.Test.YtphdnfijefddlaaDoorTie
import Derived.Test.YtphdnfijefddlaaDoorLW
namespace Go.Proofs.YtphdnfijefddlaaDoor
namespace cardEventParts
open Go.ChangeShapes Go.WideShapes Go.ChangeAt Go.RowKit
open Go.ChangeMaps (open_string)

set_option maxHeartbeats 8000000 in
theorem facts : joinedFacts Tryd.pinned.checked.prog 3 Tryd.f3 (OpenSpec.ofChange Rows.eventPartsSpec).bare Rows.eventPartsRow = true := by
  unfold joinedFacts
  repeat' (with_reducible refine (Bool.and_eq_true _ _).mpr ⟨?_, ?_⟩)
  all_goals
    as_aux_lemma => kernel_rfl
end cardEventParts
end Go.Proofs.YtphdnfijefddlaaDoor
