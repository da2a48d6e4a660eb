import Derived.Test.YtniecghigmgbnaaDoorQ0
import Derived.Test.YtniecghigmgbnaaDoorChecked
import Derived.Test.YtniecghigmgbnaaDoorG0
import Derived.Test.YtniecghigmgbnaaDoorNum
import Derived.WalkKit
import Derived.ProofKit
import Derived.OpenShut
import Derived.Handy
import Derived.BigQuiet
import Derived.Lib.Hide
import Derived.WalkLawsBesides
import Derived.Deep.DeepCutAuto
import Derived.Lib.ItoaNum
import Derived.Lib.Strings
namespace Go.Proofs.YtniecghigmgbnaaDoor
open Go.RowKit
theorem ret_str {a b : ByteArray} (h : a = b) : Ending.returned (.string a) = .returned (.string b) := by rw [h]
/-- One byte as a text. -/
theorem conv_one (W : World) (d : Int) : (convert 56 9 (.slice (some ⟨W.heap.size, 0, none⟩) 1 1)).run Tryd.prog (W.alloc (.cells #[.int .u8 d] 5)) =
    .ok (.string ⟨#[UInt8.ofNat d.toNat]⟩) (W.alloc (.cells #[.int .u8 d] 5)) := by
  rw [run_convert_bytes_string _ _ _ _ _ _ _ Tryd.underlying56 Tryd.underlying5 Tryd.underlying9]
  rw [run_bytesToString _ _ _ _ [d] (by simp [loadCells, go_sem])]
  rfl
end Go.Proofs.YtniecghigmgbnaaDoor

