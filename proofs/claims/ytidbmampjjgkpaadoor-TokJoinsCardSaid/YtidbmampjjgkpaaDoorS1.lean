import Derived.Test.YtidbmampjjgkpaaDoorQ0
import Derived.Test.YtidbmampjjgkpaaDoorA
import Derived.WalkKit
import Derived.ProofKit
import Derived.OpenShut
import Derived.Handy
import Derived.BigQuiet
import Derived.Lib.Hide
import Derived.WalkLawsBesides
namespace Go.Proofs.YtidbmampjjgkpaaDoor
open Go.RowKit
/-- A text with a sign ahead and one behind. -/
def quote (s : ByteArray) : ByteArray := (⟨#[39]⟩ ++ s) ++ ⟨#[39]⟩
theorem show_s (n : Int) (s : ByteArray) (w : World) (hs : s.size ≤ 9223372036854775800) : Calls Tryd.prog 24 #[.agg #[.int .i64 3, .int .i64 n, .string s]] w (Ret (.string (quote s)) w) := by
  go_enter Tryd.func24, Tryd.ntmps24
  go_wp2


  go_returns
  exact ⟨rfl, by repeat' (first | (with_reducible exact Below.refl _ _) | (with_reducible assumption) | (with_reducible refine Below.alloc ?_ ?_ _) | (with_reducible refine Below.drew ?_) | (with_reducible refine belowN ?_ _) | (with_reducible refine Below.setCell ?_ ?_ _) | (with_reducible refine belowG ?_ ?_) | (with_reducible refine le_sizeG ?_) | go_size | (simp [go_sem]; done))⟩
end Go.Proofs.YtidbmampjjgkpaaDoor
