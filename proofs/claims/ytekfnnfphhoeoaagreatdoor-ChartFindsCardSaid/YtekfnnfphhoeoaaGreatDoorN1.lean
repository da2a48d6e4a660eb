import Derived.Test.YtekfnnfphhoeoaaGreatDoorTN
import Derived.Test.YtekfnnfphhoeoaaGreatDoorY1
import Derived.Test.YtekfnnfphhoeoaaGreatDoorZ6
import Derived.Test.YtekfnnfphhoeoaaGreatDoorZ4
import Derived.Test.YtekfnnfphhoeoaaGreatDoorZ7
import Derived.WalkKit
import Derived.ProofKit
import Derived.OpenShut
import Derived.Handy
import Derived.BigQuiet
import Derived.Lib.Hide
import Derived.WalkSmall
import Derived.WalkLawsBesides
import Derived.OwnWalk
import Derived.Deep.AppendLies
namespace Go.Proofs.YtekfnnfphhoeoaaGreatDoor
open Go.RowKit
def evB (l : List UInt8) : Bool := aloneK l == 1 || aloneK l == 2
theorem tevent_any (s : ByteArray) (hs : s.size ≤ 140737488351232) (w : World) (hw : Lb w) : Calls Tryz.prog 184 #[.string s] w (Ret (.bool (evB s.data.toList)) w) := by
  have T := Lib.hid (fun wx h => talone_any s hs wx (lb_below hw h))
  unfold evB
  generalize aloneK s.data.toList = k at *
  clear hw
  rcases h1 : (k == 1) <;> rcases h2 : (k == 2)
  all_goals
    go_enter Tryz.func184, Tryz.ntmps184
    go_wp2_with ((with_reducible refine (T.out _ (by repeat' (first | (with_reducible exact Below.refl _ _) | (with_reducible assumption) | (with_reducible refine Below.alloc ?_ ?_ _) | (with_reducible refine Below.drew ?_) | (with_reducible refine belowN ?_ _) | (with_reducible refine Below.setCell ?_ ?_ _) | (with_reducible refine belowG ?_ ?_) | (with_reducible exact Nat.le_refl _) | (with_reducible refine le_sizeG ?_) | (with_reducible refine le_sizeA ?_) | (with_reducible refine le_sizeC ?_) | (with_reducible refine le_sizeD ?_) | (with_reducible refine le_sizeN ?_) | go_size | (simp [go_sem]; done)))).mono ?_); intro e w1 hr; obtain ⟨rfl, p, rfl⟩ := hr.out; clear hr)
    all_goals
      go_returns
      exact ⟨rfl, by repeat' (first | (with_reducible exact Below.refl _ _) | (with_reducible assumption) | (with_reducible refine Below.alloc ?_ ?_ _) | (with_reducible refine Below.drew ?_) | (with_reducible refine belowN ?_ _) | (with_reducible refine Below.setCell ?_ ?_ _) | (with_reducible refine belowG ?_ ?_) | (with_reducible exact Nat.le_refl _) | (with_reducible refine le_sizeG ?_) | (with_reducible refine le_sizeA ?_) | (with_reducible refine le_sizeC ?_) | (with_reducible refine le_sizeD ?_) | (with_reducible refine le_sizeN ?_) | go_size | (simp [go_sem]; done))⟩
end Go.Proofs.YtekfnnfphhoeoaaGreatDoor

