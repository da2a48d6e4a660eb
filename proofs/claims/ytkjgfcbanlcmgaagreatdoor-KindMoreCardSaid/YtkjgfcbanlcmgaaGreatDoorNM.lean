/- Plain: names, and the words that mean something. No program. -/
import Derived.Test.YtkjgfcbanlcmgaaGreatDoorZ7
import Derived.Test.YtkjgfcbanlcmgaaGreatDoorZ6
import Derived.Test.YtkjgfcbanlcmgaaGreatDoorZ1
import Derived.WalkKit
import Derived.ProofKit
import Derived.OpenShut
import Derived.Handy
import Derived.BigQuiet
import Derived.Lib.Hide
import Derived.Deep.DeepCutAuto
import Derived.Lib.ItoaNum
import Derived.Lib.Strings
import Derived.WalkLawsBesides
namespace Go.Proofs.YtkjgfcbanlcmgaaGreatDoor
/-- The kind of the one token that a line is; 0: it is none. -/
def aloneK (l : List UInt8) : Int :=
  match lexT 120 0 l with
  | .ok [t] => if t.s = l then t.k else 0
  | _ => 0
def words : List (List UInt8) := [[99, 104, 97, 114, 116], [118, 97, 114], [115, 116, 97, 116, 101], [112, 97, 114, 97, 108, 108, 101, 108], [102, 105, 110, 97, 108], [100, 101, 101, 112], [115, 104, 97, 108, 108, 111, 119],
  [101, 110, 116, 101, 114], [101, 120, 105, 116], [111, 110], [97, 117, 116, 111], [101, 110, 100], [105, 102], [103, 111], [105, 110, 110, 101, 114], [100, 111],
  [115, 101, 116], [114, 97, 105, 115, 101], [115, 101, 110, 100], [99, 97, 110, 99, 101, 108], [108, 111, 103], [116, 114, 117, 101], [102, 97, 108, 115, 101], [110, 111, 116], [97, 110, 100], [111, 114], [105, 110]]
def meansB (l : List UInt8) : Bool := words.contains l
theorem aloneK_err {l : List UInt8} {x : Int × Nat} (h : lexT 120 0 l = .error x) : aloneK l = 0 := by unfold aloneK; rw [h]
theorem aloneK_more {l : List UInt8} {ts : List Tk} (h : lexT 120 0 l = .ok ts) (hn : ts.length ≠ 1) : aloneK l = 0 := by
  unfold aloneK
  rw [h]
  match ts, hn with
  | [], _ => rfl
  | [_], h => exact absurd rfl h
  | _ :: _ :: _, _ => rfl
theorem aloneK_one {l : List UInt8} {t : Tk} (h : lexT 120 0 l = .ok [t]) : aloneK l = if t.s = l then t.k else 0 := by unfold aloneK; rw [h]
end Go.Proofs.YtkjgfcbanlcmgaaGreatDoor

