/- A text that came in: its size is at most the reach. -/
import Derived.Test.YtphdnfijefddlaaChecked
import Derived.WalkKit
import Derived.ProofKit
import Derived.OpenShut
namespace Go.Proofs.Ytphdnfijefddlaa
open Go.RowKit
theorem str_reach {H : Type} {s : ByteArray} (hz : ((DataW.lit (.string s.data.toList) : DataW H).weights Try.prog 9).all (· ≤ reachBytes) = true) : s.size ≤ 140737488351232 := by
  rw [DataW.weights] at hz
  simp only [List.all_cons, Bool.and_eq_true] at hz
  have h : s.data.toList.length ≤ reachBytes := of_decide_eq_true hz.1
  rw [Array.length_toList] at h
  exact h
end Go.Proofs.Ytphdnfijefddlaa

