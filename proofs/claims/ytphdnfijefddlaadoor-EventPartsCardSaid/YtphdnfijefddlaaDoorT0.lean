import Derived.Test.YtphdnfijefddlaaDoorLX
import Derived.Test.YtphdnfijefddlaaDoorQ0
import Derived.WalkKit
import Derived.ProofKit
import Derived.OpenShut
import Derived.Handy
import Derived.BigQuiet
import Derived.Lib.Hide
import Derived.WalkLawsBesides
namespace Go.Proofs.YtphdnfijefddlaaDoor
open Go.RowKit
theorem dropK (t : ByteArray) (k : Nat) (h : k < t.size) : t.data.toList.drop k = t[k] :: t.data.toList.drop (k + 1) := by
  rw [List.drop_eq_getElem_cons (by simpa using h)]
  rfl
def SpanTo (p : List UInt8 → Bool) (s : ByteArray) (a k : Nat) : Prop := a + spanL p (s.data.toList.drop a) = k + spanL p (s.data.toList.drop k)
theorem span_step (p : List UInt8 → Bool) (s : ByteArray) (a k : Nat) (hk : k < s.size) (hp : p (s.data.toList.drop k) = true) (h : SpanTo p s a k) : SpanTo p s a (k + 1) := by
  unfold SpanTo at *
  rw [h]
  rw [dropK s k hk] at hp ⊢
  rw [span_yes hp]
  omega
theorem span_stop (p : List UInt8 → Bool) (s : ByteArray) (a k : Nat) (hk : k < s.size) (hp : p (s.data.toList.drop k) = false) (h : SpanTo p s a k) : a + spanL p (s.data.toList.drop a) = k := by
  unfold SpanTo at *
  rw [h]
  rw [dropK s k hk] at hp ⊢
  rw [span_no hp]
  omega
theorem span_end (p : List UInt8 → Bool) (s : ByteArray) (a k : Nat) (hk : ¬ k < s.size) (h : SpanTo p s a k) : a + spanL p (s.data.toList.drop a) = k := by
  unfold SpanTo at *
  rw [h, List.drop_of_length_le (by simp; omega)]
  rfl
end Go.Proofs.YtphdnfijefddlaaDoor

