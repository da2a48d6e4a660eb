/- Plain: a line's tokens, joined, are the same tokens again. No program. -/
import Derived.Test.YtphdnfijefddlaaDoorPL
import Derived.Test.YtphdnfijefddlaaDoorT2
import Derived.WalkKit
import Derived.ProofKit
import Derived.OpenShut
import Derived.Handy
import Derived.BigQuiet
import Derived.Lib.Hide
import Derived.WalkSmall
import Derived.Deep.MidRow
import Derived.WalkLawsBesides
namespace Go.Proofs.YtphdnfijefddlaaDoor
/-- What may stand behind a token: nothing, or a blank. -/
def Behind (r : List UInt8) : Prop := r = [] ∨ ∃ q, r = 32 :: q
/-- Tokens as a line. -/
def joinT : List Tk → List UInt8
  | [] => []
  | [t] => fullT t.k t.s
  | t :: r => fullT t.k t.s ++ 32 :: joinT r
theorem join_length : ∀ (l : List UInt8) (p : Nat) (ts : List Tk), p ≤ l.length → PlacesT l p ts → (joinT ts).length + p ≤ l.length + ts.length
  | l, p, [], hp, _ => by simp [joinT]; exact hp
  | l, p, [t], hp, h => by
    obtain ⟨h1, _, _, h4, _⟩ := h
    simp [joinT]; omega
  | l, p, t :: u :: r, hp, h => by
    obtain ⟨h1, _, _, h4, h5⟩ := h
    have ih := join_length l _ (u :: r) h4 h5
    show (fullT t.k t.s ++ 32 :: joinT (u :: r)).length + p ≤ _
    rw [List.length_append, List.length_cons, List.length_cons]
    omega
end Go.Proofs.YtphdnfijefddlaaDoor

