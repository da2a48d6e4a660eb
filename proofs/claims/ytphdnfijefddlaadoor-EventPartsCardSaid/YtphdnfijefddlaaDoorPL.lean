/- Plain: where a line's tokens stand. No program. -/
import Derived.Test.YtphdnfijefddlaaDoorT4
import Derived.WalkKit
namespace Go.Proofs.YtphdnfijefddlaaDoor
/-- A token as it stands in a line. -/
def fullT (k : Int) (s : List UInt8) : List UInt8 := if k = 4 then 39 :: (s ++ [39]) else s
def blankT (l : List UInt8) : Prop := ∀ c ∈ l, ((c.toNat : Int) == 32) = true
/-- The tokens stand one behind the other, from p on, with nothing but blanks between. -/
def PlacesT (l : List UInt8) : Nat → List Tk → Prop
  | p, [] => blankT (l.drop p)
  | p, t :: r => p ≤ t.a ∧ blankT ((l.drop p).take (t.a - p)) ∧ (l.drop t.a).take (fullT t.k t.s).length = fullT t.k t.s ∧ t.a + (fullT t.k t.s).length ≤ l.length ∧ PlacesT l (t.a + (fullT t.k t.s).length) r
end Go.Proofs.YtphdnfijefddlaaDoor

