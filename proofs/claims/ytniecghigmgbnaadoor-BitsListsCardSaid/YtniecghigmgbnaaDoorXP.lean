/- Plain: what is read between parentheses is what is read alone: the same nodes, further behind. No program. -/
import Derived.Test.YtniecghigmgbnaaDoorXG
import Derived.Test.YtniecghigmgbnaaDoorLA
namespace Go.Proofs.YtniecghigmgbnaaDoor
/-! ### Tokens -/
/-- What a reader sees of a token. -/
def key (t : Tk) : Int × List UInt8 × Int := (t.k, t.s, t.n)
/-! ### The reader within parentheses -/
section
variable {T ts : List Tk} {o w0 : Nat} {N : List Nd} {P : List Nat} {W : List Int}
end
end Go.Proofs.YtniecghigmgbnaaDoor

