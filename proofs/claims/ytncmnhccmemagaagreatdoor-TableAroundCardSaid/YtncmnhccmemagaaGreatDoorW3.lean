/- Several texts of this proof, joined: RS. -/
import Derived.Test.YtncmnhccmemagaaGreatDoorQ1
namespace Go.Proofs.YtncmnhccmemagaaGreatDoor
def stAt (c:Ch) (k:Nat):St:=c.states.getD k st0
section
variable {c:Ch}
end
end Go.Proofs.YtncmnhccmemagaaGreatDoor
