/- Segments that meet, that are close: the walks; the exported functions of package plane. -/
import Derived.Test.YtpadkmlckmopfaaPlaneE
import Derived.Test.YtpadkmlckmopfaaPlaneF
namespace Go.Proofs.Ytpadkmlckmopfaa
open Go.RowKit

def crossB (a1 a2 b1 b2 c1 c2 d1 d2 : Int) : Bool := decide (turn a1 a2 b1 b2 c1 c2 * turn a1 a2 b1 b2 d1 d2 < 0)
def meetB (a1 a2 b1 b2 c1 c2 d1 d2 : Int) : Bool := (crossB a1 a2 b1 b2 c1 c2 d1 d2 && crossB c1 c2 d1 d2 a1 a2 b1 b2) || anyOn a1 a2 b1 b2 c1 c2 d1 d2

end Go.Proofs.Ytpadkmlckmopfaa
