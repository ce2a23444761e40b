/- The ends of two segments, asked by a function value: the walks. -/
import Derived.Test.YtpadkmlckmopfaaPlaneC
import Derived.Test.YtpadkmlckmopfaaPlaneD
namespace Go.Proofs.Ytpadkmlckmopfaa
open Go.RowKit

/-- Is one of the ends of two segments on the other one? -/
def anyOn (a1 a2 b1 b2 c1 c2 d1 d2 : Int) : Bool := on a1 a2 c1 c2 d1 d2 || on c1 c2 a1 a2 b1 b2 || on b1 b2 c1 c2 d1 d2 || on d1 d2 a1 a2 b1 b2

end Go.Proofs.Ytpadkmlckmopfaa
