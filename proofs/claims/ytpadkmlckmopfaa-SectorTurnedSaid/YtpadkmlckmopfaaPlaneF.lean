/- Are the ends of two segments near the other one? The walks. -/
import Derived.Test.YtpadkmlckmopfaaPlaneC
import Derived.Test.YtpadkmlckmopfaaPlaneD
namespace Go.Proofs.Ytpadkmlckmopfaa
open Go.RowKit

/-- Is a place at most d away from a segment? -/
def nearB (p1 p2 a1 a2 b1 b2 d : Int) : Bool := decide (cmpDist p1 p2 a1 a2 b1 b2 d ≤ 0)
/-- Is one of the ends of two segments at most d away from the other one? -/
def anyNear (a1 a2 b1 b2 c1 c2 d1 d2 d : Int) : Bool := nearB a1 a2 c1 c2 d1 d2 d || nearB c1 c2 a1 a2 b1 b2 d || nearB b1 b2 c1 c2 d1 d2 d || nearB d1 d2 a1 a2 b1 b2 d

end Go.Proofs.Ytpadkmlckmopfaa
