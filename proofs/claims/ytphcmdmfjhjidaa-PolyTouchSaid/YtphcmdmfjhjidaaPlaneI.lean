/- The exported functions Lies and Close of package plane: the walks. -/
import Derived.Test.YtphcmdmfjhjidaaPlaneH
import Derived.Deep.DeepCutAuto
namespace Go.Proofs.Ytphcmdmfjhjidaa
open Go.RowKit

def lieB (p1 p2 k q1 q2 l : Int) : Bool := decide (k ≤ l) && decide (sq p1 p2 q1 q2 ≤ (l - k) * (l - k))
def closeB (a1 a2 b1 b2 c1 c2 d1 d2 r : Int) : Bool := meetB a1 a2 b1 b2 c1 c2 d1 d2 || anyNear a1 a2 b1 b2 c1 c2 d1 d2 r

end Go.Proofs.Ytphcmdmfjhjidaa
