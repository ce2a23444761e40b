/- What package plane does with segments: the walks. -/
import Derived.Test.YtpadkmlckmopfaaPlaneA
import Derived.RegionTactic
import Derived.ChangeAlike
import Derived.BigRegion
import Derived.Deep.RegionHeld3
import Derived.Deep.RegionWith
import Derived.Outline
namespace Go.Proofs.Ytpadkmlckmopfaa
open Go.RowKit

def on (p1 p2 a1 a2 b1 b2 : Int) : Bool := decide (turn a1 a2 b1 b2 p1 p2 = 0) && between p1 a1 b1 && between p2 a2 b2

end Go.Proofs.Ytpadkmlckmopfaa
