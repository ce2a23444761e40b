/- SpanN: flags of the exported functions. -/
import Derived.Test.YtemogomligbgiaaSpanM

namespace Go.Proofs.Ytemogomligbgiaa.Sp
open Go.RowKit
set_option linter.unusedSimpArgs false
set_option linter.unusedVariables false

def vAdd (s1 s2 t1 t2 : Int) : Bool := vE 1000000000000 s1 s2 && vE 1000000000000 t1 t2
def rAdd (s1 s2 t1 t2 : Int) : Bool := vE 1000000000000 (s1 + t1) (s2 + t2)
def vSub (s1 s2 t1 t2 : Int) : Bool := vE 1000000000000 s1 s2 && vE 1000000000000 t1 t2
def rSub (s1 s2 t1 t2 : Int) : Bool := vE 1000000000000 (s1 - t2) (s2 - t1)
def vScale (s1 s2 n d : Int) : Bool := vE 1000000000000 s1 s2 && kS n d
def rScale (s1 s2 n d : Int) : Bool := vE 1000000000000 (dn (min (s1 * n) (s2 * n)) d) (upd (max (s1 * n) (s2 * n)) d)
def vMeet (s1 s2 t1 t2 : Int) : Bool := vE 1000000000000 s1 s2 && vE 1000000000000 t1 t2
def rMeet (s1 s2 t1 t2 : Int) : Bool := rM s1 s2 t1 t2
def vJoin (s1 s2 t1 t2 : Int) : Bool := vE 1000000000000 s1 s2 && vE 1000000000000 t1 t2
def vWithin (s1 s2 t1 t2 : Int) : Bool := vE 1000000000000 s1 s2 && vE 1000000000000 t1 t2
def vMeetBox (a1 a2 a3 a4 b1 b2 b3 b4 : Int) : Bool := vB a1 a2 a3 a4 && vB b1 b2 b3 b4
def rMeetBox (a1 a2 a3 a4 b1 b2 b3 b4 : Int) : Bool := rM a1 a2 b1 b2 && rM a3 a4 b3 b4
def vJoinBox (a1 a2 a3 a4 b1 b2 b3 b4 : Int) : Bool := vB a1 a2 a3 a4 && vB b1 b2 b3 b4
def vWithinBox (a1 a2 a3 a4 b1 b2 b3 b4 : Int) : Bool := vB a1 a2 a3 a4 && vB b1 b2 b3 b4
def vInBox (p1 p2 b1 b2 b3 b4 : Int) : Bool := vB p1 p1 p2 p2 && vB b1 b2 b3 b4
def vGrowBox (b1 b2 b3 b4 n : Int) : Bool := vB b1 b2 b3 b4 && decide (0 ≤ n) && decide (n ≤ 3000000)
def rGrowBox (b1 b2 b3 b4 n : Int) : Bool := vB (b1 - n) (b2 + n) (b3 - n) (b4 + n)

end Go.Proofs.Ytemogomligbgiaa.Sp
