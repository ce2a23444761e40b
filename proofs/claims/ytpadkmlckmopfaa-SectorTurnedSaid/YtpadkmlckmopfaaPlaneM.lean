/- Plain facts on places, for the proofs over package plane: no program. -/
import Derived.Test.YtpadkmlckmopfaaBase
namespace Go.Proofs.Ytpadkmlckmopfaa
open Go.RowKit

/-- A valid place. -/
def ok (x y : Int) : Prop := -1000000 ≤ x ∧ x ≤ 1000000 ∧ -1000000 ≤ y ∧ y ≤ 1000000
instance (x y : Int) : Decidable (ok x y) := by unfold ok; exact inferInstance
/-- A valid distance. -/
def okd (d : Int) : Prop := 0 ≤ d ∧ d ≤ 3000000
instance (d : Int) : Decidable (okd d) := by unfold okd; exact inferInstance
def okB (x y : Int) : Bool := decide (ok x y)
def okdB (d : Int) : Bool := decide (okd d)

theorem okB_iff {x y : Int} : okB x y = true ↔ ok x y := by simp [okB]
theorem okdB_iff {d : Int} : okdB d = true ↔ okd d := by simp [okdB]

def cross (a1 a2 b1 b2 c1 c2 : Int) : Int := (b1 - a1) * (c2 - a2) - (b2 - a2) * (c1 - a1)
def dot (a1 a2 b1 b2 c1 c2 : Int) : Int := (b1 - a1) * (c1 - a1) + (b2 - a2) * (c2 - a2)
def sq (a1 a2 b1 b2 : Int) : Int := dot a1 a2 b1 b2 b1 b2
/-- Go's cmp.Compare. -/
def cmp (a b : Int) : Int := if a < b then -1 else if b < a then 1 else 0
def turn (a1 a2 b1 b2 c1 c2 : Int) : Int := cmp (cross a1 a2 b1 b2 c1 c2) 0
def between (n a b : Int) : Bool := decide (min a b ≤ n) && decide (n ≤ max a b)

theorem cmp_bd (a b : Int) : -1 ≤ cmp a b ∧ cmp a b ≤ 1 := by
  unfold cmp
  repeat' split
  all_goals omega
/-- The product of two differences of coordinates. -/
theorem dd_bd {a b c d : Int} (h1 : -2000000 ≤ a - b) (h2 : a - b ≤ 2000000) (h3 : -2000000 ≤ c - d) (h4 : c - d ≤ 2000000) : -4000000000000 ≤ (a - b) * (c - d) ∧ (a - b) * (c - d) ≤ 4000000000000 := by
  have := mul_bd h1 h2 h3 h4
  omega

theorem cross_bd (a1 a2 b1 b2 c1 c2 : Int) (ha : ok a1 a2) (hb : ok b1 b2) (hc : ok c1 c2) : -8000000000000 ≤ cross a1 a2 b1 b2 c1 c2 ∧ cross a1 a2 b1 b2 c1 c2 ≤ 8000000000000 := by
  unfold cross ok at *
  have m1 := dd_bd (a := b1) (b := a1) (c := c2) (d := a2) (by omega) (by omega) (by omega) (by omega)
  have m2 := dd_bd (a := b2) (b := a2) (c := c1) (d := a1) (by omega) (by omega) (by omega) (by omega)
  omega
theorem dot_bd (a1 a2 b1 b2 c1 c2 : Int) (ha : ok a1 a2) (hb : ok b1 b2) (hc : ok c1 c2) : -8000000000000 ≤ dot a1 a2 b1 b2 c1 c2 ∧ dot a1 a2 b1 b2 c1 c2 ≤ 8000000000000 := by
  unfold dot ok at *
  have m1 := dd_bd (a := b1) (b := a1) (c := c1) (d := a1) (by omega) (by omega) (by omega) (by omega)
  have m2 := dd_bd (a := b2) (b := a2) (c := c2) (d := a2) (by omega) (by omega) (by omega) (by omega)
  omega
theorem sq_bd (a1 a2 b1 b2 : Int) (ha : ok a1 a2) (hb : ok b1 b2) : 0 ≤ sq a1 a2 b1 b2 ∧ sq a1 a2 b1 b2 ≤ 8000000000000 := by
  have h := dot_bd a1 a2 b1 b2 b1 b2 ha hb hb
  have p := sq_nn (b1 - a1)
  have q := sq_nn (b2 - a2)
  unfold sq
  unfold dot at *
  omega

end Go.Proofs.Ytpadkmlckmopfaa
