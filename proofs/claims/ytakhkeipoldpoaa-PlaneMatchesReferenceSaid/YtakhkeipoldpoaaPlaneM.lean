/- Plain facts on places, for the proofs over package plane: no program. -/
import Derived.WalkKit
namespace Go.Proofs.Ytakhkeipoldpoaa
open Go.RowKit

/-- A valid place. -/
def ok (x y : Int) : Prop := -1000000 ≤ x ∧ x ≤ 1000000 ∧ -1000000 ≤ y ∧ y ≤ 1000000
instance (x y : Int) : Decidable (ok x y) := by unfold ok; exact inferInstance
/-- A valid distance. -/
def okd (d : Int) : Prop := 0 ≤ d ∧ d ≤ 3000000
instance (d : Int) : Decidable (okd d) := by unfold okd; exact inferInstance
def okB (x y : Int) : Bool := decide (ok x y)
def okdB (d : Int) : Bool := decide (okd d)

/-- What a call of this program leaves: its value, and nothing of old memory has turned. -/
def Ret (w : World) (v : Value) (e : Ending) (w' : World) : Prop := e = .returned v ∧ Below w.heap.size w w'

theorem bcell {W w1 : World} {B : Nat} (hb : Below B W w1) : (∀ b o, b < B → w1.cell? ⟨b, o, none⟩ = W.cell? ⟨b, o, none⟩) ∧ (∀ b o, b < B → w1.frozen? ⟨b, o, none⟩ = W.frozen? ⟨b, o, none⟩) :=
  ⟨fun b o h => hb.cell (p := ⟨b, o, none⟩) h, fun b o h => hb.frozen (p := ⟨b, o, none⟩) h⟩

/-- Two calls one behind the other. -/
theorem bjoin {a b c : World} {B : Nat} (h : Below B a b) (hB : B ≤ b.heap.size) (k : Below b.heap.size b c) : Below B a c := h.trans (k.mono hB)

theorem ret_int {w w' : World} {k : IntKind} {a b : Int} (h : a = b) (hb : Below w.heap.size w w') : Ret w (.int k b) (.returned (.int k a)) w' := ⟨by rw [h], hb⟩
theorem ret_bool {w w' : World} {a b : Bool} (h : a = true ↔ b = true) (hb : Below w.heap.size w w') : Ret w (.bool b) (.returned (.bool a)) w' := ⟨by rw [Bool.eq_iff_iff.2 h], hb⟩
theorem ret_bool2 {w w' : World} {a b : Bool} {x : Value} (h : a = true ↔ b = true) (hb : Below w.heap.size w w') : Ret w (.tuple #[.bool b, x]) (.returned (.tuple #[.bool a, x])) w' := ⟨by rw [Bool.eq_iff_iff.2 h], hb⟩
/-- A call that leaves the world as it was. -/
def Same (w : World) (v : Value) (e : Ending) (w' : World) : Prop := e = .returned v ∧ w = w'
theorem same_int {w : World} {k : IntKind} {a b : Int} (h : a = b) : Same w (.int k b) (.returned (.int k a)) w := ⟨by rw [h], rfl⟩
theorem same_bool {w : World} {a b : Bool} (h : a = true ↔ b = true) : Same w (.bool b) (.returned (.bool a)) w := ⟨by rw [Bool.eq_iff_iff.2 h], rfl⟩
theorem okB_iff {x y : Int} : okB x y = true ↔ ok x y := by simp [okB]
theorem okdB_iff {d : Int} : okdB d = true ↔ okd d := by simp [okdB]

theorem bstep {w a b : World} (h : Below w.heap.size w a) (k : Below a.heap.size a b) : Below w.heap.size w b := h.trans (k.mono h.size)
theorem balloc {w a : World} (h : Below w.heap.size w a) (o : Obj) : Below w.heap.size w (a.alloc o) := h.alloc h.size o

def cross (a1 a2 b1 b2 c1 c2 : Int) : Int := (b1 - a1) * (c2 - a2) - (b2 - a2) * (c1 - a1)
def dot (a1 a2 b1 b2 c1 c2 : Int) : Int := (b1 - a1) * (c1 - a1) + (b2 - a2) * (c2 - a2)
def sq (a1 a2 b1 b2 : Int) : Int := dot a1 a2 b1 b2 b1 b2
/-- Go's cmp.Compare. -/
def cmp (a b : Int) : Int := if a < b then -1 else if b < a then 1 else 0
def turn (a1 a2 b1 b2 c1 c2 : Int) : Int := cmp (cross a1 a2 b1 b2 c1 c2) 0
def between (n a b : Int) : Bool := decide (min a b ≤ n) && decide (n ≤ max a b)

theorem cmp_bd (a b : Int) : -1 ≤ cmp a b ∧ cmp a b ≤ 1 := by
  unfold cmp
  repeat' split
  all_goals omega
theorem mul_bd {a b A B : Int} (h1 : -A ≤ a) (h2 : a ≤ A) (h3 : -B ≤ b) (h4 : b ≤ B) : -(A * B) ≤ a * b ∧ a * b ≤ A * B := by
  have p1 : 0 ≤ (A - a) * (B + b) := Int.mul_nonneg (by omega) (by omega)
  have p2 : 0 ≤ (A + a) * (B - b) := Int.mul_nonneg (by omega) (by omega)
  have p3 : 0 ≤ (A - a) * (B - b) := Int.mul_nonneg (by omega) (by omega)
  have p4 : 0 ≤ (A + a) * (B + b) := Int.mul_nonneg (by omega) (by omega)
  have e1 : (A - a) * (B + b) = A * B + A * b - a * B - a * b := by rw [Int.sub_mul, Int.mul_add, Int.mul_add]; omega
  have e2 : (A + a) * (B - b) = A * B - A * b + a * B - a * b := by rw [Int.add_mul, Int.mul_sub, Int.mul_sub]; omega
  have e3 : (A - a) * (B - b) = A * B - A * b - a * B + a * b := by rw [Int.sub_mul, Int.mul_sub, Int.mul_sub]; omega
  have e4 : (A + a) * (B + b) = A * B + A * b + a * B + a * b := by rw [Int.add_mul, Int.mul_add, Int.mul_add]; omega
  omega

/-- The product of two differences of coordinates. -/
theorem dd_bd {a b c d : Int} (h1 : -2000000 ≤ a - b) (h2 : a - b ≤ 2000000) (h3 : -2000000 ≤ c - d) (h4 : c - d ≤ 2000000) : -4000000000000 ≤ (a - b) * (c - d) ∧ (a - b) * (c - d) ≤ 4000000000000 := by
  have := mul_bd h1 h2 h3 h4
  omega

theorem cross_bd (a1 a2 b1 b2 c1 c2 : Int) (ha : ok a1 a2) (hb : ok b1 b2) (hc : ok c1 c2) : -8000000000000 ≤ cross a1 a2 b1 b2 c1 c2 ∧ cross a1 a2 b1 b2 c1 c2 ≤ 8000000000000 := by
  unfold cross ok at *
  have m1 := dd_bd (a := b1) (b := a1) (c := c2) (d := a2) (by omega) (by omega) (by omega) (by omega)
  have m2 := dd_bd (a := b2) (b := a2) (c := c1) (d := a1) (by omega) (by omega) (by omega) (by omega)
  omega
theorem dot_bd (a1 a2 b1 b2 c1 c2 : Int) (ha : ok a1 a2) (hb : ok b1 b2) (hc : ok c1 c2) : -8000000000000 ≤ dot a1 a2 b1 b2 c1 c2 ∧ dot a1 a2 b1 b2 c1 c2 ≤ 8000000000000 := by
  unfold dot ok at *
  have m1 := dd_bd (a := b1) (b := a1) (c := c1) (d := a1) (by omega) (by omega) (by omega) (by omega)
  have m2 := dd_bd (a := b2) (b := a2) (c := c2) (d := a2) (by omega) (by omega) (by omega) (by omega)
  omega
theorem sq_nn (x : Int) : 0 ≤ x * x := by
  rcases Int.le_total 0 x with h | h
  · exact Int.mul_nonneg h h
  · exact Int.mul_nonneg_of_nonpos_of_nonpos h h
theorem sq_bd (a1 a2 b1 b2 : Int) (ha : ok a1 a2) (hb : ok b1 b2) : 0 ≤ sq a1 a2 b1 b2 ∧ sq a1 a2 b1 b2 ≤ 8000000000000 := by
  have h := dot_bd a1 a2 b1 b2 b1 b2 ha hb hb
  have p := sq_nn (b1 - a1)
  have q := sq_nn (b2 - a2)
  unfold sq
  unfold dot at *
  omega

end Go.Proofs.Ytakhkeipoldpoaa
