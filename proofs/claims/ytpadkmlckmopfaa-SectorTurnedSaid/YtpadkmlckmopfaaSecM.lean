/- SecM: directions, sectors and lights in plain words: no program. -/
import Derived.Test.YtpadkmlckmopfaaPlaneM
namespace Go.Proofs.Ytpadkmlckmopfaa.Se
open Go.RowKit
set_option linter.unusedVariables false

abbrev V := Int × Int
/-- A sector: from, to, color, range. -/
structure Sec where
  fx : Int
  fy : Int
  tx : Int
  ty : Int
  co : Int
  ra : Int
  deriving DecidableEq
def Sec.fr (s : Sec) : V := (s.fx, s.fy)
def Sec.to (s : Sec) : V := (s.tx, s.ty)
def zeroS : Sec := ⟨0, 0, 0, 0, 0, 0⟩
def orI (x y : Int) : Int := if x = 0 then y else x
def halfV (v : V) : Int := if 0 < v.2 ∨ (v.2 = 0 ∧ 0 < v.1) then 0 else 1
def crV (d e : V) : Int := d.1 * e.2 - d.2 * e.1
/-- How the angles of two directions compare. -/
def cmV (d e : V) : Int := orI (cmp (halfV d) (halfV e)) (cmp (crV e d) 0)
def hasV (f t v : V) : Bool :=
  if cmV f t < 0 then decide (cmV f v ≤ 0) && !decide (cmV t v ≤ 0) else decide (cmV f v ≤ 0) || !decide (cmV t v ≤ 0)
def hasS (s : Sec) (v : V) : Bool := hasV s.fr s.to v
def btB (n a b : Int) : Bool := decide (a ≤ n) && decide (n ≤ b)
def okD (v : V) : Bool := !decide (v = (0, 0)) && (btB v.1 (-1000000) 1000000 && btB v.2 (-1000000) 1000000)
/-- What a difference of places can be. -/
def okW (v : V) : Prop := v ≠ (0, 0) ∧ -2000000 ≤ v.1 ∧ v.1 ≤ 2000000 ∧ -2000000 ≤ v.2 ∧ v.2 ≤ 2000000
def vaS (s : Sec) : Bool := okD s.fr && (okD s.to && (btB s.co 1 3 && btB s.ra 1 3000000))
def ovS (s t : Sec) : Bool := hasS s t.fr || hasS t s.fr
def gs (l : List Sec) (i : Nat) : Sec := l.getD i zeroS
def gv (l : List V) (i : Nat) : V := l.getD i (0, 0)
def soK (l : List Sec) : Nat → Bool
  | 0 => true
  | k + 1 => soK l k && (vaS (gs l k) && !((l.take k).any fun t => ovS (gs l k) t))
def vaL (l : List Sec) : Bool := decide (l.length ≤ 12) && soK l l.length
/-- What a light shows in a direction: the first sector that has it. -/
def shL (l : List Sec) (v : V) : Int × Int :=
  match l.find? fun s => hasS s v with
  | some s => (s.co, s.ra)
  | none => (0, 0)
def tuL (l : List Sec) : List V := l.flatMap fun s => [s.fr, s.to]
def badV (a b : List Sec) (c : Int) (v : V) : Bool := decide ((shL a v).1 = c) && (!decide ((shL b v).1 = c) || decide ((shL b v).2 < (shL a v).2))
def hoL (a b : List Sec) (c : Int) : Bool := (tuL (a ++ b)).all fun v => !badV a b c v
def gcI (m n : Int) : Int := (Nat.gcd m.natAbs n.natAbs : Nat)
def leV (v : V) : V := (v.1.tdiv (gcI v.1 v.2), v.2.tdiv (gcI v.1 v.2))
def ltV (x y : V) : Bool := decide (cmV x y < 0)
def srV (l : List V) : List V := l.mergeSort fun x y => !ltV y x
/-- Of the turns s, those up to number k where what is shown changes. -/
def chK (l : List Sec) (s : List V) : Nat → List V
  | 0 => []
  | k + 1 => chK l s k ++ if shL l (gv s k) = shL l (gv s ((k + s.length - 1) % s.length)) then [] else [gv s k]
def chL (l : List Sec) : List V := chK l (srV ((tuL l).map leV)) (srV ((tuL l).map leV)).length
def keL (l : List Sec) : List V := if (chL l).length = 0 then [(1, 0)] else chL l
def mkS (f t : V) (c : Int × Int) : Sec := ⟨f.1, f.2, t.1, t.2, c.1, c.2⟩
def noK (l : List Sec) (s : List V) : Nat → List Sec
  | 0 => []
  | k + 1 => noK l s k ++ if shL l (gv s k) = (0, 0) then [] else [mkS (gv s k) (gv s ((k + 1) % s.length)) (shL l (gv s k))]
def noL (l : List Sec) : List Sec := noK l (keL l) (keL l).length

theorem btB_iff {n a b : Int} : btB n a b = true ↔ a ≤ n ∧ n ≤ b := by simp [btB]
theorem okD_iff {v : V} : okD v = true ↔ v ≠ (0, 0) ∧ (-1000000 ≤ v.1 ∧ v.1 ≤ 1000000) ∧ -1000000 ≤ v.2 ∧ v.2 ≤ 1000000 := by
  simp only [okD, Bool.and_eq_true, btB_iff, Bool.not_eq_true', decide_eq_false_iff_not]
theorem okD_W {v : V} (h : okD v = true) : okW v := by
  obtain ⟨h1, ⟨h2, h3⟩, h4, h5⟩ := okD_iff.1 h
  exact ⟨h1, by omega, by omega, by omega, by omega⟩
theorem vaS_iff {s : Sec} : vaS s = true ↔ okD s.fr = true ∧ okD s.to = true ∧ (1 ≤ s.co ∧ s.co ≤ 3) ∧ 1 ≤ s.ra ∧ s.ra ≤ 3000000 := by
  simp only [vaS, Bool.and_eq_true, btB_iff]
theorem mul_le4 {a b : Int} (h1 : -2000000 ≤ a) (h2 : a ≤ 2000000) (h3 : -2000000 ≤ b) (h4 : b ≤ 2000000) : -4000000000000 ≤ a * b ∧ a * b ≤ 4000000000000 := by
  have := mul_bd h1 h2 h3 h4
  omega
theorem crV_bd {d e : V} (hd : okW d) (he : okW e) : -8000000000000 ≤ crV d e ∧ crV d e ≤ 8000000000000 := by
  obtain ⟨_, a1, a2, a3, a4⟩ := hd
  obtain ⟨_, b1, b2, b3, b4⟩ := he
  have m1 := mul_le4 a1 a2 b3 b4
  have m2 := mul_le4 a3 a4 b1 b2
  unfold crV
  omega
theorem orI_bd {x y : Int} (hx : -1 ≤ x ∧ x ≤ 1) (hy : -1 ≤ y ∧ y ≤ 1) : -1 ≤ orI x y ∧ orI x y ≤ 1 := by unfold orI; split <;> omega

theorem cmp_cases (a b : Int) : (a < b ∧ cmp a b = -1) ∨ (a = b ∧ cmp a b = 0) ∨ (b < a ∧ cmp a b = 1) := by unfold cmp; split <;> (try split) <;> omega
theorem halfV_cases (v : V) : (halfV v = 0 ∧ (0 < v.2 ∨ (v.2 = 0 ∧ 0 < v.1))) ∨ (halfV v = 1 ∧ (v.2 < 0 ∨ (v.2 = 0 ∧ v.1 ≤ 0))) := by
  unfold halfV
  split <;> omega
theorem cmV_lt {d e : V} : cmV d e < 0 ↔ halfV d < halfV e ∨ (halfV d = halfV e ∧ crV e d < 0) := by
  unfold cmV orI
  rcases cmp_cases (halfV d) (halfV e) with ⟨h, q⟩ | ⟨h, q⟩ | ⟨h, q⟩ <;> rcases cmp_cases (crV e d) 0 with ⟨h', q'⟩ | ⟨h', q'⟩ | ⟨h', q'⟩ <;> rw [q, q'] <;> simp <;> omega
theorem cr_anti (d e : V) : crV e d = -crV d e := by simp only [crV]; grind
theorem cmV_anti (d e : V) : cmV e d = -cmV d e := by
  unfold cmV
  rw [cr_anti d e]
  unfold orI
  rcases cmp_cases (halfV d) (halfV e) with ⟨h, q⟩ | ⟨h, q⟩ | ⟨h, q⟩ <;> rcases cmp_cases (halfV e) (halfV d) with ⟨h1, q1⟩ | ⟨h1, q1⟩ | ⟨h1, q1⟩ <;> rcases cmp_cases (crV d e) 0 with ⟨h', q'⟩ | ⟨h', q'⟩ | ⟨h', q'⟩ <;> rcases cmp_cases (-crV d e) 0 with ⟨h2, q2⟩ | ⟨h2, q2⟩ | ⟨h2, q2⟩ <;> rw [q, q1, q', q2] <;> simp <;> omega
theorem cmV_bd (d e : V) : -1 ≤ cmV d e ∧ cmV d e ≤ 1 := orI_bd (cmp_bd _ _) (cmp_bd _ _)
theorem cmV_self (d : V) : cmV d d = 0 := by have := cmV_anti d d; omega
theorem cr_three (u v w : V) : v.2 * crV u w = u.2 * crV v w + w.2 * crV u v := by simp only [crV]; grind
theorem cr_three1 (u v w : V) : v.1 * crV u w = u.1 * crV v w + w.1 * crV u v := by simp only [crV]; grind
theorem pos_of_mul {a b : Int} (ha : 0 < a) (h : 0 ≤ a * b) : 0 ≤ b := by
  rcases Int.lt_or_le b 0 with hb | hb
  · have := Int.mul_neg_of_pos_of_neg ha hb; omega
  · exact hb
theorem neg_of_mul {a b : Int} (ha : a < 0) (h : a * b ≤ 0) : 0 ≤ b := by
  rcases Int.lt_or_le b 0 with hb | hb
  · have := Int.mul_pos_of_neg_of_neg ha hb; omega
  · exact hb
/-- Within the first half turn. -/
theorem cr_trans0 {u v w : V} (hu : halfV u = 0) (hv : halfV v = 0) (hw : halfV w = 0) (h1 : 0 ≤ crV u v) (h2 : 0 ≤ crV v w) : 0 ≤ crV u w := by
  have cu := halfV_cases u
  have cv := halfV_cases v
  have cw := halfV_cases w
  have e := cr_three u v w
  have hu2 : 0 ≤ u.2 := by omega
  have hw2 : 0 ≤ w.2 := by omega
  have p1 := Int.mul_nonneg hu2 h2
  have p2 := Int.mul_nonneg hw2 h1
  rcases Int.lt_or_le 0 v.2 with h | h
  · exact pos_of_mul h (by omega)
  · have hv2 : v.2 = 0 := by omega
    have hv1 : 0 < v.1 := by omega
    have hu0 : u.2 = 0 := by
      have : crV u v = -(u.2 * v.1) := by simp only [crV, hv2]; grind
      rcases Int.lt_or_le 0 u.2 with g | g
      · have := Int.mul_pos g hv1; omega
      · omega
    have : crV u w = u.1 * w.2 := by simp only [crV, hu0]; grind
    rw [this]
    exact Int.mul_nonneg (by omega) hw2
theorem halfV_neg {v : V} (h0 : v ≠ (0, 0)) : halfV (-v.1, -v.2) = 1 - halfV v := by
  have h1 : ¬ (v.1 = 0 ∧ v.2 = 0) := fun h => h0 (Prod.ext h.1 h.2)
  have a := halfV_cases v
  have b := halfV_cases (-v.1, -v.2)
  dsimp only at b
  omega
theorem cr_neg2 (u v : V) : crV (-u.1, -u.2) (-v.1, -v.2) = crV u v := by simp only [crV]; grind
theorem cr_trans {u v w : V} (u0 : u ≠ (0, 0)) (v0 : v ≠ (0, 0)) (w0 : w ≠ (0, 0)) (huv : halfV u = halfV v) (hvw : halfV v = halfV w) (h1 : 0 ≤ crV u v) (h2 : 0 ≤ crV v w) : 0 ≤ crV u w := by
  have cu := halfV_cases u
  rcases cu with ⟨cu, _⟩ | ⟨cu, _⟩
  · exact cr_trans0 cu (by omega) (by omega) h1 h2
  · rw [← cr_neg2 u w]
    exact cr_trans0 (by rw [halfV_neg u0]; omega) (by rw [halfV_neg v0]; omega) (by rw [halfV_neg w0]; omega) (by rw [cr_neg2]; exact h1) (by rw [cr_neg2]; exact h2)
/-- The angles of directions are in order. -/
theorem cmV_trans {u v w : V} (u0 : u ≠ (0, 0)) (v0 : v ≠ (0, 0)) (w0 : w ≠ (0, 0)) (h1 : cmV u v ≤ 0) (h2 : cmV v w ≤ 0) : cmV u w ≤ 0 := by
  have a : ¬ cmV v u < 0 := by have := cmV_anti u v; omega
  have b : ¬ cmV w v < 0 := by have := cmV_anti v w; omega
  have c : ¬ cmV w u < 0 := by
    rw [cmV_lt] at *
    rintro (h | ⟨h, g⟩)
    · have := halfV_cases u; have := halfV_cases v; have := halfV_cases w; omega
    · have hh : halfV u = halfV v ∧ halfV v = halfV w := by omega
      have := cr_trans u0 v0 w0 hh.1 hh.2 (by omega) (by omega)
      omega
  have := cmV_anti w u
  omega

end Go.Proofs.Ytpadkmlckmopfaa.Se
