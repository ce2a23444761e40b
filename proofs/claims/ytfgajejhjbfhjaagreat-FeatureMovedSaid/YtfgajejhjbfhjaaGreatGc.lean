/- GeoK: parity. -/
import Derived.Test.YtfgajejhjbfhjaaGreatPolO
import Derived.Test.YtfgajejhjbfhjaaGreatGb
import Derived.Test.YtfgajejhjbfhjaaGreatRows
import Derived.WalkKit
import Derived.WalkSpells
import Derived.WalkLawsBesides
import Derived.Lib.Hide
import Derived.Deep.QuietTactic
import Derived.BigQuiet
import Derived.RegionTactic
import Derived.ChangeAlike
import Derived.BigRegion
import Derived.Deep.RegionHeld3
import Derived.Deep.RegionWith
import Derived.Outline
section
namespace Go.Proofs.YtfgajejhjbfhjaaGreat.Po
open Go.RowKit
set_option linter.unusedSimpArgs false
set_option linter.unusedVariables false

theorem mpp {x y : Int} (hx : 0 ≤ x) (hy : 0 ≤ y) : 0 ≤ x * y := Int.mul_nonneg hx hy
theorem mpn {x y : Int} (hx : 0 ≤ x) (hy : y ≤ 0) : x * y ≤ 0 := Int.mul_nonpos_of_nonneg_of_nonpos hx hy
theorem mnp {x y : Int} (hx : x ≤ 0) (hy : 0 ≤ y) : x * y ≤ 0 := by rw [Int.mul_comm]; exact mpn hy hx
theorem mnn {x y : Int} (hx : x ≤ 0) (hy : y ≤ 0) : 0 ≤ x * y := Int.mul_nonneg_of_nonpos_of_nonpos hx hy
theorem ge_of {n x : Int} (hn : 0 < n) (h : 0 ≤ n * x) : 0 ≤ x := by
  by_cases k : x < 0
  · have := Int.mul_neg_of_pos_of_neg hn k
    omega
  · omega
theorem le_of {n x : Int} (hn : 0 < n) (h : n * x ≤ 0) : x ≤ 0 := by
  by_cases k : 0 < x
  · have := Int.mul_pos hn k
    omega
  · omega
theorem gt_of {n x : Int} (hn : 0 ≤ n) (h : 0 < n * x) : 0 < x := by
  by_cases k : 0 < x
  · exact k
  · have := mpn (x := n) (y := x) (by omega) (by omega)
    omega
theorem lt_of {n x : Int} (hn : 0 ≤ n) (h : n * x < 0) : x < 0 := by
  by_cases k : x < 0
  · exact k
  · have := mpp (x := n) (y := x) (by omega) (by omega)
    omega

/-- Where two segments lie that have nothing in common: how their heights go with their turns. -/
theorem signs {a u b v A B U V D : Int} (hab : a ≤ b) (huv : u ≤ v) (d1 : D = A - B) (d2 : D = V - U)
    (y1 : (v - u) * (-U) = (a - u) * D + (b - a) * A) (y2 : (v - u) * V = (v - b) * A - (v - a) * B)
    (n : ¬ (A * B ≤ 0 ∧ U * V ≤ 0 ∧ D ≠ 0)) :
    ((decide (u ≤ a) && decide (a < v) && decide (0 < A)) ^^ (decide (u ≤ b) && decide (b < v) && decide (0 < B))) =
    ((decide (a < u) && decide (u ≤ b) && decide (U < 0)) ^^ (decide (a < v) && decide (v ≤ b) && decide (V < 0))) := by
  have t1 : (v - b) * A - (v - a) * B = (v - b) * D - (b - a) * B := by subst d1; grind
  by_cases c1 : u ≤ a ∧ a < v
  · obtain ⟨c1, c1'⟩ := c1
    by_cases c2 : b < v
    · -- both within
      have e : (0 < A) ↔ (0 < B) := by
        constructor
        · intro hA
          by_cases hB : 0 < B
          · exact hB
          · exfalso
            have p1 := mpp (x := a - u) (y := D) (by omega) (by omega)
            have p2 := mpp (x := b - a) (y := A) (by omega) (by omega)
            have p3 := mpp (x := v - b) (y := A) (by omega) (by omega)
            have p4 := mpn (x := v - a) (y := B) (by omega) (by omega)
            have hU := ge_of (n := v - u) (x := -U) (by omega) (by omega)
            have hV := ge_of (n := v - u) (x := V) (by omega) (by omega)
            exact n ⟨mpn (by omega) (by omega), mnp (by omega) (by omega), by omega⟩
        · intro hB
          by_cases hA : 0 < A
          · exact hA
          · exfalso
            have p1 := mpn (x := a - u) (y := D) (by omega) (by omega)
            have p2 := mpn (x := b - a) (y := A) (by omega) (by omega)
            have p3 := mpn (x := v - b) (y := A) (by omega) (by omega)
            have p4 := mpp (x := v - a) (y := B) (by omega) (by omega)
            have hU := le_of (n := v - u) (x := -U) (by omega) (by omega)
            have hV := le_of (n := v - u) (x := V) (by omega) (by omega)
            exact n ⟨mnp (by omega) (by omega), mpn (by omega) (by omega), by omega⟩
      have g1 : decide (a < u) = false := by simp; omega
      have g2 : decide (v ≤ b) = false := by simp; omega
      have g3 : decide (u ≤ b) = true := by simp; omega
      simp [c1, c1', c2, g1, g2, g3, e]
    · -- a before v, b not
      have e : (0 < A) ↔ (V < 0) := by
        constructor
        · intro hA
          by_cases hV : V < 0
          · exact hV
          · exfalso
            have p3 := mnp (x := v - b) (y := A) (by omega) (by omega)
            have p5 := mpp (x := v - u) (y := V) (by omega) (by omega)
            have hB := le_of (n := v - a) (x := B) (by omega) (by omega)
            have p1 := mpp (x := a - u) (y := D) (by omega) (by omega)
            have p2 := mpp (x := b - a) (y := A) (by omega) (by omega)
            have hU := ge_of (n := v - u) (x := -U) (by omega) (by omega)
            exact n ⟨mpn (by omega) (by omega), mnp (by omega) (by omega), by omega⟩
        · intro hV
          by_cases hA : 0 < A
          · exact hA
          · exfalso
            have p3 := mnn (x := v - b) (y := A) (by omega) (by omega)
            have p5 := Int.mul_neg_of_pos_of_neg (a := v - u) (b := V) (by omega) (by omega)
            have hB := gt_of (n := v - a) (x := B) (by omega) (by omega)
            have p1 := mpn (x := a - u) (y := D) (by omega) (by omega)
            have p2 := mpn (x := b - a) (y := A) (by omega) (by omega)
            have hU := le_of (n := v - u) (x := -U) (by omega) (by omega)
            exact n ⟨mnp (by omega) (by omega), mpn (by omega) (by omega), by omega⟩
      have g1 : decide (a < u) = false := by simp; omega
      have g2 : decide (v ≤ b) = true := by simp; omega
      simp [c1, c1', c2, g1, g2, e]
  · by_cases c2 : u ≤ b ∧ a < v
    · have c3 : a < u := by omega
      obtain ⟨c2, c2'⟩ := c2
      by_cases c4 : b < v
      · have e : (0 < B) ↔ (U < 0) := by
          constructor
          · intro hB
            by_cases hU : U < 0
            · exact hU
            · exfalso
              -- (v-u)(-U) = (a-u)(A-B) + (b-a)A = (b-u)A - (a-u)B
              have t2 : (a - u) * D + (b - a) * A = (b - u) * A - (a - u) * B := by subst d1; grind
              have p1 := mnp (x := a - u) (y := B) (by omega) (by omega)
              have p2 := mpn (x := v - u) (y := -U) (by omega) (by omega)
              have hq : (a - u) * B < 0 := Int.mul_neg_of_neg_of_pos (by omega) hB
              have hA := lt_of (n := b - u) (x := A) (by omega) (by omega)
              have p3 := mpn (x := v - b) (y := A) (by omega) (by omega)
              have p4 := mpp (x := v - a) (y := B) (by omega) (by omega)
              have hV := le_of (n := v - u) (x := V) (by omega) (by omega)
              exact n ⟨mnp (by omega) (by omega), mpn (by omega) (by omega), by omega⟩
          · intro hU
            by_cases hB : 0 < B
            · exact hB
            · exfalso
              have t2 : (a - u) * D + (b - a) * A = (b - u) * A - (a - u) * B := by subst d1; grind
              have p1 := mnn (x := a - u) (y := B) (by omega) (by omega)
              have p2 := Int.mul_pos (a := v - u) (b := -U) (by omega) (by omega)
              have hA := gt_of (n := b - u) (x := A) (by omega) (by omega)
              have p3 := mpp (x := v - b) (y := A) (by omega) (by omega)
              have p4 := mpn (x := v - a) (y := B) (by omega) (by omega)
              have hV := ge_of (n := v - u) (x := V) (by omega) (by omega)
              exact n ⟨mpn (by omega) (by omega), mnp (by omega) (by omega), by omega⟩
        have g1 : decide (u ≤ a) = false := by simp; omega
        have g2 : decide (v ≤ b) = false := by simp; omega
        simp [c2, c2', c3, c4, g1, g2, e]
      · have e : (U < 0) ↔ (V < 0) := by
          have y3 : (b - a) * A = (u - a) * D - (v - u) * U := by
            have : (v - u) * (-U) = - ((v - u) * U) := by grind
            have : (u - a) * D = - ((a - u) * D) := by grind
            omega
          have y4 : (b - a) * B = (b - u) * (-D) - (v - u) * U := by
            have e1 : (b - a) * B = (b - a) * A - (b - a) * D := by subst d1; grind
            have e2 : (u - a) * D - (b - a) * D = (b - u) * (-D) := by grind
            omega
          constructor
          · intro hU
            by_cases hV : V < 0
            · exact hV
            · exfalso
              have p1 := mpp (x := u - a) (y := D) (by omega) (by omega)
              have p2 := mpn (x := v - u) (y := U) (by omega) (by omega)
              have hA := ge_of (n := b - a) (x := A) (by omega) (by omega)
              have e5 : (b - u) * (-D) - (v - u) * U = (b - v) * (-D) - (v - u) * V := by subst d2; grind
              have p3 := mpn (x := b - v) (y := -D) (by omega) (by omega)
              have p4 := mpp (x := v - u) (y := V) (by omega) (by omega)
              have hB := le_of (n := b - a) (x := B) (by omega) (by omega)
              exact n ⟨mpn (by omega) (by omega), mnp (by omega) (by omega), by omega⟩
          · intro hV
            by_cases hU : U < 0
            · exact hU
            · exfalso
              have p1 := mpn (x := u - a) (y := D) (by omega) (by omega)
              have p2 := mpp (x := v - u) (y := U) (by omega) (by omega)
              have hA := le_of (n := b - a) (x := A) (by omega) (by omega)
              have e5 : (b - u) * (-D) - (v - u) * U = (b - v) * (-D) - (v - u) * V := by subst d2; grind
              have p3 := mpp (x := b - v) (y := -D) (by omega) (by omega)
              have p4 := mpn (x := v - u) (y := V) (by omega) (by omega)
              have hB := ge_of (n := b - a) (x := B) (by omega) (by omega)
              exact n ⟨mnp (by omega) (by omega), mpn (by omega) (by omega), by omega⟩
        have g1 : decide (u ≤ a) = false := by simp; omega
        have g2 : decide (b < v) = false := by simp; omega
        have g3 : decide (v ≤ b) = true := by simp; omega
        simp [c2, c2', c3, g1, g2, g3, e]
    · by_cases c5 : u ≤ b
      · have g1 : decide (a < v) = false := by simp; omega
        have g2 : decide (b < v) = decide (b < v) := rfl
        by_cases c6 : b < v
        · omega
        · have g4 : decide (b < v) = false := by simp; omega
          by_cases c7 : a < u
          · omega
          · have g5 : decide (a < u) = false := by simp; omega
            simp [g1, g4, g5]
      · have g1 : decide (u ≤ a) = false := by simp; omega
        have g2 : decide (u ≤ b) = false := by simp; omega
        have g3 : decide (v ≤ b) = false := by simp; omega
        simp [g1, g2, g3]

theorem w_on {p1 p2 a1 a2 b1 b2 : Int} (i j n : Int) (hi : 0 ≤ i) (hj : 0 ≤ j) (hn : n = i + j) (hp : 0 < n) (e1 : n * p1 = i * a1 + j * b1) (e2 : n * p2 = i * a2 + j * b2) : on p1 p2 a1 a2 b1 b2 = true := by
  rw [← near_zero]
  exact near_w p1 p2 a1 a2 b1 b2 0 i j n hi hj hn hp (by rw [e1, e2]; simp)
theorem meet_w {a1 a2 b1 b2 u1 u2 v1 v2 : Int} (hA : cross u1 u2 v1 v2 a1 a2 * cross u1 u2 v1 v2 b1 b2 ≤ 0) (hU : cross a1 a2 b1 b2 u1 u2 * cross a1 a2 b1 b2 v1 v2 ≤ 0)
    (hD : cross u1 u2 v1 v2 a1 a2 - cross u1 u2 v1 v2 b1 b2 ≠ 0) : meetB a1 a2 b1 b2 u1 u2 v1 v2 = true := by
  have d : cross u1 u2 v1 v2 a1 a2 - cross u1 u2 v1 v2 b1 b2 = cross a1 a2 b1 b2 v1 v2 - cross a1 a2 b1 b2 u1 u2 := by unfold cross; grind
  have x1 : (v1 - u1) * (-(cross a1 a2 b1 b2 u1 u2)) = (a1 - u1) * (cross u1 u2 v1 v2 a1 a2 - cross u1 u2 v1 v2 b1 b2) + (b1 - a1) * cross u1 u2 v1 v2 a1 a2 := by unfold cross; grind
  have x2 : (v2 - u2) * (-(cross a1 a2 b1 b2 u1 u2)) = (a2 - u2) * (cross u1 u2 v1 v2 a1 a2 - cross u1 u2 v1 v2 b1 b2) + (b2 - a2) * cross u1 u2 v1 v2 a1 a2 := by unfold cross; grind
  unfold meetB
  by_cases h1 : cross a1 a2 b1 b2 u1 u2 * cross a1 a2 b1 b2 v1 v2 < 0 ∧ cross u1 u2 v1 v2 a1 a2 * cross u1 u2 v1 v2 b1 b2 < 0
  · rw [(crossB_iff _ _ _ _ _ _ _ _).2 h1.1, (crossB_iff _ _ _ _ _ _ _ _).2 h1.2]
    rfl
  · suffices h : anyOn a1 a2 b1 b2 u1 u2 v1 v2 = true by rw [h]; simp
    generalize cross u1 u2 v1 v2 a1 a2 = A at *
    generalize cross u1 u2 v1 v2 b1 b2 = B at *
    generalize cross a1 a2 b1 b2 u1 u2 = U at *
    generalize cross a1 a2 b1 b2 v1 v2 = V at *
    have hz : A = 0 ∨ B = 0 ∨ U = 0 ∨ V = 0 := by
      have : A * B = 0 ∨ U * V = 0 := by omega
      rcases this with h | h
      · rcases Int.mul_eq_zero.1 h with h | h <;> simp [h]
      · rcases Int.mul_eq_zero.1 h with h | h <;> simp [h]
    have sU : (0 < A - B ∧ U ≤ 0 ∧ 0 ≤ V) ∨ (A - B < 0 ∧ V ≤ 0 ∧ 0 ≤ U) := by
      by_cases hp : 0 < A - B
      · left
        refine ⟨hp, ?_, ?_⟩
        · by_cases hu : U ≤ 0
          · exact hu
          · have := Int.mul_pos (a := U) (b := V) (by omega) (by omega); omega
        · by_cases hv : 0 ≤ V
          · exact hv
          · have := Int.mul_pos_of_neg_of_neg (a := U) (b := V) (by omega) (by omega); omega
      · right
        refine ⟨by omega, ?_, ?_⟩
        · by_cases hv : V ≤ 0
          · exact hv
          · have := Int.mul_pos (a := U) (b := V) (by omega) (by omega); omega
        · by_cases hu : 0 ≤ U
          · exact hu
          · have := Int.mul_pos_of_neg_of_neg (a := U) (b := V) (by omega) (by omega); omega
    have sA : (0 < A - B → 0 ≤ A ∧ B ≤ 0) ∧ (A - B < 0 → A ≤ 0 ∧ 0 ≤ B) := by
      refine ⟨fun hp => ⟨?_, ?_⟩, fun hp => ⟨?_, ?_⟩⟩
      · by_cases hu : 0 ≤ A
        · exact hu
        · have := Int.mul_pos_of_neg_of_neg (a := A) (b := B) (by omega) (by omega); omega
      · by_cases hu : B ≤ 0
        · exact hu
        · have := Int.mul_pos (a := A) (b := B) (by omega) (by omega); omega
      · by_cases hu : A ≤ 0
        · exact hu
        · have := Int.mul_pos (a := A) (b := B) (by omega) (by omega); omega
      · by_cases hu : 0 ≤ B
        · exact hu
        · have := Int.mul_pos_of_neg_of_neg (a := A) (b := B) (by omega) (by omega); omega
    unfold anyOn
    rcases hz with h | h | h | h
    · have : on a1 a2 u1 u2 v1 v2 = true := by
        rcases sU with ⟨hp, hu, hv⟩ | ⟨hp, hv, hu⟩
        · exact w_on V (-U) (A - B) hv (by omega) (by omega) hp (by subst h; grind) (by subst h; grind)
        · exact w_on (-V) U (B - A) (by omega) hu (by omega) (by omega) (by subst h; grind) (by subst h; grind)
      simp [this]
    · have : on b1 b2 u1 u2 v1 v2 = true := by
        rcases sU with ⟨hp, hu, hv⟩ | ⟨hp, hv, hu⟩
        · exact w_on V (-U) (A - B) hv (by omega) (by omega) hp (by subst h; grind) (by subst h; grind)
        · exact w_on (-V) U (B - A) (by omega) hu (by omega) (by omega) (by subst h; grind) (by subst h; grind)
      simp [this]
    · have : on u1 u2 a1 a2 b1 b2 = true := by
        rcases Int.lt_or_gt_of_ne hD with hp | hp
        · obtain ⟨k1, k2⟩ := sA.2 hp
          exact w_on B (-A) (B - A) k2 (by omega) (by omega) (by omega) (by subst h; grind) (by subst h; grind)
        · obtain ⟨k1, k2⟩ := sA.1 hp
          exact w_on (-B) A (A - B) (by omega) k1 (by omega) (by omega) (by subst h; grind) (by subst h; grind)
      simp [this]
    · have : on v1 v2 a1 a2 b1 b2 = true := by
        rcases Int.lt_or_gt_of_ne hD with hp | hp
        · obtain ⟨k1, k2⟩ := sA.2 hp
          exact w_on B (-A) (B - A) k2 (by omega) (by omega) (by omega) (by subst h; grind) (by subst h; grind)
        · obtain ⟨k1, k2⟩ := sA.1 hp
          exact w_on (-B) A (A - B) (by omega) k1 (by omega) (by omega) (by subst h; grind) (by subst h; grind)
      simp [this]
/-- A corner lies left of a rising segment, at a height of it. -/
def lft (a b p : Pt) : Bool := decide (a.2 < p.2) && decide (p.2 ≤ b.2) && decide (cross a.1 a.2 b.1 b.2 p.1 p.2 < 0)
theorem tu_pos {a b q : Pt} : (0 < tu a b q) ↔ 0 < cross a.1 a.2 b.1 b.2 q.1 q.2 := by
  unfold tu turn cmp
  split
  · omega
  · split <;> omega
theorem paE_up {q u v : Pt} (h : u.2 ≤ v.2) : paE q u v = (decide (u.2 ≤ q.2) && decide (q.2 < v.2) && decide (0 < cross u.1 u.2 v.1 v.2 q.1 q.2)) := by
  unfold paE
  rw [if_neg (by omega)]
  simp only [tu_pos]
theorem paE_sym (q u v : Pt) : paE q u v = paE q v u := by
  rw [Bool.eq_iff_iff, paE_iff, paE_iff]
  omega
theorem par0 {a b u v : Pt} (hab : a.2 ≤ b.2) (huv : u.2 ≤ v.2) (n : meP a b u v = false) : (paE a u v ^^ paE b u v) = (lft a b u ^^ lft a b v) := by
  rw [paE_up huv, paE_up huv]
  unfold lft
  refine signs (D := cross u.1 u.2 v.1 v.2 a.1 a.2 - cross u.1 u.2 v.1 v.2 b.1 b.2) hab huv rfl (by unfold cross; grind) (by unfold cross; grind) (by unfold cross; grind) ?_
  rintro ⟨h1, h2, h3⟩
  have := meet_w h1 h2 h3
  unfold meP at n
  rw [this] at n
  cases n
theorem par1 {a b u v : Pt} (hab : a.2 ≤ b.2) (n : meP a b u v = false) : (paE a u v ^^ paE b u v) = (lft a b u ^^ lft a b v) := by
  by_cases huv : u.2 ≤ v.2
  · exact par0 hab huv n
  · have n' : meP a b v u = false := by
      unfold meP at n ⊢
      rw [meet_swap, meet_flip, meet_swap]
      exact n
    rw [paE_sym a u v, paE_sym b u v, par0 hab (by omega) n', Bool.xor_comm]
def parK (q : Pt) (l : List Pt) (k : Nat) : Bool := (List.range k).foldl (fun b i => b != paE q (gp l i) (nx l i)) false
theorem parK_succ (q : Pt) (l : List Pt) (k : Nat) : parK q l (k + 1) = (parK q l k ^^ paE q (gp l k) (nx l k)) := by
  unfold parK
  rw [List.range_succ, List.foldl_append]
  simp
theorem par_steps {a b : Pt} {l : List Pt} (hab : a.2 ≤ b.2) (n : ∀ i, i < l.length → meP a b (gp l i) (nx l i) = false) (k : Nat) (hk : k ≤ l.length) :
    (parK a l k ^^ parK b l k) = (lft a b (gp l 0) ^^ lft a b (gp l (k % l.length))) := by
  induction k with
  | zero => simp [parK]
  | succ k ih =>
    have h := ih (by omega)
    rw [Nat.mod_eq_of_lt (by omega)] at h
    have e := par1 hab (n k (by omega))
    rw [parK_succ, parK_succ, show gp l ((k + 1) % l.length) = nx l k from rfl]
    revert h e
    cases parK a l k <;> cases parK b l k <;> cases paE a (gp l k) (nx l k) <;> cases paE b (gp l k) (nx l k) <;> cases lft a b (gp l 0) <;> cases lft a b (gp l k) <;> cases lft a b (nx l k) <;> simp
theorem par_eq0 {a b : Pt} {l : List Pt} (hab : a.2 ≤ b.2) (n : ∀ i, i < l.length → meP a b (gp l i) (nx l i) = false) : parK a l l.length = parK b l l.length := by
  have h := par_steps hab n l.length (Nat.le_refl _)
  rw [Nat.mod_self] at h
  revert h
  cases parK a l l.length <;> cases parK b l l.length <;> simp
/-- A segment that meets no edge: as many edges pass east of the one end as of the other, but for an even number. -/
theorem par_eq {a b : Pt} {l : List Pt} (n : ∀ i, i < l.length → meP a b (gp l i) (nx l i) = false) : parK a l l.length = parK b l l.length := by
  by_cases hab : a.2 ≤ b.2
  · exact par_eq0 hab n
  · refine (par_eq0 (a := b) (b := a) (by omega) fun i hi => ?_).symm
    have := n i hi
    unfold meP at this ⊢
    rw [meet_flip]
    exact this
theorem siL_par (q : Pt) (l : List Pt) : siL q l = if ((List.range l.length).any fun i => onP q (gp l i) (nx l i)) = true then 0 else if parK q l l.length = true then 1 else -1 := rfl
theorem geo_inside {a b : Pt} {l : List Pt} (h : siL a l * siL b l = -1) : ((List.range l.length).any fun i => meP a b (gp l i) (nx l i)) = true := by
  cases hm : (List.range l.length).any fun i => meP a b (gp l i) (nx l i)
  · exfalso
    have n : ∀ i, i < l.length → meP a b (gp l i) (nx l i) = false := fun i hi => by
      rw [List.any_eq_false] at hm
      simpa using hm i (List.mem_range.2 hi)
    have e := par_eq n
    rw [siL_par, siL_par, e] at h
    revert h
    split <;> split <;> (try split) <;> simp
  · rfl

end Go.Proofs.YtfgajejhjbfhjaaGreat.Po
end

section
namespace Go.Proofs.YtfgajejhjbfhjaaGreat.Po
open Go.RowKit
set_option linter.unusedSimpArgs false
set_option linter.unusedVariables false

theorem cmp_lt0 {x y : Int} : cmp x y < 0 ↔ x < y := by
  unfold cmp
  split
  · omega
  · split <;> omega
theorem lt_iff (p1 p2 a1 a2 b1 b2 d : Int) : cmpDist p1 p2 a1 a2 b1 b2 d < 0 ↔
    (((a1 = b1 ∧ a2 = b2) ∨ dot a1 a2 b1 b2 p1 p2 < 0) → sq a1 a2 p1 p2 < d * d) ∧
    (¬ ((a1 = b1 ∧ a2 = b2) ∨ dot a1 a2 b1 b2 p1 p2 < 0) → sq a1 a2 b1 b2 < dot a1 a2 b1 b2 p1 p2 → sq b1 b2 p1 p2 < d * d) ∧
    (¬ ((a1 = b1 ∧ a2 = b2) ∨ dot a1 a2 b1 b2 p1 p2 < 0) → ¬ sq a1 a2 b1 b2 < dot a1 a2 b1 b2 p1 p2 → cross a1 a2 b1 b2 p1 p2 * cross a1 a2 b1 b2 p1 p2 < d * d * sq a1 a2 b1 b2) := by
  unfold cmpDist
  by_cases h1 : (a1 = b1 ∧ a2 = b2) ∨ dot a1 a2 b1 b2 p1 p2 < 0
  · rw [if_pos h1, cmp_lt0]
    exact ⟨fun h => ⟨fun _ => h, fun k => absurd h1 k, fun k => absurd h1 k⟩, fun h => h.1 h1⟩
  · rw [if_neg h1]
    by_cases h2 : sq a1 a2 b1 b2 < dot a1 a2 b1 b2 p1 p2
    · rw [if_pos h2, cmp_lt0]
      exact ⟨fun h => ⟨fun k => absurd k h1, fun _ _ => h, fun _ k => absurd h2 k⟩, fun h => h.2.1 h1 h2⟩
    · rw [if_neg h2, cmp_lt0]
      exact ⟨fun h => ⟨fun k => absurd k h1, fun _ k => absurd k h2, fun _ _ => h⟩, fun h => h.2.2 h1 h2⟩
theorem near_w_lt (p1 p2 a1 a2 b1 b2 d i j n : Int) (hi : 0 ≤ i) (hj : 0 ≤ j) (hn : n = i + j) (hp : 0 < n)
    (h : (n * p1 - (i * a1 + j * b1)) * (n * p1 - (i * a1 + j * b1)) + (n * p2 - (i * a2 + j * b2)) * (n * p2 - (i * a2 + j * b2)) < n * n * (d * d)) : cmpDist p1 p2 a1 a2 b1 b2 d < 0 := by
  have hnn : 0 < n * n := Int.mul_pos hp hp
  rw [lt_iff]
  refine ⟨fun k => Int.lt_of_mul_lt_mul_left (Int.lt_of_le_of_lt ?_ h) (Int.le_of_lt hnn), fun _ k => Int.lt_of_mul_lt_mul_left (Int.lt_of_le_of_lt ?_ h) (Int.le_of_lt hnn), fun k1 _ => Int.lt_of_mul_lt_mul_left ?_ (Int.le_of_lt hnn)⟩
  · have e : (n * p1 - (i * a1 + j * b1)) * (n * p1 - (i * a1 + j * b1)) + (n * p2 - (i * a2 + j * b2)) * (n * p2 - (i * a2 + j * b2)) = n * n * sq a1 a2 p1 p2 - 2 * (n * j * dot a1 a2 b1 b2 p1 p2) + j * j * sq a1 a2 b1 b2 := by
      subst hn; unfold sq dot; grind
    have g : 0 ≤ j * j * sq a1 a2 b1 b2 := Int.mul_nonneg (Int.mul_nonneg hj hj) (sq_nonneg a1 a2 b1 b2)
    have g2 : n * j * dot a1 a2 b1 b2 p1 p2 ≤ 0 := by
      rcases k with ⟨rfl, rfl⟩ | k
      · have : dot a1 a2 a1 a2 p1 p2 = 0 := by unfold dot; simp
        rw [this]; simp
      · exact Int.mul_nonpos_of_nonneg_of_nonpos (Int.mul_nonneg (by omega) hj) (by omega)
    omega
  · have e : (n * p1 - (i * a1 + j * b1)) * (n * p1 - (i * a1 + j * b1)) + (n * p2 - (i * a2 + j * b2)) * (n * p2 - (i * a2 + j * b2)) = n * n * sq b1 b2 p1 p2 + 2 * (n * i * (dot a1 a2 b1 b2 p1 p2 - sq a1 a2 b1 b2)) + i * i * sq a1 a2 b1 b2 := by
      subst hn; unfold sq dot; grind
    have g : 0 ≤ i * i * sq a1 a2 b1 b2 := Int.mul_nonneg (Int.mul_nonneg hi hi) (sq_nonneg a1 a2 b1 b2)
    have g2 : 0 ≤ n * i * (dot a1 a2 b1 b2 p1 p2 - sq a1 a2 b1 b2) := Int.mul_nonneg (Int.mul_nonneg (by omega) hi) (by omega)
    omega
  · have hN : 0 < sq a1 a2 b1 b2 := sq_pos a1 a2 b1 b2 (fun h => k1 (.inl h))
    have h' := Int.mul_lt_mul_of_pos_left h hN
    have e : sq a1 a2 b1 b2 * ((n * p1 - (i * a1 + j * b1)) * (n * p1 - (i * a1 + j * b1)) + (n * p2 - (i * a2 + j * b2)) * (n * p2 - (i * a2 + j * b2))) =
        n * n * (cross a1 a2 b1 b2 p1 p2 * cross a1 a2 b1 b2 p1 p2) + (n * dot a1 a2 b1 b2 p1 p2 - j * sq a1 a2 b1 b2) * (n * dot a1 a2 b1 b2 p1 p2 - j * sq a1 a2 b1 b2) := by
      subst hn; unfold sq dot cross; grind
    have g := sq_nn (n * dot a1 a2 b1 b2 p1 p2 - j * sq a1 a2 b1 b2)
    have e2 : n * n * (d * d * sq a1 a2 b1 b2) = sq a1 a2 b1 b2 * (n * n * (d * d)) := by grind
    omega
theorem ap_mono {p1 p2 a1 a2 b1 b2 r s : Int} (hs : 0 ≤ s) (hsr : s ≤ r) (h : 0 ≤ cmpDist p1 p2 a1 a2 b1 b2 r) : 0 ≤ cmpDist p1 p2 a1 a2 b1 b2 s := by
  by_cases hc : cmpDist p1 p2 a1 a2 b1 b2 s < 0
  · exfalso
    have hq : s * s ≤ r * r := Int.mul_le_mul hsr hsr hs (by omega)
    obtain ⟨h1, h2, h3⟩ := (lt_iff p1 p2 a1 a2 b1 b2 s).1 hc
    have := (lt_iff p1 p2 a1 a2 b1 b2 r).2 ⟨fun k => by have := h1 k; omega, fun k k' => by have := h2 k k'; omega, fun k k' => by
      have := h3 k k'
      have := Int.mul_le_mul_of_nonneg_right hq (sq_nonneg a1 a2 b1 b2)
      omega⟩
    omega
  · omega
/-- What the crossing of two segments is: weights on both. -/
theorem met_w {a1 a2 b1 b2 c1 c2 d1 d2 : Int} (h : meetB a1 a2 b1 b2 c1 c2 d1 d2 = true) :
    (on a1 a2 c1 c2 d1 d2 = true) ∨ (on b1 b2 c1 c2 d1 d2 = true) ∨ (on c1 c2 a1 a2 b1 b2 = true) ∨ (on d1 d2 a1 a2 b1 b2 = true) ∨
    ∃ i j n x y : Int, 0 ≤ i ∧ 0 ≤ j ∧ n = i + j ∧ 0 < n ∧ 0 ≤ x ∧ 0 < y ∧ n = x + y ∧ i * c1 + j * d1 = y * a1 + x * b1 ∧ i * c2 + j * d2 = y * a2 + x * b2 := by
  unfold meetB anyOn at h
  simp only [Bool.or_eq_true, Bool.and_eq_true] at h
  rcases h with ⟨h1, h2⟩ | ((h | h) | h) | h
  · right; right; right; right
    rw [crossB_iff] at h1 h2
    have e1 : (cross c1 c2 d1 d2 a1 a2 - cross c1 c2 d1 d2 b1 b2) = cross a1 a2 b1 b2 d1 d2 - cross a1 a2 b1 b2 c1 c2 := by unfold cross; grind
    have x1 : cross a1 a2 b1 b2 d1 d2 * c1 - cross a1 a2 b1 b2 c1 c2 * d1 = cross c1 c2 d1 d2 a1 a2 * b1 - cross c1 c2 d1 d2 b1 b2 * a1 := by unfold cross; grind
    have x2 : cross a1 a2 b1 b2 d1 d2 * c2 - cross a1 a2 b1 b2 c1 c2 * d2 = cross c1 c2 d1 d2 a1 a2 * b2 - cross c1 c2 d1 d2 b1 b2 * a2 := by unfold cross; grind
    generalize cross c1 c2 d1 d2 a1 a2 = A at *
    generalize cross c1 c2 d1 d2 b1 b2 = B at *
    generalize cross a1 a2 b1 b2 c1 c2 = U at *
    generalize cross a1 a2 b1 b2 d1 d2 = V at *
    by_cases hA : 0 < A
    · have hB : B < 0 := by
        by_cases k : B < 0
        · exact k
        · have := Int.mul_nonneg (a := A) (b := B) (by omega) (by omega); omega
      have hV : 0 ≤ V := by
        by_cases k : 0 ≤ V
        · exact k
        · have := Int.mul_nonneg_of_nonpos_of_nonpos (a := U) (b := V) (by omega) (by omega); omega
      have hU : U ≤ 0 := by
        by_cases k : U ≤ 0
        · exact k
        · have := Int.mul_nonneg (a := U) (b := V) (by omega) (by omega); omega
      exact ⟨V, -U, A - B, A, -B, hV, by omega, by omega, by omega, by omega, by omega, by omega, by grind, by grind⟩
    · have hA' : A < 0 := by
        by_cases k : A = 0
        · subst k; simp at h2
        · omega
      have hB : 0 < B := by
        by_cases k : 0 < B
        · exact k
        · have := Int.mul_nonneg_of_nonpos_of_nonpos (a := A) (b := B) (by omega) (by omega); omega
      have hV : V ≤ 0 := by
        by_cases k : V ≤ 0
        · exact k
        · have := Int.mul_nonneg (a := U) (b := V) (by omega) (by omega); omega
      have hU : 0 ≤ U := by
        by_cases k : 0 ≤ U
        · exact k
        · have := Int.mul_nonneg_of_nonpos_of_nonpos (a := U) (b := V) (by omega) (by omega); omega
      exact ⟨-V, U, B - A, -A, B, by omega, hU, by omega, by omega, by omega, by omega, by omega, by grind, by grind⟩
  · exact .inl h
  · exact .inr (.inr (.inl h))
  · exact .inr (.inl h)
  · exact .inr (.inr (.inr (.inl h)))
theorem sqw {a1 a2 b1 b2 x r : Int} (h : sq a1 a2 b1 b2 ≤ r * r) : x * x * sq a1 a2 b1 b2 ≤ x * x * (r * r) := Int.mul_le_mul_of_nonneg_left h (by have := sq_nn x; omega)
theorem sq_lt {x y n r : Int} (hx : 0 ≤ x) (hy : 0 < y) (hn : n = x + y) (hr : 0 < r * r) : x * x * (r * r) < n * n * (r * r) := by
  refine Int.mul_lt_mul_of_pos_right ?_ hr
  subst hn
  have h1 : 0 ≤ x * y := Int.mul_nonneg hx (by omega)
  have h2 : 0 < y * y := Int.mul_pos hy hy
  have : (x + y) * (x + y) = x * x + 2 * (x * y) + y * y := by grind
  omega
/-- A segment from a meets an edge: the edge is as near to a as the segment is long; and if it is no nearer, only its end meets it. -/
theorem met_near {a1 a2 b1 b2 c1 c2 d1 d2 r : Int} (h : meetB a1 a2 b1 b2 c1 c2 d1 d2 = true) (hr : sq a1 a2 b1 b2 ≤ r * r) : nearB a1 a2 c1 c2 d1 d2 r = true ∧ (0 ≤ cmpDist a1 a2 c1 c2 d1 d2 r → on b1 b2 c1 c2 d1 d2 = true) := by
  have hrr := sq_nn r
  by_cases hz : r * r = 0
  · obtain ⟨rfl, rfl⟩ := sq_eq a1 a2 b1 b2 (by omega)
    have hon : on a1 a2 c1 c2 d1 d2 = true := by
      rcases met_w h with h | h | h | h | ⟨i, j, n, x, y, hi, hj, hn, hp, hx, hy, hn2, e1, e2⟩
      · exact h
      · exact h
      · obtain ⟨i, j, n, hi, hj, hn, hp, e1, e2⟩ := on_w h
        have k1 : n * c1 = n * a1 := by rw [e1, hn]; grind
        have k2 : n * c2 = n * a2 := by rw [e2, hn]; grind
        have k3 := Int.eq_of_mul_eq_mul_left (by omega) k1
        have k4 := Int.eq_of_mul_eq_mul_left (by omega) k2
        subst k3 k4
        exact w_on 1 0 1 (by omega) (by omega) (by omega) (by omega) (by omega) (by omega)
      · obtain ⟨i, j, n, hi, hj, hn, hp, e1, e2⟩ := on_w h
        have k1 : n * d1 = n * a1 := by rw [e1, hn]; grind
        have k2 : n * d2 = n * a2 := by rw [e2, hn]; grind
        have k3 := Int.eq_of_mul_eq_mul_left (by omega) k1
        have k4 := Int.eq_of_mul_eq_mul_left (by omega) k2
        subst k3 k4
        exact w_on 0 1 1 (by omega) (by omega) (by omega) (by omega) (by omega) (by omega)
      · exact w_on i j n hi hj hn hp (by rw [e1, hn2]; grind) (by rw [e2, hn2]; grind)
    exact ⟨near_on hon (by rw [sq_self]; omega), fun _ => hon⟩
  · have hpos : 0 < r * r := by omega
    rcases met_w h with h | h | h | h | ⟨i, j, n, x, y, hi, hj, hn, hp, hx, hy, hn2, e1, e2⟩
    · refine ⟨near_on h (by rw [sq_self]; omega), fun hc => ?_⟩
      exfalso
      obtain ⟨i, j, n, hi, hj, hn, hp, e1, e2⟩ := on_w h
      have := near_w_lt a1 a2 c1 c2 d1 d2 r i j n hi hj hn hp (by
        rw [e1, e2]
        have := Int.mul_pos (Int.mul_pos hp hp) hpos
        simpa using this)
      omega
    · exact ⟨near_on h hr, fun _ => h⟩
    · obtain ⟨i, j, n, hi, hj, hn, hp, e1, e2⟩ := on_w h
      have e : (n * a1 - (n * c1 + 0 * d1)) * (n * a1 - (n * c1 + 0 * d1)) + (n * a2 - (n * c2 + 0 * d2)) * (n * a2 - (n * c2 + 0 * d2)) = j * j * sq a1 a2 b1 b2 := by
        rw [e1, e2, hn]; unfold sq dot; grind
      have g := sqw (x := j) hr
      have hle : j * j * (r * r) ≤ n * n * (r * r) := Int.mul_le_mul_of_nonneg_right (Int.mul_le_mul (by omega) (by omega) hj (by omega)) hrr
      refine ⟨near_w a1 a2 c1 c2 d1 d2 r n 0 n (by omega) (by omega) (by omega) hp (by rw [e]; omega), fun hc => ?_⟩
      by_cases hi0 : i = 0
      · subst hi0
        have k1 : n * c1 = n * b1 := by rw [e1, hn]; grind
        have k2 : n * c2 = n * b2 := by rw [e2, hn]; grind
        have k3 := Int.eq_of_mul_eq_mul_left (by omega) k1
        have k4 := Int.eq_of_mul_eq_mul_left (by omega) k2
        subst k3 k4
        exact w_on 1 0 1 (by omega) (by omega) (by omega) (by omega) (by omega) (by omega)
      · exfalso
        have hl := sq_lt (x := j) (y := i) (n := n) (r := r) hj (by omega) (by omega) hpos
        have := near_w_lt a1 a2 c1 c2 d1 d2 r n 0 n (by omega) (by omega) (by omega) hp (by rw [e]; omega)
        omega
    · obtain ⟨i, j, n, hi, hj, hn, hp, e1, e2⟩ := on_w h
      have e : (n * a1 - (0 * c1 + n * d1)) * (n * a1 - (0 * c1 + n * d1)) + (n * a2 - (0 * c2 + n * d2)) * (n * a2 - (0 * c2 + n * d2)) = j * j * sq a1 a2 b1 b2 := by
        rw [e1, e2, hn]; unfold sq dot; grind
      have g := sqw (x := j) hr
      have hle : j * j * (r * r) ≤ n * n * (r * r) := Int.mul_le_mul_of_nonneg_right (Int.mul_le_mul (by omega) (by omega) hj (by omega)) hrr
      refine ⟨near_w a1 a2 c1 c2 d1 d2 r 0 n n (by omega) (by omega) (by omega) hp (by rw [e]; omega), fun hc => ?_⟩
      by_cases hi0 : i = 0
      · subst hi0
        have k1 : n * d1 = n * b1 := by rw [e1, hn]; grind
        have k2 : n * d2 = n * b2 := by rw [e2, hn]; grind
        have k3 := Int.eq_of_mul_eq_mul_left (by omega) k1
        have k4 := Int.eq_of_mul_eq_mul_left (by omega) k2
        subst k3 k4
        exact w_on 0 1 1 (by omega) (by omega) (by omega) (by omega) (by omega) (by omega)
      · exfalso
        have hl := sq_lt (x := j) (y := i) (n := n) (r := r) hj (by omega) (by omega) hpos
        have := near_w_lt a1 a2 c1 c2 d1 d2 r 0 n n (by omega) (by omega) (by omega) hp (by rw [e]; omega)
        omega
    · have e : (n * a1 - (i * c1 + j * d1)) * (n * a1 - (i * c1 + j * d1)) + (n * a2 - (i * c2 + j * d2)) * (n * a2 - (i * c2 + j * d2)) = x * x * sq a1 a2 b1 b2 := by
        rw [e1, e2, hn2]; unfold sq dot; grind
      have g := sqw (x := x) hr
      have hl := sq_lt (x := x) (y := y) (n := n) (r := r) hx hy hn2 hpos
      refine ⟨near_w a1 a2 c1 c2 d1 d2 r i j n hi hj hn hp (by rw [e]; omega), fun hc => ?_⟩
      exfalso
      have := near_w_lt a1 a2 c1 c2 d1 d2 r i j n hi hj hn hp (by rw [e]; omega)
      omega
theorem di_one {l : List Pt} {q : Pt} {r : Int} (h : diL l q r = 1) : ¬ siL q l < 0 ∧ ∀ i, i < l.length → 0 ≤ cmpDist q.1 q.2 (gp l i).1 (gp l i).2 (nx l i).1 (nx l i).2 r := by
  unfold diL diV at h
  by_cases ho : siL q l < 0
  · exfalso
    simp only [ho, decide_true, if_true] at h
    split at h <;> omega
  · refine ⟨ho, fun i hi => ?_⟩
    simp only [ho, decide_false] at h
    split at h
    · rename_i hall
      have := List.all_eq_true.1 hall i (List.mem_range.2 hi)
      unfold diB apP at this
      simpa using this
    · omega
theorem di_neg {l : List Pt} {q : Pt} {r : Int} (h : diL l q r = -1) : siL q l < 0 ∧ ∀ i, i < l.length → 0 ≤ cmpDist q.1 q.2 (gp l i).1 (gp l i).2 (nx l i).1 (nx l i).2 r ∧ neP q (gp l i) (nx l i) r = false := by
  unfold diL diV at h
  by_cases ho : siL q l < 0
  · refine ⟨ho, fun i hi => ?_⟩
    simp only [ho, decide_true] at h
    split at h
    · rename_i hall
      have := List.all_eq_true.1 hall i (List.mem_range.2 hi)
      unfold diB apP at this
      simpa using this
    · omega
  · exfalso
    simp only [ho, decide_false] at h
    split at h <;> simp at h
theorem disc_one {l : List Pt} {q : Pt} {r s : Int} (hs : 0 ≤ s) (hsr : s ≤ r) (h : diL l q r = 1) : diL l q s = 1 := by
  obtain ⟨h1, h2⟩ := di_one h
  unfold diL diV
  have hall : ((List.range l.length).all fun i => diB q s (decide (siL q l < 0)) (gp l i) (nx l i)) = true := by
    rw [List.all_eq_true]
    intro i hi
    have := ap_mono hs hsr (h2 i (List.mem_range.1 hi))
    simp [diB, apP, this, h1]
  rw [if_pos hall]
  simp [h1]
theorem disc_neg {l : List Pt} {q : Pt} {r s : Int} (hs : 0 ≤ s) (hsr : s ≤ r) (h : diL l q r = -1) : diL l q s = -1 := by
  obtain ⟨h1, h2⟩ := di_neg h
  unfold diL diV
  have hall : ((List.range l.length).all fun i => diB q s (decide (siL q l < 0)) (gp l i) (nx l i)) = true := by
    rw [List.all_eq_true]
    intro i hi
    obtain ⟨k1, k2⟩ := h2 i (List.mem_range.1 hi)
    have k3 := ap_mono hs hsr k1
    have k4 : neP q (gp l i) (nx l i) s = false := by
      rw [Bool.eq_false_iff] at k2 ⊢
      exact fun hh => k2 (near_mono hs hsr hh)
    simp [diB, apP, k3, k4]
  rw [if_pos hall]
  simp [h1]
theorem si_on {q : Pt} {l : List Pt} {i : Nat} (hi : i < l.length) (h : onP q (gp l i) (nx l i) = true) : siL q l = 0 := by
  unfold siL
  rw [if_pos]
  rw [List.any_eq_true]
  exact ⟨i, List.mem_range.2 hi, h⟩
theorem si_zero {q : Pt} {l : List Pt} (h : siL q l = 0) : ∃ i, i < l.length ∧ onP q (gp l i) (nx l i) = true := by
  unfold siL at h
  split at h
  · rename_i k
    obtain ⟨i, hi, k⟩ := List.any_eq_true.1 k
    exact ⟨i, List.mem_range.1 hi, k⟩
  · split at h <;> omega
theorem met_some {a b : Pt} {l : List Pt} (h : siL a l * siL b l = -1) : ∃ i, i < l.length ∧ meP a b (gp l i) (nx l i) = true := by
  obtain ⟨i, hi, k⟩ := List.any_eq_true.1 (geo_inside h)
  exact ⟨i, List.mem_range.1 hi, k⟩
theorem si_three (q : Pt) (l : List Pt) : siL q l = 1 ∨ siL q l = 0 ∨ siL q l = -1 := by
  unfold siL
  split
  · exact .inr (.inl rfl)
  · split
    · exact .inl rfl
    · exact .inr (.inr rfl)
/-- A place of a disc that is in the polygon. -/
theorem disc_has {l : List Pt} {q o : Pt} {r : Int} (hr : sq q.1 q.2 o.1 o.2 ≤ r * r) (h : diL l q r = 1) : 0 ≤ siL o l := by
  obtain ⟨h1, h2⟩ := di_one h
  rcases si_three o l with k | k | k
  · omega
  · omega
  · exfalso
    rcases si_three q l with g | g | g
    · obtain ⟨i, hi, hm⟩ := met_some (a := q) (b := o) (l := l) (by rw [g, k]; rfl)
      have := (met_near hm hr).2 (h2 i hi)
      have := si_on hi this
      omega
    · obtain ⟨i, hi, hon⟩ := si_zero g
      have hm : meetB q.1 q.2 o.1 o.2 (gp l i).1 (gp l i).2 (nx l i).1 (nx l i).2 = true := by
        have hon' : on q.1 q.2 (gp l i).1 (gp l i).2 (nx l i).1 (nx l i).2 = true := hon
        unfold meetB anyOn
        rw [hon']
        simp
      have := (met_near hm hr).2 (h2 i hi)
      have := si_on hi this
      omega
    · omega
/-- No place of a disc that has nothing in common with the polygon. -/
theorem disc_lacks {l : List Pt} {q o : Pt} {r : Int} (hr : sq q.1 q.2 o.1 o.2 ≤ r * r) (h : diL l q r = -1) : siL o l < 0 := by
  obtain ⟨h1, h2⟩ := di_neg h
  have g : siL q l = -1 := by rcases si_three q l with g | g | g <;> omega
  rcases si_three o l with k | k | k
  · exfalso
    obtain ⟨i, hi, hm⟩ := met_some (a := q) (b := o) (l := l) (by rw [g, k]; rfl)
    have e := (met_near hm hr).1
    have e2 := (h2 i hi).2
    unfold neP at e2
    rw [e] at e2
    cases e2
  · exfalso
    obtain ⟨i, hi, hon⟩ := si_zero k
    have e : nearB q.1 q.2 (gp l i).1 (gp l i).2 (nx l i).1 (nx l i).2 r = true := near_on hon hr
    have e2 := (h2 i hi).2
    unfold neP at e2
    rw [e] at e2
    cases e2
  · omega
theorem near_self {o1 o2 q1 q2 r : Int} (h : nearB o1 o2 q1 q2 q1 q2 r = true) : sq q1 q2 o1 o2 ≤ r * r := ((near_iff o1 o2 q1 q2 q1 q2 r).1 h).1 (.inl ⟨rfl, rfl⟩)

end Go.Proofs.YtfgajejhjbfhjaaGreat.Po
end

section
namespace Go.Proofs.YtfgajejhjbfhjaaGreat.Po
open Go.RowKit
set_option linter.unusedSimpArgs false
set_option linter.unusedVariables false

def sc (n : Int) (p : Pt) : Pt := (n * p.1, n * p.2)
theorem mle {n a b : Int} (hn : 0 < n) : n * a ≤ n * b ↔ a ≤ b := ⟨fun h => Int.le_of_mul_le_mul_left h hn, fun h => Int.mul_le_mul_of_nonneg_left h (by omega)⟩
theorem mlt {n a b : Int} (hn : 0 < n) : n * a < n * b ↔ a < b := ⟨fun h => Int.lt_of_mul_lt_mul_left h (by omega), fun h => Int.mul_lt_mul_of_pos_left h hn⟩
theorem mpos {n a : Int} (hn : 0 < n) : 0 < n * a ↔ 0 < a := ⟨fun h => gt_of (by omega) h, fun h => Int.mul_pos hn h⟩
theorem cross_sc (n a1 a2 b1 b2 c1 c2 : Int) : cross (n * a1) (n * a2) (n * b1) (n * b2) (n * c1) (n * c2) = n * n * cross a1 a2 b1 b2 c1 c2 := by unfold cross; grind
theorem btw_iff {p a b : Int} : between p a b = true ↔ (a ≤ p ∧ p ≤ b) ∨ (b ≤ p ∧ p ≤ a) := by
  unfold between
  simp only [Bool.and_eq_true, decide_eq_true_eq]
  omega
theorem on_iff' {p1 p2 a1 a2 b1 b2 : Int} : on p1 p2 a1 a2 b1 b2 = true ↔ cross a1 a2 b1 b2 p1 p2 = 0 ∧ between p1 a1 b1 = true ∧ between p2 a2 b2 = true := by
  unfold on
  simp only [Bool.and_eq_true, decide_eq_true_eq, turn_eq, and_assoc]
theorem on_sc {n p1 p2 a1 a2 b1 b2 : Int} (hn : 0 < n) : on (n * p1) (n * p2) (n * a1) (n * a2) (n * b1) (n * b2) = on p1 p2 a1 a2 b1 b2 := by
  rw [Bool.eq_iff_iff, on_iff', on_iff', cross_sc, btw_iff, btw_iff, btw_iff, btw_iff]
  simp only [mle hn]
  have h : n * n * cross a1 a2 b1 b2 p1 p2 = 0 ↔ cross a1 a2 b1 b2 p1 p2 = 0 := by
    have := Int.mul_pos hn hn
    rw [Int.mul_eq_zero]
    omega
  rw [h]
theorem crossB_sc {n a1 a2 b1 b2 c1 c2 d1 d2 : Int} (hn : 0 < n) : crossB (n * a1) (n * a2) (n * b1) (n * b2) (n * c1) (n * c2) (n * d1) (n * d2) = crossB a1 a2 b1 b2 c1 c2 d1 d2 := by
  rw [Bool.eq_iff_iff, crossB_iff, crossB_iff, cross_sc, cross_sc]
  have hK : 0 < n * n * (n * n) := Int.mul_pos (Int.mul_pos hn hn) (Int.mul_pos hn hn)
  have e : n * n * cross a1 a2 b1 b2 c1 c2 * (n * n * cross a1 a2 b1 b2 d1 d2) = n * n * (n * n) * (cross a1 a2 b1 b2 c1 c2 * cross a1 a2 b1 b2 d1 d2) := by grind
  rw [e]
  exact ⟨fun h => lt_of (Int.le_of_lt hK) h, fun h => Int.mul_neg_of_pos_of_neg hK h⟩
theorem meet_sc {n a1 a2 b1 b2 c1 c2 d1 d2 : Int} (hn : 0 < n) : meetB (n * a1) (n * a2) (n * b1) (n * b2) (n * c1) (n * c2) (n * d1) (n * d2) = meetB a1 a2 b1 b2 c1 c2 d1 d2 := by
  unfold meetB anyOn
  rw [crossB_sc hn, crossB_sc hn, on_sc hn, on_sc hn, on_sc hn, on_sc hn]
theorem meP_sc {n : Int} (hn : 0 < n) (a b c d : Pt) : meP (sc n a) (sc n b) (sc n c) (sc n d) = meP a b c d := meet_sc hn
theorem paE_sc {n : Int} (hn : 0 < n) (q a b : Pt) : paE (sc n q) (sc n a) (sc n b) = paE q a b := by
  have hK := Int.mul_pos hn hn
  rw [Bool.eq_iff_iff, paE_iff, paE_iff, tu_pos, tu_pos, tu_pos, tu_pos]
  unfold sc
  dsimp only
  rw [cross_sc, cross_sc]
  simp only [mle hn, mlt hn, mpos hK]
theorem common_w {a1 a2 b1 b2 c1 c2 d1 d2 : Int} (i j s t n : Int) (hi : 0 ≤ i) (hj : 0 ≤ j) (hs : 0 ≤ s) (ht : 0 ≤ t) (h1 : n = i + j) (h2 : n = s + t) (hn : 0 < n)
    (e1 : i * c1 + j * d1 = s * a1 + t * b1) (e2 : i * c2 + j * d2 = s * a2 + t * b2) : meetB a1 a2 b1 b2 c1 c2 d1 d2 = true := by
  rw [← meet_sc hn]
  refine meet_of (p1 := i * c1 + j * d1) (p2 := i * c2 + j * d2) (w_on s t n hs ht h2 hn ?_ ?_) (w_on i j n hi hj h1 hn ?_ ?_)
  · rw [e1]; grind
  · rw [e2]; grind
  · grind
  · grind
/-- What meets a part of a segment meets the segment. -/
theorem meet_sub {a1 a2 b1 b2 z1 z2 c1 c2 d1 d2 : Int} (hz : on z1 z2 a1 a2 b1 b2 = true) (h : meetB a1 a2 z1 z2 c1 c2 d1 d2 = true) : meetB a1 a2 b1 b2 c1 c2 d1 d2 = true := by
  rcases met_w h with k | k | k | k | ⟨i, j, n, x, y, hi, hj, hn, hp, hx, hy, hn2, e1, e2⟩
  · unfold meetB anyOn; rw [k]; simp
  · exact meet_of hz k
  · obtain ⟨s, t, q, hs, ht, hq, hq0, f1, f2⟩ := on_w hz
    obtain ⟨i, j, n, hi, hj, hn, hp, e1, e2⟩ := on_w k
    have : on c1 c2 a1 a2 b1 b2 = true := w_on (q * i + j * s) (j * t) (q * n) (Int.add_nonneg (Int.mul_nonneg (by omega) hi) (Int.mul_nonneg hj hs)) (Int.mul_nonneg hj ht) (by rw [hn, hq]; grind) (Int.mul_pos hq0 hp) (by grind) (by grind)
    unfold meetB anyOn; rw [this]; simp
  · obtain ⟨s, t, q, hs, ht, hq, hq0, f1, f2⟩ := on_w hz
    obtain ⟨i, j, n, hi, hj, hn, hp, e1, e2⟩ := on_w k
    have : on d1 d2 a1 a2 b1 b2 = true := w_on (q * i + j * s) (j * t) (q * n) (Int.add_nonneg (Int.mul_nonneg (by omega) hi) (Int.mul_nonneg hj hs)) (Int.mul_nonneg hj ht) (by rw [hn, hq]; grind) (Int.mul_pos hq0 hp) (by grind) (by grind)
    unfold meetB anyOn; rw [this]; simp
  · obtain ⟨s, t, q, hs, ht, hq, hq0, f1, f2⟩ := on_w hz
    exact common_w (q * i) (q * j) (q * y + x * s) (x * t) (q * n) (Int.mul_nonneg (by omega) hi) (Int.mul_nonneg (by omega) hj) (Int.add_nonneg (Int.mul_nonneg (by omega) (by omega)) (Int.mul_nonneg hx hs)) (Int.mul_nonneg hx ht)
      (by rw [hn]; grind) (by rw [hn2, hq]; grind) (Int.mul_pos hq0 hp) (by grind) (by grind)
theorem par_sub {u v z : Pt} {m : List Pt} (hz : onP z u v = true) (n : ∀ j, j < m.length → meP u v (gp m j) (nx m j) = false) : parK z m m.length = parK u m m.length := by
  refine (par_eq (a := u) (b := z) fun j hj => ?_).symm
  rw [Bool.eq_false_iff]
  intro h
  have := n j hj
  rw [show meP u v (gp m j) (nx m j) = true from meet_sub hz h] at this
  cases this
def scL (n : Int) (m : List Pt) : List Pt := m.map (sc n)
theorem gp_scL (n : Int) (m : List Pt) (i : Nat) : gp (scL n m) i = sc n (gp m i) := by
  unfold gp scL
  rw [List.getD_eq_getElem?_getD, List.getD_eq_getElem?_getD, List.getElem?_map]
  cases m[i]? <;> simp [sc]
theorem scL_len (n : Int) (m : List Pt) : (scL n m).length = m.length := by simp [scL]
theorem nx_scL (n : Int) (m : List Pt) (i : Nat) : nx (scL n m) i = sc n (nx m i) := by
  unfold nx
  rw [gp_scL, scL_len]
theorem parK_sc {n : Int} (hn : 0 < n) (q : Pt) (m : List Pt) (k : Nat) : parK (sc n q) (scL n m) k = parK q m k := by
  induction k with
  | zero => rfl
  | succ k ih => rw [parK_succ, parK_succ, ih, gp_scL, nx_scL, paE_sc hn]
def keyC (q u v : Pt) : Int := if u.2 ≤ v.2 then cross u.1 u.2 v.1 v.2 q.1 q.2 else cross v.1 v.2 u.1 u.2 q.1 q.2
def keyD (u v : Pt) : Int := if u.2 ≤ v.2 then v.2 - u.2 else u.2 - v.2
/-- How an edge passes a place that lies on another one, east of q. -/
theorem pass_at {q p r : Pt} {C D : Int} (hpr : p.2 ≤ r.2) (hC : 0 < C) (hD : 0 < D) (hmin : paE q p r = true → C * (r.2 - p.2) ≤ cross p.1 p.2 r.1 r.2 q.1 q.2 * D)
    (hne : onP (D * q.1 + C, D * q.2) (sc D p) (sc D r) = false) : paE (D * q.1 + C, D * q.2) (sc D p) (sc D r) = paE q p r := by
  rw [paE_up hpr] at hmin ⊢
  rw [paE_up (show (sc D p).2 ≤ (sc D r).2 from (mle hD).2 hpr)]
  unfold sc at hne ⊢
  dsimp only at hne ⊢
  have e : cross (D * p.1) (D * p.2) (D * r.1) (D * r.2) (D * q.1 + C) (D * q.2) = D * (D * cross p.1 p.2 r.1 r.2 q.1 q.2 - (r.2 - p.2) * C) := by unfold cross; grind
  rw [e]
  simp only [mle hD, mlt hD]
  by_cases h1 : p.2 ≤ q.2
  · by_cases h2 : q.2 < r.2
    · have hne' : D * cross p.1 p.2 r.1 r.2 q.1 q.2 ≠ (r.2 - p.2) * C := by
        intro k
        have : onP (D * q.1 + C, D * q.2) (D * p.1, D * p.2) (D * r.1, D * r.2) = true := by
          refine w_on (r.2 - q.2) (q.2 - p.2) (r.2 - p.2) (by omega) (by omega) (by omega) (by omega) ?_ ?_
          · dsimp only
            unfold cross at k
            grind
          · dsimp only
            grind
        rw [this] at hne
        cases hne
      have g : (0 < D * (D * cross p.1 p.2 r.1 r.2 q.1 q.2 - (r.2 - p.2) * C)) ↔ 0 < cross p.1 p.2 r.1 r.2 q.1 q.2 := by
        rw [mpos hD]
        constructor
        · intro k
          have : 0 < (r.2 - p.2) * C := Int.mul_pos (by omega) hC
          exact gt_of (n := D) (by omega) (by omega)
        · intro k
          have := hmin (by simp [h1, h2, k])
          have e2 : cross p.1 p.2 r.1 r.2 q.1 q.2 * D = D * cross p.1 p.2 r.1 r.2 q.1 q.2 := Int.mul_comm _ _
          have e3 : C * (r.2 - p.2) = (r.2 - p.2) * C := Int.mul_comm _ _
          omega
      simp [h1, h2, g]
    · simp [h2]
  · simp [h1]
theorem ray0 {q u v : Pt} {m : List Pt} (huv : u.2 ≤ v.2) (hp : paE q u v = true)
    (hmin : ∀ j, j < m.length → paE q (gp m j) (nx m j) = true → cross u.1 u.2 v.1 v.2 q.1 q.2 * keyD (gp m j) (nx m j) ≤ keyC q (gp m j) (nx m j) * (v.2 - u.2))
    (hsep : ∀ j, j < m.length → meP u v (gp m j) (nx m j) = false) (hu : parK u m m.length = false) : parK q m m.length = false := by
  rw [paE_up huv] at hp
  simp only [Bool.and_eq_true, decide_eq_true_eq] at hp
  obtain ⟨⟨h1, h2⟩, hC⟩ := hp
  have hD : 0 < v.2 - u.2 := by omega
  generalize hCe : cross u.1 u.2 v.1 v.2 q.1 q.2 = C at *
  generalize hDe : v.2 - u.2 = D at *
  have hz : onP (D * q.1 + C, D * q.2) (sc D u) (sc D v) = true := by
    refine w_on (v.2 - q.2) (q.2 - u.2) D (by omega) (by omega) (by omega) hD ?_ ?_
    · unfold cross at hCe
      simp only [sc]
      subst hCe hDe
      grind
    · simp only [sc]
      subst hDe
      grind
  have hs : ∀ j, j < (scL D m).length → meP (sc D u) (sc D v) (gp (scL D m) j) (nx (scL D m) j) = false := fun j hj => by
    rw [gp_scL, nx_scL, meP_sc hD]
    exact hsep j (by rw [scL_len] at hj; exact hj)
  have e1 := par_sub hz hs
  rw [scL_len, parK_sc hD, hu] at e1
  rw [← e1]
  have key : ∀ k, k ≤ m.length → parK (D * q.1 + C, D * q.2) (scL D m) k = parK q m k := by
    intro k
    induction k with
    | zero => intro _; rfl
    | succ k ih =>
      intro hk
      rw [parK_succ, parK_succ, ih (by omega), gp_scL, nx_scL]
      congr 1
      have hmk := hmin k (by omega)
      have hno : onP (D * q.1 + C, D * q.2) (sc D (gp m k)) (sc D (nx m k)) = false := by
        rw [Bool.eq_false_iff]
        intro h
        have h3 := hs k (by rw [scL_len]; omega)
        rw [gp_scL, nx_scL] at h3
        rw [show meP (sc D u) (sc D v) (sc D (gp m k)) (sc D (nx m k)) = true from meet_of hz h] at h3
        cases h3
      by_cases hpr : (gp m k).2 ≤ (nx m k).2
      · refine pass_at hpr hC hD (fun h => ?_) hno
        have := hmk h
        unfold keyC keyD at this
        rw [if_pos hpr, if_pos hpr] at this
        exact this
      · rw [paE_sym q, paE_sym (D * q.1 + C, D * q.2)]
        refine pass_at (by omega) hC hD (fun h => ?_) (by
          unfold onP at hno ⊢
          rw [on_flip]
          exact hno)
        rw [paE_sym] at h
        have := hmk h
        unfold keyC keyD at this
        rw [if_neg hpr, if_neg hpr] at this
        exact this
  exact (key m.length (Nat.le_refl _)).symm
theorem exmin (n : Nat) (P : Nat → Bool) (C D : Nat → Int) (hD : ∀ i, P i = true → 0 < D i) (h : ∃ i, i < n ∧ P i = true) : ∃ i, i < n ∧ P i = true ∧ ∀ j, j < n → P j = true → C i * D j ≤ C j * D i := by
  induction n with
  | zero => obtain ⟨i, hi, _⟩ := h; omega
  | succ n ih =>
    by_cases hn : ∃ i, i < n ∧ P i = true
    · obtain ⟨i, hi, hPi, hm⟩ := ih hn
      cases hPn : P n
      · refine ⟨i, by omega, hPi, fun j hj hPj => ?_⟩
        by_cases hjn : j = n
        · subst hjn; rw [hPn] at hPj; cases hPj
        · exact hm j (by omega) hPj
      · by_cases hc : C i * D n ≤ C n * D i
        · refine ⟨i, by omega, hPi, fun j hj hPj => ?_⟩
          by_cases hjn : j = n
          · subst hjn; exact hc
          · exact hm j (by omega) hPj
        · refine ⟨n, by omega, hPn, fun j hj hPj => ?_⟩
          by_cases hjn : j = n
          · subst hjn; exact Int.le_refl _
          · have h1 := hm j (by omega) hPj
            have d1 := hD i hPi
            have d2 := hD n hPn
            have d3 := hD j hPj
            have k1 := Int.mul_le_mul_of_nonneg_right h1 (Int.le_of_lt d2)
            have k2 := Int.mul_le_mul_of_nonneg_right (Int.le_of_lt (Int.not_le.1 hc)) (Int.le_of_lt d3)
            refine Int.le_of_mul_le_mul_left (a := D i) ?_ d1
            have e1 : D i * (C n * D j) = C n * D i * D j := by grind
            have e2 : D i * (C j * D n) = C j * D i * D n := by grind
            have e3 : C i * D n * D j = C i * D j * D n := by grind
            omega
    · obtain ⟨i, hi, hPi⟩ := h
      obtain rfl : i = n := by
        by_cases k : i = n
        · exact k
        · exact absurd ⟨i, by omega, hPi⟩ hn
      refine ⟨i, by omega, hPi, fun j hj hPj => ?_⟩
      by_cases k : j = i
      · subst k; exact Int.le_refl _
      · exact absurd ⟨j, by omega, hPj⟩ hn
theorem parK_some {q : Pt} {l : List Pt} {k : Nat} (h : parK q l k = true) : ∃ i, i < k ∧ paE q (gp l i) (nx l i) = true := by
  induction k with
  | zero => simp [parK] at h
  | succ k ih =>
    rw [parK_succ] at h
    cases hk : paE q (gp l k) (nx l k)
    · rw [hk] at h
      simp at h
      obtain ⟨i, hi, g⟩ := ih h
      exact ⟨i, by omega, g⟩
    · exact ⟨k, by omega, hk⟩
theorem paE_key {q u v : Pt} (h : paE q u v = true) : 0 < keyC q u v ∧ 0 < keyD u v := by
  unfold keyC keyD
  by_cases huv : u.2 ≤ v.2
  · rw [if_pos huv, if_pos huv]
    rw [paE_up huv] at h
    simp only [Bool.and_eq_true, decide_eq_true_eq] at h
    omega
  · rw [if_neg huv, if_neg huv]
    rw [paE_sym, paE_up (by omega)] at h
    simp only [Bool.and_eq_true, decide_eq_true_eq] at h
    omega
theorem ray {q u v : Pt} {m : List Pt} (hp : paE q u v = true) (hmin : ∀ j, j < m.length → paE q (gp m j) (nx m j) = true → keyC q u v * keyD (gp m j) (nx m j) ≤ keyC q (gp m j) (nx m j) * keyD u v)
    (hsep : ∀ j, j < m.length → meP u v (gp m j) (nx m j) = false) (hu : parK u m m.length = false) (hv : parK v m m.length = false) : parK q m m.length = false := by
  by_cases huv : u.2 ≤ v.2
  · refine ray0 huv hp (fun j hj h => ?_) hsep hu
    have := hmin j hj h
    rw [show keyC q u v = _ from if_pos huv, show keyD u v = _ from if_pos huv] at this
    exact this
  · refine ray0 (u := v) (v := u) (by omega) (by rw [paE_sym]; exact hp) (fun j hj h => ?_) (fun j hj => ?_) hv
    · have := hmin j hj h
      rw [show keyC q u v = _ from if_neg huv, show keyD u v = _ from if_neg huv] at this
      exact this
    · have := hsep j hj
      unfold meP at this ⊢
      rw [meet_flip]
      exact this
theorem si_one {q : Pt} {l : List Pt} (h : siL q l = 1) : parK q l l.length = true := by
  rw [siL_par] at h
  split at h
  · omega
  · split at h
    · assumption
    · omega
theorem si_neg {q : Pt} {l : List Pt} (h : siL q l < 0) : parK q l l.length = false := by
  rw [siL_par] at h
  split at h
  · omega
  · split at h
    · omega
    · rename_i k
      simpa using k
theorem ap_sep {l m : List Pt} (h : apL l m = true) {i j : Nat} (hi : i < l.length) (hj : j < m.length) : meP (gp l i) (nx l i) (gp m j) (nx m j) = false := by
  unfold apL at h
  have h1 := List.all_eq_true.1 h i (List.mem_range.2 hi)
  have h2 := List.all_eq_true.1 h1 j (List.mem_range.2 hj)
  simpa using h2
theorem meP_swap (a b c d : Pt) : meP c d a b = meP a b c d := meet_swap _ _ _ _ _ _ _ _
theorem par_all {l m : List Pt} (hsep : ∀ i j, i < l.length → j < m.length → meP (gp l i) (nx l i) (gp m j) (nx m j) = false) (h0 : parK (gp l 0) m m.length = false) (i : Nat) (hi : i < l.length) : parK (gp l i) m m.length = false := by
  induction i with
  | zero => exact h0
  | succ i ih =>
    have h := par_eq (a := gp l i) (b := nx l i) (l := m) fun j hj => hsep i j (by omega) hj
    rw [ih (by omega)] at h
    rw [show nx l i = gp l (i + 1) from by unfold nx; rw [Nat.mod_eq_of_lt hi]] at h
    exact h.symm
/-- A place of the border of the one polygon is not in the other one, if they do not touch. -/
theorem border_out {l m : List Pt} {q : Pt} (hsep : ∀ i j, i < l.length → j < m.length → meP (gp l i) (nx l i) (gp m j) (nx m j) = false) (h0 : parK (gp l 0) m m.length = false) (hq : siL q l = 0) : siL q m < 0 := by
  obtain ⟨i, hi, hon⟩ := si_zero hq
  rcases si_three q m with h | h | h
  · exfalso
    have h1 := par_sub hon fun j hj => hsep i j hi hj
    rw [si_one h, par_all hsep h0 i hi] at h1
    cases h1
  · exfalso
    obtain ⟨j, hj, hon2⟩ := si_zero h
    have := hsep i j hi hj
    rw [show meP (gp l i) (nx l i) (gp m j) (nx m j) = true from meet_of hon hon2] at this
    cases this
  · omega
theorem tou_of {l m : List Pt} {q : Pt} (h0l : 0 < l.length) (h0m : 0 < m.length) (hl : 0 ≤ siL q l) (hm : 0 ≤ siL q m) : touL l m = true := by
  cases ht : touL l m
  · exfalso
    unfold touL at ht
    simp only [Bool.or_eq_false_iff, Bool.not_eq_false', decide_eq_true_eq] at ht
    obtain ⟨hap, hml, hlm⟩ := ht
    have s1 : ∀ i j, i < l.length → j < m.length → meP (gp l i) (nx l i) (gp m j) (nx m j) = false := fun i j hi hj => ap_sep hap hi hj
    have s2 : ∀ j i, j < m.length → i < l.length → meP (gp m j) (nx m j) (gp l i) (nx l i) = false := fun j i hj hi => by rw [meP_swap]; exact s1 i j hi hj
    have p1 := si_neg hlm
    have p2 := si_neg hml
    have a1 := par_all s1 p1
    have a2 := par_all s2 p2
    have n1 : ∀ i, i < l.length → parK (nx l i) m m.length = false := fun i _ => a1 _ (Nat.mod_lt _ h0l)
    have n2 : ∀ i, i < m.length → parK (nx m i) l l.length = false := fun i _ => a2 _ (Nat.mod_lt _ h0m)
    rcases si_three q l with g | g | g
    · rcases si_three q m with k | k | k
      · have i1 := si_one g
        have i2 := si_one k
        obtain ⟨i, hi, hPi, mi⟩ := exmin l.length (fun i => paE q (gp l i) (nx l i)) (fun i => keyC q (gp l i) (nx l i)) (fun i => keyD (gp l i) (nx l i)) (fun i h => (paE_key h).2) (parK_some i1)
        obtain ⟨j, hj, hPj, mj⟩ := exmin m.length (fun i => paE q (gp m i) (nx m i)) (fun i => keyC q (gp m i) (nx m i)) (fun i => keyD (gp m i) (nx m i)) (fun i h => (paE_key h).2) (parK_some i2)
        obtain ⟨ci, di⟩ := paE_key hPi
        obtain ⟨cj, dj⟩ := paE_key hPj
        by_cases hc : keyC q (gp l i) (nx l i) * keyD (gp m j) (nx m j) ≤ keyC q (gp m j) (nx m j) * keyD (gp l i) (nx l i)
        · have := ray hPi (m := m) (fun j' hj' hp' => ?_) (fun j' hj' => s1 i j' hi hj') (a1 i hi) (n1 i hi)
          · rw [i2] at this; cases this
          · have h1 := mj j' hj' hp'
            obtain ⟨c', d'⟩ := paE_key hp'
            have k1 := Int.mul_le_mul_of_nonneg_right hc (Int.le_of_lt d')
            have k2 := Int.mul_le_mul_of_nonneg_right h1 (Int.le_of_lt di)
            refine Int.le_of_mul_le_mul_left (a := keyD (gp m j) (nx m j)) ?_ dj
            generalize keyC q (gp l i) (nx l i) = Ci at *
            generalize keyC q (gp m j) (nx m j) = Cj at *
            generalize keyC q (gp m j') (nx m j') = Ck at *
            generalize keyD (gp l i) (nx l i) = Di at *
            generalize keyD (gp m j) (nx m j) = Dj at *
            generalize keyD (gp m j') (nx m j') = Dk at *
            have e1 : Dj * (Ci * Dk) = Ci * Dj * Dk := by grind
            have e2 : Dj * (Ck * Di) = Ck * Dj * Di := by grind
            have e3 : Cj * Di * Dk = Cj * Dk * Di := by grind
            omega
        · have hc' := Int.le_of_lt (Int.not_le.1 hc)
          have := ray hPj (m := l) (fun j' hj' hp' => ?_) (fun j' hj' => s2 j j' hj hj') (a2 j hj) (n2 j hj)
          · rw [i1] at this; cases this
          · have h1 := mi j' hj' hp'
            obtain ⟨c', d'⟩ := paE_key hp'
            have k1 := Int.mul_le_mul_of_nonneg_right hc' (Int.le_of_lt d')
            have k2 := Int.mul_le_mul_of_nonneg_right h1 (Int.le_of_lt dj)
            refine Int.le_of_mul_le_mul_left (a := keyD (gp l i) (nx l i)) ?_ di
            generalize keyC q (gp l i) (nx l i) = Ci at *
            generalize keyC q (gp m j) (nx m j) = Cj at *
            generalize keyC q (gp l j') (nx l j') = Ck at *
            generalize keyD (gp l i) (nx l i) = Di at *
            generalize keyD (gp m j) (nx m j) = Dj at *
            generalize keyD (gp l j') (nx l j') = Dk at *
            have e1 : Di * (Cj * Dk) = Cj * Di * Dk := by grind
            have e2 : Di * (Ck * Dj) = Ck * Di * Dj := by grind
            have e3 : Ci * Dj * Dk = Ci * Dk * Dj := by grind
            omega
      · have := border_out s2 p2 k
        omega
      · omega
    · have := border_out s1 p1 g
      omega
    · omega
  · rfl
theorem apL_comm (l m : List Pt) : apL l m = apL m l := by
  rw [Bool.eq_iff_iff]
  constructor
  · intro h
    unfold apL
    rw [List.all_eq_true]
    intro j hj
    rw [List.all_eq_true]
    intro i hi
    rw [meP_swap, ap_sep h (List.mem_range.1 hi) (List.mem_range.1 hj)]
    rfl
  · intro h
    unfold apL
    rw [List.all_eq_true]
    intro j hj
    rw [List.all_eq_true]
    intro i hi
    rw [meP_swap, ap_sep h (List.mem_range.1 hi) (List.mem_range.1 hj)]
    rfl
theorem tou_comm (l m : List Pt) : touL l m = touL m l := by
  unfold touL
  rw [apL_comm, Bool.or_comm (!decide (siL (gp m 0) l < 0))]
theorem tou_self (l : List Pt) (h0 : 0 < l.length) : touL l l = true := by
  unfold touL
  have : apL l l = false := by
    rw [Bool.eq_false_iff]
    intro h
    have k := ap_sep h h0 h0
    have : meP (gp l 0) (nx l 0) (gp l 0) (nx l 0) = true := by
      rw [meP, meet_flip]
      exact meet_end _ _ _ _ _ _
    rw [this] at k
    cases k
  rw [this]
  rfl

end Go.Proofs.YtfgajejhjbfhjaaGreat.Po
end
