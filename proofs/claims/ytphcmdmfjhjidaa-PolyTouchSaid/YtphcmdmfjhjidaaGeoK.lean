/- GeoK: parity. -/
import Derived.Test.YtphcmdmfjhjidaaPolO
import Derived.Test.YtphcmdmfjhjidaaPlaneN
import Derived.Test.YtphcmdmfjhjidaaPlaneO
import Derived.Test.YtphcmdmfjhjidaaRows
import Derived.WalkKit
import Derived.WalkSpells
import Derived.WalkLawsBesides
import Derived.Lib.Hide
import Derived.Deep.QuietTactic
import Derived.BigQuiet
import Derived.RegionTactic
import Derived.ChangeAlike
import Derived.BigRegion
import Derived.Deep.RegionHeld3
import Derived.Deep.RegionWith
import Derived.Outline
namespace Go.Proofs.Ytphcmdmfjhjidaa.Po
open Go.RowKit
set_option linter.unusedSimpArgs false
set_option linter.unusedVariables false

theorem mpp {x y : Int} (hx : 0 ≤ x) (hy : 0 ≤ y) : 0 ≤ x * y := Int.mul_nonneg hx hy
theorem mpn {x y : Int} (hx : 0 ≤ x) (hy : y ≤ 0) : x * y ≤ 0 := Int.mul_nonpos_of_nonneg_of_nonpos hx hy
theorem mnp {x y : Int} (hx : x ≤ 0) (hy : 0 ≤ y) : x * y ≤ 0 := by rw [Int.mul_comm]; exact mpn hy hx
theorem mnn {x y : Int} (hx : x ≤ 0) (hy : y ≤ 0) : 0 ≤ x * y := Int.mul_nonneg_of_nonpos_of_nonpos hx hy
theorem ge_of {n x : Int} (hn : 0 < n) (h : 0 ≤ n * x) : 0 ≤ x := by
  by_cases k : x < 0
  · have := Int.mul_neg_of_pos_of_neg hn k
    omega
  · omega
theorem le_of {n x : Int} (hn : 0 < n) (h : n * x ≤ 0) : x ≤ 0 := by
  by_cases k : 0 < x
  · have := Int.mul_pos hn k
    omega
  · omega
theorem gt_of {n x : Int} (hn : 0 ≤ n) (h : 0 < n * x) : 0 < x := by
  by_cases k : 0 < x
  · exact k
  · have := mpn (x := n) (y := x) (by omega) (by omega)
    omega
theorem lt_of {n x : Int} (hn : 0 ≤ n) (h : n * x < 0) : x < 0 := by
  by_cases k : x < 0
  · exact k
  · have := mpp (x := n) (y := x) (by omega) (by omega)
    omega

/-- Where two segments lie that have nothing in common: how their heights go with their turns. -/
theorem signs {a u b v A B U V D : Int} (hab : a ≤ b) (huv : u ≤ v) (d1 : D = A - B) (d2 : D = V - U)
    (y1 : (v - u) * (-U) = (a - u) * D + (b - a) * A) (y2 : (v - u) * V = (v - b) * A - (v - a) * B)
    (n : ¬ (A * B ≤ 0 ∧ U * V ≤ 0 ∧ D ≠ 0)) :
    ((decide (u ≤ a) && decide (a < v) && decide (0 < A)) ^^ (decide (u ≤ b) && decide (b < v) && decide (0 < B))) =
    ((decide (a < u) && decide (u ≤ b) && decide (U < 0)) ^^ (decide (a < v) && decide (v ≤ b) && decide (V < 0))) := by
  have t1 : (v - b) * A - (v - a) * B = (v - b) * D - (b - a) * B := by subst d1; grind
  by_cases c1 : u ≤ a ∧ a < v
  · obtain ⟨c1, c1'⟩ := c1
    by_cases c2 : b < v
    · -- both within
      have e : (0 < A) ↔ (0 < B) := by
        constructor
        · intro hA
          by_cases hB : 0 < B
          · exact hB
          · exfalso
            have p1 := mpp (x := a - u) (y := D) (by omega) (by omega)
            have p2 := mpp (x := b - a) (y := A) (by omega) (by omega)
            have p3 := mpp (x := v - b) (y := A) (by omega) (by omega)
            have p4 := mpn (x := v - a) (y := B) (by omega) (by omega)
            have hU := ge_of (n := v - u) (x := -U) (by omega) (by omega)
            have hV := ge_of (n := v - u) (x := V) (by omega) (by omega)
            exact n ⟨mpn (by omega) (by omega), mnp (by omega) (by omega), by omega⟩
        · intro hB
          by_cases hA : 0 < A
          · exact hA
          · exfalso
            have p1 := mpn (x := a - u) (y := D) (by omega) (by omega)
            have p2 := mpn (x := b - a) (y := A) (by omega) (by omega)
            have p3 := mpn (x := v - b) (y := A) (by omega) (by omega)
            have p4 := mpp (x := v - a) (y := B) (by omega) (by omega)
            have hU := le_of (n := v - u) (x := -U) (by omega) (by omega)
            have hV := le_of (n := v - u) (x := V) (by omega) (by omega)
            exact n ⟨mnp (by omega) (by omega), mpn (by omega) (by omega), by omega⟩
      have g1 : decide (a < u) = false := by simp; omega
      have g2 : decide (v ≤ b) = false := by simp; omega
      have g3 : decide (u ≤ b) = true := by simp; omega
      simp [c1, c1', c2, g1, g2, g3, e]
    · -- a before v, b not
      have e : (0 < A) ↔ (V < 0) := by
        constructor
        · intro hA
          by_cases hV : V < 0
          · exact hV
          · exfalso
            have p3 := mnp (x := v - b) (y := A) (by omega) (by omega)
            have p5 := mpp (x := v - u) (y := V) (by omega) (by omega)
            have hB := le_of (n := v - a) (x := B) (by omega) (by omega)
            have p1 := mpp (x := a - u) (y := D) (by omega) (by omega)
            have p2 := mpp (x := b - a) (y := A) (by omega) (by omega)
            have hU := ge_of (n := v - u) (x := -U) (by omega) (by omega)
            exact n ⟨mpn (by omega) (by omega), mnp (by omega) (by omega), by omega⟩
        · intro hV
          by_cases hA : 0 < A
          · exact hA
          · exfalso
            have p3 := mnn (x := v - b) (y := A) (by omega) (by omega)
            have p5 := Int.mul_neg_of_pos_of_neg (a := v - u) (b := V) (by omega) (by omega)
            have hB := gt_of (n := v - a) (x := B) (by omega) (by omega)
            have p1 := mpn (x := a - u) (y := D) (by omega) (by omega)
            have p2 := mpn (x := b - a) (y := A) (by omega) (by omega)
            have hU := le_of (n := v - u) (x := -U) (by omega) (by omega)
            exact n ⟨mnp (by omega) (by omega), mpn (by omega) (by omega), by omega⟩
      have g1 : decide (a < u) = false := by simp; omega
      have g2 : decide (v ≤ b) = true := by simp; omega
      simp [c1, c1', c2, g1, g2, e]
  · by_cases c2 : u ≤ b ∧ a < v
    · have c3 : a < u := by omega
      obtain ⟨c2, c2'⟩ := c2
      by_cases c4 : b < v
      · have e : (0 < B) ↔ (U < 0) := by
          constructor
          · intro hB
            by_cases hU : U < 0
            · exact hU
            · exfalso
              -- (v-u)(-U) = (a-u)(A-B) + (b-a)A = (b-u)A - (a-u)B
              have t2 : (a - u) * D + (b - a) * A = (b - u) * A - (a - u) * B := by subst d1; grind
              have p1 := mnp (x := a - u) (y := B) (by omega) (by omega)
              have p2 := mpn (x := v - u) (y := -U) (by omega) (by omega)
              have hq : (a - u) * B < 0 := Int.mul_neg_of_neg_of_pos (by omega) hB
              have hA := lt_of (n := b - u) (x := A) (by omega) (by omega)
              have p3 := mpn (x := v - b) (y := A) (by omega) (by omega)
              have p4 := mpp (x := v - a) (y := B) (by omega) (by omega)
              have hV := le_of (n := v - u) (x := V) (by omega) (by omega)
              exact n ⟨mnp (by omega) (by omega), mpn (by omega) (by omega), by omega⟩
          · intro hU
            by_cases hB : 0 < B
            · exact hB
            · exfalso
              have t2 : (a - u) * D + (b - a) * A = (b - u) * A - (a - u) * B := by subst d1; grind
              have p1 := mnn (x := a - u) (y := B) (by omega) (by omega)
              have p2 := Int.mul_pos (a := v - u) (b := -U) (by omega) (by omega)
              have hA := gt_of (n := b - u) (x := A) (by omega) (by omega)
              have p3 := mpp (x := v - b) (y := A) (by omega) (by omega)
              have p4 := mpn (x := v - a) (y := B) (by omega) (by omega)
              have hV := ge_of (n := v - u) (x := V) (by omega) (by omega)
              exact n ⟨mpn (by omega) (by omega), mnp (by omega) (by omega), by omega⟩
        have g1 : decide (u ≤ a) = false := by simp; omega
        have g2 : decide (v ≤ b) = false := by simp; omega
        simp [c2, c2', c3, c4, g1, g2, e]
      · have e : (U < 0) ↔ (V < 0) := by
          have y3 : (b - a) * A = (u - a) * D - (v - u) * U := by
            have : (v - u) * (-U) = - ((v - u) * U) := by grind
            have : (u - a) * D = - ((a - u) * D) := by grind
            omega
          have y4 : (b - a) * B = (b - u) * (-D) - (v - u) * U := by
            have e1 : (b - a) * B = (b - a) * A - (b - a) * D := by subst d1; grind
            have e2 : (u - a) * D - (b - a) * D = (b - u) * (-D) := by grind
            omega
          constructor
          · intro hU
            by_cases hV : V < 0
            · exact hV
            · exfalso
              have p1 := mpp (x := u - a) (y := D) (by omega) (by omega)
              have p2 := mpn (x := v - u) (y := U) (by omega) (by omega)
              have hA := ge_of (n := b - a) (x := A) (by omega) (by omega)
              have e5 : (b - u) * (-D) - (v - u) * U = (b - v) * (-D) - (v - u) * V := by subst d2; grind
              have p3 := mpn (x := b - v) (y := -D) (by omega) (by omega)
              have p4 := mpp (x := v - u) (y := V) (by omega) (by omega)
              have hB := le_of (n := b - a) (x := B) (by omega) (by omega)
              exact n ⟨mpn (by omega) (by omega), mnp (by omega) (by omega), by omega⟩
          · intro hV
            by_cases hU : U < 0
            · exact hU
            · exfalso
              have p1 := mpn (x := u - a) (y := D) (by omega) (by omega)
              have p2 := mpp (x := v - u) (y := U) (by omega) (by omega)
              have hA := le_of (n := b - a) (x := A) (by omega) (by omega)
              have e5 : (b - u) * (-D) - (v - u) * U = (b - v) * (-D) - (v - u) * V := by subst d2; grind
              have p3 := mpp (x := b - v) (y := -D) (by omega) (by omega)
              have p4 := mpn (x := v - u) (y := V) (by omega) (by omega)
              have hB := ge_of (n := b - a) (x := B) (by omega) (by omega)
              exact n ⟨mnp (by omega) (by omega), mpn (by omega) (by omega), by omega⟩
        have g1 : decide (u ≤ a) = false := by simp; omega
        have g2 : decide (b < v) = false := by simp; omega
        have g3 : decide (v ≤ b) = true := by simp; omega
        simp [c2, c2', c3, g1, g2, g3, e]
    · by_cases c5 : u ≤ b
      · have g1 : decide (a < v) = false := by simp; omega
        have g2 : decide (b < v) = decide (b < v) := rfl
        by_cases c6 : b < v
        · omega
        · have g4 : decide (b < v) = false := by simp; omega
          by_cases c7 : a < u
          · omega
          · have g5 : decide (a < u) = false := by simp; omega
            simp [g1, g4, g5]
      · have g1 : decide (u ≤ a) = false := by simp; omega
        have g2 : decide (u ≤ b) = false := by simp; omega
        have g3 : decide (v ≤ b) = false := by simp; omega
        simp [g1, g2, g3]

theorem w_on {p1 p2 a1 a2 b1 b2 : Int} (i j n : Int) (hi : 0 ≤ i) (hj : 0 ≤ j) (hn : n = i + j) (hp : 0 < n) (e1 : n * p1 = i * a1 + j * b1) (e2 : n * p2 = i * a2 + j * b2) : on p1 p2 a1 a2 b1 b2 = true := by
  rw [← near_zero]
  exact near_w p1 p2 a1 a2 b1 b2 0 i j n hi hj hn hp (by rw [e1, e2]; simp)
theorem meet_w {a1 a2 b1 b2 u1 u2 v1 v2 : Int} (hA : cross u1 u2 v1 v2 a1 a2 * cross u1 u2 v1 v2 b1 b2 ≤ 0) (hU : cross a1 a2 b1 b2 u1 u2 * cross a1 a2 b1 b2 v1 v2 ≤ 0)
    (hD : cross u1 u2 v1 v2 a1 a2 - cross u1 u2 v1 v2 b1 b2 ≠ 0) : meetB a1 a2 b1 b2 u1 u2 v1 v2 = true := by
  have d : cross u1 u2 v1 v2 a1 a2 - cross u1 u2 v1 v2 b1 b2 = cross a1 a2 b1 b2 v1 v2 - cross a1 a2 b1 b2 u1 u2 := by unfold cross; grind
  have x1 : (v1 - u1) * (-(cross a1 a2 b1 b2 u1 u2)) = (a1 - u1) * (cross u1 u2 v1 v2 a1 a2 - cross u1 u2 v1 v2 b1 b2) + (b1 - a1) * cross u1 u2 v1 v2 a1 a2 := by unfold cross; grind
  have x2 : (v2 - u2) * (-(cross a1 a2 b1 b2 u1 u2)) = (a2 - u2) * (cross u1 u2 v1 v2 a1 a2 - cross u1 u2 v1 v2 b1 b2) + (b2 - a2) * cross u1 u2 v1 v2 a1 a2 := by unfold cross; grind
  unfold meetB
  by_cases h1 : cross a1 a2 b1 b2 u1 u2 * cross a1 a2 b1 b2 v1 v2 < 0 ∧ cross u1 u2 v1 v2 a1 a2 * cross u1 u2 v1 v2 b1 b2 < 0
  · rw [(crossB_iff _ _ _ _ _ _ _ _).2 h1.1, (crossB_iff _ _ _ _ _ _ _ _).2 h1.2]
    rfl
  · suffices h : anyOn a1 a2 b1 b2 u1 u2 v1 v2 = true by rw [h]; simp
    generalize cross u1 u2 v1 v2 a1 a2 = A at *
    generalize cross u1 u2 v1 v2 b1 b2 = B at *
    generalize cross a1 a2 b1 b2 u1 u2 = U at *
    generalize cross a1 a2 b1 b2 v1 v2 = V at *
    have hz : A = 0 ∨ B = 0 ∨ U = 0 ∨ V = 0 := by
      have : A * B = 0 ∨ U * V = 0 := by omega
      rcases this with h | h
      · rcases Int.mul_eq_zero.1 h with h | h <;> simp [h]
      · rcases Int.mul_eq_zero.1 h with h | h <;> simp [h]
    have sU : (0 < A - B ∧ U ≤ 0 ∧ 0 ≤ V) ∨ (A - B < 0 ∧ V ≤ 0 ∧ 0 ≤ U) := by
      by_cases hp : 0 < A - B
      · left
        refine ⟨hp, ?_, ?_⟩
        · by_cases hu : U ≤ 0
          · exact hu
          · have := Int.mul_pos (a := U) (b := V) (by omega) (by omega); omega
        · by_cases hv : 0 ≤ V
          · exact hv
          · have := Int.mul_pos_of_neg_of_neg (a := U) (b := V) (by omega) (by omega); omega
      · right
        refine ⟨by omega, ?_, ?_⟩
        · by_cases hv : V ≤ 0
          · exact hv
          · have := Int.mul_pos (a := U) (b := V) (by omega) (by omega); omega
        · by_cases hu : 0 ≤ U
          · exact hu
          · have := Int.mul_pos_of_neg_of_neg (a := U) (b := V) (by omega) (by omega); omega
    have sA : (0 < A - B → 0 ≤ A ∧ B ≤ 0) ∧ (A - B < 0 → A ≤ 0 ∧ 0 ≤ B) := by
      refine ⟨fun hp => ⟨?_, ?_⟩, fun hp => ⟨?_, ?_⟩⟩
      · by_cases hu : 0 ≤ A
        · exact hu
        · have := Int.mul_pos_of_neg_of_neg (a := A) (b := B) (by omega) (by omega); omega
      · by_cases hu : B ≤ 0
        · exact hu
        · have := Int.mul_pos (a := A) (b := B) (by omega) (by omega); omega
      · by_cases hu : A ≤ 0
        · exact hu
        · have := Int.mul_pos (a := A) (b := B) (by omega) (by omega); omega
      · by_cases hu : 0 ≤ B
        · exact hu
        · have := Int.mul_pos_of_neg_of_neg (a := A) (b := B) (by omega) (by omega); omega
    unfold anyOn
    rcases hz with h | h | h | h
    · have : on a1 a2 u1 u2 v1 v2 = true := by
        rcases sU with ⟨hp, hu, hv⟩ | ⟨hp, hv, hu⟩
        · exact w_on V (-U) (A - B) hv (by omega) (by omega) hp (by subst h; grind) (by subst h; grind)
        · exact w_on (-V) U (B - A) (by omega) hu (by omega) (by omega) (by subst h; grind) (by subst h; grind)
      simp [this]
    · have : on b1 b2 u1 u2 v1 v2 = true := by
        rcases sU with ⟨hp, hu, hv⟩ | ⟨hp, hv, hu⟩
        · exact w_on V (-U) (A - B) hv (by omega) (by omega) hp (by subst h; grind) (by subst h; grind)
        · exact w_on (-V) U (B - A) (by omega) hu (by omega) (by omega) (by subst h; grind) (by subst h; grind)
      simp [this]
    · have : on u1 u2 a1 a2 b1 b2 = true := by
        rcases Int.lt_or_gt_of_ne hD with hp | hp
        · obtain ⟨k1, k2⟩ := sA.2 hp
          exact w_on B (-A) (B - A) k2 (by omega) (by omega) (by omega) (by subst h; grind) (by subst h; grind)
        · obtain ⟨k1, k2⟩ := sA.1 hp
          exact w_on (-B) A (A - B) (by omega) k1 (by omega) (by omega) (by subst h; grind) (by subst h; grind)
      simp [this]
    · have : on v1 v2 a1 a2 b1 b2 = true := by
        rcases Int.lt_or_gt_of_ne hD with hp | hp
        · obtain ⟨k1, k2⟩ := sA.2 hp
          exact w_on B (-A) (B - A) k2 (by omega) (by omega) (by omega) (by subst h; grind) (by subst h; grind)
        · obtain ⟨k1, k2⟩ := sA.1 hp
          exact w_on (-B) A (A - B) (by omega) k1 (by omega) (by omega) (by subst h; grind) (by subst h; grind)
      simp [this]
/-- A corner lies left of a rising segment, at a height of it. -/
def lft (a b p : Pt) : Bool := decide (a.2 < p.2) && decide (p.2 ≤ b.2) && decide (cross a.1 a.2 b.1 b.2 p.1 p.2 < 0)
theorem tu_pos {a b q : Pt} : (0 < tu a b q) ↔ 0 < cross a.1 a.2 b.1 b.2 q.1 q.2 := by
  unfold tu turn cmp
  split
  · omega
  · split <;> omega
theorem paE_up {q u v : Pt} (h : u.2 ≤ v.2) : paE q u v = (decide (u.2 ≤ q.2) && decide (q.2 < v.2) && decide (0 < cross u.1 u.2 v.1 v.2 q.1 q.2)) := by
  unfold paE
  rw [if_neg (by omega)]
  simp only [tu_pos]
theorem paE_sym (q u v : Pt) : paE q u v = paE q v u := by
  rw [Bool.eq_iff_iff, paE_iff, paE_iff]
  omega
theorem par0 {a b u v : Pt} (hab : a.2 ≤ b.2) (huv : u.2 ≤ v.2) (n : meP a b u v = false) : (paE a u v ^^ paE b u v) = (lft a b u ^^ lft a b v) := by
  rw [paE_up huv, paE_up huv]
  unfold lft
  refine signs (D := cross u.1 u.2 v.1 v.2 a.1 a.2 - cross u.1 u.2 v.1 v.2 b.1 b.2) hab huv rfl (by unfold cross; grind) (by unfold cross; grind) (by unfold cross; grind) ?_
  rintro ⟨h1, h2, h3⟩
  have := meet_w h1 h2 h3
  unfold meP at n
  rw [this] at n
  cases n
theorem par1 {a b u v : Pt} (hab : a.2 ≤ b.2) (n : meP a b u v = false) : (paE a u v ^^ paE b u v) = (lft a b u ^^ lft a b v) := by
  by_cases huv : u.2 ≤ v.2
  · exact par0 hab huv n
  · have n' : meP a b v u = false := by
      unfold meP at n ⊢
      rw [meet_swap, meet_flip, meet_swap]
      exact n
    rw [paE_sym a u v, paE_sym b u v, par0 hab (by omega) n', Bool.xor_comm]
def parK (q : Pt) (l : List Pt) (k : Nat) : Bool := (List.range k).foldl (fun b i => b != paE q (gp l i) (nx l i)) false
theorem parK_succ (q : Pt) (l : List Pt) (k : Nat) : parK q l (k + 1) = (parK q l k ^^ paE q (gp l k) (nx l k)) := by
  unfold parK
  rw [List.range_succ, List.foldl_append]
  simp
theorem par_steps {a b : Pt} {l : List Pt} (hab : a.2 ≤ b.2) (n : ∀ i, i < l.length → meP a b (gp l i) (nx l i) = false) (k : Nat) (hk : k ≤ l.length) :
    (parK a l k ^^ parK b l k) = (lft a b (gp l 0) ^^ lft a b (gp l (k % l.length))) := by
  induction k with
  | zero => simp [parK]
  | succ k ih =>
    have h := ih (by omega)
    rw [Nat.mod_eq_of_lt (by omega)] at h
    have e := par1 hab (n k (by omega))
    rw [parK_succ, parK_succ, show gp l ((k + 1) % l.length) = nx l k from rfl]
    revert h e
    cases parK a l k <;> cases parK b l k <;> cases paE a (gp l k) (nx l k) <;> cases paE b (gp l k) (nx l k) <;> cases lft a b (gp l 0) <;> cases lft a b (gp l k) <;> cases lft a b (nx l k) <;> simp
theorem par_eq0 {a b : Pt} {l : List Pt} (hab : a.2 ≤ b.2) (n : ∀ i, i < l.length → meP a b (gp l i) (nx l i) = false) : parK a l l.length = parK b l l.length := by
  have h := par_steps hab n l.length (Nat.le_refl _)
  rw [Nat.mod_self] at h
  revert h
  cases parK a l l.length <;> cases parK b l l.length <;> simp
/-- A segment that meets no edge: as many edges pass east of the one end as of the other, but for an even number. -/
theorem par_eq {a b : Pt} {l : List Pt} (n : ∀ i, i < l.length → meP a b (gp l i) (nx l i) = false) : parK a l l.length = parK b l l.length := by
  by_cases hab : a.2 ≤ b.2
  · exact par_eq0 hab n
  · refine (par_eq0 (a := b) (b := a) (by omega) fun i hi => ?_).symm
    have := n i hi
    unfold meP at this ⊢
    rw [meet_flip]
    exact this
theorem siL_par (q : Pt) (l : List Pt) : siL q l = if ((List.range l.length).any fun i => onP q (gp l i) (nx l i)) = true then 0 else if parK q l l.length = true then 1 else -1 := rfl
theorem geo_inside {a b : Pt} {l : List Pt} (h : siL a l * siL b l = -1) : ((List.range l.length).any fun i => meP a b (gp l i) (nx l i)) = true := by
  cases hm : (List.range l.length).any fun i => meP a b (gp l i) (nx l i)
  · exfalso
    have n : ∀ i, i < l.length → meP a b (gp l i) (nx l i) = false := fun i hi => by
      rw [List.any_eq_false] at hm
      simpa using hm i (List.mem_range.2 hi)
    have e := par_eq n
    rw [siL_par, siL_par, e] at h
    revert h
    split <;> split <;> (try split) <;> simp
  · rfl

end Go.Proofs.Ytphcmdmfjhjidaa.Po
