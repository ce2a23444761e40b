/- Plain geometry of places and segments: no program. -/
import Derived.Test.YtfgajejhjbfhjaaGreatPlaneI
section
namespace Go.Proofs.YtfgajejhjbfhjaaGreat
open Go.RowKit

theorem cmp_le {x y : Int} : cmp x y ≤ 0 ↔ x ≤ y := by
  unfold cmp
  repeat' split
  all_goals omega
theorem cmp_ge {x y : Int} : 0 ≤ cmp x y ↔ y ≤ x := by
  unfold cmp
  repeat' split
  all_goals omega
theorem cmp_eq {x : Int} : cmp x 0 = 0 ↔ x = 0 := by
  unfold cmp
  repeat' split
  all_goals omega
theorem turn_eq (a1 a2 b1 b2 c1 c2 : Int) : turn a1 a2 b1 b2 c1 c2 = 0 ↔ cross a1 a2 b1 b2 c1 c2 = 0 := cmp_eq
theorem cmp_mul {x y : Int} : cmp x 0 * cmp y 0 < 0 ↔ x * y < 0 := by
  unfold cmp
  rcases Int.lt_trichotomy x 0 with h | h | h
  · rw [if_pos h]
    rcases Int.lt_trichotomy y 0 with k | k | k
    · rw [if_pos k]
      have := Int.mul_pos_of_neg_of_neg h k
      omega
    · subst k
      simp
    · rw [if_neg (by omega), if_pos k]
      have := Int.mul_neg_of_neg_of_pos h k
      omega
  · subst h
    simp
  · rw [if_neg (by omega), if_pos h]
    rcases Int.lt_trichotomy y 0 with k | k | k
    · rw [if_pos k]
      have := Int.mul_neg_of_pos_of_neg h k
      omega
    · subst k
      simp
    · rw [if_neg (by omega), if_pos k]
      have := Int.mul_pos h k
      omega
theorem crossB_iff (a1 a2 b1 b2 c1 c2 d1 d2 : Int) : crossB a1 a2 b1 b2 c1 c2 d1 d2 = true ↔ cross a1 a2 b1 b2 c1 c2 * cross a1 a2 b1 b2 d1 d2 < 0 := by
  unfold crossB turn
  rw [decide_eq_true_eq]
  exact cmp_mul

theorem sq_nonneg (a1 a2 b1 b2 : Int) : 0 ≤ sq a1 a2 b1 b2 := by
  have h1 := sq_nn (b1 - a1)
  have h2 := sq_nn (b2 - a2)
  unfold sq dot
  omega
theorem sq_zero {x : Int} (h : x * x ≤ 0) : x = 0 := by
  rcases Int.lt_trichotomy x 0 with k | k | k
  · have := Int.mul_pos_of_neg_of_neg k k
    omega
  · exact k
  · have := Int.mul_pos k k
    omega
theorem sq_eq (a1 a2 b1 b2 : Int) (h : sq a1 a2 b1 b2 ≤ 0) : a1 = b1 ∧ a2 = b2 := by
  have h1 := sq_nn (b1 - a1)
  have h2 := sq_nn (b2 - a2)
  unfold sq dot at h
  have k1 := sq_zero (x := b1 - a1) (by omega)
  have k2 := sq_zero (x := b2 - a2) (by omega)
  omega
theorem sq_pos (a1 a2 b1 b2 : Int) (h : ¬ (a1 = b1 ∧ a2 = b2)) : 0 < sq a1 a2 b1 b2 := by
  have h1 := sq_nonneg a1 a2 b1 b2
  have h2 := sq_eq a1 a2 b1 b2
  omega

theorem btw (n a b : Int) : between n a b = true ↔ 0 ≤ (b - a) * (n - a) ∧ (b - a) * (n - a) ≤ (b - a) * (b - a) ∧ (a = b → n = a) := by
  unfold between
  rw [Bool.and_eq_true, decide_eq_true_eq, decide_eq_true_eq]
  constructor
  · rintro ⟨h1, h2⟩
    rcases Int.le_total a b with h | h
    · have g1 := Int.mul_nonneg (a := b - a) (b := n - a) (by omega) (by omega)
      have g2 := Int.mul_le_mul_of_nonneg_left (a := n - a) (b := b - a) (c := b - a) (by omega) (by omega)
      exact ⟨g1, g2, by omega⟩
    · have g1 := Int.mul_nonneg_of_nonpos_of_nonpos (a := b - a) (b := n - a) (by omega) (by omega)
      have g2 := Int.mul_nonneg_of_nonpos_of_nonpos (a := b - a) (b := b - n) (by omega) (by omega)
      have e : (b - a) * (b - n) = (b - a) * (b - a) - (b - a) * (n - a) := by grind
      exact ⟨g1, by omega, by omega⟩
  · rintro ⟨h1, h2, h3⟩
    have e : (b - a) * (b - n) = (b - a) * (b - a) - (b - a) * (n - a) := by grind
    rcases Int.lt_trichotomy a b with h | h | h
    · have g1 : ¬ n - a < 0 := fun k => by
        have := Int.mul_neg_of_pos_of_neg (a := b - a) (b := n - a) (by omega) k
        omega
      have g2 : ¬ b - n < 0 := fun k => by
        have := Int.mul_neg_of_pos_of_neg (a := b - a) (b := b - n) (by omega) k
        omega
      omega
    · omega
    · have g1 : ¬ 0 < n - a := fun k => by
        have := Int.mul_neg_of_neg_of_pos (a := b - a) (b := n - a) (by omega) k
        omega
      have g2 : ¬ 0 < b - n := fun k => by
        have := Int.mul_neg_of_neg_of_pos (a := b - a) (b := b - n) (by omega) k
        omega
      omega

theorem on_elim {p1 p2 a1 a2 b1 b2 : Int} (h : on p1 p2 a1 a2 b1 b2 = true) : cross a1 a2 b1 b2 p1 p2 = 0 ∧ 0 ≤ dot a1 a2 b1 b2 p1 p2 ∧ dot a1 a2 b1 b2 p1 p2 ≤ sq a1 a2 b1 b2 ∧ (a1 = b1 → a2 = b2 → p1 = a1 ∧ p2 = a2) := by
  unfold on at h
  rw [Bool.and_eq_true, Bool.and_eq_true, decide_eq_true_eq, turn_eq, btw, btw] at h
  obtain ⟨⟨h0, h1, h2, h3⟩, h4, h5, h6⟩ := h
  refine ⟨h0, ?_, ?_, fun k1 k2 => ⟨h3 k1, h6 k2⟩⟩
  · unfold dot
    omega
  · unfold sq dot
    omega
theorem on_intro {p1 p2 a1 a2 b1 b2 : Int} (h0 : cross a1 a2 b1 b2 p1 p2 = 0) (h1 : 0 ≤ dot a1 a2 b1 b2 p1 p2) (h2 : dot a1 a2 b1 b2 p1 p2 ≤ sq a1 a2 b1 b2) (h3 : a1 = b1 → a2 = b2 → p1 = a1 ∧ p2 = a2) : on p1 p2 a1 a2 b1 b2 = true := by
  unfold on
  rw [Bool.and_eq_true, Bool.and_eq_true, decide_eq_true_eq, turn_eq, btw, btw]
  by_cases hab : a1 = b1 ∧ a2 = b2
  · obtain ⟨rfl, rfl⟩ := hab
    obtain ⟨rfl, rfl⟩ := h3 rfl rfl
    refine ⟨⟨h0, ?_⟩, ?_⟩ <;> simp
  · have hN := sq_pos a1 a2 b1 b2 hab
    have e1 : sq a1 a2 b1 b2 * (p1 - a1) = (b1 - a1) * dot a1 a2 b1 b2 p1 p2 := by unfold sq dot cross at *; grind
    have e2 : sq a1 a2 b1 b2 * (p2 - a2) = (b2 - a2) * dot a1 a2 b1 b2 p1 p2 := by unfold sq dot cross at *; grind
    generalize dot a1 a2 b1 b2 p1 p2 = T at *
    generalize sq a1 a2 b1 b2 = N at *
    have s1 := sq_nn (b1 - a1)
    have s2 := sq_nn (b2 - a2)
    refine ⟨⟨h0, pos_of_mul hN ?_, ?_, ?_⟩, pos_of_mul hN ?_, ?_, ?_⟩
    · have : N * ((b1 - a1) * (p1 - a1)) = (b1 - a1) * (b1 - a1) * T := by grind
      rw [this]
      exact Int.mul_nonneg s1 h1
    · have := pos_of_mul hN (x := (b1 - a1) * (b1 - a1) - (b1 - a1) * (p1 - a1)) (by
        have : N * ((b1 - a1) * (b1 - a1) - (b1 - a1) * (p1 - a1)) = (b1 - a1) * (b1 - a1) * (N - T) := by grind
        rw [this]
        exact Int.mul_nonneg s1 (by omega))
      omega
    · intro k
      have : N * (p1 - a1) = 0 := by rw [e1, k]; simp
      have := (Int.mul_eq_zero.1 this).resolve_left (by omega)
      omega
    · have : N * ((b2 - a2) * (p2 - a2)) = (b2 - a2) * (b2 - a2) * T := by grind
      rw [this]
      exact Int.mul_nonneg s2 h1
    · have := pos_of_mul hN (x := (b2 - a2) * (b2 - a2) - (b2 - a2) * (p2 - a2)) (by
        have : N * ((b2 - a2) * (b2 - a2) - (b2 - a2) * (p2 - a2)) = (b2 - a2) * (b2 - a2) * (N - T) := by grind
        rw [this]
        exact Int.mul_nonneg s2 (by omega))
      omega
    · intro k
      have : N * (p2 - a2) = 0 := by rw [e2, k]; simp
      have := (Int.mul_eq_zero.1 this).resolve_left (by omega)
      omega

/-- Near, taken apart. -/
theorem near_iff (p1 p2 a1 a2 b1 b2 d : Int) : nearB p1 p2 a1 a2 b1 b2 d = true ↔
    (((a1 = b1 ∧ a2 = b2) ∨ dot a1 a2 b1 b2 p1 p2 < 0) → sq a1 a2 p1 p2 ≤ d * d) ∧
    (¬ ((a1 = b1 ∧ a2 = b2) ∨ dot a1 a2 b1 b2 p1 p2 < 0) → sq a1 a2 b1 b2 < dot a1 a2 b1 b2 p1 p2 → sq b1 b2 p1 p2 ≤ d * d) ∧
    (¬ ((a1 = b1 ∧ a2 = b2) ∨ dot a1 a2 b1 b2 p1 p2 < 0) → ¬ sq a1 a2 b1 b2 < dot a1 a2 b1 b2 p1 p2 → cross a1 a2 b1 b2 p1 p2 * cross a1 a2 b1 b2 p1 p2 ≤ d * d * sq a1 a2 b1 b2) := by
  unfold nearB cmpDist
  rw [decide_eq_true_eq]
  by_cases h1 : (a1 = b1 ∧ a2 = b2) ∨ dot a1 a2 b1 b2 p1 p2 < 0
  · rw [if_pos h1, cmp_le]
    exact ⟨fun h => ⟨fun _ => h, fun k => absurd h1 k, fun k => absurd h1 k⟩, fun h => h.1 h1⟩
  · rw [if_neg h1]
    by_cases h2 : sq a1 a2 b1 b2 < dot a1 a2 b1 b2 p1 p2
    · rw [if_pos h2, cmp_le]
      exact ⟨fun h => ⟨fun k => absurd k h1, fun _ _ => h, fun _ k => absurd h2 k⟩, fun h => h.2.1 h1 h2⟩
    · rw [if_neg h2, cmp_le]
      exact ⟨fun h => ⟨fun k => absurd k h1, fun _ k => absurd k h2, fun _ _ => h⟩, fun h => h.2.2 h1 h2⟩


/-- What is within d of a weighted point of a segment is near it. -/
theorem near_w (p1 p2 a1 a2 b1 b2 d i j n : Int) (hi : 0 ≤ i) (hj : 0 ≤ j) (hn : n = i + j) (hp : 0 < n)
    (h : (n * p1 - (i * a1 + j * b1)) * (n * p1 - (i * a1 + j * b1)) + (n * p2 - (i * a2 + j * b2)) * (n * p2 - (i * a2 + j * b2)) ≤ n * n * (d * d)) : nearB p1 p2 a1 a2 b1 b2 d = true := by
  have hnn : 0 < n * n := Int.mul_pos hp hp
  rw [near_iff]
  refine ⟨fun k => le_mul hnn (Int.le_trans ?_ h), fun _ k => le_mul hnn (Int.le_trans ?_ h), fun k1 _ => le_mul hnn ?_⟩
  · have e : (n * p1 - (i * a1 + j * b1)) * (n * p1 - (i * a1 + j * b1)) + (n * p2 - (i * a2 + j * b2)) * (n * p2 - (i * a2 + j * b2)) = n * n * sq a1 a2 p1 p2 - 2 * (n * j * dot a1 a2 b1 b2 p1 p2) + j * j * sq a1 a2 b1 b2 := by
      subst hn; unfold sq dot; grind
    have g : 0 ≤ j * j * sq a1 a2 b1 b2 := Int.mul_nonneg (Int.mul_nonneg hj hj) (sq_nonneg a1 a2 b1 b2)
    have g2 : n * j * dot a1 a2 b1 b2 p1 p2 ≤ 0 := by
      rcases k with ⟨rfl, rfl⟩ | k
      · have : dot a1 a2 a1 a2 p1 p2 = 0 := by unfold dot; simp
        rw [this]; simp
      · exact Int.mul_nonpos_of_nonneg_of_nonpos (Int.mul_nonneg (by omega) hj) (by omega)
    omega
  · have e : (n * p1 - (i * a1 + j * b1)) * (n * p1 - (i * a1 + j * b1)) + (n * p2 - (i * a2 + j * b2)) * (n * p2 - (i * a2 + j * b2)) = n * n * sq b1 b2 p1 p2 + 2 * (n * i * (dot a1 a2 b1 b2 p1 p2 - sq a1 a2 b1 b2)) + i * i * sq a1 a2 b1 b2 := by
      subst hn; unfold sq dot; grind
    have g : 0 ≤ i * i * sq a1 a2 b1 b2 := Int.mul_nonneg (Int.mul_nonneg hi hi) (sq_nonneg a1 a2 b1 b2)
    have g2 : 0 ≤ n * i * (dot a1 a2 b1 b2 p1 p2 - sq a1 a2 b1 b2) := Int.mul_nonneg (Int.mul_nonneg (by omega) hi) (by omega)
    omega
  · have hN : 0 ≤ sq a1 a2 b1 b2 := sq_nonneg a1 a2 b1 b2
    have h' := Int.mul_le_mul_of_nonneg_left h hN
    have e : sq a1 a2 b1 b2 * ((n * p1 - (i * a1 + j * b1)) * (n * p1 - (i * a1 + j * b1)) + (n * p2 - (i * a2 + j * b2)) * (n * p2 - (i * a2 + j * b2))) =
        n * n * (cross a1 a2 b1 b2 p1 p2 * cross a1 a2 b1 b2 p1 p2) + (n * dot a1 a2 b1 b2 p1 p2 - j * sq a1 a2 b1 b2) * (n * dot a1 a2 b1 b2 p1 p2 - j * sq a1 a2 b1 b2) := by
      subst hn; unfold sq dot cross; grind
    have g := sq_nn (n * dot a1 a2 b1 b2 p1 p2 - j * sq a1 a2 b1 b2)
    have e2 : n * n * (d * d * sq a1 a2 b1 b2) = sq a1 a2 b1 b2 * (n * n * (d * d)) := by grind
    omega

/-- A place of a segment, weighted. -/
theorem on_w {q1 q2 a1 a2 b1 b2 : Int} (h : on q1 q2 a1 a2 b1 b2 = true) : ∃ i j n : Int, 0 ≤ i ∧ 0 ≤ j ∧ n = i + j ∧ 0 < n ∧ n * q1 = i * a1 + j * b1 ∧ n * q2 = i * a2 + j * b2 := by
  obtain ⟨h0, h1, h2, h3⟩ := on_elim h
  by_cases hab : a1 = b1 ∧ a2 = b2
  · obtain ⟨rfl, rfl⟩ := hab
    obtain ⟨rfl, rfl⟩ := h3 rfl rfl
    exact ⟨1, 0, 1, by omega, by omega, by omega, by omega, by omega, by omega⟩
  · have hN := sq_pos a1 a2 b1 b2 hab
    refine ⟨sq a1 a2 b1 b2 - dot a1 a2 b1 b2 q1 q2, dot a1 a2 b1 b2 q1 q2, sq a1 a2 b1 b2, by omega, by omega, by omega, hN, ?_, ?_⟩ <;> unfold sq dot cross at * <;> grind

/-- What is within d of a place of a segment is near it. -/
theorem near_on {p1 p2 q1 q2 a1 a2 b1 b2 d : Int} (hq : on q1 q2 a1 a2 b1 b2 = true) (h : sq p1 p2 q1 q2 ≤ d * d) : nearB p1 p2 a1 a2 b1 b2 d = true := by
  obtain ⟨i, j, n, hi, hj, hn, hp, e1, e2⟩ := on_w hq
  refine near_w p1 p2 a1 a2 b1 b2 d i j n hi hj hn hp ?_
  have e : (n * p1 - (i * a1 + j * b1)) * (n * p1 - (i * a1 + j * b1)) + (n * p2 - (i * a2 + j * b2)) * (n * p2 - (i * a2 + j * b2)) = n * n * sq p1 p2 q1 q2 := by
    rw [← e1, ← e2]; unfold sq dot; grind
  rw [e]
  exact Int.mul_le_mul_of_nonneg_left h (by have := sq_nn n; omega)

theorem sq_self (a1 a2 : Int) : sq a1 a2 a1 a2 = 0 := by unfold sq dot; simp
theorem sq_comm (a1 a2 b1 b2 : Int) : sq a1 a2 b1 b2 = sq b1 b2 a1 a2 := by unfold sq dot; grind

/-- Near with the distance 0: on it. -/
theorem near_zero (p1 p2 a1 a2 b1 b2 : Int) : nearB p1 p2 a1 a2 b1 b2 0 = on p1 p2 a1 a2 b1 b2 := by
  rw [Bool.eq_iff_iff]
  constructor
  · intro h
    rw [near_iff] at h
    obtain ⟨g1, g2, g3⟩ := h
    by_cases k : (a1 = b1 ∧ a2 = b2) ∨ dot a1 a2 b1 b2 p1 p2 < 0
    · obtain ⟨rfl, rfl⟩ := sq_eq a1 a2 p1 p2 (by have := g1 k; omega)
      have hd : dot a1 a2 b1 b2 a1 a2 = 0 := by unfold dot; simp
      have hc : cross a1 a2 b1 b2 a1 a2 = 0 := by unfold cross; simp
      exact on_intro hc (by omega) (by have := sq_nonneg a1 a2 b1 b2; omega) (fun _ _ => ⟨rfl, rfl⟩)
    · by_cases k2 : sq a1 a2 b1 b2 < dot a1 a2 b1 b2 p1 p2
      · obtain ⟨rfl, rfl⟩ := sq_eq b1 b2 p1 p2 (by have := g2 k k2; omega)
        have hd : dot a1 a2 b1 b2 b1 b2 = sq a1 a2 b1 b2 := rfl
        omega
      · have := g3 k k2
        have hc := sq_zero (x := cross a1 a2 b1 b2 p1 p2) (by omega)
        exact on_intro hc (by omega) (by omega) (fun k3 k4 => absurd (Or.inl ⟨k3, k4⟩) k)
  · intro h
    exact near_on h (by rw [sq_self]; omega)

theorem near_mono {p1 p2 a1 a2 b1 b2 d f : Int} (hd : 0 ≤ d) (hdf : d ≤ f) (h : nearB p1 p2 a1 a2 b1 b2 d = true) : nearB p1 p2 a1 a2 b1 b2 f = true := by
  have hq : d * d ≤ f * f := Int.mul_le_mul hdf hdf hd (by omega)
  rw [near_iff] at *
  obtain ⟨g1, g2, g3⟩ := h
  refine ⟨fun k => Int.le_trans (g1 k) hq, fun k k2 => Int.le_trans (g2 k k2) hq, fun k k2 => Int.le_trans (g3 k k2) (Int.mul_le_mul_of_nonneg_right hq (sq_nonneg a1 a2 b1 b2))⟩

/-- The two sides of a triangle are not shorter than the third one. -/
theorem tri {a1 a2 b1 b2 c1 c2 u v : Int} (hu : 0 ≤ u) (hv : 0 ≤ v) (h1 : sq a1 a2 b1 b2 ≤ u * u) (h2 : sq b1 b2 c1 c2 ≤ v * v) : sq a1 a2 c1 c2 ≤ (u + v) * (u + v) := by
  have e : sq a1 a2 c1 c2 = sq a1 a2 b1 b2 + sq b1 b2 c1 c2 + 2 * ((b1 - a1) * (c1 - b1) + (b2 - a2) * (c2 - b2)) := by unfold sq dot; grind
  have l : ((b1 - a1) * (c1 - b1) + (b2 - a2) * (c2 - b2)) * ((b1 - a1) * (c1 - b1) + (b2 - a2) * (c2 - b2)) + ((b1 - a1) * (c2 - b2) - (b2 - a2) * (c1 - b1)) * ((b1 - a1) * (c2 - b2) - (b2 - a2) * (c1 - b1)) = sq a1 a2 b1 b2 * sq b1 b2 c1 c2 := by unfold sq dot; grind
  have g := sq_nn ((b1 - a1) * (c2 - b2) - (b2 - a2) * (c1 - b1))
  have m : sq a1 a2 b1 b2 * sq b1 b2 c1 c2 ≤ u * u * (v * v) := Int.mul_le_mul h1 h2 (sq_nonneg b1 b2 c1 c2) (sq_nn u)
  have uv : 0 ≤ u * v := Int.mul_nonneg hu hv
  have e3 : (u + v) * (u + v) = u * u + v * v + 2 * (u * v) := by grind
  have e4 : u * u * (v * v) = u * v * (u * v) := by grind
  generalize (b1 - a1) * (c1 - b1) + (b2 - a2) * (c2 - b2) = x at *
  have hx : x ≤ u * v := by
    by_cases k : u * v < x
    · have : u * v * (u * v) < x * x := by
        have t1 : u * v * (u * v) ≤ u * v * x := Int.mul_le_mul_of_nonneg_left (by omega) uv
        have t2 : u * v * x < x * x := Int.mul_lt_mul_of_pos_right k (by omega)
        omega
      omega
    · omega
  omega

end Go.Proofs.YtfgajejhjbfhjaaGreat
end

section
namespace Go.Proofs.YtfgajejhjbfhjaaGreat
open Go.RowKit

theorem cross_flip (a1 a2 b1 b2 c1 c2 : Int) : cross b1 b2 a1 a2 c1 c2 = - cross a1 a2 b1 b2 c1 c2 := by unfold cross; grind
theorem on_flip (p1 p2 a1 a2 b1 b2 : Int) : on p1 p2 b1 b2 a1 a2 = on p1 p2 a1 a2 b1 b2 := by
  have key : ∀ a1 a2 b1 b2 : Int, on p1 p2 a1 a2 b1 b2 = true → on p1 p2 b1 b2 a1 a2 = true := by
    intro a1 a2 b1 b2 h
    obtain ⟨h0, h1, h2, h3⟩ := on_elim h
    have e1 : dot b1 b2 a1 a2 p1 p2 = sq a1 a2 b1 b2 - dot a1 a2 b1 b2 p1 p2 := by unfold sq dot; grind
    have e2 : sq b1 b2 a1 a2 = sq a1 a2 b1 b2 := sq_comm b1 b2 a1 a2
    exact on_intro (by rw [cross_flip]; omega) (by omega) (by omega) (fun k1 k2 => by have := h3 k1.symm k2.symm; omega)
  rw [Bool.eq_iff_iff]
  exact ⟨key b1 b2 a1 a2, key a1 a2 b1 b2⟩
theorem near_flip (p1 p2 a1 a2 b1 b2 d : Int) : nearB p1 p2 b1 b2 a1 a2 d = nearB p1 p2 a1 a2 b1 b2 d := by
  have key : ∀ a1 a2 b1 b2 : Int, nearB p1 p2 a1 a2 b1 b2 d = true → nearB p1 p2 b1 b2 a1 a2 d = true := by
    intro a1 a2 b1 b2 h
    rw [near_iff] at *
    obtain ⟨g1, g2, g3⟩ := h
    have e1 : dot b1 b2 a1 a2 p1 p2 = sq a1 a2 b1 b2 - dot a1 a2 b1 b2 p1 p2 := by unfold sq dot; grind
    have e2 : sq b1 b2 a1 a2 = sq a1 a2 b1 b2 := sq_comm b1 b2 a1 a2
    have e3 : cross b1 b2 a1 a2 p1 p2 * cross b1 b2 a1 a2 p1 p2 = cross a1 a2 b1 b2 p1 p2 * cross a1 a2 b1 b2 p1 p2 := by rw [cross_flip]; grind
    rw [e1, e2, e3]
    by_cases hab : a1 = b1 ∧ a2 = b2
    · obtain ⟨rfl, rfl⟩ := hab
      exact ⟨fun _ => g1 (.inl ⟨rfl, rfl⟩), fun k => absurd (.inl ⟨rfl, rfl⟩) k, fun k => absurd (.inl ⟨rfl, rfl⟩) k⟩
    · have hN := sq_pos a1 a2 b1 b2 hab
      refine ⟨fun k => ?_, fun k k2 => g1 (.inr (by omega)), fun k k2 => g3 (fun k3 => ?_) (by omega)⟩
      · rcases k with k | k
        · exact absurd ⟨k.1.symm, k.2.symm⟩ hab
        · exact g2 (fun k3 => by rcases k3 with k3 | k3; exact hab k3; omega) (by omega)
      · rcases k3 with k3 | k3
        · exact hab k3
        · omega
  rw [Bool.eq_iff_iff]
  exact ⟨key b1 b2 a1 a2, key a1 a2 b1 b2⟩
theorem crossB_flip (a1 a2 b1 b2 c1 c2 d1 d2 : Int) : crossB b1 b2 a1 a2 c1 c2 d1 d2 = crossB a1 a2 b1 b2 c1 c2 d1 d2 := by
  rw [Bool.eq_iff_iff, crossB_iff, crossB_iff, cross_flip a1 a2 b1 b2 c1 c2, cross_flip a1 a2 b1 b2 d1 d2, Int.neg_mul_neg]
theorem crossB_flip2 (a1 a2 b1 b2 c1 c2 d1 d2 : Int) : crossB a1 a2 b1 b2 d1 d2 c1 c2 = crossB a1 a2 b1 b2 c1 c2 d1 d2 := by
  rw [Bool.eq_iff_iff, crossB_iff, crossB_iff, Int.mul_comm]
theorem anyOn_flip (a1 a2 b1 b2 c1 c2 d1 d2 : Int) : anyOn b1 b2 a1 a2 c1 c2 d1 d2 = anyOn a1 a2 b1 b2 c1 c2 d1 d2 := by
  unfold anyOn
  rw [on_flip c1 c2 a1 a2 b1 b2, on_flip d1 d2 a1 a2 b1 b2]
  cases on a1 a2 c1 c2 d1 d2 <;> cases on b1 b2 c1 c2 d1 d2 <;> cases on c1 c2 a1 a2 b1 b2 <;> cases on d1 d2 a1 a2 b1 b2 <;> rfl
theorem anyOn_swap (a1 a2 b1 b2 c1 c2 d1 d2 : Int) : anyOn c1 c2 d1 d2 a1 a2 b1 b2 = anyOn a1 a2 b1 b2 c1 c2 d1 d2 := by
  unfold anyOn
  cases on a1 a2 c1 c2 d1 d2 <;> cases on b1 b2 c1 c2 d1 d2 <;> cases on c1 c2 a1 a2 b1 b2 <;> cases on d1 d2 a1 a2 b1 b2 <;> rfl
theorem anyNear_flip (a1 a2 b1 b2 c1 c2 d1 d2 r : Int) : anyNear b1 b2 a1 a2 c1 c2 d1 d2 r = anyNear a1 a2 b1 b2 c1 c2 d1 d2 r := by
  unfold anyNear
  rw [near_flip c1 c2 a1 a2 b1 b2, near_flip d1 d2 a1 a2 b1 b2]
  cases nearB a1 a2 c1 c2 d1 d2 r <;> cases nearB b1 b2 c1 c2 d1 d2 r <;> cases nearB c1 c2 a1 a2 b1 b2 r <;> cases nearB d1 d2 a1 a2 b1 b2 r <;> rfl
theorem anyNear_swap (a1 a2 b1 b2 c1 c2 d1 d2 r : Int) : anyNear c1 c2 d1 d2 a1 a2 b1 b2 r = anyNear a1 a2 b1 b2 c1 c2 d1 d2 r := by
  unfold anyNear
  cases nearB a1 a2 c1 c2 d1 d2 r <;> cases nearB b1 b2 c1 c2 d1 d2 r <;> cases nearB c1 c2 a1 a2 b1 b2 r <;> cases nearB d1 d2 a1 a2 b1 b2 r <;> rfl
theorem meet_flip (a1 a2 b1 b2 c1 c2 d1 d2 : Int) : meetB b1 b2 a1 a2 c1 c2 d1 d2 = meetB a1 a2 b1 b2 c1 c2 d1 d2 := by
  unfold meetB
  rw [crossB_flip a1 a2 b1 b2 c1 c2 d1 d2, crossB_flip2 c1 c2 d1 d2 a1 a2 b1 b2, anyOn_flip]
theorem meet_swap (a1 a2 b1 b2 c1 c2 d1 d2 : Int) : meetB c1 c2 d1 d2 a1 a2 b1 b2 = meetB a1 a2 b1 b2 c1 c2 d1 d2 := by
  unfold meetB
  rw [anyOn_swap, Bool.and_comm]
theorem close_flip (a1 a2 b1 b2 c1 c2 d1 d2 r : Int) : closeB b1 b2 a1 a2 c1 c2 d1 d2 r = closeB a1 a2 b1 b2 c1 c2 d1 d2 r := by
  unfold closeB
  rw [meet_flip, anyNear_flip]
theorem close_swap (a1 a2 b1 b2 c1 c2 d1 d2 r : Int) : closeB c1 c2 d1 d2 a1 a2 b1 b2 r = closeB a1 a2 b1 b2 c1 c2 d1 d2 r := by
  unfold closeB
  rw [meet_swap, anyNear_swap]
theorem anyNear_zero (a1 a2 b1 b2 c1 c2 d1 d2 : Int) : anyNear a1 a2 b1 b2 c1 c2 d1 d2 0 = anyOn a1 a2 b1 b2 c1 c2 d1 d2 := by
  unfold anyNear anyOn
  rw [near_zero, near_zero, near_zero, near_zero]
theorem close_zero (a1 a2 b1 b2 c1 c2 d1 d2 : Int) : closeB a1 a2 b1 b2 c1 c2 d1 d2 0 = meetB a1 a2 b1 b2 c1 c2 d1 d2 := by
  unfold closeB
  rw [anyNear_zero]
  unfold meetB
  cases anyOn a1 a2 b1 b2 c1 c2 d1 d2 <;> simp
theorem close_mono {a1 a2 b1 b2 c1 c2 d1 d2 r s : Int} (hr : 0 ≤ r) (hrs : r ≤ s) (h : closeB a1 a2 b1 b2 c1 c2 d1 d2 r = true) : closeB a1 a2 b1 b2 c1 c2 d1 d2 s = true := by
  unfold closeB anyNear at *
  simp only [Bool.or_eq_true] at *
  rcases h with h | ((h | h) | h) | h
  · exact .inl h
  · exact .inr (.inl (.inl (.inl (near_mono hr hrs h))))
  · exact .inr (.inl (.inl (.inr (near_mono hr hrs h))))
  · exact .inr (.inl (.inr (near_mono hr hrs h)))
  · exact .inr (.inr (near_mono hr hrs h))
theorem on_end (a1 a2 b1 b2 : Int) : on b1 b2 a1 a2 b1 b2 = true :=
  on_intro (by unfold cross; grind) (sq_nonneg a1 a2 b1 b2) (Int.le_refl _) (fun h k => ⟨h.symm, k.symm⟩)
theorem meet_end (a1 a2 b1 b2 d1 d2 : Int) : meetB a1 a2 b1 b2 b1 b2 d1 d2 = true := by
  unfold meetB anyOn
  rw [on_end a1 a2 b1 b2]
  simp

/-- With a common place, one pair of ends lies on different sides, or both lie on the line; or a place is an end. -/
theorem sides {p1 p2 a1 a2 b1 b2 c1 c2 d1 d2 : Int} (h1 : on p1 p2 a1 a2 b1 b2 = true) (h2 : on p1 p2 c1 c2 d1 d2 = true) :
    anyOn a1 a2 b1 b2 c1 c2 d1 d2 = true ∨ crossB a1 a2 b1 b2 c1 c2 d1 d2 = true ∨ (cross a1 a2 b1 b2 c1 c2 = 0 ∧ cross a1 a2 b1 b2 d1 d2 = 0) := by
  obtain ⟨h0, _, _, _⟩ := on_elim h1
  obtain ⟨i, j, n, hi, hj, hn, hp, e1, e2⟩ := on_w h2
  have e : n * cross a1 a2 b1 b2 p1 p2 = i * cross a1 a2 b1 b2 c1 c2 + j * cross a1 a2 b1 b2 d1 d2 := by
    subst hn; unfold cross at *; grind
  rw [h0] at e
  by_cases hi0 : i = 0
  · subst hi0
    have q1 : p1 = d1 := by
      have : n * (p1 - d1) = 0 := by grind
      have := (Int.mul_eq_zero.1 this).resolve_left (by omega)
      omega
    have q2 : p2 = d2 := by
      have : n * (p2 - d2) = 0 := by grind
      have := (Int.mul_eq_zero.1 this).resolve_left (by omega)
      omega
    subst q1 q2
    left
    unfold anyOn
    rw [h1]
    simp
  · by_cases hj0 : j = 0
    · subst hj0
      have q1 : p1 = c1 := by
        have : n * (p1 - c1) = 0 := by grind
        have := (Int.mul_eq_zero.1 this).resolve_left (by omega)
        omega
      have q2 : p2 = c2 := by
        have : n * (p2 - c2) = 0 := by grind
        have := (Int.mul_eq_zero.1 this).resolve_left (by omega)
        omega
      subst q1 q2
      left
      unfold anyOn
      rw [h1]
      simp
    · right
      rw [crossB_iff]
      generalize cross a1 a2 b1 b2 c1 c2 = x at *
      generalize cross a1 a2 b1 b2 d1 d2 = y at *
      by_cases hx : x = 0
      · subst hx
        right
        have : j * y = 0 := by grind
        exact ⟨rfl, (Int.mul_eq_zero.1 this).resolve_left (by omega)⟩
      · left
        have hxx : 0 < x * x := by
          have := sq_nn x
          have := sq_zero (x := x)
          omega
        have g : j * (x * y) = - (i * (x * x)) := by grind
        have g2 : 0 < i * (x * x) := Int.mul_pos (by omega) hxx
        by_cases k : 0 ≤ x * y
        · have := Int.mul_nonneg hj k
          omega
        · omega

/-- Segments on one line with a common place: an end of one is on the other. -/
theorem collinear {p1 p2 a1 a2 b1 b2 c1 c2 d1 d2 : Int} (h1 : on p1 p2 a1 a2 b1 b2 = true) (h2 : on p1 p2 c1 c2 d1 d2 = true) (hc : cross a1 a2 b1 b2 c1 c2 = 0) (hd : cross a1 a2 b1 b2 d1 d2 = 0) : anyOn a1 a2 b1 b2 c1 c2 d1 d2 = true := by
  obtain ⟨h0, l0, l1, hz⟩ := on_elim h1
  by_cases hab : a1 = b1 ∧ a2 = b2
  · obtain ⟨rfl, rfl⟩ := hz hab.1 hab.2
    unfold anyOn
    rw [h2]
    simp
  · have hM := sq_pos a1 a2 b1 b2 hab
    have hn : ¬ (a1 = b1 ∧ a2 = b2) := hab
    by_cases kc : 0 ≤ dot a1 a2 b1 b2 c1 c2 ∧ dot a1 a2 b1 b2 c1 c2 ≤ sq a1 a2 b1 b2
    · have := on_intro hc kc.1 kc.2 (fun k1 k2 => absurd ⟨k1, k2⟩ hn)
      unfold anyOn
      rw [this]
      simp
    · by_cases kd : 0 ≤ dot a1 a2 b1 b2 d1 d2 ∧ dot a1 a2 b1 b2 d1 d2 ≤ sq a1 a2 b1 b2
      · have := on_intro hd kd.1 kd.2 (fun k1 k2 => absurd ⟨k1, k2⟩ hn)
        unfold anyOn
        rw [this]
        simp
      · obtain ⟨i, j, n, hi, hj, hnn, hp, e1, e2⟩ := on_w h2
        have e : n * dot a1 a2 b1 b2 p1 p2 = i * dot a1 a2 b1 b2 c1 c2 + j * dot a1 a2 b1 b2 d1 d2 := by
          subst hnn; unfold dot at *; grind
        have hon : on a1 a2 c1 c2 d1 d2 = true := by
          have f0 : sq a1 a2 b1 b2 * cross c1 c2 d1 d2 a1 a2 = 0 := by unfold sq dot cross at *; grind
          have f1 : sq a1 a2 b1 b2 * dot c1 c2 d1 d2 a1 a2 = - (dot a1 a2 b1 b2 d1 d2 - dot a1 a2 b1 b2 c1 c2) * dot a1 a2 b1 b2 c1 c2 := by unfold sq dot cross at *; grind
          have f2 : sq a1 a2 b1 b2 * sq c1 c2 d1 d2 = (dot a1 a2 b1 b2 d1 d2 - dot a1 a2 b1 b2 c1 c2) * (dot a1 a2 b1 b2 d1 d2 - dot a1 a2 b1 b2 c1 c2) := by unfold sq dot cross at *; grind
          have z0 := (Int.mul_eq_zero.1 f0).resolve_left (by omega)
          generalize dot a1 a2 b1 b2 c1 c2 = x at *
          generalize dot a1 a2 b1 b2 d1 d2 = y at *
          generalize dot a1 a2 b1 b2 p1 p2 = t at *
          generalize sq a1 a2 b1 b2 = M at *
          have alt : (x < 0 ∧ M < y) ∨ (M < x ∧ y < 0) := by
            by_cases x0 : x < 0
            · by_cases y0 : y < 0
              · exfalso
                have t1 : i * x ≤ 0 := Int.mul_nonpos_of_nonneg_of_nonpos hi (by omega)
                have t2 : j * y ≤ 0 := Int.mul_nonpos_of_nonneg_of_nonpos hj (by omega)
                have t3 : 0 ≤ n * t := Int.mul_nonneg (by omega) l0
                by_cases i0 : i = 0
                · have : 0 < j := by omega
                  have := Int.mul_neg_of_pos_of_neg this y0
                  omega
                · have : 0 < i := by omega
                  have := Int.mul_neg_of_pos_of_neg this x0
                  omega
              · omega
            · by_cases y0 : M < y
              · exfalso
                have x1 : M < x := by omega
                have t1 : i * M ≤ i * x := Int.mul_le_mul_of_nonneg_left (by omega) hi
                have t2 : j * M ≤ j * y := Int.mul_le_mul_of_nonneg_left (by omega) hj
                have t3 : n * t ≤ n * M := Int.mul_le_mul_of_nonneg_left l1 (by omega)
                have t4 : n * M = i * M + j * M := by subst hnn; grind
                by_cases i0 : i = 0
                · have j0 : 0 < j := by omega
                  have := Int.mul_lt_mul_of_pos_left y0 j0
                  omega
                · have i1 : 0 < i := by omega
                  have := Int.mul_lt_mul_of_pos_left x1 i1
                  omega
              · omega
          have g1 : 0 ≤ dot c1 c2 d1 d2 a1 a2 := by
            refine pos_of_mul hM ?_
            rw [f1]
            rcases alt with ⟨k1, k2⟩ | ⟨k1, k2⟩
            · exact Int.mul_nonneg_of_nonpos_of_nonpos (by omega) (by omega)
            · exact Int.mul_nonneg (by omega) (by omega)
          have g2 : dot c1 c2 d1 d2 a1 a2 ≤ sq c1 c2 d1 d2 := by
            refine le_mul hM ?_
            rw [f1, f2]
            have w : (y - x) * (y - x) - (-(y - x) * x) = (y - x) * y := by grind
            have w2 : 0 ≤ (y - x) * y := by
              rcases alt with ⟨k1, k2⟩ | ⟨k1, k2⟩
              · exact Int.mul_nonneg (by omega) (by omega)
              · exact Int.mul_nonneg_of_nonpos_of_nonpos (by omega) (by omega)
            omega
          refine on_intro z0 g1 g2 (fun k1 k2 => ?_)
          exfalso
          subst k1 k2
          have : sq c1 c2 c1 c2 = 0 := sq_self c1 c2
          rw [this] at f2
          have : y - x = 0 := sq_zero (by omega)
          omega
        unfold anyOn
        rw [hon]
        simp

/-- Segments with a common place meet. -/
theorem meet_of {p1 p2 a1 a2 b1 b2 c1 c2 d1 d2 : Int} (h1 : on p1 p2 a1 a2 b1 b2 = true) (h2 : on p1 p2 c1 c2 d1 d2 = true) : meetB a1 a2 b1 b2 c1 c2 d1 d2 = true := by
  unfold meetB
  rcases sides h1 h2 with h | h | ⟨h, k⟩
  · rw [h]; simp
  · rcases sides h2 h1 with g | g | ⟨g, k⟩
    · rw [anyOn_swap] at g
      rw [g]; simp
    · rw [h, g]; simp
    · have := collinear h2 h1 g k
      rw [anyOn_swap] at this
      rw [this]; simp
  · rw [collinear h1 h2 h k]; simp

end Go.Proofs.YtfgajejhjbfhjaaGreat
end
