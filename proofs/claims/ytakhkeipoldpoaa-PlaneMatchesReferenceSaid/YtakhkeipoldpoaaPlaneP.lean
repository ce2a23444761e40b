/- Plain geometry: segments that have places within a distance are close. No program. -/
import Derived.Test.YtakhkeipoldpoaaPlaneO
namespace Go.Proofs.Ytakhkeipoldpoaa
open Go.RowKit

theorem coreL {a1 a2 b1 b2 c1 c2 d1 d2 q1 q2 r : Int} (hM : 0 < sq a1 a2 b1 b2) (h2 : on q1 q2 c1 c2 d1 d2 = true) (hq : 0 ≤ dot a1 a2 b1 b2 q1 q2) (hc : dot a1 a2 b1 b2 c1 c2 < 0)
    (hs : cross a1 a2 b1 b2 q1 q2 * cross a1 a2 b1 b2 q1 q2 ≤ sq a1 a2 b1 b2 * (r * r)) (hx : cross a1 a2 b1 b2 c1 c2 * cross a1 a2 b1 b2 c1 c2 ≤ cross a1 a2 b1 b2 q1 q2 * cross a1 a2 b1 b2 q1 q2) : nearB a1 a2 c1 c2 d1 d2 r = true := by
  obtain ⟨i, j, n, hi, hj, hn, hp, e1, e2⟩ := on_w h2
  refine near_w a1 a2 c1 c2 d1 d2 r (dot a1 a2 b1 b2 q1 q2 * n + (- dot a1 a2 b1 b2 c1 c2) * i) ((- dot a1 a2 b1 b2 c1 c2) * j) (n * (dot a1 a2 b1 b2 q1 q2 - dot a1 a2 b1 b2 c1 c2)) ?_ ?_ ?_ ?_ ?_
  · exact Int.add_nonneg (Int.mul_nonneg hq (by omega)) (Int.mul_nonneg (by omega) hi)
  · exact Int.mul_nonneg (by omega) hj
  · subst hn; grind
  · exact Int.mul_pos hp (by omega)
  · have x1 : n * (dot a1 a2 b1 b2 q1 q2 - dot a1 a2 b1 b2 c1 c2) * a1 - ((dot a1 a2 b1 b2 q1 q2 * n + (- dot a1 a2 b1 b2 c1 c2) * i) * c1 + ((- dot a1 a2 b1 b2 c1 c2) * j) * d1) = n * (dot a1 a2 b1 b2 q1 q2 * (a1 - c1) - dot a1 a2 b1 b2 c1 c2 * (a1 - q1)) := by grind
    have x2 : n * (dot a1 a2 b1 b2 q1 q2 - dot a1 a2 b1 b2 c1 c2) * a2 - ((dot a1 a2 b1 b2 q1 q2 * n + (- dot a1 a2 b1 b2 c1 c2) * i) * c2 + ((- dot a1 a2 b1 b2 c1 c2) * j) * d2) = n * (dot a1 a2 b1 b2 q1 q2 * (a2 - c2) - dot a1 a2 b1 b2 c1 c2 * (a2 - q2)) := by grind
    rw [x1, x2]
    have l : sq a1 a2 b1 b2 * ((dot a1 a2 b1 b2 q1 q2 * (a1 - c1) - dot a1 a2 b1 b2 c1 c2 * (a1 - q1)) * (dot a1 a2 b1 b2 q1 q2 * (a1 - c1) - dot a1 a2 b1 b2 c1 c2 * (a1 - q1)) + (dot a1 a2 b1 b2 q1 q2 * (a2 - c2) - dot a1 a2 b1 b2 c1 c2 * (a2 - q2)) * (dot a1 a2 b1 b2 q1 q2 * (a2 - c2) - dot a1 a2 b1 b2 c1 c2 * (a2 - q2))) =
        (dot a1 a2 b1 b2 q1 q2 * cross a1 a2 b1 b2 c1 c2 - dot a1 a2 b1 b2 c1 c2 * cross a1 a2 b1 b2 q1 q2) * (dot a1 a2 b1 b2 q1 q2 * cross a1 a2 b1 b2 c1 c2 - dot a1 a2 b1 b2 c1 c2 * cross a1 a2 b1 b2 q1 q2) := by
      generalize hT : dot a1 a2 b1 b2 q1 q2 = T
      generalize hS : dot a1 a2 b1 b2 c1 c2 = S
      have k : T * S - S * T = 0 := by grind
      have k2 : (b1 - a1) * (T * (a1 - c1) - S * (a1 - q1)) + (b2 - a2) * (T * (a2 - c2) - S * (a2 - q2)) = 0 := by
        have : (b1 - a1) * (T * (a1 - c1) - S * (a1 - q1)) + (b2 - a2) * (T * (a2 - c2) - S * (a2 - q2)) = S * dot a1 a2 b1 b2 q1 q2 - T * dot a1 a2 b1 b2 c1 c2 := by unfold dot; grind
        rw [this, hT, hS]; grind
      have k3 : sq a1 a2 b1 b2 * ((T * (a1 - c1) - S * (a1 - q1)) * (T * (a1 - c1) - S * (a1 - q1)) + (T * (a2 - c2) - S * (a2 - q2)) * (T * (a2 - c2) - S * (a2 - q2))) =
          ((b1 - a1) * (T * (a1 - c1) - S * (a1 - q1)) + (b2 - a2) * (T * (a2 - c2) - S * (a2 - q2))) * ((b1 - a1) * (T * (a1 - c1) - S * (a1 - q1)) + (b2 - a2) * (T * (a2 - c2) - S * (a2 - q2))) +
          (T * cross a1 a2 b1 b2 c1 c2 - S * cross a1 a2 b1 b2 q1 q2) * (T * cross a1 a2 b1 b2 c1 c2 - S * cross a1 a2 b1 b2 q1 q2) := by unfold sq dot cross; grind
      rw [k3, k2]; simp
    generalize (dot a1 a2 b1 b2 q1 q2 * (a1 - c1) - dot a1 a2 b1 b2 c1 c2 * (a1 - q1)) = Y1 at *
    generalize (dot a1 a2 b1 b2 q1 q2 * (a2 - c2) - dot a1 a2 b1 b2 c1 c2 * (a2 - q2)) = Y2 at *
    generalize cross a1 a2 b1 b2 c1 c2 = x at *
    generalize cross a1 a2 b1 b2 q1 q2 = s at *
    generalize dot a1 a2 b1 b2 q1 q2 = T at *
    generalize dot a1 a2 b1 b2 c1 c2 = Z at *
    obtain ⟨S, rfl⟩ : ∃ S, Z = - S := ⟨-Z, by omega⟩
    generalize sq a1 a2 b1 b2 = M at *
    have b1 : 2 * (x * s) ≤ 2 * (s * s) := by
      have := sq_nn (x - s)
      have e : (x - s) * (x - s) = x * x - 2 * (x * s) + s * s := by grind
      omega
    have hTS : 0 ≤ T * S := Int.mul_nonneg hq (by omega)
    have b2 : (T * x - -S * s) * (T * x - -S * s) ≤ (T - -S) * (T - -S) * (s * s) := by
      have g1 : 0 ≤ T * T * (s * s - x * x) := Int.mul_nonneg (sq_nn T) (by omega)
      have g2 : 0 ≤ T * S * (2 * (s * s) - 2 * (x * s)) := Int.mul_nonneg hTS (by omega)
      have e : (T - -S) * (T - -S) * (s * s) - (T * x - -S * s) * (T * x - -S * s) = T * T * (s * s - x * x) + T * S * (2 * (s * s) - 2 * (x * s)) := by grind
      omega
    have b3 : (T - -S) * (T - -S) * (s * s) ≤ (T - -S) * (T - -S) * (M * (r * r)) := Int.mul_le_mul_of_nonneg_left hs (sq_nn _)
    have b4 : Y1 * Y1 + Y2 * Y2 ≤ (T - -S) * (T - -S) * (r * r) := by
      refine le_mul hM ?_
      have : M * ((T - -S) * (T - -S) * (r * r)) = (T - -S) * (T - -S) * (M * (r * r)) := by grind
      omega
    have b5 := Int.mul_le_mul_of_nonneg_left b4 (sq_nn n)
    have e5 : n * Y1 * (n * Y1) + n * Y2 * (n * Y2) = n * n * (Y1 * Y1 + Y2 * Y2) := by grind
    have e6 : n * (T - -S) * (n * (T - -S)) * (r * r) = n * n * ((T - -S) * (T - -S) * (r * r)) := by grind
    omega

theorem core {a1 a2 b1 b2 c1 c2 d1 d2 q1 q2 r : Int} (hM : 0 < sq a1 a2 b1 b2) (h2 : on q1 q2 c1 c2 d1 d2 = true) (hq : 0 ≤ dot a1 a2 b1 b2 q1 q2) (hq1 : dot a1 a2 b1 b2 q1 q2 ≤ sq a1 a2 b1 b2)
    (hs : cross a1 a2 b1 b2 q1 q2 * cross a1 a2 b1 b2 q1 q2 ≤ sq a1 a2 b1 b2 * (r * r)) (hx : cross a1 a2 b1 b2 c1 c2 * cross a1 a2 b1 b2 c1 c2 ≤ cross a1 a2 b1 b2 q1 q2 * cross a1 a2 b1 b2 q1 q2) :
    nearB c1 c2 a1 a2 b1 b2 r = true ∨ nearB a1 a2 c1 c2 d1 d2 r = true ∨ nearB b1 b2 c1 c2 d1 d2 r = true := by
  have e1 : ∀ x1 x2 : Int, dot b1 b2 a1 a2 x1 x2 = sq a1 a2 b1 b2 - dot a1 a2 b1 b2 x1 x2 := fun x1 x2 => by unfold sq dot; grind
  have e3 : ∀ x1 x2 : Int, cross b1 b2 a1 a2 x1 x2 * cross b1 b2 a1 a2 x1 x2 = cross a1 a2 b1 b2 x1 x2 * cross a1 a2 b1 b2 x1 x2 := fun x1 x2 => by rw [cross_flip]; grind
  have e2 : sq b1 b2 a1 a2 = sq a1 a2 b1 b2 := sq_comm b1 b2 a1 a2
  by_cases k1 : dot a1 a2 b1 b2 c1 c2 < 0
  · exact .inr (.inl (coreL hM h2 hq k1 hs hx))
  · by_cases k2 : sq a1 a2 b1 b2 < dot a1 a2 b1 b2 c1 c2
    · right; right
      refine coreL (b1 := a1) (b2 := a2) (by omega) h2 (by rw [e1]; omega) (by rw [e1]; omega) ?_ ?_
      · rw [e3, e2]; exact hs
      · rw [e3, e3]; exact hx
    · left
      have hab : ¬ (a1 = b1 ∧ a2 = b2) := fun ⟨k3, k4⟩ => by
        subst k3 k4
        rw [sq_self] at hM
        omega
      rw [near_iff]
      refine ⟨fun k => ?_, fun _ k => absurd k k2, fun _ _ => ?_⟩
      · exact absurd k (fun k => by rcases k with k | k; exact hab k; exact k1 k)
      · have : sq a1 a2 b1 b2 * (r * r) = r * r * sq a1 a2 b1 b2 := Int.mul_comm _ _
        omega

theorem half {p1 p2 q1 q2 a1 a2 b1 b2 c1 c2 d1 d2 r : Int} (h1 : on p1 p2 a1 a2 b1 b2 = true) (h2 : on q1 q2 c1 c2 d1 d2 = true) (h : sq p1 p2 q1 q2 ≤ r * r) (hx : ¬ cross a1 a2 b1 b2 c1 c2 * cross a1 a2 b1 b2 d1 d2 < 0) : anyNear a1 a2 b1 b2 c1 c2 d1 d2 r = true := by
  have fa : nearB a1 a2 c1 c2 d1 d2 r = true → anyNear a1 a2 b1 b2 c1 c2 d1 d2 r = true := fun k => by unfold anyNear; rw [k]; simp
  have fb : nearB b1 b2 c1 c2 d1 d2 r = true → anyNear a1 a2 b1 b2 c1 c2 d1 d2 r = true := fun k => by unfold anyNear; rw [k]; simp
  have fc : nearB c1 c2 a1 a2 b1 b2 r = true → anyNear a1 a2 b1 b2 c1 c2 d1 d2 r = true := fun k => by unfold anyNear; rw [k]; simp
  have fd : nearB d1 d2 a1 a2 b1 b2 r = true → anyNear a1 a2 b1 b2 c1 c2 d1 d2 r = true := fun k => by unfold anyNear; rw [k]; simp
  obtain ⟨c0, l0, l1, hz⟩ := on_elim h1
  by_cases hab : a1 = b1 ∧ a2 = b2
  · obtain ⟨rfl, rfl⟩ := hz hab.1 hab.2
    exact fa (near_on h2 h)
  · have hM := sq_pos a1 a2 b1 b2 hab
    have ia : sq a1 a2 b1 b2 * sq p1 p2 q1 q2 = sq a1 a2 b1 b2 * sq a1 a2 q1 q2 - 2 * (dot a1 a2 b1 b2 p1 p2 * dot a1 a2 b1 b2 q1 q2) + dot a1 a2 b1 b2 p1 p2 * dot a1 a2 b1 b2 p1 p2 := by unfold sq dot cross at *; grind
    have ib : sq a1 a2 b1 b2 * sq p1 p2 q1 q2 = sq a1 a2 b1 b2 * sq b1 b2 q1 q2 - 2 * ((dot a1 a2 b1 b2 p1 p2 - sq a1 a2 b1 b2) * (dot a1 a2 b1 b2 q1 q2 - sq a1 a2 b1 b2)) + (dot a1 a2 b1 b2 p1 p2 - sq a1 a2 b1 b2) * (dot a1 a2 b1 b2 p1 p2 - sq a1 a2 b1 b2) := by unfold sq dot cross at *; grind
    have is : sq a1 a2 b1 b2 * sq p1 p2 q1 q2 = cross a1 a2 b1 b2 q1 q2 * cross a1 a2 b1 b2 q1 q2 + (dot a1 a2 b1 b2 q1 q2 - dot a1 a2 b1 b2 p1 p2) * (dot a1 a2 b1 b2 q1 q2 - dot a1 a2 b1 b2 p1 p2) := by unfold sq dot cross at *; grind
    by_cases k1 : dot a1 a2 b1 b2 q1 q2 < 0
    · refine fa (near_on h2 (Int.le_trans (le_mul hM ?_) h))
      have g1 := Int.mul_nonpos_of_nonneg_of_nonpos l0 (Int.le_of_lt k1)
      have g2 := sq_nn (dot a1 a2 b1 b2 p1 p2)
      omega
    · by_cases k2 : sq a1 a2 b1 b2 < dot a1 a2 b1 b2 q1 q2
      · refine fb (near_on h2 (Int.le_trans (le_mul hM ?_) h))
        have g1 := Int.mul_nonpos_of_nonpos_of_nonneg (a := dot a1 a2 b1 b2 p1 p2 - sq a1 a2 b1 b2) (b := dot a1 a2 b1 b2 q1 q2 - sq a1 a2 b1 b2) (by omega) (by omega)
        have g2 := sq_nn (dot a1 a2 b1 b2 p1 p2 - sq a1 a2 b1 b2)
        omega
      · have hs : cross a1 a2 b1 b2 q1 q2 * cross a1 a2 b1 b2 q1 q2 ≤ sq a1 a2 b1 b2 * (r * r) := by
          have g1 := sq_nn (dot a1 a2 b1 b2 q1 q2 - dot a1 a2 b1 b2 p1 p2)
          have g2 := Int.mul_le_mul_of_nonneg_left h (Int.le_of_lt hM)
          omega
        obtain ⟨i, j, n, hi, hj, hn, hp, e1, e2⟩ := on_w h2
        have e : n * cross a1 a2 b1 b2 q1 q2 = i * cross a1 a2 b1 b2 c1 c2 + j * cross a1 a2 b1 b2 d1 d2 := by
          subst hn; unfold cross at *; grind
        have alt : cross a1 a2 b1 b2 c1 c2 * cross a1 a2 b1 b2 c1 c2 ≤ cross a1 a2 b1 b2 q1 q2 * cross a1 a2 b1 b2 q1 q2 ∨ cross a1 a2 b1 b2 d1 d2 * cross a1 a2 b1 b2 d1 d2 ≤ cross a1 a2 b1 b2 q1 q2 * cross a1 a2 b1 b2 q1 q2 := by
          generalize cross a1 a2 b1 b2 c1 c2 = x at *
          generalize cross a1 a2 b1 b2 d1 d2 = y at *
          generalize cross a1 a2 b1 b2 q1 q2 = s at *
          have sgn : (0 ≤ x ∧ 0 ≤ y) ∨ (x ≤ 0 ∧ y ≤ 0) := by
            by_cases x0 : x < 0
            · by_cases y0 : 0 < y
              · exact absurd (Int.mul_neg_of_neg_of_pos x0 y0) hx
              · omega
            · by_cases y0 : y < 0
              · by_cases x1 : 0 < x
                · exact absurd (Int.mul_neg_of_pos_of_neg x1 y0) hx
                · omega
              · omega
          have enx : n * x = i * x + j * x := by subst hn; grind
          have eny : n * y = i * y + j * y := by subst hn; grind
          rcases sgn with ⟨x0, y0⟩ | ⟨x0, y0⟩
          · rcases Int.le_total x y with k | k
            · left
              have : j * x ≤ j * y := Int.mul_le_mul_of_nonneg_left k hj
              have : x ≤ s := le_mul hp (by omega)
              exact Int.mul_le_mul this this x0 (by omega)
            · right
              have : i * y ≤ i * x := Int.mul_le_mul_of_nonneg_left k hi
              have : y ≤ s := le_mul hp (by omega)
              exact Int.mul_le_mul this this y0 (by omega)
          · rcases Int.le_total x y with k | k
            · right
              have : i * x ≤ i * y := Int.mul_le_mul_of_nonneg_left k hi
              have : s ≤ y := le_mul hp (by omega)
              have g : (-y) * (-y) ≤ (-s) * (-s) := Int.mul_le_mul (by omega) (by omega) (by omega) (by omega)
              rw [Int.neg_mul_neg, Int.neg_mul_neg] at g
              omega
            · left
              have : j * y ≤ j * x := Int.mul_le_mul_of_nonneg_left k hj
              have : s ≤ x := le_mul hp (by omega)
              have g : (-x) * (-x) ≤ (-s) * (-s) := Int.mul_le_mul (by omega) (by omega) (by omega) (by omega)
              rw [Int.neg_mul_neg, Int.neg_mul_neg] at g
              omega
        rcases alt with g | g
        · rcases core hM h2 (by omega) (by omega) hs g with k | k | k
          · exact fc k
          · exact fa k
          · exact fb k
        · rw [← on_flip] at h2
          rcases core hM h2 (by omega) (by omega) hs g with k | k | k
          · exact fd k
          · rw [near_flip] at k; exact fa k
          · rw [near_flip] at k; exact fb k

/-- Segments that have places within a distance are so close. -/
theorem close_of {p1 p2 q1 q2 a1 a2 b1 b2 c1 c2 d1 d2 r : Int} (h1 : on p1 p2 a1 a2 b1 b2 = true) (h2 : on q1 q2 c1 c2 d1 d2 = true) (h : sq p1 p2 q1 q2 ≤ r * r) : closeB a1 a2 b1 b2 c1 c2 d1 d2 r = true := by
  unfold closeB
  by_cases k1 : cross a1 a2 b1 b2 c1 c2 * cross a1 a2 b1 b2 d1 d2 < 0
  · by_cases k2 : cross c1 c2 d1 d2 a1 a2 * cross c1 c2 d1 d2 b1 b2 < 0
    · have g1 := (crossB_iff a1 a2 b1 b2 c1 c2 d1 d2).2 k1
      have g2 := (crossB_iff c1 c2 d1 d2 a1 a2 b1 b2).2 k2
      unfold meetB
      rw [g1, g2]
      simp
    · have := half h2 h1 (by rw [sq_comm]; exact h) k2
      rw [anyNear_swap] at this
      rw [this]
      simp
  · rw [half h1 h2 h k1]
    simp

end Go.Proofs.Ytakhkeipoldpoaa
