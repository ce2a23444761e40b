/- Plain geometry of two segments: no program. -/
import Derived.Test.YtphcmdmfjhjidaaPlaneN
namespace Go.Proofs.Ytphcmdmfjhjidaa
open Go.RowKit

theorem cross_flip (a1 a2 b1 b2 c1 c2 : Int) : cross b1 b2 a1 a2 c1 c2 = - cross a1 a2 b1 b2 c1 c2 := by unfold cross; grind
theorem on_flip (p1 p2 a1 a2 b1 b2 : Int) : on p1 p2 b1 b2 a1 a2 = on p1 p2 a1 a2 b1 b2 := by
  have key : ∀ a1 a2 b1 b2 : Int, on p1 p2 a1 a2 b1 b2 = true → on p1 p2 b1 b2 a1 a2 = true := by
    intro a1 a2 b1 b2 h
    obtain ⟨h0, h1, h2, h3⟩ := on_elim h
    have e1 : dot b1 b2 a1 a2 p1 p2 = sq a1 a2 b1 b2 - dot a1 a2 b1 b2 p1 p2 := by unfold sq dot; grind
    have e2 : sq b1 b2 a1 a2 = sq a1 a2 b1 b2 := sq_comm b1 b2 a1 a2
    exact on_intro (by rw [cross_flip]; omega) (by omega) (by omega) (fun k1 k2 => by have := h3 k1.symm k2.symm; omega)
  rw [Bool.eq_iff_iff]
  exact ⟨key b1 b2 a1 a2, key a1 a2 b1 b2⟩
theorem near_flip (p1 p2 a1 a2 b1 b2 d : Int) : nearB p1 p2 b1 b2 a1 a2 d = nearB p1 p2 a1 a2 b1 b2 d := by
  have key : ∀ a1 a2 b1 b2 : Int, nearB p1 p2 a1 a2 b1 b2 d = true → nearB p1 p2 b1 b2 a1 a2 d = true := by
    intro a1 a2 b1 b2 h
    rw [near_iff] at *
    obtain ⟨g1, g2, g3⟩ := h
    have e1 : dot b1 b2 a1 a2 p1 p2 = sq a1 a2 b1 b2 - dot a1 a2 b1 b2 p1 p2 := by unfold sq dot; grind
    have e2 : sq b1 b2 a1 a2 = sq a1 a2 b1 b2 := sq_comm b1 b2 a1 a2
    have e3 : cross b1 b2 a1 a2 p1 p2 * cross b1 b2 a1 a2 p1 p2 = cross a1 a2 b1 b2 p1 p2 * cross a1 a2 b1 b2 p1 p2 := by rw [cross_flip]; grind
    rw [e1, e2, e3]
    by_cases hab : a1 = b1 ∧ a2 = b2
    · obtain ⟨rfl, rfl⟩ := hab
      exact ⟨fun _ => g1 (.inl ⟨rfl, rfl⟩), fun k => absurd (.inl ⟨rfl, rfl⟩) k, fun k => absurd (.inl ⟨rfl, rfl⟩) k⟩
    · have hN := sq_pos a1 a2 b1 b2 hab
      refine ⟨fun k => ?_, fun k k2 => g1 (.inr (by omega)), fun k k2 => g3 (fun k3 => ?_) (by omega)⟩
      · rcases k with k | k
        · exact absurd ⟨k.1.symm, k.2.symm⟩ hab
        · exact g2 (fun k3 => by rcases k3 with k3 | k3; exact hab k3; omega) (by omega)
      · rcases k3 with k3 | k3
        · exact hab k3
        · omega
  rw [Bool.eq_iff_iff]
  exact ⟨key b1 b2 a1 a2, key a1 a2 b1 b2⟩
theorem crossB_flip (a1 a2 b1 b2 c1 c2 d1 d2 : Int) : crossB b1 b2 a1 a2 c1 c2 d1 d2 = crossB a1 a2 b1 b2 c1 c2 d1 d2 := by
  rw [Bool.eq_iff_iff, crossB_iff, crossB_iff, cross_flip a1 a2 b1 b2 c1 c2, cross_flip a1 a2 b1 b2 d1 d2, Int.neg_mul_neg]
theorem crossB_flip2 (a1 a2 b1 b2 c1 c2 d1 d2 : Int) : crossB a1 a2 b1 b2 d1 d2 c1 c2 = crossB a1 a2 b1 b2 c1 c2 d1 d2 := by
  rw [Bool.eq_iff_iff, crossB_iff, crossB_iff, Int.mul_comm]
theorem anyOn_flip (a1 a2 b1 b2 c1 c2 d1 d2 : Int) : anyOn b1 b2 a1 a2 c1 c2 d1 d2 = anyOn a1 a2 b1 b2 c1 c2 d1 d2 := by
  unfold anyOn
  rw [on_flip c1 c2 a1 a2 b1 b2, on_flip d1 d2 a1 a2 b1 b2]
  cases on a1 a2 c1 c2 d1 d2 <;> cases on b1 b2 c1 c2 d1 d2 <;> cases on c1 c2 a1 a2 b1 b2 <;> cases on d1 d2 a1 a2 b1 b2 <;> rfl
theorem anyOn_swap (a1 a2 b1 b2 c1 c2 d1 d2 : Int) : anyOn c1 c2 d1 d2 a1 a2 b1 b2 = anyOn a1 a2 b1 b2 c1 c2 d1 d2 := by
  unfold anyOn
  cases on a1 a2 c1 c2 d1 d2 <;> cases on b1 b2 c1 c2 d1 d2 <;> cases on c1 c2 a1 a2 b1 b2 <;> cases on d1 d2 a1 a2 b1 b2 <;> rfl
theorem anyNear_flip (a1 a2 b1 b2 c1 c2 d1 d2 r : Int) : anyNear b1 b2 a1 a2 c1 c2 d1 d2 r = anyNear a1 a2 b1 b2 c1 c2 d1 d2 r := by
  unfold anyNear
  rw [near_flip c1 c2 a1 a2 b1 b2, near_flip d1 d2 a1 a2 b1 b2]
  cases nearB a1 a2 c1 c2 d1 d2 r <;> cases nearB b1 b2 c1 c2 d1 d2 r <;> cases nearB c1 c2 a1 a2 b1 b2 r <;> cases nearB d1 d2 a1 a2 b1 b2 r <;> rfl
theorem anyNear_swap (a1 a2 b1 b2 c1 c2 d1 d2 r : Int) : anyNear c1 c2 d1 d2 a1 a2 b1 b2 r = anyNear a1 a2 b1 b2 c1 c2 d1 d2 r := by
  unfold anyNear
  cases nearB a1 a2 c1 c2 d1 d2 r <;> cases nearB b1 b2 c1 c2 d1 d2 r <;> cases nearB c1 c2 a1 a2 b1 b2 r <;> cases nearB d1 d2 a1 a2 b1 b2 r <;> rfl
theorem meet_flip (a1 a2 b1 b2 c1 c2 d1 d2 : Int) : meetB b1 b2 a1 a2 c1 c2 d1 d2 = meetB a1 a2 b1 b2 c1 c2 d1 d2 := by
  unfold meetB
  rw [crossB_flip a1 a2 b1 b2 c1 c2 d1 d2, crossB_flip2 c1 c2 d1 d2 a1 a2 b1 b2, anyOn_flip]
theorem meet_swap (a1 a2 b1 b2 c1 c2 d1 d2 : Int) : meetB c1 c2 d1 d2 a1 a2 b1 b2 = meetB a1 a2 b1 b2 c1 c2 d1 d2 := by
  unfold meetB
  rw [anyOn_swap, Bool.and_comm]
theorem close_flip (a1 a2 b1 b2 c1 c2 d1 d2 r : Int) : closeB b1 b2 a1 a2 c1 c2 d1 d2 r = closeB a1 a2 b1 b2 c1 c2 d1 d2 r := by
  unfold closeB
  rw [meet_flip, anyNear_flip]
theorem close_swap (a1 a2 b1 b2 c1 c2 d1 d2 r : Int) : closeB c1 c2 d1 d2 a1 a2 b1 b2 r = closeB a1 a2 b1 b2 c1 c2 d1 d2 r := by
  unfold closeB
  rw [meet_swap, anyNear_swap]
theorem anyNear_zero (a1 a2 b1 b2 c1 c2 d1 d2 : Int) : anyNear a1 a2 b1 b2 c1 c2 d1 d2 0 = anyOn a1 a2 b1 b2 c1 c2 d1 d2 := by
  unfold anyNear anyOn
  rw [near_zero, near_zero, near_zero, near_zero]
theorem close_zero (a1 a2 b1 b2 c1 c2 d1 d2 : Int) : closeB a1 a2 b1 b2 c1 c2 d1 d2 0 = meetB a1 a2 b1 b2 c1 c2 d1 d2 := by
  unfold closeB
  rw [anyNear_zero]
  unfold meetB
  cases anyOn a1 a2 b1 b2 c1 c2 d1 d2 <;> simp
theorem close_mono {a1 a2 b1 b2 c1 c2 d1 d2 r s : Int} (hr : 0 ≤ r) (hrs : r ≤ s) (h : closeB a1 a2 b1 b2 c1 c2 d1 d2 r = true) : closeB a1 a2 b1 b2 c1 c2 d1 d2 s = true := by
  unfold closeB anyNear at *
  simp only [Bool.or_eq_true] at *
  rcases h with h | ((h | h) | h) | h
  · exact .inl h
  · exact .inr (.inl (.inl (.inl (near_mono hr hrs h))))
  · exact .inr (.inl (.inl (.inr (near_mono hr hrs h))))
  · exact .inr (.inl (.inr (near_mono hr hrs h)))
  · exact .inr (.inr (near_mono hr hrs h))
theorem on_end (a1 a2 b1 b2 : Int) : on b1 b2 a1 a2 b1 b2 = true :=
  on_intro (by unfold cross; grind) (sq_nonneg a1 a2 b1 b2) (Int.le_refl _) (fun h k => ⟨h.symm, k.symm⟩)
theorem meet_end (a1 a2 b1 b2 d1 d2 : Int) : meetB a1 a2 b1 b2 b1 b2 d1 d2 = true := by
  unfold meetB anyOn
  rw [on_end a1 a2 b1 b2]
  simp

/-- With a common place, one pair of ends lies on different sides, or both lie on the line; or a place is an end. -/
theorem sides {p1 p2 a1 a2 b1 b2 c1 c2 d1 d2 : Int} (h1 : on p1 p2 a1 a2 b1 b2 = true) (h2 : on p1 p2 c1 c2 d1 d2 = true) :
    anyOn a1 a2 b1 b2 c1 c2 d1 d2 = true ∨ crossB a1 a2 b1 b2 c1 c2 d1 d2 = true ∨ (cross a1 a2 b1 b2 c1 c2 = 0 ∧ cross a1 a2 b1 b2 d1 d2 = 0) := by
  obtain ⟨h0, _, _, _⟩ := on_elim h1
  obtain ⟨i, j, n, hi, hj, hn, hp, e1, e2⟩ := on_w h2
  have e : n * cross a1 a2 b1 b2 p1 p2 = i * cross a1 a2 b1 b2 c1 c2 + j * cross a1 a2 b1 b2 d1 d2 := by
    subst hn; unfold cross at *; grind
  rw [h0] at e
  by_cases hi0 : i = 0
  · subst hi0
    have q1 : p1 = d1 := by
      have : n * (p1 - d1) = 0 := by grind
      have := (Int.mul_eq_zero.1 this).resolve_left (by omega)
      omega
    have q2 : p2 = d2 := by
      have : n * (p2 - d2) = 0 := by grind
      have := (Int.mul_eq_zero.1 this).resolve_left (by omega)
      omega
    subst q1 q2
    left
    unfold anyOn
    rw [h1]
    simp
  · by_cases hj0 : j = 0
    · subst hj0
      have q1 : p1 = c1 := by
        have : n * (p1 - c1) = 0 := by grind
        have := (Int.mul_eq_zero.1 this).resolve_left (by omega)
        omega
      have q2 : p2 = c2 := by
        have : n * (p2 - c2) = 0 := by grind
        have := (Int.mul_eq_zero.1 this).resolve_left (by omega)
        omega
      subst q1 q2
      left
      unfold anyOn
      rw [h1]
      simp
    · right
      rw [crossB_iff]
      generalize cross a1 a2 b1 b2 c1 c2 = x at *
      generalize cross a1 a2 b1 b2 d1 d2 = y at *
      by_cases hx : x = 0
      · subst hx
        right
        have : j * y = 0 := by grind
        exact ⟨rfl, (Int.mul_eq_zero.1 this).resolve_left (by omega)⟩
      · left
        have hxx : 0 < x * x := by
          have := sq_nn x
          have := sq_zero (x := x)
          omega
        have g : j * (x * y) = - (i * (x * x)) := by grind
        have g2 : 0 < i * (x * x) := Int.mul_pos (by omega) hxx
        by_cases k : 0 ≤ x * y
        · have := Int.mul_nonneg hj k
          omega
        · omega

/-- Segments on one line with a common place: an end of one is on the other. -/
theorem collinear {p1 p2 a1 a2 b1 b2 c1 c2 d1 d2 : Int} (h1 : on p1 p2 a1 a2 b1 b2 = true) (h2 : on p1 p2 c1 c2 d1 d2 = true) (hc : cross a1 a2 b1 b2 c1 c2 = 0) (hd : cross a1 a2 b1 b2 d1 d2 = 0) : anyOn a1 a2 b1 b2 c1 c2 d1 d2 = true := by
  obtain ⟨h0, l0, l1, hz⟩ := on_elim h1
  by_cases hab : a1 = b1 ∧ a2 = b2
  · obtain ⟨rfl, rfl⟩ := hz hab.1 hab.2
    unfold anyOn
    rw [h2]
    simp
  · have hM := sq_pos a1 a2 b1 b2 hab
    have hn : ¬ (a1 = b1 ∧ a2 = b2) := hab
    by_cases kc : 0 ≤ dot a1 a2 b1 b2 c1 c2 ∧ dot a1 a2 b1 b2 c1 c2 ≤ sq a1 a2 b1 b2
    · have := on_intro hc kc.1 kc.2 (fun k1 k2 => absurd ⟨k1, k2⟩ hn)
      unfold anyOn
      rw [this]
      simp
    · by_cases kd : 0 ≤ dot a1 a2 b1 b2 d1 d2 ∧ dot a1 a2 b1 b2 d1 d2 ≤ sq a1 a2 b1 b2
      · have := on_intro hd kd.1 kd.2 (fun k1 k2 => absurd ⟨k1, k2⟩ hn)
        unfold anyOn
        rw [this]
        simp
      · obtain ⟨i, j, n, hi, hj, hnn, hp, e1, e2⟩ := on_w h2
        have e : n * dot a1 a2 b1 b2 p1 p2 = i * dot a1 a2 b1 b2 c1 c2 + j * dot a1 a2 b1 b2 d1 d2 := by
          subst hnn; unfold dot at *; grind
        have hon : on a1 a2 c1 c2 d1 d2 = true := by
          have f0 : sq a1 a2 b1 b2 * cross c1 c2 d1 d2 a1 a2 = 0 := by unfold sq dot cross at *; grind
          have f1 : sq a1 a2 b1 b2 * dot c1 c2 d1 d2 a1 a2 = - (dot a1 a2 b1 b2 d1 d2 - dot a1 a2 b1 b2 c1 c2) * dot a1 a2 b1 b2 c1 c2 := by unfold sq dot cross at *; grind
          have f2 : sq a1 a2 b1 b2 * sq c1 c2 d1 d2 = (dot a1 a2 b1 b2 d1 d2 - dot a1 a2 b1 b2 c1 c2) * (dot a1 a2 b1 b2 d1 d2 - dot a1 a2 b1 b2 c1 c2) := by unfold sq dot cross at *; grind
          have z0 := (Int.mul_eq_zero.1 f0).resolve_left (by omega)
          generalize dot a1 a2 b1 b2 c1 c2 = x at *
          generalize dot a1 a2 b1 b2 d1 d2 = y at *
          generalize dot a1 a2 b1 b2 p1 p2 = t at *
          generalize sq a1 a2 b1 b2 = M at *
          have alt : (x < 0 ∧ M < y) ∨ (M < x ∧ y < 0) := by
            by_cases x0 : x < 0
            · by_cases y0 : y < 0
              · exfalso
                have t1 : i * x ≤ 0 := Int.mul_nonpos_of_nonneg_of_nonpos hi (by omega)
                have t2 : j * y ≤ 0 := Int.mul_nonpos_of_nonneg_of_nonpos hj (by omega)
                have t3 : 0 ≤ n * t := Int.mul_nonneg (by omega) l0
                by_cases i0 : i = 0
                · have : 0 < j := by omega
                  have := Int.mul_neg_of_pos_of_neg this y0
                  omega
                · have : 0 < i := by omega
                  have := Int.mul_neg_of_pos_of_neg this x0
                  omega
              · omega
            · by_cases y0 : M < y
              · exfalso
                have x1 : M < x := by omega
                have t1 : i * M ≤ i * x := Int.mul_le_mul_of_nonneg_left (by omega) hi
                have t2 : j * M ≤ j * y := Int.mul_le_mul_of_nonneg_left (by omega) hj
                have t3 : n * t ≤ n * M := Int.mul_le_mul_of_nonneg_left l1 (by omega)
                have t4 : n * M = i * M + j * M := by subst hnn; grind
                by_cases i0 : i = 0
                · have j0 : 0 < j := by omega
                  have := Int.mul_lt_mul_of_pos_left y0 j0
                  omega
                · have i1 : 0 < i := by omega
                  have := Int.mul_lt_mul_of_pos_left x1 i1
                  omega
              · omega
          have g1 : 0 ≤ dot c1 c2 d1 d2 a1 a2 := by
            refine pos_of_mul hM ?_
            rw [f1]
            rcases alt with ⟨k1, k2⟩ | ⟨k1, k2⟩
            · exact Int.mul_nonneg_of_nonpos_of_nonpos (by omega) (by omega)
            · exact Int.mul_nonneg (by omega) (by omega)
          have g2 : dot c1 c2 d1 d2 a1 a2 ≤ sq c1 c2 d1 d2 := by
            refine le_mul hM ?_
            rw [f1, f2]
            have w : (y - x) * (y - x) - (-(y - x) * x) = (y - x) * y := by grind
            have w2 : 0 ≤ (y - x) * y := by
              rcases alt with ⟨k1, k2⟩ | ⟨k1, k2⟩
              · exact Int.mul_nonneg (by omega) (by omega)
              · exact Int.mul_nonneg_of_nonpos_of_nonpos (by omega) (by omega)
            omega
          refine on_intro z0 g1 g2 (fun k1 k2 => ?_)
          exfalso
          subst k1 k2
          have : sq c1 c2 c1 c2 = 0 := sq_self c1 c2
          rw [this] at f2
          have : y - x = 0 := sq_zero (by omega)
          omega
        unfold anyOn
        rw [hon]
        simp

/-- Segments with a common place meet. -/
theorem meet_of {p1 p2 a1 a2 b1 b2 c1 c2 d1 d2 : Int} (h1 : on p1 p2 a1 a2 b1 b2 = true) (h2 : on p1 p2 c1 c2 d1 d2 = true) : meetB a1 a2 b1 b2 c1 c2 d1 d2 = true := by
  unfold meetB
  rcases sides h1 h2 with h | h | ⟨h, k⟩
  · rw [h]; simp
  · rcases sides h2 h1 with g | g | ⟨g, k⟩
    · rw [anyOn_swap] at g
      rw [g]; simp
    · rw [h, g]; simp
    · have := collinear h2 h1 g k
      rw [anyOn_swap] at this
      rw [this]; simp
  · rw [collinear h1 h2 h k]; simp

end Go.Proofs.Ytphcmdmfjhjidaa
