/- How near a place is to a segment, by the reference implementation: the walks. -/
import Derived.Test.YtakhkeipoldpoaaRefC
import Derived.Test.YtakhkeipoldpoaaLawNearA
namespace Go.Proofs.Ytakhkeipoldpoaa
open Go.RowKit

theorem lagr (a1 a2 b1 b2 p1 p2 : Int) : cross a1 a2 b1 b2 p1 p2 * cross a1 a2 b1 b2 p1 p2 + dot a1 a2 b1 b2 p1 p2 * dot a1 a2 b1 b2 p1 p2 = sq a1 a2 b1 b2 * sq a1 a2 p1 p2 := by unfold sq dot cross; grind
theorem foot_b (a1 a2 b1 b2 p1 p2 : Int) (h : dot a1 a2 b1 b2 p1 p2 = sq a1 a2 b1 b2) : cross a1 a2 b1 b2 p1 p2 * cross a1 a2 b1 b2 p1 p2 = sq a1 a2 b1 b2 * sq b1 b2 p1 p2 := by
  have e : sq a1 a2 b1 b2 * sq b1 b2 p1 p2 = cross a1 a2 b1 b2 p1 p2 * cross a1 a2 b1 b2 p1 p2 + (dot a1 a2 b1 b2 p1 p2 - sq a1 a2 b1 b2) * (dot a1 a2 b1 b2 p1 p2 - sq a1 a2 b1 b2) := by unfold sq dot cross; grind
  rw [h] at e
  simp at e
  omega
/-- The sign of the distance, less d, as the reference implementation parts it. -/
theorem cmp_ref (p1 p2 a1 a2 b1 b2 d : Int) :
    (dot a1 a2 b1 b2 p1 p2 ≤ 0 → (cmpDist p1 p2 a1 a2 b1 b2 d ≤ 0 ↔ sq a1 a2 p1 p2 ≤ d * d) ∧ (0 ≤ cmpDist p1 p2 a1 a2 b1 b2 d ↔ d * d ≤ sq a1 a2 p1 p2)) ∧
    (0 < dot a1 a2 b1 b2 p1 p2 → sq a1 a2 b1 b2 ≤ dot a1 a2 b1 b2 p1 p2 → (cmpDist p1 p2 a1 a2 b1 b2 d ≤ 0 ↔ sq p1 p2 b1 b2 ≤ d * d) ∧ (0 ≤ cmpDist p1 p2 a1 a2 b1 b2 d ↔ d * d ≤ sq p1 p2 b1 b2)) ∧
    (0 < dot a1 a2 b1 b2 p1 p2 → dot a1 a2 b1 b2 p1 p2 < sq a1 a2 b1 b2 → (cmpDist p1 p2 a1 a2 b1 b2 d ≤ 0 ↔ cross a1 a2 b1 b2 p1 p2 * cross a1 a2 b1 b2 p1 p2 ≤ d * d * sq a1 a2 b1 b2) ∧ (0 ≤ cmpDist p1 p2 a1 a2 b1 b2 d ↔ d * d * sq a1 a2 b1 b2 ≤ cross a1 a2 b1 b2 p1 p2 * cross a1 a2 b1 b2 p1 p2)) := by
  unfold cmpDist
  by_cases hab : a1 = b1 ∧ a2 = b2
  · obtain ⟨rfl, rfl⟩ := hab
    have h0 : dot a1 a2 a1 a2 p1 p2 = 0 := by unfold dot; simp
    rw [if_pos (.inl ⟨rfl, rfl⟩), cmp_le, cmp_ge, h0]
    exact ⟨fun _ => ⟨Iff.rfl, Iff.rfl⟩, fun k => absurd k (by omega), fun k => absurd k (by omega)⟩
  · have hN := sq_pos a1 a2 b1 b2 hab
    by_cases k1 : dot a1 a2 b1 b2 p1 p2 < 0
    · rw [if_pos (.inr k1), cmp_le, cmp_ge]
      exact ⟨fun _ => ⟨Iff.rfl, Iff.rfl⟩, fun k => absurd k (by omega), fun k => absurd k (by omega)⟩
    · rw [if_neg (fun k => by rcases k with k | k; exact hab k; exact k1 k)]
      have hL := lagr a1 a2 b1 b2 p1 p2
      have e9 : sq p1 p2 b1 b2 = sq b1 b2 p1 p2 := sq_comm p1 p2 b1 b2
      by_cases k2 : sq a1 a2 b1 b2 < dot a1 a2 b1 b2 p1 p2
      · rw [if_pos k2, cmp_le, cmp_ge, e9]
        exact ⟨fun k => absurd k (by omega), fun _ _ => ⟨Iff.rfl, Iff.rfl⟩, fun _ k => absurd k (by omega)⟩
      · rw [if_neg k2, cmp_le, cmp_ge]
        have mc : d * d * sq a1 a2 b1 b2 = sq a1 a2 b1 b2 * (d * d) := Int.mul_comm _ _
        refine ⟨fun k => ?_, fun k3 k4 => ?_, fun _ _ => ⟨Iff.rfl, Iff.rfl⟩⟩
        · have h0 : dot a1 a2 b1 b2 p1 p2 = 0 := by omega
          rw [h0] at hL
          have e : cross a1 a2 b1 b2 p1 p2 * cross a1 a2 b1 b2 p1 p2 = sq a1 a2 b1 b2 * sq a1 a2 p1 p2 := by omega
          rw [e, mc]
          exact ⟨⟨fun g => le_mul hN g, fun g => Int.mul_le_mul_of_nonneg_left g (by omega)⟩, ⟨fun g => le_mul hN g, fun g => Int.mul_le_mul_of_nonneg_left g (by omega)⟩⟩
        · have e := foot_b a1 a2 b1 b2 p1 p2 (by omega)
          rw [e, mc, e9]
          exact ⟨⟨fun g => le_mul hN g, fun g => Int.mul_le_mul_of_nonneg_left g (by omega)⟩, ⟨fun g => le_mul hN g, fun g => Int.mul_le_mul_of_nonneg_left g (by omega)⟩⟩

theorem sm_sq {n : Int} (h : 0 ≤ n ∧ n ≤ 9000000000000) : sm n := by unfold sm full; omega

end Go.Proofs.Ytakhkeipoldpoaa
