/- DatX: Fits, told apart. -/
import Derived.Test.YtlkjpackjjncaaaDatW
import Derived.Test.YtlkjpackjjncaaaRows
import Derived.WalkKit
import Derived.WalkSpells
import Derived.WalkLawsBesides
import Derived.Lib.Hide
import Derived.Deep.QuietTactic
import Derived.BigQuiet
import Derived.RegionTactic
import Derived.ChangeAlike
import Derived.BigRegion
import Derived.Deep.RegionHeld3
import Derived.Deep.RegionWith
import Derived.Outline
import Derived.Laws.EntriesVeiled
import Derived.Deep.DeepCutAuto
namespace Go.Proofs.Ytlkjpackjjncaaa.Da
open Go.RowKit Sp
set_option linter.unusedSimpArgs false
set_option linter.unusedVariables false

/-- Fits, with its flags told apart: not valid; valid and not; valid and so. -/
theorem fits3 (m1 m2 m3 m4 m5 m6 m7 p1 p2 q1 q2 : Int) :
    (vFits m1 m2 m3 m4 m5 m6 m7 p1 p2 q1 q2 = false ∧ ∀ w, Calls Try.prog 14 #[.agg #[(.int .i64 m1), (.int .i64 m2), (.int .i64 m3), (.int .i64 m4), (.int .i64 m5), (.int .i64 m6), (.int .i64 m7)], (.agg #[.int .i64 p1, .int .i64 p2]), (.agg #[.int .i64 q1, .int .i64 q2])] w (Ret w (.tuple #[.bool false, (.int .i64 1)]))) ∨
    (vFits m1 m2 m3 m4 m5 m6 m7 p1 p2 q1 q2 = true ∧ xFits m1 m2 m3 m4 m5 m6 m7 p1 p2 q1 q2 = false ∧ ∀ w, Calls Try.prog 14 #[.agg #[(.int .i64 m1), (.int .i64 m2), (.int .i64 m3), (.int .i64 m4), (.int .i64 m5), (.int .i64 m6), (.int .i64 m7)], (.agg #[.int .i64 p1, .int .i64 p2]), (.agg #[.int .i64 q1, .int .i64 q2])] w (Ret w (.tuple #[.bool false, (.int .i64 0)]))) ∨
    (vFits m1 m2 m3 m4 m5 m6 m7 p1 p2 q1 q2 = true ∧ xFits m1 m2 m3 m4 m5 m6 m7 p1 p2 q1 q2 = true ∧ ∀ w, Calls Try.prog 14 #[.agg #[(.int .i64 m1), (.int .i64 m2), (.int .i64 m3), (.int .i64 m4), (.int .i64 m5), (.int .i64 m6), (.int .i64 m7)], (.agg #[.int .i64 p1, .int .i64 p2]), (.agg #[.int .i64 q1, .int .i64 q2])] w (Ret w (.tuple #[.bool true, (.int .i64 0)]))) := by
  have C := fun w => Fits_c m1 m2 m3 m4 m5 m6 m7 p1 p2 q1 q2 w
  rcases Bool.eq_false_or_eq_true (vFits m1 m2 m3 m4 m5 m6 m7 p1 p2 q1 q2) with h | h
  · rcases Bool.eq_false_or_eq_true (xFits m1 m2 m3 m4 m5 m6 m7 p1 p2 q1 q2) with k | k
    · right; right
      refine ⟨h, k, ?_⟩
      simp only [h, k, selB, erv, cond_true] at C
      exact C
    · right; left
      refine ⟨h, k, ?_⟩
      simp only [h, k, selB, erv, cond_true] at C
      exact C
  · left
    refine ⟨h, ?_⟩
    simp only [h, selB, erv, cond_false] at C
    exact C
theorem vf_iff {m1 m2 m3 m4 m5 m6 m7 p1 p2 q1 q2 : Int} : vFits m1 m2 m3 m4 m5 m6 m7 p1 p2 q1 q2 = true ↔ dV m1 m2 m3 m4 m5 m6 m7 = true ∧ ok p1 p2 ∧ ok q1 q2 := by
  unfold vFits
  rw [Bool.and_eq_true, Bool.and_eq_true, okB_iff, okB_iff, and_assoc]
theorem xf_iff {m1 m2 m3 m4 m5 m6 m7 p1 p2 q1 q2 : Int} : xFits m1 m2 m3 m4 m5 m6 m7 p1 p2 q1 q2 = true ↔ ft (rv m1 m2 m3 p1 p2) q1 m7 ∧ ft (rv m4 m5 m6 p1 p2) q2 m7 := by
  unfold xFits
  rw [Bool.and_eq_true, ftB_iff, ftB_iff]


end Go.Proofs.Ytlkjpackjjncaaa.Da
