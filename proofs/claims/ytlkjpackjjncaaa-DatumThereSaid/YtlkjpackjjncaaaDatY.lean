/- DatY: nothing is lost, in plain words. -/
import Derived.Test.YtlkjpackjjncaaaDatX
import Derived.Test.YtlkjpackjjncaaaRows
import Derived.WalkKit
import Derived.WalkSpells
import Derived.WalkLawsBesides
import Derived.Lib.Hide
import Derived.Deep.QuietTactic
import Derived.BigQuiet
import Derived.RegionTactic
import Derived.ChangeAlike
import Derived.BigRegion
import Derived.Deep.RegionHeld3
import Derived.Deep.RegionWith
import Derived.Outline
import Derived.Laws.EntriesVeiled
import Derived.Deep.DeepCutAuto
namespace Go.Proofs.Ytlkjpackjjncaaa.Da
open Go.RowKit Sp
set_option linter.unusedSimpArgs false
set_option linter.unusedVariables false

theorem okp {p1 p2 : Int} (h : ok p1 p2) : okB p1 p2 = true := okB_iff.2 h
theorem vb_one (p1 p2 : Int) : vB p1 p1 p2 p2 = okB p1 p2 := by
  rw [Bool.eq_iff_iff, vB_iff, okB_iff]; unfold ok; omega
/-- What Apply returns, if q may be the place of p. -/
theorem lost_apply {m1 m2 m3 m4 m5 m6 m7 p1 p2 q1 q2 : Int} (h : vFits m1 m2 m3 m4 m5 m6 m7 p1 p2 q1 q2 = true) (k : xFits m1 m2 m3 m4 m5 m6 m7 p1 p2 q1 q2 = true) :
    ∃ x1 x2 x3 x4 f : Int, (f = 0 ∧ inB x1 x2 x3 x4 q1 q2 = true ∨ f = 3) ∧ ∀ w, Calls Try.prog 16 #[.agg #[(.int .i64 m1), (.int .i64 m2), (.int .i64 m3), (.int .i64 m4), (.int .i64 m5), (.int .i64 m6), (.int .i64 m7)], (.agg #[.int .i64 p1, .int .i64 p2])] w (Ret w (.tuple #[.agg #[(.int .i64 x1), (.int .i64 x2), (.int .i64 x3), (.int .i64 x4)], (.int .i64 f)])) := by
  obtain ⟨dv, op, oq⟩ := vf_iff.1 h
  obtain ⟨f1, f2⟩ := xf_iff.1 k
  have C := fun w => Apply_c m1 m2 m3 m4 m5 m6 m7 p1 p2 w
  simp only [dv, okp op, selI, selB, erv, cond_true, cond_false, Bool.and_true, Bool.and_false, Bool.true_and, Bool.false_and] at C
  rcases Bool.eq_false_or_eq_true (rCarry m1 m2 m3 m4 m5 m6 m7 p1 p1 p2 p2) with r | r
  · simp only [r, selI, selB, erv, cond_true, cond_false, Bool.and_true, Bool.and_false, Bool.true_and, Bool.false_and] at C
    refine ⟨_, _, _, _, _, Or.inl ⟨rfl, ?_⟩, C⟩
    have a := c_has (a := m1) (b := m2) (c := m3) (r := m7) (Int.le_refl p1) (Int.le_refl p1) (Int.le_refl p2) (Int.le_refl p2) f1
    have b := c_has (a := m4) (b := m5) (c := m6) (r := m7) (Int.le_refl p1) (Int.le_refl p1) (Int.le_refl p2) (Int.le_refl p2) f2
    rw [inB_iff]
    exact ⟨a.1, a.2, b.1, b.2⟩
  · simp only [r, selI, selB, erv, cond_true, cond_false, Bool.and_true, Bool.and_false, Bool.true_and, Bool.false_and] at C
    exact ⟨_, _, _, _, _, Or.inr rfl, C⟩
theorem lost_carry {m1 m2 m3 m4 m5 m6 m7 p1 p2 q1 q2 : Int} (b1 b2 b3 b4 : Int) (h : vFits m1 m2 m3 m4 m5 m6 m7 p1 p2 q1 q2 = true) (k : xFits m1 m2 m3 m4 m5 m6 m7 p1 p2 q1 q2 = true) :
    ∃ y1 y2 y3 y4 f : Int, (inB b1 b2 b3 b4 p1 p2 = true → f = 1 ∨ (f = 0 ∧ inB y1 y2 y3 y4 q1 q2 = true) ∨ f = 3) ∧ ∀ w, Calls Try.prog 18 #[.agg #[(.int .i64 m1), (.int .i64 m2), (.int .i64 m3), (.int .i64 m4), (.int .i64 m5), (.int .i64 m6), (.int .i64 m7)], .agg #[(.int .i64 b1), (.int .i64 b2), (.int .i64 b3), (.int .i64 b4)]] w (Ret w (.tuple #[.agg #[(.int .i64 y1), (.int .i64 y2), (.int .i64 y3), (.int .i64 y4)], (.int .i64 f)])) := by
  obtain ⟨dv, op, oq⟩ := vf_iff.1 h
  obtain ⟨f1, f2⟩ := xf_iff.1 k
  have C := fun w => Carry_c m1 m2 m3 m4 m5 m6 m7 b1 b2 b3 b4 w
  rcases Bool.eq_false_or_eq_true (vB b1 b2 b3 b4) with v | v
  · rcases Bool.eq_false_or_eq_true (rCarry m1 m2 m3 m4 m5 m6 m7 b1 b2 b3 b4) with r | r
    · simp only [dv, v, r, selI, selB, erv, cond_true, cond_false, Bool.and_true, Bool.and_false, Bool.true_and, Bool.false_and] at C
      refine ⟨_, _, _, _, _, fun hi => Or.inr (Or.inl ⟨rfl, ?_⟩), C⟩
      rw [inB_iff] at hi
      have a := c_has (a := m1) (b := m2) (c := m3) (r := m7) hi.1 hi.2.1 hi.2.2.1 hi.2.2.2 f1
      have b := c_has (a := m4) (b := m5) (c := m6) (r := m7) hi.1 hi.2.1 hi.2.2.1 hi.2.2.2 f2
      rw [inB_iff]
      exact ⟨a.1, a.2, b.1, b.2⟩
    · simp only [dv, v, r, selI, selB, erv, cond_true, cond_false, Bool.and_true, Bool.and_false, Bool.true_and, Bool.false_and] at C
      exact ⟨_, _, _, _, _, fun _ => Or.inr (Or.inr rfl), C⟩
  · simp only [dv, v, selI, selB, erv, cond_true, cond_false, Bool.and_true, Bool.and_false, Bool.true_and, Bool.false_and] at C
    exact ⟨_, _, _, _, _, fun _ => Or.inl rfl, C⟩
/-- The place p is in what leads back from a box that has the middle of p, but for the residue. -/
theorem back_has {m1 m2 m3 m4 m5 m6 m7 p1 p2 c1 c2 c3 c4 : Int} (g : Rg m1 m2 m3 m4 m5 m6 m7) (op : ok p1 p2)
    (u1 : (c1 - (m3 + m7)) * 1000000 ≤ m1 * p1 + m2 * p2) (u2 : m1 * p1 + m2 * p2 ≤ (c2 - (m3 - m7)) * 1000000) (u3 : (c3 - (m6 + m7)) * 1000000 ≤ m4 * p1 + m5 * p2) (u4 : m4 * p1 + m5 * p2 ≤ (c4 - (m6 - m7)) * 1000000) :
    rPl (bX1 m1 m2 m3 m4 m5 m6 m7 c1 c2 c3 c4) (bX2 m1 m2 m3 m4 m5 m6 m7 c1 c2 c3 c4) (bY1 m1 m2 m3 m4 m5 m6 m7 c1 c2 c3 c4) (bY2 m1 m2 m3 m4 m5 m6 m7 c1 c2 c3 c4) = true ∧ inB (max (bX1 m1 m2 m3 m4 m5 m6 m7 c1 c2 c3 c4) (-1000000)) (min (bX2 m1 m2 m3 m4 m5 m6 m7 c1 c2 c3 c4) 1000000) (max (bY1 m1 m2 m3 m4 m5 m6 m7 c1 c2 c3 c4) (-1000000)) (min (bY2 m1 m2 m3 m4 m5 m6 m7 c1 c2 c3 c4) 1000000) p1 p2 = true := by
  have hd : 0 < m1 * m5 - m2 * m4 := Int.lt_of_lt_of_le (by omega) g.hd
  have a := k_has (a := m5) (b := -m2) (x := p1) hd u1 u2 u3 u4 (by grind)
  have b := k_has (a := -m4) (b := m1) (x := p2) hd u1 u2 u3 u4 (by grind)
  obtain ⟨o1, o2, o3, o4⟩ := op
  unfold bX1 bX2 bY1 bY2
  rw [inB_iff, rPl, Bool.and_eq_true, rM_iff, rM_iff]
  omega
theorem lost_back {m1 m2 m3 m4 m5 m6 m7 p1 p2 q1 q2 : Int} (c1 c2 c3 c4 : Int) (h : vFits m1 m2 m3 m4 m5 m6 m7 p1 p2 q1 q2 = true) (k : xFits m1 m2 m3 m4 m5 m6 m7 p1 p2 q1 q2 = true) :
    ∃ z1 z2 z3 z4 f : Int, (inB c1 c2 c3 c4 q1 q2 = true → f = 1 ∨ (f = 0 ∧ inB z1 z2 z3 z4 p1 p2 = true)) ∧ ∀ w, Calls Try.prog 20 #[.agg #[(.int .i64 m1), (.int .i64 m2), (.int .i64 m3), (.int .i64 m4), (.int .i64 m5), (.int .i64 m6), (.int .i64 m7)], .agg #[(.int .i64 c1), (.int .i64 c2), (.int .i64 c3), (.int .i64 c4)]] w (Ret w (.tuple #[.agg #[(.int .i64 z1), (.int .i64 z2), (.int .i64 z3), (.int .i64 z4)], (.int .i64 f)])) := by
  obtain ⟨dv, op, oq⟩ := vf_iff.1 h
  obtain ⟨f1, f2⟩ := xf_iff.1 k
  have g := rg_of dv
  have C := fun w => Back_c m1 m2 m3 m4 m5 m6 m7 c1 c2 c3 c4 w
  rcases Bool.eq_false_or_eq_true (vB c1 c2 c3 c4) with v | v
  · by_cases hi : inB c1 c2 c3 c4 q1 q2 = true
    · rw [inB_iff] at hi
      unfold ft rv at f1 f2
      have t := back_has g op (c1 := c1) (c2 := c2) (c3 := c3) (c4 := c4) (by omega) (by omega) (by omega) (by omega)
      simp only [dv, v, t.1, selI, selB, erv, cond_true, cond_false, Bool.and_true, Bool.and_false, Bool.true_and, Bool.false_and] at C
      exact ⟨_, _, _, _, _, fun _ => Or.inr ⟨rfl, t.2⟩, C⟩
    · exact ⟨_, _, _, _, _, fun k => absurd k hi, C⟩
  · simp only [dv, v, selI, selB, erv, cond_true, cond_false, Bool.and_true, Bool.and_false, Bool.true_and, Bool.false_and] at C
    exact ⟨_, _, _, _, _, fun _ => Or.inl rfl, C⟩


end Go.Proofs.Ytlkjpackjjncaaa.Da
