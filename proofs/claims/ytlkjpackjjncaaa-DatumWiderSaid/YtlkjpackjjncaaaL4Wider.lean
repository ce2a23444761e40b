/- L4Wider: the law DatumWider. -/
import Derived.Test.YtlkjpackjjncaaaWA
import Derived.Test.YtlkjpackjjncaaaWB
import Derived.Test.YtlkjpackjjncaaaWC
import Derived.Test.YtlkjpackjjncaaaWD
import Derived.Test.YtlkjpackjjncaaaWE
import Derived.Test.YtlkjpackjjncaaaWF
import Derived.Test.YtlkjpackjjncaaaWG
import Derived.Test.YtlkjpackjjncaaaRows
import Derived.WalkKit
import Derived.WalkSpells
import Derived.WalkLawsBesides
import Derived.Lib.Hide
import Derived.Deep.QuietTactic
import Derived.BigQuiet
import Derived.RegionTactic
import Derived.ChangeAlike
import Derived.BigRegion
import Derived.Deep.RegionHeld3
import Derived.Deep.RegionWith
import Derived.Outline
import Derived.Laws.EntriesVeiled
import Derived.Deep.DeepCutAuto
namespace Go.Proofs.Ytlkjpackjjncaaa.Da
open Go.RowKit Sp
set_option linter.unusedSimpArgs false
set_option linter.unusedVariables false

theorem ft_wide {v q r R : Int} (h : ft v q r) (hr : r ≤ R) : ft v q R := by unfold ft at *; omega
theorem ft_two {v q s r : Int} (h : ft v q r) (k : ft v s r) : -(2 * r) ≤ q - s ∧ q - s ≤ 2 * r := by unfold ft at *; omega

theorem wider_law (m1 m2 m3 m4 m5 m6 m7 more p1 p2 q1 q2 r1 r2 : Int) (w : World) : Calls Try.prog 8 #[.agg #[(.int .i64 m1), (.int .i64 m2), (.int .i64 m3), (.int .i64 m4), (.int .i64 m5), (.int .i64 m6), (.int .i64 m7)], (.int .i64 more), (.agg #[.int .i64 p1, .int .i64 p2]), (.agg #[.int .i64 q1, .int .i64 q2]), (.agg #[.int .i64 r1, .int .i64 r2])] w (Ret w (.bool true)) := by
  rcases fits3 m1 m2 m3 m4 m5 m6 m7 p1 p2 q1 q2 with ⟨h1, F1⟩ | ⟨h1, k1, F1⟩ | ⟨h1, k1, F1⟩
  · exact wA1 _ _ _ _ _ _ _ _ _ _ _ _ _ _ _ _ _ w F1 (Fits_c m1 m2 m3 m4 m5 m6 m7 p1 p2 r1 r2)
  · exact wA2 _ _ _ _ _ _ _ _ _ _ _ _ _ _ _ true _ w F1 (Fits_c m1 m2 m3 m4 m5 m6 m7 p1 p2 r1 r2)
  · obtain ⟨dv, op, oq⟩ := vf_iff.1 h1
    have g := rg_of dv
    have g7 := g.h7
    have f := xf_iff.1 k1
    obtain ⟨oq1, oq2, oq3, oq4⟩ := oq
    have F3 : ∀ R, R = min 1000 (m7 + more) → 0 ≤ more → ∀ w, Calls Try.prog 14 #[.agg #[(.int .i64 m1), (.int .i64 m2), (.int .i64 m3), (.int .i64 m4), (.int .i64 m5), (.int .i64 m6), (.int .i64 R)], (.agg #[.int .i64 p1, .int .i64 p2]), (.agg #[.int .i64 q1, .int .i64 q2])] w (Ret w (.tuple #[.bool true, (.int .i64 0)])) := by
      intro R hR h0 w
      have hv3 : dV m1 m2 m3 m4 m5 m6 R = true := by rw [dV_iff] at dv ⊢; omega
      have h3 : vFits m1 m2 m3 m4 m5 m6 R p1 p2 q1 q2 = true := by rw [vf_iff] at h1 ⊢; exact ⟨hv3, h1.2⟩
      have k3 : xFits m1 m2 m3 m4 m5 m6 R p1 p2 q1 q2 = true := by rw [xf_iff]; exact ⟨ft_wide f.1 (by omega), ft_wide f.2 (by omega)⟩
      have C := Fits_c m1 m2 m3 m4 m5 m6 R p1 p2 q1 q2 w
      simp only [h3, k3, selB, erv, cond_true] at C
      exact C
    rcases fits3 m1 m2 m3 m4 m5 m6 m7 p1 p2 r1 r2 with ⟨h2, F2⟩ | ⟨h2, k2, F2⟩ | ⟨h2, k2, F2⟩
    · by_cases hm : 0 ≤ more ∧ more ≤ 1000
      · exact wD1 _ _ _ _ _ _ _ _ _ _ _ _ _ _ false w F1 F2 hm.1 hm.2 g7 (fun R h => F3 R h hm.1)
      · exact wB1 _ _ _ _ _ _ _ _ _ _ _ _ _ _ false w F1 F2 (by omega)
    · by_cases hm : 0 ≤ more ∧ more ≤ 1000
      · exact wE1 _ _ _ _ _ _ _ _ _ _ _ _ _ _ false w F1 F2 hm.1 hm.2 g7 (fun R h => F3 R h hm.1)
      · exact wB2 _ _ _ _ _ _ _ _ _ _ _ _ _ _ false w F1 F2 (by omega)
    · have f2 := xf_iff.1 k2
      have t1 := ft_two f.1 f2.1
      have t2 := ft_two f.2 f2.2
      obtain ⟨or1, or2, or3, or4⟩ := (vf_iff.1 h2).2.2
      by_cases hm : 0 ≤ more ∧ more ≤ 1000
      · exact wF1 _ _ _ _ _ _ _ _ _ _ _ _ _ _ false w F1 F2 hm.1 hm.2 g7 ⟨oq1, oq2⟩ ⟨oq3, oq4⟩ ⟨or1, or2⟩ ⟨or3, or4⟩ t1 t2 (fun R h => F3 R h hm.1)
      · by_cases hn : more < 0
        · exact wC1 _ _ _ _ _ _ _ _ _ _ _ _ _ _ w F1 F2 hn g7 ⟨oq1, oq2⟩ ⟨oq3, oq4⟩ ⟨or1, or2⟩ ⟨or3, or4⟩ t1 t2
        · exact wC2 _ _ _ _ _ _ _ _ _ _ _ _ _ _ w F1 F2 (by omega) g7 ⟨oq1, oq2⟩ ⟨oq3, oq4⟩ ⟨or1, or2⟩ ⟨or3, or4⟩ t1 t2

end Go.Proofs.Ytlkjpackjjncaaa.Da
