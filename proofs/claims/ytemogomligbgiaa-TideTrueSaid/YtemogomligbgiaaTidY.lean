/- TidY: what heights are. -/
import Derived.Test.YtemogomligbgiaaTidX
import Derived.Test.YtemogomligbgiaaRows
import Derived.WalkKit
import Derived.WalkSpells
import Derived.WalkLawsBesides
import Derived.Lib.Hide
import Derived.Deep.QuietTactic
import Derived.BigQuiet
import Derived.RegionTactic
import Derived.ChangeAlike
import Derived.BigRegion
import Derived.Deep.RegionHeld3
import Derived.Deep.RegionWith
import Derived.Outline
import Derived.IntWalk
import Derived.Deep.DeepCutAuto
import Derived.LoopTactic
namespace Go.Proofs.Ytemogomligbgiaa.Ti
open Go.RowKit Sp
set_option linter.unusedSimpArgs false
set_option linter.unusedVariables false

theorem hE_zero {s p : Int} {l : List Pr} {f u : Int} (h : hE s p l f u = 0) : (vaT s p l = true ∧ (0 ≤ f ∧ f ≤ 10000000) ∧ (0 ≤ u ∧ u ≤ 10000000) ∧ f ≤ u) ∧ s ≤ f ∧ u ≤ laT s p l ∧ hV s p l f u = duT s p l (f, u) := by
  unfold hE at h
  unfold hV
  cases h1 : hOk s p l f u
  · rw [h1] at h; simp [erv] at h
  · cases h2 : hIn s p l f u
    · rw [h1, h2] at h; simp [erv] at h
    · simp only [hOk, Bool.and_eq_true, tmB, btB_iff, decide_eq_true_eq] at h1
      simp only [hIn, Bool.and_eq_true, decide_eq_true_eq] at h2
      exact ⟨⟨h1.1, h1.2.1, h1.2.2.1, h1.2.2.2⟩, h2.1, h2.2, rfl⟩
theorem hE_of {s p : Int} {l : List Pr} {f u : Int} (hv : vaT s p l = true) (hf : 0 ≤ f) (hfu : f ≤ u) (hu : u ≤ 10000000) (h1 : s ≤ f) (h2 : u ≤ laT s p l) : hE s p l f u = 0 ∧ hV s p l f u = duT s p l (f, u) := by
  have a1 : hOk s p l f u = true := by simp only [hOk, Bool.and_eq_true, tmB, btB_iff, decide_eq_true_eq]; exact ⟨hv, by omega, by omega, hfu⟩
  have a2 : hIn s p l f u = true := by simp only [hIn, Bool.and_eq_true, decide_eq_true_eq]; exact ⟨h1, h2⟩
  unfold hE hV
  rw [a1, a2]
  exact ⟨rfl, rfl⟩
theorem le_ext {a b : Int} (h : ∀ m, m ≤ a ↔ m ≤ b) : a = b := by
  have h1 := (h a).1 (Int.le_refl _)
  have h2 := (h b).2 (Int.le_refl _)
  omega
theorem ge_ext {a b : Int} (h : ∀ m, a ≤ m ↔ b ≤ m) : a = b := by
  have h1 := (h a).1 (Int.le_refl _)
  have h2 := (h b).2 (Int.le_refl _)
  omega
theorem du_parts {s p : Int} {l : List Pr} (hp : 0 < p) {x y z : Int} (h1 : s ≤ x) (h2 : x ≤ y) (h3 : y ≤ z) (h4 : z ≤ laT s p l) : duT s p l (x, z) = jn (duT s p l (x, y)) (duT s p l (y, z)) := by
  refine Prod.ext (le_ext fun m => ?_) (ge_ext fun m => ?_)
  · rw [du_lo hp h1 (by simp only; omega) h4]
    simp only [jn]
    rw [show m ≤ min (duT s p l (x, y)).1 (duT s p l (y, z)).1 ↔ m ≤ (duT s p l (x, y)).1 ∧ m ≤ (duT s p l (y, z)).1 by omega, du_lo hp h1 h2 (by simp only; omega), du_lo hp (by simp only; omega) h3 h4]
    constructor
    · exact fun h => ⟨fun t a b => h t a (by simp only at *; omega), fun t a b => h t (by simp only at *; omega) b⟩
    · rintro ⟨a, b⟩ t t1 t2
      rcases Int.le_total t y with h | h
      · exact a t t1 h
      · exact b t h t2
  · rw [du_hi hp h1 (by simp only; omega) h4]
    simp only [jn]
    rw [show max (duT s p l (x, y)).2 (duT s p l (y, z)).2 ≤ m ↔ (duT s p l (x, y)).2 ≤ m ∧ (duT s p l (y, z)).2 ≤ m by omega, du_hi hp h1 h2 (by simp only; omega), du_hi hp (by simp only; omega) h3 h4]
    constructor
    · exact fun h => ⟨fun t a b => h t a (by simp only at *; omega), fun t a b => h t (by simp only at *; omega) b⟩
    · rintro ⟨a, b⟩ t t1 t2
      rcases Int.le_total t y with h | h
      · exact a t t1 h
      · exact b t h t2


end Go.Proofs.Ytemogomligbgiaa.Ti
