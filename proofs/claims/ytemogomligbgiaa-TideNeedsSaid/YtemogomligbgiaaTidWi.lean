/- TidWi: the windows, one by one. -/
import Derived.Test.YtemogomligbgiaaTidZ
import Derived.Test.YtemogomligbgiaaTidNx
import Derived.Test.YtemogomligbgiaaRows
import Derived.WalkKit
import Derived.WalkSpells
import Derived.WalkLawsBesides
import Derived.Lib.Hide
import Derived.Deep.QuietTactic
import Derived.BigQuiet
import Derived.RegionTactic
import Derived.ChangeAlike
import Derived.BigRegion
import Derived.Deep.RegionHeld3
import Derived.Deep.RegionWith
import Derived.Outline
import Derived.IntWalk
import Derived.Deep.DeepCutAuto
import Derived.LoopTactic
namespace Go.Proofs.Ytemogomligbgiaa.Ti
open Go.RowKit Sp
set_option linter.unusedSimpArgs false
set_option linter.unusedVariables false

/-- The time is in one of the first k windows. -/
def inK (t : Int) (W : List Pr) (k : Nat) : Bool := (W.take k).any fun v => decide (v.1 ≤ t) && decide (t ≤ v.2)
theorem take_succ_gt {l : List Pr} {k : Nat} (h : k < l.length) : l.take (k + 1) = l.take k ++ [gt l k] := by
  rw [List.take_add_one, List.getElem?_eq_getElem h]
  unfold gt
  rw [List.getD_eq_getElem?_getD, List.getElem?_eq_getElem h]
  rfl
theorem inK_succ {t : Int} {W : List Pr} {k : Nat} (h : k < W.length) : inK t W (k + 1) = (inK t W k || (decide ((gt W k).1 ≤ t) && decide (t ≤ (gt W k).2))) := by
  unfold inK
  rw [take_succ_gt h, List.any_append]
  simp
theorem pw_gt {W : List Pr} (h : W.Pairwise (fun v w => v.2 + 1 < w.1)) {i j : Nat} (hij : i < j) (hj : j < W.length) : (gt W i).2 + 1 < (gt W j).1 := by
  have := List.pairwise_iff_getElem.1 h i j (by omega) hj hij
  unfold gt
  rw [List.getD_eq_getElem?_getD, List.getD_eq_getElem?_getD, List.getElem?_eq_getElem hj, List.getElem?_eq_getElem (show i < W.length by omega)]
  exact this
theorem wins_facts {s p : Int} {l : List Pr} {need : Int} (h : wOk s p l need = true) (t : Int) :
    (∀ k, k < (wiT s p l need).length → 0 ≤ (gt (wiT s p l need) k).1 ∧ (gt (wiT s p l need) k).1 ≤ (gt (wiT s p l need) k).2 ∧ (gt (wiT s p l need) k).2 ≤ 10000000) ∧
    (∀ j, j + 1 < (wiT s p l need).length → (gt (wiT s p l need) j).2 + 1 < (gt (wiT s p l need) (j + 1)).1) ∧
    (hE s p l t t = 0 → inK t (wiT s p l need) (wiT s p l need).length = decide (need ≤ (hV s p l t t).1)) ∧ (hE s p l t t ≠ 0 → inK t (wiT s p l need) (wiT s p l need).length = false) := by
  simp only [wOk, Bool.and_eq_true] at h
  obtain ⟨⟨vs1, _⟩, ⟨hp1, _⟩, ⟨hn1, _⟩, ⟨_, hla⟩, vall⟩ := vaT_iff.1 h.1
  have W := win_T (s := s) (p := p) (l := l) need (by omega) (by omega)
  have hin : inK t (wiT s p l need) (wiT s p l need).length = true ↔ (s ≤ t ∧ t ≤ laT s p l ∧ need ≤ (At s p l t).1) := by
    rw [← W.mem t]
    unfold inK
    rw [List.take_length, List.any_eq_true]
    simp only [Bool.and_eq_true, decide_eq_true_eq]
  refine ⟨fun k hk => by have := W.bd _ (gt_mem hk); omega, fun j hj => pw_gt W.pw (by omega) hj, fun e => ?_, fun e => ?_⟩
  · obtain ⟨_, a1, a2, a3⟩ := hE_zero e
    rw [Bool.eq_iff_iff, hin, decide_eq_true_eq, a3, du_lo (by omega) a1 (Int.le_refl _) a2]
    constructor
    · rintro ⟨_, _, h3⟩ y y1 y2
      obtain rfl : y = t := by simp only at y1 y2; omega
      exact h3
    · exact fun h3 => ⟨a1, a2, h3 t (Int.le_refl _) (Int.le_refl _)⟩
  · rw [Bool.eq_false_iff]
    intro h2
    obtain ⟨b1, b2, _⟩ := hin.1 h2
    exact e (hE_of h.1 (by omega) (Int.le_refl _) (by omega) b1 b2).1


end Go.Proofs.Ytemogomligbgiaa.Ti
