/- TidNd: what a greater need does. -/
import Derived.Test.YtemogomligbgiaaTidWi
import Derived.Test.YtemogomligbgiaaTidNx
import Derived.Test.YtemogomligbgiaaRows
import Derived.WalkKit
import Derived.WalkSpells
import Derived.WalkLawsBesides
import Derived.Lib.Hide
import Derived.Deep.QuietTactic
import Derived.BigQuiet
import Derived.RegionTactic
import Derived.ChangeAlike
import Derived.BigRegion
import Derived.Deep.RegionHeld3
import Derived.Deep.RegionWith
import Derived.Outline
import Derived.IntWalk
import Derived.Deep.DeepCutAuto
import Derived.LoopTactic
namespace Go.Proofs.Ytemogomligbgiaa.Ti
open Go.RowKit Sp
set_option linter.unusedSimpArgs false
set_option linter.unusedVariables false

/-- One of the first j windows has all of w. -/
def cvK (A : List Pr) (w : Pr) (j : Nat) : Bool := (A.take j).any fun v => decide (v.1 ≤ w.1) && decide (w.2 ≤ v.2)
theorem cvK_succ {A : List Pr} {w : Pr} {j : Nat} (h : j < A.length) : cvK A w (j + 1) = (cvK A w j || (decide ((gt A j).1 ≤ w.1) && decide (w.2 ≤ (gt A j).2))) := by
  unfold cvK
  rw [take_succ_gt h, List.any_append]
  simp
theorem needs_in {s p : Int} {l : List Pr} {need more : Int} (hv : vaT s p l = true) (hn : need ≤ more) {k : Nat} (hk : k < (wiT s p l more).length) : cvK (wiT s p l need) (gt (wiT s p l more) k) (wiT s p l need).length = true := by
  obtain ⟨⟨vs1, _⟩, ⟨hp1, _⟩, ⟨hn1, _⟩, ⟨_, hla⟩, vall⟩ := vaT_iff.1 hv
  have W := win_T (s := s) (p := p) (l := l) need (by omega) (by omega)
  have M := win_T (s := s) (p := p) (l := l) more (by omega) (by omega)
  have hm := gt_mem hk
  obtain ⟨b1, b2, b3⟩ := M.bd _ hm
  obtain ⟨v, hv1, v1, v2⟩ := win_one W (a := (gt (wiT s p l more) k).1) (b := (gt (wiT s p l more) k).2) b2 (fun y y1 y2 => by
    have := (M.mem y).1 ⟨_, hm, y1, y2⟩
    exact ⟨this.1, this.2.1, by omega⟩)
  unfold cvK
  rw [List.take_length, List.any_eq_true]
  exact ⟨v, hv1, by simp [v1, v2]⟩
theorem next_less {s p : Int} {l : List Pr} {need more f g : Int} (hn : need ≤ more) (h1 : wOk s p l need = true) (h2 : wOk s p l more = true) : nE s p l more f g ≠ 0 ∨ (nE s p l need f g = 0 ∧ nV s p l need f g ≤ nV s p l more f g) := by
  simp only [wOk, Bool.and_eq_true] at h1 h2
  obtain ⟨hv, hn1⟩ := h1
  have hn2 := h2.2
  cases hf : tmB f
  · left; unfold nE nOk; rw [hv, hn2, hf]; simp [erv]
  · cases hg : tmB g
    · left; unfold nE nOk; rw [hv, hn2, hf, hg]; simp [erv]
    · have o1 : nOk s p l need f g = true := by unfold nOk; rw [hv, hn1, hf, hg]; rfl
      have o2 : nOk s p l more f g = true := by unfold nOk; rw [hv, hn2, hf, hg]; rfl
      have f1 := (btB_iff.1 hf).1
      have g1 := (btB_iff.1 hg).1
      rcases hx : nxT f g (wiT s p l more) with _ | v
      · left; unfold nE nX; rw [o2, hx]; simp [erv]
      · right
        obtain ⟨a1, a2, a3, a4, a5⟩ := next_yes hv f1 g1 hx
        obtain ⟨u, hu, hle⟩ := next_no (need := need) (f := f) g1 a3 a1 (by omega)
        unfold nE nV nX
        rw [o1, o2, hx, hu]
        exact ⟨rfl, hle⟩


end Go.Proofs.Ytemogomligbgiaa.Ti
