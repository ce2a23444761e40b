/- TidNx: what Next is. -/
import Derived.Test.YtemogomligbgiaaTidZ
import Derived.Test.YtemogomligbgiaaRows
import Derived.WalkKit
import Derived.WalkSpells
import Derived.WalkLawsBesides
import Derived.Lib.Hide
import Derived.Deep.QuietTactic
import Derived.BigQuiet
import Derived.RegionTactic
import Derived.ChangeAlike
import Derived.BigRegion
import Derived.Deep.RegionHeld3
import Derived.Deep.RegionWith
import Derived.Outline
import Derived.IntWalk
import Derived.Deep.DeepCutAuto
import Derived.LoopTactic
namespace Go.Proofs.Ytemogomligbgiaa.Ti
open Go.RowKit Sp
set_option linter.unusedSimpArgs false
set_option linter.unusedVariables false

theorem find_first {L : List Pr} (hp : L.Pairwise (fun v w => v.2 + 1 < w.1)) {P : Pr → Bool} {v : Pr} (hv : v ∈ L) (hP : P v = true) : ∃ u, L.find? P = some u ∧ (u = v ∨ u.2 + 1 < v.1) ∧ u ∈ L ∧ P u = true := by
  induction L with
  | nil => simp at hv
  | cons x L ih =>
    rw [List.pairwise_cons] at hp
    cases hx : P x
    · rcases List.mem_cons.1 hv with e | hv'
      · rw [e, hx] at hP; cases hP
      · obtain ⟨u, h1, h2, h3, h4⟩ := ih hp.2 hv'
        exact ⟨u, by rw [List.find?_cons, hx]; exact h1, h2, List.mem_cons_of_mem _ h3, h4⟩
    · refine ⟨x, by rw [List.find?_cons, hx], ?_, List.mem_cons_self, hx⟩
      rcases List.mem_cons.1 hv with e | hv'
      · exact .inl e.symm
      · exact .inr (hp.1 v hv')
theorem next_yes {s p : Int} {l : List Pr} {need f g : Int} {v : Pr} (hv : vaT s p l = true) (hf : 0 ≤ f) (hg : 0 ≤ g) (h : nxT f g (wiT s p l need) = some v) :
    hE s p l (max f v.1) (max f v.1 + g) = 0 ∧ need ≤ (hV s p l (max f v.1) (max f v.1 + g)).1 ∧ f ≤ max f v.1 ∧ 0 ≤ max f v.1 ∧ max f v.1 + g ≤ 10000000 := by
  obtain ⟨⟨vs1, _⟩, ⟨hp1, _⟩, ⟨hn1, _⟩, ⟨_, hla⟩, vall⟩ := vaT_iff.1 hv
  have W := win_T (s := s) (p := p) (l := l) need (by omega) (by omega)
  have hm : v ∈ wiT s p l need := List.mem_of_find?_eq_some h
  have hk : okN f g v = true := List.find?_some h
  obtain ⟨b1, b2, b3⟩ := W.bd v hm
  simp only [okN, decide_eq_true_eq] at hk
  obtain ⟨e1, e2⟩ := hE_of (f := max f v.1) (u := max f v.1 + g) hv (by omega) (by omega) (by omega) (by omega) (by omega)
  refine ⟨e1, ?_, by omega, by omega, by omega⟩
  rw [e2, du_lo (by omega) (by simp only; omega) (by simp only; omega) (by simp only; omega)]
  intro y y1 y2
  simp only at y1 y2
  exact ((W.mem y).1 ⟨v, hm, by omega, by omega⟩).2.2
theorem next_no {s p : Int} {l : List Pr} {need f g o : Int} (hg : 0 ≤ g) (ho : f ≤ o) (h : hE s p l o (o + g) = 0) (h2 : need ≤ (hV s p l o (o + g)).1) : ∃ v, nxT f g (wiT s p l need) = some v ∧ max f v.1 ≤ o := by
  obtain ⟨⟨hv, _, _, _⟩, a1, a2, a3⟩ := hE_zero h
  obtain ⟨⟨vs1, _⟩, ⟨hp1, _⟩, ⟨hn1, _⟩, ⟨_, hla⟩, vall⟩ := vaT_iff.1 hv
  have W := win_T (s := s) (p := p) (l := l) need (by omega) (by omega)
  rw [a3, du_lo (by omega) a1 (by simp only; omega) a2] at h2
  obtain ⟨v, hm, v1, v2⟩ := win_one W (a := o) (b := o + g) (by omega) (fun y y1 y2 => ⟨by omega, by omega, h2 y y1 y2⟩)
  obtain ⟨u, hu, h3, hum, _⟩ := find_first W.pw (P := okN f g) hm (by simp only [okN, decide_eq_true_eq]; omega)
  have := W.bd u hum
  refine ⟨u, hu, ?_⟩
  rcases h3 with rfl | h3 <;> omega


end Go.Proofs.Ytemogomligbgiaa.Ti
