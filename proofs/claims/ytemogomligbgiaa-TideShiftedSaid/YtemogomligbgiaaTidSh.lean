/- TidSh: what a shift does. -/
import Derived.Test.YtemogomligbgiaaTidZ
import Derived.Test.YtemogomligbgiaaRows
import Derived.WalkKit
import Derived.WalkSpells
import Derived.WalkLawsBesides
import Derived.Lib.Hide
import Derived.Deep.QuietTactic
import Derived.BigQuiet
import Derived.RegionTactic
import Derived.ChangeAlike
import Derived.BigRegion
import Derived.Deep.RegionHeld3
import Derived.Deep.RegionWith
import Derived.Outline
import Derived.IntWalk
import Derived.Deep.DeepCutAuto
import Derived.LoopTactic
namespace Go.Proofs.Ytemogomligbgiaa.Ti
open Go.RowKit Sp
set_option linter.unusedSimpArgs false
set_option linter.unusedVariables false

theorem sL_len (l : List Pr) (y : Pr) : (sL l y).length = l.length := upto_length _ _
theorem sL_gt (l : List Pr) (y : Pr) {k : Nat} (h : k < l.length) : gt (sL l y) k = pl (gt l k) y := gt_upto _ h
theorem jn_pl (a b y : Pr) : jn (pl a y) (pl b y) = pl (jn a b) y := by
  simp only [jn, pl, Prod.mk.injEq]
  omega
def shX (y : Pr) (X : St) : St := (X.1, pl X.2 y)
theorem stK_sh {s p : Int} {l : List Pr} (y : Pr) {n : Nat} (h : n ≤ l.length) : stK s p (sL l y) n = (stK s p l n).map (shX y) := by
  induction n with
  | zero => rfl
  | succ n ih =>
    simp only [stK]
    rw [ih (by omega), List.map_append, List.map_append]
    have e1 : [ptS s p (sL l y) n] = List.map (shX y) [ptS s p l n] := by simp only [ptS, shX, List.map_cons, List.map_nil]; rw [sL_gt l y (by omega)]
    rw [e1]
    congr 2
    split
    · next hc => simp only [mdS, shX, List.map_cons, List.map_nil]; rw [sL_gt l y (by omega), sL_gt l y (by omega), jn_pl]
    · rfl
theorem duK_sh (a y : Pr) (L : List St) : ∀ acc : Pr, duK a (pl acc y) (L.map (shX y)) = pl (duK a acc L) y := by
  induction L with
  | nil => intro acc; rfl
  | cons X L ih =>
    intro acc
    show duK a (duF a (pl acc y) (shX y X)) (L.map (shX y)) = pl (duK a (duF a acc X) L) y
    rw [← ih]
    congr 1
    unfold duF shX
    simp only
    split
    · exact jn_pl _ _ _
    · rfl
theorem du_sh {s p : Int} {l : List Pr} (y a : Pr) (hp : 0 < p) (hl : 0 < l.length) (h1 : s ≤ a.1) (h2 : a.1 ≤ laT s p l) : duT s p (sL l y) a = pl (duT s p l a) y := by
  unfold duT strs
  obtain ⟨hq, _, _⟩ := div_lt (x := a.1 - s) (n := l.length) hp (by omega) hl (by unfold laT at h2; omega)
  rw [sL_len, stK_sh y (Nat.le_refl _), sL_gt l y hq, duK_sh]
theorem wiK_sh (need : Int) (y : Pr) (L : List St) : wiK need (L.map (shX y)) = wiK (need - y.1) L := by
  have key : ∀ (L : List St) (out : List Pr), (L.map (shX y)).foldl (wiF need) out = L.foldl (wiF (need - y.1)) out := by
    intro L
    induction L with
    | nil => intro out; rfl
    | cons X L ih =>
      intro out
      simp only [List.map_cons, List.foldl_cons]
      rw [ih]
      congr 1
      unfold wiF shX pl
      simp only
      have : (X.2.1 + y.1 < need) = (X.2.1 < need - y.1) := by rw [eq_iff_iff]; omega
      simp only [this]
  exact key L []
theorem wi_sh {s p : Int} {l : List Pr} (need : Int) (y : Pr) : wiT s p (sL l y) need = wiT s p l (need - y.1) := by
  unfold wiT strs
  rw [sL_len, stK_sh y (Nat.le_refl _), wiK_sh]
theorem va_sh {s p : Int} {l : List Pr} {y : Pr} (h : vaT s p l = true) (hg : sG l y = true) : vaT s p (sL l y) = true := by
  obtain ⟨a, b, c, d, _⟩ := vaT_iff.1 h
  refine vaT_iff.2 ⟨a, b, by rw [sL_len]; exact c, by unfold laT at *; rw [sL_len]; exact d, all_of_gt fun i hi => ?_⟩
  rw [sL_len] at hi
  rw [sL_gt l y hi]
  exact allG_iff.1 hg i hi
theorem hE_sh {s p : Int} {l : List Pr} {y : Pr} (h : vaT s p l = true) (hg : sG l y = true) (f u : Int) : hE s p (sL l y) f u = hE s p l f u ∧ (hE s p l f u = 0 → hV s p (sL l y) f u = pl (hV s p l f u) y ∧ okH (hV s p l f u) = true ∧ okH (pl (hV s p l f u) y) = true) := by
  have hv := va_sh h hg
  have e0 : laT s p (sL l y) = laT s p l := by unfold laT; rw [sL_len]
  have e1 : hE s p (sL l y) f u = hE s p l f u := by unfold hE hOk hIn; rw [e0, hv, h]
  refine ⟨e1, fun e => ?_⟩
  obtain ⟨⟨_, _, _, fu⟩, a1, a2, a3⟩ := hE_zero e
  obtain ⟨_, _, _, a4⟩ := hE_zero (e1.trans e)
  obtain ⟨_, ⟨hp1, _⟩, ⟨hn1, _⟩, _, vall⟩ := vaT_iff.1 h
  have e2 := du_sh (s := s) (l := l) y (f, u) (p := p) (by omega) (by omega) a1 (by simp only; omega)
  rw [a4, a3, e2]
  refine ⟨rfl, duT_ok vall _, ?_⟩
  rw [← e2]
  exact duT_ok (vaT_iff.1 hv).2.2.2.2 _


end Go.Proofs.Ytemogomligbgiaa.Ti
