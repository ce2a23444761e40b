/- FeaZ: the examples of the chapter. -/
import Derived.Test.YtfgajejhjbfhjaaGreatGm
import Derived.Test.YtfgajejhjbfhjaaGreatRows
import Derived.WalkKit
import Derived.WalkSpells
import Derived.WalkLawsBesides
import Derived.Lib.Hide
import Derived.Deep.QuietTactic
import Derived.BigQuiet
import Derived.RegionTactic
import Derived.ChangeAlike
import Derived.BigRegion
import Derived.Deep.RegionHeld3
import Derived.Deep.RegionWith
import Derived.Outline
import Derived.IntWalk
import Derived.Deep.DeepCutAuto
namespace Go.Proofs.YtfgajejhjbfhjaaGreat.Fe
open Go.RowKit
set_option linter.unusedSimpArgs false
set_option linter.unusedVariables false

def dF (i k x y r d : Int) : Fe := ⟨i, k, x, y, r, [], d, 0, []⟩
def polA : List Po.Pt := [(-20, -20), (20, -20), (20, 20), (-20, 20)]
def aF : Fe := ⟨3, 3, 0, 0, 0, polA, 40, 0, []⟩
theorem pts_nil (W : World) : Po.Pts W (.slice none 0 0) [] := ⟨⟨none, 0, rfl, fun h => absurd h (by simp)⟩, by simp⟩
theorem fv_d (i k x y r d : Int) (W : World) (hx : i64 x) (hy : i64 y) : FeV W (.agg #[(.int .i64 i), (.int .i64 k), (.int .i64 x), (.int .i64 y), (.int .i64 r), .slice none 0 0, (.int .i64 d), (.int .i64 0), .slice none 0 0]) (dF i k x y r d) :=
  ⟨⟨none, none, 0, 0, rfl, pts_nil W, Se.Secs.nil W⟩, hx, hy⟩
theorem fv_a (g : Nat) (W : World) (hr : Po.Row W g 0 polA) : FeV W (.agg #[(.int .i64 3), (.int .i64 3), (.int .i64 0), (.int .i64 0), (.int .i64 0), (.slice (some ⟨g, 0, none⟩) 4 4), (.int .i64 40), (.int .i64 0), (.slice none 0 0)]) aF :=
  ⟨⟨_, none, 4, 0, rfl, ⟨⟨_, 4, rfl, fun _ => ⟨g, 0, rfl, hr⟩⟩, by simp [aF, polA]⟩, Se.Secs.nil W⟩, by unfold i64 aF; simp, by unfold i64 aF; simp⟩
theorem rowA {W : World} {g : Nat} (h0 : W.cell? ⟨g, 0, none⟩ = some (.int .i64 (-20))) (h1 : W.cell? ⟨g, 1, none⟩ = some (.int .i64 (-20))) (h2 : W.cell? ⟨g, 2, none⟩ = some (.int .i64 20)) (h3 : W.cell? ⟨g, 3, none⟩ = some (.int .i64 (-20))) (h4 : W.cell? ⟨g, 4, none⟩ = some (.int .i64 20)) (h5 : W.cell? ⟨g, 5, none⟩ = some (.int .i64 20)) (h6 : W.cell? ⟨g, 6, none⟩ = some (.int .i64 (-20))) (h7 : W.cell? ⟨g, 7, none⟩ = some (.int .i64 20)) : Po.Row W g 0 polA := by
  intro i hi
  rcases (show i = 0 ∨ i = 1 ∨ i = 2 ∨ i = 3 by have : polA.length = 4 := rfl; omega) with rfl | rfl | rfl | rfl
  · exact ⟨h0, h1⟩
  · exact ⟨h2, h3⟩
  · exact ⟨h4, h5⟩
  · exact ⟨h6, h7⟩
theorem va_d : vaF (dF 1 2 0 0 10 50) = true := by decide +kernel
theorem va_e : vaF (dF 2 1 3 4 5 60) = true := by decide +kernel
theorem va_t1 : vaF (dF 4 1 20 0 10 0) = true := by decide +kernel
theorem va_t2 : vaF (dF 4 1 20 0 9 0) = true := by decide +kernel
theorem va_a : vaF aF = true := by decide +kernel
theorem ho_de (W : World) : Calls Tryz.prog 20 #[(.agg #[(.int .i64 1), (.int .i64 2), (.int .i64 0), (.int .i64 0), (.int .i64 10), (.slice none 0 0), (.int .i64 50), (.int .i64 0), (.slice none 0 0)]), (.agg #[(.int .i64 2), (.int .i64 1), (.int .i64 3), (.int .i64 4), (.int .i64 5), (.slice none 0 0), (.int .i64 60), (.int .i64 0), (.slice none 0 0)])] W (Ret W (.tuple #[(.bool true), (.int .i64 0)])) := by
  have e : hoS (shF (dF 1 2 0 0 10 50)) (shF (dF 2 1 3 4 5 60)) = true := by decide +kernel
  have h := Holds_ok _ _ _ _ W (fv_d 1 2 0 0 10 50 W (by unfold i64; omega) (by unfold i64; omega)) (fv_d 2 1 3 4 5 60 W (by unfold i64; omega) (by unfold i64; omega)) va_d va_e
  rw [e] at h
  exact h
theorem ho_ed (W : World) : Calls Tryz.prog 20 #[(.agg #[(.int .i64 2), (.int .i64 1), (.int .i64 3), (.int .i64 4), (.int .i64 5), (.slice none 0 0), (.int .i64 60), (.int .i64 0), (.slice none 0 0)]), (.agg #[(.int .i64 1), (.int .i64 2), (.int .i64 0), (.int .i64 0), (.int .i64 10), (.slice none 0 0), (.int .i64 50), (.int .i64 0), (.slice none 0 0)])] W (Ret W (.tuple #[(.bool false), (.int .i64 0)])) := by
  have e : hoS (shF (dF 2 1 3 4 5 60)) (shF (dF 1 2 0 0 10 50)) = false := by decide +kernel
  have h := Holds_ok _ _ _ _ W (fv_d 2 1 3 4 5 60 W (by unfold i64; omega) (by unfold i64; omega)) (fv_d 1 2 0 0 10 50 W (by unfold i64; omega) (by unfold i64; omega)) va_e va_d
  rw [e] at h
  exact h
theorem ho_ad (g : Nat) (W : World) (hr : Po.Row W g 0 polA) : Calls Tryz.prog 20 #[(.agg #[(.int .i64 3), (.int .i64 3), (.int .i64 0), (.int .i64 0), (.int .i64 0), (.slice (some ⟨g, 0, none⟩) 4 4), (.int .i64 40), (.int .i64 0), (.slice none 0 0)]), (.agg #[(.int .i64 1), (.int .i64 2), (.int .i64 0), (.int .i64 0), (.int .i64 10), (.slice none 0 0), (.int .i64 50), (.int .i64 0), (.slice none 0 0)])] W (Ret W (.tuple #[(.bool true), (.int .i64 0)])) := by
  have e : hoS (shF aF) (shF (dF 1 2 0 0 10 50)) = true := by decide +kernel
  have h := Holds_ok _ _ _ _ W (fv_a g W hr) (fv_d 1 2 0 0 10 50 W (by unfold i64; omega) (by unfold i64; omega)) va_a va_d
  rw [e] at h
  exact h
theorem ho_da (g : Nat) (W : World) (hr : Po.Row W g 0 polA) : Calls Tryz.prog 20 #[(.agg #[(.int .i64 1), (.int .i64 2), (.int .i64 0), (.int .i64 0), (.int .i64 10), (.slice none 0 0), (.int .i64 50), (.int .i64 0), (.slice none 0 0)]), (.agg #[(.int .i64 3), (.int .i64 3), (.int .i64 0), (.int .i64 0), (.int .i64 0), (.slice (some ⟨g, 0, none⟩) 4 4), (.int .i64 40), (.int .i64 0), (.slice none 0 0)])] W (Ret W (.tuple #[(.bool false), (.int .i64 0)])) := by
  have e : hoS (shF (dF 1 2 0 0 10 50)) (shF aF) = false := by decide +kernel
  have h := Holds_ok _ _ _ _ W (fv_d 1 2 0 0 10 50 W (by unfold i64; omega) (by unfold i64; omega)) (fv_a g W hr) va_d va_a
  rw [e] at h
  exact h
theorem st_ed (W : World) : Calls Tryz.prog 22 #[(.agg #[(.int .i64 2), (.int .i64 1), (.int .i64 3), (.int .i64 4), (.int .i64 5), (.slice none 0 0), (.int .i64 60), (.int .i64 0), (.slice none 0 0)]), (.agg #[(.int .i64 1), (.int .i64 2), (.int .i64 0), (.int .i64 0), (.int .i64 10), (.slice none 0 0), (.int .i64 50), (.int .i64 0), (.slice none 0 0)])] W (Ret W (.tuple #[(.bool true), (.int .i64 0)])) := by
  have e : stS (shF (dF 2 1 3 4 5 60)) (shF (dF 1 2 0 0 10 50)) ((dF 2 1 3 4 5 60)).de ((dF 1 2 0 0 10 50)).de = true := by decide +kernel
  have h := Stands_ok _ _ _ _ W (fv_d 2 1 3 4 5 60 W (by unfold i64; omega) (by unfold i64; omega)) (fv_d 1 2 0 0 10 50 W (by unfold i64; omega) (by unfold i64; omega)) va_e va_d
  rw [e] at h
  exact h
theorem st_de (W : World) : Calls Tryz.prog 22 #[(.agg #[(.int .i64 1), (.int .i64 2), (.int .i64 0), (.int .i64 0), (.int .i64 10), (.slice none 0 0), (.int .i64 50), (.int .i64 0), (.slice none 0 0)]), (.agg #[(.int .i64 2), (.int .i64 1), (.int .i64 3), (.int .i64 4), (.int .i64 5), (.slice none 0 0), (.int .i64 60), (.int .i64 0), (.slice none 0 0)])] W (Ret W (.tuple #[(.bool false), (.int .i64 0)])) := by
  have e : stS (shF (dF 1 2 0 0 10 50)) (shF (dF 2 1 3 4 5 60)) ((dF 1 2 0 0 10 50)).de ((dF 2 1 3 4 5 60)).de = false := by decide +kernel
  have h := Stands_ok _ _ _ _ W (fv_d 1 2 0 0 10 50 W (by unfold i64; omega) (by unfold i64; omega)) (fv_d 2 1 3 4 5 60 W (by unfold i64; omega) (by unfold i64; omega)) va_d va_e
  rw [e] at h
  exact h
theorem to_1 (W : World) : Calls Tryz.prog 24 #[(.agg #[(.int .i64 1), (.int .i64 2), (.int .i64 0), (.int .i64 0), (.int .i64 10), (.slice none 0 0), (.int .i64 50), (.int .i64 0), (.slice none 0 0)]), (.agg #[(.int .i64 4), (.int .i64 1), (.int .i64 20), (.int .i64 0), (.int .i64 10), (.slice none 0 0), (.int .i64 0), (.int .i64 0), (.slice none 0 0)])] W (Ret W (.tuple #[(.bool true), (.int .i64 0)])) := by
  have e : toS (shF (dF 1 2 0 0 10 50)) (shF (dF 4 1 20 0 10 0)) = true := by decide +kernel
  have h := Touch_ok _ _ _ _ W (fv_d 1 2 0 0 10 50 W (by unfold i64; omega) (by unfold i64; omega)) (fv_d 4 1 20 0 10 0 W (by unfold i64; omega) (by unfold i64; omega)) va_d va_t1
  rw [e] at h
  exact h
theorem to_2 (W : World) : Calls Tryz.prog 24 #[(.agg #[(.int .i64 1), (.int .i64 2), (.int .i64 0), (.int .i64 0), (.int .i64 10), (.slice none 0 0), (.int .i64 50), (.int .i64 0), (.slice none 0 0)]), (.agg #[(.int .i64 4), (.int .i64 1), (.int .i64 20), (.int .i64 0), (.int .i64 9), (.slice none 0 0), (.int .i64 0), (.int .i64 0), (.slice none 0 0)])] W (Ret W (.tuple #[(.bool false), (.int .i64 0)])) := by
  have e : toS (shF (dF 1 2 0 0 10 50)) (shF (dF 4 1 20 0 9 0)) = false := by decide +kernel
  have h := Touch_ok _ _ _ _ W (fv_d 1 2 0 0 10 50 W (by unfold i64; omega) (by unfold i64; omega)) (fv_d 4 1 20 0 9 0 W (by unfold i64; omega) (by unfold i64; omega)) va_d va_t2
  rw [e] at h
  exact h
theorem co_1 (W : World) : Calls Tryz.prog 18 #[(.agg #[(.int .i64 1), (.int .i64 2), (.int .i64 0), (.int .i64 0), (.int .i64 10), (.slice none 0 0), (.int .i64 50), (.int .i64 0), (.slice none 0 0)]), (.agg #[(.int .i64 6), (.int .i64 8)])] W (Ret W (.tuple #[(.bool true), (.int .i64 0)])) := by
  have e : coS (shF (dF 1 2 0 0 10 50)) 6 8 = true := by decide +kernel
  have h := Covers_ok _ _ 6 8 W (fv_d 1 2 0 0 10 50 W (by unfold i64; omega) (by unfold i64; omega)) va_d (by unfold ok; omega)
  rw [e] at h
  exact h
theorem co_2 (W : World) : Calls Tryz.prog 18 #[(.agg #[(.int .i64 1), (.int .i64 2), (.int .i64 0), (.int .i64 0), (.int .i64 10), (.slice none 0 0), (.int .i64 50), (.int .i64 0), (.slice none 0 0)]), (.agg #[(.int .i64 7), (.int .i64 8)])] W (Ret W (.tuple #[(.bool false), (.int .i64 0)])) := by
  have e : coS (shF (dF 1 2 0 0 10 50)) 7 8 = false := by decide +kernel
  have h := Covers_ok _ _ 7 8 W (fv_d 1 2 0 0 10 50 W (by unfold i64; omega) (by unfold i64; omega)) va_d (by unfold ok; omega)
  rw [e] at h
  exact h
theorem bx_e (W : World) : Calls Tryz.prog 28 #[(.agg #[(.int .i64 2), (.int .i64 1), (.int .i64 3), (.int .i64 4), (.int .i64 5), (.slice none 0 0), (.int .i64 60), (.int .i64 0), (.slice none 0 0)])] W (Ret W (.tuple #[.agg #[(.int .i64 (-2)), (.int .i64 8), (.int .i64 (-1)), (.int .i64 9)], (.int .i64 0)])) := by
  have h := Box_dis _ _ 3 4 5 W (fv_d 2 1 3 4 5 60 W (by unfold i64; omega) (by unfold i64; omega)) va_e rfl
  have e1 : wrap64 (3 - 5) = -2 := by decide +kernel
  have e2 : wrap64 (3 + 5) = 8 := by decide +kernel
  have e3 : wrap64 (4 - 5) = -1 := by decide +kernel
  have e4 : wrap64 (4 + 5) = 9 := by decide +kernel
  rw [e1, e2, e3, e4] at h
  exact h
theorem feas_de (W : World) : Feas (W.alloc (.cells #[(.int .i64 1), (.int .i64 2), (.int .i64 0), (.int .i64 0), (.int .i64 10), (.slice none 0 0), (.int .i64 50), (.int .i64 0), (.slice none 0 0), (.int .i64 2), (.int .i64 1), (.int .i64 3), (.int .i64 4), (.int .i64 5), (.slice none 0 0), (.int .i64 60), (.int .i64 0), (.slice none 0 0)] 27)) (.slice (some ⟨W.heap.size, 0, none⟩) 2 2) [(dF 1 2 0 0 10 50), (dF 2 1 3 4 5 60)] := by
  have hc : ∀ j u, #[(.int .i64 1), (.int .i64 2), (.int .i64 0), (.int .i64 0), (.int .i64 10), (.slice none 0 0), (.int .i64 50), (.int .i64 0), (.slice none 0 0), (.int .i64 2), (.int .i64 1), (.int .i64 3), (.int .i64 4), (.int .i64 5), (.slice none 0 0), (.int .i64 60), (.int .i64 0), (.slice none 0 0)][j]? = some u → (W.alloc (.cells #[(.int .i64 1), (.int .i64 2), (.int .i64 0), (.int .i64 0), (.int .i64 10), (.slice none 0 0), (.int .i64 50), (.int .i64 0), (.slice none 0 0), (.int .i64 2), (.int .i64 1), (.int .i64 3), (.int .i64 4), (.int .i64 5), (.slice none 0 0), (.int .i64 60), (.int .i64 0), (.slice none 0 0)] 27)).cell? ⟨W.heap.size, j, none⟩ = some u := fun j u h => by simpa using h
  refine ⟨⟨some ⟨W.heap.size, 0, none⟩, 2, rfl, fun _ => ⟨_, 0, rfl, fun i hi => ?_⟩⟩, by simp⟩
  rcases (show i = 0 ∨ i = 1 by have h : ([(dF 1 2 0 0 10 50), (dF 2 1 3 4 5 60)] : List Fe).length = 2 := rfl; omega) with rfl | rfl
  · exact ⟨⟨none, none, 0, 0, hc 0 _ rfl, hc 1 _ rfl, hc 2 _ rfl, hc 3 _ rfl, hc 4 _ rfl, hc 5 _ rfl, hc 6 _ rfl, hc 7 _ rfl, hc 8 _ rfl, pts_nil _, Se.Secs.nil _⟩, by unfold i64; decide, by unfold i64; decide⟩
  · exact ⟨⟨none, none, 0, 0, hc 9 _ rfl, hc 10 _ rfl, hc 11 _ rfl, hc 12 _ rfl, hc 13 _ rfl, hc 14 _ rfl, hc 15 _ rfl, hc 16 _ rfl, hc 17 _ rfl, pts_nil _, Se.Secs.nil _⟩, by unfold i64; decide, by unfold i64; decide⟩
theorem feas_dea (g : Nat) (W : World) (hr : Po.Row W g 0 polA) : Feas (W.alloc (.cells #[(.int .i64 1), (.int .i64 2), (.int .i64 0), (.int .i64 0), (.int .i64 10), (.slice none 0 0), (.int .i64 50), (.int .i64 0), (.slice none 0 0), (.int .i64 2), (.int .i64 1), (.int .i64 3), (.int .i64 4), (.int .i64 5), (.slice none 0 0), (.int .i64 60), (.int .i64 0), (.slice none 0 0), (.int .i64 3), (.int .i64 3), (.int .i64 0), (.int .i64 0), (.int .i64 0), (.slice (some ⟨g, 0, none⟩) 4 4), (.int .i64 40), (.int .i64 0), (.slice none 0 0)] 27)) (.slice (some ⟨W.heap.size, 0, none⟩) 3 3) [(dF 1 2 0 0 10 50), (dF 2 1 3 4 5 60), aF] := by
  have hc : ∀ j u, #[(.int .i64 1), (.int .i64 2), (.int .i64 0), (.int .i64 0), (.int .i64 10), (.slice none 0 0), (.int .i64 50), (.int .i64 0), (.slice none 0 0), (.int .i64 2), (.int .i64 1), (.int .i64 3), (.int .i64 4), (.int .i64 5), (.slice none 0 0), (.int .i64 60), (.int .i64 0), (.slice none 0 0), (.int .i64 3), (.int .i64 3), (.int .i64 0), (.int .i64 0), (.int .i64 0), (.slice (some ⟨g, 0, none⟩) 4 4), (.int .i64 40), (.int .i64 0), (.slice none 0 0)][j]? = some u → (W.alloc (.cells #[(.int .i64 1), (.int .i64 2), (.int .i64 0), (.int .i64 0), (.int .i64 10), (.slice none 0 0), (.int .i64 50), (.int .i64 0), (.slice none 0 0), (.int .i64 2), (.int .i64 1), (.int .i64 3), (.int .i64 4), (.int .i64 5), (.slice none 0 0), (.int .i64 60), (.int .i64 0), (.slice none 0 0), (.int .i64 3), (.int .i64 3), (.int .i64 0), (.int .i64 0), (.int .i64 0), (.slice (some ⟨g, 0, none⟩) 4 4), (.int .i64 40), (.int .i64 0), (.slice none 0 0)] 27)).cell? ⟨W.heap.size, j, none⟩ = some u := fun j u h => by simpa using h
  have hr2 : Po.Row (W.alloc (.cells #[(.int .i64 1), (.int .i64 2), (.int .i64 0), (.int .i64 0), (.int .i64 10), (.slice none 0 0), (.int .i64 50), (.int .i64 0), (.slice none 0 0), (.int .i64 2), (.int .i64 1), (.int .i64 3), (.int .i64 4), (.int .i64 5), (.slice none 0 0), (.int .i64 60), (.int .i64 0), (.slice none 0 0), (.int .i64 3), (.int .i64 3), (.int .i64 0), (.int .i64 0), (.int .i64 0), (.slice (some ⟨g, 0, none⟩) 4 4), (.int .i64 40), (.int .i64 0), (.slice none 0 0)] 27)) g 0 polA := hr.below (hr.lt (by decide)) ((Below.refl W.heap.size W).alloc (Nat.le_refl _) _)
  refine ⟨⟨some ⟨W.heap.size, 0, none⟩, 3, rfl, fun _ => ⟨_, 0, rfl, fun i hi => ?_⟩⟩, by simp⟩
  rcases (show i = 0 ∨ i = 1 ∨ i = 2 by have h : ([(dF 1 2 0 0 10 50), (dF 2 1 3 4 5 60), aF] : List Fe).length = 3 := rfl; omega) with rfl | rfl | rfl
  · exact ⟨⟨none, none, 0, 0, hc 0 _ rfl, hc 1 _ rfl, hc 2 _ rfl, hc 3 _ rfl, hc 4 _ rfl, hc 5 _ rfl, hc 6 _ rfl, hc 7 _ rfl, hc 8 _ rfl, pts_nil _, Se.Secs.nil _⟩, by unfold i64; decide, by unfold i64; decide⟩
  · exact ⟨⟨none, none, 0, 0, hc 9 _ rfl, hc 10 _ rfl, hc 11 _ rfl, hc 12 _ rfl, hc 13 _ rfl, hc 14 _ rfl, hc 15 _ rfl, hc 16 _ rfl, hc 17 _ rfl, pts_nil _, Se.Secs.nil _⟩, by unfold i64; decide, by unfold i64; decide⟩
  · exact ⟨⟨_, none, 4, 0, hc 18 _ rfl, hc 19 _ rfl, hc 20 _ rfl, hc 21 _ rfl, hc 22 _ rfl, hc 23 _ rfl, hc 24 _ rfl, hc 25 _ rfl, hc 26 _ rfl, ⟨⟨_, 4, rfl, fun _ => ⟨g, 0, rfl, hr2⟩⟩, by decide⟩, Se.Secs.nil _⟩, by unfold i64; decide, by unfold i64; decide⟩
theorem vs_de : vaFs [(dF 1 2 0 0 10 50), (dF 2 1 3 4 5 60)] = true := by decide +kernel
theorem vs_dea : vaFs [(dF 1 2 0 0 10 50), (dF 2 1 3 4 5 60), aF] = true := by decide +kernel
theorem sh_1 (W : World) : Calls Tryz.prog 26 #[.slice (some ⟨W.heap.size, 0, none⟩) 2 2, (.agg #[(.int .i64 0), (.int .i64 0)])] (W.alloc (.cells #[(.int .i64 1), (.int .i64 2), (.int .i64 0), (.int .i64 0), (.int .i64 10), (.slice none 0 0), (.int .i64 50), (.int .i64 0), (.slice none 0 0), (.int .i64 2), (.int .i64 1), (.int .i64 3), (.int .i64 4), (.int .i64 5), (.slice none 0 0), (.int .i64 60), (.int .i64 0), (.slice none 0 0)] 27)) (Ret (W.alloc (.cells #[(.int .i64 1), (.int .i64 2), (.int .i64 0), (.int .i64 0), (.int .i64 10), (.slice none 0 0), (.int .i64 50), (.int .i64 0), (.slice none 0 0), (.int .i64 2), (.int .i64 1), (.int .i64 3), (.int .i64 4), (.int .i64 5), (.slice none 0 0), (.int .i64 60), (.int .i64 0), (.slice none 0 0)] 27)) (.tuple #[(.int .i64 50), (.int .i64 0)])) := by
  have e : shK [(dF 1 2 0 0 10 50), (dF 2 1 3 4 5 60)] 0 0 2 = 50 := by decide +kernel
  have h := Shown_ok _ _ 0 0 _ (feas_de W) vs_de (by unfold ok; omega)
  rw [show ([(dF 1 2 0 0 10 50), (dF 2 1 3 4 5 60)] : List Fe).length = 2 from rfl, e] at h
  exact h
theorem sh_2 (W : World) : Calls Tryz.prog 26 #[.slice (some ⟨W.heap.size, 0, none⟩) 2 2, (.agg #[(.int .i64 9), (.int .i64 9)])] (W.alloc (.cells #[(.int .i64 1), (.int .i64 2), (.int .i64 0), (.int .i64 0), (.int .i64 10), (.slice none 0 0), (.int .i64 50), (.int .i64 0), (.slice none 0 0), (.int .i64 2), (.int .i64 1), (.int .i64 3), (.int .i64 4), (.int .i64 5), (.slice none 0 0), (.int .i64 60), (.int .i64 0), (.slice none 0 0)] 27)) (Ret (W.alloc (.cells #[(.int .i64 1), (.int .i64 2), (.int .i64 0), (.int .i64 0), (.int .i64 10), (.slice none 0 0), (.int .i64 50), (.int .i64 0), (.slice none 0 0), (.int .i64 2), (.int .i64 1), (.int .i64 3), (.int .i64 4), (.int .i64 5), (.slice none 0 0), (.int .i64 60), (.int .i64 0), (.slice none 0 0)] 27)) (.tuple #[(.int .i64 100000), (.int .i64 0)])) := by
  have e : shK [(dF 1 2 0 0 10 50), (dF 2 1 3 4 5 60)] 9 9 2 = 100000 := by decide +kernel
  have h := Shown_ok _ _ 9 9 _ (feas_de W) vs_de (by unfold ok; omega)
  rw [show ([(dF 1 2 0 0 10 50), (dF 2 1 3 4 5 60)] : List Fe).length = 2 from rfl, e] at h
  exact h
theorem li_1 (g : Nat) (W : World) (hr : Po.Row W g 0 polA) : Calls Tryz.prog 14 #[.slice (some ⟨W.heap.size, 0, none⟩) 3 3] (W.alloc (.cells #[(.int .i64 1), (.int .i64 2), (.int .i64 0), (.int .i64 0), (.int .i64 10), (.slice none 0 0), (.int .i64 50), (.int .i64 0), (.slice none 0 0), (.int .i64 2), (.int .i64 1), (.int .i64 3), (.int .i64 4), (.int .i64 5), (.slice none 0 0), (.int .i64 60), (.int .i64 0), (.slice none 0 0), (.int .i64 3), (.int .i64 3), (.int .i64 0), (.int .i64 0), (.int .i64 0), (.slice (some ⟨g, 0, none⟩) 4 4), (.int .i64 40), (.int .i64 0), (.slice none 0 0)] 27)) (Ret (W.alloc (.cells #[(.int .i64 1), (.int .i64 2), (.int .i64 0), (.int .i64 0), (.int .i64 10), (.slice none 0 0), (.int .i64 50), (.int .i64 0), (.slice none 0 0), (.int .i64 2), (.int .i64 1), (.int .i64 3), (.int .i64 4), (.int .i64 5), (.slice none 0 0), (.int .i64 60), (.int .i64 0), (.slice none 0 0), (.int .i64 3), (.int .i64 3), (.int .i64 0), (.int .i64 0), (.int .i64 0), (.slice (some ⟨g, 0, none⟩) 4 4), (.int .i64 40), (.int .i64 0), (.slice none 0 0)] 27)) (.bool true)) := by
  have h := List_c _ _ _ (feas_dea g W hr)
  rw [vs_dea] at h
  exact h
theorem va_1 (g : Nat) (W : World) (hr : Po.Row W g 0 polA) : Calls Tryz.prog 12 #[(.agg #[(.int .i64 3), (.int .i64 3), (.int .i64 0), (.int .i64 0), (.int .i64 0), (.slice (some ⟨g, 0, none⟩) 4 4), (.int .i64 40), (.int .i64 0), (.slice none 0 0)])] W (Ret W (.bool true)) := by
  have h := Valid_c _ _ W (fv_a g W hr)
  rw [va_a] at h
  exact h
set_option maxHeartbeats 400000 in
theorem ldisc_c (i k x y r d : Int) (w : World)  : Calls Tryz.prog 32 #[(.int .i64 i), (.int .i64 k), (.int .i64 x), (.int .i64 y), (.int .i64 r), (.int .i64 d)] w (Ret w (.agg #[(.int .i64 i), (.int .i64 k), (.int .i64 x), (.int .i64 y), (.int .i64 r), .slice none 0 0, (.int .i64 d), (.int .i64 0), .slice none 0 0])) := by
  go_enter Tryz.func32, Tryz.ntmps32
  go_wp2
  all_goals
    refine bodyPost_ret ?_ rfl ⟨rfl, (by repeat (first | with_reducible exact Below.refl _ _ | with_reducible assumption | with_reducible refine Below.setCell ?_ (by first | omega | (simp <;> omega)) _ | with_reducible refine balloc ?_ _ | with_reducible refine Below.drew ?_ | with_reducible refine bstep ?_ (by with_reducible assumption)))⟩
    simp [results, Tryz.results32, go_sem]


end Go.Proofs.YtfgajejhjbfhjaaGreat.Fe
