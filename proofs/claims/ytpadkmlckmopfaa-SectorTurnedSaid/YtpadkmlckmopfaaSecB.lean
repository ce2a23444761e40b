/- SecB: valid. -/
import Derived.Test.YtpadkmlckmopfaaSecA
import Derived.Test.YtpadkmlckmopfaaRows
import Derived.WalkKit
import Derived.WalkSpells
import Derived.WalkLawsBesides
import Derived.Lib.Hide
import Derived.Deep.QuietTactic
import Derived.BigQuiet
import Derived.RegionTactic
import Derived.ChangeAlike
import Derived.BigRegion
import Derived.Deep.RegionHeld3
import Derived.Deep.RegionWith
import Derived.Outline
import Derived.IntWalk
import Derived.Deep.DeepCutAuto
namespace Go.Proofs.Ytpadkmlckmopfaa.Se
open Go.RowKit
set_option linter.unusedSimpArgs false
set_option linter.unusedVariables false

set_option maxRecDepth 20000 in
set_option maxHeartbeats 800000 in
theorem vd_c (d1 d2 : Int) (w : World)  : Calls Try.prog 36 #[(.agg #[(.int .i64 d1), (.int .i64 d2)])] w (Ret w (.bool (okD (d1, d2)))) := by
  by_cases h1 : d1 = 0
  · subst h1
    by_cases h2 : d2 = 0
    · subst h2
      go_enter Try.func36, Try.ntmps36
      go_wp2
      go_ret
      exact ret_bool (by decide) (by repeat (first | with_reducible exact Below.refl _ _ | with_reducible assumption | with_reducible refine Below.setCell ?_ (by first | omega | (simp <;> omega)) _ | with_reducible refine balloc ?_ _ | with_reducible refine Below.drew ?_ | with_reducible refine bstep ?_ (by with_reducible assumption)))
    · have C1 : ∀ w, Calls Try.prog 41 #[(.int .i64 0), (.int .i64 ((-1000000))), (.int .i64 1000000)] w (Same w (.bool (btB 0 (-1000000) 1000000))) := fun w => bt_c _ _ _ w
      have C2 : ∀ w, Calls Try.prog 41 #[(.int .i64 d2), (.int .i64 ((-1000000))), (.int .i64 1000000)] w (Same w (.bool (btB d2 (-1000000) 1000000))) := fun w => bt_c _ _ _ w
      have hE : okD (0, d2) = (btB 0 (-1000000) 1000000 && btB d2 (-1000000) 1000000) := by unfold okD; rw [decide_eq_false (show ¬ ((0, d2) = ((0 : Int), (0 : Int))) from fun h => by have h1 := congrArg Prod.fst h; have h2 := congrArg Prod.snd h; dsimp only at h1 h2; omega)]; rfl
      rw [hE]
      clear hE
      generalize btB 0 (-1000000) 1000000 = x at *
      generalize btB d2 (-1000000) 1000000 = y at *
      cases x
      · go_enter Try.func36, Try.ntmps36
        go_wp2_with fail
        refine Calls.mono (C1 _) ?_
        rintro e wx ⟨rfl, rfl⟩
        go_wp2
        go_ret
        exact ret_bool (by simp) (by repeat (first | with_reducible exact Below.refl _ _ | with_reducible assumption | with_reducible refine Below.setCell ?_ (by first | omega | (simp <;> omega)) _ | with_reducible refine balloc ?_ _ | with_reducible refine Below.drew ?_ | with_reducible refine bstep ?_ (by with_reducible assumption)))
      · go_enter Try.func36, Try.ntmps36
        go_wp2_with fail
        refine Calls.mono (C1 _) ?_
        rintro e wx ⟨rfl, rfl⟩
        go_wp2_with fail
        refine Calls.mono (C2 _) ?_
        rintro e wx ⟨rfl, rfl⟩
        go_wp2
        go_ret
        exact ret_bool (by simp) (by repeat (first | with_reducible exact Below.refl _ _ | with_reducible assumption | with_reducible refine Below.setCell ?_ (by first | omega | (simp <;> omega)) _ | with_reducible refine balloc ?_ _ | with_reducible refine Below.drew ?_ | with_reducible refine bstep ?_ (by with_reducible assumption)))
  · have C1 : ∀ w, Calls Try.prog 41 #[(.int .i64 d1), (.int .i64 ((-1000000))), (.int .i64 1000000)] w (Same w (.bool (btB d1 (-1000000) 1000000))) := fun w => bt_c _ _ _ w
    have C2 : ∀ w, Calls Try.prog 41 #[(.int .i64 d2), (.int .i64 ((-1000000))), (.int .i64 1000000)] w (Same w (.bool (btB d2 (-1000000) 1000000))) := fun w => bt_c _ _ _ w
    have hE : okD (d1, d2) = (btB d1 (-1000000) 1000000 && btB d2 (-1000000) 1000000) := by unfold okD; rw [decide_eq_false (show ¬ ((d1, d2) = ((0 : Int), (0 : Int))) from fun h => by have h1 := congrArg Prod.fst h; have h2 := congrArg Prod.snd h; dsimp only at h1 h2; omega)]; rfl
    rw [hE]
    clear hE
    generalize btB d1 (-1000000) 1000000 = x at *
    generalize btB d2 (-1000000) 1000000 = y at *
    cases x
    · go_enter Try.func36, Try.ntmps36
      go_wp2_with fail
      refine Calls.mono (C1 _) ?_
      rintro e wx ⟨rfl, rfl⟩
      go_wp2
      go_ret
      exact ret_bool (by simp) (by repeat (first | with_reducible exact Below.refl _ _ | with_reducible assumption | with_reducible refine Below.setCell ?_ (by first | omega | (simp <;> omega)) _ | with_reducible refine balloc ?_ _ | with_reducible refine Below.drew ?_ | with_reducible refine bstep ?_ (by with_reducible assumption)))
    · go_enter Try.func36, Try.ntmps36
      go_wp2_with fail
      refine Calls.mono (C1 _) ?_
      rintro e wx ⟨rfl, rfl⟩
      go_wp2_with fail
      refine Calls.mono (C2 _) ?_
      rintro e wx ⟨rfl, rfl⟩
      go_wp2
      go_ret
      exact ret_bool (by simp) (by repeat (first | with_reducible exact Below.refl _ _ | with_reducible assumption | with_reducible refine Below.setCell ?_ (by first | omega | (simp <;> omega)) _ | with_reducible refine balloc ?_ _ | with_reducible refine Below.drew ?_ | with_reducible refine bstep ?_ (by with_reducible assumption)))


end Go.Proofs.Ytpadkmlckmopfaa.Se
