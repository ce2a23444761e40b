/- SecI: Valid. -/
import Derived.Test.YtpadkmlckmopfaaSecG
import Derived.Test.YtpadkmlckmopfaaRows
import Derived.WalkKit
import Derived.WalkSpells
import Derived.WalkLawsBesides
import Derived.Lib.Hide
import Derived.Deep.QuietTactic
import Derived.BigQuiet
import Derived.RegionTactic
import Derived.ChangeAlike
import Derived.BigRegion
import Derived.Deep.RegionHeld3
import Derived.Deep.RegionWith
import Derived.Outline
import Derived.IntWalk
import Derived.Deep.DeepCutAuto
import Derived.LoopTactic
namespace Go.Proofs.Ytpadkmlckmopfaa.Se
open Go.RowKit
set_option linter.unusedSimpArgs false
set_option linter.unusedVariables false

set_option maxRecDepth 20000 in
set_option maxHeartbeats 1600000 in
theorem Valid_c (v : Value) (l : List Sec) (w : World) (hp : Secs w v l) : Calls Try.prog 12 #[v] w (Ret w (.bool (vaL l))) := by
  obtain ⟨⟨p, cap, rfl, hn, hc, hp⟩, hlen⟩ := hp
  clear hn
  by_cases h12 : 12 < l.length
  · have hv : vaL l = false := by rw [Bool.eq_false_iff]; intro h; have := (vaL_all h).1; omega
    have HV := Lib.hid hv
    have HP := Lib.hid hp
    clear hv hp
    go_enter Try.func12, Try.ntmps12
    go_wp2
    go_ret
    exact ret_bv HV.out.symm (by repeat (first | with_reducible exact Below.refl _ _ | with_reducible assumption | with_reducible refine Below.setCell ?_ (by first | omega | (simp <;> omega)) _ | with_reducible refine balloc ?_ _ | with_reducible refine Below.drew ?_ | with_reducible refine bstep ?_ (by with_reducible assumption)))
  · have HE := Lib.hid (show vaL l = soK l l.length by unfold vaL; rw [decide_eq_true (by omega)]; rfl)
    by_cases h0 : l.length = 0
    · have hl : l = [] := List.length_eq_zero_iff.1 h0
      subst hl
      clear hp
      have HV := Lib.hid (show vaL [] = true from rfl)
      have C0 : ∀ w, Calls Try.prog 32 #[.slice p 0 cap] w (Ret w (.bool true)) := fun w => by
        go_enter Try.func32, Try.ntmps32
        go_wp2
        go_loopw [8] (fun i wr => i = (.int .i64 0) ∧ Below w.heap.size w wr) (fun _ _ => 0)
        case atStart => exact ⟨rfl, Below.refl _ _⟩
        case round =>
          obtain ⟨rfl, hbel⟩ := hrel
          go_wp2
          go_ret
          exact ⟨rfl, (by repeat (first | with_reducible exact Below.refl _ _ | with_reducible assumption | with_reducible refine Below.setCell ?_ (by first | omega | (simp <;> omega)) _ | with_reducible refine balloc ?_ _ | with_reducible refine Below.drew ?_ | with_reducible refine bstep ?_ (by with_reducible assumption)))⟩
      go_enter Try.func12, Try.ntmps12
      go_wp2_with fail
      refine Calls.mono (C0 _) ?_
      rintro e w1 ⟨rfl, hb⟩
      go_wp2
      go_ret
      exact ret_bv HV.out.symm (by repeat (first | with_reducible exact Below.refl _ _ | with_reducible assumption | with_reducible refine Below.setCell ?_ (by first | omega | (simp <;> omega)) _ | with_reducible refine balloc ?_ _ | with_reducible refine Below.drew ?_ | with_reducible refine bstep ?_ (by with_reducible assumption)))
    · obtain ⟨b, off, rfl, hr⟩ := hp (by omega)
      have C0 := fun w' (h : Below w.heap.size w w') => isSound_c b off cap l w' (by omega) hc (by omega) (hr.below (hr.lt (by omega)) h)
      have CC := Lib.hid C0
      clear C0 hr hp
      go_enter Try.func12, Try.ntmps12
      go_wp2_with fail
      refine Calls.mono (CC.out _ (by repeat (first | with_reducible exact Below.refl _ _ | with_reducible assumption | with_reducible refine Below.setCell ?_ (by first | omega | (simp <;> omega)) _ | with_reducible refine balloc ?_ _ | with_reducible refine Below.drew ?_ | with_reducible refine bstep ?_ (by with_reducible assumption)))) ?_
      rintro e w1 ⟨rfl, hb⟩
      go_wp2
      go_ret
      exact ret_bv HE.out.symm (by repeat (first | with_reducible exact Below.refl _ _ | with_reducible assumption | with_reducible refine Below.setCell ?_ (by first | omega | (simp <;> omega)) _ | with_reducible refine balloc ?_ _ | with_reducible refine Below.drew ?_ | with_reducible refine bstep ?_ (by with_reducible assumption)))


end Go.Proofs.Ytpadkmlckmopfaa.Se
