/- SecV: Normal. -/
import Derived.Test.YtpadkmlckmopfaaSecS
import Derived.Test.YtpadkmlckmopfaaSecI
import Derived.Test.YtpadkmlckmopfaaRows
import Derived.WalkKit
import Derived.WalkSpells
import Derived.WalkLawsBesides
import Derived.Lib.Hide
import Derived.Deep.QuietTactic
import Derived.BigQuiet
import Derived.RegionTactic
import Derived.ChangeAlike
import Derived.BigRegion
import Derived.Deep.RegionHeld3
import Derived.Deep.RegionWith
import Derived.Outline
import Derived.IntWalk
import Derived.Deep.DeepCutAuto
namespace Go.Proofs.Ytpadkmlckmopfaa.Se
open Go.RowKit
set_option linter.unusedSimpArgs false
set_option linter.unusedVariables false

theorem Normal_ok (a : Value) (l : List Sec) (w : World) (ha : Secs w a l) (va : vaL l = true) :
    Calls Try.prog 22 #[a] w fun e W' => ∃ v, e = .returned (.tuple #[v, (.int .i64 0)]) ∧ W'.ownsRow w.heap.size 26 6 v (noL l).length (flatS (noL l)) ∧ Below w.heap.size w W' := by
  obtain ⟨pa, ca, rfl⟩ : ∃ p c, a = .slice p l.length c := by obtain ⟨⟨p, c, h, _⟩, _⟩ := ha; exact ⟨p, c, h⟩
  have C1 : ∀ W, Below w.heap.size w W → Calls Try.prog 12 #[(.slice pa l.length ca)] W (Ret W (.bool true)) := fun W h => by have := Valid_c _ l W (ha.below h); rwa [va] at this
  have hal := vaL_all va
  have C3 : ∀ W, Below w.heap.size w W → Calls Try.prog 43 #[(.slice pa l.length ca)] W (NoPost W l) := fun W h => normal_c _ _ W (ha.below h) (by omega) hal.2
  have H1 := Lib.hid C1
  have H3 := Lib.hid C3
  clear C1 C3 ha
  have hb0 : Below w.heap.size w w := Below.refl _ _
  go_enter Try.func22, Try.ntmps22
  go_wp2_with fail
  refine Calls.mono (H1.out _ (by repeat (first | with_reducible exact Below.refl _ _ | with_reducible assumption | with_reducible refine Below.setCell ?_ (by first | omega | (simp <;> omega)) _ | with_reducible refine balloc ?_ _ | with_reducible refine Below.drew ?_ | with_reducible refine bstep ?_ (by with_reducible assumption)))) ?_
  rintro e w1 ⟨rfl, hb⟩
  replace hb0 : Below w.heap.size w w1 := (by repeat (first | with_reducible exact Below.refl _ _ | with_reducible assumption | with_reducible refine Below.setCell ?_ (by first | omega | (simp <;> omega)) _ | with_reducible refine balloc ?_ _ | with_reducible refine Below.drew ?_ | with_reducible refine bstep ?_ (by with_reducible assumption)))
  have hs_w1 : w.heap.size ≤ w1.heap.size := hb.size
  clear hb
  go_wp2_with fail
  refine Calls.mono (H3.out _ (by repeat (first | with_reducible exact Below.refl _ _ | with_reducible assumption | with_reducible refine Below.setCell ?_ (by first | omega | (simp <;> omega)) _ | with_reducible refine balloc ?_ _ | with_reducible refine Below.drew ?_ | with_reducible refine bstep ?_ (by with_reducible assumption)))) ?_
  rintro e w2 ⟨v, rfl, hown, hb2⟩
  have hs1 := hb0.size
  have HO := Lib.hid (own_base hown (base' := w.heap.size) (by omega))
  clear hown
  go_wp2
  go_ret2
  exact ⟨v, rfl, HO.out, (by repeat (first | with_reducible exact Below.refl _ _ | with_reducible assumption | with_reducible refine Below.setCell ?_ (by first | omega | (simp <;> omega)) _ | with_reducible refine balloc ?_ _ | with_reducible refine Below.drew ?_ | with_reducible refine bstep ?_ (by with_reducible assumption)))⟩

set_option maxRecDepth 20000 in
set_option maxHeartbeats 3200000 in
theorem Normal_no (a : Value) (l : List Sec) (w : World) (ha : Secs w a l) (va : vaL l = false) : Calls Try.prog 22 #[a] w (Ret w (.tuple #[.slice none 0 0, (.int .i64 1)])) := by
  obtain ⟨pa, ca, rfl⟩ : ∃ p c, a = .slice p l.length c := by obtain ⟨⟨p, c, h, _⟩, _⟩ := ha; exact ⟨p, c, h⟩
  have hb0 : Below w.heap.size w w := Below.refl _ _
  have C1 : ∀ W, Below w.heap.size w W → Calls Try.prog 12 #[(.slice pa l.length ca)] W (Ret W (.bool false)) := fun W h => by have := Valid_c _ l W (ha.below h); rwa [va] at this
  have H1 := Lib.hid C1
  clear C1 ha
  go_enter Try.func22, Try.ntmps22
  go_wp2_with fail
  refine Calls.mono (H1.out _ (by repeat (first | with_reducible exact Below.refl _ _ | with_reducible assumption | with_reducible refine Below.setCell ?_ (by first | omega | (simp <;> omega)) _ | with_reducible refine balloc ?_ _ | with_reducible refine Below.drew ?_ | with_reducible refine bstep ?_ (by with_reducible assumption)))) ?_
  rintro e w1 ⟨rfl, hb⟩
  replace hb0 : Below w.heap.size w w1 := (by repeat (first | with_reducible exact Below.refl _ _ | with_reducible assumption | with_reducible refine Below.setCell ?_ (by first | omega | (simp <;> omega)) _ | with_reducible refine balloc ?_ _ | with_reducible refine Below.drew ?_ | with_reducible refine bstep ?_ (by with_reducible assumption)))
  have hs_w1 : w.heap.size ≤ w1.heap.size := hb.size
  clear hb
  go_wp2
  go_ret2
  exact ⟨rfl, (by repeat (first | with_reducible exact Below.refl _ _ | with_reducible assumption | with_reducible refine Below.setCell ?_ (by first | omega | (simp <;> omega)) _ | with_reducible refine balloc ?_ _ | with_reducible refine Below.drew ?_ | with_reducible refine bstep ?_ (by with_reducible assumption)))⟩


end Go.Proofs.Ytpadkmlckmopfaa.Se
