/- SecU: Holds, Safer. -/
import Derived.Test.YtpadkmlckmopfaaSecL
import Derived.Test.YtpadkmlckmopfaaSecI
import Derived.Test.YtpadkmlckmopfaaRows
import Derived.WalkKit
import Derived.WalkSpells
import Derived.WalkLawsBesides
import Derived.Lib.Hide
import Derived.Deep.QuietTactic
import Derived.BigQuiet
import Derived.RegionTactic
import Derived.ChangeAlike
import Derived.BigRegion
import Derived.Deep.RegionHeld3
import Derived.Deep.RegionWith
import Derived.Outline
import Derived.IntWalk
import Derived.Deep.DeepCutAuto
namespace Go.Proofs.Ytpadkmlckmopfaa.Se
open Go.RowKit
set_option linter.unusedSimpArgs false
set_option linter.unusedVariables false

set_option maxRecDepth 20000 in
set_option maxHeartbeats 3200000 in
theorem Holds_ok (a b : Value) (l m : List Sec) (k : Int) (w : World) (ha : Secs w a l) (hb : Secs w b m) (va : vaL l = true) (vb : vaL m = true) (hk : btB k 1 3 = true) : Calls Try.prog 18 #[a, b, (.int .i64 k)] w (Ret w (.tuple #[(.bool (hoL l m k)), (.int .i64 0)])) := by
  obtain ⟨pa, ca, rfl⟩ : ∃ p c, a = .slice p l.length c := by obtain ⟨⟨p, c, h, _⟩, _⟩ := ha; exact ⟨p, c, h⟩
  obtain ⟨pb, cb, rfl⟩ : ∃ p c, b = .slice p m.length c := by obtain ⟨⟨p, c, h, _⟩, _⟩ := hb; exact ⟨p, c, h⟩
  have C1 : ∀ W, Below w.heap.size w W → Calls Try.prog 12 #[(.slice pa l.length ca)] W (Ret W (.bool true)) := fun W h => by have := Valid_c _ l W (ha.below h); rwa [va] at this
  have C2 : ∀ W, Below w.heap.size w W → Calls Try.prog 12 #[(.slice pb m.length cb)] W (Ret W (.bool true)) := fun W h => by have := Valid_c _ m W (hb.below h); rwa [vb] at this
  have hala := vaL_all va
  have halb := vaL_all vb
  have C4 : ∀ w, Calls Try.prog 41 #[(.int .i64 k), (.int .i64 1), (.int .i64 3)] w (Same w (.bool true)) := fun w => by have := bt_c k 1 3 w; rwa [hk] at this
  have C3 : ∀ W, Below w.heap.size w W → Calls Try.prog 42 #[(.slice pa l.length ca), (.slice pb m.length cb), (.int .i64 k)] W (Ret W (.bool (hoL l m k))) := fun W h => holds_c _ _ _ _ _ W (ha.below h) (hb.below h) (by omega) (by omega) hala.2 halb.2
  have H1 := Lib.hid C1
  have H2 := Lib.hid C2
  have H3 := Lib.hid C3
  clear C1 C2 C3 ha hb
  have hb0 : Below w.heap.size w w := Below.refl _ _
  go_enter Try.func18, Try.ntmps18
  go_wp2_with fail
  refine Calls.mono (H1.out _ (by repeat (first | with_reducible exact Below.refl _ _ | with_reducible assumption | with_reducible refine Below.setCell ?_ (by first | omega | (simp <;> omega)) _ | with_reducible refine balloc ?_ _ | with_reducible refine Below.drew ?_ | with_reducible refine bstep ?_ (by with_reducible assumption)))) ?_
  rintro e w1 ⟨rfl, hb⟩
  replace hb0 : Below w.heap.size w w1 := (by repeat (first | with_reducible exact Below.refl _ _ | with_reducible assumption | with_reducible refine Below.setCell ?_ (by first | omega | (simp <;> omega)) _ | with_reducible refine balloc ?_ _ | with_reducible refine Below.drew ?_ | with_reducible refine bstep ?_ (by with_reducible assumption)))
  have hs_w1 : w.heap.size ≤ w1.heap.size := hb.size
  clear hb
  go_wp2_with fail
  refine Calls.mono (H2.out _ (by repeat (first | with_reducible exact Below.refl _ _ | with_reducible assumption | with_reducible refine Below.setCell ?_ (by first | omega | (simp <;> omega)) _ | with_reducible refine balloc ?_ _ | with_reducible refine Below.drew ?_ | with_reducible refine bstep ?_ (by with_reducible assumption)))) ?_
  rintro e w2 ⟨rfl, hb⟩
  replace hb0 : Below w.heap.size w w2 := (by repeat (first | with_reducible exact Below.refl _ _ | with_reducible assumption | with_reducible refine Below.setCell ?_ (by first | omega | (simp <;> omega)) _ | with_reducible refine balloc ?_ _ | with_reducible refine Below.drew ?_ | with_reducible refine bstep ?_ (by with_reducible assumption)))
  have hs_w2 : w1.heap.size ≤ w2.heap.size := hb.size
  clear hb
  go_wp2_with fail
  refine Calls.mono (C4 _) ?_
  rintro e wx ⟨rfl, rfl⟩
  go_wp2_with fail
  refine Calls.mono (H3.out _ (by repeat (first | with_reducible exact Below.refl _ _ | with_reducible assumption | with_reducible refine Below.setCell ?_ (by first | omega | (simp <;> omega)) _ | with_reducible refine balloc ?_ _ | with_reducible refine Below.drew ?_ | with_reducible refine bstep ?_ (by with_reducible assumption)))) ?_
  rintro e w3 ⟨rfl, hb⟩
  replace hb0 : Below w.heap.size w w3 := (by repeat (first | with_reducible exact Below.refl _ _ | with_reducible assumption | with_reducible refine Below.setCell ?_ (by first | omega | (simp <;> omega)) _ | with_reducible refine balloc ?_ _ | with_reducible refine Below.drew ?_ | with_reducible refine bstep ?_ (by with_reducible assumption)))
  have hs_w3 : w2.heap.size ≤ w3.heap.size := hb.size
  clear hb
  go_wp2
  go_ret2
  exact ⟨rfl, (by repeat (first | with_reducible exact Below.refl _ _ | with_reducible assumption | with_reducible refine Below.setCell ?_ (by first | omega | (simp <;> omega)) _ | with_reducible refine balloc ?_ _ | with_reducible refine Below.drew ?_ | with_reducible refine bstep ?_ (by with_reducible assumption)))⟩

set_option maxRecDepth 20000 in
set_option maxHeartbeats 3200000 in
theorem Holds_no (a b : Value) (l m : List Sec) (k : Int) (w : World) (ha : Secs w a l) (hb : Secs w b m) (h : (vaL l && (vaL m && btB k 1 3)) = false) : Calls Try.prog 18 #[a, b, (.int .i64 k)] w (Ret w (.tuple #[(.bool false), (.int .i64 1)])) := by
  obtain ⟨pa, ca, rfl⟩ : ∃ p c, a = .slice p l.length c := by obtain ⟨⟨p, c, h, _⟩, _⟩ := ha; exact ⟨p, c, h⟩
  obtain ⟨pb, cb, rfl⟩ : ∃ p c, b = .slice p m.length c := by obtain ⟨⟨p, c, h, _⟩, _⟩ := hb; exact ⟨p, c, h⟩
  have hb0 : Below w.heap.size w w := Below.refl _ _
  cases va : vaL l
  · have C1 : ∀ W, Below w.heap.size w W → Calls Try.prog 12 #[(.slice pa l.length ca)] W (Ret W (.bool false)) := fun W h => by have := Valid_c _ l W (ha.below h); rwa [va] at this
    have H1 := Lib.hid C1
    clear C1 ha hb
    go_enter Try.func18, Try.ntmps18
    go_wp2_with fail
    refine Calls.mono (H1.out _ (by repeat (first | with_reducible exact Below.refl _ _ | with_reducible assumption | with_reducible refine Below.setCell ?_ (by first | omega | (simp <;> omega)) _ | with_reducible refine balloc ?_ _ | with_reducible refine Below.drew ?_ | with_reducible refine bstep ?_ (by with_reducible assumption)))) ?_
    rintro e w1 ⟨rfl, hb⟩
    replace hb0 : Below w.heap.size w w1 := (by repeat (first | with_reducible exact Below.refl _ _ | with_reducible assumption | with_reducible refine Below.setCell ?_ (by first | omega | (simp <;> omega)) _ | with_reducible refine balloc ?_ _ | with_reducible refine Below.drew ?_ | with_reducible refine bstep ?_ (by with_reducible assumption)))
    have hs_w1 : w.heap.size ≤ w1.heap.size := hb.size
    clear hb
    go_wp2
    go_ret2
    exact ⟨rfl, (by repeat (first | with_reducible exact Below.refl _ _ | with_reducible assumption | with_reducible refine Below.setCell ?_ (by first | omega | (simp <;> omega)) _ | with_reducible refine balloc ?_ _ | with_reducible refine Below.drew ?_ | with_reducible refine bstep ?_ (by with_reducible assumption)))⟩
  · cases vb : vaL m
    · have C1 : ∀ W, Below w.heap.size w W → Calls Try.prog 12 #[(.slice pa l.length ca)] W (Ret W (.bool true)) := fun W h => by have := Valid_c _ l W (ha.below h); rwa [va] at this
      have C2 : ∀ W, Below w.heap.size w W → Calls Try.prog 12 #[(.slice pb m.length cb)] W (Ret W (.bool false)) := fun W h => by have := Valid_c _ m W (hb.below h); rwa [vb] at this
      have H1 := Lib.hid C1
      have H2 := Lib.hid C2
      clear C1 C2 ha hb
      go_enter Try.func18, Try.ntmps18
      go_wp2_with fail
      refine Calls.mono (H1.out _ (by repeat (first | with_reducible exact Below.refl _ _ | with_reducible assumption | with_reducible refine Below.setCell ?_ (by first | omega | (simp <;> omega)) _ | with_reducible refine balloc ?_ _ | with_reducible refine Below.drew ?_ | with_reducible refine bstep ?_ (by with_reducible assumption)))) ?_
      rintro e w1 ⟨rfl, hb⟩
      replace hb0 : Below w.heap.size w w1 := (by repeat (first | with_reducible exact Below.refl _ _ | with_reducible assumption | with_reducible refine Below.setCell ?_ (by first | omega | (simp <;> omega)) _ | with_reducible refine balloc ?_ _ | with_reducible refine Below.drew ?_ | with_reducible refine bstep ?_ (by with_reducible assumption)))
      have hs_w1 : w.heap.size ≤ w1.heap.size := hb.size
      clear hb
      go_wp2_with fail
      refine Calls.mono (H2.out _ (by repeat (first | with_reducible exact Below.refl _ _ | with_reducible assumption | with_reducible refine Below.setCell ?_ (by first | omega | (simp <;> omega)) _ | with_reducible refine balloc ?_ _ | with_reducible refine Below.drew ?_ | with_reducible refine bstep ?_ (by with_reducible assumption)))) ?_
      rintro e w2 ⟨rfl, hb⟩
      replace hb0 : Below w.heap.size w w2 := (by repeat (first | with_reducible exact Below.refl _ _ | with_reducible assumption | with_reducible refine Below.setCell ?_ (by first | omega | (simp <;> omega)) _ | with_reducible refine balloc ?_ _ | with_reducible refine Below.drew ?_ | with_reducible refine bstep ?_ (by with_reducible assumption)))
      have hs_w2 : w1.heap.size ≤ w2.heap.size := hb.size
      clear hb
      go_wp2
      go_ret2
      exact ⟨rfl, (by repeat (first | with_reducible exact Below.refl _ _ | with_reducible assumption | with_reducible refine Below.setCell ?_ (by first | omega | (simp <;> omega)) _ | with_reducible refine balloc ?_ _ | with_reducible refine Below.drew ?_ | with_reducible refine bstep ?_ (by with_reducible assumption)))⟩
    · have hk : btB k 1 3 = false := by rw [va, vb] at h; simpa using h
      have C1 : ∀ W, Below w.heap.size w W → Calls Try.prog 12 #[(.slice pa l.length ca)] W (Ret W (.bool true)) := fun W h => by have := Valid_c _ l W (ha.below h); rwa [va] at this
      have C2 : ∀ W, Below w.heap.size w W → Calls Try.prog 12 #[(.slice pb m.length cb)] W (Ret W (.bool true)) := fun W h => by have := Valid_c _ m W (hb.below h); rwa [vb] at this
      have C4 : ∀ w, Calls Try.prog 41 #[(.int .i64 k), (.int .i64 1), (.int .i64 3)] w (Same w (.bool false)) := fun w => by have := bt_c k 1 3 w; rwa [hk] at this
      have H1 := Lib.hid C1
      have H2 := Lib.hid C2
      clear C1 C2 ha hb
      go_enter Try.func18, Try.ntmps18
      go_wp2_with fail
      refine Calls.mono (H1.out _ (by repeat (first | with_reducible exact Below.refl _ _ | with_reducible assumption | with_reducible refine Below.setCell ?_ (by first | omega | (simp <;> omega)) _ | with_reducible refine balloc ?_ _ | with_reducible refine Below.drew ?_ | with_reducible refine bstep ?_ (by with_reducible assumption)))) ?_
      rintro e w1 ⟨rfl, hb⟩
      replace hb0 : Below w.heap.size w w1 := (by repeat (first | with_reducible exact Below.refl _ _ | with_reducible assumption | with_reducible refine Below.setCell ?_ (by first | omega | (simp <;> omega)) _ | with_reducible refine balloc ?_ _ | with_reducible refine Below.drew ?_ | with_reducible refine bstep ?_ (by with_reducible assumption)))
      have hs_w1 : w.heap.size ≤ w1.heap.size := hb.size
      clear hb
      go_wp2_with fail
      refine Calls.mono (H2.out _ (by repeat (first | with_reducible exact Below.refl _ _ | with_reducible assumption | with_reducible refine Below.setCell ?_ (by first | omega | (simp <;> omega)) _ | with_reducible refine balloc ?_ _ | with_reducible refine Below.drew ?_ | with_reducible refine bstep ?_ (by with_reducible assumption)))) ?_
      rintro e w2 ⟨rfl, hb⟩
      replace hb0 : Below w.heap.size w w2 := (by repeat (first | with_reducible exact Below.refl _ _ | with_reducible assumption | with_reducible refine Below.setCell ?_ (by first | omega | (simp <;> omega)) _ | with_reducible refine balloc ?_ _ | with_reducible refine Below.drew ?_ | with_reducible refine bstep ?_ (by with_reducible assumption)))
      have hs_w2 : w1.heap.size ≤ w2.heap.size := hb.size
      clear hb
      go_wp2_with fail
      refine Calls.mono (C4 _) ?_
      rintro e wx ⟨rfl, rfl⟩
      go_wp2
      go_ret2
      exact ⟨rfl, (by repeat (first | with_reducible exact Below.refl _ _ | with_reducible assumption | with_reducible refine Below.setCell ?_ (by first | omega | (simp <;> omega)) _ | with_reducible refine balloc ?_ _ | with_reducible refine Below.drew ?_ | with_reducible refine bstep ?_ (by with_reducible assumption)))⟩

set_option maxRecDepth 20000 in
set_option maxHeartbeats 3200000 in
theorem Safer_ok (a b : Value) (l m : List Sec) (w : World) (ha : Secs w a l) (hb : Secs w b m) (va : vaL l = true) (vb : vaL m = true) : Calls Try.prog 20 #[a, b] w (Ret w (.tuple #[(.bool (!hoL m l 1)), (.int .i64 0)])) := by
  obtain ⟨pa, ca, rfl⟩ : ∃ p c, a = .slice p l.length c := by obtain ⟨⟨p, c, h, _⟩, _⟩ := ha; exact ⟨p, c, h⟩
  obtain ⟨pb, cb, rfl⟩ : ∃ p c, b = .slice p m.length c := by obtain ⟨⟨p, c, h, _⟩, _⟩ := hb; exact ⟨p, c, h⟩
  have C1 : ∀ W, Below w.heap.size w W → Calls Try.prog 12 #[(.slice pa l.length ca)] W (Ret W (.bool true)) := fun W h => by have := Valid_c _ l W (ha.below h); rwa [va] at this
  have C2 : ∀ W, Below w.heap.size w W → Calls Try.prog 12 #[(.slice pb m.length cb)] W (Ret W (.bool true)) := fun W h => by have := Valid_c _ m W (hb.below h); rwa [vb] at this
  have hala := vaL_all va
  have halb := vaL_all vb
  have C3 : ∀ W, Below w.heap.size w W → Calls Try.prog 42 #[(.slice pb m.length cb), (.slice pa l.length ca), (.int .i64 1)] W (Ret W (.bool (hoL m l 1))) := fun W h => holds_c _ _ _ _ _ W (hb.below h) (ha.below h) (by omega) (by omega) halb.2 hala.2
  have H1 := Lib.hid C1
  have H2 := Lib.hid C2
  have H3 := Lib.hid C3
  clear C1 C2 C3 ha hb
  have hb0 : Below w.heap.size w w := Below.refl _ _
  go_enter Try.func20, Try.ntmps20
  go_wp2_with fail
  refine Calls.mono (H1.out _ (by repeat (first | with_reducible exact Below.refl _ _ | with_reducible assumption | with_reducible refine Below.setCell ?_ (by first | omega | (simp <;> omega)) _ | with_reducible refine balloc ?_ _ | with_reducible refine Below.drew ?_ | with_reducible refine bstep ?_ (by with_reducible assumption)))) ?_
  rintro e w1 ⟨rfl, hb⟩
  replace hb0 : Below w.heap.size w w1 := (by repeat (first | with_reducible exact Below.refl _ _ | with_reducible assumption | with_reducible refine Below.setCell ?_ (by first | omega | (simp <;> omega)) _ | with_reducible refine balloc ?_ _ | with_reducible refine Below.drew ?_ | with_reducible refine bstep ?_ (by with_reducible assumption)))
  have hs_w1 : w.heap.size ≤ w1.heap.size := hb.size
  clear hb
  go_wp2_with fail
  refine Calls.mono (H2.out _ (by repeat (first | with_reducible exact Below.refl _ _ | with_reducible assumption | with_reducible refine Below.setCell ?_ (by first | omega | (simp <;> omega)) _ | with_reducible refine balloc ?_ _ | with_reducible refine Below.drew ?_ | with_reducible refine bstep ?_ (by with_reducible assumption)))) ?_
  rintro e w2 ⟨rfl, hb⟩
  replace hb0 : Below w.heap.size w w2 := (by repeat (first | with_reducible exact Below.refl _ _ | with_reducible assumption | with_reducible refine Below.setCell ?_ (by first | omega | (simp <;> omega)) _ | with_reducible refine balloc ?_ _ | with_reducible refine Below.drew ?_ | with_reducible refine bstep ?_ (by with_reducible assumption)))
  have hs_w2 : w1.heap.size ≤ w2.heap.size := hb.size
  clear hb
  go_wp2_with fail
  refine Calls.mono (H3.out _ (by repeat (first | with_reducible exact Below.refl _ _ | with_reducible assumption | with_reducible refine Below.setCell ?_ (by first | omega | (simp <;> omega)) _ | with_reducible refine balloc ?_ _ | with_reducible refine Below.drew ?_ | with_reducible refine bstep ?_ (by with_reducible assumption)))) ?_
  rintro e w3 ⟨rfl, hb⟩
  replace hb0 : Below w.heap.size w w3 := (by repeat (first | with_reducible exact Below.refl _ _ | with_reducible assumption | with_reducible refine Below.setCell ?_ (by first | omega | (simp <;> omega)) _ | with_reducible refine balloc ?_ _ | with_reducible refine Below.drew ?_ | with_reducible refine bstep ?_ (by with_reducible assumption)))
  have hs_w3 : w2.heap.size ≤ w3.heap.size := hb.size
  clear hb
  go_wp2
  go_ret2
  exact ⟨rfl, (by repeat (first | with_reducible exact Below.refl _ _ | with_reducible assumption | with_reducible refine Below.setCell ?_ (by first | omega | (simp <;> omega)) _ | with_reducible refine balloc ?_ _ | with_reducible refine Below.drew ?_ | with_reducible refine bstep ?_ (by with_reducible assumption)))⟩

set_option maxRecDepth 20000 in
set_option maxHeartbeats 3200000 in
theorem Safer_no (a b : Value) (l m : List Sec) (w : World) (ha : Secs w a l) (hb : Secs w b m) (h : (vaL l && vaL m) = false) : Calls Try.prog 20 #[a, b] w (Ret w (.tuple #[(.bool false), (.int .i64 1)])) := by
  obtain ⟨pa, ca, rfl⟩ : ∃ p c, a = .slice p l.length c := by obtain ⟨⟨p, c, h, _⟩, _⟩ := ha; exact ⟨p, c, h⟩
  obtain ⟨pb, cb, rfl⟩ : ∃ p c, b = .slice p m.length c := by obtain ⟨⟨p, c, h, _⟩, _⟩ := hb; exact ⟨p, c, h⟩
  have hb0 : Below w.heap.size w w := Below.refl _ _
  cases va : vaL l
  · have C1 : ∀ W, Below w.heap.size w W → Calls Try.prog 12 #[(.slice pa l.length ca)] W (Ret W (.bool false)) := fun W h => by have := Valid_c _ l W (ha.below h); rwa [va] at this
    have H1 := Lib.hid C1
    clear C1 ha hb
    go_enter Try.func20, Try.ntmps20
    go_wp2_with fail
    refine Calls.mono (H1.out _ (by repeat (first | with_reducible exact Below.refl _ _ | with_reducible assumption | with_reducible refine Below.setCell ?_ (by first | omega | (simp <;> omega)) _ | with_reducible refine balloc ?_ _ | with_reducible refine Below.drew ?_ | with_reducible refine bstep ?_ (by with_reducible assumption)))) ?_
    rintro e w1 ⟨rfl, hb⟩
    replace hb0 : Below w.heap.size w w1 := (by repeat (first | with_reducible exact Below.refl _ _ | with_reducible assumption | with_reducible refine Below.setCell ?_ (by first | omega | (simp <;> omega)) _ | with_reducible refine balloc ?_ _ | with_reducible refine Below.drew ?_ | with_reducible refine bstep ?_ (by with_reducible assumption)))
    have hs_w1 : w.heap.size ≤ w1.heap.size := hb.size
    clear hb
    go_wp2
    go_ret2
    exact ⟨rfl, (by repeat (first | with_reducible exact Below.refl _ _ | with_reducible assumption | with_reducible refine Below.setCell ?_ (by first | omega | (simp <;> omega)) _ | with_reducible refine balloc ?_ _ | with_reducible refine Below.drew ?_ | with_reducible refine bstep ?_ (by with_reducible assumption)))⟩
  · have vb : vaL m = false := by rw [va] at h; simpa using h
    have C1 : ∀ W, Below w.heap.size w W → Calls Try.prog 12 #[(.slice pa l.length ca)] W (Ret W (.bool true)) := fun W h => by have := Valid_c _ l W (ha.below h); rwa [va] at this
    have C2 : ∀ W, Below w.heap.size w W → Calls Try.prog 12 #[(.slice pb m.length cb)] W (Ret W (.bool false)) := fun W h => by have := Valid_c _ m W (hb.below h); rwa [vb] at this
    have H1 := Lib.hid C1
    have H2 := Lib.hid C2
    clear C1 C2 ha hb
    go_enter Try.func20, Try.ntmps20
    go_wp2_with fail
    refine Calls.mono (H1.out _ (by repeat (first | with_reducible exact Below.refl _ _ | with_reducible assumption | with_reducible refine Below.setCell ?_ (by first | omega | (simp <;> omega)) _ | with_reducible refine balloc ?_ _ | with_reducible refine Below.drew ?_ | with_reducible refine bstep ?_ (by with_reducible assumption)))) ?_
    rintro e w1 ⟨rfl, hb⟩
    replace hb0 : Below w.heap.size w w1 := (by repeat (first | with_reducible exact Below.refl _ _ | with_reducible assumption | with_reducible refine Below.setCell ?_ (by first | omega | (simp <;> omega)) _ | with_reducible refine balloc ?_ _ | with_reducible refine Below.drew ?_ | with_reducible refine bstep ?_ (by with_reducible assumption)))
    have hs_w1 : w.heap.size ≤ w1.heap.size := hb.size
    clear hb
    go_wp2_with fail
    refine Calls.mono (H2.out _ (by repeat (first | with_reducible exact Below.refl _ _ | with_reducible assumption | with_reducible refine Below.setCell ?_ (by first | omega | (simp <;> omega)) _ | with_reducible refine balloc ?_ _ | with_reducible refine Below.drew ?_ | with_reducible refine bstep ?_ (by with_reducible assumption)))) ?_
    rintro e w2 ⟨rfl, hb⟩
    replace hb0 : Below w.heap.size w w2 := (by repeat (first | with_reducible exact Below.refl _ _ | with_reducible assumption | with_reducible refine Below.setCell ?_ (by first | omega | (simp <;> omega)) _ | with_reducible refine balloc ?_ _ | with_reducible refine Below.drew ?_ | with_reducible refine bstep ?_ (by with_reducible assumption)))
    have hs_w2 : w1.heap.size ≤ w2.heap.size := hb.size
    clear hb
    go_wp2
    go_ret2
    exact ⟨rfl, (by repeat (first | with_reducible exact Below.refl _ _ | with_reducible assumption | with_reducible refine Below.setCell ?_ (by first | omega | (simp <;> omega)) _ | with_reducible refine balloc ?_ _ | with_reducible refine Below.drew ?_ | with_reducible refine bstep ?_ (by with_reducible assumption)))⟩


end Go.Proofs.Ytpadkmlckmopfaa.Se
