/- PolW: head. -/
import Derived.Test.YtphcmdmfjhjidaaPolV
import Derived.Test.YtphcmdmfjhjidaaRows
import Derived.WalkKit
import Derived.WalkSpells
import Derived.WalkLawsBesides
import Derived.Lib.Hide
import Derived.Deep.QuietTactic
import Derived.BigQuiet
import Derived.RegionTactic
import Derived.ChangeAlike
import Derived.BigRegion
import Derived.Deep.RegionHeld3
import Derived.Deep.RegionWith
import Derived.Outline
import Derived.IntWalk
import Derived.LoopTactic
namespace Go.Proofs.Ytphcmdmfjhjidaa.Po
open Go.RowKit
set_option linter.unusedSimpArgs false
set_option linter.unusedVariables false

set_option maxRecDepth 100000 in
set_option maxHeartbeats 12800000 in
theorem head_c (w : World) : Calls Try.prog 8 #[] w (Ret w (.bool true)) := by
  have in1 : ∀ v w, Pts w v bentL → Calls Try.prog 10 #[.agg #[(.int .i64 1), (.int .i64 3)], v] w (Ret w (.tuple #[(.int .i64 1), (.int .i64 0)])) := fun v w h => by
    have := In_ok 1 3 v bentL w h (by decide) bent_va
    rwa [bent_in1] at this
  have in2 : ∀ v w, Pts w v bentL → Calls Try.prog 10 #[.agg #[(.int .i64 2), (.int .i64 3)], v] w (Ret w (.tuple #[(.int .i64 0), (.int .i64 0)])) := fun v w h => by
    have := In_ok 2 3 v bentL w h (by decide) bent_va
    rwa [bent_in2] at this
  have in3 : ∀ v w, Pts w v bentL → Calls Try.prog 10 #[.agg #[(.int .i64 3), (.int .i64 3)], v] w (Ret w (.tuple #[(.int .i64 ((-1))), (.int .i64 0)])) := fun v w h => by
    have := In_ok 3 3 v bentL w h (by decide) bent_va
    rwa [bent_in3] at this
  have ar : ∀ v w, Pts w v bentL → Calls Try.prog 9 #[v] w (Ret w (.tuple #[(.int .i64 24), (.int .i64 0)])) := fun v w h => by
    have := Area_ok v bentL w h bent_va
    rwa [bent_ar] at this
  have di1 : ∀ v w, Pts w v bentL → Calls Try.prog 16 #[v, .agg #[(.int .i64 1), (.int .i64 1)], (.int .i64 1)] w (Ret w (.tuple #[(.int .i64 1), (.int .i64 0)])) := fun v w h => by
    have := Disc_ok v 1 1 1 bentL w h bent_va (by decide) (by decide)
    rwa [bent_d1] at this
  have di2 : ∀ v w, Pts w v bentL → Calls Try.prog 16 #[v, .agg #[(.int .i64 1), (.int .i64 1)], (.int .i64 2)] w (Ret w (.tuple #[(.int .i64 0), (.int .i64 0)])) := fun v w h => by
    have := Disc_ok v 1 1 2 bentL w h bent_va (by decide) (by decide)
    rwa [bent_d2] at this
  have di3 : ∀ v w, Pts w v bentL → Calls Try.prog 16 #[v, .agg #[(.int .i64 4), (.int .i64 4)], (.int .i64 1)] w (Ret w (.tuple #[(.int .i64 ((-1))), (.int .i64 0)])) := fun v w h => by
    have := Disc_ok v 4 4 1 bentL w h bent_va (by decide) (by decide)
    rwa [bent_d3] at this
  have di4 : ∀ v w, Pts w v bentL → Calls Try.prog 16 #[v, .agg #[(.int .i64 4), (.int .i64 4)], (.int .i64 2)] w (Ret w (.tuple #[(.int .i64 0), (.int .i64 0)])) := fun v w h => by
    have := Disc_ok v 4 4 2 bentL w h bent_va (by decide) (by decide)
    rwa [bent_d4] at this
  have bx : ∀ v w, Pts w v bentL → Calls Try.prog 20 #[v] w (Ret w (.tuple #[.agg #[(.int .i64 0), (.int .i64 4), (.int .i64 0), (.int .i64 4)], (.int .i64 0)])) := fun v w h => by
    have := Box_ok v bentL w h bent_va
    rwa [bent_bx] at this
  have hs1 : ∀ v u w, Pts w v bentL → Pts w u [(0, 0), (4, 0), (0, 4)] → Calls Try.prog 14 #[v, u] w (Ret w (.tuple #[(.bool true), (.int .i64 0)])) := fun v u w h k => by
    have := Holds_ok v u _ _ w h k bent_va tri1_va
    rwa [bent_h1] at this
  have hs2 : ∀ v u w, Pts w v bentL → Pts w u [(0, 0), (4, 0), (1, 4)] → Calls Try.prog 14 #[v, u] w (Ret w (.tuple #[(.bool false), (.int .i64 0)])) := fun v u w h k => by
    have := Holds_ok v u _ _ w h k bent_va tri2_va
    rwa [bent_h2] at this
  have hu : ∀ v w, Pts w v bentL → Calls Try.prog 19 #[v] w (fun e W' => (∃ u, e = .returned (.tuple #[u, (.int .i64 0)]) ∧ Pts W' u [(0, 0), (4, 0), (4, 2), (2, 4), (0, 4)]) ∧ Below w.heap.size w W') := fun v w h => by
    have := Hull_ok h (by decide) (by decide) bent_okL
    unfold HulPost at this
    simpa [bent_hu] using this
  have hn : ∀ v w, Pts w v [(0, 0), (1, 1), (3, 3)] → Calls Try.prog 19 #[v] w (fun e W' => e = .returned (.tuple #[.slice none 0 0, (.int .i64 4)]) ∧ Below w.heap.size w W') := fun v w h => by
    have := Hull_ok h (by decide) (by decide) line_okL
    unfold HulPost at this
    simpa [line_hu] using this
  have rc : ∀ w, Calls Try.prog 21 #[.agg #[(.int .i64 0), (.int .i64 4), (.int .i64 0), (.int .i64 4)]] w (RectPost w [(0, 0), (4, 0), (4, 4), (0, 4)]) := fun w => by
    have := Rect_ok 0 4 0 4 w rect_v (by decide) (by decide)
    rwa [rect_rc] at this
  have va1 : ∀ v w, Pts w v bentL → Calls Try.prog 22 #[v] w (Ret w (.bool true)) := fun v w h => by
    have := Valid_c v bentL w h
    rwa [bent_va] at this
  have va2 : ∀ v w, Pts w v [(4, 0), (4, 2), (2, 2), (2, 4), (0, 4)] → Calls Try.prog 22 #[v] w (Ret w (.bool false)) := fun v w h => by
    have := Valid_c v _ w h
    rwa [tail_va] at this
  have sm1 : ∀ v u w, Pts w v [(0, 0), (4, 0), (4, 2), (2, 4), (0, 4)] → Pts w u [(0, 0), (4, 0), (4, 2), (2, 4), (0, 4)] → Calls Try.prog 15 #[v, u] w (Ret w (.bool true)) := fun v u w h k => by
    have := Same_c v u _ _ w h k (by decide)
    rwa [decide_eq_true rfl] at this
  have sm2 : ∀ v u w, Pts w v [(0, 0), (4, 0), (4, 4), (0, 4)] → Pts w u [(0, 0), (4, 0), (4, 4), (0, 4)] → Calls Try.prog 15 #[v, u] w (Ret w (.bool true)) := fun v u w h k => by
    have := Same_c v u _ _ w h k (by decide)
    rwa [decide_eq_true rfl] at this
  go_enter Try.func8, Try.ntmps8
  go_wp2_with fail
  refine Calls.mono (bent_c _) ?_
  rintro e w1 ⟨v1, rfl, hP1, hb1⟩
  have hB1 : Below w.heap.size w w1 := (by repeat (first | exact Below.refl _ _ | assumption | refine bstep ?_ (by assumption) | refine Below.drew ?_ | refine balloc ?_ _ | refine Below.setCell ?_ (by first | omega | (simp <;> omega)) _))
  clear hb1
  have HP1 : Hid (Pts w1 (.slice (some ⟨v1, 0, none⟩) 6 6) bentL) := Lib.hid (Pts.mk' hP1 (by decide))
  have HB1 := Lib.hid hP1
  clear hP1
  go_wp2_with fail
  refine Calls.mono (in1 _ _ HP1.out) ?_
  rintro e w2 ⟨rfl, hb2⟩
  have hB2 : Below w.heap.size w w2 := (by repeat (first | exact Below.refl _ _ | assumption | refine bstep ?_ (by assumption) | refine Below.drew ?_ | refine balloc ?_ _ | refine Below.setCell ?_ (by first | omega | (simp <;> omega)) _))
  clear hb2
  go_wp2_with fail
  refine Calls.mono (bent_c _) ?_
  rintro e w3 ⟨v3, rfl, hP3, hb3⟩
  have hB3 : Below w.heap.size w w3 := (by repeat (first | exact Below.refl _ _ | assumption | refine bstep ?_ (by assumption) | refine Below.drew ?_ | refine balloc ?_ _ | refine Below.setCell ?_ (by first | omega | (simp <;> omega)) _))
  clear hb3
  have HP3 : Hid (Pts w3 (.slice (some ⟨v3, 0, none⟩) 6 6) bentL) := Lib.hid (Pts.mk' hP3 (by decide))
  have HB3 := Lib.hid hP3
  clear hP3
  go_wp2_with fail
  refine Calls.mono (in2 _ _ HP3.out) ?_
  rintro e w4 ⟨rfl, hb4⟩
  have hB4 : Below w.heap.size w w4 := (by repeat (first | exact Below.refl _ _ | assumption | refine bstep ?_ (by assumption) | refine Below.drew ?_ | refine balloc ?_ _ | refine Below.setCell ?_ (by first | omega | (simp <;> omega)) _))
  clear hb4
  go_wp2_with fail
  refine Calls.mono (bent_c _) ?_
  rintro e w5 ⟨v5, rfl, hP5, hb5⟩
  have hB5 : Below w.heap.size w w5 := (by repeat (first | exact Below.refl _ _ | assumption | refine bstep ?_ (by assumption) | refine Below.drew ?_ | refine balloc ?_ _ | refine Below.setCell ?_ (by first | omega | (simp <;> omega)) _))
  clear hb5
  have HP5 : Hid (Pts w5 (.slice (some ⟨v5, 0, none⟩) 6 6) bentL) := Lib.hid (Pts.mk' hP5 (by decide))
  have HB5 := Lib.hid hP5
  clear hP5
  go_wp2_with fail
  refine Calls.mono (in3 _ _ HP5.out) ?_
  rintro e w6 ⟨rfl, hb6⟩
  have hB6 : Below w.heap.size w w6 := (by repeat (first | exact Below.refl _ _ | assumption | refine bstep ?_ (by assumption) | refine Below.drew ?_ | refine balloc ?_ _ | refine Below.setCell ?_ (by first | omega | (simp <;> omega)) _))
  clear hb6
  go_wp2_with fail
  refine Calls.mono (bent_c _) ?_
  rintro e w7 ⟨v7, rfl, hP7, hb7⟩
  have hB7 : Below w.heap.size w w7 := (by repeat (first | exact Below.refl _ _ | assumption | refine bstep ?_ (by assumption) | refine Below.drew ?_ | refine balloc ?_ _ | refine Below.setCell ?_ (by first | omega | (simp <;> omega)) _))
  clear hb7
  have HP7 : Hid (Pts w7 (.slice (some ⟨v7, 0, none⟩) 6 6) bentL) := Lib.hid (Pts.mk' hP7 (by decide))
  have HB7 := Lib.hid hP7
  clear hP7
  go_wp2_with fail
  refine Calls.mono (ar _ _ HP7.out) ?_
  rintro e w8 ⟨rfl, hb8⟩
  have hB8 : Below w.heap.size w w8 := (by repeat (first | exact Below.refl _ _ | assumption | refine bstep ?_ (by assumption) | refine Below.drew ?_ | refine balloc ?_ _ | refine Below.setCell ?_ (by first | omega | (simp <;> omega)) _))
  clear hb8
  go_wp2_with fail
  refine Calls.mono (bent_c _) ?_
  rintro e w9 ⟨v9, rfl, hP9, hb9⟩
  have hB9 : Below w.heap.size w w9 := (by repeat (first | exact Below.refl _ _ | assumption | refine bstep ?_ (by assumption) | refine Below.drew ?_ | refine balloc ?_ _ | refine Below.setCell ?_ (by first | omega | (simp <;> omega)) _))
  clear hb9
  have HP9 : Hid (Pts w9 (.slice (some ⟨v9, 0, none⟩) 6 6) bentL) := Lib.hid (Pts.mk' hP9 (by decide))
  have HB9 := Lib.hid hP9
  clear hP9
  go_wp2_with fail
  refine Calls.mono (hs1 _ _ _ (HP9.out.below (by repeat (first | exact Below.refl _ _ | assumption | refine bstep ?_ (by assumption) | refine Below.drew ?_ | refine balloc ?_ _ | refine Below.setCell ?_ (by first | omega | (simp <;> omega)) _))) (Pts.mk' (row_new _ [(0, 0), (4, 0), (0, 4)] _ _ rfl) (by decide))) ?_
  rintro e w10 ⟨rfl, hb10⟩
  have hB10 : Below w.heap.size w w10 := (by repeat (first | exact Below.refl _ _ | assumption | refine bstep ?_ (by assumption) | refine Below.drew ?_ | refine balloc ?_ _ | refine Below.setCell ?_ (by first | omega | (simp <;> omega)) _))
  clear hb10
  go_wp2_with fail
  refine Calls.mono (bent_c _) ?_
  rintro e w11 ⟨v11, rfl, hP11, hb11⟩
  have hB11 : Below w.heap.size w w11 := (by repeat (first | exact Below.refl _ _ | assumption | refine bstep ?_ (by assumption) | refine Below.drew ?_ | refine balloc ?_ _ | refine Below.setCell ?_ (by first | omega | (simp <;> omega)) _))
  clear hb11
  have HP11 : Hid (Pts w11 (.slice (some ⟨v11, 0, none⟩) 6 6) bentL) := Lib.hid (Pts.mk' hP11 (by decide))
  have HB11 := Lib.hid hP11
  clear hP11
  go_wp2_with fail
  refine Calls.mono (hs2 _ _ _ (HP11.out.below (by repeat (first | exact Below.refl _ _ | assumption | refine bstep ?_ (by assumption) | refine Below.drew ?_ | refine balloc ?_ _ | refine Below.setCell ?_ (by first | omega | (simp <;> omega)) _))) (Pts.mk' (row_new _ [(0, 0), (4, 0), (1, 4)] _ _ rfl) (by decide))) ?_
  rintro e w12 ⟨rfl, hb12⟩
  have hB12 : Below w.heap.size w w12 := (by repeat (first | exact Below.refl _ _ | assumption | refine bstep ?_ (by assumption) | refine Below.drew ?_ | refine balloc ?_ _ | refine Below.setCell ?_ (by first | omega | (simp <;> omega)) _))
  clear hb12
  go_wp2_with fail
  refine Calls.mono (bent_c _) ?_
  rintro e w13 ⟨v13, rfl, hP13, hb13⟩
  have hB13 : Below w.heap.size w w13 := (by repeat (first | exact Below.refl _ _ | assumption | refine bstep ?_ (by assumption) | refine Below.drew ?_ | refine balloc ?_ _ | refine Below.setCell ?_ (by first | omega | (simp <;> omega)) _))
  clear hb13
  have HP13 : Hid (Pts w13 (.slice (some ⟨v13, 0, none⟩) 6 6) bentL) := Lib.hid (Pts.mk' hP13 (by decide))
  have HB13 := Lib.hid hP13
  clear hP13
  go_wp2_with fail
  refine Calls.mono (di1 _ _ HP13.out) ?_
  rintro e w14 ⟨rfl, hb14⟩
  have hB14 : Below w.heap.size w w14 := (by repeat (first | exact Below.refl _ _ | assumption | refine bstep ?_ (by assumption) | refine Below.drew ?_ | refine balloc ?_ _ | refine Below.setCell ?_ (by first | omega | (simp <;> omega)) _))
  clear hb14
  go_wp2_with fail
  refine Calls.mono (bent_c _) ?_
  rintro e w15 ⟨v15, rfl, hP15, hb15⟩
  have hB15 : Below w.heap.size w w15 := (by repeat (first | exact Below.refl _ _ | assumption | refine bstep ?_ (by assumption) | refine Below.drew ?_ | refine balloc ?_ _ | refine Below.setCell ?_ (by first | omega | (simp <;> omega)) _))
  clear hb15
  have HP15 : Hid (Pts w15 (.slice (some ⟨v15, 0, none⟩) 6 6) bentL) := Lib.hid (Pts.mk' hP15 (by decide))
  have HB15 := Lib.hid hP15
  clear hP15
  go_wp2_with fail
  refine Calls.mono (di2 _ _ HP15.out) ?_
  rintro e w16 ⟨rfl, hb16⟩
  have hB16 : Below w.heap.size w w16 := (by repeat (first | exact Below.refl _ _ | assumption | refine bstep ?_ (by assumption) | refine Below.drew ?_ | refine balloc ?_ _ | refine Below.setCell ?_ (by first | omega | (simp <;> omega)) _))
  clear hb16
  go_wp2_with fail
  refine Calls.mono (bent_c _) ?_
  rintro e w17 ⟨v17, rfl, hP17, hb17⟩
  have hB17 : Below w.heap.size w w17 := (by repeat (first | exact Below.refl _ _ | assumption | refine bstep ?_ (by assumption) | refine Below.drew ?_ | refine balloc ?_ _ | refine Below.setCell ?_ (by first | omega | (simp <;> omega)) _))
  clear hb17
  have HP17 : Hid (Pts w17 (.slice (some ⟨v17, 0, none⟩) 6 6) bentL) := Lib.hid (Pts.mk' hP17 (by decide))
  have HB17 := Lib.hid hP17
  clear hP17
  go_wp2_with fail
  refine Calls.mono (di3 _ _ HP17.out) ?_
  rintro e w18 ⟨rfl, hb18⟩
  have hB18 : Below w.heap.size w w18 := (by repeat (first | exact Below.refl _ _ | assumption | refine bstep ?_ (by assumption) | refine Below.drew ?_ | refine balloc ?_ _ | refine Below.setCell ?_ (by first | omega | (simp <;> omega)) _))
  clear hb18
  go_wp2_with fail
  refine Calls.mono (bent_c _) ?_
  rintro e w19 ⟨v19, rfl, hP19, hb19⟩
  have hB19 : Below w.heap.size w w19 := (by repeat (first | exact Below.refl _ _ | assumption | refine bstep ?_ (by assumption) | refine Below.drew ?_ | refine balloc ?_ _ | refine Below.setCell ?_ (by first | omega | (simp <;> omega)) _))
  clear hb19
  have HP19 : Hid (Pts w19 (.slice (some ⟨v19, 0, none⟩) 6 6) bentL) := Lib.hid (Pts.mk' hP19 (by decide))
  have HB19 := Lib.hid hP19
  clear hP19
  go_wp2_with fail
  refine Calls.mono (di4 _ _ HP19.out) ?_
  rintro e w20 ⟨rfl, hb20⟩
  have hB20 : Below w.heap.size w w20 := (by repeat (first | exact Below.refl _ _ | assumption | refine bstep ?_ (by assumption) | refine Below.drew ?_ | refine balloc ?_ _ | refine Below.setCell ?_ (by first | omega | (simp <;> omega)) _))
  clear hb20
  go_wp2_with fail
  refine Calls.mono (bent_c _) ?_
  rintro e w21 ⟨v21, rfl, hP21, hb21⟩
  have hB21 : Below w.heap.size w w21 := (by repeat (first | exact Below.refl _ _ | assumption | refine bstep ?_ (by assumption) | refine Below.drew ?_ | refine balloc ?_ _ | refine Below.setCell ?_ (by first | omega | (simp <;> omega)) _))
  clear hb21
  have HP21 : Hid (Pts w21 (.slice (some ⟨v21, 0, none⟩) 6 6) bentL) := Lib.hid (Pts.mk' hP21 (by decide))
  have HB21 := Lib.hid hP21
  clear hP21
  go_wp2_with fail
  refine Calls.mono (hu _ _ HP21.out) ?_
  rintro e w22 ⟨⟨u22, rfl, hQ22⟩, hb22⟩
  have hB22 : Below w.heap.size w w22 := (by repeat (first | exact Below.refl _ _ | assumption | refine bstep ?_ (by assumption) | refine Below.drew ?_ | refine balloc ?_ _ | refine Below.setCell ?_ (by first | omega | (simp <;> omega)) _))
  clear hb22
  have HQ22 := Lib.hid hQ22
  clear hQ22
  go_wp2_with fail
  refine Calls.mono (bent_c _) ?_
  rintro e w23 ⟨v23, rfl, hP23, hb23⟩
  have hC22_23 : Below w22.heap.size w22 w23 := (by repeat (first | exact Below.refl _ _ | assumption | refine bstep ?_ (by assumption) | refine Below.drew ?_ | refine balloc ?_ _ | refine Below.setCell ?_ (by first | omega | (simp <;> omega)) _))
  have hB23 : Below w.heap.size w w23 := (by repeat (first | exact Below.refl _ _ | assumption | refine bstep ?_ (by assumption) | refine Below.drew ?_ | refine balloc ?_ _ | refine Below.setCell ?_ (by first | omega | (simp <;> omega)) _))
  clear hb23
  have HP23 : Hid (Pts w23 (.slice (some ⟨v23, 0, none⟩) 6 6) bentL) := Lib.hid (Pts.mk' hP23 (by decide))
  have HB23 := Lib.hid hP23
  clear hP23
  go_wp2_with fail
  refine Calls.mono (bx _ _ HP23.out) ?_
  rintro e w24 ⟨rfl, hb24⟩
  have hC22_24 : Below w22.heap.size w22 w24 := (by repeat (first | exact Below.refl _ _ | assumption | refine bstep ?_ (by assumption) | refine Below.drew ?_ | refine balloc ?_ _ | refine Below.setCell ?_ (by first | omega | (simp <;> omega)) _))
  have hB24 : Below w.heap.size w w24 := (by repeat (first | exact Below.refl _ _ | assumption | refine bstep ?_ (by assumption) | refine Below.drew ?_ | refine balloc ?_ _ | refine Below.setCell ?_ (by first | omega | (simp <;> omega)) _))
  clear hb24
  go_wp2_with fail
  refine Calls.mono (rc _) ?_
  rintro e w25 ⟨g25, rfl, hR25, hg25, hb25⟩
  have hC22_25 : Below w22.heap.size w22 w25 := (by repeat (first | exact Below.refl _ _ | assumption | refine bstep ?_ (by assumption) | refine Below.drew ?_ | refine balloc ?_ _ | refine Below.setCell ?_ (by first | omega | (simp <;> omega)) _))
  have hB25 : Below w.heap.size w w25 := (by repeat (first | exact Below.refl _ _ | assumption | refine bstep ?_ (by assumption) | refine Below.drew ?_ | refine balloc ?_ _ | refine Below.setCell ?_ (by first | omega | (simp <;> omega)) _))
  clear hb25
  have HR25 := Lib.hid hR25
  clear hR25
  go_wp2_with fail
  refine Calls.mono (hn _ _ (Pts.mk' (row_new _ [(0, 0), (1, 1), (3, 3)] _ _ rfl) (by decide))) ?_
  rintro e w26 ⟨rfl, hb26⟩
  have hC25_26 : Below w25.heap.size w25 w26 := (by repeat (first | exact Below.refl _ _ | assumption | refine bstep ?_ (by assumption) | refine Below.drew ?_ | refine balloc ?_ _ | refine Below.setCell ?_ (by first | omega | (simp <;> omega)) _))
  have hC22_26 : Below w22.heap.size w22 w26 := (by repeat (first | exact Below.refl _ _ | assumption | refine bstep ?_ (by assumption) | refine Below.drew ?_ | refine balloc ?_ _ | refine Below.setCell ?_ (by first | omega | (simp <;> omega)) _))
  have hB26 : Below w.heap.size w w26 := (by repeat (first | exact Below.refl _ _ | assumption | refine bstep ?_ (by assumption) | refine Below.drew ?_ | refine balloc ?_ _ | refine Below.setCell ?_ (by first | omega | (simp <;> omega)) _))
  clear hb26
  go_wp2_with fail
  refine Calls.mono (sm1 _ _ _ (HQ22.out.below (by repeat (first | exact Below.refl _ _ | assumption | refine bstep ?_ (by assumption) | refine Below.drew ?_ | refine balloc ?_ _ | refine Below.setCell ?_ (by first | omega | (simp <;> omega)) _))) (Pts.mk' (row_new _ [(0, 0), (4, 0), (4, 2), (2, 4), (0, 4)] _ _ rfl) (by decide))) ?_
  rintro e w27 ⟨rfl, hb27⟩
  have hC25_27 : Below w25.heap.size w25 w27 := (by repeat (first | exact Below.refl _ _ | assumption | refine bstep ?_ (by assumption) | refine Below.drew ?_ | refine balloc ?_ _ | refine Below.setCell ?_ (by first | omega | (simp <;> omega)) _))
  have hC22_27 : Below w22.heap.size w22 w27 := (by repeat (first | exact Below.refl _ _ | assumption | refine bstep ?_ (by assumption) | refine Below.drew ?_ | refine balloc ?_ _ | refine Below.setCell ?_ (by first | omega | (simp <;> omega)) _))
  have hB27 : Below w.heap.size w w27 := (by repeat (first | exact Below.refl _ _ | assumption | refine bstep ?_ (by assumption) | refine Below.drew ?_ | refine balloc ?_ _ | refine Below.setCell ?_ (by first | omega | (simp <;> omega)) _))
  clear hb27
  go_wp2_with fail
  refine Calls.mono (sm2 _ _ _ (Pts.mk' (HR25.out.below (HR25.out.lt (by decide)) (by repeat (first | exact Below.refl _ _ | assumption | refine bstep ?_ (by assumption) | refine Below.drew ?_ | refine balloc ?_ _ | refine Below.setCell ?_ (by first | omega | (simp <;> omega)) _))) (by decide)) (Pts.mk' (row_new _ [(0, 0), (4, 0), (4, 4), (0, 4)] _ _ rfl) (by decide))) ?_
  rintro e w28 ⟨rfl, hb28⟩
  have hC25_28 : Below w25.heap.size w25 w28 := (by repeat (first | exact Below.refl _ _ | assumption | refine bstep ?_ (by assumption) | refine Below.drew ?_ | refine balloc ?_ _ | refine Below.setCell ?_ (by first | omega | (simp <;> omega)) _))
  have hC22_28 : Below w22.heap.size w22 w28 := (by repeat (first | exact Below.refl _ _ | assumption | refine bstep ?_ (by assumption) | refine Below.drew ?_ | refine balloc ?_ _ | refine Below.setCell ?_ (by first | omega | (simp <;> omega)) _))
  have hB28 : Below w.heap.size w w28 := (by repeat (first | exact Below.refl _ _ | assumption | refine bstep ?_ (by assumption) | refine Below.drew ?_ | refine balloc ?_ _ | refine Below.setCell ?_ (by first | omega | (simp <;> omega)) _))
  clear hb28
  go_wp2_with fail
  refine Calls.mono (bent_c _) ?_
  rintro e w29 ⟨v29, rfl, hP29, hb29⟩
  have hC25_29 : Below w25.heap.size w25 w29 := (by repeat (first | exact Below.refl _ _ | assumption | refine bstep ?_ (by assumption) | refine Below.drew ?_ | refine balloc ?_ _ | refine Below.setCell ?_ (by first | omega | (simp <;> omega)) _))
  have hC22_29 : Below w22.heap.size w22 w29 := (by repeat (first | exact Below.refl _ _ | assumption | refine bstep ?_ (by assumption) | refine Below.drew ?_ | refine balloc ?_ _ | refine Below.setCell ?_ (by first | omega | (simp <;> omega)) _))
  have hB29 : Below w.heap.size w w29 := (by repeat (first | exact Below.refl _ _ | assumption | refine bstep ?_ (by assumption) | refine Below.drew ?_ | refine balloc ?_ _ | refine Below.setCell ?_ (by first | omega | (simp <;> omega)) _))
  clear hb29
  have HP29 : Hid (Pts w29 (.slice (some ⟨v29, 0, none⟩) 6 6) bentL) := Lib.hid (Pts.mk' hP29 (by decide))
  have HB29 := Lib.hid hP29
  clear hP29
  go_wp2_with fail
  refine Calls.mono (va1 _ _ HP29.out) ?_
  rintro e w30 ⟨rfl, hb30⟩
  have hC25_30 : Below w25.heap.size w25 w30 := (by repeat (first | exact Below.refl _ _ | assumption | refine bstep ?_ (by assumption) | refine Below.drew ?_ | refine balloc ?_ _ | refine Below.setCell ?_ (by first | omega | (simp <;> omega)) _))
  have hC22_30 : Below w22.heap.size w22 w30 := (by repeat (first | exact Below.refl _ _ | assumption | refine bstep ?_ (by assumption) | refine Below.drew ?_ | refine balloc ?_ _ | refine Below.setCell ?_ (by first | omega | (simp <;> omega)) _))
  have hB30 : Below w.heap.size w w30 := (by repeat (first | exact Below.refl _ _ | assumption | refine bstep ?_ (by assumption) | refine Below.drew ?_ | refine balloc ?_ _ | refine Below.setCell ?_ (by first | omega | (simp <;> omega)) _))
  clear hb30
  go_wp2_with fail
  refine Calls.mono (bent_c _) ?_
  rintro e w31 ⟨v31, rfl, hP31, hb31⟩
  have hC25_31 : Below w25.heap.size w25 w31 := (by repeat (first | exact Below.refl _ _ | assumption | refine bstep ?_ (by assumption) | refine Below.drew ?_ | refine balloc ?_ _ | refine Below.setCell ?_ (by first | omega | (simp <;> omega)) _))
  have hC22_31 : Below w22.heap.size w22 w31 := (by repeat (first | exact Below.refl _ _ | assumption | refine bstep ?_ (by assumption) | refine Below.drew ?_ | refine balloc ?_ _ | refine Below.setCell ?_ (by first | omega | (simp <;> omega)) _))
  have hB31 : Below w.heap.size w w31 := (by repeat (first | exact Below.refl _ _ | assumption | refine bstep ?_ (by assumption) | refine Below.drew ?_ | refine balloc ?_ _ | refine Below.setCell ?_ (by first | omega | (simp <;> omega)) _))
  clear hb31
  have HP31 : Hid (Pts w31 (.slice (some ⟨v31, 0, none⟩) 6 6) bentL) := Lib.hid (Pts.mk' hP31 (by decide))
  have HB31 := Lib.hid hP31
  clear hP31
  go_wp2_with fail
  refine Calls.mono (va2 _ _ (Pts.mk' (row_tail HB31.out) (by decide))) ?_
  rintro e w32 ⟨rfl, hb32⟩
  have hC25_32 : Below w25.heap.size w25 w32 := (by repeat (first | exact Below.refl _ _ | assumption | refine bstep ?_ (by assumption) | refine Below.drew ?_ | refine balloc ?_ _ | refine Below.setCell ?_ (by first | omega | (simp <;> omega)) _))
  have hC22_32 : Below w22.heap.size w22 w32 := (by repeat (first | exact Below.refl _ _ | assumption | refine bstep ?_ (by assumption) | refine Below.drew ?_ | refine balloc ?_ _ | refine Below.setCell ?_ (by first | omega | (simp <;> omega)) _))
  have hB32 : Below w.heap.size w w32 := (by repeat (first | exact Below.refl _ _ | assumption | refine bstep ?_ (by assumption) | refine Below.drew ?_ | refine balloc ?_ _ | refine Below.setCell ?_ (by first | omega | (simp <;> omega)) _))
  clear hb32
  go_wp2
  go_ret
  exact ⟨rfl, (by repeat (first | exact Below.refl _ _ | assumption | refine bstep ?_ (by assumption) | refine Below.drew ?_ | refine balloc ?_ _ | refine Below.setCell ?_ (by first | omega | (simp <;> omega)) _))⟩

end Go.Proofs.Ytphcmdmfjhjidaa.Po
