/- RefA: the reference of layer 2: small functions. -/
import Derived.Test.YtendnhmobhicmaaSpanA
import Derived.Test.YtendnhmobhicmaaSpanN
import Derived.Test.YtendnhmobhicmaaRows
import Derived.WalkKit
import Derived.WalkSpells
import Derived.WalkLawsBesides
import Derived.Lib.Hide
import Derived.Deep.QuietTactic
import Derived.BigQuiet
import Derived.RegionTactic
import Derived.ChangeAlike
import Derived.BigRegion
import Derived.Deep.RegionHeld3
import Derived.Deep.RegionWith
import Derived.Outline
namespace Go.Proofs.Ytendnhmobhicmaa
open Go.RowKit

set_option maxHeartbeats 400000 in
theorem rvalid_c (s1 s2 : Int) (w : World) : Calls Try.prog 13 #[(.agg #[(.int .i64 s1), (.int .i64 s2)])] w (Ret w (.bool (vE 1000000000000 s1 s2))) := by
  go_enter Try.func13, Try.ntmps13
  go_wp2
  all_goals
    go_ret
    refine ret_bool ?_ (by repeat (first | exact Below.refl _ _ | assumption | refine bstep ?_ (by assumption) | refine Below.drew ?_ | refine balloc ?_ _ | refine Below.setCell ?_ (by first | omega | (simp <;> omega)) _))
    rw [vE_iff]
    simp <;> omega

set_option maxHeartbeats 400000 in
theorem rcoords_c (s1 s2 : Int) (w : World) : Calls Try.prog 40 #[(.agg #[(.int .i64 s1), (.int .i64 s2)])] w (Ret w (.bool (vE 1000000 s1 s2))) := by
  go_enter Try.func40, Try.ntmps40
  go_wp2
  all_goals
    go_ret
    refine ret_bool ?_ (by repeat (first | exact Below.refl _ _ | assumption | refine bstep ?_ (by assumption) | refine Below.drew ?_ | refine balloc ?_ _ | refine Below.setCell ?_ (by first | omega | (simp <;> omega)) _))
    rw [vE_iff]
    simp <;> omega

set_option maxHeartbeats 400000 in
theorem rhas_c (s1 s2 x : Int) (w : World) : Calls Try.prog 57 #[(.agg #[(.int .i64 s1), (.int .i64 s2)]), (.int .i64 x)] w (Ret w (.bool (wI x x s1 s2))) := by
  go_enter Try.func57, Try.ntmps57
  go_wp2
  all_goals
    go_ret
    refine ret_bool ?_ (by repeat (first | exact Below.refl _ _ | assumption | refine bstep ?_ (by assumption) | refine Below.drew ?_ | refine balloc ?_ _ | refine Below.setCell ?_ (by first | omega | (simp <;> omega)) _))
    rw [wI_iff]
    simp <;> omega

set_option maxHeartbeats 400000 in
theorem rplace_c (p1 p2 : Int) (w : World) : Calls Try.prog 55 #[(.agg #[(.int .i64 p1), (.int .i64 p2)])] w (Ret w (.bool (vB p1 p1 p2 p2))) := by
  go_enter Try.func55, Try.ntmps55
  go_wp2
  all_goals
    go_ret
    refine ret_bool ?_ (by repeat (first | exact Below.refl _ _ | assumption | refine bstep ?_ (by assumption) | refine Below.drew ?_ | refine balloc ?_ _ | refine Below.setCell ?_ (by first | omega | (simp <;> omega)) _))
    rw [vB_iff]
    simp <;> omega

set_option maxHeartbeats 3200000 in
theorem rvalidBox_c (b1 b2 b3 b4 : Int) (w : World)  : Calls Try.prog 15 #[(.agg #[(.int .i64 b1), (.int .i64 b2), (.int .i64 b3), (.int .i64 b4)])] w (Ret w (.bool (vB b1 b2 b3 b4))) := by
  rcases Bool.eq_false_or_eq_true (vE 1000000 b1 b2) with h1 | h1 <;> rcases Bool.eq_false_or_eq_true (vE 1000000 b3 b4) with h2 | h2
  all_goals
    go_enter Try.func15, Try.ntmps15
    go_wp2_with fail
    refine Calls.mono (rcoords_c _ _ _) ?_
    rintro e w1 ⟨rfl, hb⟩
    have kb0 : w1.cell? ⟨w.heap.size, 0, none⟩ = some (.int .i64 b1) := cell_later hb (by go_simp)
    have kb1 : w1.cell? ⟨w.heap.size, 1, none⟩ = some (.int .i64 b2) := cell_later hb (by go_simp)
    have kb2 : w1.cell? ⟨w.heap.size, 2, none⟩ = some (.int .i64 b3) := cell_later hb (by go_simp)
    have kb3 : w1.cell? ⟨w.heap.size, 3, none⟩ = some (.int .i64 b4) := cell_later hb (by go_simp)
    have zb : w.heap.size < w1.heap.size := World.block_lt_of_cell? _ _ kb0
    have hb0 : Below w.heap.size w w1 := (by repeat (first | exact Below.refl _ _ | assumption | refine bstep ?_ (by assumption) | refine Below.drew ?_ | refine balloc ?_ _ | refine Below.setCell ?_ (by first | omega | (simp <;> omega)) _))
    clear hb
    go_wp2_with fail
    refine Calls.mono (rcoords_c _ _ _) ?_
    rintro e w2 ⟨rfl, hb⟩
    replace kb0 : w2.cell? ⟨w.heap.size, 0, none⟩ = some (.int .i64 b1) := cell_later hb (by first | (with_reducible exact kb0) | (with_reducible exact cell_al _ kb0) | (with_reducible exact cell_al _ (cell_al _ kb0)) | go_simp)
    replace kb1 : w2.cell? ⟨w.heap.size, 1, none⟩ = some (.int .i64 b2) := cell_later hb (by first | (with_reducible exact kb1) | (with_reducible exact cell_al _ kb1) | (with_reducible exact cell_al _ (cell_al _ kb1)) | go_simp)
    replace kb2 : w2.cell? ⟨w.heap.size, 2, none⟩ = some (.int .i64 b3) := cell_later hb (by first | (with_reducible exact kb2) | (with_reducible exact cell_al _ kb2) | (with_reducible exact cell_al _ (cell_al _ kb2)) | go_simp)
    replace kb3 : w2.cell? ⟨w.heap.size, 3, none⟩ = some (.int .i64 b4) := cell_later hb (by first | (with_reducible exact kb3) | (with_reducible exact cell_al _ kb3) | (with_reducible exact cell_al _ (cell_al _ kb3)) | go_simp)
    replace zb : w.heap.size < w2.heap.size := World.block_lt_of_cell? _ _ kb0
    replace hb0 : Below w.heap.size w w2 := (by repeat (first | exact Below.refl _ _ | assumption | refine bstep ?_ (by assumption) | refine Below.drew ?_ | refine balloc ?_ _ | refine Below.setCell ?_ (by first | omega | (simp <;> omega)) _))
    clear hb
    go_wp2
    all_goals
      go_ret
      refine ret_bool ?_ (by repeat (first | exact Below.refl _ _ | assumption | refine bstep ?_ (by assumption) | refine Below.drew ?_ | refine balloc ?_ _ | refine Below.setCell ?_ (by first | omega | (simp <;> omega)) _))
      simp [vB, h1, h2]

set_option maxHeartbeats 3200000 in
theorem rboth_c (s1 s2 t1 t2 : Int) (w : World)  : Calls Try.prog 42 #[(.agg #[(.int .i64 s1), (.int .i64 s2)]), (.agg #[(.int .i64 t1), (.int .i64 t2)])] w (Ret w (.bool ((vE 1000000000000 s1 s2 && vE 1000000000000 t1 t2)))) := by
  rcases Bool.eq_false_or_eq_true (vE 1000000000000 s1 s2) with h1 | h1 <;> rcases Bool.eq_false_or_eq_true (vE 1000000000000 t1 t2) with h2 | h2
  all_goals
    go_enter Try.func42, Try.ntmps42
    go_wp2_with fail
    refine Calls.mono (rvalid_c _ _ _) ?_
    rintro e w1 ⟨rfl, hb⟩
    have ks0 : w1.cell? ⟨w.heap.size, 0, none⟩ = some (.int .i64 s1) := cell_later hb (by go_simp)
    have ks1 : w1.cell? ⟨w.heap.size, 1, none⟩ = some (.int .i64 s2) := cell_later hb (by go_simp)
    have kt0 : w1.cell? ⟨w.heap.size + 1, 0, none⟩ = some (.int .i64 t1) := cell_later hb (by go_simp)
    have kt1 : w1.cell? ⟨w.heap.size + 1, 1, none⟩ = some (.int .i64 t2) := cell_later hb (by go_simp)
    have zs : w.heap.size < w1.heap.size := World.block_lt_of_cell? _ _ ks0
    have zt : w.heap.size + 1 < w1.heap.size := World.block_lt_of_cell? _ _ kt0
    have hb0 : Below w.heap.size w w1 := (by repeat (first | exact Below.refl _ _ | assumption | refine bstep ?_ (by assumption) | refine Below.drew ?_ | refine balloc ?_ _ | refine Below.setCell ?_ (by first | omega | (simp <;> omega)) _))
    clear hb
    go_wp2_with fail
    refine Calls.mono (rvalid_c _ _ _) ?_
    rintro e w2 ⟨rfl, hb⟩
    replace ks0 : w2.cell? ⟨w.heap.size, 0, none⟩ = some (.int .i64 s1) := cell_later hb (by first | (with_reducible exact ks0) | (with_reducible exact cell_al _ ks0) | (with_reducible exact cell_al _ (cell_al _ ks0)) | go_simp)
    replace ks1 : w2.cell? ⟨w.heap.size, 1, none⟩ = some (.int .i64 s2) := cell_later hb (by first | (with_reducible exact ks1) | (with_reducible exact cell_al _ ks1) | (with_reducible exact cell_al _ (cell_al _ ks1)) | go_simp)
    replace kt0 : w2.cell? ⟨w.heap.size + 1, 0, none⟩ = some (.int .i64 t1) := cell_later hb (by first | (with_reducible exact kt0) | (with_reducible exact cell_al _ kt0) | (with_reducible exact cell_al _ (cell_al _ kt0)) | go_simp)
    replace kt1 : w2.cell? ⟨w.heap.size + 1, 1, none⟩ = some (.int .i64 t2) := cell_later hb (by first | (with_reducible exact kt1) | (with_reducible exact cell_al _ kt1) | (with_reducible exact cell_al _ (cell_al _ kt1)) | go_simp)
    replace zs : w.heap.size < w2.heap.size := World.block_lt_of_cell? _ _ ks0
    replace zt : w.heap.size + 1 < w2.heap.size := World.block_lt_of_cell? _ _ kt0
    replace hb0 : Below w.heap.size w w2 := (by repeat (first | exact Below.refl _ _ | assumption | refine bstep ?_ (by assumption) | refine Below.drew ?_ | refine balloc ?_ _ | refine Below.setCell ?_ (by first | omega | (simp <;> omega)) _))
    clear hb
    go_wp2
    all_goals
      go_ret
      refine ret_bool ?_ (by repeat (first | exact Below.refl _ _ | assumption | refine bstep ?_ (by assumption) | refine Below.drew ?_ | refine balloc ?_ _ | refine Below.setCell ?_ (by first | omega | (simp <;> omega)) _))
      simp [h1, h2]

set_option maxHeartbeats 3200000 in
theorem rbothBoxes_c (a1 a2 a3 a4 b1 b2 b3 b4 : Int) (w : World)  : Calls Try.prog 52 #[(.agg #[(.int .i64 a1), (.int .i64 a2), (.int .i64 a3), (.int .i64 a4)]), (.agg #[(.int .i64 b1), (.int .i64 b2), (.int .i64 b3), (.int .i64 b4)])] w (Ret w (.bool ((vB a1 a2 a3 a4 && vB b1 b2 b3 b4)))) := by
  rcases Bool.eq_false_or_eq_true (vB a1 a2 a3 a4) with h1 | h1 <;> rcases Bool.eq_false_or_eq_true (vB b1 b2 b3 b4) with h2 | h2
  all_goals
    go_enter Try.func52, Try.ntmps52
    go_wp2_with fail
    refine Calls.mono (rvalidBox_c _ _ _ _ _) ?_
    rintro e w1 ⟨rfl, hb⟩
    have ka0 : w1.cell? ⟨w.heap.size, 0, none⟩ = some (.int .i64 a1) := cell_later hb (by go_simp)
    have ka1 : w1.cell? ⟨w.heap.size, 1, none⟩ = some (.int .i64 a2) := cell_later hb (by go_simp)
    have ka2 : w1.cell? ⟨w.heap.size, 2, none⟩ = some (.int .i64 a3) := cell_later hb (by go_simp)
    have ka3 : w1.cell? ⟨w.heap.size, 3, none⟩ = some (.int .i64 a4) := cell_later hb (by go_simp)
    have kb0 : w1.cell? ⟨w.heap.size + 1, 0, none⟩ = some (.int .i64 b1) := cell_later hb (by go_simp)
    have kb1 : w1.cell? ⟨w.heap.size + 1, 1, none⟩ = some (.int .i64 b2) := cell_later hb (by go_simp)
    have kb2 : w1.cell? ⟨w.heap.size + 1, 2, none⟩ = some (.int .i64 b3) := cell_later hb (by go_simp)
    have kb3 : w1.cell? ⟨w.heap.size + 1, 3, none⟩ = some (.int .i64 b4) := cell_later hb (by go_simp)
    have za : w.heap.size < w1.heap.size := World.block_lt_of_cell? _ _ ka0
    have zb : w.heap.size + 1 < w1.heap.size := World.block_lt_of_cell? _ _ kb0
    have hb0 : Below w.heap.size w w1 := (by repeat (first | exact Below.refl _ _ | assumption | refine bstep ?_ (by assumption) | refine Below.drew ?_ | refine balloc ?_ _ | refine Below.setCell ?_ (by first | omega | (simp <;> omega)) _))
    clear hb
    go_wp2_with fail
    refine Calls.mono (rvalidBox_c _ _ _ _ _) ?_
    rintro e w2 ⟨rfl, hb⟩
    replace ka0 : w2.cell? ⟨w.heap.size, 0, none⟩ = some (.int .i64 a1) := cell_later hb (by first | (with_reducible exact ka0) | (with_reducible exact cell_al _ ka0) | (with_reducible exact cell_al _ (cell_al _ ka0)) | go_simp)
    replace ka1 : w2.cell? ⟨w.heap.size, 1, none⟩ = some (.int .i64 a2) := cell_later hb (by first | (with_reducible exact ka1) | (with_reducible exact cell_al _ ka1) | (with_reducible exact cell_al _ (cell_al _ ka1)) | go_simp)
    replace ka2 : w2.cell? ⟨w.heap.size, 2, none⟩ = some (.int .i64 a3) := cell_later hb (by first | (with_reducible exact ka2) | (with_reducible exact cell_al _ ka2) | (with_reducible exact cell_al _ (cell_al _ ka2)) | go_simp)
    replace ka3 : w2.cell? ⟨w.heap.size, 3, none⟩ = some (.int .i64 a4) := cell_later hb (by first | (with_reducible exact ka3) | (with_reducible exact cell_al _ ka3) | (with_reducible exact cell_al _ (cell_al _ ka3)) | go_simp)
    replace kb0 : w2.cell? ⟨w.heap.size + 1, 0, none⟩ = some (.int .i64 b1) := cell_later hb (by first | (with_reducible exact kb0) | (with_reducible exact cell_al _ kb0) | (with_reducible exact cell_al _ (cell_al _ kb0)) | go_simp)
    replace kb1 : w2.cell? ⟨w.heap.size + 1, 1, none⟩ = some (.int .i64 b2) := cell_later hb (by first | (with_reducible exact kb1) | (with_reducible exact cell_al _ kb1) | (with_reducible exact cell_al _ (cell_al _ kb1)) | go_simp)
    replace kb2 : w2.cell? ⟨w.heap.size + 1, 2, none⟩ = some (.int .i64 b3) := cell_later hb (by first | (with_reducible exact kb2) | (with_reducible exact cell_al _ kb2) | (with_reducible exact cell_al _ (cell_al _ kb2)) | go_simp)
    replace kb3 : w2.cell? ⟨w.heap.size + 1, 3, none⟩ = some (.int .i64 b4) := cell_later hb (by first | (with_reducible exact kb3) | (with_reducible exact cell_al _ kb3) | (with_reducible exact cell_al _ (cell_al _ kb3)) | go_simp)
    replace za : w.heap.size < w2.heap.size := World.block_lt_of_cell? _ _ ka0
    replace zb : w.heap.size + 1 < w2.heap.size := World.block_lt_of_cell? _ _ kb0
    replace hb0 : Below w.heap.size w w2 := (by repeat (first | exact Below.refl _ _ | assumption | refine bstep ?_ (by assumption) | refine Below.drew ?_ | refine balloc ?_ _ | refine Below.setCell ?_ (by first | omega | (simp <;> omega)) _))
    clear hb
    go_wp2
    all_goals
      go_ret
      refine ret_bool ?_ (by repeat (first | exact Below.refl _ _ | assumption | refine bstep ?_ (by assumption) | refine Below.drew ?_ | refine balloc ?_ _ | refine Below.setCell ?_ (by first | omega | (simp <;> omega)) _))
      simp [h1, h2]

set_option maxHeartbeats 3200000 in
theorem rholds_c (b1 b2 b3 b4 p1 p2 : Int) (w : World)  : Calls Try.prog 56 #[(.agg #[(.int .i64 b1), (.int .i64 b2), (.int .i64 b3), (.int .i64 b4)]), (.agg #[(.int .i64 p1), (.int .i64 p2)])] w (Ret w (.bool ((wI p1 p1 b1 b2 && wI p2 p2 b3 b4)))) := by
  rcases Bool.eq_false_or_eq_true (wI p1 p1 b1 b2) with h1 | h1 <;> rcases Bool.eq_false_or_eq_true (wI p2 p2 b3 b4) with h2 | h2
  all_goals
    go_enter Try.func56, Try.ntmps56
    go_wp2_with fail
    refine Calls.mono (rhas_c _ _ _ _) ?_
    rintro e w1 ⟨rfl, hb⟩
    have kb0 : w1.cell? ⟨w.heap.size, 0, none⟩ = some (.int .i64 b1) := cell_later hb (by go_simp)
    have kb1 : w1.cell? ⟨w.heap.size, 1, none⟩ = some (.int .i64 b2) := cell_later hb (by go_simp)
    have kb2 : w1.cell? ⟨w.heap.size, 2, none⟩ = some (.int .i64 b3) := cell_later hb (by go_simp)
    have kb3 : w1.cell? ⟨w.heap.size, 3, none⟩ = some (.int .i64 b4) := cell_later hb (by go_simp)
    have kp0 : w1.cell? ⟨w.heap.size + 1, 0, none⟩ = some (.int .i64 p1) := cell_later hb (by go_simp)
    have kp1 : w1.cell? ⟨w.heap.size + 1, 1, none⟩ = some (.int .i64 p2) := cell_later hb (by go_simp)
    have zb : w.heap.size < w1.heap.size := World.block_lt_of_cell? _ _ kb0
    have zp : w.heap.size + 1 < w1.heap.size := World.block_lt_of_cell? _ _ kp0
    have hb0 : Below w.heap.size w w1 := (by repeat (first | exact Below.refl _ _ | assumption | refine bstep ?_ (by assumption) | refine Below.drew ?_ | refine balloc ?_ _ | refine Below.setCell ?_ (by first | omega | (simp <;> omega)) _))
    clear hb
    go_wp2_with fail
    refine Calls.mono (rhas_c _ _ _ _) ?_
    rintro e w2 ⟨rfl, hb⟩
    replace kb0 : w2.cell? ⟨w.heap.size, 0, none⟩ = some (.int .i64 b1) := cell_later hb (by first | (with_reducible exact kb0) | (with_reducible exact cell_al _ kb0) | (with_reducible exact cell_al _ (cell_al _ kb0)) | go_simp)
    replace kb1 : w2.cell? ⟨w.heap.size, 1, none⟩ = some (.int .i64 b2) := cell_later hb (by first | (with_reducible exact kb1) | (with_reducible exact cell_al _ kb1) | (with_reducible exact cell_al _ (cell_al _ kb1)) | go_simp)
    replace kb2 : w2.cell? ⟨w.heap.size, 2, none⟩ = some (.int .i64 b3) := cell_later hb (by first | (with_reducible exact kb2) | (with_reducible exact cell_al _ kb2) | (with_reducible exact cell_al _ (cell_al _ kb2)) | go_simp)
    replace kb3 : w2.cell? ⟨w.heap.size, 3, none⟩ = some (.int .i64 b4) := cell_later hb (by first | (with_reducible exact kb3) | (with_reducible exact cell_al _ kb3) | (with_reducible exact cell_al _ (cell_al _ kb3)) | go_simp)
    replace kp0 : w2.cell? ⟨w.heap.size + 1, 0, none⟩ = some (.int .i64 p1) := cell_later hb (by first | (with_reducible exact kp0) | (with_reducible exact cell_al _ kp0) | (with_reducible exact cell_al _ (cell_al _ kp0)) | go_simp)
    replace kp1 : w2.cell? ⟨w.heap.size + 1, 1, none⟩ = some (.int .i64 p2) := cell_later hb (by first | (with_reducible exact kp1) | (with_reducible exact cell_al _ kp1) | (with_reducible exact cell_al _ (cell_al _ kp1)) | go_simp)
    replace zb : w.heap.size < w2.heap.size := World.block_lt_of_cell? _ _ kb0
    replace zp : w.heap.size + 1 < w2.heap.size := World.block_lt_of_cell? _ _ kp0
    replace hb0 : Below w.heap.size w w2 := (by repeat (first | exact Below.refl _ _ | assumption | refine bstep ?_ (by assumption) | refine Below.drew ?_ | refine balloc ?_ _ | refine Below.setCell ?_ (by first | omega | (simp <;> omega)) _))
    clear hb
    go_wp2
    all_goals
      go_ret
      refine ret_bool ?_ (by repeat (first | exact Below.refl _ _ | assumption | refine bstep ?_ (by assumption) | refine Below.drew ?_ | refine balloc ?_ _ | refine Below.setCell ?_ (by first | omega | (simp <;> omega)) _))
      simp [h1, h2]

set_option maxHeartbeats 3200000 in
theorem rbounded_c (s1 s2 : Int) (w : World)  : Calls Try.prog 43 #[(.agg #[(.int .i64 s1), (.int .i64 s2)])] w (Ret w (.tuple #[.agg #[(.int .i64 (selI (vE 1000000000000 s1 s2) s1)), (.int .i64 (selI (vE 1000000000000 s1 s2) s2))], (.int .i64 (erv true (vE 1000000000000 s1 s2) 3))])) := by
  rcases Bool.eq_false_or_eq_true (vE 1000000000000 s1 s2) with h1 | h1
  all_goals
    go_enter Try.func43, Try.ntmps43
    go_wp2_with fail
    refine Calls.mono (rvalid_c _ _ _) ?_
    rintro e w1 ⟨rfl, hb⟩
    have ks0 : w1.cell? ⟨w.heap.size, 0, none⟩ = some (.int .i64 s1) := cell_later hb (by go_simp)
    have ks1 : w1.cell? ⟨w.heap.size, 1, none⟩ = some (.int .i64 s2) := cell_later hb (by go_simp)
    have kr0 : w1.cell? ⟨w.heap.size + 1, 0, none⟩ = some (.int .i64 0) := cell_later hb (by go_simp)
    have jr0 : w1.frozen? ⟨w.heap.size + 1, 0, none⟩ = false := by rw [(bcell hb).2 _ _ (by first | omega | (simp <;> omega))]; go_simp
    have kr1 : w1.cell? ⟨w.heap.size + 1, 1, none⟩ = some (.int .i64 0) := cell_later hb (by go_simp)
    have jr1 : w1.frozen? ⟨w.heap.size + 1, 1, none⟩ = false := by rw [(bcell hb).2 _ _ (by first | omega | (simp <;> omega))]; go_simp
    have zs : w.heap.size < w1.heap.size := World.block_lt_of_cell? _ _ ks0
    have zr : w.heap.size + 1 < w1.heap.size := World.block_lt_of_cell? _ _ kr0
    have hb0 : Below w.heap.size w w1 := (by repeat (first | exact Below.refl _ _ | assumption | refine bstep ?_ (by assumption) | refine Below.drew ?_ | refine balloc ?_ _ | refine Below.setCell ?_ (by first | omega | (simp <;> omega)) _))
    clear hb
    rw [h1]
    go_wp2
    refine bodyPost_ret ?_ rfl ⟨rfl, (by repeat (first | exact Below.refl _ _ | assumption | refine bstep ?_ (by assumption) | refine Below.drew ?_ | refine balloc ?_ _ | refine Below.setCell ?_ (by first | omega | (simp <;> omega)) _))⟩
    simp [results, Try.results43, go_sem, selI, erv, h1, kr0, kr1]

set_option maxHeartbeats 400000 in
theorem rdown_c (n d : Int) (w : World) (hd : 0 < d) (h1 : -1000000000000000000 ≤ n) (h2 : n ≤ 1000000000000000000) : Calls Try.prog 47 #[(.int .i64 n), (.int .i64 d)] w (Same w (.int .i64 (dn n d))) := by
  have hq := div_bd hd h1 h2
  have he := dn_tdiv (n := n) hd
  by_cases hr : n.tmod d < 0
  all_goals
    go_enter Try.func47, Try.ntmps47
    go_wp2
    all_goals
      refine bodyPost_ret ?_ rfl ⟨rfl, rfl⟩
      simp [results, Try.results47, go_sem, he, hr]

set_option maxHeartbeats 400000 in
theorem rup_c (n d : Int) (w : World) (hd : 0 < d) (h1 : -1000000000000000000 ≤ n) (h2 : n ≤ 1000000000000000000) : Calls Try.prog 48 #[(.int .i64 n), (.int .i64 d)] w (Same w (.int .i64 (upd n d))) := by
  have hq := div_bd (n := -n) (d := d) (M := 1000000000000000000) hd (by omega) (by omega)
  have hq2 : -1000000000000000000 ≤ upd n d ∧ upd n d ≤ 1000000000000000000 := by rw [upd_neg n d]; omega
  clear hq
  have he := upd_tdiv (n := n) hd
  by_cases hr : 0 < n.tmod d
  all_goals
    go_enter Try.func48, Try.ntmps48
    go_wp2
    all_goals
      refine bodyPost_ret ?_ rfl ⟨rfl, rfl⟩
      simp [results, Try.results48, go_sem, he, hr]


end Go.Proofs.Ytendnhmobhicmaa
