/- SpanD: package span, boxes. -/
import Derived.Test.YtendnhmobhicmaaSpanC
import Derived.Test.YtendnhmobhicmaaRows
import Derived.WalkKit
import Derived.WalkSpells
import Derived.WalkLawsBesides
import Derived.Lib.Hide
import Derived.Deep.QuietTactic
import Derived.BigQuiet
import Derived.RegionTactic
import Derived.ChangeAlike
import Derived.BigRegion
import Derived.Deep.RegionHeld3
import Derived.Deep.RegionWith
import Derived.Outline
namespace Go.Proofs.Ytendnhmobhicmaa
open Go.RowKit

set_option maxHeartbeats 3200000 in
theorem Within_c (s1 s2 t1 t2 : Int) (w : World)  : Calls Try.prog 26 #[(.agg #[(.int .i64 s1), (.int .i64 s2)]), (.agg #[(.int .i64 t1), (.int .i64 t2)])] w (Ret w (.tuple #[(.bool (selB (vWithin s1 s2 t1 t2) (wI s1 s2 t1 t2))), (.int .i64 (erv (vWithin s1 s2 t1 t2) true 4))])) := by
  rcases Bool.eq_false_or_eq_true (vE 1000000000000 s1 s2) with h1 | h1
  · rcases Bool.eq_false_or_eq_true (vE 1000000000000 t1 t2) with h2 | h2
    ·
      by_cases c1 : max s1 t1 = s1
      rotate_left
      ·
        have hw : (wI s1 s2 t1 t2) = false := by rw [Bool.eq_false_iff, Ne, wI_iff]; omega
        go_enter Try.func26, Try.ntmps26
        go_wp2_with fail
        refine Calls.mono (valid_c _ _ _) ?_
        rintro e w1 ⟨rfl, hb⟩
        have ks0 : w1.cell? ⟨w.heap.size, 0, none⟩ = some (.int .i64 s1) := cell_later hb (by go_simp)
        have ks1 : w1.cell? ⟨w.heap.size, 1, none⟩ = some (.int .i64 s2) := cell_later hb (by go_simp)
        have kt0 : w1.cell? ⟨w.heap.size + 1, 0, none⟩ = some (.int .i64 t1) := cell_later hb (by go_simp)
        have kt1 : w1.cell? ⟨w.heap.size + 1, 1, none⟩ = some (.int .i64 t2) := cell_later hb (by go_simp)
        have zs : w.heap.size < w1.heap.size := World.block_lt_of_cell? _ _ ks0
        have zt : w.heap.size + 1 < w1.heap.size := World.block_lt_of_cell? _ _ kt0
        have hb0 : Below w.heap.size w w1 := (by repeat (first | exact Below.refl _ _ | assumption | refine bstep ?_ (by assumption) | refine Below.drew ?_ | refine balloc ?_ _ | refine Below.setCell ?_ (by first | omega | (simp <;> omega)) _))
        clear hb
        go_wp2_with fail
        refine Calls.mono (valid_c _ _ _) ?_
        rintro e w2 ⟨rfl, hb⟩
        replace ks0 : w2.cell? ⟨w.heap.size, 0, none⟩ = some (.int .i64 s1) := cell_later hb (by first | exact ks0 | exact cell_al _ ks0 | exact cell_al _ (cell_al _ ks0) | go_simp)
        replace ks1 : w2.cell? ⟨w.heap.size, 1, none⟩ = some (.int .i64 s2) := cell_later hb (by first | exact ks1 | exact cell_al _ ks1 | exact cell_al _ (cell_al _ ks1) | go_simp)
        replace kt0 : w2.cell? ⟨w.heap.size + 1, 0, none⟩ = some (.int .i64 t1) := cell_later hb (by first | exact kt0 | exact cell_al _ kt0 | exact cell_al _ (cell_al _ kt0) | go_simp)
        replace kt1 : w2.cell? ⟨w.heap.size + 1, 1, none⟩ = some (.int .i64 t2) := cell_later hb (by first | exact kt1 | exact cell_al _ kt1 | exact cell_al _ (cell_al _ kt1) | go_simp)
        replace zs : w.heap.size < w2.heap.size := World.block_lt_of_cell? _ _ ks0
        replace zt : w.heap.size + 1 < w2.heap.size := World.block_lt_of_cell? _ _ kt0
        replace hb0 : Below w.heap.size w w2 := (by repeat (first | exact Below.refl _ _ | assumption | refine bstep ?_ (by assumption) | refine Below.drew ?_ | refine balloc ?_ _ | refine Below.setCell ?_ (by first | omega | (simp <;> omega)) _))
        clear hb
        go_wp2_with fail
        go_region_held3 (fun w' => w'.cell? ⟨w.heap.size, 0, none⟩ = some (.int .i64 s1) ∧ w'.cell? ⟨w.heap.size, 1, none⟩ = some (.int .i64 s2) ∧ w'.cell? ⟨w.heap.size + 1, 0, none⟩ = some (.int .i64 t1) ∧ w'.cell? ⟨w.heap.size + 1, 1, none⟩ = some (.int .i64 t2)) (first | (go_keep; done) | ((repeat' apply And.intro) <;> go_simp)) (first | (go_at_call 49; refine Calls.mono (meet_c _ _ _ _ _) ?_; rintro e wr ⟨rfl, hb⟩; have ks0 : wr.cell? ⟨w.heap.size, 0, none⟩ = some (.int .i64 s1) := cell_later hb (by first | assumption | go_simp); have ks1 : wr.cell? ⟨w.heap.size, 1, none⟩ = some (.int .i64 s2) := cell_later hb (by first | assumption | go_simp); have zs : w.heap.size < wr.heap.size := World.block_lt_of_cell? _ _ ks0; have kt0 : wr.cell? ⟨w.heap.size + 1, 0, none⟩ = some (.int .i64 t1) := cell_later hb (by first | assumption | go_simp); have kt1 : wr.cell? ⟨w.heap.size + 1, 1, none⟩ = some (.int .i64 t2) := cell_later hb (by first | assumption | go_simp); have zt : w.heap.size + 1 < wr.heap.size := World.block_lt_of_cell? _ _ kt0; have hb0 : Below w.heap.size w wr := (by repeat (first | exact Below.refl _ _ | assumption | refine bstep ?_ (by assumption) | refine Below.drew ?_ | refine balloc ?_ _ | refine Below.setCell ?_ (by first | omega | (simp <;> omega)) _)); clear hb))
        go_wp2
        refine bodyPost_ret ?_ rfl ⟨rfl, (by repeat (first | exact Below.refl _ _ | assumption | refine bstep ?_ (by assumption) | refine Below.drew ?_ | refine balloc ?_ _ | refine Below.setCell ?_ (by first | omega | (simp <;> omega)) _))⟩
        simp [results, Try.results26, go_sem, vWithin, selB, erv, h1, h2, hw]
      by_cases c2 : min s2 t2 = s2
      rotate_left
      ·
        have hw : (wI s1 s2 t1 t2) = false := by rw [Bool.eq_false_iff, Ne, wI_iff]; omega
        go_enter Try.func26, Try.ntmps26
        go_wp2_with fail
        refine Calls.mono (valid_c _ _ _) ?_
        rintro e w1 ⟨rfl, hb⟩
        have ks0 : w1.cell? ⟨w.heap.size, 0, none⟩ = some (.int .i64 s1) := cell_later hb (by go_simp)
        have ks1 : w1.cell? ⟨w.heap.size, 1, none⟩ = some (.int .i64 s2) := cell_later hb (by go_simp)
        have kt0 : w1.cell? ⟨w.heap.size + 1, 0, none⟩ = some (.int .i64 t1) := cell_later hb (by go_simp)
        have kt1 : w1.cell? ⟨w.heap.size + 1, 1, none⟩ = some (.int .i64 t2) := cell_later hb (by go_simp)
        have zs : w.heap.size < w1.heap.size := World.block_lt_of_cell? _ _ ks0
        have zt : w.heap.size + 1 < w1.heap.size := World.block_lt_of_cell? _ _ kt0
        have hb0 : Below w.heap.size w w1 := (by repeat (first | exact Below.refl _ _ | assumption | refine bstep ?_ (by assumption) | refine Below.drew ?_ | refine balloc ?_ _ | refine Below.setCell ?_ (by first | omega | (simp <;> omega)) _))
        clear hb
        go_wp2_with fail
        refine Calls.mono (valid_c _ _ _) ?_
        rintro e w2 ⟨rfl, hb⟩
        replace ks0 : w2.cell? ⟨w.heap.size, 0, none⟩ = some (.int .i64 s1) := cell_later hb (by first | exact ks0 | exact cell_al _ ks0 | exact cell_al _ (cell_al _ ks0) | go_simp)
        replace ks1 : w2.cell? ⟨w.heap.size, 1, none⟩ = some (.int .i64 s2) := cell_later hb (by first | exact ks1 | exact cell_al _ ks1 | exact cell_al _ (cell_al _ ks1) | go_simp)
        replace kt0 : w2.cell? ⟨w.heap.size + 1, 0, none⟩ = some (.int .i64 t1) := cell_later hb (by first | exact kt0 | exact cell_al _ kt0 | exact cell_al _ (cell_al _ kt0) | go_simp)
        replace kt1 : w2.cell? ⟨w.heap.size + 1, 1, none⟩ = some (.int .i64 t2) := cell_later hb (by first | exact kt1 | exact cell_al _ kt1 | exact cell_al _ (cell_al _ kt1) | go_simp)
        replace zs : w.heap.size < w2.heap.size := World.block_lt_of_cell? _ _ ks0
        replace zt : w.heap.size + 1 < w2.heap.size := World.block_lt_of_cell? _ _ kt0
        replace hb0 : Below w.heap.size w w2 := (by repeat (first | exact Below.refl _ _ | assumption | refine bstep ?_ (by assumption) | refine Below.drew ?_ | refine balloc ?_ _ | refine Below.setCell ?_ (by first | omega | (simp <;> omega)) _))
        clear hb
        go_wp2_with fail
        go_region_held3 (fun w' => w'.cell? ⟨w.heap.size, 0, none⟩ = some (.int .i64 s1) ∧ w'.cell? ⟨w.heap.size, 1, none⟩ = some (.int .i64 s2) ∧ w'.cell? ⟨w.heap.size + 1, 0, none⟩ = some (.int .i64 t1) ∧ w'.cell? ⟨w.heap.size + 1, 1, none⟩ = some (.int .i64 t2)) (first | (go_keep; done) | ((repeat' apply And.intro) <;> go_simp)) (first | (go_at_call 49; refine Calls.mono (meet_c _ _ _ _ _) ?_; rintro e wr ⟨rfl, hb⟩; have ks0 : wr.cell? ⟨w.heap.size, 0, none⟩ = some (.int .i64 s1) := cell_later hb (by first | assumption | go_simp); have ks1 : wr.cell? ⟨w.heap.size, 1, none⟩ = some (.int .i64 s2) := cell_later hb (by first | assumption | go_simp); have zs : w.heap.size < wr.heap.size := World.block_lt_of_cell? _ _ ks0; have kt0 : wr.cell? ⟨w.heap.size + 1, 0, none⟩ = some (.int .i64 t1) := cell_later hb (by first | assumption | go_simp); have kt1 : wr.cell? ⟨w.heap.size + 1, 1, none⟩ = some (.int .i64 t2) := cell_later hb (by first | assumption | go_simp); have zt : w.heap.size + 1 < wr.heap.size := World.block_lt_of_cell? _ _ kt0; have hb0 : Below w.heap.size w wr := (by repeat (first | exact Below.refl _ _ | assumption | refine bstep ?_ (by assumption) | refine Below.drew ?_ | refine balloc ?_ _ | refine Below.setCell ?_ (by first | omega | (simp <;> omega)) _)); clear hb))
        go_wp2
        refine bodyPost_ret ?_ rfl ⟨rfl, (by repeat (first | exact Below.refl _ _ | assumption | refine bstep ?_ (by assumption) | refine Below.drew ?_ | refine balloc ?_ _ | refine Below.setCell ?_ (by first | omega | (simp <;> omega)) _))⟩
        simp [results, Try.results26, go_sem, vWithin, selB, erv, h1, h2, hw]
      have hw : (wI s1 s2 t1 t2) = true := by rw [wI_iff]; omega
      go_enter Try.func26, Try.ntmps26
      go_wp2_with fail
      refine Calls.mono (valid_c _ _ _) ?_
      rintro e w1 ⟨rfl, hb⟩
      have ks0 : w1.cell? ⟨w.heap.size, 0, none⟩ = some (.int .i64 s1) := cell_later hb (by go_simp)
      have ks1 : w1.cell? ⟨w.heap.size, 1, none⟩ = some (.int .i64 s2) := cell_later hb (by go_simp)
      have kt0 : w1.cell? ⟨w.heap.size + 1, 0, none⟩ = some (.int .i64 t1) := cell_later hb (by go_simp)
      have kt1 : w1.cell? ⟨w.heap.size + 1, 1, none⟩ = some (.int .i64 t2) := cell_later hb (by go_simp)
      have zs : w.heap.size < w1.heap.size := World.block_lt_of_cell? _ _ ks0
      have zt : w.heap.size + 1 < w1.heap.size := World.block_lt_of_cell? _ _ kt0
      have hb0 : Below w.heap.size w w1 := (by repeat (first | exact Below.refl _ _ | assumption | refine bstep ?_ (by assumption) | refine Below.drew ?_ | refine balloc ?_ _ | refine Below.setCell ?_ (by first | omega | (simp <;> omega)) _))
      clear hb
      go_wp2_with fail
      refine Calls.mono (valid_c _ _ _) ?_
      rintro e w2 ⟨rfl, hb⟩
      replace ks0 : w2.cell? ⟨w.heap.size, 0, none⟩ = some (.int .i64 s1) := cell_later hb (by first | exact ks0 | exact cell_al _ ks0 | exact cell_al _ (cell_al _ ks0) | go_simp)
      replace ks1 : w2.cell? ⟨w.heap.size, 1, none⟩ = some (.int .i64 s2) := cell_later hb (by first | exact ks1 | exact cell_al _ ks1 | exact cell_al _ (cell_al _ ks1) | go_simp)
      replace kt0 : w2.cell? ⟨w.heap.size + 1, 0, none⟩ = some (.int .i64 t1) := cell_later hb (by first | exact kt0 | exact cell_al _ kt0 | exact cell_al _ (cell_al _ kt0) | go_simp)
      replace kt1 : w2.cell? ⟨w.heap.size + 1, 1, none⟩ = some (.int .i64 t2) := cell_later hb (by first | exact kt1 | exact cell_al _ kt1 | exact cell_al _ (cell_al _ kt1) | go_simp)
      replace zs : w.heap.size < w2.heap.size := World.block_lt_of_cell? _ _ ks0
      replace zt : w.heap.size + 1 < w2.heap.size := World.block_lt_of_cell? _ _ kt0
      replace hb0 : Below w.heap.size w w2 := (by repeat (first | exact Below.refl _ _ | assumption | refine bstep ?_ (by assumption) | refine Below.drew ?_ | refine balloc ?_ _ | refine Below.setCell ?_ (by first | omega | (simp <;> omega)) _))
      clear hb
      go_wp2_with fail
      go_region_held3 (fun w' => w'.cell? ⟨w.heap.size, 0, none⟩ = some (.int .i64 s1) ∧ w'.cell? ⟨w.heap.size, 1, none⟩ = some (.int .i64 s2) ∧ w'.cell? ⟨w.heap.size + 1, 0, none⟩ = some (.int .i64 t1) ∧ w'.cell? ⟨w.heap.size + 1, 1, none⟩ = some (.int .i64 t2)) (first | (go_keep; done) | ((repeat' apply And.intro) <;> go_simp)) (first | (go_at_call 49; refine Calls.mono (meet_c _ _ _ _ _) ?_; rintro e wr ⟨rfl, hb⟩; have ks0 : wr.cell? ⟨w.heap.size, 0, none⟩ = some (.int .i64 s1) := cell_later hb (by first | assumption | go_simp); have ks1 : wr.cell? ⟨w.heap.size, 1, none⟩ = some (.int .i64 s2) := cell_later hb (by first | assumption | go_simp); have zs : w.heap.size < wr.heap.size := World.block_lt_of_cell? _ _ ks0; have kt0 : wr.cell? ⟨w.heap.size + 1, 0, none⟩ = some (.int .i64 t1) := cell_later hb (by first | assumption | go_simp); have kt1 : wr.cell? ⟨w.heap.size + 1, 1, none⟩ = some (.int .i64 t2) := cell_later hb (by first | assumption | go_simp); have zt : w.heap.size + 1 < wr.heap.size := World.block_lt_of_cell? _ _ kt0; have hb0 : Below w.heap.size w wr := (by repeat (first | exact Below.refl _ _ | assumption | refine bstep ?_ (by assumption) | refine Below.drew ?_ | refine balloc ?_ _ | refine Below.setCell ?_ (by first | omega | (simp <;> omega)) _)); clear hb))
      go_wp2
      refine bodyPost_ret ?_ rfl ⟨rfl, (by repeat (first | exact Below.refl _ _ | assumption | refine bstep ?_ (by assumption) | refine Below.drew ?_ | refine balloc ?_ _ | refine Below.setCell ?_ (by first | omega | (simp <;> omega)) _))⟩
      simp [results, Try.results26, go_sem, vWithin, selB, erv, h1, h2, hw]
    ·
      go_enter Try.func26, Try.ntmps26
      go_wp2_with fail
      refine Calls.mono (valid_c _ _ _) ?_
      rintro e w1 ⟨rfl, hb⟩
      have ks0 : w1.cell? ⟨w.heap.size, 0, none⟩ = some (.int .i64 s1) := cell_later hb (by go_simp)
      have ks1 : w1.cell? ⟨w.heap.size, 1, none⟩ = some (.int .i64 s2) := cell_later hb (by go_simp)
      have kt0 : w1.cell? ⟨w.heap.size + 1, 0, none⟩ = some (.int .i64 t1) := cell_later hb (by go_simp)
      have kt1 : w1.cell? ⟨w.heap.size + 1, 1, none⟩ = some (.int .i64 t2) := cell_later hb (by go_simp)
      have zs : w.heap.size < w1.heap.size := World.block_lt_of_cell? _ _ ks0
      have zt : w.heap.size + 1 < w1.heap.size := World.block_lt_of_cell? _ _ kt0
      have hb0 : Below w.heap.size w w1 := (by repeat (first | exact Below.refl _ _ | assumption | refine bstep ?_ (by assumption) | refine Below.drew ?_ | refine balloc ?_ _ | refine Below.setCell ?_ (by first | omega | (simp <;> omega)) _))
      clear hb
      go_wp2_with fail
      refine Calls.mono (valid_c _ _ _) ?_
      rintro e w2 ⟨rfl, hb⟩
      replace ks0 : w2.cell? ⟨w.heap.size, 0, none⟩ = some (.int .i64 s1) := cell_later hb (by first | exact ks0 | exact cell_al _ ks0 | exact cell_al _ (cell_al _ ks0) | go_simp)
      replace ks1 : w2.cell? ⟨w.heap.size, 1, none⟩ = some (.int .i64 s2) := cell_later hb (by first | exact ks1 | exact cell_al _ ks1 | exact cell_al _ (cell_al _ ks1) | go_simp)
      replace kt0 : w2.cell? ⟨w.heap.size + 1, 0, none⟩ = some (.int .i64 t1) := cell_later hb (by first | exact kt0 | exact cell_al _ kt0 | exact cell_al _ (cell_al _ kt0) | go_simp)
      replace kt1 : w2.cell? ⟨w.heap.size + 1, 1, none⟩ = some (.int .i64 t2) := cell_later hb (by first | exact kt1 | exact cell_al _ kt1 | exact cell_al _ (cell_al _ kt1) | go_simp)
      replace zs : w.heap.size < w2.heap.size := World.block_lt_of_cell? _ _ ks0
      replace zt : w.heap.size + 1 < w2.heap.size := World.block_lt_of_cell? _ _ kt0
      replace hb0 : Below w.heap.size w w2 := (by repeat (first | exact Below.refl _ _ | assumption | refine bstep ?_ (by assumption) | refine Below.drew ?_ | refine balloc ?_ _ | refine Below.setCell ?_ (by first | omega | (simp <;> omega)) _))
      clear hb
      rw [h2]
      go_wp2
      refine bodyPost_ret ?_ rfl ⟨rfl, (by repeat (first | exact Below.refl _ _ | assumption | refine bstep ?_ (by assumption) | refine Below.drew ?_ | refine balloc ?_ _ | refine Below.setCell ?_ (by first | omega | (simp <;> omega)) _))⟩
      simp [results, Try.results26, go_sem, vWithin, selB, erv, h1, h2]
  ·
    go_enter Try.func26, Try.ntmps26
    go_wp2_with fail
    refine Calls.mono (valid_c _ _ _) ?_
    rintro e w1 ⟨rfl, hb⟩
    have ks0 : w1.cell? ⟨w.heap.size, 0, none⟩ = some (.int .i64 s1) := cell_later hb (by go_simp)
    have ks1 : w1.cell? ⟨w.heap.size, 1, none⟩ = some (.int .i64 s2) := cell_later hb (by go_simp)
    have kt0 : w1.cell? ⟨w.heap.size + 1, 0, none⟩ = some (.int .i64 t1) := cell_later hb (by go_simp)
    have kt1 : w1.cell? ⟨w.heap.size + 1, 1, none⟩ = some (.int .i64 t2) := cell_later hb (by go_simp)
    have zs : w.heap.size < w1.heap.size := World.block_lt_of_cell? _ _ ks0
    have zt : w.heap.size + 1 < w1.heap.size := World.block_lt_of_cell? _ _ kt0
    have hb0 : Below w.heap.size w w1 := (by repeat (first | exact Below.refl _ _ | assumption | refine bstep ?_ (by assumption) | refine Below.drew ?_ | refine balloc ?_ _ | refine Below.setCell ?_ (by first | omega | (simp <;> omega)) _))
    clear hb
    rw [h1]
    go_wp2
    refine bodyPost_ret ?_ rfl ⟨rfl, (by repeat (first | exact Below.refl _ _ | assumption | refine bstep ?_ (by assumption) | refine Below.drew ?_ | refine balloc ?_ _ | refine Below.setCell ?_ (by first | omega | (simp <;> omega)) _))⟩
    simp [results, Try.results26, go_sem, vWithin, selB, erv, h1]

set_option maxHeartbeats 3200000 in
theorem WithinBox_c (a1 a2 a3 a4 b1 b2 b3 b4 : Int) (w : World)  : Calls Try.prog 36 #[(.agg #[(.int .i64 a1), (.int .i64 a2), (.int .i64 a3), (.int .i64 a4)]), (.agg #[(.int .i64 b1), (.int .i64 b2), (.int .i64 b3), (.int .i64 b4)])] w (Ret w (.tuple #[(.bool (selB (vWithinBox a1 a2 a3 a4 b1 b2 b3 b4) (wI a1 a2 b1 b2 && wI a3 a4 b3 b4))), (.int .i64 (erv (vWithinBox a1 a2 a3 a4 b1 b2 b3 b4) true 4))])) := by
  rcases Bool.eq_false_or_eq_true (vB a1 a2 a3 a4) with h1 | h1
  · rcases Bool.eq_false_or_eq_true (vB b1 b2 b3 b4) with h2 | h2
    ·
      by_cases c1 : max a1 b1 = a1
      rotate_left
      ·
        have hw : (wI a1 a2 b1 b2 && wI a3 a4 b3 b4) = false := by rw [Bool.eq_false_iff, Ne, Bool.and_eq_true, wI_iff, wI_iff]; omega
        go_enter Try.func36, Try.ntmps36
        go_wp2_with fail
        refine Calls.mono (validBox_c _ _ _ _ _) ?_
        rintro e w1 ⟨rfl, hb⟩
        have ka0 : w1.cell? ⟨w.heap.size, 0, none⟩ = some (.int .i64 a1) := cell_later hb (by go_simp)
        have ka1 : w1.cell? ⟨w.heap.size, 1, none⟩ = some (.int .i64 a2) := cell_later hb (by go_simp)
        have ka2 : w1.cell? ⟨w.heap.size, 2, none⟩ = some (.int .i64 a3) := cell_later hb (by go_simp)
        have ka3 : w1.cell? ⟨w.heap.size, 3, none⟩ = some (.int .i64 a4) := cell_later hb (by go_simp)
        have kb0 : w1.cell? ⟨w.heap.size + 1, 0, none⟩ = some (.int .i64 b1) := cell_later hb (by go_simp)
        have kb1 : w1.cell? ⟨w.heap.size + 1, 1, none⟩ = some (.int .i64 b2) := cell_later hb (by go_simp)
        have kb2 : w1.cell? ⟨w.heap.size + 1, 2, none⟩ = some (.int .i64 b3) := cell_later hb (by go_simp)
        have kb3 : w1.cell? ⟨w.heap.size + 1, 3, none⟩ = some (.int .i64 b4) := cell_later hb (by go_simp)
        have za : w.heap.size < w1.heap.size := World.block_lt_of_cell? _ _ ka0
        have zb : w.heap.size + 1 < w1.heap.size := World.block_lt_of_cell? _ _ kb0
        have hb0 : Below w.heap.size w w1 := (by repeat (first | exact Below.refl _ _ | assumption | refine bstep ?_ (by assumption) | refine Below.drew ?_ | refine balloc ?_ _ | refine Below.setCell ?_ (by first | omega | (simp <;> omega)) _))
        clear hb
        go_wp2_with fail
        refine Calls.mono (validBox_c _ _ _ _ _) ?_
        rintro e w2 ⟨rfl, hb⟩
        replace ka0 : w2.cell? ⟨w.heap.size, 0, none⟩ = some (.int .i64 a1) := cell_later hb (by first | exact ka0 | exact cell_al _ ka0 | exact cell_al _ (cell_al _ ka0) | go_simp)
        replace ka1 : w2.cell? ⟨w.heap.size, 1, none⟩ = some (.int .i64 a2) := cell_later hb (by first | exact ka1 | exact cell_al _ ka1 | exact cell_al _ (cell_al _ ka1) | go_simp)
        replace ka2 : w2.cell? ⟨w.heap.size, 2, none⟩ = some (.int .i64 a3) := cell_later hb (by first | exact ka2 | exact cell_al _ ka2 | exact cell_al _ (cell_al _ ka2) | go_simp)
        replace ka3 : w2.cell? ⟨w.heap.size, 3, none⟩ = some (.int .i64 a4) := cell_later hb (by first | exact ka3 | exact cell_al _ ka3 | exact cell_al _ (cell_al _ ka3) | go_simp)
        replace kb0 : w2.cell? ⟨w.heap.size + 1, 0, none⟩ = some (.int .i64 b1) := cell_later hb (by first | exact kb0 | exact cell_al _ kb0 | exact cell_al _ (cell_al _ kb0) | go_simp)
        replace kb1 : w2.cell? ⟨w.heap.size + 1, 1, none⟩ = some (.int .i64 b2) := cell_later hb (by first | exact kb1 | exact cell_al _ kb1 | exact cell_al _ (cell_al _ kb1) | go_simp)
        replace kb2 : w2.cell? ⟨w.heap.size + 1, 2, none⟩ = some (.int .i64 b3) := cell_later hb (by first | exact kb2 | exact cell_al _ kb2 | exact cell_al _ (cell_al _ kb2) | go_simp)
        replace kb3 : w2.cell? ⟨w.heap.size + 1, 3, none⟩ = some (.int .i64 b4) := cell_later hb (by first | exact kb3 | exact cell_al _ kb3 | exact cell_al _ (cell_al _ kb3) | go_simp)
        replace za : w.heap.size < w2.heap.size := World.block_lt_of_cell? _ _ ka0
        replace zb : w.heap.size + 1 < w2.heap.size := World.block_lt_of_cell? _ _ kb0
        replace hb0 : Below w.heap.size w w2 := (by repeat (first | exact Below.refl _ _ | assumption | refine bstep ?_ (by assumption) | refine Below.drew ?_ | refine balloc ?_ _ | refine Below.setCell ?_ (by first | omega | (simp <;> omega)) _))
        clear hb
        go_wp2_with fail
        go_region_held3 (fun w' => w'.cell? ⟨w.heap.size, 0, none⟩ = some (.int .i64 a1) ∧ w'.cell? ⟨w.heap.size, 1, none⟩ = some (.int .i64 a2) ∧ w'.cell? ⟨w.heap.size, 2, none⟩ = some (.int .i64 a3) ∧ w'.cell? ⟨w.heap.size, 3, none⟩ = some (.int .i64 a4) ∧ w'.cell? ⟨w.heap.size + 1, 0, none⟩ = some (.int .i64 b1) ∧ w'.cell? ⟨w.heap.size + 1, 1, none⟩ = some (.int .i64 b2) ∧ w'.cell? ⟨w.heap.size + 1, 2, none⟩ = some (.int .i64 b3) ∧ w'.cell? ⟨w.heap.size + 1, 3, none⟩ = some (.int .i64 b4)) (first | (go_keep; done) | ((repeat' apply And.intro) <;> go_simp)) (first | (go_at_call 51; refine Calls.mono (meetBox_c _ _ _ _ _ _ _ _ _) ?_; rintro e wr ⟨rfl, hb⟩; have ka0 : wr.cell? ⟨w.heap.size, 0, none⟩ = some (.int .i64 a1) := cell_later hb (by first | assumption | go_simp); have ka1 : wr.cell? ⟨w.heap.size, 1, none⟩ = some (.int .i64 a2) := cell_later hb (by first | assumption | go_simp); have ka2 : wr.cell? ⟨w.heap.size, 2, none⟩ = some (.int .i64 a3) := cell_later hb (by first | assumption | go_simp); have ka3 : wr.cell? ⟨w.heap.size, 3, none⟩ = some (.int .i64 a4) := cell_later hb (by first | assumption | go_simp); have za : w.heap.size < wr.heap.size := World.block_lt_of_cell? _ _ ka0; have kb0 : wr.cell? ⟨w.heap.size + 1, 0, none⟩ = some (.int .i64 b1) := cell_later hb (by first | assumption | go_simp); have kb1 : wr.cell? ⟨w.heap.size + 1, 1, none⟩ = some (.int .i64 b2) := cell_later hb (by first | assumption | go_simp); have kb2 : wr.cell? ⟨w.heap.size + 1, 2, none⟩ = some (.int .i64 b3) := cell_later hb (by first | assumption | go_simp); have kb3 : wr.cell? ⟨w.heap.size + 1, 3, none⟩ = some (.int .i64 b4) := cell_later hb (by first | assumption | go_simp); have zb : w.heap.size + 1 < wr.heap.size := World.block_lt_of_cell? _ _ kb0; have hb0 : Below w.heap.size w wr := (by repeat (first | exact Below.refl _ _ | assumption | refine bstep ?_ (by assumption) | refine Below.drew ?_ | refine balloc ?_ _ | refine Below.setCell ?_ (by first | omega | (simp <;> omega)) _)); clear hb))
        go_wp2
        refine bodyPost_ret ?_ rfl ⟨rfl, (by repeat (first | exact Below.refl _ _ | assumption | refine bstep ?_ (by assumption) | refine Below.drew ?_ | refine balloc ?_ _ | refine Below.setCell ?_ (by first | omega | (simp <;> omega)) _))⟩
        simp [results, Try.results36, go_sem, vWithinBox, selB, erv, h1, h2, hw]
      by_cases c2 : min a2 b2 = a2
      rotate_left
      ·
        have hw : (wI a1 a2 b1 b2 && wI a3 a4 b3 b4) = false := by rw [Bool.eq_false_iff, Ne, Bool.and_eq_true, wI_iff, wI_iff]; omega
        go_enter Try.func36, Try.ntmps36
        go_wp2_with fail
        refine Calls.mono (validBox_c _ _ _ _ _) ?_
        rintro e w1 ⟨rfl, hb⟩
        have ka0 : w1.cell? ⟨w.heap.size, 0, none⟩ = some (.int .i64 a1) := cell_later hb (by go_simp)
        have ka1 : w1.cell? ⟨w.heap.size, 1, none⟩ = some (.int .i64 a2) := cell_later hb (by go_simp)
        have ka2 : w1.cell? ⟨w.heap.size, 2, none⟩ = some (.int .i64 a3) := cell_later hb (by go_simp)
        have ka3 : w1.cell? ⟨w.heap.size, 3, none⟩ = some (.int .i64 a4) := cell_later hb (by go_simp)
        have kb0 : w1.cell? ⟨w.heap.size + 1, 0, none⟩ = some (.int .i64 b1) := cell_later hb (by go_simp)
        have kb1 : w1.cell? ⟨w.heap.size + 1, 1, none⟩ = some (.int .i64 b2) := cell_later hb (by go_simp)
        have kb2 : w1.cell? ⟨w.heap.size + 1, 2, none⟩ = some (.int .i64 b3) := cell_later hb (by go_simp)
        have kb3 : w1.cell? ⟨w.heap.size + 1, 3, none⟩ = some (.int .i64 b4) := cell_later hb (by go_simp)
        have za : w.heap.size < w1.heap.size := World.block_lt_of_cell? _ _ ka0
        have zb : w.heap.size + 1 < w1.heap.size := World.block_lt_of_cell? _ _ kb0
        have hb0 : Below w.heap.size w w1 := (by repeat (first | exact Below.refl _ _ | assumption | refine bstep ?_ (by assumption) | refine Below.drew ?_ | refine balloc ?_ _ | refine Below.setCell ?_ (by first | omega | (simp <;> omega)) _))
        clear hb
        go_wp2_with fail
        refine Calls.mono (validBox_c _ _ _ _ _) ?_
        rintro e w2 ⟨rfl, hb⟩
        replace ka0 : w2.cell? ⟨w.heap.size, 0, none⟩ = some (.int .i64 a1) := cell_later hb (by first | exact ka0 | exact cell_al _ ka0 | exact cell_al _ (cell_al _ ka0) | go_simp)
        replace ka1 : w2.cell? ⟨w.heap.size, 1, none⟩ = some (.int .i64 a2) := cell_later hb (by first | exact ka1 | exact cell_al _ ka1 | exact cell_al _ (cell_al _ ka1) | go_simp)
        replace ka2 : w2.cell? ⟨w.heap.size, 2, none⟩ = some (.int .i64 a3) := cell_later hb (by first | exact ka2 | exact cell_al _ ka2 | exact cell_al _ (cell_al _ ka2) | go_simp)
        replace ka3 : w2.cell? ⟨w.heap.size, 3, none⟩ = some (.int .i64 a4) := cell_later hb (by first | exact ka3 | exact cell_al _ ka3 | exact cell_al _ (cell_al _ ka3) | go_simp)
        replace kb0 : w2.cell? ⟨w.heap.size + 1, 0, none⟩ = some (.int .i64 b1) := cell_later hb (by first | exact kb0 | exact cell_al _ kb0 | exact cell_al _ (cell_al _ kb0) | go_simp)
        replace kb1 : w2.cell? ⟨w.heap.size + 1, 1, none⟩ = some (.int .i64 b2) := cell_later hb (by first | exact kb1 | exact cell_al _ kb1 | exact cell_al _ (cell_al _ kb1) | go_simp)
        replace kb2 : w2.cell? ⟨w.heap.size + 1, 2, none⟩ = some (.int .i64 b3) := cell_later hb (by first | exact kb2 | exact cell_al _ kb2 | exact cell_al _ (cell_al _ kb2) | go_simp)
        replace kb3 : w2.cell? ⟨w.heap.size + 1, 3, none⟩ = some (.int .i64 b4) := cell_later hb (by first | exact kb3 | exact cell_al _ kb3 | exact cell_al _ (cell_al _ kb3) | go_simp)
        replace za : w.heap.size < w2.heap.size := World.block_lt_of_cell? _ _ ka0
        replace zb : w.heap.size + 1 < w2.heap.size := World.block_lt_of_cell? _ _ kb0
        replace hb0 : Below w.heap.size w w2 := (by repeat (first | exact Below.refl _ _ | assumption | refine bstep ?_ (by assumption) | refine Below.drew ?_ | refine balloc ?_ _ | refine Below.setCell ?_ (by first | omega | (simp <;> omega)) _))
        clear hb
        go_wp2_with fail
        go_region_held3 (fun w' => w'.cell? ⟨w.heap.size, 0, none⟩ = some (.int .i64 a1) ∧ w'.cell? ⟨w.heap.size, 1, none⟩ = some (.int .i64 a2) ∧ w'.cell? ⟨w.heap.size, 2, none⟩ = some (.int .i64 a3) ∧ w'.cell? ⟨w.heap.size, 3, none⟩ = some (.int .i64 a4) ∧ w'.cell? ⟨w.heap.size + 1, 0, none⟩ = some (.int .i64 b1) ∧ w'.cell? ⟨w.heap.size + 1, 1, none⟩ = some (.int .i64 b2) ∧ w'.cell? ⟨w.heap.size + 1, 2, none⟩ = some (.int .i64 b3) ∧ w'.cell? ⟨w.heap.size + 1, 3, none⟩ = some (.int .i64 b4)) (first | (go_keep; done) | ((repeat' apply And.intro) <;> go_simp)) (first | (go_at_call 51; refine Calls.mono (meetBox_c _ _ _ _ _ _ _ _ _) ?_; rintro e wr ⟨rfl, hb⟩; have ka0 : wr.cell? ⟨w.heap.size, 0, none⟩ = some (.int .i64 a1) := cell_later hb (by first | assumption | go_simp); have ka1 : wr.cell? ⟨w.heap.size, 1, none⟩ = some (.int .i64 a2) := cell_later hb (by first | assumption | go_simp); have ka2 : wr.cell? ⟨w.heap.size, 2, none⟩ = some (.int .i64 a3) := cell_later hb (by first | assumption | go_simp); have ka3 : wr.cell? ⟨w.heap.size, 3, none⟩ = some (.int .i64 a4) := cell_later hb (by first | assumption | go_simp); have za : w.heap.size < wr.heap.size := World.block_lt_of_cell? _ _ ka0; have kb0 : wr.cell? ⟨w.heap.size + 1, 0, none⟩ = some (.int .i64 b1) := cell_later hb (by first | assumption | go_simp); have kb1 : wr.cell? ⟨w.heap.size + 1, 1, none⟩ = some (.int .i64 b2) := cell_later hb (by first | assumption | go_simp); have kb2 : wr.cell? ⟨w.heap.size + 1, 2, none⟩ = some (.int .i64 b3) := cell_later hb (by first | assumption | go_simp); have kb3 : wr.cell? ⟨w.heap.size + 1, 3, none⟩ = some (.int .i64 b4) := cell_later hb (by first | assumption | go_simp); have zb : w.heap.size + 1 < wr.heap.size := World.block_lt_of_cell? _ _ kb0; have hb0 : Below w.heap.size w wr := (by repeat (first | exact Below.refl _ _ | assumption | refine bstep ?_ (by assumption) | refine Below.drew ?_ | refine balloc ?_ _ | refine Below.setCell ?_ (by first | omega | (simp <;> omega)) _)); clear hb))
        go_wp2
        refine bodyPost_ret ?_ rfl ⟨rfl, (by repeat (first | exact Below.refl _ _ | assumption | refine bstep ?_ (by assumption) | refine Below.drew ?_ | refine balloc ?_ _ | refine Below.setCell ?_ (by first | omega | (simp <;> omega)) _))⟩
        simp [results, Try.results36, go_sem, vWithinBox, selB, erv, h1, h2, hw]
      by_cases c3 : max a3 b3 = a3
      rotate_left
      ·
        have hw : (wI a1 a2 b1 b2 && wI a3 a4 b3 b4) = false := by rw [Bool.eq_false_iff, Ne, Bool.and_eq_true, wI_iff, wI_iff]; omega
        go_enter Try.func36, Try.ntmps36
        go_wp2_with fail
        refine Calls.mono (validBox_c _ _ _ _ _) ?_
        rintro e w1 ⟨rfl, hb⟩
        have ka0 : w1.cell? ⟨w.heap.size, 0, none⟩ = some (.int .i64 a1) := cell_later hb (by go_simp)
        have ka1 : w1.cell? ⟨w.heap.size, 1, none⟩ = some (.int .i64 a2) := cell_later hb (by go_simp)
        have ka2 : w1.cell? ⟨w.heap.size, 2, none⟩ = some (.int .i64 a3) := cell_later hb (by go_simp)
        have ka3 : w1.cell? ⟨w.heap.size, 3, none⟩ = some (.int .i64 a4) := cell_later hb (by go_simp)
        have kb0 : w1.cell? ⟨w.heap.size + 1, 0, none⟩ = some (.int .i64 b1) := cell_later hb (by go_simp)
        have kb1 : w1.cell? ⟨w.heap.size + 1, 1, none⟩ = some (.int .i64 b2) := cell_later hb (by go_simp)
        have kb2 : w1.cell? ⟨w.heap.size + 1, 2, none⟩ = some (.int .i64 b3) := cell_later hb (by go_simp)
        have kb3 : w1.cell? ⟨w.heap.size + 1, 3, none⟩ = some (.int .i64 b4) := cell_later hb (by go_simp)
        have za : w.heap.size < w1.heap.size := World.block_lt_of_cell? _ _ ka0
        have zb : w.heap.size + 1 < w1.heap.size := World.block_lt_of_cell? _ _ kb0
        have hb0 : Below w.heap.size w w1 := (by repeat (first | exact Below.refl _ _ | assumption | refine bstep ?_ (by assumption) | refine Below.drew ?_ | refine balloc ?_ _ | refine Below.setCell ?_ (by first | omega | (simp <;> omega)) _))
        clear hb
        go_wp2_with fail
        refine Calls.mono (validBox_c _ _ _ _ _) ?_
        rintro e w2 ⟨rfl, hb⟩
        replace ka0 : w2.cell? ⟨w.heap.size, 0, none⟩ = some (.int .i64 a1) := cell_later hb (by first | exact ka0 | exact cell_al _ ka0 | exact cell_al _ (cell_al _ ka0) | go_simp)
        replace ka1 : w2.cell? ⟨w.heap.size, 1, none⟩ = some (.int .i64 a2) := cell_later hb (by first | exact ka1 | exact cell_al _ ka1 | exact cell_al _ (cell_al _ ka1) | go_simp)
        replace ka2 : w2.cell? ⟨w.heap.size, 2, none⟩ = some (.int .i64 a3) := cell_later hb (by first | exact ka2 | exact cell_al _ ka2 | exact cell_al _ (cell_al _ ka2) | go_simp)
        replace ka3 : w2.cell? ⟨w.heap.size, 3, none⟩ = some (.int .i64 a4) := cell_later hb (by first | exact ka3 | exact cell_al _ ka3 | exact cell_al _ (cell_al _ ka3) | go_simp)
        replace kb0 : w2.cell? ⟨w.heap.size + 1, 0, none⟩ = some (.int .i64 b1) := cell_later hb (by first | exact kb0 | exact cell_al _ kb0 | exact cell_al _ (cell_al _ kb0) | go_simp)
        replace kb1 : w2.cell? ⟨w.heap.size + 1, 1, none⟩ = some (.int .i64 b2) := cell_later hb (by first | exact kb1 | exact cell_al _ kb1 | exact cell_al _ (cell_al _ kb1) | go_simp)
        replace kb2 : w2.cell? ⟨w.heap.size + 1, 2, none⟩ = some (.int .i64 b3) := cell_later hb (by first | exact kb2 | exact cell_al _ kb2 | exact cell_al _ (cell_al _ kb2) | go_simp)
        replace kb3 : w2.cell? ⟨w.heap.size + 1, 3, none⟩ = some (.int .i64 b4) := cell_later hb (by first | exact kb3 | exact cell_al _ kb3 | exact cell_al _ (cell_al _ kb3) | go_simp)
        replace za : w.heap.size < w2.heap.size := World.block_lt_of_cell? _ _ ka0
        replace zb : w.heap.size + 1 < w2.heap.size := World.block_lt_of_cell? _ _ kb0
        replace hb0 : Below w.heap.size w w2 := (by repeat (first | exact Below.refl _ _ | assumption | refine bstep ?_ (by assumption) | refine Below.drew ?_ | refine balloc ?_ _ | refine Below.setCell ?_ (by first | omega | (simp <;> omega)) _))
        clear hb
        go_wp2_with fail
        go_region_held3 (fun w' => w'.cell? ⟨w.heap.size, 0, none⟩ = some (.int .i64 a1) ∧ w'.cell? ⟨w.heap.size, 1, none⟩ = some (.int .i64 a2) ∧ w'.cell? ⟨w.heap.size, 2, none⟩ = some (.int .i64 a3) ∧ w'.cell? ⟨w.heap.size, 3, none⟩ = some (.int .i64 a4) ∧ w'.cell? ⟨w.heap.size + 1, 0, none⟩ = some (.int .i64 b1) ∧ w'.cell? ⟨w.heap.size + 1, 1, none⟩ = some (.int .i64 b2) ∧ w'.cell? ⟨w.heap.size + 1, 2, none⟩ = some (.int .i64 b3) ∧ w'.cell? ⟨w.heap.size + 1, 3, none⟩ = some (.int .i64 b4)) (first | (go_keep; done) | ((repeat' apply And.intro) <;> go_simp)) (first | (go_at_call 51; refine Calls.mono (meetBox_c _ _ _ _ _ _ _ _ _) ?_; rintro e wr ⟨rfl, hb⟩; have ka0 : wr.cell? ⟨w.heap.size, 0, none⟩ = some (.int .i64 a1) := cell_later hb (by first | assumption | go_simp); have ka1 : wr.cell? ⟨w.heap.size, 1, none⟩ = some (.int .i64 a2) := cell_later hb (by first | assumption | go_simp); have ka2 : wr.cell? ⟨w.heap.size, 2, none⟩ = some (.int .i64 a3) := cell_later hb (by first | assumption | go_simp); have ka3 : wr.cell? ⟨w.heap.size, 3, none⟩ = some (.int .i64 a4) := cell_later hb (by first | assumption | go_simp); have za : w.heap.size < wr.heap.size := World.block_lt_of_cell? _ _ ka0; have kb0 : wr.cell? ⟨w.heap.size + 1, 0, none⟩ = some (.int .i64 b1) := cell_later hb (by first | assumption | go_simp); have kb1 : wr.cell? ⟨w.heap.size + 1, 1, none⟩ = some (.int .i64 b2) := cell_later hb (by first | assumption | go_simp); have kb2 : wr.cell? ⟨w.heap.size + 1, 2, none⟩ = some (.int .i64 b3) := cell_later hb (by first | assumption | go_simp); have kb3 : wr.cell? ⟨w.heap.size + 1, 3, none⟩ = some (.int .i64 b4) := cell_later hb (by first | assumption | go_simp); have zb : w.heap.size + 1 < wr.heap.size := World.block_lt_of_cell? _ _ kb0; have hb0 : Below w.heap.size w wr := (by repeat (first | exact Below.refl _ _ | assumption | refine bstep ?_ (by assumption) | refine Below.drew ?_ | refine balloc ?_ _ | refine Below.setCell ?_ (by first | omega | (simp <;> omega)) _)); clear hb))
        go_wp2
        refine bodyPost_ret ?_ rfl ⟨rfl, (by repeat (first | exact Below.refl _ _ | assumption | refine bstep ?_ (by assumption) | refine Below.drew ?_ | refine balloc ?_ _ | refine Below.setCell ?_ (by first | omega | (simp <;> omega)) _))⟩
        simp [results, Try.results36, go_sem, vWithinBox, selB, erv, h1, h2, hw]
      by_cases c4 : min a4 b4 = a4
      rotate_left
      ·
        have hw : (wI a1 a2 b1 b2 && wI a3 a4 b3 b4) = false := by rw [Bool.eq_false_iff, Ne, Bool.and_eq_true, wI_iff, wI_iff]; omega
        go_enter Try.func36, Try.ntmps36
        go_wp2_with fail
        refine Calls.mono (validBox_c _ _ _ _ _) ?_
        rintro e w1 ⟨rfl, hb⟩
        have ka0 : w1.cell? ⟨w.heap.size, 0, none⟩ = some (.int .i64 a1) := cell_later hb (by go_simp)
        have ka1 : w1.cell? ⟨w.heap.size, 1, none⟩ = some (.int .i64 a2) := cell_later hb (by go_simp)
        have ka2 : w1.cell? ⟨w.heap.size, 2, none⟩ = some (.int .i64 a3) := cell_later hb (by go_simp)
        have ka3 : w1.cell? ⟨w.heap.size, 3, none⟩ = some (.int .i64 a4) := cell_later hb (by go_simp)
        have kb0 : w1.cell? ⟨w.heap.size + 1, 0, none⟩ = some (.int .i64 b1) := cell_later hb (by go_simp)
        have kb1 : w1.cell? ⟨w.heap.size + 1, 1, none⟩ = some (.int .i64 b2) := cell_later hb (by go_simp)
        have kb2 : w1.cell? ⟨w.heap.size + 1, 2, none⟩ = some (.int .i64 b3) := cell_later hb (by go_simp)
        have kb3 : w1.cell? ⟨w.heap.size + 1, 3, none⟩ = some (.int .i64 b4) := cell_later hb (by go_simp)
        have za : w.heap.size < w1.heap.size := World.block_lt_of_cell? _ _ ka0
        have zb : w.heap.size + 1 < w1.heap.size := World.block_lt_of_cell? _ _ kb0
        have hb0 : Below w.heap.size w w1 := (by repeat (first | exact Below.refl _ _ | assumption | refine bstep ?_ (by assumption) | refine Below.drew ?_ | refine balloc ?_ _ | refine Below.setCell ?_ (by first | omega | (simp <;> omega)) _))
        clear hb
        go_wp2_with fail
        refine Calls.mono (validBox_c _ _ _ _ _) ?_
        rintro e w2 ⟨rfl, hb⟩
        replace ka0 : w2.cell? ⟨w.heap.size, 0, none⟩ = some (.int .i64 a1) := cell_later hb (by first | exact ka0 | exact cell_al _ ka0 | exact cell_al _ (cell_al _ ka0) | go_simp)
        replace ka1 : w2.cell? ⟨w.heap.size, 1, none⟩ = some (.int .i64 a2) := cell_later hb (by first | exact ka1 | exact cell_al _ ka1 | exact cell_al _ (cell_al _ ka1) | go_simp)
        replace ka2 : w2.cell? ⟨w.heap.size, 2, none⟩ = some (.int .i64 a3) := cell_later hb (by first | exact ka2 | exact cell_al _ ka2 | exact cell_al _ (cell_al _ ka2) | go_simp)
        replace ka3 : w2.cell? ⟨w.heap.size, 3, none⟩ = some (.int .i64 a4) := cell_later hb (by first | exact ka3 | exact cell_al _ ka3 | exact cell_al _ (cell_al _ ka3) | go_simp)
        replace kb0 : w2.cell? ⟨w.heap.size + 1, 0, none⟩ = some (.int .i64 b1) := cell_later hb (by first | exact kb0 | exact cell_al _ kb0 | exact cell_al _ (cell_al _ kb0) | go_simp)
        replace kb1 : w2.cell? ⟨w.heap.size + 1, 1, none⟩ = some (.int .i64 b2) := cell_later hb (by first | exact kb1 | exact cell_al _ kb1 | exact cell_al _ (cell_al _ kb1) | go_simp)
        replace kb2 : w2.cell? ⟨w.heap.size + 1, 2, none⟩ = some (.int .i64 b3) := cell_later hb (by first | exact kb2 | exact cell_al _ kb2 | exact cell_al _ (cell_al _ kb2) | go_simp)
        replace kb3 : w2.cell? ⟨w.heap.size + 1, 3, none⟩ = some (.int .i64 b4) := cell_later hb (by first | exact kb3 | exact cell_al _ kb3 | exact cell_al _ (cell_al _ kb3) | go_simp)
        replace za : w.heap.size < w2.heap.size := World.block_lt_of_cell? _ _ ka0
        replace zb : w.heap.size + 1 < w2.heap.size := World.block_lt_of_cell? _ _ kb0
        replace hb0 : Below w.heap.size w w2 := (by repeat (first | exact Below.refl _ _ | assumption | refine bstep ?_ (by assumption) | refine Below.drew ?_ | refine balloc ?_ _ | refine Below.setCell ?_ (by first | omega | (simp <;> omega)) _))
        clear hb
        go_wp2_with fail
        go_region_held3 (fun w' => w'.cell? ⟨w.heap.size, 0, none⟩ = some (.int .i64 a1) ∧ w'.cell? ⟨w.heap.size, 1, none⟩ = some (.int .i64 a2) ∧ w'.cell? ⟨w.heap.size, 2, none⟩ = some (.int .i64 a3) ∧ w'.cell? ⟨w.heap.size, 3, none⟩ = some (.int .i64 a4) ∧ w'.cell? ⟨w.heap.size + 1, 0, none⟩ = some (.int .i64 b1) ∧ w'.cell? ⟨w.heap.size + 1, 1, none⟩ = some (.int .i64 b2) ∧ w'.cell? ⟨w.heap.size + 1, 2, none⟩ = some (.int .i64 b3) ∧ w'.cell? ⟨w.heap.size + 1, 3, none⟩ = some (.int .i64 b4)) (first | (go_keep; done) | ((repeat' apply And.intro) <;> go_simp)) (first | (go_at_call 51; refine Calls.mono (meetBox_c _ _ _ _ _ _ _ _ _) ?_; rintro e wr ⟨rfl, hb⟩; have ka0 : wr.cell? ⟨w.heap.size, 0, none⟩ = some (.int .i64 a1) := cell_later hb (by first | assumption | go_simp); have ka1 : wr.cell? ⟨w.heap.size, 1, none⟩ = some (.int .i64 a2) := cell_later hb (by first | assumption | go_simp); have ka2 : wr.cell? ⟨w.heap.size, 2, none⟩ = some (.int .i64 a3) := cell_later hb (by first | assumption | go_simp); have ka3 : wr.cell? ⟨w.heap.size, 3, none⟩ = some (.int .i64 a4) := cell_later hb (by first | assumption | go_simp); have za : w.heap.size < wr.heap.size := World.block_lt_of_cell? _ _ ka0; have kb0 : wr.cell? ⟨w.heap.size + 1, 0, none⟩ = some (.int .i64 b1) := cell_later hb (by first | assumption | go_simp); have kb1 : wr.cell? ⟨w.heap.size + 1, 1, none⟩ = some (.int .i64 b2) := cell_later hb (by first | assumption | go_simp); have kb2 : wr.cell? ⟨w.heap.size + 1, 2, none⟩ = some (.int .i64 b3) := cell_later hb (by first | assumption | go_simp); have kb3 : wr.cell? ⟨w.heap.size + 1, 3, none⟩ = some (.int .i64 b4) := cell_later hb (by first | assumption | go_simp); have zb : w.heap.size + 1 < wr.heap.size := World.block_lt_of_cell? _ _ kb0; have hb0 : Below w.heap.size w wr := (by repeat (first | exact Below.refl _ _ | assumption | refine bstep ?_ (by assumption) | refine Below.drew ?_ | refine balloc ?_ _ | refine Below.setCell ?_ (by first | omega | (simp <;> omega)) _)); clear hb))
        go_wp2
        refine bodyPost_ret ?_ rfl ⟨rfl, (by repeat (first | exact Below.refl _ _ | assumption | refine bstep ?_ (by assumption) | refine Below.drew ?_ | refine balloc ?_ _ | refine Below.setCell ?_ (by first | omega | (simp <;> omega)) _))⟩
        simp [results, Try.results36, go_sem, vWithinBox, selB, erv, h1, h2, hw]
      have hw : (wI a1 a2 b1 b2 && wI a3 a4 b3 b4) = true := by rw [Bool.and_eq_true, wI_iff, wI_iff]; omega
      go_enter Try.func36, Try.ntmps36
      go_wp2_with fail
      refine Calls.mono (validBox_c _ _ _ _ _) ?_
      rintro e w1 ⟨rfl, hb⟩
      have ka0 : w1.cell? ⟨w.heap.size, 0, none⟩ = some (.int .i64 a1) := cell_later hb (by go_simp)
      have ka1 : w1.cell? ⟨w.heap.size, 1, none⟩ = some (.int .i64 a2) := cell_later hb (by go_simp)
      have ka2 : w1.cell? ⟨w.heap.size, 2, none⟩ = some (.int .i64 a3) := cell_later hb (by go_simp)
      have ka3 : w1.cell? ⟨w.heap.size, 3, none⟩ = some (.int .i64 a4) := cell_later hb (by go_simp)
      have kb0 : w1.cell? ⟨w.heap.size + 1, 0, none⟩ = some (.int .i64 b1) := cell_later hb (by go_simp)
      have kb1 : w1.cell? ⟨w.heap.size + 1, 1, none⟩ = some (.int .i64 b2) := cell_later hb (by go_simp)
      have kb2 : w1.cell? ⟨w.heap.size + 1, 2, none⟩ = some (.int .i64 b3) := cell_later hb (by go_simp)
      have kb3 : w1.cell? ⟨w.heap.size + 1, 3, none⟩ = some (.int .i64 b4) := cell_later hb (by go_simp)
      have za : w.heap.size < w1.heap.size := World.block_lt_of_cell? _ _ ka0
      have zb : w.heap.size + 1 < w1.heap.size := World.block_lt_of_cell? _ _ kb0
      have hb0 : Below w.heap.size w w1 := (by repeat (first | exact Below.refl _ _ | assumption | refine bstep ?_ (by assumption) | refine Below.drew ?_ | refine balloc ?_ _ | refine Below.setCell ?_ (by first | omega | (simp <;> omega)) _))
      clear hb
      go_wp2_with fail
      refine Calls.mono (validBox_c _ _ _ _ _) ?_
      rintro e w2 ⟨rfl, hb⟩
      replace ka0 : w2.cell? ⟨w.heap.size, 0, none⟩ = some (.int .i64 a1) := cell_later hb (by first | exact ka0 | exact cell_al _ ka0 | exact cell_al _ (cell_al _ ka0) | go_simp)
      replace ka1 : w2.cell? ⟨w.heap.size, 1, none⟩ = some (.int .i64 a2) := cell_later hb (by first | exact ka1 | exact cell_al _ ka1 | exact cell_al _ (cell_al _ ka1) | go_simp)
      replace ka2 : w2.cell? ⟨w.heap.size, 2, none⟩ = some (.int .i64 a3) := cell_later hb (by first | exact ka2 | exact cell_al _ ka2 | exact cell_al _ (cell_al _ ka2) | go_simp)
      replace ka3 : w2.cell? ⟨w.heap.size, 3, none⟩ = some (.int .i64 a4) := cell_later hb (by first | exact ka3 | exact cell_al _ ka3 | exact cell_al _ (cell_al _ ka3) | go_simp)
      replace kb0 : w2.cell? ⟨w.heap.size + 1, 0, none⟩ = some (.int .i64 b1) := cell_later hb (by first | exact kb0 | exact cell_al _ kb0 | exact cell_al _ (cell_al _ kb0) | go_simp)
      replace kb1 : w2.cell? ⟨w.heap.size + 1, 1, none⟩ = some (.int .i64 b2) := cell_later hb (by first | exact kb1 | exact cell_al _ kb1 | exact cell_al _ (cell_al _ kb1) | go_simp)
      replace kb2 : w2.cell? ⟨w.heap.size + 1, 2, none⟩ = some (.int .i64 b3) := cell_later hb (by first | exact kb2 | exact cell_al _ kb2 | exact cell_al _ (cell_al _ kb2) | go_simp)
      replace kb3 : w2.cell? ⟨w.heap.size + 1, 3, none⟩ = some (.int .i64 b4) := cell_later hb (by first | exact kb3 | exact cell_al _ kb3 | exact cell_al _ (cell_al _ kb3) | go_simp)
      replace za : w.heap.size < w2.heap.size := World.block_lt_of_cell? _ _ ka0
      replace zb : w.heap.size + 1 < w2.heap.size := World.block_lt_of_cell? _ _ kb0
      replace hb0 : Below w.heap.size w w2 := (by repeat (first | exact Below.refl _ _ | assumption | refine bstep ?_ (by assumption) | refine Below.drew ?_ | refine balloc ?_ _ | refine Below.setCell ?_ (by first | omega | (simp <;> omega)) _))
      clear hb
      go_wp2_with fail
      go_region_held3 (fun w' => w'.cell? ⟨w.heap.size, 0, none⟩ = some (.int .i64 a1) ∧ w'.cell? ⟨w.heap.size, 1, none⟩ = some (.int .i64 a2) ∧ w'.cell? ⟨w.heap.size, 2, none⟩ = some (.int .i64 a3) ∧ w'.cell? ⟨w.heap.size, 3, none⟩ = some (.int .i64 a4) ∧ w'.cell? ⟨w.heap.size + 1, 0, none⟩ = some (.int .i64 b1) ∧ w'.cell? ⟨w.heap.size + 1, 1, none⟩ = some (.int .i64 b2) ∧ w'.cell? ⟨w.heap.size + 1, 2, none⟩ = some (.int .i64 b3) ∧ w'.cell? ⟨w.heap.size + 1, 3, none⟩ = some (.int .i64 b4)) (first | (go_keep; done) | ((repeat' apply And.intro) <;> go_simp)) (first | (go_at_call 51; refine Calls.mono (meetBox_c _ _ _ _ _ _ _ _ _) ?_; rintro e wr ⟨rfl, hb⟩; have ka0 : wr.cell? ⟨w.heap.size, 0, none⟩ = some (.int .i64 a1) := cell_later hb (by first | assumption | go_simp); have ka1 : wr.cell? ⟨w.heap.size, 1, none⟩ = some (.int .i64 a2) := cell_later hb (by first | assumption | go_simp); have ka2 : wr.cell? ⟨w.heap.size, 2, none⟩ = some (.int .i64 a3) := cell_later hb (by first | assumption | go_simp); have ka3 : wr.cell? ⟨w.heap.size, 3, none⟩ = some (.int .i64 a4) := cell_later hb (by first | assumption | go_simp); have za : w.heap.size < wr.heap.size := World.block_lt_of_cell? _ _ ka0; have kb0 : wr.cell? ⟨w.heap.size + 1, 0, none⟩ = some (.int .i64 b1) := cell_later hb (by first | assumption | go_simp); have kb1 : wr.cell? ⟨w.heap.size + 1, 1, none⟩ = some (.int .i64 b2) := cell_later hb (by first | assumption | go_simp); have kb2 : wr.cell? ⟨w.heap.size + 1, 2, none⟩ = some (.int .i64 b3) := cell_later hb (by first | assumption | go_simp); have kb3 : wr.cell? ⟨w.heap.size + 1, 3, none⟩ = some (.int .i64 b4) := cell_later hb (by first | assumption | go_simp); have zb : w.heap.size + 1 < wr.heap.size := World.block_lt_of_cell? _ _ kb0; have hb0 : Below w.heap.size w wr := (by repeat (first | exact Below.refl _ _ | assumption | refine bstep ?_ (by assumption) | refine Below.drew ?_ | refine balloc ?_ _ | refine Below.setCell ?_ (by first | omega | (simp <;> omega)) _)); clear hb))
      go_wp2
      refine bodyPost_ret ?_ rfl ⟨rfl, (by repeat (first | exact Below.refl _ _ | assumption | refine bstep ?_ (by assumption) | refine Below.drew ?_ | refine balloc ?_ _ | refine Below.setCell ?_ (by first | omega | (simp <;> omega)) _))⟩
      simp [results, Try.results36, go_sem, vWithinBox, selB, erv, h1, h2, hw]
    ·
      go_enter Try.func36, Try.ntmps36
      go_wp2_with fail
      refine Calls.mono (validBox_c _ _ _ _ _) ?_
      rintro e w1 ⟨rfl, hb⟩
      have ka0 : w1.cell? ⟨w.heap.size, 0, none⟩ = some (.int .i64 a1) := cell_later hb (by go_simp)
      have ka1 : w1.cell? ⟨w.heap.size, 1, none⟩ = some (.int .i64 a2) := cell_later hb (by go_simp)
      have ka2 : w1.cell? ⟨w.heap.size, 2, none⟩ = some (.int .i64 a3) := cell_later hb (by go_simp)
      have ka3 : w1.cell? ⟨w.heap.size, 3, none⟩ = some (.int .i64 a4) := cell_later hb (by go_simp)
      have kb0 : w1.cell? ⟨w.heap.size + 1, 0, none⟩ = some (.int .i64 b1) := cell_later hb (by go_simp)
      have kb1 : w1.cell? ⟨w.heap.size + 1, 1, none⟩ = some (.int .i64 b2) := cell_later hb (by go_simp)
      have kb2 : w1.cell? ⟨w.heap.size + 1, 2, none⟩ = some (.int .i64 b3) := cell_later hb (by go_simp)
      have kb3 : w1.cell? ⟨w.heap.size + 1, 3, none⟩ = some (.int .i64 b4) := cell_later hb (by go_simp)
      have za : w.heap.size < w1.heap.size := World.block_lt_of_cell? _ _ ka0
      have zb : w.heap.size + 1 < w1.heap.size := World.block_lt_of_cell? _ _ kb0
      have hb0 : Below w.heap.size w w1 := (by repeat (first | exact Below.refl _ _ | assumption | refine bstep ?_ (by assumption) | refine Below.drew ?_ | refine balloc ?_ _ | refine Below.setCell ?_ (by first | omega | (simp <;> omega)) _))
      clear hb
      go_wp2_with fail
      refine Calls.mono (validBox_c _ _ _ _ _) ?_
      rintro e w2 ⟨rfl, hb⟩
      replace ka0 : w2.cell? ⟨w.heap.size, 0, none⟩ = some (.int .i64 a1) := cell_later hb (by first | exact ka0 | exact cell_al _ ka0 | exact cell_al _ (cell_al _ ka0) | go_simp)
      replace ka1 : w2.cell? ⟨w.heap.size, 1, none⟩ = some (.int .i64 a2) := cell_later hb (by first | exact ka1 | exact cell_al _ ka1 | exact cell_al _ (cell_al _ ka1) | go_simp)
      replace ka2 : w2.cell? ⟨w.heap.size, 2, none⟩ = some (.int .i64 a3) := cell_later hb (by first | exact ka2 | exact cell_al _ ka2 | exact cell_al _ (cell_al _ ka2) | go_simp)
      replace ka3 : w2.cell? ⟨w.heap.size, 3, none⟩ = some (.int .i64 a4) := cell_later hb (by first | exact ka3 | exact cell_al _ ka3 | exact cell_al _ (cell_al _ ka3) | go_simp)
      replace kb0 : w2.cell? ⟨w.heap.size + 1, 0, none⟩ = some (.int .i64 b1) := cell_later hb (by first | exact kb0 | exact cell_al _ kb0 | exact cell_al _ (cell_al _ kb0) | go_simp)
      replace kb1 : w2.cell? ⟨w.heap.size + 1, 1, none⟩ = some (.int .i64 b2) := cell_later hb (by first | exact kb1 | exact cell_al _ kb1 | exact cell_al _ (cell_al _ kb1) | go_simp)
      replace kb2 : w2.cell? ⟨w.heap.size + 1, 2, none⟩ = some (.int .i64 b3) := cell_later hb (by first | exact kb2 | exact cell_al _ kb2 | exact cell_al _ (cell_al _ kb2) | go_simp)
      replace kb3 : w2.cell? ⟨w.heap.size + 1, 3, none⟩ = some (.int .i64 b4) := cell_later hb (by first | exact kb3 | exact cell_al _ kb3 | exact cell_al _ (cell_al _ kb3) | go_simp)
      replace za : w.heap.size < w2.heap.size := World.block_lt_of_cell? _ _ ka0
      replace zb : w.heap.size + 1 < w2.heap.size := World.block_lt_of_cell? _ _ kb0
      replace hb0 : Below w.heap.size w w2 := (by repeat (first | exact Below.refl _ _ | assumption | refine bstep ?_ (by assumption) | refine Below.drew ?_ | refine balloc ?_ _ | refine Below.setCell ?_ (by first | omega | (simp <;> omega)) _))
      clear hb
      rw [h2]
      go_wp2
      refine bodyPost_ret ?_ rfl ⟨rfl, (by repeat (first | exact Below.refl _ _ | assumption | refine bstep ?_ (by assumption) | refine Below.drew ?_ | refine balloc ?_ _ | refine Below.setCell ?_ (by first | omega | (simp <;> omega)) _))⟩
      simp [results, Try.results36, go_sem, vWithinBox, selB, erv, h1, h2]
  ·
    go_enter Try.func36, Try.ntmps36
    go_wp2_with fail
    refine Calls.mono (validBox_c _ _ _ _ _) ?_
    rintro e w1 ⟨rfl, hb⟩
    have ka0 : w1.cell? ⟨w.heap.size, 0, none⟩ = some (.int .i64 a1) := cell_later hb (by go_simp)
    have ka1 : w1.cell? ⟨w.heap.size, 1, none⟩ = some (.int .i64 a2) := cell_later hb (by go_simp)
    have ka2 : w1.cell? ⟨w.heap.size, 2, none⟩ = some (.int .i64 a3) := cell_later hb (by go_simp)
    have ka3 : w1.cell? ⟨w.heap.size, 3, none⟩ = some (.int .i64 a4) := cell_later hb (by go_simp)
    have kb0 : w1.cell? ⟨w.heap.size + 1, 0, none⟩ = some (.int .i64 b1) := cell_later hb (by go_simp)
    have kb1 : w1.cell? ⟨w.heap.size + 1, 1, none⟩ = some (.int .i64 b2) := cell_later hb (by go_simp)
    have kb2 : w1.cell? ⟨w.heap.size + 1, 2, none⟩ = some (.int .i64 b3) := cell_later hb (by go_simp)
    have kb3 : w1.cell? ⟨w.heap.size + 1, 3, none⟩ = some (.int .i64 b4) := cell_later hb (by go_simp)
    have za : w.heap.size < w1.heap.size := World.block_lt_of_cell? _ _ ka0
    have zb : w.heap.size + 1 < w1.heap.size := World.block_lt_of_cell? _ _ kb0
    have hb0 : Below w.heap.size w w1 := (by repeat (first | exact Below.refl _ _ | assumption | refine bstep ?_ (by assumption) | refine Below.drew ?_ | refine balloc ?_ _ | refine Below.setCell ?_ (by first | omega | (simp <;> omega)) _))
    clear hb
    rw [h1]
    go_wp2
    refine bodyPost_ret ?_ rfl ⟨rfl, (by repeat (first | exact Below.refl _ _ | assumption | refine bstep ?_ (by assumption) | refine Below.drew ?_ | refine balloc ?_ _ | refine Below.setCell ?_ (by first | omega | (simp <;> omega)) _))⟩
    simp [results, Try.results36, go_sem, vWithinBox, selB, erv, h1]


end Go.Proofs.Ytendnhmobhicmaa
