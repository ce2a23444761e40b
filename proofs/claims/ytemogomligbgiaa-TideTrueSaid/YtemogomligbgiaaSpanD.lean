/- SpanD: package span, boxes. -/
import Derived.Test.YtemogomligbgiaaSpanC
import Derived.Test.YtemogomligbgiaaRows
import Derived.WalkKit
import Derived.WalkSpells
import Derived.WalkLawsBesides
import Derived.Lib.Hide
import Derived.Deep.QuietTactic
import Derived.BigQuiet
import Derived.RegionTactic
import Derived.ChangeAlike
import Derived.BigRegion
import Derived.Deep.RegionHeld3
import Derived.Deep.RegionWith
import Derived.Outline
namespace Go.Proofs.Ytemogomligbgiaa.Sp
open Go.RowKit
set_option linter.unusedSimpArgs false
set_option linter.unusedVariables false

set_option maxHeartbeats 3200000 in
theorem Within_c (s1 s2 t1 t2 : Int) (w : World)  : Calls Try.prog 30 #[(.agg #[(.int .i64 s1), (.int .i64 s2)]), (.agg #[(.int .i64 t1), (.int .i64 t2)])] w (Ret w (.tuple #[(.bool (selB (vWithin s1 s2 t1 t2) (wI s1 s2 t1 t2))), (.int .i64 (erv (vWithin s1 s2 t1 t2) true 4))])) := by
  rcases Bool.eq_false_or_eq_true (vE 1000000000000 s1 s2) with h1 | h1
  · rcases Bool.eq_false_or_eq_true (vE 1000000000000 t1 t2) with h2 | h2
    ·
      by_cases c1 : max s1 t1 = s1
      rotate_left
      ·
        have hw : (wI s1 s2 t1 t2) = false := by rw [Bool.eq_false_iff, Ne, wI_iff]; omega
        go_enter Try.func30, Try.ntmps30
        go_wp2_with fail
        refine Calls.mono (valid_c _ _ _) ?_
        rintro e w1 ⟨rfl, hb⟩
        have ks0 : w1.cell? ⟨w.heap.size, 0, none⟩ = some (.int .i64 s1) := cell_later hb (by go_simp)
        have ks1 : w1.cell? ⟨w.heap.size, 1, none⟩ = some (.int .i64 s2) := cell_later hb (by go_simp)
        have kt0 : w1.cell? ⟨w.heap.size + 1, 0, none⟩ = some (.int .i64 t1) := cell_later hb (by go_simp)
        have kt1 : w1.cell? ⟨w.heap.size + 1, 1, none⟩ = some (.int .i64 t2) := cell_later hb (by go_simp)
        have zs : w.heap.size < w1.heap.size := World.block_lt_of_cell? _ _ ks0
        have zt : w.heap.size + 1 < w1.heap.size := World.block_lt_of_cell? _ _ kt0
        have hb0 : Below w.heap.size w w1 := (by repeat (first | with_reducible exact Below.refl _ _ | with_reducible assumption | with_reducible refine Below.setCell ?_ (by first | omega | (simp <;> omega)) _ | with_reducible refine balloc ?_ _ | with_reducible refine Below.drew ?_ | with_reducible refine bstep ?_ (by with_reducible assumption)))
        clear hb
        go_wp2_with fail
        refine Calls.mono (valid_c _ _ _) ?_
        rintro e w2 ⟨rfl, hb⟩
        replace ks0 : w2.cell? ⟨w.heap.size, 0, none⟩ = some (.int .i64 s1) := cell_later hb (by first | (with_reducible exact ks0) | (with_reducible exact cell_al _ ks0) | (with_reducible exact cell_al _ (cell_al _ ks0)) | go_simp)
        replace ks1 : w2.cell? ⟨w.heap.size, 1, none⟩ = some (.int .i64 s2) := cell_later hb (by first | (with_reducible exact ks1) | (with_reducible exact cell_al _ ks1) | (with_reducible exact cell_al _ (cell_al _ ks1)) | go_simp)
        replace kt0 : w2.cell? ⟨w.heap.size + 1, 0, none⟩ = some (.int .i64 t1) := cell_later hb (by first | (with_reducible exact kt0) | (with_reducible exact cell_al _ kt0) | (with_reducible exact cell_al _ (cell_al _ kt0)) | go_simp)
        replace kt1 : w2.cell? ⟨w.heap.size + 1, 1, none⟩ = some (.int .i64 t2) := cell_later hb (by first | (with_reducible exact kt1) | (with_reducible exact cell_al _ kt1) | (with_reducible exact cell_al _ (cell_al _ kt1)) | go_simp)
        replace zs : w.heap.size < w2.heap.size := World.block_lt_of_cell? _ _ ks0
        replace zt : w.heap.size + 1 < w2.heap.size := World.block_lt_of_cell? _ _ kt0
        replace hb0 : Below w.heap.size w w2 := (by repeat (first | with_reducible exact Below.refl _ _ | with_reducible assumption | with_reducible refine Below.setCell ?_ (by first | omega | (simp <;> omega)) _ | with_reducible refine balloc ?_ _ | with_reducible refine Below.drew ?_ | with_reducible refine bstep ?_ (by with_reducible assumption)))
        clear hb
        go_wp2_with fail
        go_region_held3 (fun w' => w'.cell? ⟨w.heap.size, 0, none⟩ = some (.int .i64 s1) ∧ w'.cell? ⟨w.heap.size, 1, none⟩ = some (.int .i64 s2) ∧ w'.cell? ⟨w.heap.size + 1, 0, none⟩ = some (.int .i64 t1) ∧ w'.cell? ⟨w.heap.size + 1, 1, none⟩ = some (.int .i64 t2)) (first | (go_keep; done) | ((repeat' apply And.intro) <;> go_simp)) (first | (go_at_call 60; refine Calls.mono (meet_c _ _ _ _ _) ?_; rintro e wr ⟨rfl, hb⟩; have ks0 : wr.cell? ⟨w.heap.size, 0, none⟩ = some (.int .i64 s1) := cell_later hb (by first | (with_reducible assumption) | go_simp); have ks1 : wr.cell? ⟨w.heap.size, 1, none⟩ = some (.int .i64 s2) := cell_later hb (by first | (with_reducible assumption) | go_simp); have zs : w.heap.size < wr.heap.size := World.block_lt_of_cell? _ _ ks0; have kt0 : wr.cell? ⟨w.heap.size + 1, 0, none⟩ = some (.int .i64 t1) := cell_later hb (by first | (with_reducible assumption) | go_simp); have kt1 : wr.cell? ⟨w.heap.size + 1, 1, none⟩ = some (.int .i64 t2) := cell_later hb (by first | (with_reducible assumption) | go_simp); have zt : w.heap.size + 1 < wr.heap.size := World.block_lt_of_cell? _ _ kt0; have hb0 : Below w.heap.size w wr := (by repeat (first | with_reducible exact Below.refl _ _ | with_reducible assumption | with_reducible refine Below.setCell ?_ (by first | omega | (simp <;> omega)) _ | with_reducible refine balloc ?_ _ | with_reducible refine Below.drew ?_ | with_reducible refine bstep ?_ (by with_reducible assumption))); clear hb))
        go_wp2
        refine bodyPost_ret ?_ rfl ⟨rfl, (by repeat (first | with_reducible exact Below.refl _ _ | with_reducible assumption | with_reducible refine Below.setCell ?_ (by first | omega | (simp <;> omega)) _ | with_reducible refine balloc ?_ _ | with_reducible refine Below.drew ?_ | with_reducible refine bstep ?_ (by with_reducible assumption)))⟩
        simp [results, Try.results30, go_sem, vWithin, selB, erv, h1, h2, hw]
      by_cases c2 : min s2 t2 = s2
      rotate_left
      ·
        have hw : (wI s1 s2 t1 t2) = false := by rw [Bool.eq_false_iff, Ne, wI_iff]; omega
        go_enter Try.func30, Try.ntmps30
        go_wp2_with fail
        refine Calls.mono (valid_c _ _ _) ?_
        rintro e w1 ⟨rfl, hb⟩
        have ks0 : w1.cell? ⟨w.heap.size, 0, none⟩ = some (.int .i64 s1) := cell_later hb (by go_simp)
        have ks1 : w1.cell? ⟨w.heap.size, 1, none⟩ = some (.int .i64 s2) := cell_later hb (by go_simp)
        have kt0 : w1.cell? ⟨w.heap.size + 1, 0, none⟩ = some (.int .i64 t1) := cell_later hb (by go_simp)
        have kt1 : w1.cell? ⟨w.heap.size + 1, 1, none⟩ = some (.int .i64 t2) := cell_later hb (by go_simp)
        have zs : w.heap.size < w1.heap.size := World.block_lt_of_cell? _ _ ks0
        have zt : w.heap.size + 1 < w1.heap.size := World.block_lt_of_cell? _ _ kt0
        have hb0 : Below w.heap.size w w1 := (by repeat (first | with_reducible exact Below.refl _ _ | with_reducible assumption | with_reducible refine Below.setCell ?_ (by first | omega | (simp <;> omega)) _ | with_reducible refine balloc ?_ _ | with_reducible refine Below.drew ?_ | with_reducible refine bstep ?_ (by with_reducible assumption)))
        clear hb
        go_wp2_with fail
        refine Calls.mono (valid_c _ _ _) ?_
        rintro e w2 ⟨rfl, hb⟩
        replace ks0 : w2.cell? ⟨w.heap.size, 0, none⟩ = some (.int .i64 s1) := cell_later hb (by first | (with_reducible exact ks0) | (with_reducible exact cell_al _ ks0) | (with_reducible exact cell_al _ (cell_al _ ks0)) | go_simp)
        replace ks1 : w2.cell? ⟨w.heap.size, 1, none⟩ = some (.int .i64 s2) := cell_later hb (by first | (with_reducible exact ks1) | (with_reducible exact cell_al _ ks1) | (with_reducible exact cell_al _ (cell_al _ ks1)) | go_simp)
        replace kt0 : w2.cell? ⟨w.heap.size + 1, 0, none⟩ = some (.int .i64 t1) := cell_later hb (by first | (with_reducible exact kt0) | (with_reducible exact cell_al _ kt0) | (with_reducible exact cell_al _ (cell_al _ kt0)) | go_simp)
        replace kt1 : w2.cell? ⟨w.heap.size + 1, 1, none⟩ = some (.int .i64 t2) := cell_later hb (by first | (with_reducible exact kt1) | (with_reducible exact cell_al _ kt1) | (with_reducible exact cell_al _ (cell_al _ kt1)) | go_simp)
        replace zs : w.heap.size < w2.heap.size := World.block_lt_of_cell? _ _ ks0
        replace zt : w.heap.size + 1 < w2.heap.size := World.block_lt_of_cell? _ _ kt0
        replace hb0 : Below w.heap.size w w2 := (by repeat (first | with_reducible exact Below.refl _ _ | with_reducible assumption | with_reducible refine Below.setCell ?_ (by first | omega | (simp <;> omega)) _ | with_reducible refine balloc ?_ _ | with_reducible refine Below.drew ?_ | with_reducible refine bstep ?_ (by with_reducible assumption)))
        clear hb
        go_wp2_with fail
        go_region_held3 (fun w' => w'.cell? ⟨w.heap.size, 0, none⟩ = some (.int .i64 s1) ∧ w'.cell? ⟨w.heap.size, 1, none⟩ = some (.int .i64 s2) ∧ w'.cell? ⟨w.heap.size + 1, 0, none⟩ = some (.int .i64 t1) ∧ w'.cell? ⟨w.heap.size + 1, 1, none⟩ = some (.int .i64 t2)) (first | (go_keep; done) | ((repeat' apply And.intro) <;> go_simp)) (first | (go_at_call 60; refine Calls.mono (meet_c _ _ _ _ _) ?_; rintro e wr ⟨rfl, hb⟩; have ks0 : wr.cell? ⟨w.heap.size, 0, none⟩ = some (.int .i64 s1) := cell_later hb (by first | (with_reducible assumption) | go_simp); have ks1 : wr.cell? ⟨w.heap.size, 1, none⟩ = some (.int .i64 s2) := cell_later hb (by first | (with_reducible assumption) | go_simp); have zs : w.heap.size < wr.heap.size := World.block_lt_of_cell? _ _ ks0; have kt0 : wr.cell? ⟨w.heap.size + 1, 0, none⟩ = some (.int .i64 t1) := cell_later hb (by first | (with_reducible assumption) | go_simp); have kt1 : wr.cell? ⟨w.heap.size + 1, 1, none⟩ = some (.int .i64 t2) := cell_later hb (by first | (with_reducible assumption) | go_simp); have zt : w.heap.size + 1 < wr.heap.size := World.block_lt_of_cell? _ _ kt0; have hb0 : Below w.heap.size w wr := (by repeat (first | with_reducible exact Below.refl _ _ | with_reducible assumption | with_reducible refine Below.setCell ?_ (by first | omega | (simp <;> omega)) _ | with_reducible refine balloc ?_ _ | with_reducible refine Below.drew ?_ | with_reducible refine bstep ?_ (by with_reducible assumption))); clear hb))
        go_wp2
        refine bodyPost_ret ?_ rfl ⟨rfl, (by repeat (first | with_reducible exact Below.refl _ _ | with_reducible assumption | with_reducible refine Below.setCell ?_ (by first | omega | (simp <;> omega)) _ | with_reducible refine balloc ?_ _ | with_reducible refine Below.drew ?_ | with_reducible refine bstep ?_ (by with_reducible assumption)))⟩
        simp [results, Try.results30, go_sem, vWithin, selB, erv, h1, h2, hw]
      have hw : (wI s1 s2 t1 t2) = true := by rw [wI_iff]; omega
      go_enter Try.func30, Try.ntmps30
      go_wp2_with fail
      refine Calls.mono (valid_c _ _ _) ?_
      rintro e w1 ⟨rfl, hb⟩
      have ks0 : w1.cell? ⟨w.heap.size, 0, none⟩ = some (.int .i64 s1) := cell_later hb (by go_simp)
      have ks1 : w1.cell? ⟨w.heap.size, 1, none⟩ = some (.int .i64 s2) := cell_later hb (by go_simp)
      have kt0 : w1.cell? ⟨w.heap.size + 1, 0, none⟩ = some (.int .i64 t1) := cell_later hb (by go_simp)
      have kt1 : w1.cell? ⟨w.heap.size + 1, 1, none⟩ = some (.int .i64 t2) := cell_later hb (by go_simp)
      have zs : w.heap.size < w1.heap.size := World.block_lt_of_cell? _ _ ks0
      have zt : w.heap.size + 1 < w1.heap.size := World.block_lt_of_cell? _ _ kt0
      have hb0 : Below w.heap.size w w1 := (by repeat (first | with_reducible exact Below.refl _ _ | with_reducible assumption | with_reducible refine Below.setCell ?_ (by first | omega | (simp <;> omega)) _ | with_reducible refine balloc ?_ _ | with_reducible refine Below.drew ?_ | with_reducible refine bstep ?_ (by with_reducible assumption)))
      clear hb
      go_wp2_with fail
      refine Calls.mono (valid_c _ _ _) ?_
      rintro e w2 ⟨rfl, hb⟩
      replace ks0 : w2.cell? ⟨w.heap.size, 0, none⟩ = some (.int .i64 s1) := cell_later hb (by first | (with_reducible exact ks0) | (with_reducible exact cell_al _ ks0) | (with_reducible exact cell_al _ (cell_al _ ks0)) | go_simp)
      replace ks1 : w2.cell? ⟨w.heap.size, 1, none⟩ = some (.int .i64 s2) := cell_later hb (by first | (with_reducible exact ks1) | (with_reducible exact cell_al _ ks1) | (with_reducible exact cell_al _ (cell_al _ ks1)) | go_simp)
      replace kt0 : w2.cell? ⟨w.heap.size + 1, 0, none⟩ = some (.int .i64 t1) := cell_later hb (by first | (with_reducible exact kt0) | (with_reducible exact cell_al _ kt0) | (with_reducible exact cell_al _ (cell_al _ kt0)) | go_simp)
      replace kt1 : w2.cell? ⟨w.heap.size + 1, 1, none⟩ = some (.int .i64 t2) := cell_later hb (by first | (with_reducible exact kt1) | (with_reducible exact cell_al _ kt1) | (with_reducible exact cell_al _ (cell_al _ kt1)) | go_simp)
      replace zs : w.heap.size < w2.heap.size := World.block_lt_of_cell? _ _ ks0
      replace zt : w.heap.size + 1 < w2.heap.size := World.block_lt_of_cell? _ _ kt0
      replace hb0 : Below w.heap.size w w2 := (by repeat (first | with_reducible exact Below.refl _ _ | with_reducible assumption | with_reducible refine Below.setCell ?_ (by first | omega | (simp <;> omega)) _ | with_reducible refine balloc ?_ _ | with_reducible refine Below.drew ?_ | with_reducible refine bstep ?_ (by with_reducible assumption)))
      clear hb
      go_wp2_with fail
      go_region_held3 (fun w' => w'.cell? ⟨w.heap.size, 0, none⟩ = some (.int .i64 s1) ∧ w'.cell? ⟨w.heap.size, 1, none⟩ = some (.int .i64 s2) ∧ w'.cell? ⟨w.heap.size + 1, 0, none⟩ = some (.int .i64 t1) ∧ w'.cell? ⟨w.heap.size + 1, 1, none⟩ = some (.int .i64 t2)) (first | (go_keep; done) | ((repeat' apply And.intro) <;> go_simp)) (first | (go_at_call 60; refine Calls.mono (meet_c _ _ _ _ _) ?_; rintro e wr ⟨rfl, hb⟩; have ks0 : wr.cell? ⟨w.heap.size, 0, none⟩ = some (.int .i64 s1) := cell_later hb (by first | (with_reducible assumption) | go_simp); have ks1 : wr.cell? ⟨w.heap.size, 1, none⟩ = some (.int .i64 s2) := cell_later hb (by first | (with_reducible assumption) | go_simp); have zs : w.heap.size < wr.heap.size := World.block_lt_of_cell? _ _ ks0; have kt0 : wr.cell? ⟨w.heap.size + 1, 0, none⟩ = some (.int .i64 t1) := cell_later hb (by first | (with_reducible assumption) | go_simp); have kt1 : wr.cell? ⟨w.heap.size + 1, 1, none⟩ = some (.int .i64 t2) := cell_later hb (by first | (with_reducible assumption) | go_simp); have zt : w.heap.size + 1 < wr.heap.size := World.block_lt_of_cell? _ _ kt0; have hb0 : Below w.heap.size w wr := (by repeat (first | with_reducible exact Below.refl _ _ | with_reducible assumption | with_reducible refine Below.setCell ?_ (by first | omega | (simp <;> omega)) _ | with_reducible refine balloc ?_ _ | with_reducible refine Below.drew ?_ | with_reducible refine bstep ?_ (by with_reducible assumption))); clear hb))
      go_wp2
      refine bodyPost_ret ?_ rfl ⟨rfl, (by repeat (first | with_reducible exact Below.refl _ _ | with_reducible assumption | with_reducible refine Below.setCell ?_ (by first | omega | (simp <;> omega)) _ | with_reducible refine balloc ?_ _ | with_reducible refine Below.drew ?_ | with_reducible refine bstep ?_ (by with_reducible assumption)))⟩
      simp [results, Try.results30, go_sem, vWithin, selB, erv, h1, h2, hw]
    ·
      go_enter Try.func30, Try.ntmps30
      go_wp2_with fail
      refine Calls.mono (valid_c _ _ _) ?_
      rintro e w1 ⟨rfl, hb⟩
      have ks0 : w1.cell? ⟨w.heap.size, 0, none⟩ = some (.int .i64 s1) := cell_later hb (by go_simp)
      have ks1 : w1.cell? ⟨w.heap.size, 1, none⟩ = some (.int .i64 s2) := cell_later hb (by go_simp)
      have kt0 : w1.cell? ⟨w.heap.size + 1, 0, none⟩ = some (.int .i64 t1) := cell_later hb (by go_simp)
      have kt1 : w1.cell? ⟨w.heap.size + 1, 1, none⟩ = some (.int .i64 t2) := cell_later hb (by go_simp)
      have zs : w.heap.size < w1.heap.size := World.block_lt_of_cell? _ _ ks0
      have zt : w.heap.size + 1 < w1.heap.size := World.block_lt_of_cell? _ _ kt0
      have hb0 : Below w.heap.size w w1 := (by repeat (first | with_reducible exact Below.refl _ _ | with_reducible assumption | with_reducible refine Below.setCell ?_ (by first | omega | (simp <;> omega)) _ | with_reducible refine balloc ?_ _ | with_reducible refine Below.drew ?_ | with_reducible refine bstep ?_ (by with_reducible assumption)))
      clear hb
      go_wp2_with fail
      refine Calls.mono (valid_c _ _ _) ?_
      rintro e w2 ⟨rfl, hb⟩
      replace ks0 : w2.cell? ⟨w.heap.size, 0, none⟩ = some (.int .i64 s1) := cell_later hb (by first | (with_reducible exact ks0) | (with_reducible exact cell_al _ ks0) | (with_reducible exact cell_al _ (cell_al _ ks0)) | go_simp)
      replace ks1 : w2.cell? ⟨w.heap.size, 1, none⟩ = some (.int .i64 s2) := cell_later hb (by first | (with_reducible exact ks1) | (with_reducible exact cell_al _ ks1) | (with_reducible exact cell_al _ (cell_al _ ks1)) | go_simp)
      replace kt0 : w2.cell? ⟨w.heap.size + 1, 0, none⟩ = some (.int .i64 t1) := cell_later hb (by first | (with_reducible exact kt0) | (with_reducible exact cell_al _ kt0) | (with_reducible exact cell_al _ (cell_al _ kt0)) | go_simp)
      replace kt1 : w2.cell? ⟨w.heap.size + 1, 1, none⟩ = some (.int .i64 t2) := cell_later hb (by first | (with_reducible exact kt1) | (with_reducible exact cell_al _ kt1) | (with_reducible exact cell_al _ (cell_al _ kt1)) | go_simp)
      replace zs : w.heap.size < w2.heap.size := World.block_lt_of_cell? _ _ ks0
      replace zt : w.heap.size + 1 < w2.heap.size := World.block_lt_of_cell? _ _ kt0
      replace hb0 : Below w.heap.size w w2 := (by repeat (first | with_reducible exact Below.refl _ _ | with_reducible assumption | with_reducible refine Below.setCell ?_ (by first | omega | (simp <;> omega)) _ | with_reducible refine balloc ?_ _ | with_reducible refine Below.drew ?_ | with_reducible refine bstep ?_ (by with_reducible assumption)))
      clear hb
      rw [h2]
      go_wp2
      refine bodyPost_ret ?_ rfl ⟨rfl, (by repeat (first | with_reducible exact Below.refl _ _ | with_reducible assumption | with_reducible refine Below.setCell ?_ (by first | omega | (simp <;> omega)) _ | with_reducible refine balloc ?_ _ | with_reducible refine Below.drew ?_ | with_reducible refine bstep ?_ (by with_reducible assumption)))⟩
      simp [results, Try.results30, go_sem, vWithin, selB, erv, h1, h2]
  ·
    go_enter Try.func30, Try.ntmps30
    go_wp2_with fail
    refine Calls.mono (valid_c _ _ _) ?_
    rintro e w1 ⟨rfl, hb⟩
    have ks0 : w1.cell? ⟨w.heap.size, 0, none⟩ = some (.int .i64 s1) := cell_later hb (by go_simp)
    have ks1 : w1.cell? ⟨w.heap.size, 1, none⟩ = some (.int .i64 s2) := cell_later hb (by go_simp)
    have kt0 : w1.cell? ⟨w.heap.size + 1, 0, none⟩ = some (.int .i64 t1) := cell_later hb (by go_simp)
    have kt1 : w1.cell? ⟨w.heap.size + 1, 1, none⟩ = some (.int .i64 t2) := cell_later hb (by go_simp)
    have zs : w.heap.size < w1.heap.size := World.block_lt_of_cell? _ _ ks0
    have zt : w.heap.size + 1 < w1.heap.size := World.block_lt_of_cell? _ _ kt0
    have hb0 : Below w.heap.size w w1 := (by repeat (first | with_reducible exact Below.refl _ _ | with_reducible assumption | with_reducible refine Below.setCell ?_ (by first | omega | (simp <;> omega)) _ | with_reducible refine balloc ?_ _ | with_reducible refine Below.drew ?_ | with_reducible refine bstep ?_ (by with_reducible assumption)))
    clear hb
    rw [h1]
    go_wp2
    refine bodyPost_ret ?_ rfl ⟨rfl, (by repeat (first | with_reducible exact Below.refl _ _ | with_reducible assumption | with_reducible refine Below.setCell ?_ (by first | omega | (simp <;> omega)) _ | with_reducible refine balloc ?_ _ | with_reducible refine Below.drew ?_ | with_reducible refine bstep ?_ (by with_reducible assumption)))⟩
    simp [results, Try.results30, go_sem, vWithin, selB, erv, h1]

end Go.Proofs.Ytemogomligbgiaa.Sp
