/- L4Undone: the law DatumUndone. -/
import Derived.Test.YtlkjpackjjncaaaDatX
import Derived.Test.YtlkjpackjjncaaaRows
import Derived.WalkKit
import Derived.WalkSpells
import Derived.WalkLawsBesides
import Derived.Lib.Hide
import Derived.Deep.QuietTactic
import Derived.BigQuiet
import Derived.RegionTactic
import Derived.ChangeAlike
import Derived.BigRegion
import Derived.Deep.RegionHeld3
import Derived.Deep.RegionWith
import Derived.Outline
import Derived.Laws.EntriesVeiled
import Derived.Deep.DeepCutAuto
namespace Go.Proofs.Ytlkjpackjjncaaa.Da
open Go.RowKit Sp
set_option linter.unusedSimpArgs false
set_option linter.unusedVariables false

set_option maxRecDepth 100000 in
set_option maxHeartbeats 25600000 in
theorem undone_law (m1 m2 m3 m4 m5 m6 m7 p1 p2 q1 q2 : Int) (w : World)  : Calls Try.prog 7 #[(.agg #[(.int .i64 m1), (.int .i64 m2), (.int .i64 m3), (.int .i64 m4), (.int .i64 m5), (.int .i64 m6), (.int .i64 m7)]), (.agg #[(.int .i64 p1), (.int .i64 p2)]), (.agg #[(.int .i64 q1), (.int .i64 q2)])] w (Ret w (.bool true)) := by
  rcases fits3 m1 m2 m3 m4 m5 m6 m7 p1 p2 q1 q2 with ⟨h1, F1⟩ | ⟨h1, k1, F1⟩ | ⟨h1, k1, F1⟩
  ·
    have V := fun w => Valid_c m1 m2 m3 m4 m5 m6 m7 w
    have U := fun w => Undo_c m1 m2 m3 m4 m5 m6 m7 w
    generalize sp (nr (m5 * 1000000 * 1000000) (m1 * m5 - m2 * m4)) (nr (-m2 * 1000000 * 1000000) (m1 * m5 - m2 * m4)) (nr (-m4 * 1000000 * 1000000) (m1 * m5 - m2 * m4)) (nr (m1 * 1000000 * 1000000) (m1 * m5 - m2 * m4)) m7 1 + 2 = c7 at *
    generalize nr (-(nr (m5 * 1000000 * 1000000) (m1 * m5 - m2 * m4) * m3 + nr (-m2 * 1000000 * 1000000) (m1 * m5 - m2 * m4) * m6)) 1000000 = c3 at *
    generalize nr (-(nr (-m4 * 1000000 * 1000000) (m1 * m5 - m2 * m4) * m3 + nr (m1 * 1000000 * 1000000) (m1 * m5 - m2 * m4) * m6)) 1000000 = c6 at *
    generalize nr (m5 * 1000000 * 1000000) (m1 * m5 - m2 * m4) = c1 at *
    generalize nr (-m2 * 1000000 * 1000000) (m1 * m5 - m2 * m4) = c2 at *
    generalize nr (-m4 * 1000000 * 1000000) (m1 * m5 - m2 * m4) = c4 at *
    generalize nr (m1 * 1000000 * 1000000) (m1 * m5 - m2 * m4) = c5 at *
    rcases Bool.eq_false_or_eq_true (dV m1 m2 m3 m4 m5 m6 m7) with dv | dv
    ·
      rw [dv] at V
      rcases Bool.eq_false_or_eq_true (dV c1 c2 c3 c4 c5 c6 c7) with hr | hr
      all_goals
        simp only [dv, hr, selI, selB, erv, cond_true, cond_false, Bool.and_true, Bool.and_false, Bool.true_and, Bool.false_and] at U
        clear dv hr h1
        go_enter Try.func7, Try.ntmps7
        go_wp2_with fail
        refine Calls.mono (head_c _) ?_
        rintro e w1 ⟨rfl, hb⟩
        have km0 : w1.cell? ⟨w.heap.size, 0, none⟩ = some (.int .i64 m1) := cell_later hb (by go_simp)
        have km1 : w1.cell? ⟨w.heap.size, 1, none⟩ = some (.int .i64 m2) := cell_later hb (by go_simp)
        have km2 : w1.cell? ⟨w.heap.size, 2, none⟩ = some (.int .i64 m3) := cell_later hb (by go_simp)
        have km3 : w1.cell? ⟨w.heap.size, 3, none⟩ = some (.int .i64 m4) := cell_later hb (by go_simp)
        have km4 : w1.cell? ⟨w.heap.size, 4, none⟩ = some (.int .i64 m5) := cell_later hb (by go_simp)
        have km5 : w1.cell? ⟨w.heap.size, 5, none⟩ = some (.int .i64 m6) := cell_later hb (by go_simp)
        have km6 : w1.cell? ⟨w.heap.size, 6, none⟩ = some (.int .i64 m7) := cell_later hb (by go_simp)
        have kp0 : w1.cell? ⟨w.heap.size + 1, 0, none⟩ = some (.int .i64 p1) := cell_later hb (by go_simp)
        have kp1 : w1.cell? ⟨w.heap.size + 1, 1, none⟩ = some (.int .i64 p2) := cell_later hb (by go_simp)
        have kq0 : w1.cell? ⟨w.heap.size + 1 + 1, 0, none⟩ = some (.int .i64 q1) := cell_later hb (by go_simp)
        have kq1 : w1.cell? ⟨w.heap.size + 1 + 1, 1, none⟩ = some (.int .i64 q2) := cell_later hb (by go_simp)
        have zm : w.heap.size < w1.heap.size := World.block_lt_of_cell? _ _ km0
        have zm_w1 := zm
        have zp : w.heap.size + 1 < w1.heap.size := World.block_lt_of_cell? _ _ kp0
        have zp_w1 := zp
        have zq : w.heap.size + 1 + 1 < w1.heap.size := World.block_lt_of_cell? _ _ kq0
        have zq_w1 := zq
        have hb0 : Below w.heap.size w w1 := (by repeat (first | with_reducible exact Below.refl _ _ | with_reducible assumption | with_reducible refine Below.setCell ?_ (by first | omega | (simp <;> omega)) _ | with_reducible refine balloc ?_ _ | with_reducible refine Below.drew ?_ | with_reducible refine bstep ?_ (by with_reducible assumption)))
        have hs_w1 := hb.size; (try simp only [World.size_alloc, World.size_setCell] at hs_w1)
        clear hb
        go_wp2_with fail
        refine Calls.mono (F1 _) ?_
        rintro e w2 ⟨rfl, hb⟩
        replace km0 := cell_later hb km0
        replace km1 := cell_later hb km1
        replace km2 := cell_later hb km2
        replace km3 := cell_later hb km3
        replace km4 := cell_later hb km4
        replace km5 := cell_later hb km5
        replace km6 := cell_later hb km6
        replace kp0 := cell_later hb kp0
        replace kp1 := cell_later hb kp1
        replace kq0 := cell_later hb kq0
        replace kq1 := cell_later hb kq1
        replace zm : w.heap.size < w2.heap.size := World.block_lt_of_cell? _ _ km0
        have zm_w2 := zm
        replace zp : w.heap.size + 1 < w2.heap.size := World.block_lt_of_cell? _ _ kp0
        have zp_w2 := zp
        replace zq : w.heap.size + 1 + 1 < w2.heap.size := World.block_lt_of_cell? _ _ kq0
        have zq_w2 := zq
        replace hb0 : Below w.heap.size w w2 := (by repeat (first | with_reducible exact Below.refl _ _ | with_reducible assumption | with_reducible refine Below.setCell ?_ (by first | omega | (simp <;> omega)) _ | with_reducible refine balloc ?_ _ | with_reducible refine Below.drew ?_ | with_reducible refine bstep ?_ (by with_reducible assumption)))
        have hs_w2 : w1.heap.size ≤ w2.heap.size := hb.size
        clear hb
        go_wp2_with fail
        refine Calls.mono (U _) ?_
        rintro e w3 ⟨rfl, hb⟩
        replace km0 := cell_later hb km0
        replace km1 := cell_later hb km1
        replace km2 := cell_later hb km2
        replace km3 := cell_later hb km3
        replace km4 := cell_later hb km4
        replace km5 := cell_later hb km5
        replace km6 := cell_later hb km6
        replace kp0 := cell_later hb kp0
        replace kp1 := cell_later hb kp1
        replace kq0 := cell_later hb kq0
        replace kq1 := cell_later hb kq1
        replace zm : w.heap.size < w3.heap.size := World.block_lt_of_cell? _ _ km0
        have zm_w3 := zm
        replace zp : w.heap.size + 1 < w3.heap.size := World.block_lt_of_cell? _ _ kp0
        have zp_w3 := zp
        replace zq : w.heap.size + 1 + 1 < w3.heap.size := World.block_lt_of_cell? _ _ kq0
        have zq_w3 := zq
        replace hb0 : Below w.heap.size w w3 := (by repeat (first | with_reducible exact Below.refl _ _ | with_reducible assumption | with_reducible refine Below.setCell ?_ (by first | omega | (simp <;> omega)) _ | with_reducible refine balloc ?_ _ | with_reducible refine Below.drew ?_ | with_reducible refine bstep ?_ (by with_reducible assumption)))
        have hs_w3 : w2.heap.size ≤ w3.heap.size := hb.size
        clear hb
        go_wp2_with (go_at_call 12; refine Calls.mono (V _) ?_; rintro e w4 ⟨rfl, hb4⟩)
        all_goals first | (exfalso; omega) | (go_ret; refine ret_bool ?_ (by repeat (first | with_reducible exact Below.refl _ _ | with_reducible assumption | with_reducible refine Below.setCell ?_ (by first | omega | (simp <;> omega)) _ | with_reducible refine balloc ?_ _ | with_reducible refine Below.drew ?_ | with_reducible refine bstep ?_ (by with_reducible assumption))); first | (simp; done) | (simp <;> omega) | (simp [*]; done))
    ·
      rw [dv] at V
      simp only [dv, selI, selB, erv, cond_true, cond_false, Bool.and_true, Bool.and_false, Bool.true_and, Bool.false_and] at U
      clear dv h1
      go_enter Try.func7, Try.ntmps7
      go_wp2_with fail
      refine Calls.mono (head_c _) ?_
      rintro e w1 ⟨rfl, hb⟩
      have km0 : w1.cell? ⟨w.heap.size, 0, none⟩ = some (.int .i64 m1) := cell_later hb (by go_simp)
      have km1 : w1.cell? ⟨w.heap.size, 1, none⟩ = some (.int .i64 m2) := cell_later hb (by go_simp)
      have km2 : w1.cell? ⟨w.heap.size, 2, none⟩ = some (.int .i64 m3) := cell_later hb (by go_simp)
      have km3 : w1.cell? ⟨w.heap.size, 3, none⟩ = some (.int .i64 m4) := cell_later hb (by go_simp)
      have km4 : w1.cell? ⟨w.heap.size, 4, none⟩ = some (.int .i64 m5) := cell_later hb (by go_simp)
      have km5 : w1.cell? ⟨w.heap.size, 5, none⟩ = some (.int .i64 m6) := cell_later hb (by go_simp)
      have km6 : w1.cell? ⟨w.heap.size, 6, none⟩ = some (.int .i64 m7) := cell_later hb (by go_simp)
      have kp0 : w1.cell? ⟨w.heap.size + 1, 0, none⟩ = some (.int .i64 p1) := cell_later hb (by go_simp)
      have kp1 : w1.cell? ⟨w.heap.size + 1, 1, none⟩ = some (.int .i64 p2) := cell_later hb (by go_simp)
      have kq0 : w1.cell? ⟨w.heap.size + 1 + 1, 0, none⟩ = some (.int .i64 q1) := cell_later hb (by go_simp)
      have kq1 : w1.cell? ⟨w.heap.size + 1 + 1, 1, none⟩ = some (.int .i64 q2) := cell_later hb (by go_simp)
      have zm : w.heap.size < w1.heap.size := World.block_lt_of_cell? _ _ km0
      have zm_w1 := zm
      have zp : w.heap.size + 1 < w1.heap.size := World.block_lt_of_cell? _ _ kp0
      have zp_w1 := zp
      have zq : w.heap.size + 1 + 1 < w1.heap.size := World.block_lt_of_cell? _ _ kq0
      have zq_w1 := zq
      have hb0 : Below w.heap.size w w1 := (by repeat (first | with_reducible exact Below.refl _ _ | with_reducible assumption | with_reducible refine Below.setCell ?_ (by first | omega | (simp <;> omega)) _ | with_reducible refine balloc ?_ _ | with_reducible refine Below.drew ?_ | with_reducible refine bstep ?_ (by with_reducible assumption)))
      have hs_w1 := hb.size; (try simp only [World.size_alloc, World.size_setCell] at hs_w1)
      clear hb
      go_wp2_with fail
      refine Calls.mono (F1 _) ?_
      rintro e w2 ⟨rfl, hb⟩
      replace km0 := cell_later hb km0
      replace km1 := cell_later hb km1
      replace km2 := cell_later hb km2
      replace km3 := cell_later hb km3
      replace km4 := cell_later hb km4
      replace km5 := cell_later hb km5
      replace km6 := cell_later hb km6
      replace kp0 := cell_later hb kp0
      replace kp1 := cell_later hb kp1
      replace kq0 := cell_later hb kq0
      replace kq1 := cell_later hb kq1
      replace zm : w.heap.size < w2.heap.size := World.block_lt_of_cell? _ _ km0
      have zm_w2 := zm
      replace zp : w.heap.size + 1 < w2.heap.size := World.block_lt_of_cell? _ _ kp0
      have zp_w2 := zp
      replace zq : w.heap.size + 1 + 1 < w2.heap.size := World.block_lt_of_cell? _ _ kq0
      have zq_w2 := zq
      replace hb0 : Below w.heap.size w w2 := (by repeat (first | with_reducible exact Below.refl _ _ | with_reducible assumption | with_reducible refine Below.setCell ?_ (by first | omega | (simp <;> omega)) _ | with_reducible refine balloc ?_ _ | with_reducible refine Below.drew ?_ | with_reducible refine bstep ?_ (by with_reducible assumption)))
      have hs_w2 : w1.heap.size ≤ w2.heap.size := hb.size
      clear hb
      go_wp2_with fail
      refine Calls.mono (U _) ?_
      rintro e w3 ⟨rfl, hb⟩
      replace km0 := cell_later hb km0
      replace km1 := cell_later hb km1
      replace km2 := cell_later hb km2
      replace km3 := cell_later hb km3
      replace km4 := cell_later hb km4
      replace km5 := cell_later hb km5
      replace km6 := cell_later hb km6
      replace kp0 := cell_later hb kp0
      replace kp1 := cell_later hb kp1
      replace kq0 := cell_later hb kq0
      replace kq1 := cell_later hb kq1
      replace zm : w.heap.size < w3.heap.size := World.block_lt_of_cell? _ _ km0
      have zm_w3 := zm
      replace zp : w.heap.size + 1 < w3.heap.size := World.block_lt_of_cell? _ _ kp0
      have zp_w3 := zp
      replace zq : w.heap.size + 1 + 1 < w3.heap.size := World.block_lt_of_cell? _ _ kq0
      have zq_w3 := zq
      replace hb0 : Below w.heap.size w w3 := (by repeat (first | with_reducible exact Below.refl _ _ | with_reducible assumption | with_reducible refine Below.setCell ?_ (by first | omega | (simp <;> omega)) _ | with_reducible refine balloc ?_ _ | with_reducible refine Below.drew ?_ | with_reducible refine bstep ?_ (by with_reducible assumption)))
      have hs_w3 : w2.heap.size ≤ w3.heap.size := hb.size
      clear hb
      go_wp2_with (go_at_call 12; refine Calls.mono (V _) ?_; rintro e w4 ⟨rfl, hb4⟩)
      all_goals first | (exfalso; omega) | (go_ret; refine ret_bool ?_ (by repeat (first | with_reducible exact Below.refl _ _ | with_reducible assumption | with_reducible refine Below.setCell ?_ (by first | omega | (simp <;> omega)) _ | with_reducible refine balloc ?_ _ | with_reducible refine Below.drew ?_ | with_reducible refine bstep ?_ (by with_reducible assumption))); first | (simp; done) | (simp <;> omega) | (simp [*]; done))
  ·
    have V := fun w => Valid_c m1 m2 m3 m4 m5 m6 m7 w
    have U := fun w => Undo_c m1 m2 m3 m4 m5 m6 m7 w
    generalize sp (nr (m5 * 1000000 * 1000000) (m1 * m5 - m2 * m4)) (nr (-m2 * 1000000 * 1000000) (m1 * m5 - m2 * m4)) (nr (-m4 * 1000000 * 1000000) (m1 * m5 - m2 * m4)) (nr (m1 * 1000000 * 1000000) (m1 * m5 - m2 * m4)) m7 1 + 2 = c7 at *
    generalize nr (-(nr (m5 * 1000000 * 1000000) (m1 * m5 - m2 * m4) * m3 + nr (-m2 * 1000000 * 1000000) (m1 * m5 - m2 * m4) * m6)) 1000000 = c3 at *
    generalize nr (-(nr (-m4 * 1000000 * 1000000) (m1 * m5 - m2 * m4) * m3 + nr (m1 * 1000000 * 1000000) (m1 * m5 - m2 * m4) * m6)) 1000000 = c6 at *
    generalize nr (m5 * 1000000 * 1000000) (m1 * m5 - m2 * m4) = c1 at *
    generalize nr (-m2 * 1000000 * 1000000) (m1 * m5 - m2 * m4) = c2 at *
    generalize nr (-m4 * 1000000 * 1000000) (m1 * m5 - m2 * m4) = c4 at *
    generalize nr (m1 * 1000000 * 1000000) (m1 * m5 - m2 * m4) = c5 at *
    have dv := (vf_iff.1 h1).1
    rw [dv] at V
    rcases Bool.eq_false_or_eq_true (dV c1 c2 c3 c4 c5 c6 c7) with hr | hr
    all_goals
      simp only [dv, hr, selI, selB, erv, cond_true, cond_false, Bool.and_true, Bool.and_false, Bool.true_and, Bool.false_and] at U
      clear dv hr h1 k1
      go_enter Try.func7, Try.ntmps7
      go_wp2_with fail
      refine Calls.mono (head_c _) ?_
      rintro e w1 ⟨rfl, hb⟩
      have km0 : w1.cell? ⟨w.heap.size, 0, none⟩ = some (.int .i64 m1) := cell_later hb (by go_simp)
      have km1 : w1.cell? ⟨w.heap.size, 1, none⟩ = some (.int .i64 m2) := cell_later hb (by go_simp)
      have km2 : w1.cell? ⟨w.heap.size, 2, none⟩ = some (.int .i64 m3) := cell_later hb (by go_simp)
      have km3 : w1.cell? ⟨w.heap.size, 3, none⟩ = some (.int .i64 m4) := cell_later hb (by go_simp)
      have km4 : w1.cell? ⟨w.heap.size, 4, none⟩ = some (.int .i64 m5) := cell_later hb (by go_simp)
      have km5 : w1.cell? ⟨w.heap.size, 5, none⟩ = some (.int .i64 m6) := cell_later hb (by go_simp)
      have km6 : w1.cell? ⟨w.heap.size, 6, none⟩ = some (.int .i64 m7) := cell_later hb (by go_simp)
      have kp0 : w1.cell? ⟨w.heap.size + 1, 0, none⟩ = some (.int .i64 p1) := cell_later hb (by go_simp)
      have kp1 : w1.cell? ⟨w.heap.size + 1, 1, none⟩ = some (.int .i64 p2) := cell_later hb (by go_simp)
      have kq0 : w1.cell? ⟨w.heap.size + 1 + 1, 0, none⟩ = some (.int .i64 q1) := cell_later hb (by go_simp)
      have kq1 : w1.cell? ⟨w.heap.size + 1 + 1, 1, none⟩ = some (.int .i64 q2) := cell_later hb (by go_simp)
      have zm : w.heap.size < w1.heap.size := World.block_lt_of_cell? _ _ km0
      have zm_w1 := zm
      have zp : w.heap.size + 1 < w1.heap.size := World.block_lt_of_cell? _ _ kp0
      have zp_w1 := zp
      have zq : w.heap.size + 1 + 1 < w1.heap.size := World.block_lt_of_cell? _ _ kq0
      have zq_w1 := zq
      have hb0 : Below w.heap.size w w1 := (by repeat (first | with_reducible exact Below.refl _ _ | with_reducible assumption | with_reducible refine Below.setCell ?_ (by first | omega | (simp <;> omega)) _ | with_reducible refine balloc ?_ _ | with_reducible refine Below.drew ?_ | with_reducible refine bstep ?_ (by with_reducible assumption)))
      have hs_w1 := hb.size; (try simp only [World.size_alloc, World.size_setCell] at hs_w1)
      clear hb
      go_wp2_with fail
      refine Calls.mono (F1 _) ?_
      rintro e w2 ⟨rfl, hb⟩
      replace km0 := cell_later hb km0
      replace km1 := cell_later hb km1
      replace km2 := cell_later hb km2
      replace km3 := cell_later hb km3
      replace km4 := cell_later hb km4
      replace km5 := cell_later hb km5
      replace km6 := cell_later hb km6
      replace kp0 := cell_later hb kp0
      replace kp1 := cell_later hb kp1
      replace kq0 := cell_later hb kq0
      replace kq1 := cell_later hb kq1
      replace zm : w.heap.size < w2.heap.size := World.block_lt_of_cell? _ _ km0
      have zm_w2 := zm
      replace zp : w.heap.size + 1 < w2.heap.size := World.block_lt_of_cell? _ _ kp0
      have zp_w2 := zp
      replace zq : w.heap.size + 1 + 1 < w2.heap.size := World.block_lt_of_cell? _ _ kq0
      have zq_w2 := zq
      replace hb0 : Below w.heap.size w w2 := (by repeat (first | with_reducible exact Below.refl _ _ | with_reducible assumption | with_reducible refine Below.setCell ?_ (by first | omega | (simp <;> omega)) _ | with_reducible refine balloc ?_ _ | with_reducible refine Below.drew ?_ | with_reducible refine bstep ?_ (by with_reducible assumption)))
      have hs_w2 : w1.heap.size ≤ w2.heap.size := hb.size
      clear hb
      go_wp2_with fail
      refine Calls.mono (U _) ?_
      rintro e w3 ⟨rfl, hb⟩
      replace km0 := cell_later hb km0
      replace km1 := cell_later hb km1
      replace km2 := cell_later hb km2
      replace km3 := cell_later hb km3
      replace km4 := cell_later hb km4
      replace km5 := cell_later hb km5
      replace km6 := cell_later hb km6
      replace kp0 := cell_later hb kp0
      replace kp1 := cell_later hb kp1
      replace kq0 := cell_later hb kq0
      replace kq1 := cell_later hb kq1
      replace zm : w.heap.size < w3.heap.size := World.block_lt_of_cell? _ _ km0
      have zm_w3 := zm
      replace zp : w.heap.size + 1 < w3.heap.size := World.block_lt_of_cell? _ _ kp0
      have zp_w3 := zp
      replace zq : w.heap.size + 1 + 1 < w3.heap.size := World.block_lt_of_cell? _ _ kq0
      have zq_w3 := zq
      replace hb0 : Below w.heap.size w w3 := (by repeat (first | with_reducible exact Below.refl _ _ | with_reducible assumption | with_reducible refine Below.setCell ?_ (by first | omega | (simp <;> omega)) _ | with_reducible refine balloc ?_ _ | with_reducible refine Below.drew ?_ | with_reducible refine bstep ?_ (by with_reducible assumption)))
      have hs_w3 : w2.heap.size ≤ w3.heap.size := hb.size
      clear hb
      go_wp2_with (go_at_call 12; refine Calls.mono (V _) ?_; rintro e w4 ⟨rfl, hb4⟩)
      all_goals first | (exfalso; omega) | (go_ret; refine ret_bool ?_ (by repeat (first | with_reducible exact Below.refl _ _ | with_reducible assumption | with_reducible refine Below.setCell ?_ (by first | omega | (simp <;> omega)) _ | with_reducible refine balloc ?_ _ | with_reducible refine Below.drew ?_ | with_reducible refine bstep ?_ (by with_reducible assumption))); first | (simp; done) | (simp <;> omega) | (simp [*]; done))
  ·
    obtain ⟨dv, op, oq⟩ := vf_iff.1 h1
    have f := xf_iff.1 k1
    have g := rg_of dv
    obtain ⟨oq1, oq2, oq3, oq4⟩ := id oq
    have U := fun w => Undo_c m1 m2 m3 m4 m5 m6 m7 w
    have hd0 : 0 < m1 * m5 - m2 * m4 := Int.lt_of_lt_of_le (by omega) g.hd
    have G1 := undo_row (a := m5) (b := -m2) (G := m1 * p1 + m2 * p2) (H := m4 * p1 + m5 * p2) (p := p1) (w := tW (nr (m5 * 1000000 * 1000000) (m1 * m5 - m2 * m4)) (nr (-m2 * 1000000 * 1000000) (m1 * m5 - m2 * m4)) (nr (-m4 * 1000000 * 1000000) (m1 * m5 - m2 * m4)) (nr (m1 * 1000000 * 1000000) (m1 * m5 - m2 * m4)) 1) hd0 ⟨oq1, oq2⟩ ⟨oq3, oq4⟩ g.h3 g.h6 g.h7.1 f.1 f.2 (by grind) _ _ rfl rfl (by unfold tW; omega)
    have G2 := undo_row (a := -m4) (b := m1) (G := m1 * p1 + m2 * p2) (H := m4 * p1 + m5 * p2) (p := p2) (w := tW (nr (m5 * 1000000 * 1000000) (m1 * m5 - m2 * m4)) (nr (-m2 * 1000000 * 1000000) (m1 * m5 - m2 * m4)) (nr (-m4 * 1000000 * 1000000) (m1 * m5 - m2 * m4)) (nr (m1 * 1000000 * 1000000) (m1 * m5 - m2 * m4)) 1) hd0 ⟨oq1, oq2⟩ ⟨oq3, oq4⟩ g.h3 g.h6 g.h7.1 f.1 f.2 (by grind) _ _ rfl rfl (by unfold tW; omega)
    have es : upd (tW (nr (m5 * 1000000 * 1000000) (m1 * m5 - m2 * m4)) (nr (-m2 * 1000000 * 1000000) (m1 * m5 - m2 * m4)) (nr (-m4 * 1000000 * 1000000) (m1 * m5 - m2 * m4)) (nr (m1 * 1000000 * 1000000) (m1 * m5 - m2 * m4)) 1 * m7) 1000000 = sp (nr (m5 * 1000000 * 1000000) (m1 * m5 - m2 * m4)) (nr (-m2 * 1000000 * 1000000) (m1 * m5 - m2 * m4)) (nr (-m4 * 1000000 * 1000000) (m1 * m5 - m2 * m4)) (nr (m1 * 1000000 * 1000000) (m1 * m5 - m2 * m4)) m7 1 := rfl
    rw [es] at G1 G2
    clear es
    generalize sp (nr (m5 * 1000000 * 1000000) (m1 * m5 - m2 * m4)) (nr (-m2 * 1000000 * 1000000) (m1 * m5 - m2 * m4)) (nr (-m4 * 1000000 * 1000000) (m1 * m5 - m2 * m4)) (nr (m1 * 1000000 * 1000000) (m1 * m5 - m2 * m4)) m7 1 + 2 = c7 at *
    generalize nr (-(nr (m5 * 1000000 * 1000000) (m1 * m5 - m2 * m4) * m3 + nr (-m2 * 1000000 * 1000000) (m1 * m5 - m2 * m4) * m6)) 1000000 = c3 at *
    generalize nr (-(nr (-m4 * 1000000 * 1000000) (m1 * m5 - m2 * m4) * m3 + nr (m1 * 1000000 * 1000000) (m1 * m5 - m2 * m4) * m6)) 1000000 = c6 at *
    generalize nr (m5 * 1000000 * 1000000) (m1 * m5 - m2 * m4) = c1 at *
    generalize nr (-m2 * 1000000 * 1000000) (m1 * m5 - m2 * m4) = c2 at *
    generalize nr (-m4 * 1000000 * 1000000) (m1 * m5 - m2 * m4) = c4 at *
    generalize nr (m1 * 1000000 * 1000000) (m1 * m5 - m2 * m4) = c5 at *
    rcases Bool.eq_false_or_eq_true (dV c1 c2 c3 c4 c5 c6 c7) with hr | hr
    ·
      simp only [dv, hr, selI, selB, erv, cond_true, cond_false, Bool.and_true, Bool.and_false, Bool.true_and, Bool.false_and] at U
      have h3 : vFits c1 c2 c3 c4 c5 c6 c7 q1 q2 p1 p2 = true := by rw [vf_iff]; exact ⟨hr, oq, op⟩
      have k3 : xFits c1 c2 c3 c4 c5 c6 c7 q1 q2 p1 p2 = true := by rw [xf_iff]; exact ⟨G1, G2⟩
      have F3 := fun w => Fits_c c1 c2 c3 c4 c5 c6 c7 q1 q2 p1 p2 w
      simp only [h3, k3, selI, selB, erv, cond_true, cond_false, Bool.and_true, Bool.and_false, Bool.true_and, Bool.false_and] at F3
      have V := fun w => Valid_c c1 c2 c3 c4 c5 c6 c7 w
      rw [hr] at V
      clear h1 h3 k1 k3 f g G1 G2 dv op oq oq1 oq2 oq3 oq4 hr hd0
      go_enter Try.func7, Try.ntmps7
      go_wp2_with fail
      refine Calls.mono (head_c _) ?_
      rintro e w1 ⟨rfl, hb⟩
      have km0 : w1.cell? ⟨w.heap.size, 0, none⟩ = some (.int .i64 m1) := cell_later hb (by go_simp)
      have km1 : w1.cell? ⟨w.heap.size, 1, none⟩ = some (.int .i64 m2) := cell_later hb (by go_simp)
      have km2 : w1.cell? ⟨w.heap.size, 2, none⟩ = some (.int .i64 m3) := cell_later hb (by go_simp)
      have km3 : w1.cell? ⟨w.heap.size, 3, none⟩ = some (.int .i64 m4) := cell_later hb (by go_simp)
      have km4 : w1.cell? ⟨w.heap.size, 4, none⟩ = some (.int .i64 m5) := cell_later hb (by go_simp)
      have km5 : w1.cell? ⟨w.heap.size, 5, none⟩ = some (.int .i64 m6) := cell_later hb (by go_simp)
      have km6 : w1.cell? ⟨w.heap.size, 6, none⟩ = some (.int .i64 m7) := cell_later hb (by go_simp)
      have kp0 : w1.cell? ⟨w.heap.size + 1, 0, none⟩ = some (.int .i64 p1) := cell_later hb (by go_simp)
      have kp1 : w1.cell? ⟨w.heap.size + 1, 1, none⟩ = some (.int .i64 p2) := cell_later hb (by go_simp)
      have kq0 : w1.cell? ⟨w.heap.size + 1 + 1, 0, none⟩ = some (.int .i64 q1) := cell_later hb (by go_simp)
      have kq1 : w1.cell? ⟨w.heap.size + 1 + 1, 1, none⟩ = some (.int .i64 q2) := cell_later hb (by go_simp)
      have zm : w.heap.size < w1.heap.size := World.block_lt_of_cell? _ _ km0
      have zm_w1 := zm
      have zp : w.heap.size + 1 < w1.heap.size := World.block_lt_of_cell? _ _ kp0
      have zp_w1 := zp
      have zq : w.heap.size + 1 + 1 < w1.heap.size := World.block_lt_of_cell? _ _ kq0
      have zq_w1 := zq
      have hb0 : Below w.heap.size w w1 := (by repeat (first | with_reducible exact Below.refl _ _ | with_reducible assumption | with_reducible refine Below.setCell ?_ (by first | omega | (simp <;> omega)) _ | with_reducible refine balloc ?_ _ | with_reducible refine Below.drew ?_ | with_reducible refine bstep ?_ (by with_reducible assumption)))
      have hs_w1 := hb.size; (try simp only [World.size_alloc, World.size_setCell] at hs_w1)
      clear hb
      go_wp2_with fail
      refine Calls.mono (F1 _) ?_
      rintro e w2 ⟨rfl, hb⟩
      replace km0 := cell_later hb km0
      replace km1 := cell_later hb km1
      replace km2 := cell_later hb km2
      replace km3 := cell_later hb km3
      replace km4 := cell_later hb km4
      replace km5 := cell_later hb km5
      replace km6 := cell_later hb km6
      replace kp0 := cell_later hb kp0
      replace kp1 := cell_later hb kp1
      replace kq0 := cell_later hb kq0
      replace kq1 := cell_later hb kq1
      replace zm : w.heap.size < w2.heap.size := World.block_lt_of_cell? _ _ km0
      have zm_w2 := zm
      replace zp : w.heap.size + 1 < w2.heap.size := World.block_lt_of_cell? _ _ kp0
      have zp_w2 := zp
      replace zq : w.heap.size + 1 + 1 < w2.heap.size := World.block_lt_of_cell? _ _ kq0
      have zq_w2 := zq
      replace hb0 : Below w.heap.size w w2 := (by repeat (first | with_reducible exact Below.refl _ _ | with_reducible assumption | with_reducible refine Below.setCell ?_ (by first | omega | (simp <;> omega)) _ | with_reducible refine balloc ?_ _ | with_reducible refine Below.drew ?_ | with_reducible refine bstep ?_ (by with_reducible assumption)))
      have hs_w2 : w1.heap.size ≤ w2.heap.size := hb.size
      clear hb
      go_wp2_with fail
      refine Calls.mono (U _) ?_
      rintro e w3 ⟨rfl, hb⟩
      replace km0 := cell_later hb km0
      replace km1 := cell_later hb km1
      replace km2 := cell_later hb km2
      replace km3 := cell_later hb km3
      replace km4 := cell_later hb km4
      replace km5 := cell_later hb km5
      replace km6 := cell_later hb km6
      replace kp0 := cell_later hb kp0
      replace kp1 := cell_later hb kp1
      replace kq0 := cell_later hb kq0
      replace kq1 := cell_later hb kq1
      replace zm : w.heap.size < w3.heap.size := World.block_lt_of_cell? _ _ km0
      have zm_w3 := zm
      replace zp : w.heap.size + 1 < w3.heap.size := World.block_lt_of_cell? _ _ kp0
      have zp_w3 := zp
      replace zq : w.heap.size + 1 + 1 < w3.heap.size := World.block_lt_of_cell? _ _ kq0
      have zq_w3 := zq
      replace hb0 : Below w.heap.size w w3 := (by repeat (first | with_reducible exact Below.refl _ _ | with_reducible assumption | with_reducible refine Below.setCell ?_ (by first | omega | (simp <;> omega)) _ | with_reducible refine balloc ?_ _ | with_reducible refine Below.drew ?_ | with_reducible refine bstep ?_ (by with_reducible assumption)))
      have hs_w3 : w2.heap.size ≤ w3.heap.size := hb.size
      clear hb
      go_wp2_with fail
      refine Calls.mono (F3 _) ?_
      rintro e w4 ⟨rfl, hb⟩
      replace km0 := cell_later hb (cell_al _ km0)
      replace km1 := cell_later hb (cell_al _ km1)
      replace km2 := cell_later hb (cell_al _ km2)
      replace km3 := cell_later hb (cell_al _ km3)
      replace km4 := cell_later hb (cell_al _ km4)
      replace km5 := cell_later hb (cell_al _ km5)
      replace km6 := cell_later hb (cell_al _ km6)
      replace kp0 := cell_later hb (cell_al _ kp0)
      replace kp1 := cell_later hb (cell_al _ kp1)
      replace kq0 := cell_later hb (cell_al _ kq0)
      replace kq1 := cell_later hb (cell_al _ kq1)
      have kc0 : w4.cell? ⟨w3.heap.size, 0, none⟩ = some (.int .i64 c1) := cell_later hb (by go_simp)
      have kc1 : w4.cell? ⟨w3.heap.size, 1, none⟩ = some (.int .i64 c2) := cell_later hb (by go_simp)
      have kc2 : w4.cell? ⟨w3.heap.size, 2, none⟩ = some (.int .i64 c3) := cell_later hb (by go_simp)
      have kc3 : w4.cell? ⟨w3.heap.size, 3, none⟩ = some (.int .i64 c4) := cell_later hb (by go_simp)
      have kc4 : w4.cell? ⟨w3.heap.size, 4, none⟩ = some (.int .i64 c5) := cell_later hb (by go_simp)
      have kc5 : w4.cell? ⟨w3.heap.size, 5, none⟩ = some (.int .i64 c6) := cell_later hb (by go_simp)
      have kc6 : w4.cell? ⟨w3.heap.size, 6, none⟩ = some (.int .i64 c7) := cell_later hb (by go_simp)
      replace zm : w.heap.size < w4.heap.size := World.block_lt_of_cell? _ _ km0
      have zm_w4 := zm
      replace zp : w.heap.size + 1 < w4.heap.size := World.block_lt_of_cell? _ _ kp0
      have zp_w4 := zp
      replace zq : w.heap.size + 1 + 1 < w4.heap.size := World.block_lt_of_cell? _ _ kq0
      have zq_w4 := zq
      have zc : w3.heap.size < w4.heap.size := World.block_lt_of_cell? _ _ kc0
      have zc_w4 := zc
      replace hb0 : Below w.heap.size w w4 := (by repeat (first | with_reducible exact Below.refl _ _ | with_reducible assumption | with_reducible refine Below.setCell ?_ (by first | omega | (simp <;> omega)) _ | with_reducible refine balloc ?_ _ | with_reducible refine Below.drew ?_ | with_reducible refine bstep ?_ (by with_reducible assumption)))
      have hs_w4 := hb.size; (try simp only [World.size_alloc, World.size_setCell] at hs_w4)
      clear hb
      go_wp2_with fail
      refine Calls.mono (V _) ?_
      rintro e w5 ⟨rfl, hb⟩
      replace km0 := cell_later hb km0
      replace km1 := cell_later hb km1
      replace km2 := cell_later hb km2
      replace km3 := cell_later hb km3
      replace km4 := cell_later hb km4
      replace km5 := cell_later hb km5
      replace km6 := cell_later hb km6
      replace kp0 := cell_later hb kp0
      replace kp1 := cell_later hb kp1
      replace kq0 := cell_later hb kq0
      replace kq1 := cell_later hb kq1
      replace kc0 := cell_later hb kc0
      replace kc1 := cell_later hb kc1
      replace kc2 := cell_later hb kc2
      replace kc3 := cell_later hb kc3
      replace kc4 := cell_later hb kc4
      replace kc5 := cell_later hb kc5
      replace kc6 := cell_later hb kc6
      replace zm : w.heap.size < w5.heap.size := World.block_lt_of_cell? _ _ km0
      have zm_w5 := zm
      replace zp : w.heap.size + 1 < w5.heap.size := World.block_lt_of_cell? _ _ kp0
      have zp_w5 := zp
      replace zq : w.heap.size + 1 + 1 < w5.heap.size := World.block_lt_of_cell? _ _ kq0
      have zq_w5 := zq
      replace zc : w3.heap.size < w5.heap.size := World.block_lt_of_cell? _ _ kc0
      have zc_w5 := zc
      replace hb0 : Below w.heap.size w w5 := (by repeat (first | with_reducible exact Below.refl _ _ | with_reducible assumption | with_reducible refine Below.setCell ?_ (by first | omega | (simp <;> omega)) _ | with_reducible refine balloc ?_ _ | with_reducible refine Below.drew ?_ | with_reducible refine bstep ?_ (by with_reducible assumption)))
      have hs_w5 : w4.heap.size ≤ w5.heap.size := hb.size
      clear hb
      go_wp2
      all_goals first | (exfalso; omega) | (go_ret; refine ret_bool ?_ (by repeat (first | with_reducible exact Below.refl _ _ | with_reducible assumption | with_reducible refine Below.setCell ?_ (by first | omega | (simp <;> omega)) _ | with_reducible refine balloc ?_ _ | with_reducible refine Below.drew ?_ | with_reducible refine bstep ?_ (by with_reducible assumption))); first | (simp; done) | (simp <;> omega) | (simp [*]; done))
    ·
      simp only [dv, hr, selI, selB, erv, cond_true, cond_false, Bool.and_true, Bool.and_false, Bool.true_and, Bool.false_and] at U
      clear h1 k1 f g G1 G2 dv op oq oq1 oq2 oq3 oq4 hr hd0
      go_enter Try.func7, Try.ntmps7
      go_wp2_with fail
      refine Calls.mono (head_c _) ?_
      rintro e w1 ⟨rfl, hb⟩
      have km0 : w1.cell? ⟨w.heap.size, 0, none⟩ = some (.int .i64 m1) := cell_later hb (by go_simp)
      have km1 : w1.cell? ⟨w.heap.size, 1, none⟩ = some (.int .i64 m2) := cell_later hb (by go_simp)
      have km2 : w1.cell? ⟨w.heap.size, 2, none⟩ = some (.int .i64 m3) := cell_later hb (by go_simp)
      have km3 : w1.cell? ⟨w.heap.size, 3, none⟩ = some (.int .i64 m4) := cell_later hb (by go_simp)
      have km4 : w1.cell? ⟨w.heap.size, 4, none⟩ = some (.int .i64 m5) := cell_later hb (by go_simp)
      have km5 : w1.cell? ⟨w.heap.size, 5, none⟩ = some (.int .i64 m6) := cell_later hb (by go_simp)
      have km6 : w1.cell? ⟨w.heap.size, 6, none⟩ = some (.int .i64 m7) := cell_later hb (by go_simp)
      have kp0 : w1.cell? ⟨w.heap.size + 1, 0, none⟩ = some (.int .i64 p1) := cell_later hb (by go_simp)
      have kp1 : w1.cell? ⟨w.heap.size + 1, 1, none⟩ = some (.int .i64 p2) := cell_later hb (by go_simp)
      have kq0 : w1.cell? ⟨w.heap.size + 1 + 1, 0, none⟩ = some (.int .i64 q1) := cell_later hb (by go_simp)
      have kq1 : w1.cell? ⟨w.heap.size + 1 + 1, 1, none⟩ = some (.int .i64 q2) := cell_later hb (by go_simp)
      have zm : w.heap.size < w1.heap.size := World.block_lt_of_cell? _ _ km0
      have zm_w1 := zm
      have zp : w.heap.size + 1 < w1.heap.size := World.block_lt_of_cell? _ _ kp0
      have zp_w1 := zp
      have zq : w.heap.size + 1 + 1 < w1.heap.size := World.block_lt_of_cell? _ _ kq0
      have zq_w1 := zq
      have hb0 : Below w.heap.size w w1 := (by repeat (first | with_reducible exact Below.refl _ _ | with_reducible assumption | with_reducible refine Below.setCell ?_ (by first | omega | (simp <;> omega)) _ | with_reducible refine balloc ?_ _ | with_reducible refine Below.drew ?_ | with_reducible refine bstep ?_ (by with_reducible assumption)))
      have hs_w1 := hb.size; (try simp only [World.size_alloc, World.size_setCell] at hs_w1)
      clear hb
      go_wp2_with fail
      refine Calls.mono (F1 _) ?_
      rintro e w2 ⟨rfl, hb⟩
      replace km0 := cell_later hb km0
      replace km1 := cell_later hb km1
      replace km2 := cell_later hb km2
      replace km3 := cell_later hb km3
      replace km4 := cell_later hb km4
      replace km5 := cell_later hb km5
      replace km6 := cell_later hb km6
      replace kp0 := cell_later hb kp0
      replace kp1 := cell_later hb kp1
      replace kq0 := cell_later hb kq0
      replace kq1 := cell_later hb kq1
      replace zm : w.heap.size < w2.heap.size := World.block_lt_of_cell? _ _ km0
      have zm_w2 := zm
      replace zp : w.heap.size + 1 < w2.heap.size := World.block_lt_of_cell? _ _ kp0
      have zp_w2 := zp
      replace zq : w.heap.size + 1 + 1 < w2.heap.size := World.block_lt_of_cell? _ _ kq0
      have zq_w2 := zq
      replace hb0 : Below w.heap.size w w2 := (by repeat (first | with_reducible exact Below.refl _ _ | with_reducible assumption | with_reducible refine Below.setCell ?_ (by first | omega | (simp <;> omega)) _ | with_reducible refine balloc ?_ _ | with_reducible refine Below.drew ?_ | with_reducible refine bstep ?_ (by with_reducible assumption)))
      have hs_w2 : w1.heap.size ≤ w2.heap.size := hb.size
      clear hb
      go_wp2_with fail
      refine Calls.mono (U _) ?_
      rintro e w3 ⟨rfl, hb⟩
      replace km0 := cell_later hb km0
      replace km1 := cell_later hb km1
      replace km2 := cell_later hb km2
      replace km3 := cell_later hb km3
      replace km4 := cell_later hb km4
      replace km5 := cell_later hb km5
      replace km6 := cell_later hb km6
      replace kp0 := cell_later hb kp0
      replace kp1 := cell_later hb kp1
      replace kq0 := cell_later hb kq0
      replace kq1 := cell_later hb kq1
      replace zm : w.heap.size < w3.heap.size := World.block_lt_of_cell? _ _ km0
      have zm_w3 := zm
      replace zp : w.heap.size + 1 < w3.heap.size := World.block_lt_of_cell? _ _ kp0
      have zp_w3 := zp
      replace zq : w.heap.size + 1 + 1 < w3.heap.size := World.block_lt_of_cell? _ _ kq0
      have zq_w3 := zq
      replace hb0 : Below w.heap.size w w3 := (by repeat (first | with_reducible exact Below.refl _ _ | with_reducible assumption | with_reducible refine Below.setCell ?_ (by first | omega | (simp <;> omega)) _ | with_reducible refine balloc ?_ _ | with_reducible refine Below.drew ?_ | with_reducible refine bstep ?_ (by with_reducible assumption)))
      have hs_w3 : w2.heap.size ≤ w3.heap.size := hb.size
      clear hb
      go_wp2
      all_goals first | (exfalso; omega) | (go_ret; refine ret_bool ?_ (by repeat (first | with_reducible exact Below.refl _ _ | with_reducible assumption | with_reducible refine Below.setCell ?_ (by first | omega | (simp <;> omega)) _ | with_reducible refine balloc ?_ _ | with_reducible refine Below.drew ?_ | with_reducible refine bstep ?_ (by with_reducible assumption))); first | (simp; done) | (simp <;> omega) | (simp [*]; done))


end Go.Proofs.Ytlkjpackjjncaaa.Da
