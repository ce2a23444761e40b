/- DatG: fits, inRange, unshifted. -/
import Derived.Test.YtlkjpackjjncaaaDatF
import Derived.Test.YtlkjpackjjncaaaSpanC
import Derived.Test.YtlkjpackjjncaaaRows
import Derived.WalkKit
import Derived.WalkSpells
import Derived.WalkLawsBesides
import Derived.Lib.Hide
import Derived.Deep.QuietTactic
import Derived.BigQuiet
import Derived.RegionTactic
import Derived.ChangeAlike
import Derived.BigRegion
import Derived.Deep.RegionHeld3
import Derived.Deep.RegionWith
import Derived.Outline
import Derived.Laws.EntriesVeiled
import Derived.Deep.DeepCutAuto
namespace Go.Proofs.Ytlkjpackjjncaaa.Da
open Go.RowKit Sp
set_option linter.unusedSimpArgs false
set_option linter.unusedVariables false

set_option maxHeartbeats 3200000 in
theorem fits_c (m1 m2 m3 m4 m5 m6 m7 p1 p2 q1 q2 : Int) (w : World) (hm1 : -2000000 ≤ m1 ∧ m1 ≤ 2000000) (hm2 : -2000000 ≤ m2 ∧ m2 ≤ 2000000) (hm4 : -2000000 ≤ m4 ∧ m4 ≤ 2000000) (hm5 : -2000000 ≤ m5 ∧ m5 ≤ 2000000) (hm3 : -100000 ≤ m3 ∧ m3 ≤ 100000) (hm6 : -100000 ≤ m6 ∧ m6 ≤ 100000) (hm7 : 0 ≤ m7 ∧ m7 ≤ 1000) (hp1 : -1000000 ≤ p1 ∧ p1 ≤ 1000000) (hp2 : -1000000 ≤ p2 ∧ p2 ≤ 1000000) (hq1 : -1000000 ≤ q1 ∧ q1 ≤ 1000000) (hq2 : -1000000 ≤ q2 ∧ q2 ≤ 1000000) : Calls Try.prog 36 #[(.agg #[(.int .i64 m1), (.int .i64 m2), (.int .i64 m3), (.int .i64 m4), (.int .i64 m5), (.int .i64 m6), (.int .i64 m7)]), (.agg #[(.int .i64 p1), (.int .i64 p2)]), (.agg #[(.int .i64 q1), (.int .i64 q2)])] w (Ret w (.bool (xFits m1 m2 m3 m4 m5 m6 m7 p1 p2 q1 q2))) := by
  have bX := rv_bd (a := m1) (b := m2) (c := m3) hm1 hm2 hm3 hp1 hp2
  have bY := rv_bd (a := m4) (b := m5) (c := m6) hm4 hm5 hm6 hp1 hp2
  have C1 := fun w => both_value m1 m2 m3 m4 m5 m6 p1 p2 w hm1 hm2 hm4 hm5 hm3 hm6 hp1 hp2
  unfold xFits ftB
  generalize rv m1 m2 m3 p1 p2 = X at *
  generalize rv m4 m5 m6 p1 p2 = Y at *
  rcases Bool.eq_false_or_eq_true (wn (q1 * 1000000 - X) (m7 * 1000000)) with h1 | h1
  ·
    go_enter Try.func36, Try.ntmps36
    go_wp2_with fail
    refine Calls.mono (C1 _) ?_
    rintro e w1 ⟨rfl, hb⟩
    have km0 : w1.cell? ⟨w.heap.size, 0, none⟩ = some (.int .i64 m1) := cell_later hb (by go_simp)
    have km1 : w1.cell? ⟨w.heap.size, 1, none⟩ = some (.int .i64 m2) := cell_later hb (by go_simp)
    have km2 : w1.cell? ⟨w.heap.size, 2, none⟩ = some (.int .i64 m3) := cell_later hb (by go_simp)
    have km3 : w1.cell? ⟨w.heap.size, 3, none⟩ = some (.int .i64 m4) := cell_later hb (by go_simp)
    have km4 : w1.cell? ⟨w.heap.size, 4, none⟩ = some (.int .i64 m5) := cell_later hb (by go_simp)
    have km5 : w1.cell? ⟨w.heap.size, 5, none⟩ = some (.int .i64 m6) := cell_later hb (by go_simp)
    have km6 : w1.cell? ⟨w.heap.size, 6, none⟩ = some (.int .i64 m7) := cell_later hb (by go_simp)
    have kp0 : w1.cell? ⟨w.heap.size + 1, 0, none⟩ = some (.int .i64 p1) := cell_later hb (by go_simp)
    have kp1 : w1.cell? ⟨w.heap.size + 1, 1, none⟩ = some (.int .i64 p2) := cell_later hb (by go_simp)
    have kq0 : w1.cell? ⟨w.heap.size + 1 + 1, 0, none⟩ = some (.int .i64 q1) := cell_later hb (by go_simp)
    have kq1 : w1.cell? ⟨w.heap.size + 1 + 1, 1, none⟩ = some (.int .i64 q2) := cell_later hb (by go_simp)
    have zm : w.heap.size < w1.heap.size := World.block_lt_of_cell? _ _ km0
    have zp : w.heap.size + 1 < w1.heap.size := World.block_lt_of_cell? _ _ kp0
    have zq : w.heap.size + 1 + 1 < w1.heap.size := World.block_lt_of_cell? _ _ kq0
    have hb0 : Below w.heap.size w w1 := (by repeat (first | with_reducible exact Below.refl _ _ | with_reducible assumption | with_reducible refine Below.setCell ?_ (by first | omega | (simp <;> omega)) _ | with_reducible refine balloc ?_ _ | with_reducible refine Below.drew ?_ | with_reducible refine bstep ?_ (by with_reducible assumption)))
    clear hb
    go_wp2_with fail
    refine Calls.mono (within_c (q1 * 1000000 - X) (m7 * 1000000) _ (by omega) (by omega)) ?_
    rintro e w2 ⟨rfl, hb⟩
    replace km0 := cell_later hb km0
    replace km1 := cell_later hb km1
    replace km2 := cell_later hb km2
    replace km3 := cell_later hb km3
    replace km4 := cell_later hb km4
    replace km5 := cell_later hb km5
    replace km6 := cell_later hb km6
    replace kp0 := cell_later hb kp0
    replace kp1 := cell_later hb kp1
    replace kq0 := cell_later hb kq0
    replace kq1 := cell_later hb kq1
    replace zm : w.heap.size < w2.heap.size := World.block_lt_of_cell? _ _ km0
    replace zp : w.heap.size + 1 < w2.heap.size := World.block_lt_of_cell? _ _ kp0
    replace zq : w.heap.size + 1 + 1 < w2.heap.size := World.block_lt_of_cell? _ _ kq0
    replace hb0 : Below w.heap.size w w2 := (by repeat (first | with_reducible exact Below.refl _ _ | with_reducible assumption | with_reducible refine Below.setCell ?_ (by first | omega | (simp <;> omega)) _ | with_reducible refine balloc ?_ _ | with_reducible refine Below.drew ?_ | with_reducible refine bstep ?_ (by with_reducible assumption)))
    clear hb
    rw [h1]
    go_wp2_with fail
    refine Calls.mono (within_c (q2 * 1000000 - Y) (m7 * 1000000) _ (by omega) (by omega)) ?_
    rintro e w3 ⟨rfl, hb⟩
    replace km0 := cell_later hb km0
    replace km1 := cell_later hb km1
    replace km2 := cell_later hb km2
    replace km3 := cell_later hb km3
    replace km4 := cell_later hb km4
    replace km5 := cell_later hb km5
    replace km6 := cell_later hb km6
    replace kp0 := cell_later hb kp0
    replace kp1 := cell_later hb kp1
    replace kq0 := cell_later hb kq0
    replace kq1 := cell_later hb kq1
    replace zm : w.heap.size < w3.heap.size := World.block_lt_of_cell? _ _ km0
    replace zp : w.heap.size + 1 < w3.heap.size := World.block_lt_of_cell? _ _ kp0
    replace zq : w.heap.size + 1 + 1 < w3.heap.size := World.block_lt_of_cell? _ _ kq0
    replace hb0 : Below w.heap.size w w3 := (by repeat (first | with_reducible exact Below.refl _ _ | with_reducible assumption | with_reducible refine Below.setCell ?_ (by first | omega | (simp <;> omega)) _ | with_reducible refine balloc ?_ _ | with_reducible refine Below.drew ?_ | with_reducible refine bstep ?_ (by with_reducible assumption)))
    clear hb
    go_wp2
    go_ret
    refine ret_bool ?_ (by repeat (first | with_reducible exact Below.refl _ _ | with_reducible assumption | with_reducible refine Below.setCell ?_ (by first | omega | (simp <;> omega)) _ | with_reducible refine balloc ?_ _ | with_reducible refine Below.drew ?_ | with_reducible refine bstep ?_ (by with_reducible assumption)))
    simp [h1]
  ·
    go_enter Try.func36, Try.ntmps36
    go_wp2_with fail
    refine Calls.mono (C1 _) ?_
    rintro e w1 ⟨rfl, hb⟩
    have km0 : w1.cell? ⟨w.heap.size, 0, none⟩ = some (.int .i64 m1) := cell_later hb (by go_simp)
    have km1 : w1.cell? ⟨w.heap.size, 1, none⟩ = some (.int .i64 m2) := cell_later hb (by go_simp)
    have km2 : w1.cell? ⟨w.heap.size, 2, none⟩ = some (.int .i64 m3) := cell_later hb (by go_simp)
    have km3 : w1.cell? ⟨w.heap.size, 3, none⟩ = some (.int .i64 m4) := cell_later hb (by go_simp)
    have km4 : w1.cell? ⟨w.heap.size, 4, none⟩ = some (.int .i64 m5) := cell_later hb (by go_simp)
    have km5 : w1.cell? ⟨w.heap.size, 5, none⟩ = some (.int .i64 m6) := cell_later hb (by go_simp)
    have km6 : w1.cell? ⟨w.heap.size, 6, none⟩ = some (.int .i64 m7) := cell_later hb (by go_simp)
    have kp0 : w1.cell? ⟨w.heap.size + 1, 0, none⟩ = some (.int .i64 p1) := cell_later hb (by go_simp)
    have kp1 : w1.cell? ⟨w.heap.size + 1, 1, none⟩ = some (.int .i64 p2) := cell_later hb (by go_simp)
    have kq0 : w1.cell? ⟨w.heap.size + 1 + 1, 0, none⟩ = some (.int .i64 q1) := cell_later hb (by go_simp)
    have kq1 : w1.cell? ⟨w.heap.size + 1 + 1, 1, none⟩ = some (.int .i64 q2) := cell_later hb (by go_simp)
    have zm : w.heap.size < w1.heap.size := World.block_lt_of_cell? _ _ km0
    have zp : w.heap.size + 1 < w1.heap.size := World.block_lt_of_cell? _ _ kp0
    have zq : w.heap.size + 1 + 1 < w1.heap.size := World.block_lt_of_cell? _ _ kq0
    have hb0 : Below w.heap.size w w1 := (by repeat (first | with_reducible exact Below.refl _ _ | with_reducible assumption | with_reducible refine Below.setCell ?_ (by first | omega | (simp <;> omega)) _ | with_reducible refine balloc ?_ _ | with_reducible refine Below.drew ?_ | with_reducible refine bstep ?_ (by with_reducible assumption)))
    clear hb
    go_wp2_with fail
    refine Calls.mono (within_c (q1 * 1000000 - X) (m7 * 1000000) _ (by omega) (by omega)) ?_
    rintro e w2 ⟨rfl, hb⟩
    replace km0 := cell_later hb km0
    replace km1 := cell_later hb km1
    replace km2 := cell_later hb km2
    replace km3 := cell_later hb km3
    replace km4 := cell_later hb km4
    replace km5 := cell_later hb km5
    replace km6 := cell_later hb km6
    replace kp0 := cell_later hb kp0
    replace kp1 := cell_later hb kp1
    replace kq0 := cell_later hb kq0
    replace kq1 := cell_later hb kq1
    replace zm : w.heap.size < w2.heap.size := World.block_lt_of_cell? _ _ km0
    replace zp : w.heap.size + 1 < w2.heap.size := World.block_lt_of_cell? _ _ kp0
    replace zq : w.heap.size + 1 + 1 < w2.heap.size := World.block_lt_of_cell? _ _ kq0
    replace hb0 : Below w.heap.size w w2 := (by repeat (first | with_reducible exact Below.refl _ _ | with_reducible assumption | with_reducible refine Below.setCell ?_ (by first | omega | (simp <;> omega)) _ | with_reducible refine balloc ?_ _ | with_reducible refine Below.drew ?_ | with_reducible refine bstep ?_ (by with_reducible assumption)))
    clear hb
    rw [h1]
    go_wp2
    go_ret
    refine ret_bool ?_ (by repeat (first | with_reducible exact Below.refl _ _ | with_reducible assumption | with_reducible refine Below.setCell ?_ (by first | omega | (simp <;> omega)) _ | with_reducible refine balloc ?_ _ | with_reducible refine Below.drew ?_ | with_reducible refine bstep ?_ (by with_reducible assumption)))
    simp [h1]

set_option maxHeartbeats 3200000 in
theorem inRange_c (m1 m2 m3 m4 m5 m6 m7 : Int) (w : World)  : Calls Try.prog 46 #[(.agg #[(.int .i64 m1), (.int .i64 m2), (.int .i64 m3), (.int .i64 m4), (.int .i64 m5), (.int .i64 m6), (.int .i64 m7)])] w (Ret w (.tuple #[.agg #[(.int .i64 (selI (dV m1 m2 m3 m4 m5 m6 m7) m1)), (.int .i64 (selI (dV m1 m2 m3 m4 m5 m6 m7) m2)), (.int .i64 (selI (dV m1 m2 m3 m4 m5 m6 m7) m3)), (.int .i64 (selI (dV m1 m2 m3 m4 m5 m6 m7) m4)), (.int .i64 (selI (dV m1 m2 m3 m4 m5 m6 m7) m5)), (.int .i64 (selI (dV m1 m2 m3 m4 m5 m6 m7) m6)), (.int .i64 (selI (dV m1 m2 m3 m4 m5 m6 m7) m7))], (.int .i64 (erv true (dV m1 m2 m3 m4 m5 m6 m7) 3))])) := by
  rcases Bool.eq_false_or_eq_true (dV m1 m2 m3 m4 m5 m6 m7) with h1 | h1
  all_goals
    go_enter Try.func46, Try.ntmps46
    go_wp2_with fail
    refine Calls.mono (datum_c m1 m2 m3 m4 m5 m6 m7 _) ?_
    rintro e w1 ⟨rfl, hb⟩
    have km0 : w1.cell? ⟨w.heap.size, 0, none⟩ = some (.int .i64 m1) := cell_later hb (by go_simp)
    have km1 : w1.cell? ⟨w.heap.size, 1, none⟩ = some (.int .i64 m2) := cell_later hb (by go_simp)
    have km2 : w1.cell? ⟨w.heap.size, 2, none⟩ = some (.int .i64 m3) := cell_later hb (by go_simp)
    have km3 : w1.cell? ⟨w.heap.size, 3, none⟩ = some (.int .i64 m4) := cell_later hb (by go_simp)
    have km4 : w1.cell? ⟨w.heap.size, 4, none⟩ = some (.int .i64 m5) := cell_later hb (by go_simp)
    have km5 : w1.cell? ⟨w.heap.size, 5, none⟩ = some (.int .i64 m6) := cell_later hb (by go_simp)
    have km6 : w1.cell? ⟨w.heap.size, 6, none⟩ = some (.int .i64 m7) := cell_later hb (by go_simp)
    have kr0 : w1.cell? ⟨w.heap.size + 1, 0, none⟩ = some (.int .i64 0) := cell_later hb (by go_simp)
    have jr0 : w1.frozen? ⟨w.heap.size + 1, 0, none⟩ = false := by rw [(bcell hb).2 _ _ (by first | omega | (simp <;> omega))]; go_simp
    have kr1 : w1.cell? ⟨w.heap.size + 1, 1, none⟩ = some (.int .i64 0) := cell_later hb (by go_simp)
    have jr1 : w1.frozen? ⟨w.heap.size + 1, 1, none⟩ = false := by rw [(bcell hb).2 _ _ (by first | omega | (simp <;> omega))]; go_simp
    have kr2 : w1.cell? ⟨w.heap.size + 1, 2, none⟩ = some (.int .i64 0) := cell_later hb (by go_simp)
    have jr2 : w1.frozen? ⟨w.heap.size + 1, 2, none⟩ = false := by rw [(bcell hb).2 _ _ (by first | omega | (simp <;> omega))]; go_simp
    have kr3 : w1.cell? ⟨w.heap.size + 1, 3, none⟩ = some (.int .i64 0) := cell_later hb (by go_simp)
    have jr3 : w1.frozen? ⟨w.heap.size + 1, 3, none⟩ = false := by rw [(bcell hb).2 _ _ (by first | omega | (simp <;> omega))]; go_simp
    have kr4 : w1.cell? ⟨w.heap.size + 1, 4, none⟩ = some (.int .i64 0) := cell_later hb (by go_simp)
    have jr4 : w1.frozen? ⟨w.heap.size + 1, 4, none⟩ = false := by rw [(bcell hb).2 _ _ (by first | omega | (simp <;> omega))]; go_simp
    have kr5 : w1.cell? ⟨w.heap.size + 1, 5, none⟩ = some (.int .i64 0) := cell_later hb (by go_simp)
    have jr5 : w1.frozen? ⟨w.heap.size + 1, 5, none⟩ = false := by rw [(bcell hb).2 _ _ (by first | omega | (simp <;> omega))]; go_simp
    have kr6 : w1.cell? ⟨w.heap.size + 1, 6, none⟩ = some (.int .i64 0) := cell_later hb (by go_simp)
    have jr6 : w1.frozen? ⟨w.heap.size + 1, 6, none⟩ = false := by rw [(bcell hb).2 _ _ (by first | omega | (simp <;> omega))]; go_simp
    have zm : w.heap.size < w1.heap.size := World.block_lt_of_cell? _ _ km0
    have zr : w.heap.size + 1 < w1.heap.size := World.block_lt_of_cell? _ _ kr0
    have hb0 : Below w.heap.size w w1 := (by repeat (first | with_reducible exact Below.refl _ _ | with_reducible assumption | with_reducible refine Below.setCell ?_ (by first | omega | (simp <;> omega)) _ | with_reducible refine balloc ?_ _ | with_reducible refine Below.drew ?_ | with_reducible refine bstep ?_ (by with_reducible assumption)))
    clear hb
    go_wp2_with fail
    refine Calls.mono (Valid_c m1 m2 m3 m4 m5 m6 m7 _) ?_
    rintro e w2 ⟨rfl, hb⟩
    replace km0 := cell_later hb (cell_al _ km0)
    replace km1 := cell_later hb (cell_al _ km1)
    replace km2 := cell_later hb (cell_al _ km2)
    replace km3 := cell_later hb (cell_al _ km3)
    replace km4 := cell_later hb (cell_al _ km4)
    replace km5 := cell_later hb (cell_al _ km5)
    replace km6 := cell_later hb (cell_al _ km6)
    replace jr0 := fro_later hb (cell_al _ kr0) (fro_al jr0)
    replace kr0 := cell_later hb (cell_al _ kr0)
    replace jr1 := fro_later hb (cell_al _ kr1) (fro_al jr1)
    replace kr1 := cell_later hb (cell_al _ kr1)
    replace jr2 := fro_later hb (cell_al _ kr2) (fro_al jr2)
    replace kr2 := cell_later hb (cell_al _ kr2)
    replace jr3 := fro_later hb (cell_al _ kr3) (fro_al jr3)
    replace kr3 := cell_later hb (cell_al _ kr3)
    replace jr4 := fro_later hb (cell_al _ kr4) (fro_al jr4)
    replace kr4 := cell_later hb (cell_al _ kr4)
    replace jr5 := fro_later hb (cell_al _ kr5) (fro_al jr5)
    replace kr5 := cell_later hb (cell_al _ kr5)
    replace jr6 := fro_later hb (cell_al _ kr6) (fro_al jr6)
    replace kr6 := cell_later hb (cell_al _ kr6)
    have kd0 : w2.cell? ⟨w1.heap.size, 0, none⟩ = some (.int .i64 m1) := cell_later hb (by go_simp)
    have kd1 : w2.cell? ⟨w1.heap.size, 1, none⟩ = some (.int .i64 m2) := cell_later hb (by go_simp)
    have kd2 : w2.cell? ⟨w1.heap.size, 2, none⟩ = some (.int .i64 m3) := cell_later hb (by go_simp)
    have kd3 : w2.cell? ⟨w1.heap.size, 3, none⟩ = some (.int .i64 m4) := cell_later hb (by go_simp)
    have kd4 : w2.cell? ⟨w1.heap.size, 4, none⟩ = some (.int .i64 m5) := cell_later hb (by go_simp)
    have kd5 : w2.cell? ⟨w1.heap.size, 5, none⟩ = some (.int .i64 m6) := cell_later hb (by go_simp)
    have kd6 : w2.cell? ⟨w1.heap.size, 6, none⟩ = some (.int .i64 m7) := cell_later hb (by go_simp)
    replace zm : w.heap.size < w2.heap.size := World.block_lt_of_cell? _ _ km0
    replace zr : w.heap.size + 1 < w2.heap.size := World.block_lt_of_cell? _ _ kr0
    have zd : w1.heap.size < w2.heap.size := World.block_lt_of_cell? _ _ kd0
    replace hb0 : Below w.heap.size w w2 := (by repeat (first | with_reducible exact Below.refl _ _ | with_reducible assumption | with_reducible refine Below.setCell ?_ (by first | omega | (simp <;> omega)) _ | with_reducible refine balloc ?_ _ | with_reducible refine Below.drew ?_ | with_reducible refine bstep ?_ (by with_reducible assumption)))
    clear hb
    rw [h1]
    go_wp2
    refine bodyPost_ret ?_ rfl ⟨rfl, (by repeat (first | with_reducible exact Below.refl _ _ | with_reducible assumption | with_reducible refine Below.setCell ?_ (by first | omega | (simp <;> omega)) _ | with_reducible refine balloc ?_ _ | with_reducible refine Below.drew ?_ | with_reducible refine bstep ?_ (by with_reducible assumption)))⟩
    simp [results, Try.results46, go_sem, selI, erv, h1, kr0, kr1, kr2, kr3, kr4, kr5, kr6]

set_option maxHeartbeats 3200000 in
theorem unshifted_c (m1 m2 m3 m4 m5 m6 m7 b1 b2 b3 b4 : Int) (w : World) (hm3 : -100000 ≤ m3 ∧ m3 ≤ 100000) (hm6 : -100000 ≤ m6 ∧ m6 ≤ 100000) (hm7 : 0 ≤ m7 ∧ m7 ≤ 1000) (hbx : (-1000000 ≤ b1 ∧ b1 ≤ b2 ∧ b2 ≤ 1000000) ∧ (-1000000 ≤ b3 ∧ b3 ≤ b4 ∧ b4 ≤ 1000000)) : Calls Try.prog 64 #[(.agg #[(.int .i64 m1), (.int .i64 m2), (.int .i64 m3), (.int .i64 m4), (.int .i64 m5), (.int .i64 m6), (.int .i64 m7)]), (.agg #[(.int .i64 b1), (.int .i64 b2), (.int .i64 b3), (.int .i64 b4)])] w (Ret w (.agg #[(.int .i64 (b1 - (m3 + m7))), (.int .i64 (b2 - (m3 - m7))), (.int .i64 (b3 - (m6 + m7))), (.int .i64 (b4 - (m6 - m7)))])) := by
  have v0 : vSub b1 b2 (m3 - m7) (m3 + m7) = true := by unfold vSub; rw [Bool.and_eq_true, vE_iff, vE_iff]; omega
  have q0 : rSub b1 b2 (m3 - m7) (m3 + m7) = true := by unfold rSub; rw [vE_iff]; omega
  have S0 := fun w => Sub_c b1 b2 (m3 - m7) (m3 + m7) w
  simp only [v0, q0, selI, selB, erv, cond_true, cond_false, Bool.and_true, Bool.and_false, Bool.true_and, Bool.false_and] at S0
  have v1 : vSub b3 b4 (m6 - m7) (m6 + m7) = true := by unfold vSub; rw [Bool.and_eq_true, vE_iff, vE_iff]; omega
  have q1 : rSub b3 b4 (m6 - m7) (m6 + m7) = true := by unfold rSub; rw [vE_iff]; omega
  have S1 := fun w => Sub_c b3 b4 (m6 - m7) (m6 + m7) w
  simp only [v1, q1, selI, selB, erv, cond_true, cond_false, Bool.and_true, Bool.and_false, Bool.true_and, Bool.false_and] at S1
  go_enter Try.func64, Try.ntmps64
  go_wp2_with fail
  refine Calls.mono (both_shift m1 m2 m3 m4 m5 m6 m7 _ hm3 hm6 hm7) ?_
  rintro e w1 ⟨rfl, hb⟩
  have km0 : w1.cell? ⟨w.heap.size, 0, none⟩ = some (.int .i64 m1) := cell_later hb (by go_simp)
  have km1 : w1.cell? ⟨w.heap.size, 1, none⟩ = some (.int .i64 m2) := cell_later hb (by go_simp)
  have km2 : w1.cell? ⟨w.heap.size, 2, none⟩ = some (.int .i64 m3) := cell_later hb (by go_simp)
  have km3 : w1.cell? ⟨w.heap.size, 3, none⟩ = some (.int .i64 m4) := cell_later hb (by go_simp)
  have km4 : w1.cell? ⟨w.heap.size, 4, none⟩ = some (.int .i64 m5) := cell_later hb (by go_simp)
  have km5 : w1.cell? ⟨w.heap.size, 5, none⟩ = some (.int .i64 m6) := cell_later hb (by go_simp)
  have km6 : w1.cell? ⟨w.heap.size, 6, none⟩ = some (.int .i64 m7) := cell_later hb (by go_simp)
  have kb0 : w1.cell? ⟨w.heap.size + 1, 0, none⟩ = some (.int .i64 b1) := cell_later hb (by go_simp)
  have kb1 : w1.cell? ⟨w.heap.size + 1, 1, none⟩ = some (.int .i64 b2) := cell_later hb (by go_simp)
  have kb2 : w1.cell? ⟨w.heap.size + 1, 2, none⟩ = some (.int .i64 b3) := cell_later hb (by go_simp)
  have kb3 : w1.cell? ⟨w.heap.size + 1, 3, none⟩ = some (.int .i64 b4) := cell_later hb (by go_simp)
  have kr0 : w1.cell? ⟨w.heap.size + 1 + 1, 0, none⟩ = some (.int .i64 0) := cell_later hb (by go_simp)
  have jr0 : w1.frozen? ⟨w.heap.size + 1 + 1, 0, none⟩ = false := by rw [(bcell hb).2 _ _ (by first | omega | (simp <;> omega))]; go_simp
  have kr1 : w1.cell? ⟨w.heap.size + 1 + 1, 1, none⟩ = some (.int .i64 0) := cell_later hb (by go_simp)
  have jr1 : w1.frozen? ⟨w.heap.size + 1 + 1, 1, none⟩ = false := by rw [(bcell hb).2 _ _ (by first | omega | (simp <;> omega))]; go_simp
  have kr2 : w1.cell? ⟨w.heap.size + 1 + 1, 2, none⟩ = some (.int .i64 0) := cell_later hb (by go_simp)
  have jr2 : w1.frozen? ⟨w.heap.size + 1 + 1, 2, none⟩ = false := by rw [(bcell hb).2 _ _ (by first | omega | (simp <;> omega))]; go_simp
  have kr3 : w1.cell? ⟨w.heap.size + 1 + 1, 3, none⟩ = some (.int .i64 0) := cell_later hb (by go_simp)
  have jr3 : w1.frozen? ⟨w.heap.size + 1 + 1, 3, none⟩ = false := by rw [(bcell hb).2 _ _ (by first | omega | (simp <;> omega))]; go_simp
  have zm : w.heap.size < w1.heap.size := World.block_lt_of_cell? _ _ km0
  have zb : w.heap.size + 1 < w1.heap.size := World.block_lt_of_cell? _ _ kb0
  have zr : w.heap.size + 1 + 1 < w1.heap.size := World.block_lt_of_cell? _ _ kr0
  have hb0 : Below w.heap.size w w1 := (by repeat (first | with_reducible exact Below.refl _ _ | with_reducible assumption | with_reducible refine Below.setCell ?_ (by first | omega | (simp <;> omega)) _ | with_reducible refine balloc ?_ _ | with_reducible refine Below.drew ?_ | with_reducible refine bstep ?_ (by with_reducible assumption)))
  clear hb
  go_wp2_with fail
  refine Calls.mono (S0 _) ?_
  rintro e w2 ⟨rfl, hb⟩
  replace km0 := cell_later hb (cell_al _ (cell_al _ km0))
  replace km1 := cell_later hb (cell_al _ (cell_al _ km1))
  replace km2 := cell_later hb (cell_al _ (cell_al _ km2))
  replace km3 := cell_later hb (cell_al _ (cell_al _ km3))
  replace km4 := cell_later hb (cell_al _ (cell_al _ km4))
  replace km5 := cell_later hb (cell_al _ (cell_al _ km5))
  replace km6 := cell_later hb (cell_al _ (cell_al _ km6))
  replace kb0 := cell_later hb (cell_al _ (cell_al _ kb0))
  replace kb1 := cell_later hb (cell_al _ (cell_al _ kb1))
  replace kb2 := cell_later hb (cell_al _ (cell_al _ kb2))
  replace kb3 := cell_later hb (cell_al _ (cell_al _ kb3))
  replace jr0 := fro_later hb (cell_al _ (cell_al _ kr0)) (fro_al (fro_al jr0))
  replace kr0 := cell_later hb (cell_al _ (cell_al _ kr0))
  replace jr1 := fro_later hb (cell_al _ (cell_al _ kr1)) (fro_al (fro_al jr1))
  replace kr1 := cell_later hb (cell_al _ (cell_al _ kr1))
  replace jr2 := fro_later hb (cell_al _ (cell_al _ kr2)) (fro_al (fro_al jr2))
  replace kr2 := cell_later hb (cell_al _ (cell_al _ kr2))
  replace jr3 := fro_later hb (cell_al _ (cell_al _ kr3)) (fro_al (fro_al jr3))
  replace kr3 := cell_later hb (cell_al _ (cell_al _ kr3))
  have kc0 : w2.cell? ⟨w1.heap.size, 0, none⟩ = some (.int .i64 (m3 - m7)) := cell_later hb (by go_simp)
  have kc1 : w2.cell? ⟨w1.heap.size, 1, none⟩ = some (.int .i64 (m3 + m7)) := cell_later hb (by go_simp)
  have kf0 : w2.cell? ⟨w1.heap.size + 1, 0, none⟩ = some (.int .i64 (m6 - m7)) := cell_later hb (by go_simp)
  have kf1 : w2.cell? ⟨w1.heap.size + 1, 1, none⟩ = some (.int .i64 (m6 + m7)) := cell_later hb (by go_simp)
  replace zm : w.heap.size < w2.heap.size := World.block_lt_of_cell? _ _ km0
  replace zb : w.heap.size + 1 < w2.heap.size := World.block_lt_of_cell? _ _ kb0
  replace zr : w.heap.size + 1 + 1 < w2.heap.size := World.block_lt_of_cell? _ _ kr0
  have zc : w1.heap.size < w2.heap.size := World.block_lt_of_cell? _ _ kc0
  have zf : w1.heap.size + 1 < w2.heap.size := World.block_lt_of_cell? _ _ kf0
  replace hb0 : Below w.heap.size w w2 := (by repeat (first | with_reducible exact Below.refl _ _ | with_reducible assumption | with_reducible refine Below.setCell ?_ (by first | omega | (simp <;> omega)) _ | with_reducible refine balloc ?_ _ | with_reducible refine Below.drew ?_ | with_reducible refine bstep ?_ (by with_reducible assumption)))
  clear hb
  go_wp2_with fail
  refine Calls.mono (S1 _) ?_
  rintro e w3 ⟨rfl, hb⟩
  replace km0 := cell_later hb (cell_al _ km0)
  replace km1 := cell_later hb (cell_al _ km1)
  replace km2 := cell_later hb (cell_al _ km2)
  replace km3 := cell_later hb (cell_al _ km3)
  replace km4 := cell_later hb (cell_al _ km4)
  replace km5 := cell_later hb (cell_al _ km5)
  replace km6 := cell_later hb (cell_al _ km6)
  replace kb0 := cell_later hb (cell_al _ kb0)
  replace kb1 := cell_later hb (cell_al _ kb1)
  replace kb2 := cell_later hb (cell_al _ kb2)
  replace kb3 := cell_later hb (cell_al _ kb3)
  replace jr0 := fro_later hb (cell_al _ kr0) (fro_al jr0)
  replace kr0 := cell_later hb (cell_al _ kr0)
  replace jr1 := fro_later hb (cell_al _ kr1) (fro_al jr1)
  replace kr1 := cell_later hb (cell_al _ kr1)
  replace jr2 := fro_later hb (cell_al _ kr2) (fro_al jr2)
  replace kr2 := cell_later hb (cell_al _ kr2)
  replace jr3 := fro_later hb (cell_al _ kr3) (fro_al jr3)
  replace kr3 := cell_later hb (cell_al _ kr3)
  replace kc0 := cell_later hb (cell_al _ kc0)
  replace kc1 := cell_later hb (cell_al _ kc1)
  replace kf0 := cell_later hb (cell_al _ kf0)
  replace kf1 := cell_later hb (cell_al _ kf1)
  have ku0 : w3.cell? ⟨w2.heap.size, 0, none⟩ = some (.int .i64 (b1 - (m3 + m7))) := cell_later hb (by go_simp)
  have ku1 : w3.cell? ⟨w2.heap.size, 1, none⟩ = some (.int .i64 (b2 - (m3 - m7))) := cell_later hb (by go_simp)
  replace zm : w.heap.size < w3.heap.size := World.block_lt_of_cell? _ _ km0
  replace zb : w.heap.size + 1 < w3.heap.size := World.block_lt_of_cell? _ _ kb0
  replace zr : w.heap.size + 1 + 1 < w3.heap.size := World.block_lt_of_cell? _ _ kr0
  replace zc : w1.heap.size < w3.heap.size := World.block_lt_of_cell? _ _ kc0
  replace zf : w1.heap.size + 1 < w3.heap.size := World.block_lt_of_cell? _ _ kf0
  have zu : w2.heap.size < w3.heap.size := World.block_lt_of_cell? _ _ ku0
  replace hb0 : Below w.heap.size w w3 := (by repeat (first | with_reducible exact Below.refl _ _ | with_reducible assumption | with_reducible refine Below.setCell ?_ (by first | omega | (simp <;> omega)) _ | with_reducible refine balloc ?_ _ | with_reducible refine Below.drew ?_ | with_reducible refine bstep ?_ (by with_reducible assumption)))
  clear hb
  go_wp2
  refine bodyPost_ret ?_ rfl ⟨rfl, (by repeat (first | with_reducible exact Below.refl _ _ | with_reducible assumption | with_reducible refine Below.setCell ?_ (by first | omega | (simp <;> omega)) _ | with_reducible refine balloc ?_ _ | with_reducible refine Below.drew ?_ | with_reducible refine bstep ?_ (by with_reducible assumption)))⟩
  simp [results, Try.results64, go_sem, kr0, kr1, kr2, kr3, zr]


end Go.Proofs.Ytlkjpackjjncaaa.Da
