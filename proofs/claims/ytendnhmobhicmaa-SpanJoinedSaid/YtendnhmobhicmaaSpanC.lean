/- SpanC: package span, boxes. -/
import Derived.Test.YtendnhmobhicmaaSpanB
import Derived.Test.YtendnhmobhicmaaRows
import Derived.WalkKit
import Derived.WalkSpells
import Derived.WalkLawsBesides
import Derived.Lib.Hide
import Derived.Deep.QuietTactic
import Derived.BigQuiet
import Derived.RegionTactic
import Derived.ChangeAlike
import Derived.BigRegion
import Derived.Deep.RegionHeld3
import Derived.Deep.RegionWith
import Derived.Outline
namespace Go.Proofs.Ytendnhmobhicmaa
open Go.RowKit

set_option maxHeartbeats 3200000 in
theorem MeetBox_c (a1 a2 a3 a4 b1 b2 b3 b4 : Int) (w : World)  : Calls Try.prog 28 #[(.agg #[(.int .i64 a1), (.int .i64 a2), (.int .i64 a3), (.int .i64 a4)]), (.agg #[(.int .i64 b1), (.int .i64 b2), (.int .i64 b3), (.int .i64 b4)])] w (Ret w (.tuple #[.agg #[(.int .i64 (selI ((vMeetBox a1 a2 a3 a4 b1 b2 b3 b4) && (rMeetBox a1 a2 a3 a4 b1 b2 b3 b4)) (max a1 b1))), (.int .i64 (selI ((vMeetBox a1 a2 a3 a4 b1 b2 b3 b4) && (rMeetBox a1 a2 a3 a4 b1 b2 b3 b4)) (min a2 b2))), (.int .i64 (selI ((vMeetBox a1 a2 a3 a4 b1 b2 b3 b4) && (rMeetBox a1 a2 a3 a4 b1 b2 b3 b4)) (max a3 b3))), (.int .i64 (selI ((vMeetBox a1 a2 a3 a4 b1 b2 b3 b4) && (rMeetBox a1 a2 a3 a4 b1 b2 b3 b4)) (min a4 b4)))], (.int .i64 (erv (vMeetBox a1 a2 a3 a4 b1 b2 b3 b4) (rMeetBox a1 a2 a3 a4 b1 b2 b3 b4) 4))])) := by
  rcases Bool.eq_false_or_eq_true (vB a1 a2 a3 a4) with h1 | h1
  · rcases Bool.eq_false_or_eq_true (vB b1 b2 b3 b4) with h2 | h2
    ·
      have u1 := vB_iff.1 h1
      have u2 := vB_iff.1 h2
      have hv : vB (max a1 b1) (min a2 b2) (max a3 b3) (min a4 b4) = (rM a1 a2 b1 b2 && rM a3 a4 b3 b4) := by rw [Bool.eq_iff_iff, vB_iff, Bool.and_eq_true, rM_iff, rM_iff]; omega
      rcases Bool.eq_false_or_eq_true (rM a1 a2 b1 b2 && rM a3 a4 b3 b4) with h3 | h3
      all_goals
        go_enter Try.func28, Try.ntmps28
        go_wp2_with fail
        refine Calls.mono (validBox_c _ _ _ _ _) ?_
        rintro e w1 ⟨rfl, hb⟩
        have ka0 : w1.cell? ⟨w.heap.size, 0, none⟩ = some (.int .i64 a1) := cell_later hb (by go_simp)
        have ka1 : w1.cell? ⟨w.heap.size, 1, none⟩ = some (.int .i64 a2) := cell_later hb (by go_simp)
        have ka2 : w1.cell? ⟨w.heap.size, 2, none⟩ = some (.int .i64 a3) := cell_later hb (by go_simp)
        have ka3 : w1.cell? ⟨w.heap.size, 3, none⟩ = some (.int .i64 a4) := cell_later hb (by go_simp)
        have kb0 : w1.cell? ⟨w.heap.size + 1, 0, none⟩ = some (.int .i64 b1) := cell_later hb (by go_simp)
        have kb1 : w1.cell? ⟨w.heap.size + 1, 1, none⟩ = some (.int .i64 b2) := cell_later hb (by go_simp)
        have kb2 : w1.cell? ⟨w.heap.size + 1, 2, none⟩ = some (.int .i64 b3) := cell_later hb (by go_simp)
        have kb3 : w1.cell? ⟨w.heap.size + 1, 3, none⟩ = some (.int .i64 b4) := cell_later hb (by go_simp)
        have kr0 : w1.cell? ⟨w.heap.size + 1 + 1, 0, none⟩ = some (.int .i64 0) := cell_later hb (by go_simp)
        have jr0 : w1.frozen? ⟨w.heap.size + 1 + 1, 0, none⟩ = false := by rw [(bcell hb).2 _ _ (by first | omega | (simp <;> omega))]; go_simp
        have kr1 : w1.cell? ⟨w.heap.size + 1 + 1, 1, none⟩ = some (.int .i64 0) := cell_later hb (by go_simp)
        have jr1 : w1.frozen? ⟨w.heap.size + 1 + 1, 1, none⟩ = false := by rw [(bcell hb).2 _ _ (by first | omega | (simp <;> omega))]; go_simp
        have kr2 : w1.cell? ⟨w.heap.size + 1 + 1, 2, none⟩ = some (.int .i64 0) := cell_later hb (by go_simp)
        have jr2 : w1.frozen? ⟨w.heap.size + 1 + 1, 2, none⟩ = false := by rw [(bcell hb).2 _ _ (by first | omega | (simp <;> omega))]; go_simp
        have kr3 : w1.cell? ⟨w.heap.size + 1 + 1, 3, none⟩ = some (.int .i64 0) := cell_later hb (by go_simp)
        have jr3 : w1.frozen? ⟨w.heap.size + 1 + 1, 3, none⟩ = false := by rw [(bcell hb).2 _ _ (by first | omega | (simp <;> omega))]; go_simp
        have za : w.heap.size < w1.heap.size := World.block_lt_of_cell? _ _ ka0
        have zb : w.heap.size + 1 < w1.heap.size := World.block_lt_of_cell? _ _ kb0
        have zr : w.heap.size + 1 + 1 < w1.heap.size := World.block_lt_of_cell? _ _ kr0
        have hb0 : Below w.heap.size w w1 := (by repeat (first | exact Below.refl _ _ | assumption | refine bstep ?_ (by assumption) | refine Below.drew ?_ | refine balloc ?_ _ | refine Below.setCell ?_ (by first | omega | (simp <;> omega)) _))
        clear hb
        go_wp2_with fail
        refine Calls.mono (validBox_c _ _ _ _ _) ?_
        rintro e w2 ⟨rfl, hb⟩
        replace ka0 : w2.cell? ⟨w.heap.size, 0, none⟩ = some (.int .i64 a1) := cell_later hb (by first | exact ka0 | exact cell_al _ ka0 | exact cell_al _ (cell_al _ ka0) | go_simp)
        replace ka1 : w2.cell? ⟨w.heap.size, 1, none⟩ = some (.int .i64 a2) := cell_later hb (by first | exact ka1 | exact cell_al _ ka1 | exact cell_al _ (cell_al _ ka1) | go_simp)
        replace ka2 : w2.cell? ⟨w.heap.size, 2, none⟩ = some (.int .i64 a3) := cell_later hb (by first | exact ka2 | exact cell_al _ ka2 | exact cell_al _ (cell_al _ ka2) | go_simp)
        replace ka3 : w2.cell? ⟨w.heap.size, 3, none⟩ = some (.int .i64 a4) := cell_later hb (by first | exact ka3 | exact cell_al _ ka3 | exact cell_al _ (cell_al _ ka3) | go_simp)
        replace kb0 : w2.cell? ⟨w.heap.size + 1, 0, none⟩ = some (.int .i64 b1) := cell_later hb (by first | exact kb0 | exact cell_al _ kb0 | exact cell_al _ (cell_al _ kb0) | go_simp)
        replace kb1 : w2.cell? ⟨w.heap.size + 1, 1, none⟩ = some (.int .i64 b2) := cell_later hb (by first | exact kb1 | exact cell_al _ kb1 | exact cell_al _ (cell_al _ kb1) | go_simp)
        replace kb2 : w2.cell? ⟨w.heap.size + 1, 2, none⟩ = some (.int .i64 b3) := cell_later hb (by first | exact kb2 | exact cell_al _ kb2 | exact cell_al _ (cell_al _ kb2) | go_simp)
        replace kb3 : w2.cell? ⟨w.heap.size + 1, 3, none⟩ = some (.int .i64 b4) := cell_later hb (by first | exact kb3 | exact cell_al _ kb3 | exact cell_al _ (cell_al _ kb3) | go_simp)
        replace kr0 : w2.cell? ⟨w.heap.size + 1 + 1, 0, none⟩ = some (.int .i64 0) := cell_later hb (by first | exact kr0 | exact cell_al _ kr0 | exact cell_al _ (cell_al _ kr0) | go_simp)
        replace jr0 : w2.frozen? ⟨w.heap.size + 1 + 1, 0, none⟩ = false := by rw [(bcell hb).2 _ _ (by first | omega | (simp <;> omega))]; first | exact jr0 | go_simp
        replace kr1 : w2.cell? ⟨w.heap.size + 1 + 1, 1, none⟩ = some (.int .i64 0) := cell_later hb (by first | exact kr1 | exact cell_al _ kr1 | exact cell_al _ (cell_al _ kr1) | go_simp)
        replace jr1 : w2.frozen? ⟨w.heap.size + 1 + 1, 1, none⟩ = false := by rw [(bcell hb).2 _ _ (by first | omega | (simp <;> omega))]; first | exact jr1 | go_simp
        replace kr2 : w2.cell? ⟨w.heap.size + 1 + 1, 2, none⟩ = some (.int .i64 0) := cell_later hb (by first | exact kr2 | exact cell_al _ kr2 | exact cell_al _ (cell_al _ kr2) | go_simp)
        replace jr2 : w2.frozen? ⟨w.heap.size + 1 + 1, 2, none⟩ = false := by rw [(bcell hb).2 _ _ (by first | omega | (simp <;> omega))]; first | exact jr2 | go_simp
        replace kr3 : w2.cell? ⟨w.heap.size + 1 + 1, 3, none⟩ = some (.int .i64 0) := cell_later hb (by first | exact kr3 | exact cell_al _ kr3 | exact cell_al _ (cell_al _ kr3) | go_simp)
        replace jr3 : w2.frozen? ⟨w.heap.size + 1 + 1, 3, none⟩ = false := by rw [(bcell hb).2 _ _ (by first | omega | (simp <;> omega))]; first | exact jr3 | go_simp
        replace za : w.heap.size < w2.heap.size := World.block_lt_of_cell? _ _ ka0
        replace zb : w.heap.size + 1 < w2.heap.size := World.block_lt_of_cell? _ _ kb0
        replace zr : w.heap.size + 1 + 1 < w2.heap.size := World.block_lt_of_cell? _ _ kr0
        replace hb0 : Below w.heap.size w w2 := (by repeat (first | exact Below.refl _ _ | assumption | refine bstep ?_ (by assumption) | refine Below.drew ?_ | refine balloc ?_ _ | refine Below.setCell ?_ (by first | omega | (simp <;> omega)) _))
        clear hb
        go_wp2_with fail
        refine Calls.mono (meetBox_c _ _ _ _ _ _ _ _ _) ?_
        rintro e w3 ⟨rfl, hb⟩
        replace ka0 : w3.cell? ⟨w.heap.size, 0, none⟩ = some (.int .i64 a1) := cell_later hb (by first | exact ka0 | exact cell_al _ ka0 | exact cell_al _ (cell_al _ ka0) | go_simp)
        replace ka1 : w3.cell? ⟨w.heap.size, 1, none⟩ = some (.int .i64 a2) := cell_later hb (by first | exact ka1 | exact cell_al _ ka1 | exact cell_al _ (cell_al _ ka1) | go_simp)
        replace ka2 : w3.cell? ⟨w.heap.size, 2, none⟩ = some (.int .i64 a3) := cell_later hb (by first | exact ka2 | exact cell_al _ ka2 | exact cell_al _ (cell_al _ ka2) | go_simp)
        replace ka3 : w3.cell? ⟨w.heap.size, 3, none⟩ = some (.int .i64 a4) := cell_later hb (by first | exact ka3 | exact cell_al _ ka3 | exact cell_al _ (cell_al _ ka3) | go_simp)
        replace kb0 : w3.cell? ⟨w.heap.size + 1, 0, none⟩ = some (.int .i64 b1) := cell_later hb (by first | exact kb0 | exact cell_al _ kb0 | exact cell_al _ (cell_al _ kb0) | go_simp)
        replace kb1 : w3.cell? ⟨w.heap.size + 1, 1, none⟩ = some (.int .i64 b2) := cell_later hb (by first | exact kb1 | exact cell_al _ kb1 | exact cell_al _ (cell_al _ kb1) | go_simp)
        replace kb2 : w3.cell? ⟨w.heap.size + 1, 2, none⟩ = some (.int .i64 b3) := cell_later hb (by first | exact kb2 | exact cell_al _ kb2 | exact cell_al _ (cell_al _ kb2) | go_simp)
        replace kb3 : w3.cell? ⟨w.heap.size + 1, 3, none⟩ = some (.int .i64 b4) := cell_later hb (by first | exact kb3 | exact cell_al _ kb3 | exact cell_al _ (cell_al _ kb3) | go_simp)
        replace kr0 : w3.cell? ⟨w.heap.size + 1 + 1, 0, none⟩ = some (.int .i64 0) := cell_later hb (by first | exact kr0 | exact cell_al _ kr0 | exact cell_al _ (cell_al _ kr0) | go_simp)
        replace jr0 : w3.frozen? ⟨w.heap.size + 1 + 1, 0, none⟩ = false := by rw [(bcell hb).2 _ _ (by first | omega | (simp <;> omega))]; first | exact jr0 | go_simp
        replace kr1 : w3.cell? ⟨w.heap.size + 1 + 1, 1, none⟩ = some (.int .i64 0) := cell_later hb (by first | exact kr1 | exact cell_al _ kr1 | exact cell_al _ (cell_al _ kr1) | go_simp)
        replace jr1 : w3.frozen? ⟨w.heap.size + 1 + 1, 1, none⟩ = false := by rw [(bcell hb).2 _ _ (by first | omega | (simp <;> omega))]; first | exact jr1 | go_simp
        replace kr2 : w3.cell? ⟨w.heap.size + 1 + 1, 2, none⟩ = some (.int .i64 0) := cell_later hb (by first | exact kr2 | exact cell_al _ kr2 | exact cell_al _ (cell_al _ kr2) | go_simp)
        replace jr2 : w3.frozen? ⟨w.heap.size + 1 + 1, 2, none⟩ = false := by rw [(bcell hb).2 _ _ (by first | omega | (simp <;> omega))]; first | exact jr2 | go_simp
        replace kr3 : w3.cell? ⟨w.heap.size + 1 + 1, 3, none⟩ = some (.int .i64 0) := cell_later hb (by first | exact kr3 | exact cell_al _ kr3 | exact cell_al _ (cell_al _ kr3) | go_simp)
        replace jr3 : w3.frozen? ⟨w.heap.size + 1 + 1, 3, none⟩ = false := by rw [(bcell hb).2 _ _ (by first | omega | (simp <;> omega))]; first | exact jr3 | go_simp
        replace za : w.heap.size < w3.heap.size := World.block_lt_of_cell? _ _ ka0
        replace zb : w.heap.size + 1 < w3.heap.size := World.block_lt_of_cell? _ _ kb0
        replace zr : w.heap.size + 1 + 1 < w3.heap.size := World.block_lt_of_cell? _ _ kr0
        replace hb0 : Below w.heap.size w w3 := (by repeat (first | exact Below.refl _ _ | assumption | refine bstep ?_ (by assumption) | refine Below.drew ?_ | refine balloc ?_ _ | refine Below.setCell ?_ (by first | omega | (simp <;> omega)) _))
        clear hb
        go_wp2_with fail
        refine Calls.mono (validBox_c _ _ _ _ _) ?_
        rintro e w4 ⟨rfl, hb⟩
        replace ka0 : w4.cell? ⟨w.heap.size, 0, none⟩ = some (.int .i64 a1) := cell_later hb (by first | exact ka0 | exact cell_al _ ka0 | exact cell_al _ (cell_al _ ka0) | go_simp)
        replace ka1 : w4.cell? ⟨w.heap.size, 1, none⟩ = some (.int .i64 a2) := cell_later hb (by first | exact ka1 | exact cell_al _ ka1 | exact cell_al _ (cell_al _ ka1) | go_simp)
        replace ka2 : w4.cell? ⟨w.heap.size, 2, none⟩ = some (.int .i64 a3) := cell_later hb (by first | exact ka2 | exact cell_al _ ka2 | exact cell_al _ (cell_al _ ka2) | go_simp)
        replace ka3 : w4.cell? ⟨w.heap.size, 3, none⟩ = some (.int .i64 a4) := cell_later hb (by first | exact ka3 | exact cell_al _ ka3 | exact cell_al _ (cell_al _ ka3) | go_simp)
        replace kb0 : w4.cell? ⟨w.heap.size + 1, 0, none⟩ = some (.int .i64 b1) := cell_later hb (by first | exact kb0 | exact cell_al _ kb0 | exact cell_al _ (cell_al _ kb0) | go_simp)
        replace kb1 : w4.cell? ⟨w.heap.size + 1, 1, none⟩ = some (.int .i64 b2) := cell_later hb (by first | exact kb1 | exact cell_al _ kb1 | exact cell_al _ (cell_al _ kb1) | go_simp)
        replace kb2 : w4.cell? ⟨w.heap.size + 1, 2, none⟩ = some (.int .i64 b3) := cell_later hb (by first | exact kb2 | exact cell_al _ kb2 | exact cell_al _ (cell_al _ kb2) | go_simp)
        replace kb3 : w4.cell? ⟨w.heap.size + 1, 3, none⟩ = some (.int .i64 b4) := cell_later hb (by first | exact kb3 | exact cell_al _ kb3 | exact cell_al _ (cell_al _ kb3) | go_simp)
        replace kr0 : w4.cell? ⟨w.heap.size + 1 + 1, 0, none⟩ = some (.int .i64 0) := cell_later hb (by first | exact kr0 | exact cell_al _ kr0 | exact cell_al _ (cell_al _ kr0) | go_simp)
        replace jr0 : w4.frozen? ⟨w.heap.size + 1 + 1, 0, none⟩ = false := by rw [(bcell hb).2 _ _ (by first | omega | (simp <;> omega))]; first | exact jr0 | go_simp
        replace kr1 : w4.cell? ⟨w.heap.size + 1 + 1, 1, none⟩ = some (.int .i64 0) := cell_later hb (by first | exact kr1 | exact cell_al _ kr1 | exact cell_al _ (cell_al _ kr1) | go_simp)
        replace jr1 : w4.frozen? ⟨w.heap.size + 1 + 1, 1, none⟩ = false := by rw [(bcell hb).2 _ _ (by first | omega | (simp <;> omega))]; first | exact jr1 | go_simp
        replace kr2 : w4.cell? ⟨w.heap.size + 1 + 1, 2, none⟩ = some (.int .i64 0) := cell_later hb (by first | exact kr2 | exact cell_al _ kr2 | exact cell_al _ (cell_al _ kr2) | go_simp)
        replace jr2 : w4.frozen? ⟨w.heap.size + 1 + 1, 2, none⟩ = false := by rw [(bcell hb).2 _ _ (by first | omega | (simp <;> omega))]; first | exact jr2 | go_simp
        replace kr3 : w4.cell? ⟨w.heap.size + 1 + 1, 3, none⟩ = some (.int .i64 0) := cell_later hb (by first | exact kr3 | exact cell_al _ kr3 | exact cell_al _ (cell_al _ kr3) | go_simp)
        replace jr3 : w4.frozen? ⟨w.heap.size + 1 + 1, 3, none⟩ = false := by rw [(bcell hb).2 _ _ (by first | omega | (simp <;> omega))]; first | exact jr3 | go_simp
        have km0 : w4.cell? ⟨w3.heap.size, 0, none⟩ = some (.int .i64 (max a1 b1)) := cell_later hb (by go_simp)
        have km1 : w4.cell? ⟨w3.heap.size, 1, none⟩ = some (.int .i64 (min a2 b2)) := cell_later hb (by go_simp)
        have km2 : w4.cell? ⟨w3.heap.size, 2, none⟩ = some (.int .i64 (max a3 b3)) := cell_later hb (by go_simp)
        have km3 : w4.cell? ⟨w3.heap.size, 3, none⟩ = some (.int .i64 (min a4 b4)) := cell_later hb (by go_simp)
        replace za : w.heap.size < w4.heap.size := World.block_lt_of_cell? _ _ ka0
        replace zb : w.heap.size + 1 < w4.heap.size := World.block_lt_of_cell? _ _ kb0
        replace zr : w.heap.size + 1 + 1 < w4.heap.size := World.block_lt_of_cell? _ _ kr0
        have zm : w3.heap.size < w4.heap.size := World.block_lt_of_cell? _ _ km0
        replace hb0 : Below w.heap.size w w4 := (by repeat (first | exact Below.refl _ _ | assumption | refine bstep ?_ (by assumption) | refine Below.drew ?_ | refine balloc ?_ _ | refine Below.setCell ?_ (by first | omega | (simp <;> omega)) _))
        clear hb
        rw [hv, h3]
        go_wp2
        refine bodyPost_ret ?_ rfl ⟨rfl, (by repeat (first | exact Below.refl _ _ | assumption | refine bstep ?_ (by assumption) | refine Below.drew ?_ | refine balloc ?_ _ | refine Below.setCell ?_ (by first | omega | (simp <;> omega)) _))⟩
        simp [results, Try.results28, go_sem, vMeetBox, rMeetBox, selI, erv, h1, h2, h3, kr0, kr1, kr2, kr3]
    ·
      go_enter Try.func28, Try.ntmps28
      go_wp2_with fail
      refine Calls.mono (validBox_c _ _ _ _ _) ?_
      rintro e w1 ⟨rfl, hb⟩
      have ka0 : w1.cell? ⟨w.heap.size, 0, none⟩ = some (.int .i64 a1) := cell_later hb (by go_simp)
      have ka1 : w1.cell? ⟨w.heap.size, 1, none⟩ = some (.int .i64 a2) := cell_later hb (by go_simp)
      have ka2 : w1.cell? ⟨w.heap.size, 2, none⟩ = some (.int .i64 a3) := cell_later hb (by go_simp)
      have ka3 : w1.cell? ⟨w.heap.size, 3, none⟩ = some (.int .i64 a4) := cell_later hb (by go_simp)
      have kb0 : w1.cell? ⟨w.heap.size + 1, 0, none⟩ = some (.int .i64 b1) := cell_later hb (by go_simp)
      have kb1 : w1.cell? ⟨w.heap.size + 1, 1, none⟩ = some (.int .i64 b2) := cell_later hb (by go_simp)
      have kb2 : w1.cell? ⟨w.heap.size + 1, 2, none⟩ = some (.int .i64 b3) := cell_later hb (by go_simp)
      have kb3 : w1.cell? ⟨w.heap.size + 1, 3, none⟩ = some (.int .i64 b4) := cell_later hb (by go_simp)
      have kr0 : w1.cell? ⟨w.heap.size + 1 + 1, 0, none⟩ = some (.int .i64 0) := cell_later hb (by go_simp)
      have jr0 : w1.frozen? ⟨w.heap.size + 1 + 1, 0, none⟩ = false := by rw [(bcell hb).2 _ _ (by first | omega | (simp <;> omega))]; go_simp
      have kr1 : w1.cell? ⟨w.heap.size + 1 + 1, 1, none⟩ = some (.int .i64 0) := cell_later hb (by go_simp)
      have jr1 : w1.frozen? ⟨w.heap.size + 1 + 1, 1, none⟩ = false := by rw [(bcell hb).2 _ _ (by first | omega | (simp <;> omega))]; go_simp
      have kr2 : w1.cell? ⟨w.heap.size + 1 + 1, 2, none⟩ = some (.int .i64 0) := cell_later hb (by go_simp)
      have jr2 : w1.frozen? ⟨w.heap.size + 1 + 1, 2, none⟩ = false := by rw [(bcell hb).2 _ _ (by first | omega | (simp <;> omega))]; go_simp
      have kr3 : w1.cell? ⟨w.heap.size + 1 + 1, 3, none⟩ = some (.int .i64 0) := cell_later hb (by go_simp)
      have jr3 : w1.frozen? ⟨w.heap.size + 1 + 1, 3, none⟩ = false := by rw [(bcell hb).2 _ _ (by first | omega | (simp <;> omega))]; go_simp
      have za : w.heap.size < w1.heap.size := World.block_lt_of_cell? _ _ ka0
      have zb : w.heap.size + 1 < w1.heap.size := World.block_lt_of_cell? _ _ kb0
      have zr : w.heap.size + 1 + 1 < w1.heap.size := World.block_lt_of_cell? _ _ kr0
      have hb0 : Below w.heap.size w w1 := (by repeat (first | exact Below.refl _ _ | assumption | refine bstep ?_ (by assumption) | refine Below.drew ?_ | refine balloc ?_ _ | refine Below.setCell ?_ (by first | omega | (simp <;> omega)) _))
      clear hb
      go_wp2_with fail
      refine Calls.mono (validBox_c _ _ _ _ _) ?_
      rintro e w2 ⟨rfl, hb⟩
      replace ka0 : w2.cell? ⟨w.heap.size, 0, none⟩ = some (.int .i64 a1) := cell_later hb (by first | exact ka0 | exact cell_al _ ka0 | exact cell_al _ (cell_al _ ka0) | go_simp)
      replace ka1 : w2.cell? ⟨w.heap.size, 1, none⟩ = some (.int .i64 a2) := cell_later hb (by first | exact ka1 | exact cell_al _ ka1 | exact cell_al _ (cell_al _ ka1) | go_simp)
      replace ka2 : w2.cell? ⟨w.heap.size, 2, none⟩ = some (.int .i64 a3) := cell_later hb (by first | exact ka2 | exact cell_al _ ka2 | exact cell_al _ (cell_al _ ka2) | go_simp)
      replace ka3 : w2.cell? ⟨w.heap.size, 3, none⟩ = some (.int .i64 a4) := cell_later hb (by first | exact ka3 | exact cell_al _ ka3 | exact cell_al _ (cell_al _ ka3) | go_simp)
      replace kb0 : w2.cell? ⟨w.heap.size + 1, 0, none⟩ = some (.int .i64 b1) := cell_later hb (by first | exact kb0 | exact cell_al _ kb0 | exact cell_al _ (cell_al _ kb0) | go_simp)
      replace kb1 : w2.cell? ⟨w.heap.size + 1, 1, none⟩ = some (.int .i64 b2) := cell_later hb (by first | exact kb1 | exact cell_al _ kb1 | exact cell_al _ (cell_al _ kb1) | go_simp)
      replace kb2 : w2.cell? ⟨w.heap.size + 1, 2, none⟩ = some (.int .i64 b3) := cell_later hb (by first | exact kb2 | exact cell_al _ kb2 | exact cell_al _ (cell_al _ kb2) | go_simp)
      replace kb3 : w2.cell? ⟨w.heap.size + 1, 3, none⟩ = some (.int .i64 b4) := cell_later hb (by first | exact kb3 | exact cell_al _ kb3 | exact cell_al _ (cell_al _ kb3) | go_simp)
      replace kr0 : w2.cell? ⟨w.heap.size + 1 + 1, 0, none⟩ = some (.int .i64 0) := cell_later hb (by first | exact kr0 | exact cell_al _ kr0 | exact cell_al _ (cell_al _ kr0) | go_simp)
      replace jr0 : w2.frozen? ⟨w.heap.size + 1 + 1, 0, none⟩ = false := by rw [(bcell hb).2 _ _ (by first | omega | (simp <;> omega))]; first | exact jr0 | go_simp
      replace kr1 : w2.cell? ⟨w.heap.size + 1 + 1, 1, none⟩ = some (.int .i64 0) := cell_later hb (by first | exact kr1 | exact cell_al _ kr1 | exact cell_al _ (cell_al _ kr1) | go_simp)
      replace jr1 : w2.frozen? ⟨w.heap.size + 1 + 1, 1, none⟩ = false := by rw [(bcell hb).2 _ _ (by first | omega | (simp <;> omega))]; first | exact jr1 | go_simp
      replace kr2 : w2.cell? ⟨w.heap.size + 1 + 1, 2, none⟩ = some (.int .i64 0) := cell_later hb (by first | exact kr2 | exact cell_al _ kr2 | exact cell_al _ (cell_al _ kr2) | go_simp)
      replace jr2 : w2.frozen? ⟨w.heap.size + 1 + 1, 2, none⟩ = false := by rw [(bcell hb).2 _ _ (by first | omega | (simp <;> omega))]; first | exact jr2 | go_simp
      replace kr3 : w2.cell? ⟨w.heap.size + 1 + 1, 3, none⟩ = some (.int .i64 0) := cell_later hb (by first | exact kr3 | exact cell_al _ kr3 | exact cell_al _ (cell_al _ kr3) | go_simp)
      replace jr3 : w2.frozen? ⟨w.heap.size + 1 + 1, 3, none⟩ = false := by rw [(bcell hb).2 _ _ (by first | omega | (simp <;> omega))]; first | exact jr3 | go_simp
      replace za : w.heap.size < w2.heap.size := World.block_lt_of_cell? _ _ ka0
      replace zb : w.heap.size + 1 < w2.heap.size := World.block_lt_of_cell? _ _ kb0
      replace zr : w.heap.size + 1 + 1 < w2.heap.size := World.block_lt_of_cell? _ _ kr0
      replace hb0 : Below w.heap.size w w2 := (by repeat (first | exact Below.refl _ _ | assumption | refine bstep ?_ (by assumption) | refine Below.drew ?_ | refine balloc ?_ _ | refine Below.setCell ?_ (by first | omega | (simp <;> omega)) _))
      clear hb
      rw [h2]
      go_wp2
      refine bodyPost_ret ?_ rfl ⟨rfl, (by repeat (first | exact Below.refl _ _ | assumption | refine bstep ?_ (by assumption) | refine Below.drew ?_ | refine balloc ?_ _ | refine Below.setCell ?_ (by first | omega | (simp <;> omega)) _))⟩
      simp [results, Try.results28, go_sem, vMeetBox, rMeetBox, selI, erv, h1, h2, kr0, kr1, kr2, kr3]
  ·
    go_enter Try.func28, Try.ntmps28
    go_wp2_with fail
    refine Calls.mono (validBox_c _ _ _ _ _) ?_
    rintro e w1 ⟨rfl, hb⟩
    have ka0 : w1.cell? ⟨w.heap.size, 0, none⟩ = some (.int .i64 a1) := cell_later hb (by go_simp)
    have ka1 : w1.cell? ⟨w.heap.size, 1, none⟩ = some (.int .i64 a2) := cell_later hb (by go_simp)
    have ka2 : w1.cell? ⟨w.heap.size, 2, none⟩ = some (.int .i64 a3) := cell_later hb (by go_simp)
    have ka3 : w1.cell? ⟨w.heap.size, 3, none⟩ = some (.int .i64 a4) := cell_later hb (by go_simp)
    have kb0 : w1.cell? ⟨w.heap.size + 1, 0, none⟩ = some (.int .i64 b1) := cell_later hb (by go_simp)
    have kb1 : w1.cell? ⟨w.heap.size + 1, 1, none⟩ = some (.int .i64 b2) := cell_later hb (by go_simp)
    have kb2 : w1.cell? ⟨w.heap.size + 1, 2, none⟩ = some (.int .i64 b3) := cell_later hb (by go_simp)
    have kb3 : w1.cell? ⟨w.heap.size + 1, 3, none⟩ = some (.int .i64 b4) := cell_later hb (by go_simp)
    have kr0 : w1.cell? ⟨w.heap.size + 1 + 1, 0, none⟩ = some (.int .i64 0) := cell_later hb (by go_simp)
    have jr0 : w1.frozen? ⟨w.heap.size + 1 + 1, 0, none⟩ = false := by rw [(bcell hb).2 _ _ (by first | omega | (simp <;> omega))]; go_simp
    have kr1 : w1.cell? ⟨w.heap.size + 1 + 1, 1, none⟩ = some (.int .i64 0) := cell_later hb (by go_simp)
    have jr1 : w1.frozen? ⟨w.heap.size + 1 + 1, 1, none⟩ = false := by rw [(bcell hb).2 _ _ (by first | omega | (simp <;> omega))]; go_simp
    have kr2 : w1.cell? ⟨w.heap.size + 1 + 1, 2, none⟩ = some (.int .i64 0) := cell_later hb (by go_simp)
    have jr2 : w1.frozen? ⟨w.heap.size + 1 + 1, 2, none⟩ = false := by rw [(bcell hb).2 _ _ (by first | omega | (simp <;> omega))]; go_simp
    have kr3 : w1.cell? ⟨w.heap.size + 1 + 1, 3, none⟩ = some (.int .i64 0) := cell_later hb (by go_simp)
    have jr3 : w1.frozen? ⟨w.heap.size + 1 + 1, 3, none⟩ = false := by rw [(bcell hb).2 _ _ (by first | omega | (simp <;> omega))]; go_simp
    have za : w.heap.size < w1.heap.size := World.block_lt_of_cell? _ _ ka0
    have zb : w.heap.size + 1 < w1.heap.size := World.block_lt_of_cell? _ _ kb0
    have zr : w.heap.size + 1 + 1 < w1.heap.size := World.block_lt_of_cell? _ _ kr0
    have hb0 : Below w.heap.size w w1 := (by repeat (first | exact Below.refl _ _ | assumption | refine bstep ?_ (by assumption) | refine Below.drew ?_ | refine balloc ?_ _ | refine Below.setCell ?_ (by first | omega | (simp <;> omega)) _))
    clear hb
    rw [h1]
    go_wp2
    refine bodyPost_ret ?_ rfl ⟨rfl, (by repeat (first | exact Below.refl _ _ | assumption | refine bstep ?_ (by assumption) | refine Below.drew ?_ | refine balloc ?_ _ | refine Below.setCell ?_ (by first | omega | (simp <;> omega)) _))⟩
    simp [results, Try.results28, go_sem, vMeetBox, rMeetBox, selI, erv, h1, kr0, kr1, kr2, kr3]

set_option maxHeartbeats 3200000 in
theorem JoinBox_c (a1 a2 a3 a4 b1 b2 b3 b4 : Int) (w : World)  : Calls Try.prog 30 #[(.agg #[(.int .i64 a1), (.int .i64 a2), (.int .i64 a3), (.int .i64 a4)]), (.agg #[(.int .i64 b1), (.int .i64 b2), (.int .i64 b3), (.int .i64 b4)])] w (Ret w (.tuple #[.agg #[(.int .i64 (selI (vJoinBox a1 a2 a3 a4 b1 b2 b3 b4) (min a1 b1))), (.int .i64 (selI (vJoinBox a1 a2 a3 a4 b1 b2 b3 b4) (max a2 b2))), (.int .i64 (selI (vJoinBox a1 a2 a3 a4 b1 b2 b3 b4) (min a3 b3))), (.int .i64 (selI (vJoinBox a1 a2 a3 a4 b1 b2 b3 b4) (max a4 b4)))], (.int .i64 (erv (vJoinBox a1 a2 a3 a4 b1 b2 b3 b4) true 4))])) := by
  rcases Bool.eq_false_or_eq_true (vB a1 a2 a3 a4) with h1 | h1
  · rcases Bool.eq_false_or_eq_true (vB b1 b2 b3 b4) with h2 | h2
    ·
      go_enter Try.func30, Try.ntmps30
      go_wp2_with fail
      refine Calls.mono (validBox_c _ _ _ _ _) ?_
      rintro e w1 ⟨rfl, hb⟩
      have ka0 : w1.cell? ⟨w.heap.size, 0, none⟩ = some (.int .i64 a1) := cell_later hb (by go_simp)
      have ka1 : w1.cell? ⟨w.heap.size, 1, none⟩ = some (.int .i64 a2) := cell_later hb (by go_simp)
      have ka2 : w1.cell? ⟨w.heap.size, 2, none⟩ = some (.int .i64 a3) := cell_later hb (by go_simp)
      have ka3 : w1.cell? ⟨w.heap.size, 3, none⟩ = some (.int .i64 a4) := cell_later hb (by go_simp)
      have kb0 : w1.cell? ⟨w.heap.size + 1, 0, none⟩ = some (.int .i64 b1) := cell_later hb (by go_simp)
      have kb1 : w1.cell? ⟨w.heap.size + 1, 1, none⟩ = some (.int .i64 b2) := cell_later hb (by go_simp)
      have kb2 : w1.cell? ⟨w.heap.size + 1, 2, none⟩ = some (.int .i64 b3) := cell_later hb (by go_simp)
      have kb3 : w1.cell? ⟨w.heap.size + 1, 3, none⟩ = some (.int .i64 b4) := cell_later hb (by go_simp)
      have kr0 : w1.cell? ⟨w.heap.size + 1 + 1, 0, none⟩ = some (.int .i64 0) := cell_later hb (by go_simp)
      have jr0 : w1.frozen? ⟨w.heap.size + 1 + 1, 0, none⟩ = false := by rw [(bcell hb).2 _ _ (by first | omega | (simp <;> omega))]; go_simp
      have kr1 : w1.cell? ⟨w.heap.size + 1 + 1, 1, none⟩ = some (.int .i64 0) := cell_later hb (by go_simp)
      have jr1 : w1.frozen? ⟨w.heap.size + 1 + 1, 1, none⟩ = false := by rw [(bcell hb).2 _ _ (by first | omega | (simp <;> omega))]; go_simp
      have kr2 : w1.cell? ⟨w.heap.size + 1 + 1, 2, none⟩ = some (.int .i64 0) := cell_later hb (by go_simp)
      have jr2 : w1.frozen? ⟨w.heap.size + 1 + 1, 2, none⟩ = false := by rw [(bcell hb).2 _ _ (by first | omega | (simp <;> omega))]; go_simp
      have kr3 : w1.cell? ⟨w.heap.size + 1 + 1, 3, none⟩ = some (.int .i64 0) := cell_later hb (by go_simp)
      have jr3 : w1.frozen? ⟨w.heap.size + 1 + 1, 3, none⟩ = false := by rw [(bcell hb).2 _ _ (by first | omega | (simp <;> omega))]; go_simp
      have za : w.heap.size < w1.heap.size := World.block_lt_of_cell? _ _ ka0
      have zb : w.heap.size + 1 < w1.heap.size := World.block_lt_of_cell? _ _ kb0
      have zr : w.heap.size + 1 + 1 < w1.heap.size := World.block_lt_of_cell? _ _ kr0
      have hb0 : Below w.heap.size w w1 := (by repeat (first | exact Below.refl _ _ | assumption | refine bstep ?_ (by assumption) | refine Below.drew ?_ | refine balloc ?_ _ | refine Below.setCell ?_ (by first | omega | (simp <;> omega)) _))
      clear hb
      go_wp2_with fail
      refine Calls.mono (validBox_c _ _ _ _ _) ?_
      rintro e w2 ⟨rfl, hb⟩
      replace ka0 : w2.cell? ⟨w.heap.size, 0, none⟩ = some (.int .i64 a1) := cell_later hb (by first | exact ka0 | exact cell_al _ ka0 | exact cell_al _ (cell_al _ ka0) | go_simp)
      replace ka1 : w2.cell? ⟨w.heap.size, 1, none⟩ = some (.int .i64 a2) := cell_later hb (by first | exact ka1 | exact cell_al _ ka1 | exact cell_al _ (cell_al _ ka1) | go_simp)
      replace ka2 : w2.cell? ⟨w.heap.size, 2, none⟩ = some (.int .i64 a3) := cell_later hb (by first | exact ka2 | exact cell_al _ ka2 | exact cell_al _ (cell_al _ ka2) | go_simp)
      replace ka3 : w2.cell? ⟨w.heap.size, 3, none⟩ = some (.int .i64 a4) := cell_later hb (by first | exact ka3 | exact cell_al _ ka3 | exact cell_al _ (cell_al _ ka3) | go_simp)
      replace kb0 : w2.cell? ⟨w.heap.size + 1, 0, none⟩ = some (.int .i64 b1) := cell_later hb (by first | exact kb0 | exact cell_al _ kb0 | exact cell_al _ (cell_al _ kb0) | go_simp)
      replace kb1 : w2.cell? ⟨w.heap.size + 1, 1, none⟩ = some (.int .i64 b2) := cell_later hb (by first | exact kb1 | exact cell_al _ kb1 | exact cell_al _ (cell_al _ kb1) | go_simp)
      replace kb2 : w2.cell? ⟨w.heap.size + 1, 2, none⟩ = some (.int .i64 b3) := cell_later hb (by first | exact kb2 | exact cell_al _ kb2 | exact cell_al _ (cell_al _ kb2) | go_simp)
      replace kb3 : w2.cell? ⟨w.heap.size + 1, 3, none⟩ = some (.int .i64 b4) := cell_later hb (by first | exact kb3 | exact cell_al _ kb3 | exact cell_al _ (cell_al _ kb3) | go_simp)
      replace kr0 : w2.cell? ⟨w.heap.size + 1 + 1, 0, none⟩ = some (.int .i64 0) := cell_later hb (by first | exact kr0 | exact cell_al _ kr0 | exact cell_al _ (cell_al _ kr0) | go_simp)
      replace jr0 : w2.frozen? ⟨w.heap.size + 1 + 1, 0, none⟩ = false := by rw [(bcell hb).2 _ _ (by first | omega | (simp <;> omega))]; first | exact jr0 | go_simp
      replace kr1 : w2.cell? ⟨w.heap.size + 1 + 1, 1, none⟩ = some (.int .i64 0) := cell_later hb (by first | exact kr1 | exact cell_al _ kr1 | exact cell_al _ (cell_al _ kr1) | go_simp)
      replace jr1 : w2.frozen? ⟨w.heap.size + 1 + 1, 1, none⟩ = false := by rw [(bcell hb).2 _ _ (by first | omega | (simp <;> omega))]; first | exact jr1 | go_simp
      replace kr2 : w2.cell? ⟨w.heap.size + 1 + 1, 2, none⟩ = some (.int .i64 0) := cell_later hb (by first | exact kr2 | exact cell_al _ kr2 | exact cell_al _ (cell_al _ kr2) | go_simp)
      replace jr2 : w2.frozen? ⟨w.heap.size + 1 + 1, 2, none⟩ = false := by rw [(bcell hb).2 _ _ (by first | omega | (simp <;> omega))]; first | exact jr2 | go_simp
      replace kr3 : w2.cell? ⟨w.heap.size + 1 + 1, 3, none⟩ = some (.int .i64 0) := cell_later hb (by first | exact kr3 | exact cell_al _ kr3 | exact cell_al _ (cell_al _ kr3) | go_simp)
      replace jr3 : w2.frozen? ⟨w.heap.size + 1 + 1, 3, none⟩ = false := by rw [(bcell hb).2 _ _ (by first | omega | (simp <;> omega))]; first | exact jr3 | go_simp
      replace za : w.heap.size < w2.heap.size := World.block_lt_of_cell? _ _ ka0
      replace zb : w.heap.size + 1 < w2.heap.size := World.block_lt_of_cell? _ _ kb0
      replace zr : w.heap.size + 1 + 1 < w2.heap.size := World.block_lt_of_cell? _ _ kr0
      replace hb0 : Below w.heap.size w w2 := (by repeat (first | exact Below.refl _ _ | assumption | refine bstep ?_ (by assumption) | refine Below.drew ?_ | refine balloc ?_ _ | refine Below.setCell ?_ (by first | omega | (simp <;> omega)) _))
      clear hb
      go_wp2_with fail
      go_region_held3 (fun w' => w'.cell? ⟨w.heap.size, 0, none⟩ = some (.int .i64 a1) ∧ w'.cell? ⟨w.heap.size, 1, none⟩ = some (.int .i64 a2) ∧ w'.cell? ⟨w.heap.size, 2, none⟩ = some (.int .i64 a3) ∧ w'.cell? ⟨w.heap.size, 3, none⟩ = some (.int .i64 a4) ∧ w'.cell? ⟨w.heap.size + 1, 0, none⟩ = some (.int .i64 b1) ∧ w'.cell? ⟨w.heap.size + 1, 1, none⟩ = some (.int .i64 b2) ∧ w'.cell? ⟨w.heap.size + 1, 2, none⟩ = some (.int .i64 b3) ∧ w'.cell? ⟨w.heap.size + 1, 3, none⟩ = some (.int .i64 b4)) (first | (go_keep; done) | ((repeat' apply And.intro) <;> go_simp)) (first | (go_at_call 50; refine Calls.mono (join_c _ _ _ _ _) ?_; rintro e wr ⟨rfl, hb⟩; have ka0 : wr.cell? ⟨w.heap.size, 0, none⟩ = some (.int .i64 a1) := cell_later hb (by first | assumption | go_simp); have ka1 : wr.cell? ⟨w.heap.size, 1, none⟩ = some (.int .i64 a2) := cell_later hb (by first | assumption | go_simp); have ka2 : wr.cell? ⟨w.heap.size, 2, none⟩ = some (.int .i64 a3) := cell_later hb (by first | assumption | go_simp); have ka3 : wr.cell? ⟨w.heap.size, 3, none⟩ = some (.int .i64 a4) := cell_later hb (by first | assumption | go_simp); have za : w.heap.size < wr.heap.size := World.block_lt_of_cell? _ _ ka0; have kb0 : wr.cell? ⟨w.heap.size + 1, 0, none⟩ = some (.int .i64 b1) := cell_later hb (by first | assumption | go_simp); have kb1 : wr.cell? ⟨w.heap.size + 1, 1, none⟩ = some (.int .i64 b2) := cell_later hb (by first | assumption | go_simp); have kb2 : wr.cell? ⟨w.heap.size + 1, 2, none⟩ = some (.int .i64 b3) := cell_later hb (by first | assumption | go_simp); have kb3 : wr.cell? ⟨w.heap.size + 1, 3, none⟩ = some (.int .i64 b4) := cell_later hb (by first | assumption | go_simp); have zb : w.heap.size + 1 < wr.heap.size := World.block_lt_of_cell? _ _ kb0; have kr0 : wr.cell? ⟨w.heap.size + 1 + 1, 0, none⟩ = some (.int .i64 0) := cell_later hb (by first | assumption | go_simp); have jr0 : wr.frozen? ⟨w.heap.size + 1 + 1, 0, none⟩ = false := (by rw [(bcell hb).2 _ _ (by first | omega | (simp <;> omega))]; first | assumption | go_simp); have kr1 : wr.cell? ⟨w.heap.size + 1 + 1, 1, none⟩ = some (.int .i64 0) := cell_later hb (by first | assumption | go_simp); have jr1 : wr.frozen? ⟨w.heap.size + 1 + 1, 1, none⟩ = false := (by rw [(bcell hb).2 _ _ (by first | omega | (simp <;> omega))]; first | assumption | go_simp); have kr2 : wr.cell? ⟨w.heap.size + 1 + 1, 2, none⟩ = some (.int .i64 0) := cell_later hb (by first | assumption | go_simp); have jr2 : wr.frozen? ⟨w.heap.size + 1 + 1, 2, none⟩ = false := (by rw [(bcell hb).2 _ _ (by first | omega | (simp <;> omega))]; first | assumption | go_simp); have kr3 : wr.cell? ⟨w.heap.size + 1 + 1, 3, none⟩ = some (.int .i64 0) := cell_later hb (by first | assumption | go_simp); have jr3 : wr.frozen? ⟨w.heap.size + 1 + 1, 3, none⟩ = false := (by rw [(bcell hb).2 _ _ (by first | omega | (simp <;> omega))]; first | assumption | go_simp); have zr : w.heap.size + 1 + 1 < wr.heap.size := World.block_lt_of_cell? _ _ kr0; have hb0 : Below w.heap.size w wr := (by repeat (first | exact Below.refl _ _ | assumption | refine bstep ?_ (by assumption) | refine Below.drew ?_ | refine balloc ?_ _ | refine Below.setCell ?_ (by first | omega | (simp <;> omega)) _)); clear hb))
      go_wp2
      refine bodyPost_ret ?_ rfl ⟨rfl, (by repeat (first | exact Below.refl _ _ | assumption | refine bstep ?_ (by assumption) | refine Below.drew ?_ | refine balloc ?_ _ | refine Below.setCell ?_ (by first | omega | (simp <;> omega)) _))⟩
      simp [results, Try.results30, go_sem, vJoinBox, selI, erv, h1, h2, kr0, kr1, kr2, kr3]
    ·
      go_enter Try.func30, Try.ntmps30
      go_wp2_with fail
      refine Calls.mono (validBox_c _ _ _ _ _) ?_
      rintro e w1 ⟨rfl, hb⟩
      have ka0 : w1.cell? ⟨w.heap.size, 0, none⟩ = some (.int .i64 a1) := cell_later hb (by go_simp)
      have ka1 : w1.cell? ⟨w.heap.size, 1, none⟩ = some (.int .i64 a2) := cell_later hb (by go_simp)
      have ka2 : w1.cell? ⟨w.heap.size, 2, none⟩ = some (.int .i64 a3) := cell_later hb (by go_simp)
      have ka3 : w1.cell? ⟨w.heap.size, 3, none⟩ = some (.int .i64 a4) := cell_later hb (by go_simp)
      have kb0 : w1.cell? ⟨w.heap.size + 1, 0, none⟩ = some (.int .i64 b1) := cell_later hb (by go_simp)
      have kb1 : w1.cell? ⟨w.heap.size + 1, 1, none⟩ = some (.int .i64 b2) := cell_later hb (by go_simp)
      have kb2 : w1.cell? ⟨w.heap.size + 1, 2, none⟩ = some (.int .i64 b3) := cell_later hb (by go_simp)
      have kb3 : w1.cell? ⟨w.heap.size + 1, 3, none⟩ = some (.int .i64 b4) := cell_later hb (by go_simp)
      have kr0 : w1.cell? ⟨w.heap.size + 1 + 1, 0, none⟩ = some (.int .i64 0) := cell_later hb (by go_simp)
      have jr0 : w1.frozen? ⟨w.heap.size + 1 + 1, 0, none⟩ = false := by rw [(bcell hb).2 _ _ (by first | omega | (simp <;> omega))]; go_simp
      have kr1 : w1.cell? ⟨w.heap.size + 1 + 1, 1, none⟩ = some (.int .i64 0) := cell_later hb (by go_simp)
      have jr1 : w1.frozen? ⟨w.heap.size + 1 + 1, 1, none⟩ = false := by rw [(bcell hb).2 _ _ (by first | omega | (simp <;> omega))]; go_simp
      have kr2 : w1.cell? ⟨w.heap.size + 1 + 1, 2, none⟩ = some (.int .i64 0) := cell_later hb (by go_simp)
      have jr2 : w1.frozen? ⟨w.heap.size + 1 + 1, 2, none⟩ = false := by rw [(bcell hb).2 _ _ (by first | omega | (simp <;> omega))]; go_simp
      have kr3 : w1.cell? ⟨w.heap.size + 1 + 1, 3, none⟩ = some (.int .i64 0) := cell_later hb (by go_simp)
      have jr3 : w1.frozen? ⟨w.heap.size + 1 + 1, 3, none⟩ = false := by rw [(bcell hb).2 _ _ (by first | omega | (simp <;> omega))]; go_simp
      have za : w.heap.size < w1.heap.size := World.block_lt_of_cell? _ _ ka0
      have zb : w.heap.size + 1 < w1.heap.size := World.block_lt_of_cell? _ _ kb0
      have zr : w.heap.size + 1 + 1 < w1.heap.size := World.block_lt_of_cell? _ _ kr0
      have hb0 : Below w.heap.size w w1 := (by repeat (first | exact Below.refl _ _ | assumption | refine bstep ?_ (by assumption) | refine Below.drew ?_ | refine balloc ?_ _ | refine Below.setCell ?_ (by first | omega | (simp <;> omega)) _))
      clear hb
      go_wp2_with fail
      refine Calls.mono (validBox_c _ _ _ _ _) ?_
      rintro e w2 ⟨rfl, hb⟩
      replace ka0 : w2.cell? ⟨w.heap.size, 0, none⟩ = some (.int .i64 a1) := cell_later hb (by first | exact ka0 | exact cell_al _ ka0 | exact cell_al _ (cell_al _ ka0) | go_simp)
      replace ka1 : w2.cell? ⟨w.heap.size, 1, none⟩ = some (.int .i64 a2) := cell_later hb (by first | exact ka1 | exact cell_al _ ka1 | exact cell_al _ (cell_al _ ka1) | go_simp)
      replace ka2 : w2.cell? ⟨w.heap.size, 2, none⟩ = some (.int .i64 a3) := cell_later hb (by first | exact ka2 | exact cell_al _ ka2 | exact cell_al _ (cell_al _ ka2) | go_simp)
      replace ka3 : w2.cell? ⟨w.heap.size, 3, none⟩ = some (.int .i64 a4) := cell_later hb (by first | exact ka3 | exact cell_al _ ka3 | exact cell_al _ (cell_al _ ka3) | go_simp)
      replace kb0 : w2.cell? ⟨w.heap.size + 1, 0, none⟩ = some (.int .i64 b1) := cell_later hb (by first | exact kb0 | exact cell_al _ kb0 | exact cell_al _ (cell_al _ kb0) | go_simp)
      replace kb1 : w2.cell? ⟨w.heap.size + 1, 1, none⟩ = some (.int .i64 b2) := cell_later hb (by first | exact kb1 | exact cell_al _ kb1 | exact cell_al _ (cell_al _ kb1) | go_simp)
      replace kb2 : w2.cell? ⟨w.heap.size + 1, 2, none⟩ = some (.int .i64 b3) := cell_later hb (by first | exact kb2 | exact cell_al _ kb2 | exact cell_al _ (cell_al _ kb2) | go_simp)
      replace kb3 : w2.cell? ⟨w.heap.size + 1, 3, none⟩ = some (.int .i64 b4) := cell_later hb (by first | exact kb3 | exact cell_al _ kb3 | exact cell_al _ (cell_al _ kb3) | go_simp)
      replace kr0 : w2.cell? ⟨w.heap.size + 1 + 1, 0, none⟩ = some (.int .i64 0) := cell_later hb (by first | exact kr0 | exact cell_al _ kr0 | exact cell_al _ (cell_al _ kr0) | go_simp)
      replace jr0 : w2.frozen? ⟨w.heap.size + 1 + 1, 0, none⟩ = false := by rw [(bcell hb).2 _ _ (by first | omega | (simp <;> omega))]; first | exact jr0 | go_simp
      replace kr1 : w2.cell? ⟨w.heap.size + 1 + 1, 1, none⟩ = some (.int .i64 0) := cell_later hb (by first | exact kr1 | exact cell_al _ kr1 | exact cell_al _ (cell_al _ kr1) | go_simp)
      replace jr1 : w2.frozen? ⟨w.heap.size + 1 + 1, 1, none⟩ = false := by rw [(bcell hb).2 _ _ (by first | omega | (simp <;> omega))]; first | exact jr1 | go_simp
      replace kr2 : w2.cell? ⟨w.heap.size + 1 + 1, 2, none⟩ = some (.int .i64 0) := cell_later hb (by first | exact kr2 | exact cell_al _ kr2 | exact cell_al _ (cell_al _ kr2) | go_simp)
      replace jr2 : w2.frozen? ⟨w.heap.size + 1 + 1, 2, none⟩ = false := by rw [(bcell hb).2 _ _ (by first | omega | (simp <;> omega))]; first | exact jr2 | go_simp
      replace kr3 : w2.cell? ⟨w.heap.size + 1 + 1, 3, none⟩ = some (.int .i64 0) := cell_later hb (by first | exact kr3 | exact cell_al _ kr3 | exact cell_al _ (cell_al _ kr3) | go_simp)
      replace jr3 : w2.frozen? ⟨w.heap.size + 1 + 1, 3, none⟩ = false := by rw [(bcell hb).2 _ _ (by first | omega | (simp <;> omega))]; first | exact jr3 | go_simp
      replace za : w.heap.size < w2.heap.size := World.block_lt_of_cell? _ _ ka0
      replace zb : w.heap.size + 1 < w2.heap.size := World.block_lt_of_cell? _ _ kb0
      replace zr : w.heap.size + 1 + 1 < w2.heap.size := World.block_lt_of_cell? _ _ kr0
      replace hb0 : Below w.heap.size w w2 := (by repeat (first | exact Below.refl _ _ | assumption | refine bstep ?_ (by assumption) | refine Below.drew ?_ | refine balloc ?_ _ | refine Below.setCell ?_ (by first | omega | (simp <;> omega)) _))
      clear hb
      rw [h2]
      go_wp2
      refine bodyPost_ret ?_ rfl ⟨rfl, (by repeat (first | exact Below.refl _ _ | assumption | refine bstep ?_ (by assumption) | refine Below.drew ?_ | refine balloc ?_ _ | refine Below.setCell ?_ (by first | omega | (simp <;> omega)) _))⟩
      simp [results, Try.results30, go_sem, vJoinBox, selI, erv, h1, h2, kr0, kr1, kr2, kr3]
  ·
    go_enter Try.func30, Try.ntmps30
    go_wp2_with fail
    refine Calls.mono (validBox_c _ _ _ _ _) ?_
    rintro e w1 ⟨rfl, hb⟩
    have ka0 : w1.cell? ⟨w.heap.size, 0, none⟩ = some (.int .i64 a1) := cell_later hb (by go_simp)
    have ka1 : w1.cell? ⟨w.heap.size, 1, none⟩ = some (.int .i64 a2) := cell_later hb (by go_simp)
    have ka2 : w1.cell? ⟨w.heap.size, 2, none⟩ = some (.int .i64 a3) := cell_later hb (by go_simp)
    have ka3 : w1.cell? ⟨w.heap.size, 3, none⟩ = some (.int .i64 a4) := cell_later hb (by go_simp)
    have kb0 : w1.cell? ⟨w.heap.size + 1, 0, none⟩ = some (.int .i64 b1) := cell_later hb (by go_simp)
    have kb1 : w1.cell? ⟨w.heap.size + 1, 1, none⟩ = some (.int .i64 b2) := cell_later hb (by go_simp)
    have kb2 : w1.cell? ⟨w.heap.size + 1, 2, none⟩ = some (.int .i64 b3) := cell_later hb (by go_simp)
    have kb3 : w1.cell? ⟨w.heap.size + 1, 3, none⟩ = some (.int .i64 b4) := cell_later hb (by go_simp)
    have kr0 : w1.cell? ⟨w.heap.size + 1 + 1, 0, none⟩ = some (.int .i64 0) := cell_later hb (by go_simp)
    have jr0 : w1.frozen? ⟨w.heap.size + 1 + 1, 0, none⟩ = false := by rw [(bcell hb).2 _ _ (by first | omega | (simp <;> omega))]; go_simp
    have kr1 : w1.cell? ⟨w.heap.size + 1 + 1, 1, none⟩ = some (.int .i64 0) := cell_later hb (by go_simp)
    have jr1 : w1.frozen? ⟨w.heap.size + 1 + 1, 1, none⟩ = false := by rw [(bcell hb).2 _ _ (by first | omega | (simp <;> omega))]; go_simp
    have kr2 : w1.cell? ⟨w.heap.size + 1 + 1, 2, none⟩ = some (.int .i64 0) := cell_later hb (by go_simp)
    have jr2 : w1.frozen? ⟨w.heap.size + 1 + 1, 2, none⟩ = false := by rw [(bcell hb).2 _ _ (by first | omega | (simp <;> omega))]; go_simp
    have kr3 : w1.cell? ⟨w.heap.size + 1 + 1, 3, none⟩ = some (.int .i64 0) := cell_later hb (by go_simp)
    have jr3 : w1.frozen? ⟨w.heap.size + 1 + 1, 3, none⟩ = false := by rw [(bcell hb).2 _ _ (by first | omega | (simp <;> omega))]; go_simp
    have za : w.heap.size < w1.heap.size := World.block_lt_of_cell? _ _ ka0
    have zb : w.heap.size + 1 < w1.heap.size := World.block_lt_of_cell? _ _ kb0
    have zr : w.heap.size + 1 + 1 < w1.heap.size := World.block_lt_of_cell? _ _ kr0
    have hb0 : Below w.heap.size w w1 := (by repeat (first | exact Below.refl _ _ | assumption | refine bstep ?_ (by assumption) | refine Below.drew ?_ | refine balloc ?_ _ | refine Below.setCell ?_ (by first | omega | (simp <;> omega)) _))
    clear hb
    rw [h1]
    go_wp2
    refine bodyPost_ret ?_ rfl ⟨rfl, (by repeat (first | exact Below.refl _ _ | assumption | refine bstep ?_ (by assumption) | refine Below.drew ?_ | refine balloc ?_ _ | refine Below.setCell ?_ (by first | omega | (simp <;> omega)) _))⟩
    simp [results, Try.results30, go_sem, vJoinBox, selI, erv, h1, kr0, kr1, kr2, kr3]


end Go.Proofs.Ytendnhmobhicmaa
