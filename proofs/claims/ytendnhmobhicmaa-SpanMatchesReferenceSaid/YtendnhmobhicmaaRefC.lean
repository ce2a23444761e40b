/- RefC: the reference of layer 2: boxes. -/
import Derived.Test.YtendnhmobhicmaaRefB
import Derived.Test.YtendnhmobhicmaaRows
import Derived.WalkKit
import Derived.WalkSpells
import Derived.WalkLawsBesides
import Derived.Lib.Hide
import Derived.Deep.QuietTactic
import Derived.BigQuiet
import Derived.RegionTactic
import Derived.ChangeAlike
import Derived.BigRegion
import Derived.Deep.RegionHeld3
import Derived.Deep.RegionWith
import Derived.Outline
namespace Go.Proofs.Ytendnhmobhicmaa
open Go.RowKit
set_option linter.unusedSimpArgs false
set_option linter.unusedVariables false

set_option maxHeartbeats 3200000 in
theorem RMeetBox_c (a1 a2 a3 a4 b1 b2 b3 b4 : Int) (w : World)  : Calls Try.prog 29 #[(.agg #[(.int .i64 a1), (.int .i64 a2), (.int .i64 a3), (.int .i64 a4)]), (.agg #[(.int .i64 b1), (.int .i64 b2), (.int .i64 b3), (.int .i64 b4)])] w (Ret w (.tuple #[.agg #[(.int .i64 (selI ((vMeetBox a1 a2 a3 a4 b1 b2 b3 b4) && (rMeetBox a1 a2 a3 a4 b1 b2 b3 b4)) (max a1 b1))), (.int .i64 (selI ((vMeetBox a1 a2 a3 a4 b1 b2 b3 b4) && (rMeetBox a1 a2 a3 a4 b1 b2 b3 b4)) (min a2 b2))), (.int .i64 (selI ((vMeetBox a1 a2 a3 a4 b1 b2 b3 b4) && (rMeetBox a1 a2 a3 a4 b1 b2 b3 b4)) (max a3 b3))), (.int .i64 (selI ((vMeetBox a1 a2 a3 a4 b1 b2 b3 b4) && (rMeetBox a1 a2 a3 a4 b1 b2 b3 b4)) (min a4 b4)))], (.int .i64 (erv (vMeetBox a1 a2 a3 a4 b1 b2 b3 b4) (rMeetBox a1 a2 a3 a4 b1 b2 b3 b4) 4))])) := by
  rcases Bool.eq_false_or_eq_true (vB a1 a2 a3 a4 && vB b1 b2 b3 b4) with h1 | h1
  ·
    have u := h1
    rw [Bool.and_eq_true, vB_iff, vB_iff] at u
    have vx : vMeet a1 a2 b1 b2 = true := by unfold vMeet; rw [Bool.and_eq_true, vE_iff, vE_iff]; omega
    have vy : vMeet a3 a4 b3 b4 = true := by unfold vMeet; rw [Bool.and_eq_true, vE_iff, vE_iff]; omega
    rcases Bool.eq_false_or_eq_true (rM a1 a2 b1 b2) with h2 | h2
    ·
      rcases Bool.eq_false_or_eq_true (rM a3 a4 b3 b4) with h3 | h3
      ·
        have rx : rMeet a1 a2 b1 b2 = true := h2
        have ry : rMeet a3 a4 b3 b4 = true := h3
        have C1 := fun w => RMeet_c a1 a2 b1 b2 w
        simp only [vx, rx, selI, selB, erv, cond_true, cond_false, Bool.and_true, Bool.and_false, Bool.true_and, Bool.false_and] at C1
        have C2 := fun w => RMeet_c a3 a4 b3 b4 w
        simp only [vy, ry, selI, selB, erv, cond_true, cond_false, Bool.and_true, Bool.and_false, Bool.true_and, Bool.false_and] at C2
        go_enter Try.func29, Try.ntmps29
        go_wp2_with fail
        refine Calls.mono (rbothBoxes_c _ _ _ _ _ _ _ _ _) ?_
        rintro e w1 ⟨rfl, hb⟩
        have ka0 : w1.cell? ⟨w.heap.size, 0, none⟩ = some (.int .i64 a1) := cell_later hb (by go_simp)
        have ka1 : w1.cell? ⟨w.heap.size, 1, none⟩ = some (.int .i64 a2) := cell_later hb (by go_simp)
        have ka2 : w1.cell? ⟨w.heap.size, 2, none⟩ = some (.int .i64 a3) := cell_later hb (by go_simp)
        have ka3 : w1.cell? ⟨w.heap.size, 3, none⟩ = some (.int .i64 a4) := cell_later hb (by go_simp)
        have kb0 : w1.cell? ⟨w.heap.size + 1, 0, none⟩ = some (.int .i64 b1) := cell_later hb (by go_simp)
        have kb1 : w1.cell? ⟨w.heap.size + 1, 1, none⟩ = some (.int .i64 b2) := cell_later hb (by go_simp)
        have kb2 : w1.cell? ⟨w.heap.size + 1, 2, none⟩ = some (.int .i64 b3) := cell_later hb (by go_simp)
        have kb3 : w1.cell? ⟨w.heap.size + 1, 3, none⟩ = some (.int .i64 b4) := cell_later hb (by go_simp)
        have kr0 : w1.cell? ⟨w.heap.size + 1 + 1, 0, none⟩ = some (.int .i64 0) := cell_later hb (by go_simp)
        have jr0 : w1.frozen? ⟨w.heap.size + 1 + 1, 0, none⟩ = false := by rw [(bcell hb).2 _ _ (by first | omega | (simp <;> omega))]; go_simp
        have kr1 : w1.cell? ⟨w.heap.size + 1 + 1, 1, none⟩ = some (.int .i64 0) := cell_later hb (by go_simp)
        have jr1 : w1.frozen? ⟨w.heap.size + 1 + 1, 1, none⟩ = false := by rw [(bcell hb).2 _ _ (by first | omega | (simp <;> omega))]; go_simp
        have kr2 : w1.cell? ⟨w.heap.size + 1 + 1, 2, none⟩ = some (.int .i64 0) := cell_later hb (by go_simp)
        have jr2 : w1.frozen? ⟨w.heap.size + 1 + 1, 2, none⟩ = false := by rw [(bcell hb).2 _ _ (by first | omega | (simp <;> omega))]; go_simp
        have kr3 : w1.cell? ⟨w.heap.size + 1 + 1, 3, none⟩ = some (.int .i64 0) := cell_later hb (by go_simp)
        have jr3 : w1.frozen? ⟨w.heap.size + 1 + 1, 3, none⟩ = false := by rw [(bcell hb).2 _ _ (by first | omega | (simp <;> omega))]; go_simp
        have za : w.heap.size < w1.heap.size := World.block_lt_of_cell? _ _ ka0
        have zb : w.heap.size + 1 < w1.heap.size := World.block_lt_of_cell? _ _ kb0
        have zr : w.heap.size + 1 + 1 < w1.heap.size := World.block_lt_of_cell? _ _ kr0
        have hb0 : Below w.heap.size w w1 := (by repeat (first | exact Below.refl _ _ | assumption | refine bstep ?_ (by assumption) | refine Below.drew ?_ | refine balloc ?_ _ | refine Below.setCell ?_ (by first | omega | (simp <;> omega)) _))
        clear hb
        rw [h1]
        go_wp2_with fail
        refine Calls.mono (C1 _) ?_
        rintro e w2 ⟨rfl, hb⟩
        replace ka0 : w2.cell? ⟨w.heap.size, 0, none⟩ = some (.int .i64 a1) := cell_later hb (by first | (with_reducible exact ka0) | (with_reducible exact cell_al _ ka0) | (with_reducible exact cell_al _ (cell_al _ ka0)) | go_simp)
        replace ka1 : w2.cell? ⟨w.heap.size, 1, none⟩ = some (.int .i64 a2) := cell_later hb (by first | (with_reducible exact ka1) | (with_reducible exact cell_al _ ka1) | (with_reducible exact cell_al _ (cell_al _ ka1)) | go_simp)
        replace ka2 : w2.cell? ⟨w.heap.size, 2, none⟩ = some (.int .i64 a3) := cell_later hb (by first | (with_reducible exact ka2) | (with_reducible exact cell_al _ ka2) | (with_reducible exact cell_al _ (cell_al _ ka2)) | go_simp)
        replace ka3 : w2.cell? ⟨w.heap.size, 3, none⟩ = some (.int .i64 a4) := cell_later hb (by first | (with_reducible exact ka3) | (with_reducible exact cell_al _ ka3) | (with_reducible exact cell_al _ (cell_al _ ka3)) | go_simp)
        replace kb0 : w2.cell? ⟨w.heap.size + 1, 0, none⟩ = some (.int .i64 b1) := cell_later hb (by first | (with_reducible exact kb0) | (with_reducible exact cell_al _ kb0) | (with_reducible exact cell_al _ (cell_al _ kb0)) | go_simp)
        replace kb1 : w2.cell? ⟨w.heap.size + 1, 1, none⟩ = some (.int .i64 b2) := cell_later hb (by first | (with_reducible exact kb1) | (with_reducible exact cell_al _ kb1) | (with_reducible exact cell_al _ (cell_al _ kb1)) | go_simp)
        replace kb2 : w2.cell? ⟨w.heap.size + 1, 2, none⟩ = some (.int .i64 b3) := cell_later hb (by first | (with_reducible exact kb2) | (with_reducible exact cell_al _ kb2) | (with_reducible exact cell_al _ (cell_al _ kb2)) | go_simp)
        replace kb3 : w2.cell? ⟨w.heap.size + 1, 3, none⟩ = some (.int .i64 b4) := cell_later hb (by first | (with_reducible exact kb3) | (with_reducible exact cell_al _ kb3) | (with_reducible exact cell_al _ (cell_al _ kb3)) | go_simp)
        replace kr0 : w2.cell? ⟨w.heap.size + 1 + 1, 0, none⟩ = some (.int .i64 0) := cell_later hb (by first | (with_reducible exact kr0) | (with_reducible exact cell_al _ kr0) | (with_reducible exact cell_al _ (cell_al _ kr0)) | go_simp)
        replace jr0 : w2.frozen? ⟨w.heap.size + 1 + 1, 0, none⟩ = false := by rw [(bcell hb).2 _ _ (by first | omega | (simp <;> omega))]; first | (with_reducible exact jr0) | go_simp
        replace kr1 : w2.cell? ⟨w.heap.size + 1 + 1, 1, none⟩ = some (.int .i64 0) := cell_later hb (by first | (with_reducible exact kr1) | (with_reducible exact cell_al _ kr1) | (with_reducible exact cell_al _ (cell_al _ kr1)) | go_simp)
        replace jr1 : w2.frozen? ⟨w.heap.size + 1 + 1, 1, none⟩ = false := by rw [(bcell hb).2 _ _ (by first | omega | (simp <;> omega))]; first | (with_reducible exact jr1) | go_simp
        replace kr2 : w2.cell? ⟨w.heap.size + 1 + 1, 2, none⟩ = some (.int .i64 0) := cell_later hb (by first | (with_reducible exact kr2) | (with_reducible exact cell_al _ kr2) | (with_reducible exact cell_al _ (cell_al _ kr2)) | go_simp)
        replace jr2 : w2.frozen? ⟨w.heap.size + 1 + 1, 2, none⟩ = false := by rw [(bcell hb).2 _ _ (by first | omega | (simp <;> omega))]; first | (with_reducible exact jr2) | go_simp
        replace kr3 : w2.cell? ⟨w.heap.size + 1 + 1, 3, none⟩ = some (.int .i64 0) := cell_later hb (by first | (with_reducible exact kr3) | (with_reducible exact cell_al _ kr3) | (with_reducible exact cell_al _ (cell_al _ kr3)) | go_simp)
        replace jr3 : w2.frozen? ⟨w.heap.size + 1 + 1, 3, none⟩ = false := by rw [(bcell hb).2 _ _ (by first | omega | (simp <;> omega))]; first | (with_reducible exact jr3) | go_simp
        replace za : w.heap.size < w2.heap.size := World.block_lt_of_cell? _ _ ka0
        replace zb : w.heap.size + 1 < w2.heap.size := World.block_lt_of_cell? _ _ kb0
        replace zr : w.heap.size + 1 + 1 < w2.heap.size := World.block_lt_of_cell? _ _ kr0
        replace hb0 : Below w.heap.size w w2 := (by repeat (first | exact Below.refl _ _ | assumption | refine bstep ?_ (by assumption) | refine Below.drew ?_ | refine balloc ?_ _ | refine Below.setCell ?_ (by first | omega | (simp <;> omega)) _))
        clear hb
        go_wp2_with fail
        refine Calls.mono (C2 _) ?_
        rintro e w3 ⟨rfl, hb⟩
        replace ka0 : w3.cell? ⟨w.heap.size, 0, none⟩ = some (.int .i64 a1) := cell_later hb (by first | (with_reducible exact ka0) | (with_reducible exact cell_al _ ka0) | (with_reducible exact cell_al _ (cell_al _ ka0)) | go_simp)
        replace ka1 : w3.cell? ⟨w.heap.size, 1, none⟩ = some (.int .i64 a2) := cell_later hb (by first | (with_reducible exact ka1) | (with_reducible exact cell_al _ ka1) | (with_reducible exact cell_al _ (cell_al _ ka1)) | go_simp)
        replace ka2 : w3.cell? ⟨w.heap.size, 2, none⟩ = some (.int .i64 a3) := cell_later hb (by first | (with_reducible exact ka2) | (with_reducible exact cell_al _ ka2) | (with_reducible exact cell_al _ (cell_al _ ka2)) | go_simp)
        replace ka3 : w3.cell? ⟨w.heap.size, 3, none⟩ = some (.int .i64 a4) := cell_later hb (by first | (with_reducible exact ka3) | (with_reducible exact cell_al _ ka3) | (with_reducible exact cell_al _ (cell_al _ ka3)) | go_simp)
        replace kb0 : w3.cell? ⟨w.heap.size + 1, 0, none⟩ = some (.int .i64 b1) := cell_later hb (by first | (with_reducible exact kb0) | (with_reducible exact cell_al _ kb0) | (with_reducible exact cell_al _ (cell_al _ kb0)) | go_simp)
        replace kb1 : w3.cell? ⟨w.heap.size + 1, 1, none⟩ = some (.int .i64 b2) := cell_later hb (by first | (with_reducible exact kb1) | (with_reducible exact cell_al _ kb1) | (with_reducible exact cell_al _ (cell_al _ kb1)) | go_simp)
        replace kb2 : w3.cell? ⟨w.heap.size + 1, 2, none⟩ = some (.int .i64 b3) := cell_later hb (by first | (with_reducible exact kb2) | (with_reducible exact cell_al _ kb2) | (with_reducible exact cell_al _ (cell_al _ kb2)) | go_simp)
        replace kb3 : w3.cell? ⟨w.heap.size + 1, 3, none⟩ = some (.int .i64 b4) := cell_later hb (by first | (with_reducible exact kb3) | (with_reducible exact cell_al _ kb3) | (with_reducible exact cell_al _ (cell_al _ kb3)) | go_simp)
        replace kr0 : w3.cell? ⟨w.heap.size + 1 + 1, 0, none⟩ = some (.int .i64 0) := cell_later hb (by first | (with_reducible exact kr0) | (with_reducible exact cell_al _ kr0) | (with_reducible exact cell_al _ (cell_al _ kr0)) | go_simp)
        replace jr0 : w3.frozen? ⟨w.heap.size + 1 + 1, 0, none⟩ = false := by rw [(bcell hb).2 _ _ (by first | omega | (simp <;> omega))]; first | (with_reducible exact jr0) | go_simp
        replace kr1 : w3.cell? ⟨w.heap.size + 1 + 1, 1, none⟩ = some (.int .i64 0) := cell_later hb (by first | (with_reducible exact kr1) | (with_reducible exact cell_al _ kr1) | (with_reducible exact cell_al _ (cell_al _ kr1)) | go_simp)
        replace jr1 : w3.frozen? ⟨w.heap.size + 1 + 1, 1, none⟩ = false := by rw [(bcell hb).2 _ _ (by first | omega | (simp <;> omega))]; first | (with_reducible exact jr1) | go_simp
        replace kr2 : w3.cell? ⟨w.heap.size + 1 + 1, 2, none⟩ = some (.int .i64 0) := cell_later hb (by first | (with_reducible exact kr2) | (with_reducible exact cell_al _ kr2) | (with_reducible exact cell_al _ (cell_al _ kr2)) | go_simp)
        replace jr2 : w3.frozen? ⟨w.heap.size + 1 + 1, 2, none⟩ = false := by rw [(bcell hb).2 _ _ (by first | omega | (simp <;> omega))]; first | (with_reducible exact jr2) | go_simp
        replace kr3 : w3.cell? ⟨w.heap.size + 1 + 1, 3, none⟩ = some (.int .i64 0) := cell_later hb (by first | (with_reducible exact kr3) | (with_reducible exact cell_al _ kr3) | (with_reducible exact cell_al _ (cell_al _ kr3)) | go_simp)
        replace jr3 : w3.frozen? ⟨w.heap.size + 1 + 1, 3, none⟩ = false := by rw [(bcell hb).2 _ _ (by first | omega | (simp <;> omega))]; first | (with_reducible exact jr3) | go_simp
        have kx0 : w3.cell? ⟨w2.heap.size, 0, none⟩ = some (.int .i64 (max a1 b1)) := cell_later hb (by go_simp)
        have kx1 : w3.cell? ⟨w2.heap.size, 1, none⟩ = some (.int .i64 (min a2 b2)) := cell_later hb (by go_simp)
        replace za : w.heap.size < w3.heap.size := World.block_lt_of_cell? _ _ ka0
        replace zb : w.heap.size + 1 < w3.heap.size := World.block_lt_of_cell? _ _ kb0
        replace zr : w.heap.size + 1 + 1 < w3.heap.size := World.block_lt_of_cell? _ _ kr0
        have zx : w2.heap.size < w3.heap.size := World.block_lt_of_cell? _ _ kx0
        replace hb0 : Below w.heap.size w w3 := (by repeat (first | exact Below.refl _ _ | assumption | refine bstep ?_ (by assumption) | refine Below.drew ?_ | refine balloc ?_ _ | refine Below.setCell ?_ (by first | omega | (simp <;> omega)) _))
        clear hb
        go_wp2
        refine bodyPost_ret ?_ rfl ⟨rfl, (by repeat (first | exact Below.refl _ _ | assumption | refine bstep ?_ (by assumption) | refine Below.drew ?_ | refine balloc ?_ _ | refine Below.setCell ?_ (by first | omega | (simp <;> omega)) _))⟩
        simp [results, Try.results29, go_sem, vMeetBox, rMeetBox, selI, erv, h1, h2, h3, zr, kr0, kr1, kr2, kr3]
      ·
        have rx : rMeet a1 a2 b1 b2 = true := h2
        have ry : rMeet a3 a4 b3 b4 = false := h3
        have C1 := fun w => RMeet_c a1 a2 b1 b2 w
        simp only [vx, rx, selI, selB, erv, cond_true, cond_false, Bool.and_true, Bool.and_false, Bool.true_and, Bool.false_and] at C1
        have C2 := fun w => RMeet_c a3 a4 b3 b4 w
        simp only [vy, ry, selI, selB, erv, cond_true, cond_false, Bool.and_true, Bool.and_false, Bool.true_and, Bool.false_and] at C2
        go_enter Try.func29, Try.ntmps29
        go_wp2_with fail
        refine Calls.mono (rbothBoxes_c _ _ _ _ _ _ _ _ _) ?_
        rintro e w1 ⟨rfl, hb⟩
        have ka0 : w1.cell? ⟨w.heap.size, 0, none⟩ = some (.int .i64 a1) := cell_later hb (by go_simp)
        have ka1 : w1.cell? ⟨w.heap.size, 1, none⟩ = some (.int .i64 a2) := cell_later hb (by go_simp)
        have ka2 : w1.cell? ⟨w.heap.size, 2, none⟩ = some (.int .i64 a3) := cell_later hb (by go_simp)
        have ka3 : w1.cell? ⟨w.heap.size, 3, none⟩ = some (.int .i64 a4) := cell_later hb (by go_simp)
        have kb0 : w1.cell? ⟨w.heap.size + 1, 0, none⟩ = some (.int .i64 b1) := cell_later hb (by go_simp)
        have kb1 : w1.cell? ⟨w.heap.size + 1, 1, none⟩ = some (.int .i64 b2) := cell_later hb (by go_simp)
        have kb2 : w1.cell? ⟨w.heap.size + 1, 2, none⟩ = some (.int .i64 b3) := cell_later hb (by go_simp)
        have kb3 : w1.cell? ⟨w.heap.size + 1, 3, none⟩ = some (.int .i64 b4) := cell_later hb (by go_simp)
        have kr0 : w1.cell? ⟨w.heap.size + 1 + 1, 0, none⟩ = some (.int .i64 0) := cell_later hb (by go_simp)
        have jr0 : w1.frozen? ⟨w.heap.size + 1 + 1, 0, none⟩ = false := by rw [(bcell hb).2 _ _ (by first | omega | (simp <;> omega))]; go_simp
        have kr1 : w1.cell? ⟨w.heap.size + 1 + 1, 1, none⟩ = some (.int .i64 0) := cell_later hb (by go_simp)
        have jr1 : w1.frozen? ⟨w.heap.size + 1 + 1, 1, none⟩ = false := by rw [(bcell hb).2 _ _ (by first | omega | (simp <;> omega))]; go_simp
        have kr2 : w1.cell? ⟨w.heap.size + 1 + 1, 2, none⟩ = some (.int .i64 0) := cell_later hb (by go_simp)
        have jr2 : w1.frozen? ⟨w.heap.size + 1 + 1, 2, none⟩ = false := by rw [(bcell hb).2 _ _ (by first | omega | (simp <;> omega))]; go_simp
        have kr3 : w1.cell? ⟨w.heap.size + 1 + 1, 3, none⟩ = some (.int .i64 0) := cell_later hb (by go_simp)
        have jr3 : w1.frozen? ⟨w.heap.size + 1 + 1, 3, none⟩ = false := by rw [(bcell hb).2 _ _ (by first | omega | (simp <;> omega))]; go_simp
        have za : w.heap.size < w1.heap.size := World.block_lt_of_cell? _ _ ka0
        have zb : w.heap.size + 1 < w1.heap.size := World.block_lt_of_cell? _ _ kb0
        have zr : w.heap.size + 1 + 1 < w1.heap.size := World.block_lt_of_cell? _ _ kr0
        have hb0 : Below w.heap.size w w1 := (by repeat (first | exact Below.refl _ _ | assumption | refine bstep ?_ (by assumption) | refine Below.drew ?_ | refine balloc ?_ _ | refine Below.setCell ?_ (by first | omega | (simp <;> omega)) _))
        clear hb
        rw [h1]
        go_wp2_with fail
        refine Calls.mono (C1 _) ?_
        rintro e w2 ⟨rfl, hb⟩
        replace ka0 : w2.cell? ⟨w.heap.size, 0, none⟩ = some (.int .i64 a1) := cell_later hb (by first | (with_reducible exact ka0) | (with_reducible exact cell_al _ ka0) | (with_reducible exact cell_al _ (cell_al _ ka0)) | go_simp)
        replace ka1 : w2.cell? ⟨w.heap.size, 1, none⟩ = some (.int .i64 a2) := cell_later hb (by first | (with_reducible exact ka1) | (with_reducible exact cell_al _ ka1) | (with_reducible exact cell_al _ (cell_al _ ka1)) | go_simp)
        replace ka2 : w2.cell? ⟨w.heap.size, 2, none⟩ = some (.int .i64 a3) := cell_later hb (by first | (with_reducible exact ka2) | (with_reducible exact cell_al _ ka2) | (with_reducible exact cell_al _ (cell_al _ ka2)) | go_simp)
        replace ka3 : w2.cell? ⟨w.heap.size, 3, none⟩ = some (.int .i64 a4) := cell_later hb (by first | (with_reducible exact ka3) | (with_reducible exact cell_al _ ka3) | (with_reducible exact cell_al _ (cell_al _ ka3)) | go_simp)
        replace kb0 : w2.cell? ⟨w.heap.size + 1, 0, none⟩ = some (.int .i64 b1) := cell_later hb (by first | (with_reducible exact kb0) | (with_reducible exact cell_al _ kb0) | (with_reducible exact cell_al _ (cell_al _ kb0)) | go_simp)
        replace kb1 : w2.cell? ⟨w.heap.size + 1, 1, none⟩ = some (.int .i64 b2) := cell_later hb (by first | (with_reducible exact kb1) | (with_reducible exact cell_al _ kb1) | (with_reducible exact cell_al _ (cell_al _ kb1)) | go_simp)
        replace kb2 : w2.cell? ⟨w.heap.size + 1, 2, none⟩ = some (.int .i64 b3) := cell_later hb (by first | (with_reducible exact kb2) | (with_reducible exact cell_al _ kb2) | (with_reducible exact cell_al _ (cell_al _ kb2)) | go_simp)
        replace kb3 : w2.cell? ⟨w.heap.size + 1, 3, none⟩ = some (.int .i64 b4) := cell_later hb (by first | (with_reducible exact kb3) | (with_reducible exact cell_al _ kb3) | (with_reducible exact cell_al _ (cell_al _ kb3)) | go_simp)
        replace kr0 : w2.cell? ⟨w.heap.size + 1 + 1, 0, none⟩ = some (.int .i64 0) := cell_later hb (by first | (with_reducible exact kr0) | (with_reducible exact cell_al _ kr0) | (with_reducible exact cell_al _ (cell_al _ kr0)) | go_simp)
        replace jr0 : w2.frozen? ⟨w.heap.size + 1 + 1, 0, none⟩ = false := by rw [(bcell hb).2 _ _ (by first | omega | (simp <;> omega))]; first | (with_reducible exact jr0) | go_simp
        replace kr1 : w2.cell? ⟨w.heap.size + 1 + 1, 1, none⟩ = some (.int .i64 0) := cell_later hb (by first | (with_reducible exact kr1) | (with_reducible exact cell_al _ kr1) | (with_reducible exact cell_al _ (cell_al _ kr1)) | go_simp)
        replace jr1 : w2.frozen? ⟨w.heap.size + 1 + 1, 1, none⟩ = false := by rw [(bcell hb).2 _ _ (by first | omega | (simp <;> omega))]; first | (with_reducible exact jr1) | go_simp
        replace kr2 : w2.cell? ⟨w.heap.size + 1 + 1, 2, none⟩ = some (.int .i64 0) := cell_later hb (by first | (with_reducible exact kr2) | (with_reducible exact cell_al _ kr2) | (with_reducible exact cell_al _ (cell_al _ kr2)) | go_simp)
        replace jr2 : w2.frozen? ⟨w.heap.size + 1 + 1, 2, none⟩ = false := by rw [(bcell hb).2 _ _ (by first | omega | (simp <;> omega))]; first | (with_reducible exact jr2) | go_simp
        replace kr3 : w2.cell? ⟨w.heap.size + 1 + 1, 3, none⟩ = some (.int .i64 0) := cell_later hb (by first | (with_reducible exact kr3) | (with_reducible exact cell_al _ kr3) | (with_reducible exact cell_al _ (cell_al _ kr3)) | go_simp)
        replace jr3 : w2.frozen? ⟨w.heap.size + 1 + 1, 3, none⟩ = false := by rw [(bcell hb).2 _ _ (by first | omega | (simp <;> omega))]; first | (with_reducible exact jr3) | go_simp
        replace za : w.heap.size < w2.heap.size := World.block_lt_of_cell? _ _ ka0
        replace zb : w.heap.size + 1 < w2.heap.size := World.block_lt_of_cell? _ _ kb0
        replace zr : w.heap.size + 1 + 1 < w2.heap.size := World.block_lt_of_cell? _ _ kr0
        replace hb0 : Below w.heap.size w w2 := (by repeat (first | exact Below.refl _ _ | assumption | refine bstep ?_ (by assumption) | refine Below.drew ?_ | refine balloc ?_ _ | refine Below.setCell ?_ (by first | omega | (simp <;> omega)) _))
        clear hb
        go_wp2_with fail
        refine Calls.mono (C2 _) ?_
        rintro e w3 ⟨rfl, hb⟩
        replace ka0 : w3.cell? ⟨w.heap.size, 0, none⟩ = some (.int .i64 a1) := cell_later hb (by first | (with_reducible exact ka0) | (with_reducible exact cell_al _ ka0) | (with_reducible exact cell_al _ (cell_al _ ka0)) | go_simp)
        replace ka1 : w3.cell? ⟨w.heap.size, 1, none⟩ = some (.int .i64 a2) := cell_later hb (by first | (with_reducible exact ka1) | (with_reducible exact cell_al _ ka1) | (with_reducible exact cell_al _ (cell_al _ ka1)) | go_simp)
        replace ka2 : w3.cell? ⟨w.heap.size, 2, none⟩ = some (.int .i64 a3) := cell_later hb (by first | (with_reducible exact ka2) | (with_reducible exact cell_al _ ka2) | (with_reducible exact cell_al _ (cell_al _ ka2)) | go_simp)
        replace ka3 : w3.cell? ⟨w.heap.size, 3, none⟩ = some (.int .i64 a4) := cell_later hb (by first | (with_reducible exact ka3) | (with_reducible exact cell_al _ ka3) | (with_reducible exact cell_al _ (cell_al _ ka3)) | go_simp)
        replace kb0 : w3.cell? ⟨w.heap.size + 1, 0, none⟩ = some (.int .i64 b1) := cell_later hb (by first | (with_reducible exact kb0) | (with_reducible exact cell_al _ kb0) | (with_reducible exact cell_al _ (cell_al _ kb0)) | go_simp)
        replace kb1 : w3.cell? ⟨w.heap.size + 1, 1, none⟩ = some (.int .i64 b2) := cell_later hb (by first | (with_reducible exact kb1) | (with_reducible exact cell_al _ kb1) | (with_reducible exact cell_al _ (cell_al _ kb1)) | go_simp)
        replace kb2 : w3.cell? ⟨w.heap.size + 1, 2, none⟩ = some (.int .i64 b3) := cell_later hb (by first | (with_reducible exact kb2) | (with_reducible exact cell_al _ kb2) | (with_reducible exact cell_al _ (cell_al _ kb2)) | go_simp)
        replace kb3 : w3.cell? ⟨w.heap.size + 1, 3, none⟩ = some (.int .i64 b4) := cell_later hb (by first | (with_reducible exact kb3) | (with_reducible exact cell_al _ kb3) | (with_reducible exact cell_al _ (cell_al _ kb3)) | go_simp)
        replace kr0 : w3.cell? ⟨w.heap.size + 1 + 1, 0, none⟩ = some (.int .i64 0) := cell_later hb (by first | (with_reducible exact kr0) | (with_reducible exact cell_al _ kr0) | (with_reducible exact cell_al _ (cell_al _ kr0)) | go_simp)
        replace jr0 : w3.frozen? ⟨w.heap.size + 1 + 1, 0, none⟩ = false := by rw [(bcell hb).2 _ _ (by first | omega | (simp <;> omega))]; first | (with_reducible exact jr0) | go_simp
        replace kr1 : w3.cell? ⟨w.heap.size + 1 + 1, 1, none⟩ = some (.int .i64 0) := cell_later hb (by first | (with_reducible exact kr1) | (with_reducible exact cell_al _ kr1) | (with_reducible exact cell_al _ (cell_al _ kr1)) | go_simp)
        replace jr1 : w3.frozen? ⟨w.heap.size + 1 + 1, 1, none⟩ = false := by rw [(bcell hb).2 _ _ (by first | omega | (simp <;> omega))]; first | (with_reducible exact jr1) | go_simp
        replace kr2 : w3.cell? ⟨w.heap.size + 1 + 1, 2, none⟩ = some (.int .i64 0) := cell_later hb (by first | (with_reducible exact kr2) | (with_reducible exact cell_al _ kr2) | (with_reducible exact cell_al _ (cell_al _ kr2)) | go_simp)
        replace jr2 : w3.frozen? ⟨w.heap.size + 1 + 1, 2, none⟩ = false := by rw [(bcell hb).2 _ _ (by first | omega | (simp <;> omega))]; first | (with_reducible exact jr2) | go_simp
        replace kr3 : w3.cell? ⟨w.heap.size + 1 + 1, 3, none⟩ = some (.int .i64 0) := cell_later hb (by first | (with_reducible exact kr3) | (with_reducible exact cell_al _ kr3) | (with_reducible exact cell_al _ (cell_al _ kr3)) | go_simp)
        replace jr3 : w3.frozen? ⟨w.heap.size + 1 + 1, 3, none⟩ = false := by rw [(bcell hb).2 _ _ (by first | omega | (simp <;> omega))]; first | (with_reducible exact jr3) | go_simp
        have kx0 : w3.cell? ⟨w2.heap.size, 0, none⟩ = some (.int .i64 (max a1 b1)) := cell_later hb (by go_simp)
        have kx1 : w3.cell? ⟨w2.heap.size, 1, none⟩ = some (.int .i64 (min a2 b2)) := cell_later hb (by go_simp)
        replace za : w.heap.size < w3.heap.size := World.block_lt_of_cell? _ _ ka0
        replace zb : w.heap.size + 1 < w3.heap.size := World.block_lt_of_cell? _ _ kb0
        replace zr : w.heap.size + 1 + 1 < w3.heap.size := World.block_lt_of_cell? _ _ kr0
        have zx : w2.heap.size < w3.heap.size := World.block_lt_of_cell? _ _ kx0
        replace hb0 : Below w.heap.size w w3 := (by repeat (first | exact Below.refl _ _ | assumption | refine bstep ?_ (by assumption) | refine Below.drew ?_ | refine balloc ?_ _ | refine Below.setCell ?_ (by first | omega | (simp <;> omega)) _))
        clear hb
        go_wp2
        refine bodyPost_ret ?_ rfl ⟨rfl, (by repeat (first | exact Below.refl _ _ | assumption | refine bstep ?_ (by assumption) | refine Below.drew ?_ | refine balloc ?_ _ | refine Below.setCell ?_ (by first | omega | (simp <;> omega)) _))⟩
        simp [results, Try.results29, go_sem, vMeetBox, rMeetBox, selI, erv, h1, h2, h3, zr, kr0, kr1, kr2, kr3]
    ·
      rcases Bool.eq_false_or_eq_true (rM a3 a4 b3 b4) with h3 | h3
      ·
        have rx : rMeet a1 a2 b1 b2 = false := h2
        have ry : rMeet a3 a4 b3 b4 = true := h3
        have C1 := fun w => RMeet_c a1 a2 b1 b2 w
        simp only [vx, rx, selI, selB, erv, cond_true, cond_false, Bool.and_true, Bool.and_false, Bool.true_and, Bool.false_and] at C1
        have C2 := fun w => RMeet_c a3 a4 b3 b4 w
        simp only [vy, ry, selI, selB, erv, cond_true, cond_false, Bool.and_true, Bool.and_false, Bool.true_and, Bool.false_and] at C2
        go_enter Try.func29, Try.ntmps29
        go_wp2_with fail
        refine Calls.mono (rbothBoxes_c _ _ _ _ _ _ _ _ _) ?_
        rintro e w1 ⟨rfl, hb⟩
        have ka0 : w1.cell? ⟨w.heap.size, 0, none⟩ = some (.int .i64 a1) := cell_later hb (by go_simp)
        have ka1 : w1.cell? ⟨w.heap.size, 1, none⟩ = some (.int .i64 a2) := cell_later hb (by go_simp)
        have ka2 : w1.cell? ⟨w.heap.size, 2, none⟩ = some (.int .i64 a3) := cell_later hb (by go_simp)
        have ka3 : w1.cell? ⟨w.heap.size, 3, none⟩ = some (.int .i64 a4) := cell_later hb (by go_simp)
        have kb0 : w1.cell? ⟨w.heap.size + 1, 0, none⟩ = some (.int .i64 b1) := cell_later hb (by go_simp)
        have kb1 : w1.cell? ⟨w.heap.size + 1, 1, none⟩ = some (.int .i64 b2) := cell_later hb (by go_simp)
        have kb2 : w1.cell? ⟨w.heap.size + 1, 2, none⟩ = some (.int .i64 b3) := cell_later hb (by go_simp)
        have kb3 : w1.cell? ⟨w.heap.size + 1, 3, none⟩ = some (.int .i64 b4) := cell_later hb (by go_simp)
        have kr0 : w1.cell? ⟨w.heap.size + 1 + 1, 0, none⟩ = some (.int .i64 0) := cell_later hb (by go_simp)
        have jr0 : w1.frozen? ⟨w.heap.size + 1 + 1, 0, none⟩ = false := by rw [(bcell hb).2 _ _ (by first | omega | (simp <;> omega))]; go_simp
        have kr1 : w1.cell? ⟨w.heap.size + 1 + 1, 1, none⟩ = some (.int .i64 0) := cell_later hb (by go_simp)
        have jr1 : w1.frozen? ⟨w.heap.size + 1 + 1, 1, none⟩ = false := by rw [(bcell hb).2 _ _ (by first | omega | (simp <;> omega))]; go_simp
        have kr2 : w1.cell? ⟨w.heap.size + 1 + 1, 2, none⟩ = some (.int .i64 0) := cell_later hb (by go_simp)
        have jr2 : w1.frozen? ⟨w.heap.size + 1 + 1, 2, none⟩ = false := by rw [(bcell hb).2 _ _ (by first | omega | (simp <;> omega))]; go_simp
        have kr3 : w1.cell? ⟨w.heap.size + 1 + 1, 3, none⟩ = some (.int .i64 0) := cell_later hb (by go_simp)
        have jr3 : w1.frozen? ⟨w.heap.size + 1 + 1, 3, none⟩ = false := by rw [(bcell hb).2 _ _ (by first | omega | (simp <;> omega))]; go_simp
        have za : w.heap.size < w1.heap.size := World.block_lt_of_cell? _ _ ka0
        have zb : w.heap.size + 1 < w1.heap.size := World.block_lt_of_cell? _ _ kb0
        have zr : w.heap.size + 1 + 1 < w1.heap.size := World.block_lt_of_cell? _ _ kr0
        have hb0 : Below w.heap.size w w1 := (by repeat (first | exact Below.refl _ _ | assumption | refine bstep ?_ (by assumption) | refine Below.drew ?_ | refine balloc ?_ _ | refine Below.setCell ?_ (by first | omega | (simp <;> omega)) _))
        clear hb
        rw [h1]
        go_wp2_with fail
        refine Calls.mono (C1 _) ?_
        rintro e w2 ⟨rfl, hb⟩
        replace ka0 : w2.cell? ⟨w.heap.size, 0, none⟩ = some (.int .i64 a1) := cell_later hb (by first | (with_reducible exact ka0) | (with_reducible exact cell_al _ ka0) | (with_reducible exact cell_al _ (cell_al _ ka0)) | go_simp)
        replace ka1 : w2.cell? ⟨w.heap.size, 1, none⟩ = some (.int .i64 a2) := cell_later hb (by first | (with_reducible exact ka1) | (with_reducible exact cell_al _ ka1) | (with_reducible exact cell_al _ (cell_al _ ka1)) | go_simp)
        replace ka2 : w2.cell? ⟨w.heap.size, 2, none⟩ = some (.int .i64 a3) := cell_later hb (by first | (with_reducible exact ka2) | (with_reducible exact cell_al _ ka2) | (with_reducible exact cell_al _ (cell_al _ ka2)) | go_simp)
        replace ka3 : w2.cell? ⟨w.heap.size, 3, none⟩ = some (.int .i64 a4) := cell_later hb (by first | (with_reducible exact ka3) | (with_reducible exact cell_al _ ka3) | (with_reducible exact cell_al _ (cell_al _ ka3)) | go_simp)
        replace kb0 : w2.cell? ⟨w.heap.size + 1, 0, none⟩ = some (.int .i64 b1) := cell_later hb (by first | (with_reducible exact kb0) | (with_reducible exact cell_al _ kb0) | (with_reducible exact cell_al _ (cell_al _ kb0)) | go_simp)
        replace kb1 : w2.cell? ⟨w.heap.size + 1, 1, none⟩ = some (.int .i64 b2) := cell_later hb (by first | (with_reducible exact kb1) | (with_reducible exact cell_al _ kb1) | (with_reducible exact cell_al _ (cell_al _ kb1)) | go_simp)
        replace kb2 : w2.cell? ⟨w.heap.size + 1, 2, none⟩ = some (.int .i64 b3) := cell_later hb (by first | (with_reducible exact kb2) | (with_reducible exact cell_al _ kb2) | (with_reducible exact cell_al _ (cell_al _ kb2)) | go_simp)
        replace kb3 : w2.cell? ⟨w.heap.size + 1, 3, none⟩ = some (.int .i64 b4) := cell_later hb (by first | (with_reducible exact kb3) | (with_reducible exact cell_al _ kb3) | (with_reducible exact cell_al _ (cell_al _ kb3)) | go_simp)
        replace kr0 : w2.cell? ⟨w.heap.size + 1 + 1, 0, none⟩ = some (.int .i64 0) := cell_later hb (by first | (with_reducible exact kr0) | (with_reducible exact cell_al _ kr0) | (with_reducible exact cell_al _ (cell_al _ kr0)) | go_simp)
        replace jr0 : w2.frozen? ⟨w.heap.size + 1 + 1, 0, none⟩ = false := by rw [(bcell hb).2 _ _ (by first | omega | (simp <;> omega))]; first | (with_reducible exact jr0) | go_simp
        replace kr1 : w2.cell? ⟨w.heap.size + 1 + 1, 1, none⟩ = some (.int .i64 0) := cell_later hb (by first | (with_reducible exact kr1) | (with_reducible exact cell_al _ kr1) | (with_reducible exact cell_al _ (cell_al _ kr1)) | go_simp)
        replace jr1 : w2.frozen? ⟨w.heap.size + 1 + 1, 1, none⟩ = false := by rw [(bcell hb).2 _ _ (by first | omega | (simp <;> omega))]; first | (with_reducible exact jr1) | go_simp
        replace kr2 : w2.cell? ⟨w.heap.size + 1 + 1, 2, none⟩ = some (.int .i64 0) := cell_later hb (by first | (with_reducible exact kr2) | (with_reducible exact cell_al _ kr2) | (with_reducible exact cell_al _ (cell_al _ kr2)) | go_simp)
        replace jr2 : w2.frozen? ⟨w.heap.size + 1 + 1, 2, none⟩ = false := by rw [(bcell hb).2 _ _ (by first | omega | (simp <;> omega))]; first | (with_reducible exact jr2) | go_simp
        replace kr3 : w2.cell? ⟨w.heap.size + 1 + 1, 3, none⟩ = some (.int .i64 0) := cell_later hb (by first | (with_reducible exact kr3) | (with_reducible exact cell_al _ kr3) | (with_reducible exact cell_al _ (cell_al _ kr3)) | go_simp)
        replace jr3 : w2.frozen? ⟨w.heap.size + 1 + 1, 3, none⟩ = false := by rw [(bcell hb).2 _ _ (by first | omega | (simp <;> omega))]; first | (with_reducible exact jr3) | go_simp
        replace za : w.heap.size < w2.heap.size := World.block_lt_of_cell? _ _ ka0
        replace zb : w.heap.size + 1 < w2.heap.size := World.block_lt_of_cell? _ _ kb0
        replace zr : w.heap.size + 1 + 1 < w2.heap.size := World.block_lt_of_cell? _ _ kr0
        replace hb0 : Below w.heap.size w w2 := (by repeat (first | exact Below.refl _ _ | assumption | refine bstep ?_ (by assumption) | refine Below.drew ?_ | refine balloc ?_ _ | refine Below.setCell ?_ (by first | omega | (simp <;> omega)) _))
        clear hb
        go_wp2_with fail
        refine Calls.mono (C2 _) ?_
        rintro e w3 ⟨rfl, hb⟩
        replace ka0 : w3.cell? ⟨w.heap.size, 0, none⟩ = some (.int .i64 a1) := cell_later hb (by first | (with_reducible exact ka0) | (with_reducible exact cell_al _ ka0) | (with_reducible exact cell_al _ (cell_al _ ka0)) | go_simp)
        replace ka1 : w3.cell? ⟨w.heap.size, 1, none⟩ = some (.int .i64 a2) := cell_later hb (by first | (with_reducible exact ka1) | (with_reducible exact cell_al _ ka1) | (with_reducible exact cell_al _ (cell_al _ ka1)) | go_simp)
        replace ka2 : w3.cell? ⟨w.heap.size, 2, none⟩ = some (.int .i64 a3) := cell_later hb (by first | (with_reducible exact ka2) | (with_reducible exact cell_al _ ka2) | (with_reducible exact cell_al _ (cell_al _ ka2)) | go_simp)
        replace ka3 : w3.cell? ⟨w.heap.size, 3, none⟩ = some (.int .i64 a4) := cell_later hb (by first | (with_reducible exact ka3) | (with_reducible exact cell_al _ ka3) | (with_reducible exact cell_al _ (cell_al _ ka3)) | go_simp)
        replace kb0 : w3.cell? ⟨w.heap.size + 1, 0, none⟩ = some (.int .i64 b1) := cell_later hb (by first | (with_reducible exact kb0) | (with_reducible exact cell_al _ kb0) | (with_reducible exact cell_al _ (cell_al _ kb0)) | go_simp)
        replace kb1 : w3.cell? ⟨w.heap.size + 1, 1, none⟩ = some (.int .i64 b2) := cell_later hb (by first | (with_reducible exact kb1) | (with_reducible exact cell_al _ kb1) | (with_reducible exact cell_al _ (cell_al _ kb1)) | go_simp)
        replace kb2 : w3.cell? ⟨w.heap.size + 1, 2, none⟩ = some (.int .i64 b3) := cell_later hb (by first | (with_reducible exact kb2) | (with_reducible exact cell_al _ kb2) | (with_reducible exact cell_al _ (cell_al _ kb2)) | go_simp)
        replace kb3 : w3.cell? ⟨w.heap.size + 1, 3, none⟩ = some (.int .i64 b4) := cell_later hb (by first | (with_reducible exact kb3) | (with_reducible exact cell_al _ kb3) | (with_reducible exact cell_al _ (cell_al _ kb3)) | go_simp)
        replace kr0 : w3.cell? ⟨w.heap.size + 1 + 1, 0, none⟩ = some (.int .i64 0) := cell_later hb (by first | (with_reducible exact kr0) | (with_reducible exact cell_al _ kr0) | (with_reducible exact cell_al _ (cell_al _ kr0)) | go_simp)
        replace jr0 : w3.frozen? ⟨w.heap.size + 1 + 1, 0, none⟩ = false := by rw [(bcell hb).2 _ _ (by first | omega | (simp <;> omega))]; first | (with_reducible exact jr0) | go_simp
        replace kr1 : w3.cell? ⟨w.heap.size + 1 + 1, 1, none⟩ = some (.int .i64 0) := cell_later hb (by first | (with_reducible exact kr1) | (with_reducible exact cell_al _ kr1) | (with_reducible exact cell_al _ (cell_al _ kr1)) | go_simp)
        replace jr1 : w3.frozen? ⟨w.heap.size + 1 + 1, 1, none⟩ = false := by rw [(bcell hb).2 _ _ (by first | omega | (simp <;> omega))]; first | (with_reducible exact jr1) | go_simp
        replace kr2 : w3.cell? ⟨w.heap.size + 1 + 1, 2, none⟩ = some (.int .i64 0) := cell_later hb (by first | (with_reducible exact kr2) | (with_reducible exact cell_al _ kr2) | (with_reducible exact cell_al _ (cell_al _ kr2)) | go_simp)
        replace jr2 : w3.frozen? ⟨w.heap.size + 1 + 1, 2, none⟩ = false := by rw [(bcell hb).2 _ _ (by first | omega | (simp <;> omega))]; first | (with_reducible exact jr2) | go_simp
        replace kr3 : w3.cell? ⟨w.heap.size + 1 + 1, 3, none⟩ = some (.int .i64 0) := cell_later hb (by first | (with_reducible exact kr3) | (with_reducible exact cell_al _ kr3) | (with_reducible exact cell_al _ (cell_al _ kr3)) | go_simp)
        replace jr3 : w3.frozen? ⟨w.heap.size + 1 + 1, 3, none⟩ = false := by rw [(bcell hb).2 _ _ (by first | omega | (simp <;> omega))]; first | (with_reducible exact jr3) | go_simp
        have kx0 : w3.cell? ⟨w2.heap.size, 0, none⟩ = some (.int .i64 0) := cell_later hb (by go_simp)
        have kx1 : w3.cell? ⟨w2.heap.size, 1, none⟩ = some (.int .i64 0) := cell_later hb (by go_simp)
        replace za : w.heap.size < w3.heap.size := World.block_lt_of_cell? _ _ ka0
        replace zb : w.heap.size + 1 < w3.heap.size := World.block_lt_of_cell? _ _ kb0
        replace zr : w.heap.size + 1 + 1 < w3.heap.size := World.block_lt_of_cell? _ _ kr0
        have zx : w2.heap.size < w3.heap.size := World.block_lt_of_cell? _ _ kx0
        replace hb0 : Below w.heap.size w w3 := (by repeat (first | exact Below.refl _ _ | assumption | refine bstep ?_ (by assumption) | refine Below.drew ?_ | refine balloc ?_ _ | refine Below.setCell ?_ (by first | omega | (simp <;> omega)) _))
        clear hb
        go_wp2
        refine bodyPost_ret ?_ rfl ⟨rfl, (by repeat (first | exact Below.refl _ _ | assumption | refine bstep ?_ (by assumption) | refine Below.drew ?_ | refine balloc ?_ _ | refine Below.setCell ?_ (by first | omega | (simp <;> omega)) _))⟩
        simp [results, Try.results29, go_sem, vMeetBox, rMeetBox, selI, erv, h1, h2, zr, kr0, kr1, kr2, kr3]
      ·
        have rx : rMeet a1 a2 b1 b2 = false := h2
        have ry : rMeet a3 a4 b3 b4 = false := h3
        have C1 := fun w => RMeet_c a1 a2 b1 b2 w
        simp only [vx, rx, selI, selB, erv, cond_true, cond_false, Bool.and_true, Bool.and_false, Bool.true_and, Bool.false_and] at C1
        have C2 := fun w => RMeet_c a3 a4 b3 b4 w
        simp only [vy, ry, selI, selB, erv, cond_true, cond_false, Bool.and_true, Bool.and_false, Bool.true_and, Bool.false_and] at C2
        go_enter Try.func29, Try.ntmps29
        go_wp2_with fail
        refine Calls.mono (rbothBoxes_c _ _ _ _ _ _ _ _ _) ?_
        rintro e w1 ⟨rfl, hb⟩
        have ka0 : w1.cell? ⟨w.heap.size, 0, none⟩ = some (.int .i64 a1) := cell_later hb (by go_simp)
        have ka1 : w1.cell? ⟨w.heap.size, 1, none⟩ = some (.int .i64 a2) := cell_later hb (by go_simp)
        have ka2 : w1.cell? ⟨w.heap.size, 2, none⟩ = some (.int .i64 a3) := cell_later hb (by go_simp)
        have ka3 : w1.cell? ⟨w.heap.size, 3, none⟩ = some (.int .i64 a4) := cell_later hb (by go_simp)
        have kb0 : w1.cell? ⟨w.heap.size + 1, 0, none⟩ = some (.int .i64 b1) := cell_later hb (by go_simp)
        have kb1 : w1.cell? ⟨w.heap.size + 1, 1, none⟩ = some (.int .i64 b2) := cell_later hb (by go_simp)
        have kb2 : w1.cell? ⟨w.heap.size + 1, 2, none⟩ = some (.int .i64 b3) := cell_later hb (by go_simp)
        have kb3 : w1.cell? ⟨w.heap.size + 1, 3, none⟩ = some (.int .i64 b4) := cell_later hb (by go_simp)
        have kr0 : w1.cell? ⟨w.heap.size + 1 + 1, 0, none⟩ = some (.int .i64 0) := cell_later hb (by go_simp)
        have jr0 : w1.frozen? ⟨w.heap.size + 1 + 1, 0, none⟩ = false := by rw [(bcell hb).2 _ _ (by first | omega | (simp <;> omega))]; go_simp
        have kr1 : w1.cell? ⟨w.heap.size + 1 + 1, 1, none⟩ = some (.int .i64 0) := cell_later hb (by go_simp)
        have jr1 : w1.frozen? ⟨w.heap.size + 1 + 1, 1, none⟩ = false := by rw [(bcell hb).2 _ _ (by first | omega | (simp <;> omega))]; go_simp
        have kr2 : w1.cell? ⟨w.heap.size + 1 + 1, 2, none⟩ = some (.int .i64 0) := cell_later hb (by go_simp)
        have jr2 : w1.frozen? ⟨w.heap.size + 1 + 1, 2, none⟩ = false := by rw [(bcell hb).2 _ _ (by first | omega | (simp <;> omega))]; go_simp
        have kr3 : w1.cell? ⟨w.heap.size + 1 + 1, 3, none⟩ = some (.int .i64 0) := cell_later hb (by go_simp)
        have jr3 : w1.frozen? ⟨w.heap.size + 1 + 1, 3, none⟩ = false := by rw [(bcell hb).2 _ _ (by first | omega | (simp <;> omega))]; go_simp
        have za : w.heap.size < w1.heap.size := World.block_lt_of_cell? _ _ ka0
        have zb : w.heap.size + 1 < w1.heap.size := World.block_lt_of_cell? _ _ kb0
        have zr : w.heap.size + 1 + 1 < w1.heap.size := World.block_lt_of_cell? _ _ kr0
        have hb0 : Below w.heap.size w w1 := (by repeat (first | exact Below.refl _ _ | assumption | refine bstep ?_ (by assumption) | refine Below.drew ?_ | refine balloc ?_ _ | refine Below.setCell ?_ (by first | omega | (simp <;> omega)) _))
        clear hb
        rw [h1]
        go_wp2_with fail
        refine Calls.mono (C1 _) ?_
        rintro e w2 ⟨rfl, hb⟩
        replace ka0 : w2.cell? ⟨w.heap.size, 0, none⟩ = some (.int .i64 a1) := cell_later hb (by first | (with_reducible exact ka0) | (with_reducible exact cell_al _ ka0) | (with_reducible exact cell_al _ (cell_al _ ka0)) | go_simp)
        replace ka1 : w2.cell? ⟨w.heap.size, 1, none⟩ = some (.int .i64 a2) := cell_later hb (by first | (with_reducible exact ka1) | (with_reducible exact cell_al _ ka1) | (with_reducible exact cell_al _ (cell_al _ ka1)) | go_simp)
        replace ka2 : w2.cell? ⟨w.heap.size, 2, none⟩ = some (.int .i64 a3) := cell_later hb (by first | (with_reducible exact ka2) | (with_reducible exact cell_al _ ka2) | (with_reducible exact cell_al _ (cell_al _ ka2)) | go_simp)
        replace ka3 : w2.cell? ⟨w.heap.size, 3, none⟩ = some (.int .i64 a4) := cell_later hb (by first | (with_reducible exact ka3) | (with_reducible exact cell_al _ ka3) | (with_reducible exact cell_al _ (cell_al _ ka3)) | go_simp)
        replace kb0 : w2.cell? ⟨w.heap.size + 1, 0, none⟩ = some (.int .i64 b1) := cell_later hb (by first | (with_reducible exact kb0) | (with_reducible exact cell_al _ kb0) | (with_reducible exact cell_al _ (cell_al _ kb0)) | go_simp)
        replace kb1 : w2.cell? ⟨w.heap.size + 1, 1, none⟩ = some (.int .i64 b2) := cell_later hb (by first | (with_reducible exact kb1) | (with_reducible exact cell_al _ kb1) | (with_reducible exact cell_al _ (cell_al _ kb1)) | go_simp)
        replace kb2 : w2.cell? ⟨w.heap.size + 1, 2, none⟩ = some (.int .i64 b3) := cell_later hb (by first | (with_reducible exact kb2) | (with_reducible exact cell_al _ kb2) | (with_reducible exact cell_al _ (cell_al _ kb2)) | go_simp)
        replace kb3 : w2.cell? ⟨w.heap.size + 1, 3, none⟩ = some (.int .i64 b4) := cell_later hb (by first | (with_reducible exact kb3) | (with_reducible exact cell_al _ kb3) | (with_reducible exact cell_al _ (cell_al _ kb3)) | go_simp)
        replace kr0 : w2.cell? ⟨w.heap.size + 1 + 1, 0, none⟩ = some (.int .i64 0) := cell_later hb (by first | (with_reducible exact kr0) | (with_reducible exact cell_al _ kr0) | (with_reducible exact cell_al _ (cell_al _ kr0)) | go_simp)
        replace jr0 : w2.frozen? ⟨w.heap.size + 1 + 1, 0, none⟩ = false := by rw [(bcell hb).2 _ _ (by first | omega | (simp <;> omega))]; first | (with_reducible exact jr0) | go_simp
        replace kr1 : w2.cell? ⟨w.heap.size + 1 + 1, 1, none⟩ = some (.int .i64 0) := cell_later hb (by first | (with_reducible exact kr1) | (with_reducible exact cell_al _ kr1) | (with_reducible exact cell_al _ (cell_al _ kr1)) | go_simp)
        replace jr1 : w2.frozen? ⟨w.heap.size + 1 + 1, 1, none⟩ = false := by rw [(bcell hb).2 _ _ (by first | omega | (simp <;> omega))]; first | (with_reducible exact jr1) | go_simp
        replace kr2 : w2.cell? ⟨w.heap.size + 1 + 1, 2, none⟩ = some (.int .i64 0) := cell_later hb (by first | (with_reducible exact kr2) | (with_reducible exact cell_al _ kr2) | (with_reducible exact cell_al _ (cell_al _ kr2)) | go_simp)
        replace jr2 : w2.frozen? ⟨w.heap.size + 1 + 1, 2, none⟩ = false := by rw [(bcell hb).2 _ _ (by first | omega | (simp <;> omega))]; first | (with_reducible exact jr2) | go_simp
        replace kr3 : w2.cell? ⟨w.heap.size + 1 + 1, 3, none⟩ = some (.int .i64 0) := cell_later hb (by first | (with_reducible exact kr3) | (with_reducible exact cell_al _ kr3) | (with_reducible exact cell_al _ (cell_al _ kr3)) | go_simp)
        replace jr3 : w2.frozen? ⟨w.heap.size + 1 + 1, 3, none⟩ = false := by rw [(bcell hb).2 _ _ (by first | omega | (simp <;> omega))]; first | (with_reducible exact jr3) | go_simp
        replace za : w.heap.size < w2.heap.size := World.block_lt_of_cell? _ _ ka0
        replace zb : w.heap.size + 1 < w2.heap.size := World.block_lt_of_cell? _ _ kb0
        replace zr : w.heap.size + 1 + 1 < w2.heap.size := World.block_lt_of_cell? _ _ kr0
        replace hb0 : Below w.heap.size w w2 := (by repeat (first | exact Below.refl _ _ | assumption | refine bstep ?_ (by assumption) | refine Below.drew ?_ | refine balloc ?_ _ | refine Below.setCell ?_ (by first | omega | (simp <;> omega)) _))
        clear hb
        go_wp2_with fail
        refine Calls.mono (C2 _) ?_
        rintro e w3 ⟨rfl, hb⟩
        replace ka0 : w3.cell? ⟨w.heap.size, 0, none⟩ = some (.int .i64 a1) := cell_later hb (by first | (with_reducible exact ka0) | (with_reducible exact cell_al _ ka0) | (with_reducible exact cell_al _ (cell_al _ ka0)) | go_simp)
        replace ka1 : w3.cell? ⟨w.heap.size, 1, none⟩ = some (.int .i64 a2) := cell_later hb (by first | (with_reducible exact ka1) | (with_reducible exact cell_al _ ka1) | (with_reducible exact cell_al _ (cell_al _ ka1)) | go_simp)
        replace ka2 : w3.cell? ⟨w.heap.size, 2, none⟩ = some (.int .i64 a3) := cell_later hb (by first | (with_reducible exact ka2) | (with_reducible exact cell_al _ ka2) | (with_reducible exact cell_al _ (cell_al _ ka2)) | go_simp)
        replace ka3 : w3.cell? ⟨w.heap.size, 3, none⟩ = some (.int .i64 a4) := cell_later hb (by first | (with_reducible exact ka3) | (with_reducible exact cell_al _ ka3) | (with_reducible exact cell_al _ (cell_al _ ka3)) | go_simp)
        replace kb0 : w3.cell? ⟨w.heap.size + 1, 0, none⟩ = some (.int .i64 b1) := cell_later hb (by first | (with_reducible exact kb0) | (with_reducible exact cell_al _ kb0) | (with_reducible exact cell_al _ (cell_al _ kb0)) | go_simp)
        replace kb1 : w3.cell? ⟨w.heap.size + 1, 1, none⟩ = some (.int .i64 b2) := cell_later hb (by first | (with_reducible exact kb1) | (with_reducible exact cell_al _ kb1) | (with_reducible exact cell_al _ (cell_al _ kb1)) | go_simp)
        replace kb2 : w3.cell? ⟨w.heap.size + 1, 2, none⟩ = some (.int .i64 b3) := cell_later hb (by first | (with_reducible exact kb2) | (with_reducible exact cell_al _ kb2) | (with_reducible exact cell_al _ (cell_al _ kb2)) | go_simp)
        replace kb3 : w3.cell? ⟨w.heap.size + 1, 3, none⟩ = some (.int .i64 b4) := cell_later hb (by first | (with_reducible exact kb3) | (with_reducible exact cell_al _ kb3) | (with_reducible exact cell_al _ (cell_al _ kb3)) | go_simp)
        replace kr0 : w3.cell? ⟨w.heap.size + 1 + 1, 0, none⟩ = some (.int .i64 0) := cell_later hb (by first | (with_reducible exact kr0) | (with_reducible exact cell_al _ kr0) | (with_reducible exact cell_al _ (cell_al _ kr0)) | go_simp)
        replace jr0 : w3.frozen? ⟨w.heap.size + 1 + 1, 0, none⟩ = false := by rw [(bcell hb).2 _ _ (by first | omega | (simp <;> omega))]; first | (with_reducible exact jr0) | go_simp
        replace kr1 : w3.cell? ⟨w.heap.size + 1 + 1, 1, none⟩ = some (.int .i64 0) := cell_later hb (by first | (with_reducible exact kr1) | (with_reducible exact cell_al _ kr1) | (with_reducible exact cell_al _ (cell_al _ kr1)) | go_simp)
        replace jr1 : w3.frozen? ⟨w.heap.size + 1 + 1, 1, none⟩ = false := by rw [(bcell hb).2 _ _ (by first | omega | (simp <;> omega))]; first | (with_reducible exact jr1) | go_simp
        replace kr2 : w3.cell? ⟨w.heap.size + 1 + 1, 2, none⟩ = some (.int .i64 0) := cell_later hb (by first | (with_reducible exact kr2) | (with_reducible exact cell_al _ kr2) | (with_reducible exact cell_al _ (cell_al _ kr2)) | go_simp)
        replace jr2 : w3.frozen? ⟨w.heap.size + 1 + 1, 2, none⟩ = false := by rw [(bcell hb).2 _ _ (by first | omega | (simp <;> omega))]; first | (with_reducible exact jr2) | go_simp
        replace kr3 : w3.cell? ⟨w.heap.size + 1 + 1, 3, none⟩ = some (.int .i64 0) := cell_later hb (by first | (with_reducible exact kr3) | (with_reducible exact cell_al _ kr3) | (with_reducible exact cell_al _ (cell_al _ kr3)) | go_simp)
        replace jr3 : w3.frozen? ⟨w.heap.size + 1 + 1, 3, none⟩ = false := by rw [(bcell hb).2 _ _ (by first | omega | (simp <;> omega))]; first | (with_reducible exact jr3) | go_simp
        have kx0 : w3.cell? ⟨w2.heap.size, 0, none⟩ = some (.int .i64 0) := cell_later hb (by go_simp)
        have kx1 : w3.cell? ⟨w2.heap.size, 1, none⟩ = some (.int .i64 0) := cell_later hb (by go_simp)
        replace za : w.heap.size < w3.heap.size := World.block_lt_of_cell? _ _ ka0
        replace zb : w.heap.size + 1 < w3.heap.size := World.block_lt_of_cell? _ _ kb0
        replace zr : w.heap.size + 1 + 1 < w3.heap.size := World.block_lt_of_cell? _ _ kr0
        have zx : w2.heap.size < w3.heap.size := World.block_lt_of_cell? _ _ kx0
        replace hb0 : Below w.heap.size w w3 := (by repeat (first | exact Below.refl _ _ | assumption | refine bstep ?_ (by assumption) | refine Below.drew ?_ | refine balloc ?_ _ | refine Below.setCell ?_ (by first | omega | (simp <;> omega)) _))
        clear hb
        go_wp2
        refine bodyPost_ret ?_ rfl ⟨rfl, (by repeat (first | exact Below.refl _ _ | assumption | refine bstep ?_ (by assumption) | refine Below.drew ?_ | refine balloc ?_ _ | refine Below.setCell ?_ (by first | omega | (simp <;> omega)) _))⟩
        simp [results, Try.results29, go_sem, vMeetBox, rMeetBox, selI, erv, h1, h2, zr, kr0, kr1, kr2, kr3]
  ·
    go_enter Try.func29, Try.ntmps29
    go_wp2_with fail
    refine Calls.mono (rbothBoxes_c _ _ _ _ _ _ _ _ _) ?_
    rintro e w1 ⟨rfl, hb⟩
    have ka0 : w1.cell? ⟨w.heap.size, 0, none⟩ = some (.int .i64 a1) := cell_later hb (by go_simp)
    have ka1 : w1.cell? ⟨w.heap.size, 1, none⟩ = some (.int .i64 a2) := cell_later hb (by go_simp)
    have ka2 : w1.cell? ⟨w.heap.size, 2, none⟩ = some (.int .i64 a3) := cell_later hb (by go_simp)
    have ka3 : w1.cell? ⟨w.heap.size, 3, none⟩ = some (.int .i64 a4) := cell_later hb (by go_simp)
    have kb0 : w1.cell? ⟨w.heap.size + 1, 0, none⟩ = some (.int .i64 b1) := cell_later hb (by go_simp)
    have kb1 : w1.cell? ⟨w.heap.size + 1, 1, none⟩ = some (.int .i64 b2) := cell_later hb (by go_simp)
    have kb2 : w1.cell? ⟨w.heap.size + 1, 2, none⟩ = some (.int .i64 b3) := cell_later hb (by go_simp)
    have kb3 : w1.cell? ⟨w.heap.size + 1, 3, none⟩ = some (.int .i64 b4) := cell_later hb (by go_simp)
    have kr0 : w1.cell? ⟨w.heap.size + 1 + 1, 0, none⟩ = some (.int .i64 0) := cell_later hb (by go_simp)
    have jr0 : w1.frozen? ⟨w.heap.size + 1 + 1, 0, none⟩ = false := by rw [(bcell hb).2 _ _ (by first | omega | (simp <;> omega))]; go_simp
    have kr1 : w1.cell? ⟨w.heap.size + 1 + 1, 1, none⟩ = some (.int .i64 0) := cell_later hb (by go_simp)
    have jr1 : w1.frozen? ⟨w.heap.size + 1 + 1, 1, none⟩ = false := by rw [(bcell hb).2 _ _ (by first | omega | (simp <;> omega))]; go_simp
    have kr2 : w1.cell? ⟨w.heap.size + 1 + 1, 2, none⟩ = some (.int .i64 0) := cell_later hb (by go_simp)
    have jr2 : w1.frozen? ⟨w.heap.size + 1 + 1, 2, none⟩ = false := by rw [(bcell hb).2 _ _ (by first | omega | (simp <;> omega))]; go_simp
    have kr3 : w1.cell? ⟨w.heap.size + 1 + 1, 3, none⟩ = some (.int .i64 0) := cell_later hb (by go_simp)
    have jr3 : w1.frozen? ⟨w.heap.size + 1 + 1, 3, none⟩ = false := by rw [(bcell hb).2 _ _ (by first | omega | (simp <;> omega))]; go_simp
    have za : w.heap.size < w1.heap.size := World.block_lt_of_cell? _ _ ka0
    have zb : w.heap.size + 1 < w1.heap.size := World.block_lt_of_cell? _ _ kb0
    have zr : w.heap.size + 1 + 1 < w1.heap.size := World.block_lt_of_cell? _ _ kr0
    have hb0 : Below w.heap.size w w1 := (by repeat (first | exact Below.refl _ _ | assumption | refine bstep ?_ (by assumption) | refine Below.drew ?_ | refine balloc ?_ _ | refine Below.setCell ?_ (by first | omega | (simp <;> omega)) _))
    clear hb
    rw [h1]
    go_wp2
    refine bodyPost_ret ?_ rfl ⟨rfl, (by repeat (first | exact Below.refl _ _ | assumption | refine bstep ?_ (by assumption) | refine Below.drew ?_ | refine balloc ?_ _ | refine Below.setCell ?_ (by first | omega | (simp <;> omega)) _))⟩
    simp [results, Try.results29, go_sem, vMeetBox, rMeetBox, selI, erv, h1, kr0, kr1, kr2, kr3]

set_option maxHeartbeats 3200000 in
theorem RJoinBox_c (a1 a2 a3 a4 b1 b2 b3 b4 : Int) (w : World)  : Calls Try.prog 31 #[(.agg #[(.int .i64 a1), (.int .i64 a2), (.int .i64 a3), (.int .i64 a4)]), (.agg #[(.int .i64 b1), (.int .i64 b2), (.int .i64 b3), (.int .i64 b4)])] w (Ret w (.tuple #[.agg #[(.int .i64 (selI (vJoinBox a1 a2 a3 a4 b1 b2 b3 b4) (min a1 b1))), (.int .i64 (selI (vJoinBox a1 a2 a3 a4 b1 b2 b3 b4) (max a2 b2))), (.int .i64 (selI (vJoinBox a1 a2 a3 a4 b1 b2 b3 b4) (min a3 b3))), (.int .i64 (selI (vJoinBox a1 a2 a3 a4 b1 b2 b3 b4) (max a4 b4)))], (.int .i64 (erv (vJoinBox a1 a2 a3 a4 b1 b2 b3 b4) true 4))])) := by
  rcases Bool.eq_false_or_eq_true (vB a1 a2 a3 a4 && vB b1 b2 b3 b4) with h1 | h1
  ·
    have u := h1
    rw [Bool.and_eq_true, vB_iff, vB_iff] at u
    have vx : vJoin a1 a2 b1 b2 = true := by unfold vJoin; rw [Bool.and_eq_true, vE_iff, vE_iff]; omega
    have vy : vJoin a3 a4 b3 b4 = true := by unfold vJoin; rw [Bool.and_eq_true, vE_iff, vE_iff]; omega
    have C1 := fun w => RJoin_c a1 a2 b1 b2 w
    simp only [vx, selI, selB, erv, cond_true, cond_false, Bool.and_true, Bool.and_false, Bool.true_and, Bool.false_and] at C1
    have C2 := fun w => RJoin_c a3 a4 b3 b4 w
    simp only [vy, selI, selB, erv, cond_true, cond_false, Bool.and_true, Bool.and_false, Bool.true_and, Bool.false_and] at C2
    go_enter Try.func31, Try.ntmps31
    go_wp2_with fail
    refine Calls.mono (rbothBoxes_c _ _ _ _ _ _ _ _ _) ?_
    rintro e w1 ⟨rfl, hb⟩
    have ka0 : w1.cell? ⟨w.heap.size, 0, none⟩ = some (.int .i64 a1) := cell_later hb (by go_simp)
    have ka1 : w1.cell? ⟨w.heap.size, 1, none⟩ = some (.int .i64 a2) := cell_later hb (by go_simp)
    have ka2 : w1.cell? ⟨w.heap.size, 2, none⟩ = some (.int .i64 a3) := cell_later hb (by go_simp)
    have ka3 : w1.cell? ⟨w.heap.size, 3, none⟩ = some (.int .i64 a4) := cell_later hb (by go_simp)
    have kb0 : w1.cell? ⟨w.heap.size + 1, 0, none⟩ = some (.int .i64 b1) := cell_later hb (by go_simp)
    have kb1 : w1.cell? ⟨w.heap.size + 1, 1, none⟩ = some (.int .i64 b2) := cell_later hb (by go_simp)
    have kb2 : w1.cell? ⟨w.heap.size + 1, 2, none⟩ = some (.int .i64 b3) := cell_later hb (by go_simp)
    have kb3 : w1.cell? ⟨w.heap.size + 1, 3, none⟩ = some (.int .i64 b4) := cell_later hb (by go_simp)
    have kr0 : w1.cell? ⟨w.heap.size + 1 + 1, 0, none⟩ = some (.int .i64 0) := cell_later hb (by go_simp)
    have jr0 : w1.frozen? ⟨w.heap.size + 1 + 1, 0, none⟩ = false := by rw [(bcell hb).2 _ _ (by first | omega | (simp <;> omega))]; go_simp
    have kr1 : w1.cell? ⟨w.heap.size + 1 + 1, 1, none⟩ = some (.int .i64 0) := cell_later hb (by go_simp)
    have jr1 : w1.frozen? ⟨w.heap.size + 1 + 1, 1, none⟩ = false := by rw [(bcell hb).2 _ _ (by first | omega | (simp <;> omega))]; go_simp
    have kr2 : w1.cell? ⟨w.heap.size + 1 + 1, 2, none⟩ = some (.int .i64 0) := cell_later hb (by go_simp)
    have jr2 : w1.frozen? ⟨w.heap.size + 1 + 1, 2, none⟩ = false := by rw [(bcell hb).2 _ _ (by first | omega | (simp <;> omega))]; go_simp
    have kr3 : w1.cell? ⟨w.heap.size + 1 + 1, 3, none⟩ = some (.int .i64 0) := cell_later hb (by go_simp)
    have jr3 : w1.frozen? ⟨w.heap.size + 1 + 1, 3, none⟩ = false := by rw [(bcell hb).2 _ _ (by first | omega | (simp <;> omega))]; go_simp
    have za : w.heap.size < w1.heap.size := World.block_lt_of_cell? _ _ ka0
    have zb : w.heap.size + 1 < w1.heap.size := World.block_lt_of_cell? _ _ kb0
    have zr : w.heap.size + 1 + 1 < w1.heap.size := World.block_lt_of_cell? _ _ kr0
    have hb0 : Below w.heap.size w w1 := (by repeat (first | exact Below.refl _ _ | assumption | refine bstep ?_ (by assumption) | refine Below.drew ?_ | refine balloc ?_ _ | refine Below.setCell ?_ (by first | omega | (simp <;> omega)) _))
    clear hb
    rw [h1]
    go_wp2_with fail
    refine Calls.mono (C1 _) ?_
    rintro e w2 ⟨rfl, hb⟩
    replace ka0 : w2.cell? ⟨w.heap.size, 0, none⟩ = some (.int .i64 a1) := cell_later hb (by first | (with_reducible exact ka0) | (with_reducible exact cell_al _ ka0) | (with_reducible exact cell_al _ (cell_al _ ka0)) | go_simp)
    replace ka1 : w2.cell? ⟨w.heap.size, 1, none⟩ = some (.int .i64 a2) := cell_later hb (by first | (with_reducible exact ka1) | (with_reducible exact cell_al _ ka1) | (with_reducible exact cell_al _ (cell_al _ ka1)) | go_simp)
    replace ka2 : w2.cell? ⟨w.heap.size, 2, none⟩ = some (.int .i64 a3) := cell_later hb (by first | (with_reducible exact ka2) | (with_reducible exact cell_al _ ka2) | (with_reducible exact cell_al _ (cell_al _ ka2)) | go_simp)
    replace ka3 : w2.cell? ⟨w.heap.size, 3, none⟩ = some (.int .i64 a4) := cell_later hb (by first | (with_reducible exact ka3) | (with_reducible exact cell_al _ ka3) | (with_reducible exact cell_al _ (cell_al _ ka3)) | go_simp)
    replace kb0 : w2.cell? ⟨w.heap.size + 1, 0, none⟩ = some (.int .i64 b1) := cell_later hb (by first | (with_reducible exact kb0) | (with_reducible exact cell_al _ kb0) | (with_reducible exact cell_al _ (cell_al _ kb0)) | go_simp)
    replace kb1 : w2.cell? ⟨w.heap.size + 1, 1, none⟩ = some (.int .i64 b2) := cell_later hb (by first | (with_reducible exact kb1) | (with_reducible exact cell_al _ kb1) | (with_reducible exact cell_al _ (cell_al _ kb1)) | go_simp)
    replace kb2 : w2.cell? ⟨w.heap.size + 1, 2, none⟩ = some (.int .i64 b3) := cell_later hb (by first | (with_reducible exact kb2) | (with_reducible exact cell_al _ kb2) | (with_reducible exact cell_al _ (cell_al _ kb2)) | go_simp)
    replace kb3 : w2.cell? ⟨w.heap.size + 1, 3, none⟩ = some (.int .i64 b4) := cell_later hb (by first | (with_reducible exact kb3) | (with_reducible exact cell_al _ kb3) | (with_reducible exact cell_al _ (cell_al _ kb3)) | go_simp)
    replace kr0 : w2.cell? ⟨w.heap.size + 1 + 1, 0, none⟩ = some (.int .i64 0) := cell_later hb (by first | (with_reducible exact kr0) | (with_reducible exact cell_al _ kr0) | (with_reducible exact cell_al _ (cell_al _ kr0)) | go_simp)
    replace jr0 : w2.frozen? ⟨w.heap.size + 1 + 1, 0, none⟩ = false := by rw [(bcell hb).2 _ _ (by first | omega | (simp <;> omega))]; first | (with_reducible exact jr0) | go_simp
    replace kr1 : w2.cell? ⟨w.heap.size + 1 + 1, 1, none⟩ = some (.int .i64 0) := cell_later hb (by first | (with_reducible exact kr1) | (with_reducible exact cell_al _ kr1) | (with_reducible exact cell_al _ (cell_al _ kr1)) | go_simp)
    replace jr1 : w2.frozen? ⟨w.heap.size + 1 + 1, 1, none⟩ = false := by rw [(bcell hb).2 _ _ (by first | omega | (simp <;> omega))]; first | (with_reducible exact jr1) | go_simp
    replace kr2 : w2.cell? ⟨w.heap.size + 1 + 1, 2, none⟩ = some (.int .i64 0) := cell_later hb (by first | (with_reducible exact kr2) | (with_reducible exact cell_al _ kr2) | (with_reducible exact cell_al _ (cell_al _ kr2)) | go_simp)
    replace jr2 : w2.frozen? ⟨w.heap.size + 1 + 1, 2, none⟩ = false := by rw [(bcell hb).2 _ _ (by first | omega | (simp <;> omega))]; first | (with_reducible exact jr2) | go_simp
    replace kr3 : w2.cell? ⟨w.heap.size + 1 + 1, 3, none⟩ = some (.int .i64 0) := cell_later hb (by first | (with_reducible exact kr3) | (with_reducible exact cell_al _ kr3) | (with_reducible exact cell_al _ (cell_al _ kr3)) | go_simp)
    replace jr3 : w2.frozen? ⟨w.heap.size + 1 + 1, 3, none⟩ = false := by rw [(bcell hb).2 _ _ (by first | omega | (simp <;> omega))]; first | (with_reducible exact jr3) | go_simp
    replace za : w.heap.size < w2.heap.size := World.block_lt_of_cell? _ _ ka0
    replace zb : w.heap.size + 1 < w2.heap.size := World.block_lt_of_cell? _ _ kb0
    replace zr : w.heap.size + 1 + 1 < w2.heap.size := World.block_lt_of_cell? _ _ kr0
    replace hb0 : Below w.heap.size w w2 := (by repeat (first | exact Below.refl _ _ | assumption | refine bstep ?_ (by assumption) | refine Below.drew ?_ | refine balloc ?_ _ | refine Below.setCell ?_ (by first | omega | (simp <;> omega)) _))
    clear hb
    go_wp2_with fail
    refine Calls.mono (C2 _) ?_
    rintro e w3 ⟨rfl, hb⟩
    replace ka0 : w3.cell? ⟨w.heap.size, 0, none⟩ = some (.int .i64 a1) := cell_later hb (by first | (with_reducible exact ka0) | (with_reducible exact cell_al _ ka0) | (with_reducible exact cell_al _ (cell_al _ ka0)) | go_simp)
    replace ka1 : w3.cell? ⟨w.heap.size, 1, none⟩ = some (.int .i64 a2) := cell_later hb (by first | (with_reducible exact ka1) | (with_reducible exact cell_al _ ka1) | (with_reducible exact cell_al _ (cell_al _ ka1)) | go_simp)
    replace ka2 : w3.cell? ⟨w.heap.size, 2, none⟩ = some (.int .i64 a3) := cell_later hb (by first | (with_reducible exact ka2) | (with_reducible exact cell_al _ ka2) | (with_reducible exact cell_al _ (cell_al _ ka2)) | go_simp)
    replace ka3 : w3.cell? ⟨w.heap.size, 3, none⟩ = some (.int .i64 a4) := cell_later hb (by first | (with_reducible exact ka3) | (with_reducible exact cell_al _ ka3) | (with_reducible exact cell_al _ (cell_al _ ka3)) | go_simp)
    replace kb0 : w3.cell? ⟨w.heap.size + 1, 0, none⟩ = some (.int .i64 b1) := cell_later hb (by first | (with_reducible exact kb0) | (with_reducible exact cell_al _ kb0) | (with_reducible exact cell_al _ (cell_al _ kb0)) | go_simp)
    replace kb1 : w3.cell? ⟨w.heap.size + 1, 1, none⟩ = some (.int .i64 b2) := cell_later hb (by first | (with_reducible exact kb1) | (with_reducible exact cell_al _ kb1) | (with_reducible exact cell_al _ (cell_al _ kb1)) | go_simp)
    replace kb2 : w3.cell? ⟨w.heap.size + 1, 2, none⟩ = some (.int .i64 b3) := cell_later hb (by first | (with_reducible exact kb2) | (with_reducible exact cell_al _ kb2) | (with_reducible exact cell_al _ (cell_al _ kb2)) | go_simp)
    replace kb3 : w3.cell? ⟨w.heap.size + 1, 3, none⟩ = some (.int .i64 b4) := cell_later hb (by first | (with_reducible exact kb3) | (with_reducible exact cell_al _ kb3) | (with_reducible exact cell_al _ (cell_al _ kb3)) | go_simp)
    replace kr0 : w3.cell? ⟨w.heap.size + 1 + 1, 0, none⟩ = some (.int .i64 0) := cell_later hb (by first | (with_reducible exact kr0) | (with_reducible exact cell_al _ kr0) | (with_reducible exact cell_al _ (cell_al _ kr0)) | go_simp)
    replace jr0 : w3.frozen? ⟨w.heap.size + 1 + 1, 0, none⟩ = false := by rw [(bcell hb).2 _ _ (by first | omega | (simp <;> omega))]; first | (with_reducible exact jr0) | go_simp
    replace kr1 : w3.cell? ⟨w.heap.size + 1 + 1, 1, none⟩ = some (.int .i64 0) := cell_later hb (by first | (with_reducible exact kr1) | (with_reducible exact cell_al _ kr1) | (with_reducible exact cell_al _ (cell_al _ kr1)) | go_simp)
    replace jr1 : w3.frozen? ⟨w.heap.size + 1 + 1, 1, none⟩ = false := by rw [(bcell hb).2 _ _ (by first | omega | (simp <;> omega))]; first | (with_reducible exact jr1) | go_simp
    replace kr2 : w3.cell? ⟨w.heap.size + 1 + 1, 2, none⟩ = some (.int .i64 0) := cell_later hb (by first | (with_reducible exact kr2) | (with_reducible exact cell_al _ kr2) | (with_reducible exact cell_al _ (cell_al _ kr2)) | go_simp)
    replace jr2 : w3.frozen? ⟨w.heap.size + 1 + 1, 2, none⟩ = false := by rw [(bcell hb).2 _ _ (by first | omega | (simp <;> omega))]; first | (with_reducible exact jr2) | go_simp
    replace kr3 : w3.cell? ⟨w.heap.size + 1 + 1, 3, none⟩ = some (.int .i64 0) := cell_later hb (by first | (with_reducible exact kr3) | (with_reducible exact cell_al _ kr3) | (with_reducible exact cell_al _ (cell_al _ kr3)) | go_simp)
    replace jr3 : w3.frozen? ⟨w.heap.size + 1 + 1, 3, none⟩ = false := by rw [(bcell hb).2 _ _ (by first | omega | (simp <;> omega))]; first | (with_reducible exact jr3) | go_simp
    have kx0 : w3.cell? ⟨w2.heap.size, 0, none⟩ = some (.int .i64 (min a1 b1)) := cell_later hb (by go_simp)
    have kx1 : w3.cell? ⟨w2.heap.size, 1, none⟩ = some (.int .i64 (max a2 b2)) := cell_later hb (by go_simp)
    replace za : w.heap.size < w3.heap.size := World.block_lt_of_cell? _ _ ka0
    replace zb : w.heap.size + 1 < w3.heap.size := World.block_lt_of_cell? _ _ kb0
    replace zr : w.heap.size + 1 + 1 < w3.heap.size := World.block_lt_of_cell? _ _ kr0
    have zx : w2.heap.size < w3.heap.size := World.block_lt_of_cell? _ _ kx0
    replace hb0 : Below w.heap.size w w3 := (by repeat (first | exact Below.refl _ _ | assumption | refine bstep ?_ (by assumption) | refine Below.drew ?_ | refine balloc ?_ _ | refine Below.setCell ?_ (by first | omega | (simp <;> omega)) _))
    clear hb
    go_wp2
    refine bodyPost_ret ?_ rfl ⟨rfl, (by repeat (first | exact Below.refl _ _ | assumption | refine bstep ?_ (by assumption) | refine Below.drew ?_ | refine balloc ?_ _ | refine Below.setCell ?_ (by first | omega | (simp <;> omega)) _))⟩
    simp [results, Try.results31, go_sem, vJoinBox, selI, erv, h1, zr, kr0, kr1, kr2, kr3]
  ·
    go_enter Try.func31, Try.ntmps31
    go_wp2_with fail
    refine Calls.mono (rbothBoxes_c _ _ _ _ _ _ _ _ _) ?_
    rintro e w1 ⟨rfl, hb⟩
    have ka0 : w1.cell? ⟨w.heap.size, 0, none⟩ = some (.int .i64 a1) := cell_later hb (by go_simp)
    have ka1 : w1.cell? ⟨w.heap.size, 1, none⟩ = some (.int .i64 a2) := cell_later hb (by go_simp)
    have ka2 : w1.cell? ⟨w.heap.size, 2, none⟩ = some (.int .i64 a3) := cell_later hb (by go_simp)
    have ka3 : w1.cell? ⟨w.heap.size, 3, none⟩ = some (.int .i64 a4) := cell_later hb (by go_simp)
    have kb0 : w1.cell? ⟨w.heap.size + 1, 0, none⟩ = some (.int .i64 b1) := cell_later hb (by go_simp)
    have kb1 : w1.cell? ⟨w.heap.size + 1, 1, none⟩ = some (.int .i64 b2) := cell_later hb (by go_simp)
    have kb2 : w1.cell? ⟨w.heap.size + 1, 2, none⟩ = some (.int .i64 b3) := cell_later hb (by go_simp)
    have kb3 : w1.cell? ⟨w.heap.size + 1, 3, none⟩ = some (.int .i64 b4) := cell_later hb (by go_simp)
    have kr0 : w1.cell? ⟨w.heap.size + 1 + 1, 0, none⟩ = some (.int .i64 0) := cell_later hb (by go_simp)
    have jr0 : w1.frozen? ⟨w.heap.size + 1 + 1, 0, none⟩ = false := by rw [(bcell hb).2 _ _ (by first | omega | (simp <;> omega))]; go_simp
    have kr1 : w1.cell? ⟨w.heap.size + 1 + 1, 1, none⟩ = some (.int .i64 0) := cell_later hb (by go_simp)
    have jr1 : w1.frozen? ⟨w.heap.size + 1 + 1, 1, none⟩ = false := by rw [(bcell hb).2 _ _ (by first | omega | (simp <;> omega))]; go_simp
    have kr2 : w1.cell? ⟨w.heap.size + 1 + 1, 2, none⟩ = some (.int .i64 0) := cell_later hb (by go_simp)
    have jr2 : w1.frozen? ⟨w.heap.size + 1 + 1, 2, none⟩ = false := by rw [(bcell hb).2 _ _ (by first | omega | (simp <;> omega))]; go_simp
    have kr3 : w1.cell? ⟨w.heap.size + 1 + 1, 3, none⟩ = some (.int .i64 0) := cell_later hb (by go_simp)
    have jr3 : w1.frozen? ⟨w.heap.size + 1 + 1, 3, none⟩ = false := by rw [(bcell hb).2 _ _ (by first | omega | (simp <;> omega))]; go_simp
    have za : w.heap.size < w1.heap.size := World.block_lt_of_cell? _ _ ka0
    have zb : w.heap.size + 1 < w1.heap.size := World.block_lt_of_cell? _ _ kb0
    have zr : w.heap.size + 1 + 1 < w1.heap.size := World.block_lt_of_cell? _ _ kr0
    have hb0 : Below w.heap.size w w1 := (by repeat (first | exact Below.refl _ _ | assumption | refine bstep ?_ (by assumption) | refine Below.drew ?_ | refine balloc ?_ _ | refine Below.setCell ?_ (by first | omega | (simp <;> omega)) _))
    clear hb
    rw [h1]
    go_wp2
    refine bodyPost_ret ?_ rfl ⟨rfl, (by repeat (first | exact Below.refl _ _ | assumption | refine bstep ?_ (by assumption) | refine Below.drew ?_ | refine balloc ?_ _ | refine Below.setCell ?_ (by first | omega | (simp <;> omega)) _))⟩
    simp [results, Try.results31, go_sem, vJoinBox, selI, erv, h1, kr0, kr1, kr2, kr3]

set_option maxHeartbeats 3200000 in
theorem RWithinBox_c (a1 a2 a3 a4 b1 b2 b3 b4 : Int) (w : World)  : Calls Try.prog 37 #[(.agg #[(.int .i64 a1), (.int .i64 a2), (.int .i64 a3), (.int .i64 a4)]), (.agg #[(.int .i64 b1), (.int .i64 b2), (.int .i64 b3), (.int .i64 b4)])] w (Ret w (.tuple #[(.bool (selB (vWithinBox a1 a2 a3 a4 b1 b2 b3 b4) (wI a1 a2 b1 b2 && wI a3 a4 b3 b4))), (.int .i64 (erv (vWithinBox a1 a2 a3 a4 b1 b2 b3 b4) true 4))])) := by
  rcases Bool.eq_false_or_eq_true (vB a1 a2 a3 a4 && vB b1 b2 b3 b4) with h1 | h1
  ·
    have u := h1
    rw [Bool.and_eq_true, vB_iff, vB_iff] at u
    have vx : vWithin a1 a2 b1 b2 = true := by unfold vWithin; rw [Bool.and_eq_true, vE_iff, vE_iff]; omega
    have vy : vWithin a3 a4 b3 b4 = true := by unfold vWithin; rw [Bool.and_eq_true, vE_iff, vE_iff]; omega
    have C1 := fun w => RWithin_c a1 a2 b1 b2 w
    simp only [vx, selI, selB, erv, cond_true, cond_false, Bool.and_true, Bool.and_false, Bool.true_and, Bool.false_and] at C1
    have C2 := fun w => RWithin_c a3 a4 b3 b4 w
    simp only [vy, selI, selB, erv, cond_true, cond_false, Bool.and_true, Bool.and_false, Bool.true_and, Bool.false_and] at C2
    rcases Bool.eq_false_or_eq_true (wI a1 a2 b1 b2) with h2 | h2 <;> rcases Bool.eq_false_or_eq_true (wI a3 a4 b3 b4) with h3 | h3
    all_goals
      go_enter Try.func37, Try.ntmps37
      go_wp2_with fail
      refine Calls.mono (rbothBoxes_c _ _ _ _ _ _ _ _ _) ?_
      rintro e w1 ⟨rfl, hb⟩
      have ka0 : w1.cell? ⟨w.heap.size, 0, none⟩ = some (.int .i64 a1) := cell_later hb (by go_simp)
      have ka1 : w1.cell? ⟨w.heap.size, 1, none⟩ = some (.int .i64 a2) := cell_later hb (by go_simp)
      have ka2 : w1.cell? ⟨w.heap.size, 2, none⟩ = some (.int .i64 a3) := cell_later hb (by go_simp)
      have ka3 : w1.cell? ⟨w.heap.size, 3, none⟩ = some (.int .i64 a4) := cell_later hb (by go_simp)
      have kb0 : w1.cell? ⟨w.heap.size + 1, 0, none⟩ = some (.int .i64 b1) := cell_later hb (by go_simp)
      have kb1 : w1.cell? ⟨w.heap.size + 1, 1, none⟩ = some (.int .i64 b2) := cell_later hb (by go_simp)
      have kb2 : w1.cell? ⟨w.heap.size + 1, 2, none⟩ = some (.int .i64 b3) := cell_later hb (by go_simp)
      have kb3 : w1.cell? ⟨w.heap.size + 1, 3, none⟩ = some (.int .i64 b4) := cell_later hb (by go_simp)
      have za : w.heap.size < w1.heap.size := World.block_lt_of_cell? _ _ ka0
      have zb : w.heap.size + 1 < w1.heap.size := World.block_lt_of_cell? _ _ kb0
      have hb0 : Below w.heap.size w w1 := (by repeat (first | exact Below.refl _ _ | assumption | refine bstep ?_ (by assumption) | refine Below.drew ?_ | refine balloc ?_ _ | refine Below.setCell ?_ (by first | omega | (simp <;> omega)) _))
      clear hb
      rw [h1]
      go_wp2_with fail
      refine Calls.mono (C1 _) ?_
      rintro e w2 ⟨rfl, hb⟩
      replace ka0 : w2.cell? ⟨w.heap.size, 0, none⟩ = some (.int .i64 a1) := cell_later hb (by first | (with_reducible exact ka0) | (with_reducible exact cell_al _ ka0) | (with_reducible exact cell_al _ (cell_al _ ka0)) | go_simp)
      replace ka1 : w2.cell? ⟨w.heap.size, 1, none⟩ = some (.int .i64 a2) := cell_later hb (by first | (with_reducible exact ka1) | (with_reducible exact cell_al _ ka1) | (with_reducible exact cell_al _ (cell_al _ ka1)) | go_simp)
      replace ka2 : w2.cell? ⟨w.heap.size, 2, none⟩ = some (.int .i64 a3) := cell_later hb (by first | (with_reducible exact ka2) | (with_reducible exact cell_al _ ka2) | (with_reducible exact cell_al _ (cell_al _ ka2)) | go_simp)
      replace ka3 : w2.cell? ⟨w.heap.size, 3, none⟩ = some (.int .i64 a4) := cell_later hb (by first | (with_reducible exact ka3) | (with_reducible exact cell_al _ ka3) | (with_reducible exact cell_al _ (cell_al _ ka3)) | go_simp)
      replace kb0 : w2.cell? ⟨w.heap.size + 1, 0, none⟩ = some (.int .i64 b1) := cell_later hb (by first | (with_reducible exact kb0) | (with_reducible exact cell_al _ kb0) | (with_reducible exact cell_al _ (cell_al _ kb0)) | go_simp)
      replace kb1 : w2.cell? ⟨w.heap.size + 1, 1, none⟩ = some (.int .i64 b2) := cell_later hb (by first | (with_reducible exact kb1) | (with_reducible exact cell_al _ kb1) | (with_reducible exact cell_al _ (cell_al _ kb1)) | go_simp)
      replace kb2 : w2.cell? ⟨w.heap.size + 1, 2, none⟩ = some (.int .i64 b3) := cell_later hb (by first | (with_reducible exact kb2) | (with_reducible exact cell_al _ kb2) | (with_reducible exact cell_al _ (cell_al _ kb2)) | go_simp)
      replace kb3 : w2.cell? ⟨w.heap.size + 1, 3, none⟩ = some (.int .i64 b4) := cell_later hb (by first | (with_reducible exact kb3) | (with_reducible exact cell_al _ kb3) | (with_reducible exact cell_al _ (cell_al _ kb3)) | go_simp)
      replace za : w.heap.size < w2.heap.size := World.block_lt_of_cell? _ _ ka0
      replace zb : w.heap.size + 1 < w2.heap.size := World.block_lt_of_cell? _ _ kb0
      replace hb0 : Below w.heap.size w w2 := (by repeat (first | exact Below.refl _ _ | assumption | refine bstep ?_ (by assumption) | refine Below.drew ?_ | refine balloc ?_ _ | refine Below.setCell ?_ (by first | omega | (simp <;> omega)) _))
      clear hb
      go_wp2_with fail
      refine Calls.mono (C2 _) ?_
      rintro e w3 ⟨rfl, hb⟩
      replace ka0 : w3.cell? ⟨w.heap.size, 0, none⟩ = some (.int .i64 a1) := cell_later hb (by first | (with_reducible exact ka0) | (with_reducible exact cell_al _ ka0) | (with_reducible exact cell_al _ (cell_al _ ka0)) | go_simp)
      replace ka1 : w3.cell? ⟨w.heap.size, 1, none⟩ = some (.int .i64 a2) := cell_later hb (by first | (with_reducible exact ka1) | (with_reducible exact cell_al _ ka1) | (with_reducible exact cell_al _ (cell_al _ ka1)) | go_simp)
      replace ka2 : w3.cell? ⟨w.heap.size, 2, none⟩ = some (.int .i64 a3) := cell_later hb (by first | (with_reducible exact ka2) | (with_reducible exact cell_al _ ka2) | (with_reducible exact cell_al _ (cell_al _ ka2)) | go_simp)
      replace ka3 : w3.cell? ⟨w.heap.size, 3, none⟩ = some (.int .i64 a4) := cell_later hb (by first | (with_reducible exact ka3) | (with_reducible exact cell_al _ ka3) | (with_reducible exact cell_al _ (cell_al _ ka3)) | go_simp)
      replace kb0 : w3.cell? ⟨w.heap.size + 1, 0, none⟩ = some (.int .i64 b1) := cell_later hb (by first | (with_reducible exact kb0) | (with_reducible exact cell_al _ kb0) | (with_reducible exact cell_al _ (cell_al _ kb0)) | go_simp)
      replace kb1 : w3.cell? ⟨w.heap.size + 1, 1, none⟩ = some (.int .i64 b2) := cell_later hb (by first | (with_reducible exact kb1) | (with_reducible exact cell_al _ kb1) | (with_reducible exact cell_al _ (cell_al _ kb1)) | go_simp)
      replace kb2 : w3.cell? ⟨w.heap.size + 1, 2, none⟩ = some (.int .i64 b3) := cell_later hb (by first | (with_reducible exact kb2) | (with_reducible exact cell_al _ kb2) | (with_reducible exact cell_al _ (cell_al _ kb2)) | go_simp)
      replace kb3 : w3.cell? ⟨w.heap.size + 1, 3, none⟩ = some (.int .i64 b4) := cell_later hb (by first | (with_reducible exact kb3) | (with_reducible exact cell_al _ kb3) | (with_reducible exact cell_al _ (cell_al _ kb3)) | go_simp)
      replace za : w.heap.size < w3.heap.size := World.block_lt_of_cell? _ _ ka0
      replace zb : w.heap.size + 1 < w3.heap.size := World.block_lt_of_cell? _ _ kb0
      replace hb0 : Below w.heap.size w w3 := (by repeat (first | exact Below.refl _ _ | assumption | refine bstep ?_ (by assumption) | refine Below.drew ?_ | refine balloc ?_ _ | refine Below.setCell ?_ (by first | omega | (simp <;> omega)) _))
      clear hb
      go_wp2
      all_goals
        refine bodyPost_ret ?_ rfl ⟨rfl, (by repeat (first | exact Below.refl _ _ | assumption | refine bstep ?_ (by assumption) | refine Below.drew ?_ | refine balloc ?_ _ | refine Below.setCell ?_ (by first | omega | (simp <;> omega)) _))⟩
        simp [results, Try.results37, go_sem, vWithinBox, selB, erv, h1, h2, h3]
  ·
    go_enter Try.func37, Try.ntmps37
    go_wp2_with fail
    refine Calls.mono (rbothBoxes_c _ _ _ _ _ _ _ _ _) ?_
    rintro e w1 ⟨rfl, hb⟩
    have ka0 : w1.cell? ⟨w.heap.size, 0, none⟩ = some (.int .i64 a1) := cell_later hb (by go_simp)
    have ka1 : w1.cell? ⟨w.heap.size, 1, none⟩ = some (.int .i64 a2) := cell_later hb (by go_simp)
    have ka2 : w1.cell? ⟨w.heap.size, 2, none⟩ = some (.int .i64 a3) := cell_later hb (by go_simp)
    have ka3 : w1.cell? ⟨w.heap.size, 3, none⟩ = some (.int .i64 a4) := cell_later hb (by go_simp)
    have kb0 : w1.cell? ⟨w.heap.size + 1, 0, none⟩ = some (.int .i64 b1) := cell_later hb (by go_simp)
    have kb1 : w1.cell? ⟨w.heap.size + 1, 1, none⟩ = some (.int .i64 b2) := cell_later hb (by go_simp)
    have kb2 : w1.cell? ⟨w.heap.size + 1, 2, none⟩ = some (.int .i64 b3) := cell_later hb (by go_simp)
    have kb3 : w1.cell? ⟨w.heap.size + 1, 3, none⟩ = some (.int .i64 b4) := cell_later hb (by go_simp)
    have za : w.heap.size < w1.heap.size := World.block_lt_of_cell? _ _ ka0
    have zb : w.heap.size + 1 < w1.heap.size := World.block_lt_of_cell? _ _ kb0
    have hb0 : Below w.heap.size w w1 := (by repeat (first | exact Below.refl _ _ | assumption | refine bstep ?_ (by assumption) | refine Below.drew ?_ | refine balloc ?_ _ | refine Below.setCell ?_ (by first | omega | (simp <;> omega)) _))
    clear hb
    rw [h1]
    go_wp2
    refine bodyPost_ret ?_ rfl ⟨rfl, (by repeat (first | exact Below.refl _ _ | assumption | refine bstep ?_ (by assumption) | refine Below.drew ?_ | refine balloc ?_ _ | refine Below.setCell ?_ (by first | omega | (simp <;> omega)) _))⟩
    simp [results, Try.results37, go_sem, vWithinBox, selB, erv, h1]

set_option maxHeartbeats 3200000 in
theorem RInBox_c (p1 p2 b1 b2 b3 b4 : Int) (w : World)  : Calls Try.prog 35 #[(.agg #[(.int .i64 p1), (.int .i64 p2)]), (.agg #[(.int .i64 b1), (.int .i64 b2), (.int .i64 b3), (.int .i64 b4)])] w (Ret w (.tuple #[(.bool (selB (vInBox p1 p2 b1 b2 b3 b4) (wI p1 p1 b1 b2 && wI p2 p2 b3 b4))), (.int .i64 (erv (vInBox p1 p2 b1 b2 b3 b4) true 4))])) := by
  rcases Bool.eq_false_or_eq_true (vB p1 p1 p2 p2) with h1 | h1 <;> rcases Bool.eq_false_or_eq_true (vB b1 b2 b3 b4) with h2 | h2
  all_goals
    go_enter Try.func35, Try.ntmps35
    go_wp2_with fail
    refine Calls.mono (rplace_c _ _ _) ?_
    rintro e w1 ⟨rfl, hb⟩
    have kp0 : w1.cell? ⟨w.heap.size, 0, none⟩ = some (.int .i64 p1) := cell_later hb (by go_simp)
    have kp1 : w1.cell? ⟨w.heap.size, 1, none⟩ = some (.int .i64 p2) := cell_later hb (by go_simp)
    have kb0 : w1.cell? ⟨w.heap.size + 1, 0, none⟩ = some (.int .i64 b1) := cell_later hb (by go_simp)
    have kb1 : w1.cell? ⟨w.heap.size + 1, 1, none⟩ = some (.int .i64 b2) := cell_later hb (by go_simp)
    have kb2 : w1.cell? ⟨w.heap.size + 1, 2, none⟩ = some (.int .i64 b3) := cell_later hb (by go_simp)
    have kb3 : w1.cell? ⟨w.heap.size + 1, 3, none⟩ = some (.int .i64 b4) := cell_later hb (by go_simp)
    have zp : w.heap.size < w1.heap.size := World.block_lt_of_cell? _ _ kp0
    have zb : w.heap.size + 1 < w1.heap.size := World.block_lt_of_cell? _ _ kb0
    have hb0 : Below w.heap.size w w1 := (by repeat (first | exact Below.refl _ _ | assumption | refine bstep ?_ (by assumption) | refine Below.drew ?_ | refine balloc ?_ _ | refine Below.setCell ?_ (by first | omega | (simp <;> omega)) _))
    clear hb
    go_wp2_with fail
    refine Calls.mono (rvalidBox_c _ _ _ _ _) ?_
    rintro e w2 ⟨rfl, hb⟩
    replace kp0 : w2.cell? ⟨w.heap.size, 0, none⟩ = some (.int .i64 p1) := cell_later hb (by first | (with_reducible exact kp0) | (with_reducible exact cell_al _ kp0) | (with_reducible exact cell_al _ (cell_al _ kp0)) | go_simp)
    replace kp1 : w2.cell? ⟨w.heap.size, 1, none⟩ = some (.int .i64 p2) := cell_later hb (by first | (with_reducible exact kp1) | (with_reducible exact cell_al _ kp1) | (with_reducible exact cell_al _ (cell_al _ kp1)) | go_simp)
    replace kb0 : w2.cell? ⟨w.heap.size + 1, 0, none⟩ = some (.int .i64 b1) := cell_later hb (by first | (with_reducible exact kb0) | (with_reducible exact cell_al _ kb0) | (with_reducible exact cell_al _ (cell_al _ kb0)) | go_simp)
    replace kb1 : w2.cell? ⟨w.heap.size + 1, 1, none⟩ = some (.int .i64 b2) := cell_later hb (by first | (with_reducible exact kb1) | (with_reducible exact cell_al _ kb1) | (with_reducible exact cell_al _ (cell_al _ kb1)) | go_simp)
    replace kb2 : w2.cell? ⟨w.heap.size + 1, 2, none⟩ = some (.int .i64 b3) := cell_later hb (by first | (with_reducible exact kb2) | (with_reducible exact cell_al _ kb2) | (with_reducible exact cell_al _ (cell_al _ kb2)) | go_simp)
    replace kb3 : w2.cell? ⟨w.heap.size + 1, 3, none⟩ = some (.int .i64 b4) := cell_later hb (by first | (with_reducible exact kb3) | (with_reducible exact cell_al _ kb3) | (with_reducible exact cell_al _ (cell_al _ kb3)) | go_simp)
    replace zp : w.heap.size < w2.heap.size := World.block_lt_of_cell? _ _ kp0
    replace zb : w.heap.size + 1 < w2.heap.size := World.block_lt_of_cell? _ _ kb0
    replace hb0 : Below w.heap.size w w2 := (by repeat (first | exact Below.refl _ _ | assumption | refine bstep ?_ (by assumption) | refine Below.drew ?_ | refine balloc ?_ _ | refine Below.setCell ?_ (by first | omega | (simp <;> omega)) _))
    clear hb
    go_wp2_with (go_at_call 56; refine Calls.mono (rholds_c _ _ _ _ _ _ _) ?_; rintro e wy ⟨rfl, hb⟩)
    all_goals
      refine bodyPost_ret ?_ rfl ⟨rfl, (by repeat (first | exact Below.refl _ _ | assumption | refine bstep ?_ (by assumption) | refine Below.drew ?_ | refine balloc ?_ _ | refine Below.setCell ?_ (by first | omega | (simp <;> omega)) _))⟩
      simp [results, Try.results35, go_sem, vInBox, selB, erv, h1, h2]


end Go.Proofs.Ytendnhmobhicmaa
