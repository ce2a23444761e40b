/- DatT: Undo. -/
import Derived.Test.YtlkjpackjjncaaaDatL
import Derived.Test.YtlkjpackjjncaaaRows
import Derived.WalkKit
import Derived.WalkSpells
import Derived.WalkLawsBesides
import Derived.Lib.Hide
import Derived.Deep.QuietTactic
import Derived.BigQuiet
import Derived.RegionTactic
import Derived.ChangeAlike
import Derived.BigRegion
import Derived.Deep.RegionHeld3
import Derived.Deep.RegionWith
import Derived.Outline
import Derived.Laws.EntriesVeiled
import Derived.Deep.DeepCutAuto
namespace Go.Proofs.Ytlkjpackjjncaaa.Da
open Go.RowKit Sp
set_option linter.unusedSimpArgs false
set_option linter.unusedVariables false

set_option maxRecDepth 20000 in
set_option maxHeartbeats 12800000 in
theorem Undo_c (m1 m2 m3 m4 m5 m6 m7 : Int) (w : World)  : Calls Try.prog 24 #[(.agg #[(.int .i64 m1), (.int .i64 m2), (.int .i64 m3), (.int .i64 m4), (.int .i64 m5), (.int .i64 m6), (.int .i64 m7)])] w (Ret w (.tuple #[.agg #[(.int .i64 (selI ((dV m1 m2 m3 m4 m5 m6 m7) && (dV (nr (m5 * 1000000 * 1000000) (m1 * m5 - m2 * m4)) (nr (-m2 * 1000000 * 1000000) (m1 * m5 - m2 * m4)) (nr (-(nr (m5 * 1000000 * 1000000) (m1 * m5 - m2 * m4) * m3 + nr (-m2 * 1000000 * 1000000) (m1 * m5 - m2 * m4) * m6)) 1000000) (nr (-m4 * 1000000 * 1000000) (m1 * m5 - m2 * m4)) (nr (m1 * 1000000 * 1000000) (m1 * m5 - m2 * m4)) (nr (-(nr (-m4 * 1000000 * 1000000) (m1 * m5 - m2 * m4) * m3 + nr (m1 * 1000000 * 1000000) (m1 * m5 - m2 * m4) * m6)) 1000000) (sp (nr (m5 * 1000000 * 1000000) (m1 * m5 - m2 * m4)) (nr (-m2 * 1000000 * 1000000) (m1 * m5 - m2 * m4)) (nr (-m4 * 1000000 * 1000000) (m1 * m5 - m2 * m4)) (nr (m1 * 1000000 * 1000000) (m1 * m5 - m2 * m4)) m7 1 + 2))) (nr (m5 * 1000000 * 1000000) (m1 * m5 - m2 * m4)))), (.int .i64 (selI ((dV m1 m2 m3 m4 m5 m6 m7) && (dV (nr (m5 * 1000000 * 1000000) (m1 * m5 - m2 * m4)) (nr (-m2 * 1000000 * 1000000) (m1 * m5 - m2 * m4)) (nr (-(nr (m5 * 1000000 * 1000000) (m1 * m5 - m2 * m4) * m3 + nr (-m2 * 1000000 * 1000000) (m1 * m5 - m2 * m4) * m6)) 1000000) (nr (-m4 * 1000000 * 1000000) (m1 * m5 - m2 * m4)) (nr (m1 * 1000000 * 1000000) (m1 * m5 - m2 * m4)) (nr (-(nr (-m4 * 1000000 * 1000000) (m1 * m5 - m2 * m4) * m3 + nr (m1 * 1000000 * 1000000) (m1 * m5 - m2 * m4) * m6)) 1000000) (sp (nr (m5 * 1000000 * 1000000) (m1 * m5 - m2 * m4)) (nr (-m2 * 1000000 * 1000000) (m1 * m5 - m2 * m4)) (nr (-m4 * 1000000 * 1000000) (m1 * m5 - m2 * m4)) (nr (m1 * 1000000 * 1000000) (m1 * m5 - m2 * m4)) m7 1 + 2))) (nr (-m2 * 1000000 * 1000000) (m1 * m5 - m2 * m4)))), (.int .i64 (selI ((dV m1 m2 m3 m4 m5 m6 m7) && (dV (nr (m5 * 1000000 * 1000000) (m1 * m5 - m2 * m4)) (nr (-m2 * 1000000 * 1000000) (m1 * m5 - m2 * m4)) (nr (-(nr (m5 * 1000000 * 1000000) (m1 * m5 - m2 * m4) * m3 + nr (-m2 * 1000000 * 1000000) (m1 * m5 - m2 * m4) * m6)) 1000000) (nr (-m4 * 1000000 * 1000000) (m1 * m5 - m2 * m4)) (nr (m1 * 1000000 * 1000000) (m1 * m5 - m2 * m4)) (nr (-(nr (-m4 * 1000000 * 1000000) (m1 * m5 - m2 * m4) * m3 + nr (m1 * 1000000 * 1000000) (m1 * m5 - m2 * m4) * m6)) 1000000) (sp (nr (m5 * 1000000 * 1000000) (m1 * m5 - m2 * m4)) (nr (-m2 * 1000000 * 1000000) (m1 * m5 - m2 * m4)) (nr (-m4 * 1000000 * 1000000) (m1 * m5 - m2 * m4)) (nr (m1 * 1000000 * 1000000) (m1 * m5 - m2 * m4)) m7 1 + 2))) (nr (-(nr (m5 * 1000000 * 1000000) (m1 * m5 - m2 * m4) * m3 + nr (-m2 * 1000000 * 1000000) (m1 * m5 - m2 * m4) * m6)) 1000000))), (.int .i64 (selI ((dV m1 m2 m3 m4 m5 m6 m7) && (dV (nr (m5 * 1000000 * 1000000) (m1 * m5 - m2 * m4)) (nr (-m2 * 1000000 * 1000000) (m1 * m5 - m2 * m4)) (nr (-(nr (m5 * 1000000 * 1000000) (m1 * m5 - m2 * m4) * m3 + nr (-m2 * 1000000 * 1000000) (m1 * m5 - m2 * m4) * m6)) 1000000) (nr (-m4 * 1000000 * 1000000) (m1 * m5 - m2 * m4)) (nr (m1 * 1000000 * 1000000) (m1 * m5 - m2 * m4)) (nr (-(nr (-m4 * 1000000 * 1000000) (m1 * m5 - m2 * m4) * m3 + nr (m1 * 1000000 * 1000000) (m1 * m5 - m2 * m4) * m6)) 1000000) (sp (nr (m5 * 1000000 * 1000000) (m1 * m5 - m2 * m4)) (nr (-m2 * 1000000 * 1000000) (m1 * m5 - m2 * m4)) (nr (-m4 * 1000000 * 1000000) (m1 * m5 - m2 * m4)) (nr (m1 * 1000000 * 1000000) (m1 * m5 - m2 * m4)) m7 1 + 2))) (nr (-m4 * 1000000 * 1000000) (m1 * m5 - m2 * m4)))), (.int .i64 (selI ((dV m1 m2 m3 m4 m5 m6 m7) && (dV (nr (m5 * 1000000 * 1000000) (m1 * m5 - m2 * m4)) (nr (-m2 * 1000000 * 1000000) (m1 * m5 - m2 * m4)) (nr (-(nr (m5 * 1000000 * 1000000) (m1 * m5 - m2 * m4) * m3 + nr (-m2 * 1000000 * 1000000) (m1 * m5 - m2 * m4) * m6)) 1000000) (nr (-m4 * 1000000 * 1000000) (m1 * m5 - m2 * m4)) (nr (m1 * 1000000 * 1000000) (m1 * m5 - m2 * m4)) (nr (-(nr (-m4 * 1000000 * 1000000) (m1 * m5 - m2 * m4) * m3 + nr (m1 * 1000000 * 1000000) (m1 * m5 - m2 * m4) * m6)) 1000000) (sp (nr (m5 * 1000000 * 1000000) (m1 * m5 - m2 * m4)) (nr (-m2 * 1000000 * 1000000) (m1 * m5 - m2 * m4)) (nr (-m4 * 1000000 * 1000000) (m1 * m5 - m2 * m4)) (nr (m1 * 1000000 * 1000000) (m1 * m5 - m2 * m4)) m7 1 + 2))) (nr (m1 * 1000000 * 1000000) (m1 * m5 - m2 * m4)))), (.int .i64 (selI ((dV m1 m2 m3 m4 m5 m6 m7) && (dV (nr (m5 * 1000000 * 1000000) (m1 * m5 - m2 * m4)) (nr (-m2 * 1000000 * 1000000) (m1 * m5 - m2 * m4)) (nr (-(nr (m5 * 1000000 * 1000000) (m1 * m5 - m2 * m4) * m3 + nr (-m2 * 1000000 * 1000000) (m1 * m5 - m2 * m4) * m6)) 1000000) (nr (-m4 * 1000000 * 1000000) (m1 * m5 - m2 * m4)) (nr (m1 * 1000000 * 1000000) (m1 * m5 - m2 * m4)) (nr (-(nr (-m4 * 1000000 * 1000000) (m1 * m5 - m2 * m4) * m3 + nr (m1 * 1000000 * 1000000) (m1 * m5 - m2 * m4) * m6)) 1000000) (sp (nr (m5 * 1000000 * 1000000) (m1 * m5 - m2 * m4)) (nr (-m2 * 1000000 * 1000000) (m1 * m5 - m2 * m4)) (nr (-m4 * 1000000 * 1000000) (m1 * m5 - m2 * m4)) (nr (m1 * 1000000 * 1000000) (m1 * m5 - m2 * m4)) m7 1 + 2))) (nr (-(nr (-m4 * 1000000 * 1000000) (m1 * m5 - m2 * m4) * m3 + nr (m1 * 1000000 * 1000000) (m1 * m5 - m2 * m4) * m6)) 1000000))), (.int .i64 (selI ((dV m1 m2 m3 m4 m5 m6 m7) && (dV (nr (m5 * 1000000 * 1000000) (m1 * m5 - m2 * m4)) (nr (-m2 * 1000000 * 1000000) (m1 * m5 - m2 * m4)) (nr (-(nr (m5 * 1000000 * 1000000) (m1 * m5 - m2 * m4) * m3 + nr (-m2 * 1000000 * 1000000) (m1 * m5 - m2 * m4) * m6)) 1000000) (nr (-m4 * 1000000 * 1000000) (m1 * m5 - m2 * m4)) (nr (m1 * 1000000 * 1000000) (m1 * m5 - m2 * m4)) (nr (-(nr (-m4 * 1000000 * 1000000) (m1 * m5 - m2 * m4) * m3 + nr (m1 * 1000000 * 1000000) (m1 * m5 - m2 * m4) * m6)) 1000000) (sp (nr (m5 * 1000000 * 1000000) (m1 * m5 - m2 * m4)) (nr (-m2 * 1000000 * 1000000) (m1 * m5 - m2 * m4)) (nr (-m4 * 1000000 * 1000000) (m1 * m5 - m2 * m4)) (nr (m1 * 1000000 * 1000000) (m1 * m5 - m2 * m4)) m7 1 + 2))) (sp (nr (m5 * 1000000 * 1000000) (m1 * m5 - m2 * m4)) (nr (-m2 * 1000000 * 1000000) (m1 * m5 - m2 * m4)) (nr (-m4 * 1000000 * 1000000) (m1 * m5 - m2 * m4)) (nr (m1 * 1000000 * 1000000) (m1 * m5 - m2 * m4)) m7 1 + 2)))], (.int .i64 (erv (dV m1 m2 m3 m4 m5 m6 m7) (dV (nr (m5 * 1000000 * 1000000) (m1 * m5 - m2 * m4)) (nr (-m2 * 1000000 * 1000000) (m1 * m5 - m2 * m4)) (nr (-(nr (m5 * 1000000 * 1000000) (m1 * m5 - m2 * m4) * m3 + nr (-m2 * 1000000 * 1000000) (m1 * m5 - m2 * m4) * m6)) 1000000) (nr (-m4 * 1000000 * 1000000) (m1 * m5 - m2 * m4)) (nr (m1 * 1000000 * 1000000) (m1 * m5 - m2 * m4)) (nr (-(nr (-m4 * 1000000 * 1000000) (m1 * m5 - m2 * m4) * m3 + nr (m1 * 1000000 * 1000000) (m1 * m5 - m2 * m4) * m6)) 1000000) (sp (nr (m5 * 1000000 * 1000000) (m1 * m5 - m2 * m4)) (nr (-m2 * 1000000 * 1000000) (m1 * m5 - m2 * m4)) (nr (-m4 * 1000000 * 1000000) (m1 * m5 - m2 * m4)) (nr (m1 * 1000000 * 1000000) (m1 * m5 - m2 * m4)) m7 1 + 2)) 3))])) := by
  rcases Bool.eq_false_or_eq_true (dV m1 m2 m3 m4 m5 m6 m7) with h1 | h1
  ·
    have g := rg_of h1
    have U1 := fun w => undo_c m1 m2 m3 m4 m5 m6 m7 w g.h1 g.h2 g.h4 g.h5 g.h3 g.h6 g.h7 g.hd
    generalize sp (nr (m5 * 1000000 * 1000000) (m1 * m5 - m2 * m4)) (nr (-m2 * 1000000 * 1000000) (m1 * m5 - m2 * m4)) (nr (-m4 * 1000000 * 1000000) (m1 * m5 - m2 * m4)) (nr (m1 * 1000000 * 1000000) (m1 * m5 - m2 * m4)) m7 1 + 2 = c7 at *
    generalize nr (-(nr (m5 * 1000000 * 1000000) (m1 * m5 - m2 * m4) * m3 + nr (-m2 * 1000000 * 1000000) (m1 * m5 - m2 * m4) * m6)) 1000000 = c3 at *
    generalize nr (-(nr (-m4 * 1000000 * 1000000) (m1 * m5 - m2 * m4) * m3 + nr (m1 * 1000000 * 1000000) (m1 * m5 - m2 * m4) * m6)) 1000000 = c6 at *
    generalize nr (m5 * 1000000 * 1000000) (m1 * m5 - m2 * m4) = c1 at *
    generalize nr (-m2 * 1000000 * 1000000) (m1 * m5 - m2 * m4) = c2 at *
    generalize nr (-m4 * 1000000 * 1000000) (m1 * m5 - m2 * m4) = c4 at *
    generalize nr (m1 * 1000000 * 1000000) (m1 * m5 - m2 * m4) = c5 at *
    go_enter Try.func24, Try.ntmps24
    go_wp2_with fail
    refine Calls.mono (Valid_c m1 m2 m3 m4 m5 m6 m7 _) ?_
    rintro e w1 ⟨rfl, hb⟩
    have km0 : w1.cell? ⟨w.heap.size, 0, none⟩ = some (.int .i64 m1) := cell_later hb (by go_simp)
    have km1 : w1.cell? ⟨w.heap.size, 1, none⟩ = some (.int .i64 m2) := cell_later hb (by go_simp)
    have km2 : w1.cell? ⟨w.heap.size, 2, none⟩ = some (.int .i64 m3) := cell_later hb (by go_simp)
    have km3 : w1.cell? ⟨w.heap.size, 3, none⟩ = some (.int .i64 m4) := cell_later hb (by go_simp)
    have km4 : w1.cell? ⟨w.heap.size, 4, none⟩ = some (.int .i64 m5) := cell_later hb (by go_simp)
    have km5 : w1.cell? ⟨w.heap.size, 5, none⟩ = some (.int .i64 m6) := cell_later hb (by go_simp)
    have km6 : w1.cell? ⟨w.heap.size, 6, none⟩ = some (.int .i64 m7) := cell_later hb (by go_simp)
    have kr0 : w1.cell? ⟨w.heap.size + 1, 0, none⟩ = some (.int .i64 0) := cell_later hb (by go_simp)
    have jr0 : w1.frozen? ⟨w.heap.size + 1, 0, none⟩ = false := by rw [(bcell hb).2 _ _ (by first | omega | (simp <;> omega))]; go_simp
    have kr1 : w1.cell? ⟨w.heap.size + 1, 1, none⟩ = some (.int .i64 0) := cell_later hb (by go_simp)
    have jr1 : w1.frozen? ⟨w.heap.size + 1, 1, none⟩ = false := by rw [(bcell hb).2 _ _ (by first | omega | (simp <;> omega))]; go_simp
    have kr2 : w1.cell? ⟨w.heap.size + 1, 2, none⟩ = some (.int .i64 0) := cell_later hb (by go_simp)
    have jr2 : w1.frozen? ⟨w.heap.size + 1, 2, none⟩ = false := by rw [(bcell hb).2 _ _ (by first | omega | (simp <;> omega))]; go_simp
    have kr3 : w1.cell? ⟨w.heap.size + 1, 3, none⟩ = some (.int .i64 0) := cell_later hb (by go_simp)
    have jr3 : w1.frozen? ⟨w.heap.size + 1, 3, none⟩ = false := by rw [(bcell hb).2 _ _ (by first | omega | (simp <;> omega))]; go_simp
    have kr4 : w1.cell? ⟨w.heap.size + 1, 4, none⟩ = some (.int .i64 0) := cell_later hb (by go_simp)
    have jr4 : w1.frozen? ⟨w.heap.size + 1, 4, none⟩ = false := by rw [(bcell hb).2 _ _ (by first | omega | (simp <;> omega))]; go_simp
    have kr5 : w1.cell? ⟨w.heap.size + 1, 5, none⟩ = some (.int .i64 0) := cell_later hb (by go_simp)
    have jr5 : w1.frozen? ⟨w.heap.size + 1, 5, none⟩ = false := by rw [(bcell hb).2 _ _ (by first | omega | (simp <;> omega))]; go_simp
    have kr6 : w1.cell? ⟨w.heap.size + 1, 6, none⟩ = some (.int .i64 0) := cell_later hb (by go_simp)
    have jr6 : w1.frozen? ⟨w.heap.size + 1, 6, none⟩ = false := by rw [(bcell hb).2 _ _ (by first | omega | (simp <;> omega))]; go_simp
    have zm : w.heap.size < w1.heap.size := World.block_lt_of_cell? _ _ km0
    have zm_w1 := zm
    have zr : w.heap.size + 1 < w1.heap.size := World.block_lt_of_cell? _ _ kr0
    have zr_w1 := zr
    have hb0 : Below w.heap.size w w1 := (by repeat (first | with_reducible exact Below.refl _ _ | with_reducible assumption | with_reducible refine Below.setCell ?_ (by first | omega | (simp <;> omega)) _ | with_reducible refine balloc ?_ _ | with_reducible refine Below.drew ?_ | with_reducible refine bstep ?_ (by with_reducible assumption)))
    have hs_w1 := hb.size; (try simp only [World.size_alloc, World.size_setCell] at hs_w1)
    clear hb
    rw [h1]
    go_wp2_with fail
    refine Calls.mono (affineOf_c m1 m2 m3 m4 m5 m6 m7 _) ?_
    rintro e w2 ⟨rfl, hb⟩
    replace km0 := cell_later hb km0
    replace km1 := cell_later hb km1
    replace km2 := cell_later hb km2
    replace km3 := cell_later hb km3
    replace km4 := cell_later hb km4
    replace km5 := cell_later hb km5
    replace km6 := cell_later hb km6
    replace jr0 := fro_later hb kr0 jr0
    replace kr0 := cell_later hb kr0
    replace jr1 := fro_later hb kr1 jr1
    replace kr1 := cell_later hb kr1
    replace jr2 := fro_later hb kr2 jr2
    replace kr2 := cell_later hb kr2
    replace jr3 := fro_later hb kr3 jr3
    replace kr3 := cell_later hb kr3
    replace jr4 := fro_later hb kr4 jr4
    replace kr4 := cell_later hb kr4
    replace jr5 := fro_later hb kr5 jr5
    replace kr5 := cell_later hb kr5
    replace jr6 := fro_later hb kr6 jr6
    replace kr6 := cell_later hb kr6
    replace zm : w.heap.size < w2.heap.size := World.block_lt_of_cell? _ _ km0
    have zm_w2 := zm
    replace zr : w.heap.size + 1 < w2.heap.size := World.block_lt_of_cell? _ _ kr0
    have zr_w2 := zr
    replace hb0 : Below w.heap.size w w2 := (by repeat (first | with_reducible exact Below.refl _ _ | with_reducible assumption | with_reducible refine Below.setCell ?_ (by first | omega | (simp <;> omega)) _ | with_reducible refine balloc ?_ _ | with_reducible refine Below.drew ?_ | with_reducible refine bstep ?_ (by with_reducible assumption)))
    have hs_w2 : w1.heap.size ≤ w2.heap.size := hb.size
    clear hb
    go_wp2_with fail
    refine Calls.mono (U1 _) ?_
    rintro e w3 ⟨rfl, hb⟩
    replace km0 := cell_later hb km0
    replace km1 := cell_later hb km1
    replace km2 := cell_later hb km2
    replace km3 := cell_later hb km3
    replace km4 := cell_later hb km4
    replace km5 := cell_later hb km5
    replace km6 := cell_later hb km6
    replace jr0 := fro_later hb kr0 jr0
    replace kr0 := cell_later hb kr0
    replace jr1 := fro_later hb kr1 jr1
    replace kr1 := cell_later hb kr1
    replace jr2 := fro_later hb kr2 jr2
    replace kr2 := cell_later hb kr2
    replace jr3 := fro_later hb kr3 jr3
    replace kr3 := cell_later hb kr3
    replace jr4 := fro_later hb kr4 jr4
    replace kr4 := cell_later hb kr4
    replace jr5 := fro_later hb kr5 jr5
    replace kr5 := cell_later hb kr5
    replace jr6 := fro_later hb kr6 jr6
    replace kr6 := cell_later hb kr6
    replace zm : w.heap.size < w3.heap.size := World.block_lt_of_cell? _ _ km0
    have zm_w3 := zm
    replace zr : w.heap.size + 1 < w3.heap.size := World.block_lt_of_cell? _ _ kr0
    have zr_w3 := zr
    replace hb0 : Below w.heap.size w w3 := (by repeat (first | with_reducible exact Below.refl _ _ | with_reducible assumption | with_reducible refine Below.setCell ?_ (by first | omega | (simp <;> omega)) _ | with_reducible refine balloc ?_ _ | with_reducible refine Below.drew ?_ | with_reducible refine bstep ?_ (by with_reducible assumption)))
    have hs_w3 : w2.heap.size ≤ w3.heap.size := hb.size
    clear hb
    go_wp2_with fail
    refine Calls.mono (inRange_c c1 c2 c3 c4 c5 c6 c7 _) ?_
    rintro e w4 ⟨rfl, hb⟩
    replace km0 := cell_later hb km0
    replace km1 := cell_later hb km1
    replace km2 := cell_later hb km2
    replace km3 := cell_later hb km3
    replace km4 := cell_later hb km4
    replace km5 := cell_later hb km5
    replace km6 := cell_later hb km6
    replace jr0 := fro_later hb kr0 jr0
    replace kr0 := cell_later hb kr0
    replace jr1 := fro_later hb kr1 jr1
    replace kr1 := cell_later hb kr1
    replace jr2 := fro_later hb kr2 jr2
    replace kr2 := cell_later hb kr2
    replace jr3 := fro_later hb kr3 jr3
    replace kr3 := cell_later hb kr3
    replace jr4 := fro_later hb kr4 jr4
    replace kr4 := cell_later hb kr4
    replace jr5 := fro_later hb kr5 jr5
    replace kr5 := cell_later hb kr5
    replace jr6 := fro_later hb kr6 jr6
    replace kr6 := cell_later hb kr6
    replace zm : w.heap.size < w4.heap.size := World.block_lt_of_cell? _ _ km0
    have zm_w4 := zm
    replace zr : w.heap.size + 1 < w4.heap.size := World.block_lt_of_cell? _ _ kr0
    have zr_w4 := zr
    replace hb0 : Below w.heap.size w w4 := (by repeat (first | with_reducible exact Below.refl _ _ | with_reducible assumption | with_reducible refine Below.setCell ?_ (by first | omega | (simp <;> omega)) _ | with_reducible refine balloc ?_ _ | with_reducible refine Below.drew ?_ | with_reducible refine bstep ?_ (by with_reducible assumption)))
    have hs_w4 : w3.heap.size ≤ w4.heap.size := hb.size
    clear hb
    go_wp2
    refine bodyPost_ret ?_ rfl ⟨rfl, (by repeat (first | with_reducible exact Below.refl _ _ | with_reducible assumption | with_reducible refine Below.setCell ?_ (by first | omega | (simp <;> omega)) _ | with_reducible refine balloc ?_ _ | with_reducible refine Below.drew ?_ | with_reducible refine bstep ?_ (by with_reducible assumption)))⟩
    simp [results, Try.results24, go_sem, selI, erv, h1, kr0, kr1, kr2, kr3, kr4, kr5, kr6]
  ·
    go_enter Try.func24, Try.ntmps24
    go_wp2_with fail
    refine Calls.mono (Valid_c m1 m2 m3 m4 m5 m6 m7 _) ?_
    rintro e w1 ⟨rfl, hb⟩
    have km0 : w1.cell? ⟨w.heap.size, 0, none⟩ = some (.int .i64 m1) := cell_later hb (by go_simp)
    have km1 : w1.cell? ⟨w.heap.size, 1, none⟩ = some (.int .i64 m2) := cell_later hb (by go_simp)
    have km2 : w1.cell? ⟨w.heap.size, 2, none⟩ = some (.int .i64 m3) := cell_later hb (by go_simp)
    have km3 : w1.cell? ⟨w.heap.size, 3, none⟩ = some (.int .i64 m4) := cell_later hb (by go_simp)
    have km4 : w1.cell? ⟨w.heap.size, 4, none⟩ = some (.int .i64 m5) := cell_later hb (by go_simp)
    have km5 : w1.cell? ⟨w.heap.size, 5, none⟩ = some (.int .i64 m6) := cell_later hb (by go_simp)
    have km6 : w1.cell? ⟨w.heap.size, 6, none⟩ = some (.int .i64 m7) := cell_later hb (by go_simp)
    have kr0 : w1.cell? ⟨w.heap.size + 1, 0, none⟩ = some (.int .i64 0) := cell_later hb (by go_simp)
    have jr0 : w1.frozen? ⟨w.heap.size + 1, 0, none⟩ = false := by rw [(bcell hb).2 _ _ (by first | omega | (simp <;> omega))]; go_simp
    have kr1 : w1.cell? ⟨w.heap.size + 1, 1, none⟩ = some (.int .i64 0) := cell_later hb (by go_simp)
    have jr1 : w1.frozen? ⟨w.heap.size + 1, 1, none⟩ = false := by rw [(bcell hb).2 _ _ (by first | omega | (simp <;> omega))]; go_simp
    have kr2 : w1.cell? ⟨w.heap.size + 1, 2, none⟩ = some (.int .i64 0) := cell_later hb (by go_simp)
    have jr2 : w1.frozen? ⟨w.heap.size + 1, 2, none⟩ = false := by rw [(bcell hb).2 _ _ (by first | omega | (simp <;> omega))]; go_simp
    have kr3 : w1.cell? ⟨w.heap.size + 1, 3, none⟩ = some (.int .i64 0) := cell_later hb (by go_simp)
    have jr3 : w1.frozen? ⟨w.heap.size + 1, 3, none⟩ = false := by rw [(bcell hb).2 _ _ (by first | omega | (simp <;> omega))]; go_simp
    have kr4 : w1.cell? ⟨w.heap.size + 1, 4, none⟩ = some (.int .i64 0) := cell_later hb (by go_simp)
    have jr4 : w1.frozen? ⟨w.heap.size + 1, 4, none⟩ = false := by rw [(bcell hb).2 _ _ (by first | omega | (simp <;> omega))]; go_simp
    have kr5 : w1.cell? ⟨w.heap.size + 1, 5, none⟩ = some (.int .i64 0) := cell_later hb (by go_simp)
    have jr5 : w1.frozen? ⟨w.heap.size + 1, 5, none⟩ = false := by rw [(bcell hb).2 _ _ (by first | omega | (simp <;> omega))]; go_simp
    have kr6 : w1.cell? ⟨w.heap.size + 1, 6, none⟩ = some (.int .i64 0) := cell_later hb (by go_simp)
    have jr6 : w1.frozen? ⟨w.heap.size + 1, 6, none⟩ = false := by rw [(bcell hb).2 _ _ (by first | omega | (simp <;> omega))]; go_simp
    have zm : w.heap.size < w1.heap.size := World.block_lt_of_cell? _ _ km0
    have zm_w1 := zm
    have zr : w.heap.size + 1 < w1.heap.size := World.block_lt_of_cell? _ _ kr0
    have zr_w1 := zr
    have hb0 : Below w.heap.size w w1 := (by repeat (first | with_reducible exact Below.refl _ _ | with_reducible assumption | with_reducible refine Below.setCell ?_ (by first | omega | (simp <;> omega)) _ | with_reducible refine balloc ?_ _ | with_reducible refine Below.drew ?_ | with_reducible refine bstep ?_ (by with_reducible assumption)))
    have hs_w1 := hb.size; (try simp only [World.size_alloc, World.size_setCell] at hs_w1)
    clear hb
    rw [h1]
    go_wp2
    refine bodyPost_ret ?_ rfl ⟨rfl, (by repeat (first | with_reducible exact Below.refl _ _ | with_reducible assumption | with_reducible refine Below.setCell ?_ (by first | omega | (simp <;> omega)) _ | with_reducible refine balloc ?_ _ | with_reducible refine Below.drew ?_ | with_reducible refine bstep ?_ (by with_reducible assumption)))⟩
    simp [results, Try.results24, go_sem, selI, erv, h1, kr0, kr1, kr2, kr3, kr4, kr5, kr6]


end Go.Proofs.Ytlkjpackjjncaaa.Da
