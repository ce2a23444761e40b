/- DatH: places. -/
import Derived.Test.YtlkjpackjjncaaaDatF
import Derived.Test.YtlkjpackjjncaaaSpanC
import Derived.Test.YtlkjpackjjncaaaRows
import Derived.WalkKit
import Derived.WalkSpells
import Derived.WalkLawsBesides
import Derived.Lib.Hide
import Derived.Deep.QuietTactic
import Derived.BigQuiet
import Derived.RegionTactic
import Derived.ChangeAlike
import Derived.BigRegion
import Derived.Deep.RegionHeld3
import Derived.Deep.RegionWith
import Derived.Outline
import Derived.Laws.EntriesVeiled
import Derived.Deep.DeepCutAuto
namespace Go.Proofs.Ytlkjpackjjncaaa.Da
open Go.RowKit Sp
set_option linter.unusedSimpArgs false
set_option linter.unusedVariables false

theorem meet_all (s1 s2 : Int) (h1 : -100000000 ≤ s1) (h2 : s1 ≤ 100000000) (h3 : -100000000 ≤ s2) (h4 : s2 ≤ 100000000) :
    ∃ e : Int, (rM s1 s2 (-1000000) 1000000 = true → e = 0) ∧ (rM s1 s2 (-1000000) 1000000 = false → e ≠ 0) ∧ 0 ≤ e ∧ e ≤ 4 ∧ ∀ w, Calls Try.prog 80 #[(.agg #[.int .i64 s1, .int .i64 s2]), (.agg #[(.int .i64 (-1000000)), (.int .i64 1000000)])] w (Ret w (.tuple #[.agg #[(.int .i64 (selI (rM s1 s2 (-1000000) 1000000) (max s1 (-1000000)))), (.int .i64 (selI (rM s1 s2 (-1000000) 1000000) (min s2 1000000)))], (.int .i64 e)])) := by
  have C := fun w => Meet_c s1 s2 (-1000000) 1000000 w
  have ev : vE 1000000000000 (-1000000) 1000000 = true := by decide
  rcases Bool.eq_false_or_eq_true (rM s1 s2 (-1000000) 1000000) with h | h
  · have hr := h
    rw [rM_iff] at hr
    have v : vMeet s1 s2 (-1000000) 1000000 = true := by unfold vMeet; rw [Bool.and_eq_true, vE_iff]; exact ⟨by omega, ev⟩
    have q : rMeet s1 s2 (-1000000) 1000000 = true := h
    simp only [v, q, erv, Bool.and_true, cond_true] at C
    exact ⟨0, fun _ => rfl, (fun k => by rw [h] at k; cases k), by omega, by omega, by rw [h]; exact C⟩
  · have q : rMeet s1 s2 (-1000000) 1000000 = false := h
    rcases Bool.eq_false_or_eq_true (vMeet s1 s2 (-1000000) 1000000) with v | v
    · simp only [v, q, erv, Bool.and_false, cond_true, cond_false] at C
      exact ⟨4, (fun k => by rw [h] at k; cases k), fun _ => by omega, by omega, by omega, by rw [h]; exact C⟩
    · simp only [v, q, erv, Bool.and_false, Bool.false_and, cond_true, cond_false] at C
      exact ⟨1, (fun k => by rw [h] at k; cases k), fun _ => by omega, by omega, by omega, by rw [h]; exact C⟩

set_option maxHeartbeats 3200000 in
theorem places_c (x1 x2 y1 y2 : Int) (w : World) (hx1 : -100000000 ≤ x1 ∧ x1 ≤ 100000000) (hx2 : -100000000 ≤ x2 ∧ x2 ≤ 100000000) (hy1 : -100000000 ≤ y1 ∧ y1 ≤ 100000000) (hy2 : -100000000 ≤ y2 ∧ y2 ≤ 100000000) : Calls Try.prog 65 #[(.agg #[(.int .i64 x1), (.int .i64 x2)]), (.agg #[(.int .i64 y1), (.int .i64 y2)])] w (Ret w (.tuple #[.agg #[(.int .i64 (selI (rPl x1 x2 y1 y2) (max x1 (-1000000)))), (.int .i64 (selI (rPl x1 x2 y1 y2) (min x2 1000000))), (.int .i64 (selI (rPl x1 x2 y1 y2) (max y1 (-1000000)))), (.int .i64 (selI (rPl x1 x2 y1 y2) (min y2 1000000)))], (.int .i64 (erv true (rPl x1 x2 y1 y2) 4))])) := by
  obtain ⟨e, he1, he2, he3, he4, C1⟩ := meet_all x1 x2 (by omega) (by omega) (by omega) (by omega)
  obtain ⟨f, hf1, hf2, hf3, hf4, C2⟩ := meet_all y1 y2 (by omega) (by omega) (by omega) (by omega)
  unfold rPl
  rcases Bool.eq_false_or_eq_true (rM x1 x2 (-1000000) 1000000) with h1 | h1
  ·
    have e0 := he1 h1
    rcases Bool.eq_false_or_eq_true (rM y1 y2 (-1000000) 1000000) with h2 | h2
    ·
      have f0 := hf1 h2
      rw [h1] at C1 ⊢
      rw [h2] at C2 ⊢
      simp only [selI, selB, erv, cond_true, cond_false, Bool.and_true, Bool.and_false, Bool.true_and, Bool.false_and] at C1 C2 ⊢
      subst e0
      subst f0
      clear he1 he2 hf1 hf2
      go_enter Try.func65, Try.ntmps65
      go_wp2_with fail
      refine Calls.mono (C1 _) ?_
      rintro e w1 ⟨rfl, hb⟩
      have kx0 : w1.cell? ⟨w.heap.size, 0, none⟩ = some (.int .i64 x1) := cell_later hb (by go_simp)
      have jx0 : w1.frozen? ⟨w.heap.size, 0, none⟩ = false := by rw [(bcell hb).2 _ _ (by first | omega | (simp <;> omega))]; go_simp
      have kx1 : w1.cell? ⟨w.heap.size, 1, none⟩ = some (.int .i64 x2) := cell_later hb (by go_simp)
      have jx1 : w1.frozen? ⟨w.heap.size, 1, none⟩ = false := by rw [(bcell hb).2 _ _ (by first | omega | (simp <;> omega))]; go_simp
      have ky0 : w1.cell? ⟨w.heap.size + 1, 0, none⟩ = some (.int .i64 y1) := cell_later hb (by go_simp)
      have jy0 : w1.frozen? ⟨w.heap.size + 1, 0, none⟩ = false := by rw [(bcell hb).2 _ _ (by first | omega | (simp <;> omega))]; go_simp
      have ky1 : w1.cell? ⟨w.heap.size + 1, 1, none⟩ = some (.int .i64 y2) := cell_later hb (by go_simp)
      have jy1 : w1.frozen? ⟨w.heap.size + 1, 1, none⟩ = false := by rw [(bcell hb).2 _ _ (by first | omega | (simp <;> omega))]; go_simp
      have kr0 : w1.cell? ⟨w.heap.size + 1 + 1, 0, none⟩ = some (.int .i64 0) := cell_later hb (by go_simp)
      have jr0 : w1.frozen? ⟨w.heap.size + 1 + 1, 0, none⟩ = false := by rw [(bcell hb).2 _ _ (by first | omega | (simp <;> omega))]; go_simp
      have kr1 : w1.cell? ⟨w.heap.size + 1 + 1, 1, none⟩ = some (.int .i64 0) := cell_later hb (by go_simp)
      have jr1 : w1.frozen? ⟨w.heap.size + 1 + 1, 1, none⟩ = false := by rw [(bcell hb).2 _ _ (by first | omega | (simp <;> omega))]; go_simp
      have kr2 : w1.cell? ⟨w.heap.size + 1 + 1, 2, none⟩ = some (.int .i64 0) := cell_later hb (by go_simp)
      have jr2 : w1.frozen? ⟨w.heap.size + 1 + 1, 2, none⟩ = false := by rw [(bcell hb).2 _ _ (by first | omega | (simp <;> omega))]; go_simp
      have kr3 : w1.cell? ⟨w.heap.size + 1 + 1, 3, none⟩ = some (.int .i64 0) := cell_later hb (by go_simp)
      have jr3 : w1.frozen? ⟨w.heap.size + 1 + 1, 3, none⟩ = false := by rw [(bcell hb).2 _ _ (by first | omega | (simp <;> omega))]; go_simp
      have ka0 : w1.cell? ⟨w.heap.size + 1 + 1 + 1, 0, none⟩ = some (.int .i64 (-1000000)) := cell_later hb (by go_simp)
      have ka1 : w1.cell? ⟨w.heap.size + 1 + 1 + 1, 1, none⟩ = some (.int .i64 1000000) := cell_later hb (by go_simp)
      have zx : w.heap.size < w1.heap.size := World.block_lt_of_cell? _ _ kx0
      have zy : w.heap.size + 1 < w1.heap.size := World.block_lt_of_cell? _ _ ky0
      have zr : w.heap.size + 1 + 1 < w1.heap.size := World.block_lt_of_cell? _ _ kr0
      have za : w.heap.size + 1 + 1 + 1 < w1.heap.size := World.block_lt_of_cell? _ _ ka0
      have hb0 : Below w.heap.size w w1 := (by repeat (first | with_reducible exact Below.refl _ _ | with_reducible assumption | with_reducible refine Below.setCell ?_ (by first | omega | (simp <;> omega)) _ | with_reducible refine balloc ?_ _ | with_reducible refine Below.drew ?_ | with_reducible refine bstep ?_ (by with_reducible assumption)))
      clear hb
      go_wp2_with fail
      refine Calls.mono (C2 _) ?_
      rintro e w2 ⟨rfl, hb⟩
      replace kx0 : w2.cell? ⟨w.heap.size, 0, none⟩ = some (.int .i64 (max x1 (-1000000))) := cell_later hb (by first | with_reducible exact kx0 | go_simp)
      replace jx0 : w2.frozen? ⟨w.heap.size, 0, none⟩ = false := by rw [(bcell hb).2 _ _ (by first | omega | (simp <;> omega))]; first | (with_reducible exact jx0) | go_simp
      replace kx1 : w2.cell? ⟨w.heap.size, 1, none⟩ = some (.int .i64 (min x2 1000000)) := cell_later hb (by first | with_reducible exact kx1 | go_simp)
      replace jx1 : w2.frozen? ⟨w.heap.size, 1, none⟩ = false := by rw [(bcell hb).2 _ _ (by first | omega | (simp <;> omega))]; first | (with_reducible exact jx1) | go_simp
      replace ky0 : w2.cell? ⟨w.heap.size + 1, 0, none⟩ = some (.int .i64 y1) := cell_later hb (by first | with_reducible exact ky0 | go_simp)
      replace jy0 : w2.frozen? ⟨w.heap.size + 1, 0, none⟩ = false := by rw [(bcell hb).2 _ _ (by first | omega | (simp <;> omega))]; first | (with_reducible exact jy0) | go_simp
      replace ky1 : w2.cell? ⟨w.heap.size + 1, 1, none⟩ = some (.int .i64 y2) := cell_later hb (by first | with_reducible exact ky1 | go_simp)
      replace jy1 : w2.frozen? ⟨w.heap.size + 1, 1, none⟩ = false := by rw [(bcell hb).2 _ _ (by first | omega | (simp <;> omega))]; first | (with_reducible exact jy1) | go_simp
      replace kr0 : w2.cell? ⟨w.heap.size + 1 + 1, 0, none⟩ = some (.int .i64 0) := cell_later hb (by first | with_reducible exact kr0 | go_simp)
      replace jr0 : w2.frozen? ⟨w.heap.size + 1 + 1, 0, none⟩ = false := by rw [(bcell hb).2 _ _ (by first | omega | (simp <;> omega))]; first | (with_reducible exact jr0) | go_simp
      replace kr1 : w2.cell? ⟨w.heap.size + 1 + 1, 1, none⟩ = some (.int .i64 0) := cell_later hb (by first | with_reducible exact kr1 | go_simp)
      replace jr1 : w2.frozen? ⟨w.heap.size + 1 + 1, 1, none⟩ = false := by rw [(bcell hb).2 _ _ (by first | omega | (simp <;> omega))]; first | (with_reducible exact jr1) | go_simp
      replace kr2 : w2.cell? ⟨w.heap.size + 1 + 1, 2, none⟩ = some (.int .i64 0) := cell_later hb (by first | with_reducible exact kr2 | go_simp)
      replace jr2 : w2.frozen? ⟨w.heap.size + 1 + 1, 2, none⟩ = false := by rw [(bcell hb).2 _ _ (by first | omega | (simp <;> omega))]; first | (with_reducible exact jr2) | go_simp
      replace kr3 : w2.cell? ⟨w.heap.size + 1 + 1, 3, none⟩ = some (.int .i64 0) := cell_later hb (by first | with_reducible exact kr3 | go_simp)
      replace jr3 : w2.frozen? ⟨w.heap.size + 1 + 1, 3, none⟩ = false := by rw [(bcell hb).2 _ _ (by first | omega | (simp <;> omega))]; first | (with_reducible exact jr3) | go_simp
      replace ka0 : w2.cell? ⟨w.heap.size + 1 + 1 + 1, 0, none⟩ = some (.int .i64 (-1000000)) := cell_later hb (by first | with_reducible exact ka0 | go_simp)
      replace ka1 : w2.cell? ⟨w.heap.size + 1 + 1 + 1, 1, none⟩ = some (.int .i64 1000000) := cell_later hb (by first | with_reducible exact ka1 | go_simp)
      replace zx : w.heap.size < w2.heap.size := World.block_lt_of_cell? _ _ kx0
      replace zy : w.heap.size + 1 < w2.heap.size := World.block_lt_of_cell? _ _ ky0
      replace zr : w.heap.size + 1 + 1 < w2.heap.size := World.block_lt_of_cell? _ _ kr0
      replace za : w.heap.size + 1 + 1 + 1 < w2.heap.size := World.block_lt_of_cell? _ _ ka0
      replace hb0 : Below w.heap.size w w2 := (by repeat (first | with_reducible exact Below.refl _ _ | with_reducible assumption | with_reducible refine Below.setCell ?_ (by first | omega | (simp <;> omega)) _ | with_reducible refine balloc ?_ _ | with_reducible refine Below.drew ?_ | with_reducible refine bstep ?_ (by with_reducible assumption)))
      clear hb
      go_wp2
      all_goals first | (exfalso; omega) | skip
      all_goals
        refine bodyPost_ret ?_ rfl ⟨rfl, (by repeat (first | with_reducible exact Below.refl _ _ | with_reducible assumption | with_reducible refine Below.setCell ?_ (by first | omega | (simp <;> omega)) _ | with_reducible refine balloc ?_ _ | with_reducible refine Below.drew ?_ | with_reducible refine bstep ?_ (by with_reducible assumption)))⟩
        simp [results, Try.results65, go_sem, kr0, kr1, kr2, kr3]
    ·
      have f0 := hf2 h2
      rw [h1] at C1 ⊢
      rw [h2] at C2 ⊢
      simp only [selI, selB, erv, cond_true, cond_false, Bool.and_true, Bool.and_false, Bool.true_and, Bool.false_and] at C1 C2 ⊢
      subst e0
      clear he1 he2 hf1 hf2
      go_enter Try.func65, Try.ntmps65
      go_wp2_with fail
      refine Calls.mono (C1 _) ?_
      rintro e w1 ⟨rfl, hb⟩
      have kx0 : w1.cell? ⟨w.heap.size, 0, none⟩ = some (.int .i64 x1) := cell_later hb (by go_simp)
      have jx0 : w1.frozen? ⟨w.heap.size, 0, none⟩ = false := by rw [(bcell hb).2 _ _ (by first | omega | (simp <;> omega))]; go_simp
      have kx1 : w1.cell? ⟨w.heap.size, 1, none⟩ = some (.int .i64 x2) := cell_later hb (by go_simp)
      have jx1 : w1.frozen? ⟨w.heap.size, 1, none⟩ = false := by rw [(bcell hb).2 _ _ (by first | omega | (simp <;> omega))]; go_simp
      have ky0 : w1.cell? ⟨w.heap.size + 1, 0, none⟩ = some (.int .i64 y1) := cell_later hb (by go_simp)
      have jy0 : w1.frozen? ⟨w.heap.size + 1, 0, none⟩ = false := by rw [(bcell hb).2 _ _ (by first | omega | (simp <;> omega))]; go_simp
      have ky1 : w1.cell? ⟨w.heap.size + 1, 1, none⟩ = some (.int .i64 y2) := cell_later hb (by go_simp)
      have jy1 : w1.frozen? ⟨w.heap.size + 1, 1, none⟩ = false := by rw [(bcell hb).2 _ _ (by first | omega | (simp <;> omega))]; go_simp
      have kr0 : w1.cell? ⟨w.heap.size + 1 + 1, 0, none⟩ = some (.int .i64 0) := cell_later hb (by go_simp)
      have jr0 : w1.frozen? ⟨w.heap.size + 1 + 1, 0, none⟩ = false := by rw [(bcell hb).2 _ _ (by first | omega | (simp <;> omega))]; go_simp
      have kr1 : w1.cell? ⟨w.heap.size + 1 + 1, 1, none⟩ = some (.int .i64 0) := cell_later hb (by go_simp)
      have jr1 : w1.frozen? ⟨w.heap.size + 1 + 1, 1, none⟩ = false := by rw [(bcell hb).2 _ _ (by first | omega | (simp <;> omega))]; go_simp
      have kr2 : w1.cell? ⟨w.heap.size + 1 + 1, 2, none⟩ = some (.int .i64 0) := cell_later hb (by go_simp)
      have jr2 : w1.frozen? ⟨w.heap.size + 1 + 1, 2, none⟩ = false := by rw [(bcell hb).2 _ _ (by first | omega | (simp <;> omega))]; go_simp
      have kr3 : w1.cell? ⟨w.heap.size + 1 + 1, 3, none⟩ = some (.int .i64 0) := cell_later hb (by go_simp)
      have jr3 : w1.frozen? ⟨w.heap.size + 1 + 1, 3, none⟩ = false := by rw [(bcell hb).2 _ _ (by first | omega | (simp <;> omega))]; go_simp
      have ka0 : w1.cell? ⟨w.heap.size + 1 + 1 + 1, 0, none⟩ = some (.int .i64 (-1000000)) := cell_later hb (by go_simp)
      have ka1 : w1.cell? ⟨w.heap.size + 1 + 1 + 1, 1, none⟩ = some (.int .i64 1000000) := cell_later hb (by go_simp)
      have zx : w.heap.size < w1.heap.size := World.block_lt_of_cell? _ _ kx0
      have zy : w.heap.size + 1 < w1.heap.size := World.block_lt_of_cell? _ _ ky0
      have zr : w.heap.size + 1 + 1 < w1.heap.size := World.block_lt_of_cell? _ _ kr0
      have za : w.heap.size + 1 + 1 + 1 < w1.heap.size := World.block_lt_of_cell? _ _ ka0
      have hb0 : Below w.heap.size w w1 := (by repeat (first | with_reducible exact Below.refl _ _ | with_reducible assumption | with_reducible refine Below.setCell ?_ (by first | omega | (simp <;> omega)) _ | with_reducible refine balloc ?_ _ | with_reducible refine Below.drew ?_ | with_reducible refine bstep ?_ (by with_reducible assumption)))
      clear hb
      go_wp2_with fail
      refine Calls.mono (C2 _) ?_
      rintro e w2 ⟨rfl, hb⟩
      replace kx0 : w2.cell? ⟨w.heap.size, 0, none⟩ = some (.int .i64 (max x1 (-1000000))) := cell_later hb (by first | with_reducible exact kx0 | go_simp)
      replace jx0 : w2.frozen? ⟨w.heap.size, 0, none⟩ = false := by rw [(bcell hb).2 _ _ (by first | omega | (simp <;> omega))]; first | (with_reducible exact jx0) | go_simp
      replace kx1 : w2.cell? ⟨w.heap.size, 1, none⟩ = some (.int .i64 (min x2 1000000)) := cell_later hb (by first | with_reducible exact kx1 | go_simp)
      replace jx1 : w2.frozen? ⟨w.heap.size, 1, none⟩ = false := by rw [(bcell hb).2 _ _ (by first | omega | (simp <;> omega))]; first | (with_reducible exact jx1) | go_simp
      replace ky0 : w2.cell? ⟨w.heap.size + 1, 0, none⟩ = some (.int .i64 y1) := cell_later hb (by first | with_reducible exact ky0 | go_simp)
      replace jy0 : w2.frozen? ⟨w.heap.size + 1, 0, none⟩ = false := by rw [(bcell hb).2 _ _ (by first | omega | (simp <;> omega))]; first | (with_reducible exact jy0) | go_simp
      replace ky1 : w2.cell? ⟨w.heap.size + 1, 1, none⟩ = some (.int .i64 y2) := cell_later hb (by first | with_reducible exact ky1 | go_simp)
      replace jy1 : w2.frozen? ⟨w.heap.size + 1, 1, none⟩ = false := by rw [(bcell hb).2 _ _ (by first | omega | (simp <;> omega))]; first | (with_reducible exact jy1) | go_simp
      replace kr0 : w2.cell? ⟨w.heap.size + 1 + 1, 0, none⟩ = some (.int .i64 0) := cell_later hb (by first | with_reducible exact kr0 | go_simp)
      replace jr0 : w2.frozen? ⟨w.heap.size + 1 + 1, 0, none⟩ = false := by rw [(bcell hb).2 _ _ (by first | omega | (simp <;> omega))]; first | (with_reducible exact jr0) | go_simp
      replace kr1 : w2.cell? ⟨w.heap.size + 1 + 1, 1, none⟩ = some (.int .i64 0) := cell_later hb (by first | with_reducible exact kr1 | go_simp)
      replace jr1 : w2.frozen? ⟨w.heap.size + 1 + 1, 1, none⟩ = false := by rw [(bcell hb).2 _ _ (by first | omega | (simp <;> omega))]; first | (with_reducible exact jr1) | go_simp
      replace kr2 : w2.cell? ⟨w.heap.size + 1 + 1, 2, none⟩ = some (.int .i64 0) := cell_later hb (by first | with_reducible exact kr2 | go_simp)
      replace jr2 : w2.frozen? ⟨w.heap.size + 1 + 1, 2, none⟩ = false := by rw [(bcell hb).2 _ _ (by first | omega | (simp <;> omega))]; first | (with_reducible exact jr2) | go_simp
      replace kr3 : w2.cell? ⟨w.heap.size + 1 + 1, 3, none⟩ = some (.int .i64 0) := cell_later hb (by first | with_reducible exact kr3 | go_simp)
      replace jr3 : w2.frozen? ⟨w.heap.size + 1 + 1, 3, none⟩ = false := by rw [(bcell hb).2 _ _ (by first | omega | (simp <;> omega))]; first | (with_reducible exact jr3) | go_simp
      replace ka0 : w2.cell? ⟨w.heap.size + 1 + 1 + 1, 0, none⟩ = some (.int .i64 (-1000000)) := cell_later hb (by first | with_reducible exact ka0 | go_simp)
      replace ka1 : w2.cell? ⟨w.heap.size + 1 + 1 + 1, 1, none⟩ = some (.int .i64 1000000) := cell_later hb (by first | with_reducible exact ka1 | go_simp)
      replace zx : w.heap.size < w2.heap.size := World.block_lt_of_cell? _ _ kx0
      replace zy : w.heap.size + 1 < w2.heap.size := World.block_lt_of_cell? _ _ ky0
      replace zr : w.heap.size + 1 + 1 < w2.heap.size := World.block_lt_of_cell? _ _ kr0
      replace za : w.heap.size + 1 + 1 + 1 < w2.heap.size := World.block_lt_of_cell? _ _ ka0
      replace hb0 : Below w.heap.size w w2 := (by repeat (first | with_reducible exact Below.refl _ _ | with_reducible assumption | with_reducible refine Below.setCell ?_ (by first | omega | (simp <;> omega)) _ | with_reducible refine balloc ?_ _ | with_reducible refine Below.drew ?_ | with_reducible refine bstep ?_ (by with_reducible assumption)))
      clear hb
      go_wp2
      all_goals first | (exfalso; omega) | skip
      all_goals
        refine bodyPost_ret ?_ rfl ⟨rfl, (by repeat (first | with_reducible exact Below.refl _ _ | with_reducible assumption | with_reducible refine Below.setCell ?_ (by first | omega | (simp <;> omega)) _ | with_reducible refine balloc ?_ _ | with_reducible refine Below.drew ?_ | with_reducible refine bstep ?_ (by with_reducible assumption)))⟩
        simp [results, Try.results65, go_sem, kr0, kr1, kr2, kr3]
  ·
    have e0 := he2 h1
    rcases Bool.eq_false_or_eq_true (rM y1 y2 (-1000000) 1000000) with h2 | h2
    ·
      have f0 := hf1 h2
      rw [h1] at C1 ⊢
      rw [h2] at C2 ⊢
      simp only [selI, selB, erv, cond_true, cond_false, Bool.and_true, Bool.and_false, Bool.true_and, Bool.false_and] at C1 C2 ⊢
      subst f0
      clear he1 he2 hf1 hf2
      go_enter Try.func65, Try.ntmps65
      go_wp2_with fail
      refine Calls.mono (C1 _) ?_
      rintro e w1 ⟨rfl, hb⟩
      have kx0 : w1.cell? ⟨w.heap.size, 0, none⟩ = some (.int .i64 x1) := cell_later hb (by go_simp)
      have jx0 : w1.frozen? ⟨w.heap.size, 0, none⟩ = false := by rw [(bcell hb).2 _ _ (by first | omega | (simp <;> omega))]; go_simp
      have kx1 : w1.cell? ⟨w.heap.size, 1, none⟩ = some (.int .i64 x2) := cell_later hb (by go_simp)
      have jx1 : w1.frozen? ⟨w.heap.size, 1, none⟩ = false := by rw [(bcell hb).2 _ _ (by first | omega | (simp <;> omega))]; go_simp
      have ky0 : w1.cell? ⟨w.heap.size + 1, 0, none⟩ = some (.int .i64 y1) := cell_later hb (by go_simp)
      have jy0 : w1.frozen? ⟨w.heap.size + 1, 0, none⟩ = false := by rw [(bcell hb).2 _ _ (by first | omega | (simp <;> omega))]; go_simp
      have ky1 : w1.cell? ⟨w.heap.size + 1, 1, none⟩ = some (.int .i64 y2) := cell_later hb (by go_simp)
      have jy1 : w1.frozen? ⟨w.heap.size + 1, 1, none⟩ = false := by rw [(bcell hb).2 _ _ (by first | omega | (simp <;> omega))]; go_simp
      have kr0 : w1.cell? ⟨w.heap.size + 1 + 1, 0, none⟩ = some (.int .i64 0) := cell_later hb (by go_simp)
      have jr0 : w1.frozen? ⟨w.heap.size + 1 + 1, 0, none⟩ = false := by rw [(bcell hb).2 _ _ (by first | omega | (simp <;> omega))]; go_simp
      have kr1 : w1.cell? ⟨w.heap.size + 1 + 1, 1, none⟩ = some (.int .i64 0) := cell_later hb (by go_simp)
      have jr1 : w1.frozen? ⟨w.heap.size + 1 + 1, 1, none⟩ = false := by rw [(bcell hb).2 _ _ (by first | omega | (simp <;> omega))]; go_simp
      have kr2 : w1.cell? ⟨w.heap.size + 1 + 1, 2, none⟩ = some (.int .i64 0) := cell_later hb (by go_simp)
      have jr2 : w1.frozen? ⟨w.heap.size + 1 + 1, 2, none⟩ = false := by rw [(bcell hb).2 _ _ (by first | omega | (simp <;> omega))]; go_simp
      have kr3 : w1.cell? ⟨w.heap.size + 1 + 1, 3, none⟩ = some (.int .i64 0) := cell_later hb (by go_simp)
      have jr3 : w1.frozen? ⟨w.heap.size + 1 + 1, 3, none⟩ = false := by rw [(bcell hb).2 _ _ (by first | omega | (simp <;> omega))]; go_simp
      have ka0 : w1.cell? ⟨w.heap.size + 1 + 1 + 1, 0, none⟩ = some (.int .i64 (-1000000)) := cell_later hb (by go_simp)
      have ka1 : w1.cell? ⟨w.heap.size + 1 + 1 + 1, 1, none⟩ = some (.int .i64 1000000) := cell_later hb (by go_simp)
      have zx : w.heap.size < w1.heap.size := World.block_lt_of_cell? _ _ kx0
      have zy : w.heap.size + 1 < w1.heap.size := World.block_lt_of_cell? _ _ ky0
      have zr : w.heap.size + 1 + 1 < w1.heap.size := World.block_lt_of_cell? _ _ kr0
      have za : w.heap.size + 1 + 1 + 1 < w1.heap.size := World.block_lt_of_cell? _ _ ka0
      have hb0 : Below w.heap.size w w1 := (by repeat (first | with_reducible exact Below.refl _ _ | with_reducible assumption | with_reducible refine Below.setCell ?_ (by first | omega | (simp <;> omega)) _ | with_reducible refine balloc ?_ _ | with_reducible refine Below.drew ?_ | with_reducible refine bstep ?_ (by with_reducible assumption)))
      clear hb
      go_wp2_with fail
      refine Calls.mono (C2 _) ?_
      rintro e w2 ⟨rfl, hb⟩
      replace kx0 : w2.cell? ⟨w.heap.size, 0, none⟩ = some (.int .i64 0) := cell_later hb (by first | with_reducible exact kx0 | go_simp)
      replace jx0 : w2.frozen? ⟨w.heap.size, 0, none⟩ = false := by rw [(bcell hb).2 _ _ (by first | omega | (simp <;> omega))]; first | (with_reducible exact jx0) | go_simp
      replace kx1 : w2.cell? ⟨w.heap.size, 1, none⟩ = some (.int .i64 0) := cell_later hb (by first | with_reducible exact kx1 | go_simp)
      replace jx1 : w2.frozen? ⟨w.heap.size, 1, none⟩ = false := by rw [(bcell hb).2 _ _ (by first | omega | (simp <;> omega))]; first | (with_reducible exact jx1) | go_simp
      replace ky0 : w2.cell? ⟨w.heap.size + 1, 0, none⟩ = some (.int .i64 y1) := cell_later hb (by first | with_reducible exact ky0 | go_simp)
      replace jy0 : w2.frozen? ⟨w.heap.size + 1, 0, none⟩ = false := by rw [(bcell hb).2 _ _ (by first | omega | (simp <;> omega))]; first | (with_reducible exact jy0) | go_simp
      replace ky1 : w2.cell? ⟨w.heap.size + 1, 1, none⟩ = some (.int .i64 y2) := cell_later hb (by first | with_reducible exact ky1 | go_simp)
      replace jy1 : w2.frozen? ⟨w.heap.size + 1, 1, none⟩ = false := by rw [(bcell hb).2 _ _ (by first | omega | (simp <;> omega))]; first | (with_reducible exact jy1) | go_simp
      replace kr0 : w2.cell? ⟨w.heap.size + 1 + 1, 0, none⟩ = some (.int .i64 0) := cell_later hb (by first | with_reducible exact kr0 | go_simp)
      replace jr0 : w2.frozen? ⟨w.heap.size + 1 + 1, 0, none⟩ = false := by rw [(bcell hb).2 _ _ (by first | omega | (simp <;> omega))]; first | (with_reducible exact jr0) | go_simp
      replace kr1 : w2.cell? ⟨w.heap.size + 1 + 1, 1, none⟩ = some (.int .i64 0) := cell_later hb (by first | with_reducible exact kr1 | go_simp)
      replace jr1 : w2.frozen? ⟨w.heap.size + 1 + 1, 1, none⟩ = false := by rw [(bcell hb).2 _ _ (by first | omega | (simp <;> omega))]; first | (with_reducible exact jr1) | go_simp
      replace kr2 : w2.cell? ⟨w.heap.size + 1 + 1, 2, none⟩ = some (.int .i64 0) := cell_later hb (by first | with_reducible exact kr2 | go_simp)
      replace jr2 : w2.frozen? ⟨w.heap.size + 1 + 1, 2, none⟩ = false := by rw [(bcell hb).2 _ _ (by first | omega | (simp <;> omega))]; first | (with_reducible exact jr2) | go_simp
      replace kr3 : w2.cell? ⟨w.heap.size + 1 + 1, 3, none⟩ = some (.int .i64 0) := cell_later hb (by first | with_reducible exact kr3 | go_simp)
      replace jr3 : w2.frozen? ⟨w.heap.size + 1 + 1, 3, none⟩ = false := by rw [(bcell hb).2 _ _ (by first | omega | (simp <;> omega))]; first | (with_reducible exact jr3) | go_simp
      replace ka0 : w2.cell? ⟨w.heap.size + 1 + 1 + 1, 0, none⟩ = some (.int .i64 (-1000000)) := cell_later hb (by first | with_reducible exact ka0 | go_simp)
      replace ka1 : w2.cell? ⟨w.heap.size + 1 + 1 + 1, 1, none⟩ = some (.int .i64 1000000) := cell_later hb (by first | with_reducible exact ka1 | go_simp)
      replace zx : w.heap.size < w2.heap.size := World.block_lt_of_cell? _ _ kx0
      replace zy : w.heap.size + 1 < w2.heap.size := World.block_lt_of_cell? _ _ ky0
      replace zr : w.heap.size + 1 + 1 < w2.heap.size := World.block_lt_of_cell? _ _ kr0
      replace za : w.heap.size + 1 + 1 + 1 < w2.heap.size := World.block_lt_of_cell? _ _ ka0
      replace hb0 : Below w.heap.size w w2 := (by repeat (first | with_reducible exact Below.refl _ _ | with_reducible assumption | with_reducible refine Below.setCell ?_ (by first | omega | (simp <;> omega)) _ | with_reducible refine balloc ?_ _ | with_reducible refine Below.drew ?_ | with_reducible refine bstep ?_ (by with_reducible assumption)))
      clear hb
      go_wp2
      all_goals first | (exfalso; omega) | skip
      all_goals
        refine bodyPost_ret ?_ rfl ⟨rfl, (by repeat (first | with_reducible exact Below.refl _ _ | with_reducible assumption | with_reducible refine Below.setCell ?_ (by first | omega | (simp <;> omega)) _ | with_reducible refine balloc ?_ _ | with_reducible refine Below.drew ?_ | with_reducible refine bstep ?_ (by with_reducible assumption)))⟩
        simp [results, Try.results65, go_sem, kr0, kr1, kr2, kr3]
    ·
      have f0 := hf2 h2
      rw [h1] at C1 ⊢
      rw [h2] at C2 ⊢
      simp only [selI, selB, erv, cond_true, cond_false, Bool.and_true, Bool.and_false, Bool.true_and, Bool.false_and] at C1 C2 ⊢
      clear he1 he2 hf1 hf2
      go_enter Try.func65, Try.ntmps65
      go_wp2_with fail
      refine Calls.mono (C1 _) ?_
      rintro e w1 ⟨rfl, hb⟩
      have kx0 : w1.cell? ⟨w.heap.size, 0, none⟩ = some (.int .i64 x1) := cell_later hb (by go_simp)
      have jx0 : w1.frozen? ⟨w.heap.size, 0, none⟩ = false := by rw [(bcell hb).2 _ _ (by first | omega | (simp <;> omega))]; go_simp
      have kx1 : w1.cell? ⟨w.heap.size, 1, none⟩ = some (.int .i64 x2) := cell_later hb (by go_simp)
      have jx1 : w1.frozen? ⟨w.heap.size, 1, none⟩ = false := by rw [(bcell hb).2 _ _ (by first | omega | (simp <;> omega))]; go_simp
      have ky0 : w1.cell? ⟨w.heap.size + 1, 0, none⟩ = some (.int .i64 y1) := cell_later hb (by go_simp)
      have jy0 : w1.frozen? ⟨w.heap.size + 1, 0, none⟩ = false := by rw [(bcell hb).2 _ _ (by first | omega | (simp <;> omega))]; go_simp
      have ky1 : w1.cell? ⟨w.heap.size + 1, 1, none⟩ = some (.int .i64 y2) := cell_later hb (by go_simp)
      have jy1 : w1.frozen? ⟨w.heap.size + 1, 1, none⟩ = false := by rw [(bcell hb).2 _ _ (by first | omega | (simp <;> omega))]; go_simp
      have kr0 : w1.cell? ⟨w.heap.size + 1 + 1, 0, none⟩ = some (.int .i64 0) := cell_later hb (by go_simp)
      have jr0 : w1.frozen? ⟨w.heap.size + 1 + 1, 0, none⟩ = false := by rw [(bcell hb).2 _ _ (by first | omega | (simp <;> omega))]; go_simp
      have kr1 : w1.cell? ⟨w.heap.size + 1 + 1, 1, none⟩ = some (.int .i64 0) := cell_later hb (by go_simp)
      have jr1 : w1.frozen? ⟨w.heap.size + 1 + 1, 1, none⟩ = false := by rw [(bcell hb).2 _ _ (by first | omega | (simp <;> omega))]; go_simp
      have kr2 : w1.cell? ⟨w.heap.size + 1 + 1, 2, none⟩ = some (.int .i64 0) := cell_later hb (by go_simp)
      have jr2 : w1.frozen? ⟨w.heap.size + 1 + 1, 2, none⟩ = false := by rw [(bcell hb).2 _ _ (by first | omega | (simp <;> omega))]; go_simp
      have kr3 : w1.cell? ⟨w.heap.size + 1 + 1, 3, none⟩ = some (.int .i64 0) := cell_later hb (by go_simp)
      have jr3 : w1.frozen? ⟨w.heap.size + 1 + 1, 3, none⟩ = false := by rw [(bcell hb).2 _ _ (by first | omega | (simp <;> omega))]; go_simp
      have ka0 : w1.cell? ⟨w.heap.size + 1 + 1 + 1, 0, none⟩ = some (.int .i64 (-1000000)) := cell_later hb (by go_simp)
      have ka1 : w1.cell? ⟨w.heap.size + 1 + 1 + 1, 1, none⟩ = some (.int .i64 1000000) := cell_later hb (by go_simp)
      have zx : w.heap.size < w1.heap.size := World.block_lt_of_cell? _ _ kx0
      have zy : w.heap.size + 1 < w1.heap.size := World.block_lt_of_cell? _ _ ky0
      have zr : w.heap.size + 1 + 1 < w1.heap.size := World.block_lt_of_cell? _ _ kr0
      have za : w.heap.size + 1 + 1 + 1 < w1.heap.size := World.block_lt_of_cell? _ _ ka0
      have hb0 : Below w.heap.size w w1 := (by repeat (first | with_reducible exact Below.refl _ _ | with_reducible assumption | with_reducible refine Below.setCell ?_ (by first | omega | (simp <;> omega)) _ | with_reducible refine balloc ?_ _ | with_reducible refine Below.drew ?_ | with_reducible refine bstep ?_ (by with_reducible assumption)))
      clear hb
      go_wp2_with fail
      refine Calls.mono (C2 _) ?_
      rintro e w2 ⟨rfl, hb⟩
      replace kx0 : w2.cell? ⟨w.heap.size, 0, none⟩ = some (.int .i64 0) := cell_later hb (by first | with_reducible exact kx0 | go_simp)
      replace jx0 : w2.frozen? ⟨w.heap.size, 0, none⟩ = false := by rw [(bcell hb).2 _ _ (by first | omega | (simp <;> omega))]; first | (with_reducible exact jx0) | go_simp
      replace kx1 : w2.cell? ⟨w.heap.size, 1, none⟩ = some (.int .i64 0) := cell_later hb (by first | with_reducible exact kx1 | go_simp)
      replace jx1 : w2.frozen? ⟨w.heap.size, 1, none⟩ = false := by rw [(bcell hb).2 _ _ (by first | omega | (simp <;> omega))]; first | (with_reducible exact jx1) | go_simp
      replace ky0 : w2.cell? ⟨w.heap.size + 1, 0, none⟩ = some (.int .i64 y1) := cell_later hb (by first | with_reducible exact ky0 | go_simp)
      replace jy0 : w2.frozen? ⟨w.heap.size + 1, 0, none⟩ = false := by rw [(bcell hb).2 _ _ (by first | omega | (simp <;> omega))]; first | (with_reducible exact jy0) | go_simp
      replace ky1 : w2.cell? ⟨w.heap.size + 1, 1, none⟩ = some (.int .i64 y2) := cell_later hb (by first | with_reducible exact ky1 | go_simp)
      replace jy1 : w2.frozen? ⟨w.heap.size + 1, 1, none⟩ = false := by rw [(bcell hb).2 _ _ (by first | omega | (simp <;> omega))]; first | (with_reducible exact jy1) | go_simp
      replace kr0 : w2.cell? ⟨w.heap.size + 1 + 1, 0, none⟩ = some (.int .i64 0) := cell_later hb (by first | with_reducible exact kr0 | go_simp)
      replace jr0 : w2.frozen? ⟨w.heap.size + 1 + 1, 0, none⟩ = false := by rw [(bcell hb).2 _ _ (by first | omega | (simp <;> omega))]; first | (with_reducible exact jr0) | go_simp
      replace kr1 : w2.cell? ⟨w.heap.size + 1 + 1, 1, none⟩ = some (.int .i64 0) := cell_later hb (by first | with_reducible exact kr1 | go_simp)
      replace jr1 : w2.frozen? ⟨w.heap.size + 1 + 1, 1, none⟩ = false := by rw [(bcell hb).2 _ _ (by first | omega | (simp <;> omega))]; first | (with_reducible exact jr1) | go_simp
      replace kr2 : w2.cell? ⟨w.heap.size + 1 + 1, 2, none⟩ = some (.int .i64 0) := cell_later hb (by first | with_reducible exact kr2 | go_simp)
      replace jr2 : w2.frozen? ⟨w.heap.size + 1 + 1, 2, none⟩ = false := by rw [(bcell hb).2 _ _ (by first | omega | (simp <;> omega))]; first | (with_reducible exact jr2) | go_simp
      replace kr3 : w2.cell? ⟨w.heap.size + 1 + 1, 3, none⟩ = some (.int .i64 0) := cell_later hb (by first | with_reducible exact kr3 | go_simp)
      replace jr3 : w2.frozen? ⟨w.heap.size + 1 + 1, 3, none⟩ = false := by rw [(bcell hb).2 _ _ (by first | omega | (simp <;> omega))]; first | (with_reducible exact jr3) | go_simp
      replace ka0 : w2.cell? ⟨w.heap.size + 1 + 1 + 1, 0, none⟩ = some (.int .i64 (-1000000)) := cell_later hb (by first | with_reducible exact ka0 | go_simp)
      replace ka1 : w2.cell? ⟨w.heap.size + 1 + 1 + 1, 1, none⟩ = some (.int .i64 1000000) := cell_later hb (by first | with_reducible exact ka1 | go_simp)
      replace zx : w.heap.size < w2.heap.size := World.block_lt_of_cell? _ _ kx0
      replace zy : w.heap.size + 1 < w2.heap.size := World.block_lt_of_cell? _ _ ky0
      replace zr : w.heap.size + 1 + 1 < w2.heap.size := World.block_lt_of_cell? _ _ kr0
      replace za : w.heap.size + 1 + 1 + 1 < w2.heap.size := World.block_lt_of_cell? _ _ ka0
      replace hb0 : Below w.heap.size w w2 := (by repeat (first | with_reducible exact Below.refl _ _ | with_reducible assumption | with_reducible refine Below.setCell ?_ (by first | omega | (simp <;> omega)) _ | with_reducible refine balloc ?_ _ | with_reducible refine Below.drew ?_ | with_reducible refine bstep ?_ (by with_reducible assumption)))
      clear hb
      go_wp2
      all_goals first | (exfalso; omega) | skip
      all_goals
        refine bodyPost_ret ?_ rfl ⟨rfl, (by repeat (first | with_reducible exact Below.refl _ _ | with_reducible assumption | with_reducible refine Below.setCell ?_ (by first | omega | (simp <;> omega)) _ | with_reducible refine balloc ?_ _ | with_reducible refine Below.drew ?_ | with_reducible refine bstep ?_ (by with_reducible assumption)))⟩
        simp [results, Try.results65, go_sem, kr0, kr1, kr2, kr3]


end Go.Proofs.Ytlkjpackjjncaaa.Da
