/- RefD: the reference of layer 2: GrowBox, Scale. -/
import Derived.Test.YtendnhmobhicmaaRefA
import Derived.Test.YtendnhmobhicmaaRows
import Derived.WalkKit
import Derived.WalkSpells
import Derived.WalkLawsBesides
import Derived.Lib.Hide
import Derived.Deep.QuietTactic
import Derived.BigQuiet
import Derived.RegionTactic
import Derived.ChangeAlike
import Derived.BigRegion
import Derived.Deep.RegionHeld3
import Derived.Deep.RegionWith
import Derived.Outline
namespace Go.Proofs.Ytendnhmobhicmaa
open Go.RowKit
set_option linter.unusedSimpArgs false
set_option linter.unusedVariables false

set_option maxHeartbeats 3200000 in
theorem RGrowBox_c (b1 b2 b3 b4 n : Int) (w : World)  : Calls Try.prog 33 #[(.agg #[(.int .i64 b1), (.int .i64 b2), (.int .i64 b3), (.int .i64 b4)]), (.int .i64 n)] w (Ret w (.tuple #[.agg #[(.int .i64 (selI ((vGrowBox b1 b2 b3 b4 n) && (rGrowBox b1 b2 b3 b4 n)) (b1 - n))), (.int .i64 (selI ((vGrowBox b1 b2 b3 b4 n) && (rGrowBox b1 b2 b3 b4 n)) (b2 + n))), (.int .i64 (selI ((vGrowBox b1 b2 b3 b4 n) && (rGrowBox b1 b2 b3 b4 n)) (b3 - n))), (.int .i64 (selI ((vGrowBox b1 b2 b3 b4 n) && (rGrowBox b1 b2 b3 b4 n)) (b4 + n)))], (.int .i64 (erv (vGrowBox b1 b2 b3 b4 n) (rGrowBox b1 b2 b3 b4 n) 3))])) := by
  rcases Bool.eq_false_or_eq_true (vB b1 b2 b3 b4) with h1 | h1
  ·
    have u1 := vB_iff.1 h1
    by_cases h2 : 0 ≤ n ∧ n ≤ 3000000
    ·
      rcases Bool.eq_false_or_eq_true (vB (b1 - n) (b2 + n) (b3 - n) (b4 + n)) with h3 | h3
      all_goals
        go_enter Try.func33, Try.ntmps33
        go_wp2_with fail
        refine Calls.mono (rvalidBox_c _ _ _ _ _) ?_
        rintro e w1 ⟨rfl, hb⟩
        have kb0 : w1.cell? ⟨w.heap.size, 0, none⟩ = some (.int .i64 b1) := cell_later hb (by go_simp)
        have kb1 : w1.cell? ⟨w.heap.size, 1, none⟩ = some (.int .i64 b2) := cell_later hb (by go_simp)
        have kb2 : w1.cell? ⟨w.heap.size, 2, none⟩ = some (.int .i64 b3) := cell_later hb (by go_simp)
        have kb3 : w1.cell? ⟨w.heap.size, 3, none⟩ = some (.int .i64 b4) := cell_later hb (by go_simp)
        have kr0 : w1.cell? ⟨w.heap.size + 1, 0, none⟩ = some (.int .i64 0) := cell_later hb (by go_simp)
        have jr0 : w1.frozen? ⟨w.heap.size + 1, 0, none⟩ = false := by rw [(bcell hb).2 _ _ (by first | omega | (simp <;> omega))]; go_simp
        have kr1 : w1.cell? ⟨w.heap.size + 1, 1, none⟩ = some (.int .i64 0) := cell_later hb (by go_simp)
        have jr1 : w1.frozen? ⟨w.heap.size + 1, 1, none⟩ = false := by rw [(bcell hb).2 _ _ (by first | omega | (simp <;> omega))]; go_simp
        have kr2 : w1.cell? ⟨w.heap.size + 1, 2, none⟩ = some (.int .i64 0) := cell_later hb (by go_simp)
        have jr2 : w1.frozen? ⟨w.heap.size + 1, 2, none⟩ = false := by rw [(bcell hb).2 _ _ (by first | omega | (simp <;> omega))]; go_simp
        have kr3 : w1.cell? ⟨w.heap.size + 1, 3, none⟩ = some (.int .i64 0) := cell_later hb (by go_simp)
        have jr3 : w1.frozen? ⟨w.heap.size + 1, 3, none⟩ = false := by rw [(bcell hb).2 _ _ (by first | omega | (simp <;> omega))]; go_simp
        have zb : w.heap.size < w1.heap.size := World.block_lt_of_cell? _ _ kb0
        have zr : w.heap.size + 1 < w1.heap.size := World.block_lt_of_cell? _ _ kr0
        have hb0 : Below w.heap.size w w1 := (by repeat (first | exact Below.refl _ _ | assumption | refine bstep ?_ (by assumption) | refine Below.drew ?_ | refine balloc ?_ _ | refine Below.setCell ?_ (by first | omega | (simp <;> omega)) _))
        clear hb
        rw [h1]
        go_wp2_with fail
        refine Calls.mono (rvalidBox_c _ _ _ _ _) ?_
        rintro e w2 ⟨rfl, hb⟩
        replace kb0 : w2.cell? ⟨w.heap.size, 0, none⟩ = some (.int .i64 b1) := cell_later hb (by first | (with_reducible exact kb0) | (with_reducible exact cell_al _ kb0) | (with_reducible exact cell_al _ (cell_al _ kb0)) | go_simp)
        replace kb1 : w2.cell? ⟨w.heap.size, 1, none⟩ = some (.int .i64 b2) := cell_later hb (by first | (with_reducible exact kb1) | (with_reducible exact cell_al _ kb1) | (with_reducible exact cell_al _ (cell_al _ kb1)) | go_simp)
        replace kb2 : w2.cell? ⟨w.heap.size, 2, none⟩ = some (.int .i64 b3) := cell_later hb (by first | (with_reducible exact kb2) | (with_reducible exact cell_al _ kb2) | (with_reducible exact cell_al _ (cell_al _ kb2)) | go_simp)
        replace kb3 : w2.cell? ⟨w.heap.size, 3, none⟩ = some (.int .i64 b4) := cell_later hb (by first | (with_reducible exact kb3) | (with_reducible exact cell_al _ kb3) | (with_reducible exact cell_al _ (cell_al _ kb3)) | go_simp)
        replace kr0 : w2.cell? ⟨w.heap.size + 1, 0, none⟩ = some (.int .i64 0) := cell_later hb (by first | (with_reducible exact kr0) | (with_reducible exact cell_al _ kr0) | (with_reducible exact cell_al _ (cell_al _ kr0)) | go_simp)
        replace jr0 : w2.frozen? ⟨w.heap.size + 1, 0, none⟩ = false := by rw [(bcell hb).2 _ _ (by first | omega | (simp <;> omega))]; first | (with_reducible exact jr0) | go_simp
        replace kr1 : w2.cell? ⟨w.heap.size + 1, 1, none⟩ = some (.int .i64 0) := cell_later hb (by first | (with_reducible exact kr1) | (with_reducible exact cell_al _ kr1) | (with_reducible exact cell_al _ (cell_al _ kr1)) | go_simp)
        replace jr1 : w2.frozen? ⟨w.heap.size + 1, 1, none⟩ = false := by rw [(bcell hb).2 _ _ (by first | omega | (simp <;> omega))]; first | (with_reducible exact jr1) | go_simp
        replace kr2 : w2.cell? ⟨w.heap.size + 1, 2, none⟩ = some (.int .i64 0) := cell_later hb (by first | (with_reducible exact kr2) | (with_reducible exact cell_al _ kr2) | (with_reducible exact cell_al _ (cell_al _ kr2)) | go_simp)
        replace jr2 : w2.frozen? ⟨w.heap.size + 1, 2, none⟩ = false := by rw [(bcell hb).2 _ _ (by first | omega | (simp <;> omega))]; first | (with_reducible exact jr2) | go_simp
        replace kr3 : w2.cell? ⟨w.heap.size + 1, 3, none⟩ = some (.int .i64 0) := cell_later hb (by first | (with_reducible exact kr3) | (with_reducible exact cell_al _ kr3) | (with_reducible exact cell_al _ (cell_al _ kr3)) | go_simp)
        replace jr3 : w2.frozen? ⟨w.heap.size + 1, 3, none⟩ = false := by rw [(bcell hb).2 _ _ (by first | omega | (simp <;> omega))]; first | (with_reducible exact jr3) | go_simp
        have km0 : w2.cell? ⟨w1.heap.size, 0, none⟩ = some (.int .i64 (b1 - n)) := cell_later hb (by go_simp)
        have km1 : w2.cell? ⟨w1.heap.size, 1, none⟩ = some (.int .i64 (b2 + n)) := cell_later hb (by go_simp)
        have km2 : w2.cell? ⟨w1.heap.size, 2, none⟩ = some (.int .i64 (b3 - n)) := cell_later hb (by go_simp)
        have km3 : w2.cell? ⟨w1.heap.size, 3, none⟩ = some (.int .i64 (b4 + n)) := cell_later hb (by go_simp)
        replace zb : w.heap.size < w2.heap.size := World.block_lt_of_cell? _ _ kb0
        replace zr : w.heap.size + 1 < w2.heap.size := World.block_lt_of_cell? _ _ kr0
        have zm : w1.heap.size < w2.heap.size := World.block_lt_of_cell? _ _ km0
        replace hb0 : Below w.heap.size w w2 := (by repeat (first | exact Below.refl _ _ | assumption | refine bstep ?_ (by assumption) | refine Below.drew ?_ | refine balloc ?_ _ | refine Below.setCell ?_ (by first | omega | (simp <;> omega)) _))
        clear hb
        rw [h3]
        go_wp2
        refine bodyPost_ret ?_ rfl ⟨rfl, (by repeat (first | exact Below.refl _ _ | assumption | refine bstep ?_ (by assumption) | refine Below.drew ?_ | refine balloc ?_ _ | refine Below.setCell ?_ (by first | omega | (simp <;> omega)) _))⟩
        simp [results, Try.results33, go_sem, vGrowBox, rGrowBox, selI, erv, h1, h2, h3, kr0, kr1, kr2, kr3]
    ·
      go_enter Try.func33, Try.ntmps33
      go_wp2_with fail
      refine Calls.mono (rvalidBox_c _ _ _ _ _) ?_
      rintro e w1 ⟨rfl, hb⟩
      have kb0 : w1.cell? ⟨w.heap.size, 0, none⟩ = some (.int .i64 b1) := cell_later hb (by go_simp)
      have kb1 : w1.cell? ⟨w.heap.size, 1, none⟩ = some (.int .i64 b2) := cell_later hb (by go_simp)
      have kb2 : w1.cell? ⟨w.heap.size, 2, none⟩ = some (.int .i64 b3) := cell_later hb (by go_simp)
      have kb3 : w1.cell? ⟨w.heap.size, 3, none⟩ = some (.int .i64 b4) := cell_later hb (by go_simp)
      have kr0 : w1.cell? ⟨w.heap.size + 1, 0, none⟩ = some (.int .i64 0) := cell_later hb (by go_simp)
      have jr0 : w1.frozen? ⟨w.heap.size + 1, 0, none⟩ = false := by rw [(bcell hb).2 _ _ (by first | omega | (simp <;> omega))]; go_simp
      have kr1 : w1.cell? ⟨w.heap.size + 1, 1, none⟩ = some (.int .i64 0) := cell_later hb (by go_simp)
      have jr1 : w1.frozen? ⟨w.heap.size + 1, 1, none⟩ = false := by rw [(bcell hb).2 _ _ (by first | omega | (simp <;> omega))]; go_simp
      have kr2 : w1.cell? ⟨w.heap.size + 1, 2, none⟩ = some (.int .i64 0) := cell_later hb (by go_simp)
      have jr2 : w1.frozen? ⟨w.heap.size + 1, 2, none⟩ = false := by rw [(bcell hb).2 _ _ (by first | omega | (simp <;> omega))]; go_simp
      have kr3 : w1.cell? ⟨w.heap.size + 1, 3, none⟩ = some (.int .i64 0) := cell_later hb (by go_simp)
      have jr3 : w1.frozen? ⟨w.heap.size + 1, 3, none⟩ = false := by rw [(bcell hb).2 _ _ (by first | omega | (simp <;> omega))]; go_simp
      have zb : w.heap.size < w1.heap.size := World.block_lt_of_cell? _ _ kb0
      have zr : w.heap.size + 1 < w1.heap.size := World.block_lt_of_cell? _ _ kr0
      have hb0 : Below w.heap.size w w1 := (by repeat (first | exact Below.refl _ _ | assumption | refine bstep ?_ (by assumption) | refine Below.drew ?_ | refine balloc ?_ _ | refine Below.setCell ?_ (by first | omega | (simp <;> omega)) _))
      clear hb
      rw [h1]
      have h3 : (decide (0 ≤ n) && decide (n ≤ 3000000)) = false := by rw [Bool.eq_false_iff]; simpa using h2
      go_wp2
      all_goals first | (exfalso; omega) | skip
      all_goals
        refine bodyPost_ret ?_ rfl ⟨rfl, (by repeat (first | exact Below.refl _ _ | assumption | refine bstep ?_ (by assumption) | refine Below.drew ?_ | refine balloc ?_ _ | refine Below.setCell ?_ (by first | omega | (simp <;> omega)) _))⟩
        simp [results, Try.results33, go_sem, vGrowBox, rGrowBox, selI, erv, h1, h3, kr0, kr1, kr2, kr3]
  ·
    go_enter Try.func33, Try.ntmps33
    go_wp2_with fail
    refine Calls.mono (rvalidBox_c _ _ _ _ _) ?_
    rintro e w1 ⟨rfl, hb⟩
    have kb0 : w1.cell? ⟨w.heap.size, 0, none⟩ = some (.int .i64 b1) := cell_later hb (by go_simp)
    have kb1 : w1.cell? ⟨w.heap.size, 1, none⟩ = some (.int .i64 b2) := cell_later hb (by go_simp)
    have kb2 : w1.cell? ⟨w.heap.size, 2, none⟩ = some (.int .i64 b3) := cell_later hb (by go_simp)
    have kb3 : w1.cell? ⟨w.heap.size, 3, none⟩ = some (.int .i64 b4) := cell_later hb (by go_simp)
    have kr0 : w1.cell? ⟨w.heap.size + 1, 0, none⟩ = some (.int .i64 0) := cell_later hb (by go_simp)
    have jr0 : w1.frozen? ⟨w.heap.size + 1, 0, none⟩ = false := by rw [(bcell hb).2 _ _ (by first | omega | (simp <;> omega))]; go_simp
    have kr1 : w1.cell? ⟨w.heap.size + 1, 1, none⟩ = some (.int .i64 0) := cell_later hb (by go_simp)
    have jr1 : w1.frozen? ⟨w.heap.size + 1, 1, none⟩ = false := by rw [(bcell hb).2 _ _ (by first | omega | (simp <;> omega))]; go_simp
    have kr2 : w1.cell? ⟨w.heap.size + 1, 2, none⟩ = some (.int .i64 0) := cell_later hb (by go_simp)
    have jr2 : w1.frozen? ⟨w.heap.size + 1, 2, none⟩ = false := by rw [(bcell hb).2 _ _ (by first | omega | (simp <;> omega))]; go_simp
    have kr3 : w1.cell? ⟨w.heap.size + 1, 3, none⟩ = some (.int .i64 0) := cell_later hb (by go_simp)
    have jr3 : w1.frozen? ⟨w.heap.size + 1, 3, none⟩ = false := by rw [(bcell hb).2 _ _ (by first | omega | (simp <;> omega))]; go_simp
    have zb : w.heap.size < w1.heap.size := World.block_lt_of_cell? _ _ kb0
    have zr : w.heap.size + 1 < w1.heap.size := World.block_lt_of_cell? _ _ kr0
    have hb0 : Below w.heap.size w w1 := (by repeat (first | exact Below.refl _ _ | assumption | refine bstep ?_ (by assumption) | refine Below.drew ?_ | refine balloc ?_ _ | refine Below.setCell ?_ (by first | omega | (simp <;> omega)) _))
    clear hb
    rw [h1]
    go_wp2
    refine bodyPost_ret ?_ rfl ⟨rfl, (by repeat (first | exact Below.refl _ _ | assumption | refine bstep ?_ (by assumption) | refine Below.drew ?_ | refine balloc ?_ _ | refine Below.setCell ?_ (by first | omega | (simp <;> omega)) _))⟩
    simp [results, Try.results33, go_sem, vGrowBox, rGrowBox, selI, erv, h1, kr0, kr1, kr2, kr3]

set_option maxHeartbeats 3200000 in
theorem RScale_c (s1 s2 n d : Int) (w : World)  : Calls Try.prog 21 #[(.agg #[(.int .i64 s1), (.int .i64 s2)]), (.int .i64 n), (.int .i64 d)] w (Ret w (.tuple #[.agg #[(.int .i64 (selI ((vScale s1 s2 n d) && (rScale s1 s2 n d)) (dn (min (s1 * n) (s2 * n)) d))), (.int .i64 (selI ((vScale s1 s2 n d) && (rScale s1 s2 n d)) (upd (max (s1 * n) (s2 * n)) d)))], (.int .i64 (erv (vScale s1 s2 n d) (rScale s1 s2 n d) 3))])) := by
  rcases Bool.eq_false_or_eq_true (vE 1000000000000 s1 s2) with h1 | h1
  ·
    have u1 := vE_iff.1 h1
    by_cases hk : -1000000 ≤ n ∧ n ≤ 1000000 ∧ 1 ≤ d ∧ d ≤ 1000000
    ·
      have h2 : kS n d = true := kS_iff.2 hk
      have m1 := mul_bd (a := s1) (b := n) (A := 1000000000000) (B := 1000000) (by omega) (by omega) (by omega) (by omega)
      have m2 := mul_bd (a := s2) (b := n) (A := 1000000000000) (B := 1000000) (by omega) (by omega) (by omega) (by omega)
      obtain ⟨mn, hmn⟩ : ∃ x, min (s1 * n) (s2 * n) = x := ⟨_, rfl⟩
      obtain ⟨mx, hmx⟩ : ∃ x, max (s1 * n) (s2 * n) = x := ⟨_, rfl⟩
      go_enter Try.func21, Try.ntmps21
      go_wp2_with fail
      refine Calls.mono (rvalid_c _ _ _) ?_
      rintro e w1 ⟨rfl, hb⟩
      have ks0 : w1.cell? ⟨w.heap.size, 0, none⟩ = some (.int .i64 s1) := cell_later hb (by go_simp)
      have ks1 : w1.cell? ⟨w.heap.size, 1, none⟩ = some (.int .i64 s2) := cell_later hb (by go_simp)
      have kr0 : w1.cell? ⟨w.heap.size + 1, 0, none⟩ = some (.int .i64 0) := cell_later hb (by go_simp)
      have jr0 : w1.frozen? ⟨w.heap.size + 1, 0, none⟩ = false := by rw [(bcell hb).2 _ _ (by first | omega | (simp <;> omega))]; go_simp
      have kr1 : w1.cell? ⟨w.heap.size + 1, 1, none⟩ = some (.int .i64 0) := cell_later hb (by go_simp)
      have jr1 : w1.frozen? ⟨w.heap.size + 1, 1, none⟩ = false := by rw [(bcell hb).2 _ _ (by first | omega | (simp <;> omega))]; go_simp
      have zs : w.heap.size < w1.heap.size := World.block_lt_of_cell? _ _ ks0
      have zr : w.heap.size + 1 < w1.heap.size := World.block_lt_of_cell? _ _ kr0
      have hb0 : Below w.heap.size w w1 := (by repeat (first | exact Below.refl _ _ | assumption | refine bstep ?_ (by assumption) | refine Below.drew ?_ | refine balloc ?_ _ | refine Below.setCell ?_ (by first | omega | (simp <;> omega)) _))
      clear hb
      rw [h1]
      go_wp2_with fail
      all_goals first | (exfalso; omega) | skip
      all_goals
          refine Calls.mono (rdown_c _ d _ ?_ ?_ ?_) ?_
          any_goals omega
          rintro e wx ⟨rfl, rfl⟩
          go_wp2_with fail
          all_goals first | (exfalso; omega) | skip
          all_goals
            refine Calls.mono (rup_c _ _ _ ?_ ?_ ?_) ?_
            any_goals omega
            rintro e wx ⟨rfl, rfl⟩
            go_wp2_with fail
            refine Calls.mono (rbounded_c _ _ _) ?_
            rintro e w2 ⟨rfl, hb⟩
            replace ks0 : w2.cell? ⟨w.heap.size, 0, none⟩ = some (.int .i64 s1) := cell_later hb (by first | (with_reducible exact ks0) | (with_reducible exact cell_al _ ks0) | (with_reducible exact cell_al _ (cell_al _ ks0)) | go_simp)
            replace ks1 : w2.cell? ⟨w.heap.size, 1, none⟩ = some (.int .i64 s2) := cell_later hb (by first | (with_reducible exact ks1) | (with_reducible exact cell_al _ ks1) | (with_reducible exact cell_al _ (cell_al _ ks1)) | go_simp)
            replace kr0 : w2.cell? ⟨w.heap.size + 1, 0, none⟩ = some (.int .i64 0) := cell_later hb (by first | (with_reducible exact kr0) | (with_reducible exact cell_al _ kr0) | (with_reducible exact cell_al _ (cell_al _ kr0)) | go_simp)
            replace jr0 : w2.frozen? ⟨w.heap.size + 1, 0, none⟩ = false := by rw [(bcell hb).2 _ _ (by first | omega | (simp <;> omega))]; first | (with_reducible exact jr0) | go_simp
            replace kr1 : w2.cell? ⟨w.heap.size + 1, 1, none⟩ = some (.int .i64 0) := cell_later hb (by first | (with_reducible exact kr1) | (with_reducible exact cell_al _ kr1) | (with_reducible exact cell_al _ (cell_al _ kr1)) | go_simp)
            replace jr1 : w2.frozen? ⟨w.heap.size + 1, 1, none⟩ = false := by rw [(bcell hb).2 _ _ (by first | omega | (simp <;> omega))]; first | (with_reducible exact jr1) | go_simp
            replace zs : w.heap.size < w2.heap.size := World.block_lt_of_cell? _ _ ks0
            replace zr : w.heap.size + 1 < w2.heap.size := World.block_lt_of_cell? _ _ kr0
            replace hb0 : Below w.heap.size w w2 := (by repeat (first | exact Below.refl _ _ | assumption | refine bstep ?_ (by assumption) | refine Below.drew ?_ | refine balloc ?_ _ | refine Below.setCell ?_ (by first | omega | (simp <;> omega)) _))
            clear hb
            go_wp2
            refine bodyPost_ret ?_ rfl ⟨rfl, (by repeat (first | exact Below.refl _ _ | assumption | refine bstep ?_ (by assumption) | refine Below.drew ?_ | refine balloc ?_ _ | refine Below.setCell ?_ (by first | omega | (simp <;> omega)) _))⟩
            simp [results, Try.results21, go_sem, vScale, rScale, selI, erv, h1, h2, kr0, kr1]
            first
              | (simp [show min (s1 * n) (s2 * n) = s1 * n by omega, show max (s1 * n) (s2 * n) = s1 * n by omega]; done)
              | (simp [show min (s1 * n) (s2 * n) = s1 * n by omega, show max (s1 * n) (s2 * n) = s2 * n by omega]; done)
              | (simp [show min (s1 * n) (s2 * n) = s2 * n by omega, show max (s1 * n) (s2 * n) = s1 * n by omega]; done)
              | (simp [show min (s1 * n) (s2 * n) = s2 * n by omega, show max (s1 * n) (s2 * n) = s2 * n by omega]; done)
    ·
      have h2 : kS n d = false := by rw [Bool.eq_false_iff, Ne, kS_iff]; exact hk
      go_enter Try.func21, Try.ntmps21
      go_wp2_with fail
      refine Calls.mono (rvalid_c _ _ _) ?_
      rintro e w1 ⟨rfl, hb⟩
      have ks0 : w1.cell? ⟨w.heap.size, 0, none⟩ = some (.int .i64 s1) := cell_later hb (by go_simp)
      have ks1 : w1.cell? ⟨w.heap.size, 1, none⟩ = some (.int .i64 s2) := cell_later hb (by go_simp)
      have kr0 : w1.cell? ⟨w.heap.size + 1, 0, none⟩ = some (.int .i64 0) := cell_later hb (by go_simp)
      have jr0 : w1.frozen? ⟨w.heap.size + 1, 0, none⟩ = false := by rw [(bcell hb).2 _ _ (by first | omega | (simp <;> omega))]; go_simp
      have kr1 : w1.cell? ⟨w.heap.size + 1, 1, none⟩ = some (.int .i64 0) := cell_later hb (by go_simp)
      have jr1 : w1.frozen? ⟨w.heap.size + 1, 1, none⟩ = false := by rw [(bcell hb).2 _ _ (by first | omega | (simp <;> omega))]; go_simp
      have zs : w.heap.size < w1.heap.size := World.block_lt_of_cell? _ _ ks0
      have zr : w.heap.size + 1 < w1.heap.size := World.block_lt_of_cell? _ _ kr0
      have hb0 : Below w.heap.size w w1 := (by repeat (first | exact Below.refl _ _ | assumption | refine bstep ?_ (by assumption) | refine Below.drew ?_ | refine balloc ?_ _ | refine Below.setCell ?_ (by first | omega | (simp <;> omega)) _))
      clear hb
      rw [h1]
      go_wp2
      all_goals first | (exfalso; omega) | skip
      all_goals
        refine bodyPost_ret ?_ rfl ⟨rfl, (by repeat (first | exact Below.refl _ _ | assumption | refine bstep ?_ (by assumption) | refine Below.drew ?_ | refine balloc ?_ _ | refine Below.setCell ?_ (by first | omega | (simp <;> omega)) _))⟩
        simp [results, Try.results21, go_sem, vScale, rScale, selI, erv, h1, h2, kr0, kr1]
  ·
    go_enter Try.func21, Try.ntmps21
    go_wp2_with fail
    refine Calls.mono (rvalid_c _ _ _) ?_
    rintro e w1 ⟨rfl, hb⟩
    have ks0 : w1.cell? ⟨w.heap.size, 0, none⟩ = some (.int .i64 s1) := cell_later hb (by go_simp)
    have ks1 : w1.cell? ⟨w.heap.size, 1, none⟩ = some (.int .i64 s2) := cell_later hb (by go_simp)
    have kr0 : w1.cell? ⟨w.heap.size + 1, 0, none⟩ = some (.int .i64 0) := cell_later hb (by go_simp)
    have jr0 : w1.frozen? ⟨w.heap.size + 1, 0, none⟩ = false := by rw [(bcell hb).2 _ _ (by first | omega | (simp <;> omega))]; go_simp
    have kr1 : w1.cell? ⟨w.heap.size + 1, 1, none⟩ = some (.int .i64 0) := cell_later hb (by go_simp)
    have jr1 : w1.frozen? ⟨w.heap.size + 1, 1, none⟩ = false := by rw [(bcell hb).2 _ _ (by first | omega | (simp <;> omega))]; go_simp
    have zs : w.heap.size < w1.heap.size := World.block_lt_of_cell? _ _ ks0
    have zr : w.heap.size + 1 < w1.heap.size := World.block_lt_of_cell? _ _ kr0
    have hb0 : Below w.heap.size w w1 := (by repeat (first | exact Below.refl _ _ | assumption | refine bstep ?_ (by assumption) | refine Below.drew ?_ | refine balloc ?_ _ | refine Below.setCell ?_ (by first | omega | (simp <;> omega)) _))
    clear hb
    rw [h1]
    go_wp2
    refine bodyPost_ret ?_ rfl ⟨rfl, (by repeat (first | exact Below.refl _ _ | assumption | refine bstep ?_ (by assumption) | refine Below.drew ?_ | refine balloc ?_ _ | refine Below.setCell ?_ (by first | omega | (simp <;> omega)) _))⟩
    simp [results, Try.results21, go_sem, vScale, rScale, selI, erv, h1, kr0, kr1]


end Go.Proofs.Ytendnhmobhicmaa
