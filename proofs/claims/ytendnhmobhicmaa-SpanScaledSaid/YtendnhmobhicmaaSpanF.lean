/- SpanF: package span, Scale. -/
import Derived.Test.YtendnhmobhicmaaSpanA
import Derived.Test.YtendnhmobhicmaaSpanN
import Derived.Test.YtendnhmobhicmaaRows
import Derived.WalkKit
import Derived.WalkSpells
import Derived.WalkLawsBesides
import Derived.Lib.Hide
import Derived.Deep.QuietTactic
import Derived.BigQuiet
import Derived.RegionTactic
import Derived.ChangeAlike
import Derived.BigRegion
import Derived.Deep.RegionHeld3
import Derived.Deep.RegionWith
import Derived.Outline
namespace Go.Proofs.Ytendnhmobhicmaa
open Go.RowKit

set_option maxHeartbeats 3200000 in
theorem Scale_c (s1 s2 n d : Int) (w : World)  : Calls Try.prog 20 #[(.agg #[(.int .i64 s1), (.int .i64 s2)]), (.int .i64 n), (.int .i64 d)] w (Ret w (.tuple #[.agg #[(.int .i64 (selI ((vScale s1 s2 n d) && (rScale s1 s2 n d)) (dn (min (s1 * n) (s2 * n)) d))), (.int .i64 (selI ((vScale s1 s2 n d) && (rScale s1 s2 n d)) (upd (max (s1 * n) (s2 * n)) d)))], (.int .i64 (erv (vScale s1 s2 n d) (rScale s1 s2 n d) 3))])) := by
  rcases Bool.eq_false_or_eq_true (vE 1000000000000 s1 s2) with h1 | h1
  ·
    have u1 := vE_iff.1 h1
    by_cases hk : -1000000 ≤ n ∧ n ≤ 1000000 ∧ 1 ≤ d ∧ d ≤ 1000000
    ·
      have h2 : kS n d = true := kS_iff.2 hk
      have m1 := mul_bd (a := s1) (b := n) (A := 1000000000000) (B := 1000000) (by omega) (by omega) (by omega) (by omega)
      have m2 := mul_bd (a := s2) (b := n) (A := 1000000000000) (B := 1000000) (by omega) (by omega) (by omega) (by omega)
      go_enter Try.func20, Try.ntmps20
      go_wp2_with fail
      refine Calls.mono (valid_c _ _ _) ?_
      rintro e w1 ⟨rfl, hb⟩
      have ks0 : w1.cell? ⟨w.heap.size, 0, none⟩ = some (.int .i64 s1) := cell_later hb (by go_simp)
      have ks1 : w1.cell? ⟨w.heap.size, 1, none⟩ = some (.int .i64 s2) := cell_later hb (by go_simp)
      have kr0 : w1.cell? ⟨w.heap.size + 1, 0, none⟩ = some (.int .i64 0) := cell_later hb (by go_simp)
      have jr0 : w1.frozen? ⟨w.heap.size + 1, 0, none⟩ = false := by rw [(bcell hb).2 _ _ (by first | omega | (simp <;> omega))]; go_simp
      have kr1 : w1.cell? ⟨w.heap.size + 1, 1, none⟩ = some (.int .i64 0) := cell_later hb (by go_simp)
      have jr1 : w1.frozen? ⟨w.heap.size + 1, 1, none⟩ = false := by rw [(bcell hb).2 _ _ (by first | omega | (simp <;> omega))]; go_simp
      have zs : w.heap.size < w1.heap.size := World.block_lt_of_cell? _ _ ks0
      have zr : w.heap.size + 1 < w1.heap.size := World.block_lt_of_cell? _ _ kr0
      have hb0 : Below w.heap.size w w1 := (by repeat (first | exact Below.refl _ _ | assumption | refine bstep ?_ (by assumption) | refine Below.drew ?_ | refine balloc ?_ _ | refine Below.setCell ?_ (by first | omega | (simp <;> omega)) _))
      clear hb
      go_wp2_with fail
      refine Calls.mono (inOrder_c _ _ _) ?_
      rintro e wx ⟨rfl, rfl⟩
      go_wp2_with fail
      refine Calls.mono (roundDown_c _ _ _ ?_ ?_ ?_) ?_
      any_goals omega
      rintro e wx ⟨rfl, rfl⟩
      go_wp2_with fail
      refine Calls.mono (roundUp_c _ _ _ ?_ ?_ ?_) ?_
      any_goals omega
      rintro e wx ⟨rfl, rfl⟩
      go_wp2_with fail
      refine Calls.mono (inRange_c _ _ _) ?_
      rintro e w2 ⟨rfl, hb⟩
      replace ks0 : w2.cell? ⟨w.heap.size, 0, none⟩ = some (.int .i64 s1) := cell_later hb (by first | exact ks0 | exact cell_al _ ks0 | exact cell_al _ (cell_al _ ks0) | go_simp)
      replace ks1 : w2.cell? ⟨w.heap.size, 1, none⟩ = some (.int .i64 s2) := cell_later hb (by first | exact ks1 | exact cell_al _ ks1 | exact cell_al _ (cell_al _ ks1) | go_simp)
      replace kr0 : w2.cell? ⟨w.heap.size + 1, 0, none⟩ = some (.int .i64 0) := cell_later hb (by first | exact kr0 | exact cell_al _ kr0 | exact cell_al _ (cell_al _ kr0) | go_simp)
      replace jr0 : w2.frozen? ⟨w.heap.size + 1, 0, none⟩ = false := by rw [(bcell hb).2 _ _ (by first | omega | (simp <;> omega))]; first | exact jr0 | go_simp
      replace kr1 : w2.cell? ⟨w.heap.size + 1, 1, none⟩ = some (.int .i64 0) := cell_later hb (by first | exact kr1 | exact cell_al _ kr1 | exact cell_al _ (cell_al _ kr1) | go_simp)
      replace jr1 : w2.frozen? ⟨w.heap.size + 1, 1, none⟩ = false := by rw [(bcell hb).2 _ _ (by first | omega | (simp <;> omega))]; first | exact jr1 | go_simp
      replace zs : w.heap.size < w2.heap.size := World.block_lt_of_cell? _ _ ks0
      replace zr : w.heap.size + 1 < w2.heap.size := World.block_lt_of_cell? _ _ kr0
      replace hb0 : Below w.heap.size w w2 := (by repeat (first | exact Below.refl _ _ | assumption | refine bstep ?_ (by assumption) | refine Below.drew ?_ | refine balloc ?_ _ | refine Below.setCell ?_ (by first | omega | (simp <;> omega)) _))
      clear hb
      go_wp2
      refine bodyPost_ret ?_ rfl ⟨rfl, (by repeat (first | exact Below.refl _ _ | assumption | refine bstep ?_ (by assumption) | refine Below.drew ?_ | refine balloc ?_ _ | refine Below.setCell ?_ (by first | omega | (simp <;> omega)) _))⟩
      simp [results, Try.results20, go_sem, vScale, rScale, selI, erv, h1, h2, kr0, kr1]
    ·
      have h2 : kS n d = false := by rw [Bool.eq_false_iff, Ne, kS_iff]; exact hk
      go_enter Try.func20, Try.ntmps20
      go_wp2_with fail
      refine Calls.mono (valid_c _ _ _) ?_
      rintro e w1 ⟨rfl, hb⟩
      have ks0 : w1.cell? ⟨w.heap.size, 0, none⟩ = some (.int .i64 s1) := cell_later hb (by go_simp)
      have ks1 : w1.cell? ⟨w.heap.size, 1, none⟩ = some (.int .i64 s2) := cell_later hb (by go_simp)
      have kr0 : w1.cell? ⟨w.heap.size + 1, 0, none⟩ = some (.int .i64 0) := cell_later hb (by go_simp)
      have jr0 : w1.frozen? ⟨w.heap.size + 1, 0, none⟩ = false := by rw [(bcell hb).2 _ _ (by first | omega | (simp <;> omega))]; go_simp
      have kr1 : w1.cell? ⟨w.heap.size + 1, 1, none⟩ = some (.int .i64 0) := cell_later hb (by go_simp)
      have jr1 : w1.frozen? ⟨w.heap.size + 1, 1, none⟩ = false := by rw [(bcell hb).2 _ _ (by first | omega | (simp <;> omega))]; go_simp
      have zs : w.heap.size < w1.heap.size := World.block_lt_of_cell? _ _ ks0
      have zr : w.heap.size + 1 < w1.heap.size := World.block_lt_of_cell? _ _ kr0
      have hb0 : Below w.heap.size w w1 := (by repeat (first | exact Below.refl _ _ | assumption | refine bstep ?_ (by assumption) | refine Below.drew ?_ | refine balloc ?_ _ | refine Below.setCell ?_ (by first | omega | (simp <;> omega)) _))
      clear hb
      rw [h1]
      go_wp2
      all_goals first | (exfalso; omega) | skip
      all_goals
        refine bodyPost_ret ?_ rfl ⟨rfl, (by repeat (first | exact Below.refl _ _ | assumption | refine bstep ?_ (by assumption) | refine Below.drew ?_ | refine balloc ?_ _ | refine Below.setCell ?_ (by first | omega | (simp <;> omega)) _))⟩
        simp [results, Try.results20, go_sem, vScale, rScale, selI, erv, h1, h2, kr0, kr1]
  ·
    go_enter Try.func20, Try.ntmps20
    go_wp2_with fail
    refine Calls.mono (valid_c _ _ _) ?_
    rintro e w1 ⟨rfl, hb⟩
    have ks0 : w1.cell? ⟨w.heap.size, 0, none⟩ = some (.int .i64 s1) := cell_later hb (by go_simp)
    have ks1 : w1.cell? ⟨w.heap.size, 1, none⟩ = some (.int .i64 s2) := cell_later hb (by go_simp)
    have kr0 : w1.cell? ⟨w.heap.size + 1, 0, none⟩ = some (.int .i64 0) := cell_later hb (by go_simp)
    have jr0 : w1.frozen? ⟨w.heap.size + 1, 0, none⟩ = false := by rw [(bcell hb).2 _ _ (by first | omega | (simp <;> omega))]; go_simp
    have kr1 : w1.cell? ⟨w.heap.size + 1, 1, none⟩ = some (.int .i64 0) := cell_later hb (by go_simp)
    have jr1 : w1.frozen? ⟨w.heap.size + 1, 1, none⟩ = false := by rw [(bcell hb).2 _ _ (by first | omega | (simp <;> omega))]; go_simp
    have zs : w.heap.size < w1.heap.size := World.block_lt_of_cell? _ _ ks0
    have zr : w.heap.size + 1 < w1.heap.size := World.block_lt_of_cell? _ _ kr0
    have hb0 : Below w.heap.size w w1 := (by repeat (first | exact Below.refl _ _ | assumption | refine bstep ?_ (by assumption) | refine Below.drew ?_ | refine balloc ?_ _ | refine Below.setCell ?_ (by first | omega | (simp <;> omega)) _))
    clear hb
    rw [h1]
    go_wp2
    refine bodyPost_ret ?_ rfl ⟨rfl, (by repeat (first | exact Below.refl _ _ | assumption | refine bstep ?_ (by assumption) | refine Below.drew ?_ | refine balloc ?_ _ | refine Below.setCell ?_ (by first | omega | (simp <;> omega)) _))⟩
    simp [results, Try.results20, go_sem, vScale, rScale, selI, erv, h1, kr0, kr1]


end Go.Proofs.Ytendnhmobhicmaa
