/- LawScaled: the law SpanScaled. -/
import Derived.Test.YtendnhmobhicmaaHeadA
import Derived.Test.YtendnhmobhicmaaRows
import Derived.WalkKit
import Derived.WalkSpells
import Derived.WalkLawsBesides
import Derived.Lib.Hide
import Derived.Deep.QuietTactic
import Derived.BigQuiet
import Derived.RegionTactic
import Derived.ChangeAlike
import Derived.BigRegion
import Derived.Deep.RegionHeld3
import Derived.Deep.RegionWith
import Derived.Outline
import Derived.Deep.DeepCutAuto
namespace Go.Proofs.Ytendnhmobhicmaa
open Go.RowKit
set_option linter.unusedSimpArgs false
set_option linter.unusedVariables false

theorem between_mul {a b x n : Int} (h1 : a ≤ x) (h2 : x ≤ b) : min (a * n) (b * n) ≤ x * n ∧ x * n ≤ max (a * n) (b * n) := by
  rcases Int.le_total 0 n with h | h
  · have e1 := Int.mul_le_mul_of_nonneg_right h1 h
    have e2 := Int.mul_le_mul_of_nonneg_right h2 h
    omega
  · have e1 := Int.mul_le_mul_of_nonpos_right h1 h
    have e2 := Int.mul_le_mul_of_nonpos_right h2 h
    omega

set_option maxRecDepth 100000 in
set_option maxHeartbeats 6400000 in
theorem scaled_law (s1 s2 n d x : Int) (w : World)  : Calls Try.prog 5 #[(.agg #[(.int .i64 s1), (.int .i64 s2)]), (.int .i64 n), (.int .i64 d), (.int .i64 x)] w (Ret w (.bool true)) := by
  rcases Bool.eq_false_or_eq_true (vE 1000000000000 s1 s2 && kS n d) with hv | hv
  ·
    have v1 : vScale s1 s2 n d = true := hv
    have u := hv
    rw [Bool.and_eq_true, vE_iff, kS_iff] at u
    rcases Bool.eq_false_or_eq_true (vE 1000000000000 (dn (min (s1 * n) (s2 * n)) d) (upd (max (s1 * n) (s2 * n)) d)) with hr | hr
    ·
      have q1 : rScale s1 s2 n d = true := hr
      rw [vE_iff] at hr
      have C1 := fun w => Scale_c s1 s2 n d w
      simp only [v1, q1, selI, selB, erv, cond_true, cond_false, Bool.and_true, Bool.and_false, Bool.true_and, Bool.false_and] at C1
      have f1 := dn_spec (n := min (s1 * n) (s2 * n)) (d := d) (by omega)
      have f2 := upd_spec (n := max (s1 * n) (s2 * n)) (d := d) (by omega)
      clear v1 q1 hv
      generalize dn (min (s1 * n) (s2 * n)) d = L at *
      generalize upd (max (s1 * n) (s2 * n)) d = H at *
      have mb := mul_bd (a := s1) (b := n) (A := 1000000000000) (B := 1000000) (by omega) (by omega) (by omega) (by omega)
      have mb := mul_bd (a := s2) (b := n) (A := 1000000000000) (B := 1000000) (by omega) (by omega) (by omega) (by omega)
      have mb := mul_bd (a := L) (b := d) (A := 1000000000000) (B := 1000000) (by omega) (by omega) (by omega) (by omega)
      have mb := mul_bd (a := H) (b := d) (A := 1000000000000) (B := 1000000) (by omega) (by omega) (by omega) (by omega)
      have mb := mul_bd (a := (L + 1)) (b := d) (A := 1000000000001) (B := 1000000) (by omega) (by omega) (by omega) (by omega)
      have mb := mul_bd (a := (H - 1)) (b := d) (A := 1000000000001) (B := 1000000) (by omega) (by omega) (by omega) (by omega)
      by_cases hin : s1 ≤ x ∧ x ≤ s2
      ·
        have f3 := between_mul (n := n) hin.1 hin.2
        have mb := mul_bd (a := x) (b := n) (A := 1000000000000) (B := 1000000) (by omega) (by omega) (by omega) (by omega)
        obtain ⟨i1, i2⟩ := hin
        go_enter Try.func5, Try.ntmps5
        go_wp2_with fail
        refine Calls.mono (head_c _) ?_
        rintro e w1 ⟨rfl, hb⟩
        have ks0 : w1.cell? ⟨w.heap.size, 0, none⟩ = some (.int .i64 s1) := cell_later hb (by go_simp)
        have ks1 : w1.cell? ⟨w.heap.size, 1, none⟩ = some (.int .i64 s2) := cell_later hb (by go_simp)
        have zs : w.heap.size < w1.heap.size := World.block_lt_of_cell? _ _ ks0
        have hb0 : Below w.heap.size w w1 := (by repeat (first | exact Below.refl _ _ | assumption | refine bstep ?_ (by assumption) | refine Below.drew ?_ | refine balloc ?_ _ | refine Below.setCell ?_ (by first | omega | (simp <;> omega)) _))
        clear hb
        go_wp2_with fail
        refine Calls.mono (C1 _) ?_
        rintro e w2 ⟨rfl, hb⟩
        replace ks0 : w2.cell? ⟨w.heap.size, 0, none⟩ = some (.int .i64 s1) := cell_later hb (by first | (with_reducible exact ks0) | (with_reducible exact cell_al _ ks0) | (with_reducible exact cell_al _ (cell_al _ ks0)) | go_simp)
        replace ks1 : w2.cell? ⟨w.heap.size, 1, none⟩ = some (.int .i64 s2) := cell_later hb (by first | (with_reducible exact ks1) | (with_reducible exact cell_al _ ks1) | (with_reducible exact cell_al _ (cell_al _ ks1)) | go_simp)
        replace zs : w.heap.size < w2.heap.size := World.block_lt_of_cell? _ _ ks0
        replace hb0 : Below w.heap.size w w2 := (by repeat (first | exact Below.refl _ _ | assumption | refine bstep ?_ (by assumption) | refine Below.drew ?_ | refine balloc ?_ _ | refine Below.setCell ?_ (by first | omega | (simp <;> omega)) _))
        clear hb
        go_wp2
        all_goals first | (exfalso; omega) | (go_ret; refine ret_bool ?_ (by repeat (first | exact Below.refl _ _ | assumption | refine bstep ?_ (by assumption) | refine Below.drew ?_ | refine balloc ?_ _ | refine Below.setCell ?_ (by first | omega | (simp <;> omega)) _)); first | (simp; done) | (simp <;> omega))
      ·
        go_enter Try.func5, Try.ntmps5
        go_wp2_with fail
        refine Calls.mono (head_c _) ?_
        rintro e w1 ⟨rfl, hb⟩
        have ks0 : w1.cell? ⟨w.heap.size, 0, none⟩ = some (.int .i64 s1) := cell_later hb (by go_simp)
        have ks1 : w1.cell? ⟨w.heap.size, 1, none⟩ = some (.int .i64 s2) := cell_later hb (by go_simp)
        have zs : w.heap.size < w1.heap.size := World.block_lt_of_cell? _ _ ks0
        have hb0 : Below w.heap.size w w1 := (by repeat (first | exact Below.refl _ _ | assumption | refine bstep ?_ (by assumption) | refine Below.drew ?_ | refine balloc ?_ _ | refine Below.setCell ?_ (by first | omega | (simp <;> omega)) _))
        clear hb
        go_wp2_with fail
        refine Calls.mono (C1 _) ?_
        rintro e w2 ⟨rfl, hb⟩
        replace ks0 : w2.cell? ⟨w.heap.size, 0, none⟩ = some (.int .i64 s1) := cell_later hb (by first | (with_reducible exact ks0) | (with_reducible exact cell_al _ ks0) | (with_reducible exact cell_al _ (cell_al _ ks0)) | go_simp)
        replace ks1 : w2.cell? ⟨w.heap.size, 1, none⟩ = some (.int .i64 s2) := cell_later hb (by first | (with_reducible exact ks1) | (with_reducible exact cell_al _ ks1) | (with_reducible exact cell_al _ (cell_al _ ks1)) | go_simp)
        replace zs : w.heap.size < w2.heap.size := World.block_lt_of_cell? _ _ ks0
        replace hb0 : Below w.heap.size w w2 := (by repeat (first | exact Below.refl _ _ | assumption | refine bstep ?_ (by assumption) | refine Below.drew ?_ | refine balloc ?_ _ | refine Below.setCell ?_ (by first | omega | (simp <;> omega)) _))
        clear hb
        go_wp2
        all_goals first | (exfalso; omega) | (go_ret; refine ret_bool ?_ (by repeat (first | exact Below.refl _ _ | assumption | refine bstep ?_ (by assumption) | refine Below.drew ?_ | refine balloc ?_ _ | refine Below.setCell ?_ (by first | omega | (simp <;> omega)) _)); first | (simp; done) | (simp <;> omega))
    ·
      have q1 : rScale s1 s2 n d = false := hr
      have C1 := fun w => Scale_c s1 s2 n d w
      simp only [v1, q1, selI, selB, erv, cond_true, cond_false, Bool.and_true, Bool.and_false, Bool.true_and, Bool.false_and] at C1
      clear v1 q1
      go_enter Try.func5, Try.ntmps5
      go_wp2_with fail
      refine Calls.mono (head_c _) ?_
      rintro e w1 ⟨rfl, hb⟩
      have ks0 : w1.cell? ⟨w.heap.size, 0, none⟩ = some (.int .i64 s1) := cell_later hb (by go_simp)
      have ks1 : w1.cell? ⟨w.heap.size, 1, none⟩ = some (.int .i64 s2) := cell_later hb (by go_simp)
      have zs : w.heap.size < w1.heap.size := World.block_lt_of_cell? _ _ ks0
      have hb0 : Below w.heap.size w w1 := (by repeat (first | exact Below.refl _ _ | assumption | refine bstep ?_ (by assumption) | refine Below.drew ?_ | refine balloc ?_ _ | refine Below.setCell ?_ (by first | omega | (simp <;> omega)) _))
      clear hb
      go_wp2_with fail
      refine Calls.mono (C1 _) ?_
      rintro e w2 ⟨rfl, hb⟩
      replace ks0 : w2.cell? ⟨w.heap.size, 0, none⟩ = some (.int .i64 s1) := cell_later hb (by first | (with_reducible exact ks0) | (with_reducible exact cell_al _ ks0) | (with_reducible exact cell_al _ (cell_al _ ks0)) | go_simp)
      replace ks1 : w2.cell? ⟨w.heap.size, 1, none⟩ = some (.int .i64 s2) := cell_later hb (by first | (with_reducible exact ks1) | (with_reducible exact cell_al _ ks1) | (with_reducible exact cell_al _ (cell_al _ ks1)) | go_simp)
      replace zs : w.heap.size < w2.heap.size := World.block_lt_of_cell? _ _ ks0
      replace hb0 : Below w.heap.size w w2 := (by repeat (first | exact Below.refl _ _ | assumption | refine bstep ?_ (by assumption) | refine Below.drew ?_ | refine balloc ?_ _ | refine Below.setCell ?_ (by first | omega | (simp <;> omega)) _))
      clear hb
      go_wp2
      all_goals first | (exfalso; omega) | (go_ret; refine ret_bool ?_ (by repeat (first | exact Below.refl _ _ | assumption | refine bstep ?_ (by assumption) | refine Below.drew ?_ | refine balloc ?_ _ | refine Below.setCell ?_ (by first | omega | (simp <;> omega)) _)); first | (simp; done) | (simp <;> omega))
  ·
    have v1 : vScale s1 s2 n d = false := hv
    have C1 := fun w => Scale_c s1 s2 n d w
    simp only [v1, selI, selB, erv, cond_true, cond_false, Bool.and_true, Bool.and_false, Bool.true_and, Bool.false_and] at C1
    clear v1
    go_enter Try.func5, Try.ntmps5
    go_wp2_with fail
    refine Calls.mono (head_c _) ?_
    rintro e w1 ⟨rfl, hb⟩
    have ks0 : w1.cell? ⟨w.heap.size, 0, none⟩ = some (.int .i64 s1) := cell_later hb (by go_simp)
    have ks1 : w1.cell? ⟨w.heap.size, 1, none⟩ = some (.int .i64 s2) := cell_later hb (by go_simp)
    have zs : w.heap.size < w1.heap.size := World.block_lt_of_cell? _ _ ks0
    have hb0 : Below w.heap.size w w1 := (by repeat (first | exact Below.refl _ _ | assumption | refine bstep ?_ (by assumption) | refine Below.drew ?_ | refine balloc ?_ _ | refine Below.setCell ?_ (by first | omega | (simp <;> omega)) _))
    clear hb
    go_wp2_with fail
    refine Calls.mono (C1 _) ?_
    rintro e w2 ⟨rfl, hb⟩
    replace ks0 : w2.cell? ⟨w.heap.size, 0, none⟩ = some (.int .i64 s1) := cell_later hb (by first | (with_reducible exact ks0) | (with_reducible exact cell_al _ ks0) | (with_reducible exact cell_al _ (cell_al _ ks0)) | go_simp)
    replace ks1 : w2.cell? ⟨w.heap.size, 1, none⟩ = some (.int .i64 s2) := cell_later hb (by first | (with_reducible exact ks1) | (with_reducible exact cell_al _ ks1) | (with_reducible exact cell_al _ (cell_al _ ks1)) | go_simp)
    replace zs : w.heap.size < w2.heap.size := World.block_lt_of_cell? _ _ ks0
    replace hb0 : Below w.heap.size w w2 := (by repeat (first | exact Below.refl _ _ | assumption | refine bstep ?_ (by assumption) | refine Below.drew ?_ | refine balloc ?_ _ | refine Below.setCell ?_ (by first | omega | (simp <;> omega)) _))
    clear hb
    go_wp2
    all_goals first | (exfalso; omega) | (go_ret; refine ret_bool ?_ (by repeat (first | exact Below.refl _ _ | assumption | refine bstep ?_ (by assumption) | refine Below.drew ?_ | refine balloc ?_ _ | refine Below.setCell ?_ (by first | omega | (simp <;> omega)) _)); first | (simp; done) | (simp <;> omega))


end Go.Proofs.Ytendnhmobhicmaa
