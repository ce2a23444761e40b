/- LawJoined: the law SpanJoined. -/
import Derived.Test.YtendnhmobhicmaaHeadA
import Derived.Test.YtendnhmobhicmaaRows
import Derived.WalkKit
import Derived.WalkSpells
import Derived.WalkLawsBesides
import Derived.Lib.Hide
import Derived.Deep.QuietTactic
import Derived.BigQuiet
import Derived.RegionTactic
import Derived.ChangeAlike
import Derived.BigRegion
import Derived.Deep.RegionHeld3
import Derived.Deep.RegionWith
import Derived.Outline
import Derived.Deep.DeepCutAuto
namespace Go.Proofs.Ytendnhmobhicmaa
open Go.RowKit
set_option linter.unusedSimpArgs false
set_option linter.unusedVariables false

set_option maxRecDepth 100000 in
set_option maxHeartbeats 6400000 in
theorem joined_law (s1 s2 t1 t2 u1 u2 : Int) (w : World)  : Calls Try.prog 7 #[(.agg #[(.int .i64 s1), (.int .i64 s2)]), (.agg #[(.int .i64 t1), (.int .i64 t2)]), (.agg #[(.int .i64 u1), (.int .i64 u2)])] w (Ret w (.bool true)) := by
  rcases Bool.eq_false_or_eq_true (vE 1000000000000 s1 s2) with h1 | h1
  ·
    rcases Bool.eq_false_or_eq_true (vE 1000000000000 t1 t2) with h2 | h2
    ·
      have v1 : vJoin s1 s2 t1 t2 = true := by unfold vJoin; rw [h1, h2]; rfl
      have i1 := vE_iff.1 h1
      have i2 := vE_iff.1 h2
      have C1 := fun w => Join_c s1 s2 t1 t2 w
      simp only [v1, selI, selB, erv, cond_true, cond_false, Bool.and_true, Bool.and_false, Bool.true_and, Bool.false_and] at C1
      obtain ⟨j1, hj1⟩ : ∃ x, x = min s1 t1 := ⟨_, rfl⟩
      obtain ⟨j2, hj2⟩ : ∃ x, x = max s2 t2 := ⟨_, rfl⟩
      rw [← hj1, ← hj2] at C1
      have h3 : vE 1000000000000 j1 j2 = true := by rw [vE_iff]; omega
      have vC2 : vWithin s1 s2 j1 j2 = true := by unfold vWithin; rw [h1, h3]; rfl
      have wC2 : wI s1 s2 j1 j2 = true := by rw [wI_iff]; omega
      have C2 := fun w => Within_c s1 s2 j1 j2 w
      simp only [vC2, wC2, selI, selB, erv, cond_true, cond_false, Bool.and_true, Bool.and_false, Bool.true_and, Bool.false_and] at C2
      clear vC2
      clear wC2
      have vC3 : vWithin t1 t2 j1 j2 = true := by unfold vWithin; rw [h2, h3]; rfl
      have wC3 : wI t1 t2 j1 j2 = true := by rw [wI_iff]; omega
      have C3 := fun w => Within_c t1 t2 j1 j2 w
      simp only [vC3, wC3, selI, selB, erv, cond_true, cond_false, Bool.and_true, Bool.and_false, Bool.true_and, Bool.false_and] at C3
      clear vC3
      clear wC3
      rcases Bool.eq_false_or_eq_true (vE 1000000000000 u1 u2) with h4 | h4
      ·
        have vC4 : vWithin s1 s2 u1 u2 = true := by unfold vWithin; rw [h1, h4]; rfl
        have C4 := fun w => Within_c s1 s2 u1 u2 w
        simp only [vC4, selI, selB, erv, cond_true, cond_false, Bool.and_true, Bool.and_false, Bool.true_and, Bool.false_and] at C4
        clear vC4
        have vC5 : vWithin t1 t2 u1 u2 = true := by unfold vWithin; rw [h2, h4]; rfl
        have C5 := fun w => Within_c t1 t2 u1 u2 w
        simp only [vC5, selI, selB, erv, cond_true, cond_false, Bool.and_true, Bool.and_false, Bool.true_and, Bool.false_and] at C5
        clear vC5
        have vC6 : vWithin j1 j2 u1 u2 = true := by unfold vWithin; rw [h3, h4]; rfl
        have C6 := fun w => Within_c j1 j2 u1 u2 w
        simp only [vC6, selI, selB, erv, cond_true, cond_false, Bool.and_true, Bool.and_false, Bool.true_and, Bool.false_and] at C6
        clear vC6
        have key : wI j1 j2 u1 u2 = (wI s1 s2 u1 u2 && wI t1 t2 u1 u2) := by rw [Bool.eq_iff_iff, Bool.and_eq_true, wI_iff, wI_iff, wI_iff]; omega
        rw [key] at C6
        clear key h1 h2 h3 h4 hj1 hj2 i1 i2 v1
        generalize wI s1 s2 u1 u2 = p at *
        generalize wI t1 t2 u1 u2 = q at *
        cases p <;> cases q
        all_goals
          simp only [Bool.and_true, Bool.and_false, Bool.true_and] at C6
          go_enter Try.func7, Try.ntmps7
          go_wp2_with fail
          refine Calls.mono (head_c _) ?_
          rintro e w1 ⟨rfl, hb⟩
          have ks0 : w1.cell? ⟨w.heap.size, 0, none⟩ = some (.int .i64 s1) := cell_later hb (by go_simp)
          have ks1 : w1.cell? ⟨w.heap.size, 1, none⟩ = some (.int .i64 s2) := cell_later hb (by go_simp)
          have kt0 : w1.cell? ⟨w.heap.size + 1, 0, none⟩ = some (.int .i64 t1) := cell_later hb (by go_simp)
          have kt1 : w1.cell? ⟨w.heap.size + 1, 1, none⟩ = some (.int .i64 t2) := cell_later hb (by go_simp)
          have ku0 : w1.cell? ⟨w.heap.size + 1 + 1, 0, none⟩ = some (.int .i64 u1) := cell_later hb (by go_simp)
          have ku1 : w1.cell? ⟨w.heap.size + 1 + 1, 1, none⟩ = some (.int .i64 u2) := cell_later hb (by go_simp)
          have zs : w.heap.size < w1.heap.size := World.block_lt_of_cell? _ _ ks0
          have zt : w.heap.size + 1 < w1.heap.size := World.block_lt_of_cell? _ _ kt0
          have zu : w.heap.size + 1 + 1 < w1.heap.size := World.block_lt_of_cell? _ _ ku0
          have hb0 : Below w.heap.size w w1 := (by repeat (first | exact Below.refl _ _ | assumption | refine bstep ?_ (by assumption) | refine Below.drew ?_ | refine balloc ?_ _ | refine Below.setCell ?_ (by first | omega | (simp <;> omega)) _))
          clear hb
          go_wp2_with fail
          refine Calls.mono (C1 _) ?_
          rintro e w2 ⟨rfl, hb⟩
          replace ks0 : w2.cell? ⟨w.heap.size, 0, none⟩ = some (.int .i64 s1) := cell_later hb (by first | (with_reducible exact ks0) | (with_reducible exact cell_al _ ks0) | (with_reducible exact cell_al _ (cell_al _ ks0)) | go_simp)
          replace ks1 : w2.cell? ⟨w.heap.size, 1, none⟩ = some (.int .i64 s2) := cell_later hb (by first | (with_reducible exact ks1) | (with_reducible exact cell_al _ ks1) | (with_reducible exact cell_al _ (cell_al _ ks1)) | go_simp)
          replace kt0 : w2.cell? ⟨w.heap.size + 1, 0, none⟩ = some (.int .i64 t1) := cell_later hb (by first | (with_reducible exact kt0) | (with_reducible exact cell_al _ kt0) | (with_reducible exact cell_al _ (cell_al _ kt0)) | go_simp)
          replace kt1 : w2.cell? ⟨w.heap.size + 1, 1, none⟩ = some (.int .i64 t2) := cell_later hb (by first | (with_reducible exact kt1) | (with_reducible exact cell_al _ kt1) | (with_reducible exact cell_al _ (cell_al _ kt1)) | go_simp)
          replace ku0 : w2.cell? ⟨w.heap.size + 1 + 1, 0, none⟩ = some (.int .i64 u1) := cell_later hb (by first | (with_reducible exact ku0) | (with_reducible exact cell_al _ ku0) | (with_reducible exact cell_al _ (cell_al _ ku0)) | go_simp)
          replace ku1 : w2.cell? ⟨w.heap.size + 1 + 1, 1, none⟩ = some (.int .i64 u2) := cell_later hb (by first | (with_reducible exact ku1) | (with_reducible exact cell_al _ ku1) | (with_reducible exact cell_al _ (cell_al _ ku1)) | go_simp)
          replace zs : w.heap.size < w2.heap.size := World.block_lt_of_cell? _ _ ks0
          replace zt : w.heap.size + 1 < w2.heap.size := World.block_lt_of_cell? _ _ kt0
          replace zu : w.heap.size + 1 + 1 < w2.heap.size := World.block_lt_of_cell? _ _ ku0
          replace hb0 : Below w.heap.size w w2 := (by repeat (first | exact Below.refl _ _ | assumption | refine bstep ?_ (by assumption) | refine Below.drew ?_ | refine balloc ?_ _ | refine Below.setCell ?_ (by first | omega | (simp <;> omega)) _))
          clear hb
          go_wp2_with fail
          refine Calls.mono (C2 _) ?_
          rintro e w3 ⟨rfl, hb⟩
          replace ks0 : w3.cell? ⟨w.heap.size, 0, none⟩ = some (.int .i64 s1) := cell_later hb (by first | (with_reducible exact ks0) | (with_reducible exact cell_al _ ks0) | (with_reducible exact cell_al _ (cell_al _ ks0)) | go_simp)
          replace ks1 : w3.cell? ⟨w.heap.size, 1, none⟩ = some (.int .i64 s2) := cell_later hb (by first | (with_reducible exact ks1) | (with_reducible exact cell_al _ ks1) | (with_reducible exact cell_al _ (cell_al _ ks1)) | go_simp)
          replace kt0 : w3.cell? ⟨w.heap.size + 1, 0, none⟩ = some (.int .i64 t1) := cell_later hb (by first | (with_reducible exact kt0) | (with_reducible exact cell_al _ kt0) | (with_reducible exact cell_al _ (cell_al _ kt0)) | go_simp)
          replace kt1 : w3.cell? ⟨w.heap.size + 1, 1, none⟩ = some (.int .i64 t2) := cell_later hb (by first | (with_reducible exact kt1) | (with_reducible exact cell_al _ kt1) | (with_reducible exact cell_al _ (cell_al _ kt1)) | go_simp)
          replace ku0 : w3.cell? ⟨w.heap.size + 1 + 1, 0, none⟩ = some (.int .i64 u1) := cell_later hb (by first | (with_reducible exact ku0) | (with_reducible exact cell_al _ ku0) | (with_reducible exact cell_al _ (cell_al _ ku0)) | go_simp)
          replace ku1 : w3.cell? ⟨w.heap.size + 1 + 1, 1, none⟩ = some (.int .i64 u2) := cell_later hb (by first | (with_reducible exact ku1) | (with_reducible exact cell_al _ ku1) | (with_reducible exact cell_al _ (cell_al _ ku1)) | go_simp)
          have kj0 : w3.cell? ⟨w2.heap.size, 0, none⟩ = some (.int .i64 j1) := cell_later hb (by go_simp)
          have kj1 : w3.cell? ⟨w2.heap.size, 1, none⟩ = some (.int .i64 j2) := cell_later hb (by go_simp)
          replace zs : w.heap.size < w3.heap.size := World.block_lt_of_cell? _ _ ks0
          replace zt : w.heap.size + 1 < w3.heap.size := World.block_lt_of_cell? _ _ kt0
          replace zu : w.heap.size + 1 + 1 < w3.heap.size := World.block_lt_of_cell? _ _ ku0
          have zj : w2.heap.size < w3.heap.size := World.block_lt_of_cell? _ _ kj0
          replace hb0 : Below w.heap.size w w3 := (by repeat (first | exact Below.refl _ _ | assumption | refine bstep ?_ (by assumption) | refine Below.drew ?_ | refine balloc ?_ _ | refine Below.setCell ?_ (by first | omega | (simp <;> omega)) _))
          clear hb
          go_wp2_with fail
          refine Calls.mono (C3 _) ?_
          rintro e w4 ⟨rfl, hb⟩
          replace ks0 : w4.cell? ⟨w.heap.size, 0, none⟩ = some (.int .i64 s1) := cell_later hb (by first | (with_reducible exact ks0) | (with_reducible exact cell_al _ ks0) | (with_reducible exact cell_al _ (cell_al _ ks0)) | go_simp)
          replace ks1 : w4.cell? ⟨w.heap.size, 1, none⟩ = some (.int .i64 s2) := cell_later hb (by first | (with_reducible exact ks1) | (with_reducible exact cell_al _ ks1) | (with_reducible exact cell_al _ (cell_al _ ks1)) | go_simp)
          replace kt0 : w4.cell? ⟨w.heap.size + 1, 0, none⟩ = some (.int .i64 t1) := cell_later hb (by first | (with_reducible exact kt0) | (with_reducible exact cell_al _ kt0) | (with_reducible exact cell_al _ (cell_al _ kt0)) | go_simp)
          replace kt1 : w4.cell? ⟨w.heap.size + 1, 1, none⟩ = some (.int .i64 t2) := cell_later hb (by first | (with_reducible exact kt1) | (with_reducible exact cell_al _ kt1) | (with_reducible exact cell_al _ (cell_al _ kt1)) | go_simp)
          replace ku0 : w4.cell? ⟨w.heap.size + 1 + 1, 0, none⟩ = some (.int .i64 u1) := cell_later hb (by first | (with_reducible exact ku0) | (with_reducible exact cell_al _ ku0) | (with_reducible exact cell_al _ (cell_al _ ku0)) | go_simp)
          replace ku1 : w4.cell? ⟨w.heap.size + 1 + 1, 1, none⟩ = some (.int .i64 u2) := cell_later hb (by first | (with_reducible exact ku1) | (with_reducible exact cell_al _ ku1) | (with_reducible exact cell_al _ (cell_al _ ku1)) | go_simp)
          replace kj0 : w4.cell? ⟨w2.heap.size, 0, none⟩ = some (.int .i64 j1) := cell_later hb (by first | (with_reducible exact kj0) | (with_reducible exact cell_al _ kj0) | (with_reducible exact cell_al _ (cell_al _ kj0)) | go_simp)
          replace kj1 : w4.cell? ⟨w2.heap.size, 1, none⟩ = some (.int .i64 j2) := cell_later hb (by first | (with_reducible exact kj1) | (with_reducible exact cell_al _ kj1) | (with_reducible exact cell_al _ (cell_al _ kj1)) | go_simp)
          replace zs : w.heap.size < w4.heap.size := World.block_lt_of_cell? _ _ ks0
          replace zt : w.heap.size + 1 < w4.heap.size := World.block_lt_of_cell? _ _ kt0
          replace zu : w.heap.size + 1 + 1 < w4.heap.size := World.block_lt_of_cell? _ _ ku0
          replace zj : w2.heap.size < w4.heap.size := World.block_lt_of_cell? _ _ kj0
          replace hb0 : Below w.heap.size w w4 := (by repeat (first | exact Below.refl _ _ | assumption | refine bstep ?_ (by assumption) | refine Below.drew ?_ | refine balloc ?_ _ | refine Below.setCell ?_ (by first | omega | (simp <;> omega)) _))
          clear hb
          go_wp2_with fail
          refine Calls.mono (C4 _) ?_
          rintro e w5 ⟨rfl, hb⟩
          replace ks0 : w5.cell? ⟨w.heap.size, 0, none⟩ = some (.int .i64 s1) := cell_later hb (by first | (with_reducible exact ks0) | (with_reducible exact cell_al _ ks0) | (with_reducible exact cell_al _ (cell_al _ ks0)) | go_simp)
          replace ks1 : w5.cell? ⟨w.heap.size, 1, none⟩ = some (.int .i64 s2) := cell_later hb (by first | (with_reducible exact ks1) | (with_reducible exact cell_al _ ks1) | (with_reducible exact cell_al _ (cell_al _ ks1)) | go_simp)
          replace kt0 : w5.cell? ⟨w.heap.size + 1, 0, none⟩ = some (.int .i64 t1) := cell_later hb (by first | (with_reducible exact kt0) | (with_reducible exact cell_al _ kt0) | (with_reducible exact cell_al _ (cell_al _ kt0)) | go_simp)
          replace kt1 : w5.cell? ⟨w.heap.size + 1, 1, none⟩ = some (.int .i64 t2) := cell_later hb (by first | (with_reducible exact kt1) | (with_reducible exact cell_al _ kt1) | (with_reducible exact cell_al _ (cell_al _ kt1)) | go_simp)
          replace ku0 : w5.cell? ⟨w.heap.size + 1 + 1, 0, none⟩ = some (.int .i64 u1) := cell_later hb (by first | (with_reducible exact ku0) | (with_reducible exact cell_al _ ku0) | (with_reducible exact cell_al _ (cell_al _ ku0)) | go_simp)
          replace ku1 : w5.cell? ⟨w.heap.size + 1 + 1, 1, none⟩ = some (.int .i64 u2) := cell_later hb (by first | (with_reducible exact ku1) | (with_reducible exact cell_al _ ku1) | (with_reducible exact cell_al _ (cell_al _ ku1)) | go_simp)
          replace kj0 : w5.cell? ⟨w2.heap.size, 0, none⟩ = some (.int .i64 j1) := cell_later hb (by first | (with_reducible exact kj0) | (with_reducible exact cell_al _ kj0) | (with_reducible exact cell_al _ (cell_al _ kj0)) | go_simp)
          replace kj1 : w5.cell? ⟨w2.heap.size, 1, none⟩ = some (.int .i64 j2) := cell_later hb (by first | (with_reducible exact kj1) | (with_reducible exact cell_al _ kj1) | (with_reducible exact cell_al _ (cell_al _ kj1)) | go_simp)
          replace zs : w.heap.size < w5.heap.size := World.block_lt_of_cell? _ _ ks0
          replace zt : w.heap.size + 1 < w5.heap.size := World.block_lt_of_cell? _ _ kt0
          replace zu : w.heap.size + 1 + 1 < w5.heap.size := World.block_lt_of_cell? _ _ ku0
          replace zj : w2.heap.size < w5.heap.size := World.block_lt_of_cell? _ _ kj0
          replace hb0 : Below w.heap.size w w5 := (by repeat (first | exact Below.refl _ _ | assumption | refine bstep ?_ (by assumption) | refine Below.drew ?_ | refine balloc ?_ _ | refine Below.setCell ?_ (by first | omega | (simp <;> omega)) _))
          clear hb
          go_wp2_with fail
          refine Calls.mono (C5 _) ?_
          rintro e w6 ⟨rfl, hb⟩
          replace ks0 : w6.cell? ⟨w.heap.size, 0, none⟩ = some (.int .i64 s1) := cell_later hb (by first | (with_reducible exact ks0) | (with_reducible exact cell_al _ ks0) | (with_reducible exact cell_al _ (cell_al _ ks0)) | go_simp)
          replace ks1 : w6.cell? ⟨w.heap.size, 1, none⟩ = some (.int .i64 s2) := cell_later hb (by first | (with_reducible exact ks1) | (with_reducible exact cell_al _ ks1) | (with_reducible exact cell_al _ (cell_al _ ks1)) | go_simp)
          replace kt0 : w6.cell? ⟨w.heap.size + 1, 0, none⟩ = some (.int .i64 t1) := cell_later hb (by first | (with_reducible exact kt0) | (with_reducible exact cell_al _ kt0) | (with_reducible exact cell_al _ (cell_al _ kt0)) | go_simp)
          replace kt1 : w6.cell? ⟨w.heap.size + 1, 1, none⟩ = some (.int .i64 t2) := cell_later hb (by first | (with_reducible exact kt1) | (with_reducible exact cell_al _ kt1) | (with_reducible exact cell_al _ (cell_al _ kt1)) | go_simp)
          replace ku0 : w6.cell? ⟨w.heap.size + 1 + 1, 0, none⟩ = some (.int .i64 u1) := cell_later hb (by first | (with_reducible exact ku0) | (with_reducible exact cell_al _ ku0) | (with_reducible exact cell_al _ (cell_al _ ku0)) | go_simp)
          replace ku1 : w6.cell? ⟨w.heap.size + 1 + 1, 1, none⟩ = some (.int .i64 u2) := cell_later hb (by first | (with_reducible exact ku1) | (with_reducible exact cell_al _ ku1) | (with_reducible exact cell_al _ (cell_al _ ku1)) | go_simp)
          replace kj0 : w6.cell? ⟨w2.heap.size, 0, none⟩ = some (.int .i64 j1) := cell_later hb (by first | (with_reducible exact kj0) | (with_reducible exact cell_al _ kj0) | (with_reducible exact cell_al _ (cell_al _ kj0)) | go_simp)
          replace kj1 : w6.cell? ⟨w2.heap.size, 1, none⟩ = some (.int .i64 j2) := cell_later hb (by first | (with_reducible exact kj1) | (with_reducible exact cell_al _ kj1) | (with_reducible exact cell_al _ (cell_al _ kj1)) | go_simp)
          replace zs : w.heap.size < w6.heap.size := World.block_lt_of_cell? _ _ ks0
          replace zt : w.heap.size + 1 < w6.heap.size := World.block_lt_of_cell? _ _ kt0
          replace zu : w.heap.size + 1 + 1 < w6.heap.size := World.block_lt_of_cell? _ _ ku0
          replace zj : w2.heap.size < w6.heap.size := World.block_lt_of_cell? _ _ kj0
          replace hb0 : Below w.heap.size w w6 := (by repeat (first | exact Below.refl _ _ | assumption | refine bstep ?_ (by assumption) | refine Below.drew ?_ | refine balloc ?_ _ | refine Below.setCell ?_ (by first | omega | (simp <;> omega)) _))
          clear hb
          go_wp2_with fail
          refine Calls.mono (C6 _) ?_
          rintro e w7 ⟨rfl, hb⟩
          replace ks0 : w7.cell? ⟨w.heap.size, 0, none⟩ = some (.int .i64 s1) := cell_later hb (by first | (with_reducible exact ks0) | (with_reducible exact cell_al _ ks0) | (with_reducible exact cell_al _ (cell_al _ ks0)) | go_simp)
          replace ks1 : w7.cell? ⟨w.heap.size, 1, none⟩ = some (.int .i64 s2) := cell_later hb (by first | (with_reducible exact ks1) | (with_reducible exact cell_al _ ks1) | (with_reducible exact cell_al _ (cell_al _ ks1)) | go_simp)
          replace kt0 : w7.cell? ⟨w.heap.size + 1, 0, none⟩ = some (.int .i64 t1) := cell_later hb (by first | (with_reducible exact kt0) | (with_reducible exact cell_al _ kt0) | (with_reducible exact cell_al _ (cell_al _ kt0)) | go_simp)
          replace kt1 : w7.cell? ⟨w.heap.size + 1, 1, none⟩ = some (.int .i64 t2) := cell_later hb (by first | (with_reducible exact kt1) | (with_reducible exact cell_al _ kt1) | (with_reducible exact cell_al _ (cell_al _ kt1)) | go_simp)
          replace ku0 : w7.cell? ⟨w.heap.size + 1 + 1, 0, none⟩ = some (.int .i64 u1) := cell_later hb (by first | (with_reducible exact ku0) | (with_reducible exact cell_al _ ku0) | (with_reducible exact cell_al _ (cell_al _ ku0)) | go_simp)
          replace ku1 : w7.cell? ⟨w.heap.size + 1 + 1, 1, none⟩ = some (.int .i64 u2) := cell_later hb (by first | (with_reducible exact ku1) | (with_reducible exact cell_al _ ku1) | (with_reducible exact cell_al _ (cell_al _ ku1)) | go_simp)
          replace kj0 : w7.cell? ⟨w2.heap.size, 0, none⟩ = some (.int .i64 j1) := cell_later hb (by first | (with_reducible exact kj0) | (with_reducible exact cell_al _ kj0) | (with_reducible exact cell_al _ (cell_al _ kj0)) | go_simp)
          replace kj1 : w7.cell? ⟨w2.heap.size, 1, none⟩ = some (.int .i64 j2) := cell_later hb (by first | (with_reducible exact kj1) | (with_reducible exact cell_al _ kj1) | (with_reducible exact cell_al _ (cell_al _ kj1)) | go_simp)
          replace zs : w.heap.size < w7.heap.size := World.block_lt_of_cell? _ _ ks0
          replace zt : w.heap.size + 1 < w7.heap.size := World.block_lt_of_cell? _ _ kt0
          replace zu : w.heap.size + 1 + 1 < w7.heap.size := World.block_lt_of_cell? _ _ ku0
          replace zj : w2.heap.size < w7.heap.size := World.block_lt_of_cell? _ _ kj0
          replace hb0 : Below w.heap.size w w7 := (by repeat (first | exact Below.refl _ _ | assumption | refine bstep ?_ (by assumption) | refine Below.drew ?_ | refine balloc ?_ _ | refine Below.setCell ?_ (by first | omega | (simp <;> omega)) _))
          clear hb
          go_wp2
          all_goals first | (exfalso; omega) | (go_ret; refine ret_bool ?_ (by repeat (first | exact Below.refl _ _ | assumption | refine bstep ?_ (by assumption) | refine Below.drew ?_ | refine balloc ?_ _ | refine Below.setCell ?_ (by first | omega | (simp <;> omega)) _)); first | (simp; done) | (simp <;> omega))
      ·
        have vC4 : vWithin s1 s2 u1 u2 = false := by unfold vWithin; simp [h4]
        have C4 := fun w => Within_c s1 s2 u1 u2 w
        simp only [vC4, selI, selB, erv, cond_true, cond_false, Bool.and_true, Bool.and_false, Bool.true_and, Bool.false_and] at C4
        clear vC4
        have vC5 : vWithin t1 t2 u1 u2 = false := by unfold vWithin; simp [h4]
        have C5 := fun w => Within_c t1 t2 u1 u2 w
        simp only [vC5, selI, selB, erv, cond_true, cond_false, Bool.and_true, Bool.and_false, Bool.true_and, Bool.false_and] at C5
        clear vC5
        have vC6 : vWithin j1 j2 u1 u2 = false := by unfold vWithin; simp [h4]
        have C6 := fun w => Within_c j1 j2 u1 u2 w
        simp only [vC6, selI, selB, erv, cond_true, cond_false, Bool.and_true, Bool.and_false, Bool.true_and, Bool.false_and] at C6
        clear vC6
        clear h1 h2 h3 h4 hj1 hj2 i1 i2 v1
        go_enter Try.func7, Try.ntmps7
        go_wp2_with fail
        refine Calls.mono (head_c _) ?_
        rintro e w1 ⟨rfl, hb⟩
        have ks0 : w1.cell? ⟨w.heap.size, 0, none⟩ = some (.int .i64 s1) := cell_later hb (by go_simp)
        have ks1 : w1.cell? ⟨w.heap.size, 1, none⟩ = some (.int .i64 s2) := cell_later hb (by go_simp)
        have kt0 : w1.cell? ⟨w.heap.size + 1, 0, none⟩ = some (.int .i64 t1) := cell_later hb (by go_simp)
        have kt1 : w1.cell? ⟨w.heap.size + 1, 1, none⟩ = some (.int .i64 t2) := cell_later hb (by go_simp)
        have ku0 : w1.cell? ⟨w.heap.size + 1 + 1, 0, none⟩ = some (.int .i64 u1) := cell_later hb (by go_simp)
        have ku1 : w1.cell? ⟨w.heap.size + 1 + 1, 1, none⟩ = some (.int .i64 u2) := cell_later hb (by go_simp)
        have zs : w.heap.size < w1.heap.size := World.block_lt_of_cell? _ _ ks0
        have zt : w.heap.size + 1 < w1.heap.size := World.block_lt_of_cell? _ _ kt0
        have zu : w.heap.size + 1 + 1 < w1.heap.size := World.block_lt_of_cell? _ _ ku0
        have hb0 : Below w.heap.size w w1 := (by repeat (first | exact Below.refl _ _ | assumption | refine bstep ?_ (by assumption) | refine Below.drew ?_ | refine balloc ?_ _ | refine Below.setCell ?_ (by first | omega | (simp <;> omega)) _))
        clear hb
        go_wp2_with fail
        refine Calls.mono (C1 _) ?_
        rintro e w2 ⟨rfl, hb⟩
        replace ks0 : w2.cell? ⟨w.heap.size, 0, none⟩ = some (.int .i64 s1) := cell_later hb (by first | (with_reducible exact ks0) | (with_reducible exact cell_al _ ks0) | (with_reducible exact cell_al _ (cell_al _ ks0)) | go_simp)
        replace ks1 : w2.cell? ⟨w.heap.size, 1, none⟩ = some (.int .i64 s2) := cell_later hb (by first | (with_reducible exact ks1) | (with_reducible exact cell_al _ ks1) | (with_reducible exact cell_al _ (cell_al _ ks1)) | go_simp)
        replace kt0 : w2.cell? ⟨w.heap.size + 1, 0, none⟩ = some (.int .i64 t1) := cell_later hb (by first | (with_reducible exact kt0) | (with_reducible exact cell_al _ kt0) | (with_reducible exact cell_al _ (cell_al _ kt0)) | go_simp)
        replace kt1 : w2.cell? ⟨w.heap.size + 1, 1, none⟩ = some (.int .i64 t2) := cell_later hb (by first | (with_reducible exact kt1) | (with_reducible exact cell_al _ kt1) | (with_reducible exact cell_al _ (cell_al _ kt1)) | go_simp)
        replace ku0 : w2.cell? ⟨w.heap.size + 1 + 1, 0, none⟩ = some (.int .i64 u1) := cell_later hb (by first | (with_reducible exact ku0) | (with_reducible exact cell_al _ ku0) | (with_reducible exact cell_al _ (cell_al _ ku0)) | go_simp)
        replace ku1 : w2.cell? ⟨w.heap.size + 1 + 1, 1, none⟩ = some (.int .i64 u2) := cell_later hb (by first | (with_reducible exact ku1) | (with_reducible exact cell_al _ ku1) | (with_reducible exact cell_al _ (cell_al _ ku1)) | go_simp)
        replace zs : w.heap.size < w2.heap.size := World.block_lt_of_cell? _ _ ks0
        replace zt : w.heap.size + 1 < w2.heap.size := World.block_lt_of_cell? _ _ kt0
        replace zu : w.heap.size + 1 + 1 < w2.heap.size := World.block_lt_of_cell? _ _ ku0
        replace hb0 : Below w.heap.size w w2 := (by repeat (first | exact Below.refl _ _ | assumption | refine bstep ?_ (by assumption) | refine Below.drew ?_ | refine balloc ?_ _ | refine Below.setCell ?_ (by first | omega | (simp <;> omega)) _))
        clear hb
        go_wp2_with fail
        refine Calls.mono (C2 _) ?_
        rintro e w3 ⟨rfl, hb⟩
        replace ks0 : w3.cell? ⟨w.heap.size, 0, none⟩ = some (.int .i64 s1) := cell_later hb (by first | (with_reducible exact ks0) | (with_reducible exact cell_al _ ks0) | (with_reducible exact cell_al _ (cell_al _ ks0)) | go_simp)
        replace ks1 : w3.cell? ⟨w.heap.size, 1, none⟩ = some (.int .i64 s2) := cell_later hb (by first | (with_reducible exact ks1) | (with_reducible exact cell_al _ ks1) | (with_reducible exact cell_al _ (cell_al _ ks1)) | go_simp)
        replace kt0 : w3.cell? ⟨w.heap.size + 1, 0, none⟩ = some (.int .i64 t1) := cell_later hb (by first | (with_reducible exact kt0) | (with_reducible exact cell_al _ kt0) | (with_reducible exact cell_al _ (cell_al _ kt0)) | go_simp)
        replace kt1 : w3.cell? ⟨w.heap.size + 1, 1, none⟩ = some (.int .i64 t2) := cell_later hb (by first | (with_reducible exact kt1) | (with_reducible exact cell_al _ kt1) | (with_reducible exact cell_al _ (cell_al _ kt1)) | go_simp)
        replace ku0 : w3.cell? ⟨w.heap.size + 1 + 1, 0, none⟩ = some (.int .i64 u1) := cell_later hb (by first | (with_reducible exact ku0) | (with_reducible exact cell_al _ ku0) | (with_reducible exact cell_al _ (cell_al _ ku0)) | go_simp)
        replace ku1 : w3.cell? ⟨w.heap.size + 1 + 1, 1, none⟩ = some (.int .i64 u2) := cell_later hb (by first | (with_reducible exact ku1) | (with_reducible exact cell_al _ ku1) | (with_reducible exact cell_al _ (cell_al _ ku1)) | go_simp)
        have kj0 : w3.cell? ⟨w2.heap.size, 0, none⟩ = some (.int .i64 j1) := cell_later hb (by go_simp)
        have kj1 : w3.cell? ⟨w2.heap.size, 1, none⟩ = some (.int .i64 j2) := cell_later hb (by go_simp)
        replace zs : w.heap.size < w3.heap.size := World.block_lt_of_cell? _ _ ks0
        replace zt : w.heap.size + 1 < w3.heap.size := World.block_lt_of_cell? _ _ kt0
        replace zu : w.heap.size + 1 + 1 < w3.heap.size := World.block_lt_of_cell? _ _ ku0
        have zj : w2.heap.size < w3.heap.size := World.block_lt_of_cell? _ _ kj0
        replace hb0 : Below w.heap.size w w3 := (by repeat (first | exact Below.refl _ _ | assumption | refine bstep ?_ (by assumption) | refine Below.drew ?_ | refine balloc ?_ _ | refine Below.setCell ?_ (by first | omega | (simp <;> omega)) _))
        clear hb
        go_wp2_with fail
        refine Calls.mono (C3 _) ?_
        rintro e w4 ⟨rfl, hb⟩
        replace ks0 : w4.cell? ⟨w.heap.size, 0, none⟩ = some (.int .i64 s1) := cell_later hb (by first | (with_reducible exact ks0) | (with_reducible exact cell_al _ ks0) | (with_reducible exact cell_al _ (cell_al _ ks0)) | go_simp)
        replace ks1 : w4.cell? ⟨w.heap.size, 1, none⟩ = some (.int .i64 s2) := cell_later hb (by first | (with_reducible exact ks1) | (with_reducible exact cell_al _ ks1) | (with_reducible exact cell_al _ (cell_al _ ks1)) | go_simp)
        replace kt0 : w4.cell? ⟨w.heap.size + 1, 0, none⟩ = some (.int .i64 t1) := cell_later hb (by first | (with_reducible exact kt0) | (with_reducible exact cell_al _ kt0) | (with_reducible exact cell_al _ (cell_al _ kt0)) | go_simp)
        replace kt1 : w4.cell? ⟨w.heap.size + 1, 1, none⟩ = some (.int .i64 t2) := cell_later hb (by first | (with_reducible exact kt1) | (with_reducible exact cell_al _ kt1) | (with_reducible exact cell_al _ (cell_al _ kt1)) | go_simp)
        replace ku0 : w4.cell? ⟨w.heap.size + 1 + 1, 0, none⟩ = some (.int .i64 u1) := cell_later hb (by first | (with_reducible exact ku0) | (with_reducible exact cell_al _ ku0) | (with_reducible exact cell_al _ (cell_al _ ku0)) | go_simp)
        replace ku1 : w4.cell? ⟨w.heap.size + 1 + 1, 1, none⟩ = some (.int .i64 u2) := cell_later hb (by first | (with_reducible exact ku1) | (with_reducible exact cell_al _ ku1) | (with_reducible exact cell_al _ (cell_al _ ku1)) | go_simp)
        replace kj0 : w4.cell? ⟨w2.heap.size, 0, none⟩ = some (.int .i64 j1) := cell_later hb (by first | (with_reducible exact kj0) | (with_reducible exact cell_al _ kj0) | (with_reducible exact cell_al _ (cell_al _ kj0)) | go_simp)
        replace kj1 : w4.cell? ⟨w2.heap.size, 1, none⟩ = some (.int .i64 j2) := cell_later hb (by first | (with_reducible exact kj1) | (with_reducible exact cell_al _ kj1) | (with_reducible exact cell_al _ (cell_al _ kj1)) | go_simp)
        replace zs : w.heap.size < w4.heap.size := World.block_lt_of_cell? _ _ ks0
        replace zt : w.heap.size + 1 < w4.heap.size := World.block_lt_of_cell? _ _ kt0
        replace zu : w.heap.size + 1 + 1 < w4.heap.size := World.block_lt_of_cell? _ _ ku0
        replace zj : w2.heap.size < w4.heap.size := World.block_lt_of_cell? _ _ kj0
        replace hb0 : Below w.heap.size w w4 := (by repeat (first | exact Below.refl _ _ | assumption | refine bstep ?_ (by assumption) | refine Below.drew ?_ | refine balloc ?_ _ | refine Below.setCell ?_ (by first | omega | (simp <;> omega)) _))
        clear hb
        go_wp2_with fail
        refine Calls.mono (C4 _) ?_
        rintro e w5 ⟨rfl, hb⟩
        replace ks0 : w5.cell? ⟨w.heap.size, 0, none⟩ = some (.int .i64 s1) := cell_later hb (by first | (with_reducible exact ks0) | (with_reducible exact cell_al _ ks0) | (with_reducible exact cell_al _ (cell_al _ ks0)) | go_simp)
        replace ks1 : w5.cell? ⟨w.heap.size, 1, none⟩ = some (.int .i64 s2) := cell_later hb (by first | (with_reducible exact ks1) | (with_reducible exact cell_al _ ks1) | (with_reducible exact cell_al _ (cell_al _ ks1)) | go_simp)
        replace kt0 : w5.cell? ⟨w.heap.size + 1, 0, none⟩ = some (.int .i64 t1) := cell_later hb (by first | (with_reducible exact kt0) | (with_reducible exact cell_al _ kt0) | (with_reducible exact cell_al _ (cell_al _ kt0)) | go_simp)
        replace kt1 : w5.cell? ⟨w.heap.size + 1, 1, none⟩ = some (.int .i64 t2) := cell_later hb (by first | (with_reducible exact kt1) | (with_reducible exact cell_al _ kt1) | (with_reducible exact cell_al _ (cell_al _ kt1)) | go_simp)
        replace ku0 : w5.cell? ⟨w.heap.size + 1 + 1, 0, none⟩ = some (.int .i64 u1) := cell_later hb (by first | (with_reducible exact ku0) | (with_reducible exact cell_al _ ku0) | (with_reducible exact cell_al _ (cell_al _ ku0)) | go_simp)
        replace ku1 : w5.cell? ⟨w.heap.size + 1 + 1, 1, none⟩ = some (.int .i64 u2) := cell_later hb (by first | (with_reducible exact ku1) | (with_reducible exact cell_al _ ku1) | (with_reducible exact cell_al _ (cell_al _ ku1)) | go_simp)
        replace kj0 : w5.cell? ⟨w2.heap.size, 0, none⟩ = some (.int .i64 j1) := cell_later hb (by first | (with_reducible exact kj0) | (with_reducible exact cell_al _ kj0) | (with_reducible exact cell_al _ (cell_al _ kj0)) | go_simp)
        replace kj1 : w5.cell? ⟨w2.heap.size, 1, none⟩ = some (.int .i64 j2) := cell_later hb (by first | (with_reducible exact kj1) | (with_reducible exact cell_al _ kj1) | (with_reducible exact cell_al _ (cell_al _ kj1)) | go_simp)
        replace zs : w.heap.size < w5.heap.size := World.block_lt_of_cell? _ _ ks0
        replace zt : w.heap.size + 1 < w5.heap.size := World.block_lt_of_cell? _ _ kt0
        replace zu : w.heap.size + 1 + 1 < w5.heap.size := World.block_lt_of_cell? _ _ ku0
        replace zj : w2.heap.size < w5.heap.size := World.block_lt_of_cell? _ _ kj0
        replace hb0 : Below w.heap.size w w5 := (by repeat (first | exact Below.refl _ _ | assumption | refine bstep ?_ (by assumption) | refine Below.drew ?_ | refine balloc ?_ _ | refine Below.setCell ?_ (by first | omega | (simp <;> omega)) _))
        clear hb
        go_wp2_with fail
        refine Calls.mono (C5 _) ?_
        rintro e w6 ⟨rfl, hb⟩
        replace ks0 : w6.cell? ⟨w.heap.size, 0, none⟩ = some (.int .i64 s1) := cell_later hb (by first | (with_reducible exact ks0) | (with_reducible exact cell_al _ ks0) | (with_reducible exact cell_al _ (cell_al _ ks0)) | go_simp)
        replace ks1 : w6.cell? ⟨w.heap.size, 1, none⟩ = some (.int .i64 s2) := cell_later hb (by first | (with_reducible exact ks1) | (with_reducible exact cell_al _ ks1) | (with_reducible exact cell_al _ (cell_al _ ks1)) | go_simp)
        replace kt0 : w6.cell? ⟨w.heap.size + 1, 0, none⟩ = some (.int .i64 t1) := cell_later hb (by first | (with_reducible exact kt0) | (with_reducible exact cell_al _ kt0) | (with_reducible exact cell_al _ (cell_al _ kt0)) | go_simp)
        replace kt1 : w6.cell? ⟨w.heap.size + 1, 1, none⟩ = some (.int .i64 t2) := cell_later hb (by first | (with_reducible exact kt1) | (with_reducible exact cell_al _ kt1) | (with_reducible exact cell_al _ (cell_al _ kt1)) | go_simp)
        replace ku0 : w6.cell? ⟨w.heap.size + 1 + 1, 0, none⟩ = some (.int .i64 u1) := cell_later hb (by first | (with_reducible exact ku0) | (with_reducible exact cell_al _ ku0) | (with_reducible exact cell_al _ (cell_al _ ku0)) | go_simp)
        replace ku1 : w6.cell? ⟨w.heap.size + 1 + 1, 1, none⟩ = some (.int .i64 u2) := cell_later hb (by first | (with_reducible exact ku1) | (with_reducible exact cell_al _ ku1) | (with_reducible exact cell_al _ (cell_al _ ku1)) | go_simp)
        replace kj0 : w6.cell? ⟨w2.heap.size, 0, none⟩ = some (.int .i64 j1) := cell_later hb (by first | (with_reducible exact kj0) | (with_reducible exact cell_al _ kj0) | (with_reducible exact cell_al _ (cell_al _ kj0)) | go_simp)
        replace kj1 : w6.cell? ⟨w2.heap.size, 1, none⟩ = some (.int .i64 j2) := cell_later hb (by first | (with_reducible exact kj1) | (with_reducible exact cell_al _ kj1) | (with_reducible exact cell_al _ (cell_al _ kj1)) | go_simp)
        replace zs : w.heap.size < w6.heap.size := World.block_lt_of_cell? _ _ ks0
        replace zt : w.heap.size + 1 < w6.heap.size := World.block_lt_of_cell? _ _ kt0
        replace zu : w.heap.size + 1 + 1 < w6.heap.size := World.block_lt_of_cell? _ _ ku0
        replace zj : w2.heap.size < w6.heap.size := World.block_lt_of_cell? _ _ kj0
        replace hb0 : Below w.heap.size w w6 := (by repeat (first | exact Below.refl _ _ | assumption | refine bstep ?_ (by assumption) | refine Below.drew ?_ | refine balloc ?_ _ | refine Below.setCell ?_ (by first | omega | (simp <;> omega)) _))
        clear hb
        go_wp2_with fail
        refine Calls.mono (C6 _) ?_
        rintro e w7 ⟨rfl, hb⟩
        replace ks0 : w7.cell? ⟨w.heap.size, 0, none⟩ = some (.int .i64 s1) := cell_later hb (by first | (with_reducible exact ks0) | (with_reducible exact cell_al _ ks0) | (with_reducible exact cell_al _ (cell_al _ ks0)) | go_simp)
        replace ks1 : w7.cell? ⟨w.heap.size, 1, none⟩ = some (.int .i64 s2) := cell_later hb (by first | (with_reducible exact ks1) | (with_reducible exact cell_al _ ks1) | (with_reducible exact cell_al _ (cell_al _ ks1)) | go_simp)
        replace kt0 : w7.cell? ⟨w.heap.size + 1, 0, none⟩ = some (.int .i64 t1) := cell_later hb (by first | (with_reducible exact kt0) | (with_reducible exact cell_al _ kt0) | (with_reducible exact cell_al _ (cell_al _ kt0)) | go_simp)
        replace kt1 : w7.cell? ⟨w.heap.size + 1, 1, none⟩ = some (.int .i64 t2) := cell_later hb (by first | (with_reducible exact kt1) | (with_reducible exact cell_al _ kt1) | (with_reducible exact cell_al _ (cell_al _ kt1)) | go_simp)
        replace ku0 : w7.cell? ⟨w.heap.size + 1 + 1, 0, none⟩ = some (.int .i64 u1) := cell_later hb (by first | (with_reducible exact ku0) | (with_reducible exact cell_al _ ku0) | (with_reducible exact cell_al _ (cell_al _ ku0)) | go_simp)
        replace ku1 : w7.cell? ⟨w.heap.size + 1 + 1, 1, none⟩ = some (.int .i64 u2) := cell_later hb (by first | (with_reducible exact ku1) | (with_reducible exact cell_al _ ku1) | (with_reducible exact cell_al _ (cell_al _ ku1)) | go_simp)
        replace kj0 : w7.cell? ⟨w2.heap.size, 0, none⟩ = some (.int .i64 j1) := cell_later hb (by first | (with_reducible exact kj0) | (with_reducible exact cell_al _ kj0) | (with_reducible exact cell_al _ (cell_al _ kj0)) | go_simp)
        replace kj1 : w7.cell? ⟨w2.heap.size, 1, none⟩ = some (.int .i64 j2) := cell_later hb (by first | (with_reducible exact kj1) | (with_reducible exact cell_al _ kj1) | (with_reducible exact cell_al _ (cell_al _ kj1)) | go_simp)
        replace zs : w.heap.size < w7.heap.size := World.block_lt_of_cell? _ _ ks0
        replace zt : w.heap.size + 1 < w7.heap.size := World.block_lt_of_cell? _ _ kt0
        replace zu : w.heap.size + 1 + 1 < w7.heap.size := World.block_lt_of_cell? _ _ ku0
        replace zj : w2.heap.size < w7.heap.size := World.block_lt_of_cell? _ _ kj0
        replace hb0 : Below w.heap.size w w7 := (by repeat (first | exact Below.refl _ _ | assumption | refine bstep ?_ (by assumption) | refine Below.drew ?_ | refine balloc ?_ _ | refine Below.setCell ?_ (by first | omega | (simp <;> omega)) _))
        clear hb
        go_wp2
        all_goals first | (exfalso; omega) | (go_ret; refine ret_bool ?_ (by repeat (first | exact Below.refl _ _ | assumption | refine bstep ?_ (by assumption) | refine Below.drew ?_ | refine balloc ?_ _ | refine Below.setCell ?_ (by first | omega | (simp <;> omega)) _)); first | (simp; done) | (simp <;> omega))
    ·
      have v1 : vJoin s1 s2 t1 t2 = false := by unfold vJoin; simp [h1, h2]
      have C1 := fun w => Join_c s1 s2 t1 t2 w
      simp only [v1, selI, selB, erv, cond_true, cond_false, Bool.and_true, Bool.and_false, Bool.true_and, Bool.false_and] at C1
      clear v1
      go_enter Try.func7, Try.ntmps7
      go_wp2_with fail
      refine Calls.mono (head_c _) ?_
      rintro e w1 ⟨rfl, hb⟩
      have ks0 : w1.cell? ⟨w.heap.size, 0, none⟩ = some (.int .i64 s1) := cell_later hb (by go_simp)
      have ks1 : w1.cell? ⟨w.heap.size, 1, none⟩ = some (.int .i64 s2) := cell_later hb (by go_simp)
      have kt0 : w1.cell? ⟨w.heap.size + 1, 0, none⟩ = some (.int .i64 t1) := cell_later hb (by go_simp)
      have kt1 : w1.cell? ⟨w.heap.size + 1, 1, none⟩ = some (.int .i64 t2) := cell_later hb (by go_simp)
      have ku0 : w1.cell? ⟨w.heap.size + 1 + 1, 0, none⟩ = some (.int .i64 u1) := cell_later hb (by go_simp)
      have ku1 : w1.cell? ⟨w.heap.size + 1 + 1, 1, none⟩ = some (.int .i64 u2) := cell_later hb (by go_simp)
      have zs : w.heap.size < w1.heap.size := World.block_lt_of_cell? _ _ ks0
      have zt : w.heap.size + 1 < w1.heap.size := World.block_lt_of_cell? _ _ kt0
      have zu : w.heap.size + 1 + 1 < w1.heap.size := World.block_lt_of_cell? _ _ ku0
      have hb0 : Below w.heap.size w w1 := (by repeat (first | exact Below.refl _ _ | assumption | refine bstep ?_ (by assumption) | refine Below.drew ?_ | refine balloc ?_ _ | refine Below.setCell ?_ (by first | omega | (simp <;> omega)) _))
      clear hb
      go_wp2_with fail
      refine Calls.mono (C1 _) ?_
      rintro e w2 ⟨rfl, hb⟩
      replace ks0 : w2.cell? ⟨w.heap.size, 0, none⟩ = some (.int .i64 s1) := cell_later hb (by first | (with_reducible exact ks0) | (with_reducible exact cell_al _ ks0) | (with_reducible exact cell_al _ (cell_al _ ks0)) | go_simp)
      replace ks1 : w2.cell? ⟨w.heap.size, 1, none⟩ = some (.int .i64 s2) := cell_later hb (by first | (with_reducible exact ks1) | (with_reducible exact cell_al _ ks1) | (with_reducible exact cell_al _ (cell_al _ ks1)) | go_simp)
      replace kt0 : w2.cell? ⟨w.heap.size + 1, 0, none⟩ = some (.int .i64 t1) := cell_later hb (by first | (with_reducible exact kt0) | (with_reducible exact cell_al _ kt0) | (with_reducible exact cell_al _ (cell_al _ kt0)) | go_simp)
      replace kt1 : w2.cell? ⟨w.heap.size + 1, 1, none⟩ = some (.int .i64 t2) := cell_later hb (by first | (with_reducible exact kt1) | (with_reducible exact cell_al _ kt1) | (with_reducible exact cell_al _ (cell_al _ kt1)) | go_simp)
      replace ku0 : w2.cell? ⟨w.heap.size + 1 + 1, 0, none⟩ = some (.int .i64 u1) := cell_later hb (by first | (with_reducible exact ku0) | (with_reducible exact cell_al _ ku0) | (with_reducible exact cell_al _ (cell_al _ ku0)) | go_simp)
      replace ku1 : w2.cell? ⟨w.heap.size + 1 + 1, 1, none⟩ = some (.int .i64 u2) := cell_later hb (by first | (with_reducible exact ku1) | (with_reducible exact cell_al _ ku1) | (with_reducible exact cell_al _ (cell_al _ ku1)) | go_simp)
      replace zs : w.heap.size < w2.heap.size := World.block_lt_of_cell? _ _ ks0
      replace zt : w.heap.size + 1 < w2.heap.size := World.block_lt_of_cell? _ _ kt0
      replace zu : w.heap.size + 1 + 1 < w2.heap.size := World.block_lt_of_cell? _ _ ku0
      replace hb0 : Below w.heap.size w w2 := (by repeat (first | exact Below.refl _ _ | assumption | refine bstep ?_ (by assumption) | refine Below.drew ?_ | refine balloc ?_ _ | refine Below.setCell ?_ (by first | omega | (simp <;> omega)) _))
      clear hb
      go_wp2_with fail
      refine Calls.mono (valid_c _ _ _) ?_
      rintro e w3 ⟨rfl, hb⟩
      replace ks0 : w3.cell? ⟨w.heap.size, 0, none⟩ = some (.int .i64 s1) := cell_later hb (by first | (with_reducible exact ks0) | (with_reducible exact cell_al _ ks0) | (with_reducible exact cell_al _ (cell_al _ ks0)) | go_simp)
      replace ks1 : w3.cell? ⟨w.heap.size, 1, none⟩ = some (.int .i64 s2) := cell_later hb (by first | (with_reducible exact ks1) | (with_reducible exact cell_al _ ks1) | (with_reducible exact cell_al _ (cell_al _ ks1)) | go_simp)
      replace kt0 : w3.cell? ⟨w.heap.size + 1, 0, none⟩ = some (.int .i64 t1) := cell_later hb (by first | (with_reducible exact kt0) | (with_reducible exact cell_al _ kt0) | (with_reducible exact cell_al _ (cell_al _ kt0)) | go_simp)
      replace kt1 : w3.cell? ⟨w.heap.size + 1, 1, none⟩ = some (.int .i64 t2) := cell_later hb (by first | (with_reducible exact kt1) | (with_reducible exact cell_al _ kt1) | (with_reducible exact cell_al _ (cell_al _ kt1)) | go_simp)
      replace ku0 : w3.cell? ⟨w.heap.size + 1 + 1, 0, none⟩ = some (.int .i64 u1) := cell_later hb (by first | (with_reducible exact ku0) | (with_reducible exact cell_al _ ku0) | (with_reducible exact cell_al _ (cell_al _ ku0)) | go_simp)
      replace ku1 : w3.cell? ⟨w.heap.size + 1 + 1, 1, none⟩ = some (.int .i64 u2) := cell_later hb (by first | (with_reducible exact ku1) | (with_reducible exact cell_al _ ku1) | (with_reducible exact cell_al _ (cell_al _ ku1)) | go_simp)
      have kj0 : w3.cell? ⟨w2.heap.size, 0, none⟩ = some (.int .i64 0) := cell_later hb (by go_simp)
      have kj1 : w3.cell? ⟨w2.heap.size, 1, none⟩ = some (.int .i64 0) := cell_later hb (by go_simp)
      replace zs : w.heap.size < w3.heap.size := World.block_lt_of_cell? _ _ ks0
      replace zt : w.heap.size + 1 < w3.heap.size := World.block_lt_of_cell? _ _ kt0
      replace zu : w.heap.size + 1 + 1 < w3.heap.size := World.block_lt_of_cell? _ _ ku0
      have zj : w2.heap.size < w3.heap.size := World.block_lt_of_cell? _ _ kj0
      replace hb0 : Below w.heap.size w w3 := (by repeat (first | exact Below.refl _ _ | assumption | refine bstep ?_ (by assumption) | refine Below.drew ?_ | refine balloc ?_ _ | refine Below.setCell ?_ (by first | omega | (simp <;> omega)) _))
      clear hb
      go_wp2_with fail
      refine Calls.mono (valid_c _ _ _) ?_
      rintro e w4 ⟨rfl, hb⟩
      replace ks0 : w4.cell? ⟨w.heap.size, 0, none⟩ = some (.int .i64 s1) := cell_later hb (by first | (with_reducible exact ks0) | (with_reducible exact cell_al _ ks0) | (with_reducible exact cell_al _ (cell_al _ ks0)) | go_simp)
      replace ks1 : w4.cell? ⟨w.heap.size, 1, none⟩ = some (.int .i64 s2) := cell_later hb (by first | (with_reducible exact ks1) | (with_reducible exact cell_al _ ks1) | (with_reducible exact cell_al _ (cell_al _ ks1)) | go_simp)
      replace kt0 : w4.cell? ⟨w.heap.size + 1, 0, none⟩ = some (.int .i64 t1) := cell_later hb (by first | (with_reducible exact kt0) | (with_reducible exact cell_al _ kt0) | (with_reducible exact cell_al _ (cell_al _ kt0)) | go_simp)
      replace kt1 : w4.cell? ⟨w.heap.size + 1, 1, none⟩ = some (.int .i64 t2) := cell_later hb (by first | (with_reducible exact kt1) | (with_reducible exact cell_al _ kt1) | (with_reducible exact cell_al _ (cell_al _ kt1)) | go_simp)
      replace ku0 : w4.cell? ⟨w.heap.size + 1 + 1, 0, none⟩ = some (.int .i64 u1) := cell_later hb (by first | (with_reducible exact ku0) | (with_reducible exact cell_al _ ku0) | (with_reducible exact cell_al _ (cell_al _ ku0)) | go_simp)
      replace ku1 : w4.cell? ⟨w.heap.size + 1 + 1, 1, none⟩ = some (.int .i64 u2) := cell_later hb (by first | (with_reducible exact ku1) | (with_reducible exact cell_al _ ku1) | (with_reducible exact cell_al _ (cell_al _ ku1)) | go_simp)
      replace kj0 : w4.cell? ⟨w2.heap.size, 0, none⟩ = some (.int .i64 0) := cell_later hb (by first | (with_reducible exact kj0) | (with_reducible exact cell_al _ kj0) | (with_reducible exact cell_al _ (cell_al _ kj0)) | go_simp)
      replace kj1 : w4.cell? ⟨w2.heap.size, 1, none⟩ = some (.int .i64 0) := cell_later hb (by first | (with_reducible exact kj1) | (with_reducible exact cell_al _ kj1) | (with_reducible exact cell_al _ (cell_al _ kj1)) | go_simp)
      replace zs : w.heap.size < w4.heap.size := World.block_lt_of_cell? _ _ ks0
      replace zt : w.heap.size + 1 < w4.heap.size := World.block_lt_of_cell? _ _ kt0
      replace zu : w.heap.size + 1 + 1 < w4.heap.size := World.block_lt_of_cell? _ _ ku0
      replace zj : w2.heap.size < w4.heap.size := World.block_lt_of_cell? _ _ kj0
      replace hb0 : Below w.heap.size w w4 := (by repeat (first | exact Below.refl _ _ | assumption | refine bstep ?_ (by assumption) | refine Below.drew ?_ | refine balloc ?_ _ | refine Below.setCell ?_ (by first | omega | (simp <;> omega)) _))
      clear hb
      go_wp2
      all_goals first | (exfalso; omega) | (go_ret; refine ret_bool ?_ (by repeat (first | exact Below.refl _ _ | assumption | refine bstep ?_ (by assumption) | refine Below.drew ?_ | refine balloc ?_ _ | refine Below.setCell ?_ (by first | omega | (simp <;> omega)) _)); first | (simp; done) | (simp <;> omega))
  ·
    have v1 : vJoin s1 s2 t1 t2 = false := by unfold vJoin; simp [h1]
    have C1 := fun w => Join_c s1 s2 t1 t2 w
    simp only [v1, selI, selB, erv, cond_true, cond_false, Bool.and_true, Bool.and_false, Bool.true_and, Bool.false_and] at C1
    clear v1
    go_enter Try.func7, Try.ntmps7
    go_wp2_with fail
    refine Calls.mono (head_c _) ?_
    rintro e w1 ⟨rfl, hb⟩
    have ks0 : w1.cell? ⟨w.heap.size, 0, none⟩ = some (.int .i64 s1) := cell_later hb (by go_simp)
    have ks1 : w1.cell? ⟨w.heap.size, 1, none⟩ = some (.int .i64 s2) := cell_later hb (by go_simp)
    have kt0 : w1.cell? ⟨w.heap.size + 1, 0, none⟩ = some (.int .i64 t1) := cell_later hb (by go_simp)
    have kt1 : w1.cell? ⟨w.heap.size + 1, 1, none⟩ = some (.int .i64 t2) := cell_later hb (by go_simp)
    have ku0 : w1.cell? ⟨w.heap.size + 1 + 1, 0, none⟩ = some (.int .i64 u1) := cell_later hb (by go_simp)
    have ku1 : w1.cell? ⟨w.heap.size + 1 + 1, 1, none⟩ = some (.int .i64 u2) := cell_later hb (by go_simp)
    have zs : w.heap.size < w1.heap.size := World.block_lt_of_cell? _ _ ks0
    have zt : w.heap.size + 1 < w1.heap.size := World.block_lt_of_cell? _ _ kt0
    have zu : w.heap.size + 1 + 1 < w1.heap.size := World.block_lt_of_cell? _ _ ku0
    have hb0 : Below w.heap.size w w1 := (by repeat (first | exact Below.refl _ _ | assumption | refine bstep ?_ (by assumption) | refine Below.drew ?_ | refine balloc ?_ _ | refine Below.setCell ?_ (by first | omega | (simp <;> omega)) _))
    clear hb
    go_wp2_with fail
    refine Calls.mono (C1 _) ?_
    rintro e w2 ⟨rfl, hb⟩
    replace ks0 : w2.cell? ⟨w.heap.size, 0, none⟩ = some (.int .i64 s1) := cell_later hb (by first | (with_reducible exact ks0) | (with_reducible exact cell_al _ ks0) | (with_reducible exact cell_al _ (cell_al _ ks0)) | go_simp)
    replace ks1 : w2.cell? ⟨w.heap.size, 1, none⟩ = some (.int .i64 s2) := cell_later hb (by first | (with_reducible exact ks1) | (with_reducible exact cell_al _ ks1) | (with_reducible exact cell_al _ (cell_al _ ks1)) | go_simp)
    replace kt0 : w2.cell? ⟨w.heap.size + 1, 0, none⟩ = some (.int .i64 t1) := cell_later hb (by first | (with_reducible exact kt0) | (with_reducible exact cell_al _ kt0) | (with_reducible exact cell_al _ (cell_al _ kt0)) | go_simp)
    replace kt1 : w2.cell? ⟨w.heap.size + 1, 1, none⟩ = some (.int .i64 t2) := cell_later hb (by first | (with_reducible exact kt1) | (with_reducible exact cell_al _ kt1) | (with_reducible exact cell_al _ (cell_al _ kt1)) | go_simp)
    replace ku0 : w2.cell? ⟨w.heap.size + 1 + 1, 0, none⟩ = some (.int .i64 u1) := cell_later hb (by first | (with_reducible exact ku0) | (with_reducible exact cell_al _ ku0) | (with_reducible exact cell_al _ (cell_al _ ku0)) | go_simp)
    replace ku1 : w2.cell? ⟨w.heap.size + 1 + 1, 1, none⟩ = some (.int .i64 u2) := cell_later hb (by first | (with_reducible exact ku1) | (with_reducible exact cell_al _ ku1) | (with_reducible exact cell_al _ (cell_al _ ku1)) | go_simp)
    replace zs : w.heap.size < w2.heap.size := World.block_lt_of_cell? _ _ ks0
    replace zt : w.heap.size + 1 < w2.heap.size := World.block_lt_of_cell? _ _ kt0
    replace zu : w.heap.size + 1 + 1 < w2.heap.size := World.block_lt_of_cell? _ _ ku0
    replace hb0 : Below w.heap.size w w2 := (by repeat (first | exact Below.refl _ _ | assumption | refine bstep ?_ (by assumption) | refine Below.drew ?_ | refine balloc ?_ _ | refine Below.setCell ?_ (by first | omega | (simp <;> omega)) _))
    clear hb
    go_wp2_with fail
    refine Calls.mono (valid_c _ _ _) ?_
    rintro e w3 ⟨rfl, hb⟩
    replace ks0 : w3.cell? ⟨w.heap.size, 0, none⟩ = some (.int .i64 s1) := cell_later hb (by first | (with_reducible exact ks0) | (with_reducible exact cell_al _ ks0) | (with_reducible exact cell_al _ (cell_al _ ks0)) | go_simp)
    replace ks1 : w3.cell? ⟨w.heap.size, 1, none⟩ = some (.int .i64 s2) := cell_later hb (by first | (with_reducible exact ks1) | (with_reducible exact cell_al _ ks1) | (with_reducible exact cell_al _ (cell_al _ ks1)) | go_simp)
    replace kt0 : w3.cell? ⟨w.heap.size + 1, 0, none⟩ = some (.int .i64 t1) := cell_later hb (by first | (with_reducible exact kt0) | (with_reducible exact cell_al _ kt0) | (with_reducible exact cell_al _ (cell_al _ kt0)) | go_simp)
    replace kt1 : w3.cell? ⟨w.heap.size + 1, 1, none⟩ = some (.int .i64 t2) := cell_later hb (by first | (with_reducible exact kt1) | (with_reducible exact cell_al _ kt1) | (with_reducible exact cell_al _ (cell_al _ kt1)) | go_simp)
    replace ku0 : w3.cell? ⟨w.heap.size + 1 + 1, 0, none⟩ = some (.int .i64 u1) := cell_later hb (by first | (with_reducible exact ku0) | (with_reducible exact cell_al _ ku0) | (with_reducible exact cell_al _ (cell_al _ ku0)) | go_simp)
    replace ku1 : w3.cell? ⟨w.heap.size + 1 + 1, 1, none⟩ = some (.int .i64 u2) := cell_later hb (by first | (with_reducible exact ku1) | (with_reducible exact cell_al _ ku1) | (with_reducible exact cell_al _ (cell_al _ ku1)) | go_simp)
    have kj0 : w3.cell? ⟨w2.heap.size, 0, none⟩ = some (.int .i64 0) := cell_later hb (by go_simp)
    have kj1 : w3.cell? ⟨w2.heap.size, 1, none⟩ = some (.int .i64 0) := cell_later hb (by go_simp)
    replace zs : w.heap.size < w3.heap.size := World.block_lt_of_cell? _ _ ks0
    replace zt : w.heap.size + 1 < w3.heap.size := World.block_lt_of_cell? _ _ kt0
    replace zu : w.heap.size + 1 + 1 < w3.heap.size := World.block_lt_of_cell? _ _ ku0
    have zj : w2.heap.size < w3.heap.size := World.block_lt_of_cell? _ _ kj0
    replace hb0 : Below w.heap.size w w3 := (by repeat (first | exact Below.refl _ _ | assumption | refine bstep ?_ (by assumption) | refine Below.drew ?_ | refine balloc ?_ _ | refine Below.setCell ?_ (by first | omega | (simp <;> omega)) _))
    clear hb
    go_wp2
    all_goals first | (exfalso; omega) | (go_ret; refine ret_bool ?_ (by repeat (first | exact Below.refl _ _ | assumption | refine bstep ?_ (by assumption) | refine Below.drew ?_ | refine balloc ?_ _ | refine Below.setCell ?_ (by first | omega | (simp <;> omega)) _)); first | (simp; done) | (simp <;> omega))


end Go.Proofs.Ytendnhmobhicmaa
