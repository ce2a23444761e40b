/- LawSums: the law SpanSums. -/
import Derived.Test.YtendnhmobhicmaaHeadA
import Derived.Test.YtendnhmobhicmaaRows
import Derived.WalkKit
import Derived.WalkSpells
import Derived.WalkLawsBesides
import Derived.Lib.Hide
import Derived.Deep.QuietTactic
import Derived.BigQuiet
import Derived.RegionTactic
import Derived.ChangeAlike
import Derived.BigRegion
import Derived.Deep.RegionHeld3
import Derived.Deep.RegionWith
import Derived.Outline
import Derived.Deep.DeepCutAuto
namespace Go.Proofs.Ytendnhmobhicmaa
open Go.RowKit
set_option linter.unusedSimpArgs false
set_option linter.unusedVariables false

set_option maxRecDepth 100000 in
set_option maxHeartbeats 6400000 in
theorem sums_law (s1 s2 t1 t2 x y : Int) (w : World)  : Calls Try.prog 4 #[(.agg #[(.int .i64 s1), (.int .i64 s2)]), (.agg #[(.int .i64 t1), (.int .i64 t2)]), (.int .i64 x), (.int .i64 y)] w (Ret w (.bool true)) := by
  rcases Bool.eq_false_or_eq_true (vE 1000000000000 s1 s2 && vE 1000000000000 t1 t2) with hv | hv
  ·
    have u := hv
    rw [Bool.and_eq_true, vE_iff, vE_iff] at u
    have v1 : vAdd s1 s2 t1 t2 = true := hv
    have v2 : vSub s1 s2 t1 t2 = true := hv
    by_cases hin : s1 ≤ x ∧ x ≤ s2 ∧ t1 ≤ y ∧ y ≤ t2
    ·
      rcases Bool.eq_false_or_eq_true (vE 1000000000000 (s1 + t1) (s2 + t2)) with hr1 | hr1
      ·
        rcases Bool.eq_false_or_eq_true (vE 1000000000000 (s1 - t2) (s2 - t1)) with hr2 | hr2
        ·
          rcases Bool.eq_false_or_eq_true (vE 1000000000000 (s1 + t1 - t2) (s2 + t2 - t1)) with hr3 | hr3
          ·
            have q1 : rAdd s1 s2 t1 t2 = true := hr1
            have q2 : rSub s1 s2 t1 t2 = true := hr2
            have C1 := fun w => Add_c s1 s2 t1 t2 w
            simp only [v1, q1, selI, selB, erv, cond_true, cond_false, Bool.and_true, Bool.and_false, Bool.true_and, Bool.false_and] at C1
            have C2 := fun w => Sub_c s1 s2 t1 t2 w
            simp only [v2, q2, selI, selB, erv, cond_true, cond_false, Bool.and_true, Bool.and_false, Bool.true_and, Bool.false_and] at C2
            have v3 : vSub (s1 + t1) (s2 + t2) t1 t2 = true := by unfold vSub; rw [Bool.and_eq_true]; exact ⟨hr1, (Bool.and_eq_true _ _ ▸ hv : _ ∧ _).2⟩
            have q3 : rSub (s1 + t1) (s2 + t2) t1 t2 = true := hr3
            have C3 := fun w => Sub_c (s1 + t1) (s2 + t2) t1 t2 w
            simp only [v3, q3, selI, selB, erv, cond_true, cond_false, Bool.and_true, Bool.and_false, Bool.true_and, Bool.false_and] at C3
            clear v1 v2 q1 q2 v3 q3
            obtain ⟨i1, i2, i3, i4⟩ := hin
            have m1 : s1 + t1 ≤ x + y := by omega
            have m2 : x + y ≤ s2 + t2 := by omega
            have m3 : s1 - t2 ≤ x - y := by omega
            have m4 : x - y ≤ s2 - t1 := by omega
            go_enter Try.func4, Try.ntmps4
            go_wp2_with fail
            refine Calls.mono (head_c _) ?_
            rintro e w1 ⟨rfl, hb⟩
            have ks0 : w1.cell? ⟨w.heap.size, 0, none⟩ = some (.int .i64 s1) := cell_later hb (by go_simp)
            have ks1 : w1.cell? ⟨w.heap.size, 1, none⟩ = some (.int .i64 s2) := cell_later hb (by go_simp)
            have kt0 : w1.cell? ⟨w.heap.size + 1, 0, none⟩ = some (.int .i64 t1) := cell_later hb (by go_simp)
            have kt1 : w1.cell? ⟨w.heap.size + 1, 1, none⟩ = some (.int .i64 t2) := cell_later hb (by go_simp)
            have zs : w.heap.size < w1.heap.size := World.block_lt_of_cell? _ _ ks0
            have zt : w.heap.size + 1 < w1.heap.size := World.block_lt_of_cell? _ _ kt0
            have hb0 : Below w.heap.size w w1 := (by repeat (first | exact Below.refl _ _ | assumption | refine bstep ?_ (by assumption) | refine Below.drew ?_ | refine balloc ?_ _ | refine Below.setCell ?_ (by first | omega | (simp <;> omega)) _))
            clear hb
            go_wp2_with fail
            refine Calls.mono (C1 _) ?_
            rintro e w2 ⟨rfl, hb⟩
            replace ks0 : w2.cell? ⟨w.heap.size, 0, none⟩ = some (.int .i64 s1) := cell_later hb (by first | (with_reducible exact ks0) | (with_reducible exact cell_al _ ks0) | (with_reducible exact cell_al _ (cell_al _ ks0)) | go_simp)
            replace ks1 : w2.cell? ⟨w.heap.size, 1, none⟩ = some (.int .i64 s2) := cell_later hb (by first | (with_reducible exact ks1) | (with_reducible exact cell_al _ ks1) | (with_reducible exact cell_al _ (cell_al _ ks1)) | go_simp)
            replace kt0 : w2.cell? ⟨w.heap.size + 1, 0, none⟩ = some (.int .i64 t1) := cell_later hb (by first | (with_reducible exact kt0) | (with_reducible exact cell_al _ kt0) | (with_reducible exact cell_al _ (cell_al _ kt0)) | go_simp)
            replace kt1 : w2.cell? ⟨w.heap.size + 1, 1, none⟩ = some (.int .i64 t2) := cell_later hb (by first | (with_reducible exact kt1) | (with_reducible exact cell_al _ kt1) | (with_reducible exact cell_al _ (cell_al _ kt1)) | go_simp)
            replace zs : w.heap.size < w2.heap.size := World.block_lt_of_cell? _ _ ks0
            replace zt : w.heap.size + 1 < w2.heap.size := World.block_lt_of_cell? _ _ kt0
            replace hb0 : Below w.heap.size w w2 := (by repeat (first | exact Below.refl _ _ | assumption | refine bstep ?_ (by assumption) | refine Below.drew ?_ | refine balloc ?_ _ | refine Below.setCell ?_ (by first | omega | (simp <;> omega)) _))
            clear hb
            go_wp2_with fail
            refine Calls.mono (C2 _) ?_
            rintro e w3 ⟨rfl, hb⟩
            replace ks0 : w3.cell? ⟨w.heap.size, 0, none⟩ = some (.int .i64 s1) := cell_later hb (by first | (with_reducible exact ks0) | (with_reducible exact cell_al _ ks0) | (with_reducible exact cell_al _ (cell_al _ ks0)) | go_simp)
            replace ks1 : w3.cell? ⟨w.heap.size, 1, none⟩ = some (.int .i64 s2) := cell_later hb (by first | (with_reducible exact ks1) | (with_reducible exact cell_al _ ks1) | (with_reducible exact cell_al _ (cell_al _ ks1)) | go_simp)
            replace kt0 : w3.cell? ⟨w.heap.size + 1, 0, none⟩ = some (.int .i64 t1) := cell_later hb (by first | (with_reducible exact kt0) | (with_reducible exact cell_al _ kt0) | (with_reducible exact cell_al _ (cell_al _ kt0)) | go_simp)
            replace kt1 : w3.cell? ⟨w.heap.size + 1, 1, none⟩ = some (.int .i64 t2) := cell_later hb (by first | (with_reducible exact kt1) | (with_reducible exact cell_al _ kt1) | (with_reducible exact cell_al _ (cell_al _ kt1)) | go_simp)
            have ka0 : w3.cell? ⟨w2.heap.size, 0, none⟩ = some (.int .i64 (s1 + t1)) := cell_later hb (by go_simp)
            have ka1 : w3.cell? ⟨w2.heap.size, 1, none⟩ = some (.int .i64 (s2 + t2)) := cell_later hb (by go_simp)
            replace zs : w.heap.size < w3.heap.size := World.block_lt_of_cell? _ _ ks0
            replace zt : w.heap.size + 1 < w3.heap.size := World.block_lt_of_cell? _ _ kt0
            have za : w2.heap.size < w3.heap.size := World.block_lt_of_cell? _ _ ka0
            replace hb0 : Below w.heap.size w w3 := (by repeat (first | exact Below.refl _ _ | assumption | refine bstep ?_ (by assumption) | refine Below.drew ?_ | refine balloc ?_ _ | refine Below.setCell ?_ (by first | omega | (simp <;> omega)) _))
            clear hb
            go_wp2_with fail
            refine Calls.mono (C3 _) ?_
            rintro e w4 ⟨rfl, hb⟩
            replace ks0 : w4.cell? ⟨w.heap.size, 0, none⟩ = some (.int .i64 s1) := cell_later hb (by first | (with_reducible exact ks0) | (with_reducible exact cell_al _ ks0) | (with_reducible exact cell_al _ (cell_al _ ks0)) | go_simp)
            replace ks1 : w4.cell? ⟨w.heap.size, 1, none⟩ = some (.int .i64 s2) := cell_later hb (by first | (with_reducible exact ks1) | (with_reducible exact cell_al _ ks1) | (with_reducible exact cell_al _ (cell_al _ ks1)) | go_simp)
            replace kt0 : w4.cell? ⟨w.heap.size + 1, 0, none⟩ = some (.int .i64 t1) := cell_later hb (by first | (with_reducible exact kt0) | (with_reducible exact cell_al _ kt0) | (with_reducible exact cell_al _ (cell_al _ kt0)) | go_simp)
            replace kt1 : w4.cell? ⟨w.heap.size + 1, 1, none⟩ = some (.int .i64 t2) := cell_later hb (by first | (with_reducible exact kt1) | (with_reducible exact cell_al _ kt1) | (with_reducible exact cell_al _ (cell_al _ kt1)) | go_simp)
            replace ka0 : w4.cell? ⟨w2.heap.size, 0, none⟩ = some (.int .i64 (s1 + t1)) := cell_later hb (by first | (with_reducible exact ka0) | (with_reducible exact cell_al _ ka0) | (with_reducible exact cell_al _ (cell_al _ ka0)) | go_simp)
            replace ka1 : w4.cell? ⟨w2.heap.size, 1, none⟩ = some (.int .i64 (s2 + t2)) := cell_later hb (by first | (with_reducible exact ka1) | (with_reducible exact cell_al _ ka1) | (with_reducible exact cell_al _ (cell_al _ ka1)) | go_simp)
            have kb0 : w4.cell? ⟨w3.heap.size, 0, none⟩ = some (.int .i64 (s1 - t2)) := cell_later hb (by go_simp)
            have kb1 : w4.cell? ⟨w3.heap.size, 1, none⟩ = some (.int .i64 (s2 - t1)) := cell_later hb (by go_simp)
            replace zs : w.heap.size < w4.heap.size := World.block_lt_of_cell? _ _ ks0
            replace zt : w.heap.size + 1 < w4.heap.size := World.block_lt_of_cell? _ _ kt0
            replace za : w2.heap.size < w4.heap.size := World.block_lt_of_cell? _ _ ka0
            have zb : w3.heap.size < w4.heap.size := World.block_lt_of_cell? _ _ kb0
            replace hb0 : Below w.heap.size w w4 := (by repeat (first | exact Below.refl _ _ | assumption | refine bstep ?_ (by assumption) | refine Below.drew ?_ | refine balloc ?_ _ | refine Below.setCell ?_ (by first | omega | (simp <;> omega)) _))
            clear hb
            have m5 : s1 + t1 - t2 ≤ s1 := by omega
            have m6 : s2 ≤ s2 + t2 - t1 := by omega
            go_wp2
            all_goals first | (exfalso; omega) | (go_ret; refine ret_bool ?_ (by repeat (first | exact Below.refl _ _ | assumption | refine bstep ?_ (by assumption) | refine Below.drew ?_ | refine balloc ?_ _ | refine Below.setCell ?_ (by first | omega | (simp <;> omega)) _)); first | (simp; done) | (simp <;> omega))
          ·
            have q1 : rAdd s1 s2 t1 t2 = true := hr1
            have q2 : rSub s1 s2 t1 t2 = true := hr2
            have C1 := fun w => Add_c s1 s2 t1 t2 w
            simp only [v1, q1, selI, selB, erv, cond_true, cond_false, Bool.and_true, Bool.and_false, Bool.true_and, Bool.false_and] at C1
            have C2 := fun w => Sub_c s1 s2 t1 t2 w
            simp only [v2, q2, selI, selB, erv, cond_true, cond_false, Bool.and_true, Bool.and_false, Bool.true_and, Bool.false_and] at C2
            have v3 : vSub (s1 + t1) (s2 + t2) t1 t2 = true := by unfold vSub; rw [Bool.and_eq_true]; exact ⟨hr1, (Bool.and_eq_true _ _ ▸ hv : _ ∧ _).2⟩
            have q3 : rSub (s1 + t1) (s2 + t2) t1 t2 = false := hr3
            have C3 := fun w => Sub_c (s1 + t1) (s2 + t2) t1 t2 w
            simp only [v3, q3, selI, selB, erv, cond_true, cond_false, Bool.and_true, Bool.and_false, Bool.true_and, Bool.false_and] at C3
            clear v1 v2 q1 q2 v3 q3
            obtain ⟨i1, i2, i3, i4⟩ := hin
            have m1 : s1 + t1 ≤ x + y := by omega
            have m2 : x + y ≤ s2 + t2 := by omega
            have m3 : s1 - t2 ≤ x - y := by omega
            have m4 : x - y ≤ s2 - t1 := by omega
            go_enter Try.func4, Try.ntmps4
            go_wp2_with fail
            refine Calls.mono (head_c _) ?_
            rintro e w1 ⟨rfl, hb⟩
            have ks0 : w1.cell? ⟨w.heap.size, 0, none⟩ = some (.int .i64 s1) := cell_later hb (by go_simp)
            have ks1 : w1.cell? ⟨w.heap.size, 1, none⟩ = some (.int .i64 s2) := cell_later hb (by go_simp)
            have kt0 : w1.cell? ⟨w.heap.size + 1, 0, none⟩ = some (.int .i64 t1) := cell_later hb (by go_simp)
            have kt1 : w1.cell? ⟨w.heap.size + 1, 1, none⟩ = some (.int .i64 t2) := cell_later hb (by go_simp)
            have zs : w.heap.size < w1.heap.size := World.block_lt_of_cell? _ _ ks0
            have zt : w.heap.size + 1 < w1.heap.size := World.block_lt_of_cell? _ _ kt0
            have hb0 : Below w.heap.size w w1 := (by repeat (first | exact Below.refl _ _ | assumption | refine bstep ?_ (by assumption) | refine Below.drew ?_ | refine balloc ?_ _ | refine Below.setCell ?_ (by first | omega | (simp <;> omega)) _))
            clear hb
            go_wp2_with fail
            refine Calls.mono (C1 _) ?_
            rintro e w2 ⟨rfl, hb⟩
            replace ks0 : w2.cell? ⟨w.heap.size, 0, none⟩ = some (.int .i64 s1) := cell_later hb (by first | (with_reducible exact ks0) | (with_reducible exact cell_al _ ks0) | (with_reducible exact cell_al _ (cell_al _ ks0)) | go_simp)
            replace ks1 : w2.cell? ⟨w.heap.size, 1, none⟩ = some (.int .i64 s2) := cell_later hb (by first | (with_reducible exact ks1) | (with_reducible exact cell_al _ ks1) | (with_reducible exact cell_al _ (cell_al _ ks1)) | go_simp)
            replace kt0 : w2.cell? ⟨w.heap.size + 1, 0, none⟩ = some (.int .i64 t1) := cell_later hb (by first | (with_reducible exact kt0) | (with_reducible exact cell_al _ kt0) | (with_reducible exact cell_al _ (cell_al _ kt0)) | go_simp)
            replace kt1 : w2.cell? ⟨w.heap.size + 1, 1, none⟩ = some (.int .i64 t2) := cell_later hb (by first | (with_reducible exact kt1) | (with_reducible exact cell_al _ kt1) | (with_reducible exact cell_al _ (cell_al _ kt1)) | go_simp)
            replace zs : w.heap.size < w2.heap.size := World.block_lt_of_cell? _ _ ks0
            replace zt : w.heap.size + 1 < w2.heap.size := World.block_lt_of_cell? _ _ kt0
            replace hb0 : Below w.heap.size w w2 := (by repeat (first | exact Below.refl _ _ | assumption | refine bstep ?_ (by assumption) | refine Below.drew ?_ | refine balloc ?_ _ | refine Below.setCell ?_ (by first | omega | (simp <;> omega)) _))
            clear hb
            go_wp2_with fail
            refine Calls.mono (C2 _) ?_
            rintro e w3 ⟨rfl, hb⟩
            replace ks0 : w3.cell? ⟨w.heap.size, 0, none⟩ = some (.int .i64 s1) := cell_later hb (by first | (with_reducible exact ks0) | (with_reducible exact cell_al _ ks0) | (with_reducible exact cell_al _ (cell_al _ ks0)) | go_simp)
            replace ks1 : w3.cell? ⟨w.heap.size, 1, none⟩ = some (.int .i64 s2) := cell_later hb (by first | (with_reducible exact ks1) | (with_reducible exact cell_al _ ks1) | (with_reducible exact cell_al _ (cell_al _ ks1)) | go_simp)
            replace kt0 : w3.cell? ⟨w.heap.size + 1, 0, none⟩ = some (.int .i64 t1) := cell_later hb (by first | (with_reducible exact kt0) | (with_reducible exact cell_al _ kt0) | (with_reducible exact cell_al _ (cell_al _ kt0)) | go_simp)
            replace kt1 : w3.cell? ⟨w.heap.size + 1, 1, none⟩ = some (.int .i64 t2) := cell_later hb (by first | (with_reducible exact kt1) | (with_reducible exact cell_al _ kt1) | (with_reducible exact cell_al _ (cell_al _ kt1)) | go_simp)
            have ka0 : w3.cell? ⟨w2.heap.size, 0, none⟩ = some (.int .i64 (s1 + t1)) := cell_later hb (by go_simp)
            have ka1 : w3.cell? ⟨w2.heap.size, 1, none⟩ = some (.int .i64 (s2 + t2)) := cell_later hb (by go_simp)
            replace zs : w.heap.size < w3.heap.size := World.block_lt_of_cell? _ _ ks0
            replace zt : w.heap.size + 1 < w3.heap.size := World.block_lt_of_cell? _ _ kt0
            have za : w2.heap.size < w3.heap.size := World.block_lt_of_cell? _ _ ka0
            replace hb0 : Below w.heap.size w w3 := (by repeat (first | exact Below.refl _ _ | assumption | refine bstep ?_ (by assumption) | refine Below.drew ?_ | refine balloc ?_ _ | refine Below.setCell ?_ (by first | omega | (simp <;> omega)) _))
            clear hb
            go_wp2_with fail
            refine Calls.mono (C3 _) ?_
            rintro e w4 ⟨rfl, hb⟩
            replace ks0 : w4.cell? ⟨w.heap.size, 0, none⟩ = some (.int .i64 s1) := cell_later hb (by first | (with_reducible exact ks0) | (with_reducible exact cell_al _ ks0) | (with_reducible exact cell_al _ (cell_al _ ks0)) | go_simp)
            replace ks1 : w4.cell? ⟨w.heap.size, 1, none⟩ = some (.int .i64 s2) := cell_later hb (by first | (with_reducible exact ks1) | (with_reducible exact cell_al _ ks1) | (with_reducible exact cell_al _ (cell_al _ ks1)) | go_simp)
            replace kt0 : w4.cell? ⟨w.heap.size + 1, 0, none⟩ = some (.int .i64 t1) := cell_later hb (by first | (with_reducible exact kt0) | (with_reducible exact cell_al _ kt0) | (with_reducible exact cell_al _ (cell_al _ kt0)) | go_simp)
            replace kt1 : w4.cell? ⟨w.heap.size + 1, 1, none⟩ = some (.int .i64 t2) := cell_later hb (by first | (with_reducible exact kt1) | (with_reducible exact cell_al _ kt1) | (with_reducible exact cell_al _ (cell_al _ kt1)) | go_simp)
            replace ka0 : w4.cell? ⟨w2.heap.size, 0, none⟩ = some (.int .i64 (s1 + t1)) := cell_later hb (by first | (with_reducible exact ka0) | (with_reducible exact cell_al _ ka0) | (with_reducible exact cell_al _ (cell_al _ ka0)) | go_simp)
            replace ka1 : w4.cell? ⟨w2.heap.size, 1, none⟩ = some (.int .i64 (s2 + t2)) := cell_later hb (by first | (with_reducible exact ka1) | (with_reducible exact cell_al _ ka1) | (with_reducible exact cell_al _ (cell_al _ ka1)) | go_simp)
            have kb0 : w4.cell? ⟨w3.heap.size, 0, none⟩ = some (.int .i64 (s1 - t2)) := cell_later hb (by go_simp)
            have kb1 : w4.cell? ⟨w3.heap.size, 1, none⟩ = some (.int .i64 (s2 - t1)) := cell_later hb (by go_simp)
            replace zs : w.heap.size < w4.heap.size := World.block_lt_of_cell? _ _ ks0
            replace zt : w.heap.size + 1 < w4.heap.size := World.block_lt_of_cell? _ _ kt0
            replace za : w2.heap.size < w4.heap.size := World.block_lt_of_cell? _ _ ka0
            have zb : w3.heap.size < w4.heap.size := World.block_lt_of_cell? _ _ kb0
            replace hb0 : Below w.heap.size w w4 := (by repeat (first | exact Below.refl _ _ | assumption | refine bstep ?_ (by assumption) | refine Below.drew ?_ | refine balloc ?_ _ | refine Below.setCell ?_ (by first | omega | (simp <;> omega)) _))
            clear hb
            go_wp2
            all_goals first | (exfalso; omega) | (go_ret; refine ret_bool ?_ (by repeat (first | exact Below.refl _ _ | assumption | refine bstep ?_ (by assumption) | refine Below.drew ?_ | refine balloc ?_ _ | refine Below.setCell ?_ (by first | omega | (simp <;> omega)) _)); first | (simp; done) | (simp <;> omega))
        ·
          rcases Bool.eq_false_or_eq_true (vE 1000000000000 (s1 + t1 - t2) (s2 + t2 - t1)) with hr3 | hr3
          ·
            have q1 : rAdd s1 s2 t1 t2 = true := hr1
            have q2 : rSub s1 s2 t1 t2 = false := hr2
            have C1 := fun w => Add_c s1 s2 t1 t2 w
            simp only [v1, q1, selI, selB, erv, cond_true, cond_false, Bool.and_true, Bool.and_false, Bool.true_and, Bool.false_and] at C1
            have C2 := fun w => Sub_c s1 s2 t1 t2 w
            simp only [v2, q2, selI, selB, erv, cond_true, cond_false, Bool.and_true, Bool.and_false, Bool.true_and, Bool.false_and] at C2
            have v3 : vSub (s1 + t1) (s2 + t2) t1 t2 = true := by unfold vSub; rw [Bool.and_eq_true]; exact ⟨hr1, (Bool.and_eq_true _ _ ▸ hv : _ ∧ _).2⟩
            have q3 : rSub (s1 + t1) (s2 + t2) t1 t2 = true := hr3
            have C3 := fun w => Sub_c (s1 + t1) (s2 + t2) t1 t2 w
            simp only [v3, q3, selI, selB, erv, cond_true, cond_false, Bool.and_true, Bool.and_false, Bool.true_and, Bool.false_and] at C3
            clear v1 v2 q1 q2 v3 q3
            obtain ⟨i1, i2, i3, i4⟩ := hin
            have m1 : s1 + t1 ≤ x + y := by omega
            have m2 : x + y ≤ s2 + t2 := by omega
            go_enter Try.func4, Try.ntmps4
            go_wp2_with fail
            refine Calls.mono (head_c _) ?_
            rintro e w1 ⟨rfl, hb⟩
            have ks0 : w1.cell? ⟨w.heap.size, 0, none⟩ = some (.int .i64 s1) := cell_later hb (by go_simp)
            have ks1 : w1.cell? ⟨w.heap.size, 1, none⟩ = some (.int .i64 s2) := cell_later hb (by go_simp)
            have kt0 : w1.cell? ⟨w.heap.size + 1, 0, none⟩ = some (.int .i64 t1) := cell_later hb (by go_simp)
            have kt1 : w1.cell? ⟨w.heap.size + 1, 1, none⟩ = some (.int .i64 t2) := cell_later hb (by go_simp)
            have zs : w.heap.size < w1.heap.size := World.block_lt_of_cell? _ _ ks0
            have zt : w.heap.size + 1 < w1.heap.size := World.block_lt_of_cell? _ _ kt0
            have hb0 : Below w.heap.size w w1 := (by repeat (first | exact Below.refl _ _ | assumption | refine bstep ?_ (by assumption) | refine Below.drew ?_ | refine balloc ?_ _ | refine Below.setCell ?_ (by first | omega | (simp <;> omega)) _))
            clear hb
            go_wp2_with fail
            refine Calls.mono (C1 _) ?_
            rintro e w2 ⟨rfl, hb⟩
            replace ks0 : w2.cell? ⟨w.heap.size, 0, none⟩ = some (.int .i64 s1) := cell_later hb (by first | (with_reducible exact ks0) | (with_reducible exact cell_al _ ks0) | (with_reducible exact cell_al _ (cell_al _ ks0)) | go_simp)
            replace ks1 : w2.cell? ⟨w.heap.size, 1, none⟩ = some (.int .i64 s2) := cell_later hb (by first | (with_reducible exact ks1) | (with_reducible exact cell_al _ ks1) | (with_reducible exact cell_al _ (cell_al _ ks1)) | go_simp)
            replace kt0 : w2.cell? ⟨w.heap.size + 1, 0, none⟩ = some (.int .i64 t1) := cell_later hb (by first | (with_reducible exact kt0) | (with_reducible exact cell_al _ kt0) | (with_reducible exact cell_al _ (cell_al _ kt0)) | go_simp)
            replace kt1 : w2.cell? ⟨w.heap.size + 1, 1, none⟩ = some (.int .i64 t2) := cell_later hb (by first | (with_reducible exact kt1) | (with_reducible exact cell_al _ kt1) | (with_reducible exact cell_al _ (cell_al _ kt1)) | go_simp)
            replace zs : w.heap.size < w2.heap.size := World.block_lt_of_cell? _ _ ks0
            replace zt : w.heap.size + 1 < w2.heap.size := World.block_lt_of_cell? _ _ kt0
            replace hb0 : Below w.heap.size w w2 := (by repeat (first | exact Below.refl _ _ | assumption | refine bstep ?_ (by assumption) | refine Below.drew ?_ | refine balloc ?_ _ | refine Below.setCell ?_ (by first | omega | (simp <;> omega)) _))
            clear hb
            go_wp2_with fail
            refine Calls.mono (C2 _) ?_
            rintro e w3 ⟨rfl, hb⟩
            replace ks0 : w3.cell? ⟨w.heap.size, 0, none⟩ = some (.int .i64 s1) := cell_later hb (by first | (with_reducible exact ks0) | (with_reducible exact cell_al _ ks0) | (with_reducible exact cell_al _ (cell_al _ ks0)) | go_simp)
            replace ks1 : w3.cell? ⟨w.heap.size, 1, none⟩ = some (.int .i64 s2) := cell_later hb (by first | (with_reducible exact ks1) | (with_reducible exact cell_al _ ks1) | (with_reducible exact cell_al _ (cell_al _ ks1)) | go_simp)
            replace kt0 : w3.cell? ⟨w.heap.size + 1, 0, none⟩ = some (.int .i64 t1) := cell_later hb (by first | (with_reducible exact kt0) | (with_reducible exact cell_al _ kt0) | (with_reducible exact cell_al _ (cell_al _ kt0)) | go_simp)
            replace kt1 : w3.cell? ⟨w.heap.size + 1, 1, none⟩ = some (.int .i64 t2) := cell_later hb (by first | (with_reducible exact kt1) | (with_reducible exact cell_al _ kt1) | (with_reducible exact cell_al _ (cell_al _ kt1)) | go_simp)
            have ka0 : w3.cell? ⟨w2.heap.size, 0, none⟩ = some (.int .i64 (s1 + t1)) := cell_later hb (by go_simp)
            have ka1 : w3.cell? ⟨w2.heap.size, 1, none⟩ = some (.int .i64 (s2 + t2)) := cell_later hb (by go_simp)
            replace zs : w.heap.size < w3.heap.size := World.block_lt_of_cell? _ _ ks0
            replace zt : w.heap.size + 1 < w3.heap.size := World.block_lt_of_cell? _ _ kt0
            have za : w2.heap.size < w3.heap.size := World.block_lt_of_cell? _ _ ka0
            replace hb0 : Below w.heap.size w w3 := (by repeat (first | exact Below.refl _ _ | assumption | refine bstep ?_ (by assumption) | refine Below.drew ?_ | refine balloc ?_ _ | refine Below.setCell ?_ (by first | omega | (simp <;> omega)) _))
            clear hb
            go_wp2_with fail
            refine Calls.mono (C3 _) ?_
            rintro e w4 ⟨rfl, hb⟩
            replace ks0 : w4.cell? ⟨w.heap.size, 0, none⟩ = some (.int .i64 s1) := cell_later hb (by first | (with_reducible exact ks0) | (with_reducible exact cell_al _ ks0) | (with_reducible exact cell_al _ (cell_al _ ks0)) | go_simp)
            replace ks1 : w4.cell? ⟨w.heap.size, 1, none⟩ = some (.int .i64 s2) := cell_later hb (by first | (with_reducible exact ks1) | (with_reducible exact cell_al _ ks1) | (with_reducible exact cell_al _ (cell_al _ ks1)) | go_simp)
            replace kt0 : w4.cell? ⟨w.heap.size + 1, 0, none⟩ = some (.int .i64 t1) := cell_later hb (by first | (with_reducible exact kt0) | (with_reducible exact cell_al _ kt0) | (with_reducible exact cell_al _ (cell_al _ kt0)) | go_simp)
            replace kt1 : w4.cell? ⟨w.heap.size + 1, 1, none⟩ = some (.int .i64 t2) := cell_later hb (by first | (with_reducible exact kt1) | (with_reducible exact cell_al _ kt1) | (with_reducible exact cell_al _ (cell_al _ kt1)) | go_simp)
            replace ka0 : w4.cell? ⟨w2.heap.size, 0, none⟩ = some (.int .i64 (s1 + t1)) := cell_later hb (by first | (with_reducible exact ka0) | (with_reducible exact cell_al _ ka0) | (with_reducible exact cell_al _ (cell_al _ ka0)) | go_simp)
            replace ka1 : w4.cell? ⟨w2.heap.size, 1, none⟩ = some (.int .i64 (s2 + t2)) := cell_later hb (by first | (with_reducible exact ka1) | (with_reducible exact cell_al _ ka1) | (with_reducible exact cell_al _ (cell_al _ ka1)) | go_simp)
            have kb0 : w4.cell? ⟨w3.heap.size, 0, none⟩ = some (.int .i64 0) := cell_later hb (by go_simp)
            have kb1 : w4.cell? ⟨w3.heap.size, 1, none⟩ = some (.int .i64 0) := cell_later hb (by go_simp)
            replace zs : w.heap.size < w4.heap.size := World.block_lt_of_cell? _ _ ks0
            replace zt : w.heap.size + 1 < w4.heap.size := World.block_lt_of_cell? _ _ kt0
            replace za : w2.heap.size < w4.heap.size := World.block_lt_of_cell? _ _ ka0
            have zb : w3.heap.size < w4.heap.size := World.block_lt_of_cell? _ _ kb0
            replace hb0 : Below w.heap.size w w4 := (by repeat (first | exact Below.refl _ _ | assumption | refine bstep ?_ (by assumption) | refine Below.drew ?_ | refine balloc ?_ _ | refine Below.setCell ?_ (by first | omega | (simp <;> omega)) _))
            clear hb
            have m5 : s1 + t1 - t2 ≤ s1 := by omega
            have m6 : s2 ≤ s2 + t2 - t1 := by omega
            go_wp2
            all_goals first | (exfalso; omega) | (go_ret; refine ret_bool ?_ (by repeat (first | exact Below.refl _ _ | assumption | refine bstep ?_ (by assumption) | refine Below.drew ?_ | refine balloc ?_ _ | refine Below.setCell ?_ (by first | omega | (simp <;> omega)) _)); first | (simp; done) | (simp <;> omega))
          ·
            have q1 : rAdd s1 s2 t1 t2 = true := hr1
            have q2 : rSub s1 s2 t1 t2 = false := hr2
            have C1 := fun w => Add_c s1 s2 t1 t2 w
            simp only [v1, q1, selI, selB, erv, cond_true, cond_false, Bool.and_true, Bool.and_false, Bool.true_and, Bool.false_and] at C1
            have C2 := fun w => Sub_c s1 s2 t1 t2 w
            simp only [v2, q2, selI, selB, erv, cond_true, cond_false, Bool.and_true, Bool.and_false, Bool.true_and, Bool.false_and] at C2
            have v3 : vSub (s1 + t1) (s2 + t2) t1 t2 = true := by unfold vSub; rw [Bool.and_eq_true]; exact ⟨hr1, (Bool.and_eq_true _ _ ▸ hv : _ ∧ _).2⟩
            have q3 : rSub (s1 + t1) (s2 + t2) t1 t2 = false := hr3
            have C3 := fun w => Sub_c (s1 + t1) (s2 + t2) t1 t2 w
            simp only [v3, q3, selI, selB, erv, cond_true, cond_false, Bool.and_true, Bool.and_false, Bool.true_and, Bool.false_and] at C3
            clear v1 v2 q1 q2 v3 q3
            obtain ⟨i1, i2, i3, i4⟩ := hin
            have m1 : s1 + t1 ≤ x + y := by omega
            have m2 : x + y ≤ s2 + t2 := by omega
            go_enter Try.func4, Try.ntmps4
            go_wp2_with fail
            refine Calls.mono (head_c _) ?_
            rintro e w1 ⟨rfl, hb⟩
            have ks0 : w1.cell? ⟨w.heap.size, 0, none⟩ = some (.int .i64 s1) := cell_later hb (by go_simp)
            have ks1 : w1.cell? ⟨w.heap.size, 1, none⟩ = some (.int .i64 s2) := cell_later hb (by go_simp)
            have kt0 : w1.cell? ⟨w.heap.size + 1, 0, none⟩ = some (.int .i64 t1) := cell_later hb (by go_simp)
            have kt1 : w1.cell? ⟨w.heap.size + 1, 1, none⟩ = some (.int .i64 t2) := cell_later hb (by go_simp)
            have zs : w.heap.size < w1.heap.size := World.block_lt_of_cell? _ _ ks0
            have zt : w.heap.size + 1 < w1.heap.size := World.block_lt_of_cell? _ _ kt0
            have hb0 : Below w.heap.size w w1 := (by repeat (first | exact Below.refl _ _ | assumption | refine bstep ?_ (by assumption) | refine Below.drew ?_ | refine balloc ?_ _ | refine Below.setCell ?_ (by first | omega | (simp <;> omega)) _))
            clear hb
            go_wp2_with fail
            refine Calls.mono (C1 _) ?_
            rintro e w2 ⟨rfl, hb⟩
            replace ks0 : w2.cell? ⟨w.heap.size, 0, none⟩ = some (.int .i64 s1) := cell_later hb (by first | (with_reducible exact ks0) | (with_reducible exact cell_al _ ks0) | (with_reducible exact cell_al _ (cell_al _ ks0)) | go_simp)
            replace ks1 : w2.cell? ⟨w.heap.size, 1, none⟩ = some (.int .i64 s2) := cell_later hb (by first | (with_reducible exact ks1) | (with_reducible exact cell_al _ ks1) | (with_reducible exact cell_al _ (cell_al _ ks1)) | go_simp)
            replace kt0 : w2.cell? ⟨w.heap.size + 1, 0, none⟩ = some (.int .i64 t1) := cell_later hb (by first | (with_reducible exact kt0) | (with_reducible exact cell_al _ kt0) | (with_reducible exact cell_al _ (cell_al _ kt0)) | go_simp)
            replace kt1 : w2.cell? ⟨w.heap.size + 1, 1, none⟩ = some (.int .i64 t2) := cell_later hb (by first | (with_reducible exact kt1) | (with_reducible exact cell_al _ kt1) | (with_reducible exact cell_al _ (cell_al _ kt1)) | go_simp)
            replace zs : w.heap.size < w2.heap.size := World.block_lt_of_cell? _ _ ks0
            replace zt : w.heap.size + 1 < w2.heap.size := World.block_lt_of_cell? _ _ kt0
            replace hb0 : Below w.heap.size w w2 := (by repeat (first | exact Below.refl _ _ | assumption | refine bstep ?_ (by assumption) | refine Below.drew ?_ | refine balloc ?_ _ | refine Below.setCell ?_ (by first | omega | (simp <;> omega)) _))
            clear hb
            go_wp2_with fail
            refine Calls.mono (C2 _) ?_
            rintro e w3 ⟨rfl, hb⟩
            replace ks0 : w3.cell? ⟨w.heap.size, 0, none⟩ = some (.int .i64 s1) := cell_later hb (by first | (with_reducible exact ks0) | (with_reducible exact cell_al _ ks0) | (with_reducible exact cell_al _ (cell_al _ ks0)) | go_simp)
            replace ks1 : w3.cell? ⟨w.heap.size, 1, none⟩ = some (.int .i64 s2) := cell_later hb (by first | (with_reducible exact ks1) | (with_reducible exact cell_al _ ks1) | (with_reducible exact cell_al _ (cell_al _ ks1)) | go_simp)
            replace kt0 : w3.cell? ⟨w.heap.size + 1, 0, none⟩ = some (.int .i64 t1) := cell_later hb (by first | (with_reducible exact kt0) | (with_reducible exact cell_al _ kt0) | (with_reducible exact cell_al _ (cell_al _ kt0)) | go_simp)
            replace kt1 : w3.cell? ⟨w.heap.size + 1, 1, none⟩ = some (.int .i64 t2) := cell_later hb (by first | (with_reducible exact kt1) | (with_reducible exact cell_al _ kt1) | (with_reducible exact cell_al _ (cell_al _ kt1)) | go_simp)
            have ka0 : w3.cell? ⟨w2.heap.size, 0, none⟩ = some (.int .i64 (s1 + t1)) := cell_later hb (by go_simp)
            have ka1 : w3.cell? ⟨w2.heap.size, 1, none⟩ = some (.int .i64 (s2 + t2)) := cell_later hb (by go_simp)
            replace zs : w.heap.size < w3.heap.size := World.block_lt_of_cell? _ _ ks0
            replace zt : w.heap.size + 1 < w3.heap.size := World.block_lt_of_cell? _ _ kt0
            have za : w2.heap.size < w3.heap.size := World.block_lt_of_cell? _ _ ka0
            replace hb0 : Below w.heap.size w w3 := (by repeat (first | exact Below.refl _ _ | assumption | refine bstep ?_ (by assumption) | refine Below.drew ?_ | refine balloc ?_ _ | refine Below.setCell ?_ (by first | omega | (simp <;> omega)) _))
            clear hb
            go_wp2_with fail
            refine Calls.mono (C3 _) ?_
            rintro e w4 ⟨rfl, hb⟩
            replace ks0 : w4.cell? ⟨w.heap.size, 0, none⟩ = some (.int .i64 s1) := cell_later hb (by first | (with_reducible exact ks0) | (with_reducible exact cell_al _ ks0) | (with_reducible exact cell_al _ (cell_al _ ks0)) | go_simp)
            replace ks1 : w4.cell? ⟨w.heap.size, 1, none⟩ = some (.int .i64 s2) := cell_later hb (by first | (with_reducible exact ks1) | (with_reducible exact cell_al _ ks1) | (with_reducible exact cell_al _ (cell_al _ ks1)) | go_simp)
            replace kt0 : w4.cell? ⟨w.heap.size + 1, 0, none⟩ = some (.int .i64 t1) := cell_later hb (by first | (with_reducible exact kt0) | (with_reducible exact cell_al _ kt0) | (with_reducible exact cell_al _ (cell_al _ kt0)) | go_simp)
            replace kt1 : w4.cell? ⟨w.heap.size + 1, 1, none⟩ = some (.int .i64 t2) := cell_later hb (by first | (with_reducible exact kt1) | (with_reducible exact cell_al _ kt1) | (with_reducible exact cell_al _ (cell_al _ kt1)) | go_simp)
            replace ka0 : w4.cell? ⟨w2.heap.size, 0, none⟩ = some (.int .i64 (s1 + t1)) := cell_later hb (by first | (with_reducible exact ka0) | (with_reducible exact cell_al _ ka0) | (with_reducible exact cell_al _ (cell_al _ ka0)) | go_simp)
            replace ka1 : w4.cell? ⟨w2.heap.size, 1, none⟩ = some (.int .i64 (s2 + t2)) := cell_later hb (by first | (with_reducible exact ka1) | (with_reducible exact cell_al _ ka1) | (with_reducible exact cell_al _ (cell_al _ ka1)) | go_simp)
            have kb0 : w4.cell? ⟨w3.heap.size, 0, none⟩ = some (.int .i64 0) := cell_later hb (by go_simp)
            have kb1 : w4.cell? ⟨w3.heap.size, 1, none⟩ = some (.int .i64 0) := cell_later hb (by go_simp)
            replace zs : w.heap.size < w4.heap.size := World.block_lt_of_cell? _ _ ks0
            replace zt : w.heap.size + 1 < w4.heap.size := World.block_lt_of_cell? _ _ kt0
            replace za : w2.heap.size < w4.heap.size := World.block_lt_of_cell? _ _ ka0
            have zb : w3.heap.size < w4.heap.size := World.block_lt_of_cell? _ _ kb0
            replace hb0 : Below w.heap.size w w4 := (by repeat (first | exact Below.refl _ _ | assumption | refine bstep ?_ (by assumption) | refine Below.drew ?_ | refine balloc ?_ _ | refine Below.setCell ?_ (by first | omega | (simp <;> omega)) _))
            clear hb
            go_wp2
            all_goals first | (exfalso; omega) | (go_ret; refine ret_bool ?_ (by repeat (first | exact Below.refl _ _ | assumption | refine bstep ?_ (by assumption) | refine Below.drew ?_ | refine balloc ?_ _ | refine Below.setCell ?_ (by first | omega | (simp <;> omega)) _)); first | (simp; done) | (simp <;> omega))
      ·
        rcases Bool.eq_false_or_eq_true (vE 1000000000000 (s1 - t2) (s2 - t1)) with hr2 | hr2
        ·
          have q1 : rAdd s1 s2 t1 t2 = false := hr1
          have q2 : rSub s1 s2 t1 t2 = true := hr2
          have C1 := fun w => Add_c s1 s2 t1 t2 w
          simp only [v1, q1, selI, selB, erv, cond_true, cond_false, Bool.and_true, Bool.and_false, Bool.true_and, Bool.false_and] at C1
          have C2 := fun w => Sub_c s1 s2 t1 t2 w
          simp only [v2, q2, selI, selB, erv, cond_true, cond_false, Bool.and_true, Bool.and_false, Bool.true_and, Bool.false_and] at C2
          clear v1 v2 q1 q2
          obtain ⟨i1, i2, i3, i4⟩ := hin
          have m3 : s1 - t2 ≤ x - y := by omega
          have m4 : x - y ≤ s2 - t1 := by omega
          go_enter Try.func4, Try.ntmps4
          go_wp2_with fail
          refine Calls.mono (head_c _) ?_
          rintro e w1 ⟨rfl, hb⟩
          have ks0 : w1.cell? ⟨w.heap.size, 0, none⟩ = some (.int .i64 s1) := cell_later hb (by go_simp)
          have ks1 : w1.cell? ⟨w.heap.size, 1, none⟩ = some (.int .i64 s2) := cell_later hb (by go_simp)
          have kt0 : w1.cell? ⟨w.heap.size + 1, 0, none⟩ = some (.int .i64 t1) := cell_later hb (by go_simp)
          have kt1 : w1.cell? ⟨w.heap.size + 1, 1, none⟩ = some (.int .i64 t2) := cell_later hb (by go_simp)
          have zs : w.heap.size < w1.heap.size := World.block_lt_of_cell? _ _ ks0
          have zt : w.heap.size + 1 < w1.heap.size := World.block_lt_of_cell? _ _ kt0
          have hb0 : Below w.heap.size w w1 := (by repeat (first | exact Below.refl _ _ | assumption | refine bstep ?_ (by assumption) | refine Below.drew ?_ | refine balloc ?_ _ | refine Below.setCell ?_ (by first | omega | (simp <;> omega)) _))
          clear hb
          go_wp2_with fail
          refine Calls.mono (C1 _) ?_
          rintro e w2 ⟨rfl, hb⟩
          replace ks0 : w2.cell? ⟨w.heap.size, 0, none⟩ = some (.int .i64 s1) := cell_later hb (by first | (with_reducible exact ks0) | (with_reducible exact cell_al _ ks0) | (with_reducible exact cell_al _ (cell_al _ ks0)) | go_simp)
          replace ks1 : w2.cell? ⟨w.heap.size, 1, none⟩ = some (.int .i64 s2) := cell_later hb (by first | (with_reducible exact ks1) | (with_reducible exact cell_al _ ks1) | (with_reducible exact cell_al _ (cell_al _ ks1)) | go_simp)
          replace kt0 : w2.cell? ⟨w.heap.size + 1, 0, none⟩ = some (.int .i64 t1) := cell_later hb (by first | (with_reducible exact kt0) | (with_reducible exact cell_al _ kt0) | (with_reducible exact cell_al _ (cell_al _ kt0)) | go_simp)
          replace kt1 : w2.cell? ⟨w.heap.size + 1, 1, none⟩ = some (.int .i64 t2) := cell_later hb (by first | (with_reducible exact kt1) | (with_reducible exact cell_al _ kt1) | (with_reducible exact cell_al _ (cell_al _ kt1)) | go_simp)
          replace zs : w.heap.size < w2.heap.size := World.block_lt_of_cell? _ _ ks0
          replace zt : w.heap.size + 1 < w2.heap.size := World.block_lt_of_cell? _ _ kt0
          replace hb0 : Below w.heap.size w w2 := (by repeat (first | exact Below.refl _ _ | assumption | refine bstep ?_ (by assumption) | refine Below.drew ?_ | refine balloc ?_ _ | refine Below.setCell ?_ (by first | omega | (simp <;> omega)) _))
          clear hb
          go_wp2_with fail
          refine Calls.mono (C2 _) ?_
          rintro e w3 ⟨rfl, hb⟩
          replace ks0 : w3.cell? ⟨w.heap.size, 0, none⟩ = some (.int .i64 s1) := cell_later hb (by first | (with_reducible exact ks0) | (with_reducible exact cell_al _ ks0) | (with_reducible exact cell_al _ (cell_al _ ks0)) | go_simp)
          replace ks1 : w3.cell? ⟨w.heap.size, 1, none⟩ = some (.int .i64 s2) := cell_later hb (by first | (with_reducible exact ks1) | (with_reducible exact cell_al _ ks1) | (with_reducible exact cell_al _ (cell_al _ ks1)) | go_simp)
          replace kt0 : w3.cell? ⟨w.heap.size + 1, 0, none⟩ = some (.int .i64 t1) := cell_later hb (by first | (with_reducible exact kt0) | (with_reducible exact cell_al _ kt0) | (with_reducible exact cell_al _ (cell_al _ kt0)) | go_simp)
          replace kt1 : w3.cell? ⟨w.heap.size + 1, 1, none⟩ = some (.int .i64 t2) := cell_later hb (by first | (with_reducible exact kt1) | (with_reducible exact cell_al _ kt1) | (with_reducible exact cell_al _ (cell_al _ kt1)) | go_simp)
          have ka0 : w3.cell? ⟨w2.heap.size, 0, none⟩ = some (.int .i64 0) := cell_later hb (by go_simp)
          have ka1 : w3.cell? ⟨w2.heap.size, 1, none⟩ = some (.int .i64 0) := cell_later hb (by go_simp)
          replace zs : w.heap.size < w3.heap.size := World.block_lt_of_cell? _ _ ks0
          replace zt : w.heap.size + 1 < w3.heap.size := World.block_lt_of_cell? _ _ kt0
          have za : w2.heap.size < w3.heap.size := World.block_lt_of_cell? _ _ ka0
          replace hb0 : Below w.heap.size w w3 := (by repeat (first | exact Below.refl _ _ | assumption | refine bstep ?_ (by assumption) | refine Below.drew ?_ | refine balloc ?_ _ | refine Below.setCell ?_ (by first | omega | (simp <;> omega)) _))
          clear hb
          go_wp2
          all_goals first | (exfalso; omega) | (go_ret; refine ret_bool ?_ (by repeat (first | exact Below.refl _ _ | assumption | refine bstep ?_ (by assumption) | refine Below.drew ?_ | refine balloc ?_ _ | refine Below.setCell ?_ (by first | omega | (simp <;> omega)) _)); first | (simp; done) | (simp <;> omega))
        ·
          have q1 : rAdd s1 s2 t1 t2 = false := hr1
          have q2 : rSub s1 s2 t1 t2 = false := hr2
          have C1 := fun w => Add_c s1 s2 t1 t2 w
          simp only [v1, q1, selI, selB, erv, cond_true, cond_false, Bool.and_true, Bool.and_false, Bool.true_and, Bool.false_and] at C1
          have C2 := fun w => Sub_c s1 s2 t1 t2 w
          simp only [v2, q2, selI, selB, erv, cond_true, cond_false, Bool.and_true, Bool.and_false, Bool.true_and, Bool.false_and] at C2
          clear v1 v2 q1 q2
          obtain ⟨i1, i2, i3, i4⟩ := hin
          go_enter Try.func4, Try.ntmps4
          go_wp2_with fail
          refine Calls.mono (head_c _) ?_
          rintro e w1 ⟨rfl, hb⟩
          have ks0 : w1.cell? ⟨w.heap.size, 0, none⟩ = some (.int .i64 s1) := cell_later hb (by go_simp)
          have ks1 : w1.cell? ⟨w.heap.size, 1, none⟩ = some (.int .i64 s2) := cell_later hb (by go_simp)
          have kt0 : w1.cell? ⟨w.heap.size + 1, 0, none⟩ = some (.int .i64 t1) := cell_later hb (by go_simp)
          have kt1 : w1.cell? ⟨w.heap.size + 1, 1, none⟩ = some (.int .i64 t2) := cell_later hb (by go_simp)
          have zs : w.heap.size < w1.heap.size := World.block_lt_of_cell? _ _ ks0
          have zt : w.heap.size + 1 < w1.heap.size := World.block_lt_of_cell? _ _ kt0
          have hb0 : Below w.heap.size w w1 := (by repeat (first | exact Below.refl _ _ | assumption | refine bstep ?_ (by assumption) | refine Below.drew ?_ | refine balloc ?_ _ | refine Below.setCell ?_ (by first | omega | (simp <;> omega)) _))
          clear hb
          go_wp2_with fail
          refine Calls.mono (C1 _) ?_
          rintro e w2 ⟨rfl, hb⟩
          replace ks0 : w2.cell? ⟨w.heap.size, 0, none⟩ = some (.int .i64 s1) := cell_later hb (by first | (with_reducible exact ks0) | (with_reducible exact cell_al _ ks0) | (with_reducible exact cell_al _ (cell_al _ ks0)) | go_simp)
          replace ks1 : w2.cell? ⟨w.heap.size, 1, none⟩ = some (.int .i64 s2) := cell_later hb (by first | (with_reducible exact ks1) | (with_reducible exact cell_al _ ks1) | (with_reducible exact cell_al _ (cell_al _ ks1)) | go_simp)
          replace kt0 : w2.cell? ⟨w.heap.size + 1, 0, none⟩ = some (.int .i64 t1) := cell_later hb (by first | (with_reducible exact kt0) | (with_reducible exact cell_al _ kt0) | (with_reducible exact cell_al _ (cell_al _ kt0)) | go_simp)
          replace kt1 : w2.cell? ⟨w.heap.size + 1, 1, none⟩ = some (.int .i64 t2) := cell_later hb (by first | (with_reducible exact kt1) | (with_reducible exact cell_al _ kt1) | (with_reducible exact cell_al _ (cell_al _ kt1)) | go_simp)
          replace zs : w.heap.size < w2.heap.size := World.block_lt_of_cell? _ _ ks0
          replace zt : w.heap.size + 1 < w2.heap.size := World.block_lt_of_cell? _ _ kt0
          replace hb0 : Below w.heap.size w w2 := (by repeat (first | exact Below.refl _ _ | assumption | refine bstep ?_ (by assumption) | refine Below.drew ?_ | refine balloc ?_ _ | refine Below.setCell ?_ (by first | omega | (simp <;> omega)) _))
          clear hb
          go_wp2_with fail
          refine Calls.mono (C2 _) ?_
          rintro e w3 ⟨rfl, hb⟩
          replace ks0 : w3.cell? ⟨w.heap.size, 0, none⟩ = some (.int .i64 s1) := cell_later hb (by first | (with_reducible exact ks0) | (with_reducible exact cell_al _ ks0) | (with_reducible exact cell_al _ (cell_al _ ks0)) | go_simp)
          replace ks1 : w3.cell? ⟨w.heap.size, 1, none⟩ = some (.int .i64 s2) := cell_later hb (by first | (with_reducible exact ks1) | (with_reducible exact cell_al _ ks1) | (with_reducible exact cell_al _ (cell_al _ ks1)) | go_simp)
          replace kt0 : w3.cell? ⟨w.heap.size + 1, 0, none⟩ = some (.int .i64 t1) := cell_later hb (by first | (with_reducible exact kt0) | (with_reducible exact cell_al _ kt0) | (with_reducible exact cell_al _ (cell_al _ kt0)) | go_simp)
          replace kt1 : w3.cell? ⟨w.heap.size + 1, 1, none⟩ = some (.int .i64 t2) := cell_later hb (by first | (with_reducible exact kt1) | (with_reducible exact cell_al _ kt1) | (with_reducible exact cell_al _ (cell_al _ kt1)) | go_simp)
          have ka0 : w3.cell? ⟨w2.heap.size, 0, none⟩ = some (.int .i64 0) := cell_later hb (by go_simp)
          have ka1 : w3.cell? ⟨w2.heap.size, 1, none⟩ = some (.int .i64 0) := cell_later hb (by go_simp)
          replace zs : w.heap.size < w3.heap.size := World.block_lt_of_cell? _ _ ks0
          replace zt : w.heap.size + 1 < w3.heap.size := World.block_lt_of_cell? _ _ kt0
          have za : w2.heap.size < w3.heap.size := World.block_lt_of_cell? _ _ ka0
          replace hb0 : Below w.heap.size w w3 := (by repeat (first | exact Below.refl _ _ | assumption | refine bstep ?_ (by assumption) | refine Below.drew ?_ | refine balloc ?_ _ | refine Below.setCell ?_ (by first | omega | (simp <;> omega)) _))
          clear hb
          go_wp2
          all_goals first | (exfalso; omega) | (go_ret; refine ret_bool ?_ (by repeat (first | exact Below.refl _ _ | assumption | refine bstep ?_ (by assumption) | refine Below.drew ?_ | refine balloc ?_ _ | refine Below.setCell ?_ (by first | omega | (simp <;> omega)) _)); first | (simp; done) | (simp <;> omega))
    ·
      rcases Bool.eq_false_or_eq_true (vE 1000000000000 (s1 + t1) (s2 + t2)) with hr1 | hr1
      ·
        rcases Bool.eq_false_or_eq_true (vE 1000000000000 (s1 - t2) (s2 - t1)) with hr2 | hr2
        ·
          rcases Bool.eq_false_or_eq_true (vE 1000000000000 (s1 + t1 - t2) (s2 + t2 - t1)) with hr3 | hr3
          ·
            have q1 : rAdd s1 s2 t1 t2 = true := hr1
            have q2 : rSub s1 s2 t1 t2 = true := hr2
            have C1 := fun w => Add_c s1 s2 t1 t2 w
            simp only [v1, q1, selI, selB, erv, cond_true, cond_false, Bool.and_true, Bool.and_false, Bool.true_and, Bool.false_and] at C1
            have C2 := fun w => Sub_c s1 s2 t1 t2 w
            simp only [v2, q2, selI, selB, erv, cond_true, cond_false, Bool.and_true, Bool.and_false, Bool.true_and, Bool.false_and] at C2
            have v3 : vSub (s1 + t1) (s2 + t2) t1 t2 = true := by unfold vSub; rw [Bool.and_eq_true]; exact ⟨hr1, (Bool.and_eq_true _ _ ▸ hv : _ ∧ _).2⟩
            have q3 : rSub (s1 + t1) (s2 + t2) t1 t2 = true := hr3
            have C3 := fun w => Sub_c (s1 + t1) (s2 + t2) t1 t2 w
            simp only [v3, q3, selI, selB, erv, cond_true, cond_false, Bool.and_true, Bool.and_false, Bool.true_and, Bool.false_and] at C3
            clear v1 v2 q1 q2 v3 q3
            go_enter Try.func4, Try.ntmps4
            go_wp2_with fail
            refine Calls.mono (head_c _) ?_
            rintro e w1 ⟨rfl, hb⟩
            have ks0 : w1.cell? ⟨w.heap.size, 0, none⟩ = some (.int .i64 s1) := cell_later hb (by go_simp)
            have ks1 : w1.cell? ⟨w.heap.size, 1, none⟩ = some (.int .i64 s2) := cell_later hb (by go_simp)
            have kt0 : w1.cell? ⟨w.heap.size + 1, 0, none⟩ = some (.int .i64 t1) := cell_later hb (by go_simp)
            have kt1 : w1.cell? ⟨w.heap.size + 1, 1, none⟩ = some (.int .i64 t2) := cell_later hb (by go_simp)
            have zs : w.heap.size < w1.heap.size := World.block_lt_of_cell? _ _ ks0
            have zt : w.heap.size + 1 < w1.heap.size := World.block_lt_of_cell? _ _ kt0
            have hb0 : Below w.heap.size w w1 := (by repeat (first | exact Below.refl _ _ | assumption | refine bstep ?_ (by assumption) | refine Below.drew ?_ | refine balloc ?_ _ | refine Below.setCell ?_ (by first | omega | (simp <;> omega)) _))
            clear hb
            go_wp2_with fail
            refine Calls.mono (C1 _) ?_
            rintro e w2 ⟨rfl, hb⟩
            replace ks0 : w2.cell? ⟨w.heap.size, 0, none⟩ = some (.int .i64 s1) := cell_later hb (by first | (with_reducible exact ks0) | (with_reducible exact cell_al _ ks0) | (with_reducible exact cell_al _ (cell_al _ ks0)) | go_simp)
            replace ks1 : w2.cell? ⟨w.heap.size, 1, none⟩ = some (.int .i64 s2) := cell_later hb (by first | (with_reducible exact ks1) | (with_reducible exact cell_al _ ks1) | (with_reducible exact cell_al _ (cell_al _ ks1)) | go_simp)
            replace kt0 : w2.cell? ⟨w.heap.size + 1, 0, none⟩ = some (.int .i64 t1) := cell_later hb (by first | (with_reducible exact kt0) | (with_reducible exact cell_al _ kt0) | (with_reducible exact cell_al _ (cell_al _ kt0)) | go_simp)
            replace kt1 : w2.cell? ⟨w.heap.size + 1, 1, none⟩ = some (.int .i64 t2) := cell_later hb (by first | (with_reducible exact kt1) | (with_reducible exact cell_al _ kt1) | (with_reducible exact cell_al _ (cell_al _ kt1)) | go_simp)
            replace zs : w.heap.size < w2.heap.size := World.block_lt_of_cell? _ _ ks0
            replace zt : w.heap.size + 1 < w2.heap.size := World.block_lt_of_cell? _ _ kt0
            replace hb0 : Below w.heap.size w w2 := (by repeat (first | exact Below.refl _ _ | assumption | refine bstep ?_ (by assumption) | refine Below.drew ?_ | refine balloc ?_ _ | refine Below.setCell ?_ (by first | omega | (simp <;> omega)) _))
            clear hb
            go_wp2_with fail
            refine Calls.mono (C2 _) ?_
            rintro e w3 ⟨rfl, hb⟩
            replace ks0 : w3.cell? ⟨w.heap.size, 0, none⟩ = some (.int .i64 s1) := cell_later hb (by first | (with_reducible exact ks0) | (with_reducible exact cell_al _ ks0) | (with_reducible exact cell_al _ (cell_al _ ks0)) | go_simp)
            replace ks1 : w3.cell? ⟨w.heap.size, 1, none⟩ = some (.int .i64 s2) := cell_later hb (by first | (with_reducible exact ks1) | (with_reducible exact cell_al _ ks1) | (with_reducible exact cell_al _ (cell_al _ ks1)) | go_simp)
            replace kt0 : w3.cell? ⟨w.heap.size + 1, 0, none⟩ = some (.int .i64 t1) := cell_later hb (by first | (with_reducible exact kt0) | (with_reducible exact cell_al _ kt0) | (with_reducible exact cell_al _ (cell_al _ kt0)) | go_simp)
            replace kt1 : w3.cell? ⟨w.heap.size + 1, 1, none⟩ = some (.int .i64 t2) := cell_later hb (by first | (with_reducible exact kt1) | (with_reducible exact cell_al _ kt1) | (with_reducible exact cell_al _ (cell_al _ kt1)) | go_simp)
            have ka0 : w3.cell? ⟨w2.heap.size, 0, none⟩ = some (.int .i64 (s1 + t1)) := cell_later hb (by go_simp)
            have ka1 : w3.cell? ⟨w2.heap.size, 1, none⟩ = some (.int .i64 (s2 + t2)) := cell_later hb (by go_simp)
            replace zs : w.heap.size < w3.heap.size := World.block_lt_of_cell? _ _ ks0
            replace zt : w.heap.size + 1 < w3.heap.size := World.block_lt_of_cell? _ _ kt0
            have za : w2.heap.size < w3.heap.size := World.block_lt_of_cell? _ _ ka0
            replace hb0 : Below w.heap.size w w3 := (by repeat (first | exact Below.refl _ _ | assumption | refine bstep ?_ (by assumption) | refine Below.drew ?_ | refine balloc ?_ _ | refine Below.setCell ?_ (by first | omega | (simp <;> omega)) _))
            clear hb
            go_upto_region 4 with fail
            go_cut [14] (fun s14 wx => s14 = .bool false ∧ wx.cell? ⟨w.heap.size, 0, none⟩ = some (.int .i64 s1) ∧ wx.cell? ⟨w.heap.size, 1, none⟩ = some (.int .i64 s2) ∧ wx.cell? ⟨w.heap.size + 1, 0, none⟩ = some (.int .i64 t1) ∧ wx.cell? ⟨w.heap.size + 1, 1, none⟩ = some (.int .i64 t2) ∧ wx.cell? ⟨w2.heap.size, 0, none⟩ = some (.int .i64 (s1 + t1)) ∧ wx.cell? ⟨w2.heap.size, 1, none⟩ = some (.int .i64 (s2 + t2)) ∧ wx.cell? ⟨w3.heap.size, 0, none⟩ = some (.int .i64 (s1 - t2)) ∧ wx.cell? ⟨w3.heap.size, 1, none⟩ = some (.int .i64 (s2 - t1)) ∧ Below w.heap.size w wx)
            case first =>
              go_wp2_with fail
              all_goals
                go_meet
                refine ⟨?_, ?_, ?_, ?_, ?_, ?_, ?_, ?_, ?_, (by repeat (first | exact Below.refl _ _ | assumption | refine bstep ?_ (by assumption) | refine Below.drew ?_ | refine balloc ?_ _ | refine Below.setCell ?_ (by first | omega | (simp <;> omega)) _))⟩
                all_goals first | (with_reducible assumption) | (go_simp; done) | rfl | (refine congrArg Value.bool ?_; rw [Bool.eq_iff_iff]; simp <;> omega)
            case rest =>
              obtain ⟨rfl, ks0, ks1, kt0, kt1, ka0, ka1, kb0, kb1, hb0⟩ := hcut
              have zs : w.heap.size < wc.heap.size := World.block_lt_of_cell? _ _ ks0
              have zt : w.heap.size + 1 < wc.heap.size := World.block_lt_of_cell? _ _ kt0
              have za : w2.heap.size < wc.heap.size := World.block_lt_of_cell? _ _ ka0
              have zb : w3.heap.size < wc.heap.size := World.block_lt_of_cell? _ _ kb0
              go_wp2_with fail
              refine Calls.mono (C3 _) ?_
              rintro e w4 ⟨rfl, hb⟩
              replace ks0 : w4.cell? ⟨w.heap.size, 0, none⟩ = some (.int .i64 s1) := cell_later hb (by first | (with_reducible exact ks0) | (with_reducible exact cell_al _ ks0) | (with_reducible exact cell_al _ (cell_al _ ks0)) | go_simp)
              replace ks1 : w4.cell? ⟨w.heap.size, 1, none⟩ = some (.int .i64 s2) := cell_later hb (by first | (with_reducible exact ks1) | (with_reducible exact cell_al _ ks1) | (with_reducible exact cell_al _ (cell_al _ ks1)) | go_simp)
              replace kt0 : w4.cell? ⟨w.heap.size + 1, 0, none⟩ = some (.int .i64 t1) := cell_later hb (by first | (with_reducible exact kt0) | (with_reducible exact cell_al _ kt0) | (with_reducible exact cell_al _ (cell_al _ kt0)) | go_simp)
              replace kt1 : w4.cell? ⟨w.heap.size + 1, 1, none⟩ = some (.int .i64 t2) := cell_later hb (by first | (with_reducible exact kt1) | (with_reducible exact cell_al _ kt1) | (with_reducible exact cell_al _ (cell_al _ kt1)) | go_simp)
              replace ka0 : w4.cell? ⟨w2.heap.size, 0, none⟩ = some (.int .i64 (s1 + t1)) := cell_later hb (by first | (with_reducible exact ka0) | (with_reducible exact cell_al _ ka0) | (with_reducible exact cell_al _ (cell_al _ ka0)) | go_simp)
              replace ka1 : w4.cell? ⟨w2.heap.size, 1, none⟩ = some (.int .i64 (s2 + t2)) := cell_later hb (by first | (with_reducible exact ka1) | (with_reducible exact cell_al _ ka1) | (with_reducible exact cell_al _ (cell_al _ ka1)) | go_simp)
              replace kb0 : w4.cell? ⟨w3.heap.size, 0, none⟩ = some (.int .i64 (s1 - t2)) := cell_later hb (by first | (with_reducible exact kb0) | (with_reducible exact cell_al _ kb0) | (with_reducible exact cell_al _ (cell_al _ kb0)) | go_simp)
              replace kb1 : w4.cell? ⟨w3.heap.size, 1, none⟩ = some (.int .i64 (s2 - t1)) := cell_later hb (by first | (with_reducible exact kb1) | (with_reducible exact cell_al _ kb1) | (with_reducible exact cell_al _ (cell_al _ kb1)) | go_simp)
              replace zs : w.heap.size < w4.heap.size := World.block_lt_of_cell? _ _ ks0
              replace zt : w.heap.size + 1 < w4.heap.size := World.block_lt_of_cell? _ _ kt0
              replace za : w2.heap.size < w4.heap.size := World.block_lt_of_cell? _ _ ka0
              replace zb : w3.heap.size < w4.heap.size := World.block_lt_of_cell? _ _ kb0
              replace hb0 : Below w.heap.size w w4 := (by repeat (first | exact Below.refl _ _ | assumption | refine bstep ?_ (by assumption) | refine Below.drew ?_ | refine balloc ?_ _ | refine Below.setCell ?_ (by first | omega | (simp <;> omega)) _))
              clear hb
              have m5 : s1 + t1 - t2 ≤ s1 := by omega
              have m6 : s2 ≤ s2 + t2 - t1 := by omega
              go_wp2
              all_goals first | (exfalso; omega) | (go_ret; refine ret_bool ?_ (by repeat (first | exact Below.refl _ _ | assumption | refine bstep ?_ (by assumption) | refine Below.drew ?_ | refine balloc ?_ _ | refine Below.setCell ?_ (by first | omega | (simp <;> omega)) _)); first | (simp; done) | (simp <;> omega))
          ·
            have q1 : rAdd s1 s2 t1 t2 = true := hr1
            have q2 : rSub s1 s2 t1 t2 = true := hr2
            have C1 := fun w => Add_c s1 s2 t1 t2 w
            simp only [v1, q1, selI, selB, erv, cond_true, cond_false, Bool.and_true, Bool.and_false, Bool.true_and, Bool.false_and] at C1
            have C2 := fun w => Sub_c s1 s2 t1 t2 w
            simp only [v2, q2, selI, selB, erv, cond_true, cond_false, Bool.and_true, Bool.and_false, Bool.true_and, Bool.false_and] at C2
            have v3 : vSub (s1 + t1) (s2 + t2) t1 t2 = true := by unfold vSub; rw [Bool.and_eq_true]; exact ⟨hr1, (Bool.and_eq_true _ _ ▸ hv : _ ∧ _).2⟩
            have q3 : rSub (s1 + t1) (s2 + t2) t1 t2 = false := hr3
            have C3 := fun w => Sub_c (s1 + t1) (s2 + t2) t1 t2 w
            simp only [v3, q3, selI, selB, erv, cond_true, cond_false, Bool.and_true, Bool.and_false, Bool.true_and, Bool.false_and] at C3
            clear v1 v2 q1 q2 v3 q3
            go_enter Try.func4, Try.ntmps4
            go_wp2_with fail
            refine Calls.mono (head_c _) ?_
            rintro e w1 ⟨rfl, hb⟩
            have ks0 : w1.cell? ⟨w.heap.size, 0, none⟩ = some (.int .i64 s1) := cell_later hb (by go_simp)
            have ks1 : w1.cell? ⟨w.heap.size, 1, none⟩ = some (.int .i64 s2) := cell_later hb (by go_simp)
            have kt0 : w1.cell? ⟨w.heap.size + 1, 0, none⟩ = some (.int .i64 t1) := cell_later hb (by go_simp)
            have kt1 : w1.cell? ⟨w.heap.size + 1, 1, none⟩ = some (.int .i64 t2) := cell_later hb (by go_simp)
            have zs : w.heap.size < w1.heap.size := World.block_lt_of_cell? _ _ ks0
            have zt : w.heap.size + 1 < w1.heap.size := World.block_lt_of_cell? _ _ kt0
            have hb0 : Below w.heap.size w w1 := (by repeat (first | exact Below.refl _ _ | assumption | refine bstep ?_ (by assumption) | refine Below.drew ?_ | refine balloc ?_ _ | refine Below.setCell ?_ (by first | omega | (simp <;> omega)) _))
            clear hb
            go_wp2_with fail
            refine Calls.mono (C1 _) ?_
            rintro e w2 ⟨rfl, hb⟩
            replace ks0 : w2.cell? ⟨w.heap.size, 0, none⟩ = some (.int .i64 s1) := cell_later hb (by first | (with_reducible exact ks0) | (with_reducible exact cell_al _ ks0) | (with_reducible exact cell_al _ (cell_al _ ks0)) | go_simp)
            replace ks1 : w2.cell? ⟨w.heap.size, 1, none⟩ = some (.int .i64 s2) := cell_later hb (by first | (with_reducible exact ks1) | (with_reducible exact cell_al _ ks1) | (with_reducible exact cell_al _ (cell_al _ ks1)) | go_simp)
            replace kt0 : w2.cell? ⟨w.heap.size + 1, 0, none⟩ = some (.int .i64 t1) := cell_later hb (by first | (with_reducible exact kt0) | (with_reducible exact cell_al _ kt0) | (with_reducible exact cell_al _ (cell_al _ kt0)) | go_simp)
            replace kt1 : w2.cell? ⟨w.heap.size + 1, 1, none⟩ = some (.int .i64 t2) := cell_later hb (by first | (with_reducible exact kt1) | (with_reducible exact cell_al _ kt1) | (with_reducible exact cell_al _ (cell_al _ kt1)) | go_simp)
            replace zs : w.heap.size < w2.heap.size := World.block_lt_of_cell? _ _ ks0
            replace zt : w.heap.size + 1 < w2.heap.size := World.block_lt_of_cell? _ _ kt0
            replace hb0 : Below w.heap.size w w2 := (by repeat (first | exact Below.refl _ _ | assumption | refine bstep ?_ (by assumption) | refine Below.drew ?_ | refine balloc ?_ _ | refine Below.setCell ?_ (by first | omega | (simp <;> omega)) _))
            clear hb
            go_wp2_with fail
            refine Calls.mono (C2 _) ?_
            rintro e w3 ⟨rfl, hb⟩
            replace ks0 : w3.cell? ⟨w.heap.size, 0, none⟩ = some (.int .i64 s1) := cell_later hb (by first | (with_reducible exact ks0) | (with_reducible exact cell_al _ ks0) | (with_reducible exact cell_al _ (cell_al _ ks0)) | go_simp)
            replace ks1 : w3.cell? ⟨w.heap.size, 1, none⟩ = some (.int .i64 s2) := cell_later hb (by first | (with_reducible exact ks1) | (with_reducible exact cell_al _ ks1) | (with_reducible exact cell_al _ (cell_al _ ks1)) | go_simp)
            replace kt0 : w3.cell? ⟨w.heap.size + 1, 0, none⟩ = some (.int .i64 t1) := cell_later hb (by first | (with_reducible exact kt0) | (with_reducible exact cell_al _ kt0) | (with_reducible exact cell_al _ (cell_al _ kt0)) | go_simp)
            replace kt1 : w3.cell? ⟨w.heap.size + 1, 1, none⟩ = some (.int .i64 t2) := cell_later hb (by first | (with_reducible exact kt1) | (with_reducible exact cell_al _ kt1) | (with_reducible exact cell_al _ (cell_al _ kt1)) | go_simp)
            have ka0 : w3.cell? ⟨w2.heap.size, 0, none⟩ = some (.int .i64 (s1 + t1)) := cell_later hb (by go_simp)
            have ka1 : w3.cell? ⟨w2.heap.size, 1, none⟩ = some (.int .i64 (s2 + t2)) := cell_later hb (by go_simp)
            replace zs : w.heap.size < w3.heap.size := World.block_lt_of_cell? _ _ ks0
            replace zt : w.heap.size + 1 < w3.heap.size := World.block_lt_of_cell? _ _ kt0
            have za : w2.heap.size < w3.heap.size := World.block_lt_of_cell? _ _ ka0
            replace hb0 : Below w.heap.size w w3 := (by repeat (first | exact Below.refl _ _ | assumption | refine bstep ?_ (by assumption) | refine Below.drew ?_ | refine balloc ?_ _ | refine Below.setCell ?_ (by first | omega | (simp <;> omega)) _))
            clear hb
            go_upto_region 4 with fail
            go_cut [14] (fun s14 wx => s14 = .bool false ∧ wx.cell? ⟨w.heap.size, 0, none⟩ = some (.int .i64 s1) ∧ wx.cell? ⟨w.heap.size, 1, none⟩ = some (.int .i64 s2) ∧ wx.cell? ⟨w.heap.size + 1, 0, none⟩ = some (.int .i64 t1) ∧ wx.cell? ⟨w.heap.size + 1, 1, none⟩ = some (.int .i64 t2) ∧ wx.cell? ⟨w2.heap.size, 0, none⟩ = some (.int .i64 (s1 + t1)) ∧ wx.cell? ⟨w2.heap.size, 1, none⟩ = some (.int .i64 (s2 + t2)) ∧ wx.cell? ⟨w3.heap.size, 0, none⟩ = some (.int .i64 (s1 - t2)) ∧ wx.cell? ⟨w3.heap.size, 1, none⟩ = some (.int .i64 (s2 - t1)) ∧ Below w.heap.size w wx)
            case first =>
              go_wp2_with fail
              all_goals
                go_meet
                refine ⟨?_, ?_, ?_, ?_, ?_, ?_, ?_, ?_, ?_, (by repeat (first | exact Below.refl _ _ | assumption | refine bstep ?_ (by assumption) | refine Below.drew ?_ | refine balloc ?_ _ | refine Below.setCell ?_ (by first | omega | (simp <;> omega)) _))⟩
                all_goals first | (with_reducible assumption) | (go_simp; done) | rfl | (refine congrArg Value.bool ?_; rw [Bool.eq_iff_iff]; simp <;> omega)
            case rest =>
              obtain ⟨rfl, ks0, ks1, kt0, kt1, ka0, ka1, kb0, kb1, hb0⟩ := hcut
              have zs : w.heap.size < wc.heap.size := World.block_lt_of_cell? _ _ ks0
              have zt : w.heap.size + 1 < wc.heap.size := World.block_lt_of_cell? _ _ kt0
              have za : w2.heap.size < wc.heap.size := World.block_lt_of_cell? _ _ ka0
              have zb : w3.heap.size < wc.heap.size := World.block_lt_of_cell? _ _ kb0
              go_wp2_with fail
              refine Calls.mono (C3 _) ?_
              rintro e w4 ⟨rfl, hb⟩
              replace ks0 : w4.cell? ⟨w.heap.size, 0, none⟩ = some (.int .i64 s1) := cell_later hb (by first | (with_reducible exact ks0) | (with_reducible exact cell_al _ ks0) | (with_reducible exact cell_al _ (cell_al _ ks0)) | go_simp)
              replace ks1 : w4.cell? ⟨w.heap.size, 1, none⟩ = some (.int .i64 s2) := cell_later hb (by first | (with_reducible exact ks1) | (with_reducible exact cell_al _ ks1) | (with_reducible exact cell_al _ (cell_al _ ks1)) | go_simp)
              replace kt0 : w4.cell? ⟨w.heap.size + 1, 0, none⟩ = some (.int .i64 t1) := cell_later hb (by first | (with_reducible exact kt0) | (with_reducible exact cell_al _ kt0) | (with_reducible exact cell_al _ (cell_al _ kt0)) | go_simp)
              replace kt1 : w4.cell? ⟨w.heap.size + 1, 1, none⟩ = some (.int .i64 t2) := cell_later hb (by first | (with_reducible exact kt1) | (with_reducible exact cell_al _ kt1) | (with_reducible exact cell_al _ (cell_al _ kt1)) | go_simp)
              replace ka0 : w4.cell? ⟨w2.heap.size, 0, none⟩ = some (.int .i64 (s1 + t1)) := cell_later hb (by first | (with_reducible exact ka0) | (with_reducible exact cell_al _ ka0) | (with_reducible exact cell_al _ (cell_al _ ka0)) | go_simp)
              replace ka1 : w4.cell? ⟨w2.heap.size, 1, none⟩ = some (.int .i64 (s2 + t2)) := cell_later hb (by first | (with_reducible exact ka1) | (with_reducible exact cell_al _ ka1) | (with_reducible exact cell_al _ (cell_al _ ka1)) | go_simp)
              replace kb0 : w4.cell? ⟨w3.heap.size, 0, none⟩ = some (.int .i64 (s1 - t2)) := cell_later hb (by first | (with_reducible exact kb0) | (with_reducible exact cell_al _ kb0) | (with_reducible exact cell_al _ (cell_al _ kb0)) | go_simp)
              replace kb1 : w4.cell? ⟨w3.heap.size, 1, none⟩ = some (.int .i64 (s2 - t1)) := cell_later hb (by first | (with_reducible exact kb1) | (with_reducible exact cell_al _ kb1) | (with_reducible exact cell_al _ (cell_al _ kb1)) | go_simp)
              replace zs : w.heap.size < w4.heap.size := World.block_lt_of_cell? _ _ ks0
              replace zt : w.heap.size + 1 < w4.heap.size := World.block_lt_of_cell? _ _ kt0
              replace za : w2.heap.size < w4.heap.size := World.block_lt_of_cell? _ _ ka0
              replace zb : w3.heap.size < w4.heap.size := World.block_lt_of_cell? _ _ kb0
              replace hb0 : Below w.heap.size w w4 := (by repeat (first | exact Below.refl _ _ | assumption | refine bstep ?_ (by assumption) | refine Below.drew ?_ | refine balloc ?_ _ | refine Below.setCell ?_ (by first | omega | (simp <;> omega)) _))
              clear hb
              go_wp2
              all_goals first | (exfalso; omega) | (go_ret; refine ret_bool ?_ (by repeat (first | exact Below.refl _ _ | assumption | refine bstep ?_ (by assumption) | refine Below.drew ?_ | refine balloc ?_ _ | refine Below.setCell ?_ (by first | omega | (simp <;> omega)) _)); first | (simp; done) | (simp <;> omega))
        ·
          rcases Bool.eq_false_or_eq_true (vE 1000000000000 (s1 + t1 - t2) (s2 + t2 - t1)) with hr3 | hr3
          ·
            have q1 : rAdd s1 s2 t1 t2 = true := hr1
            have q2 : rSub s1 s2 t1 t2 = false := hr2
            have C1 := fun w => Add_c s1 s2 t1 t2 w
            simp only [v1, q1, selI, selB, erv, cond_true, cond_false, Bool.and_true, Bool.and_false, Bool.true_and, Bool.false_and] at C1
            have C2 := fun w => Sub_c s1 s2 t1 t2 w
            simp only [v2, q2, selI, selB, erv, cond_true, cond_false, Bool.and_true, Bool.and_false, Bool.true_and, Bool.false_and] at C2
            have v3 : vSub (s1 + t1) (s2 + t2) t1 t2 = true := by unfold vSub; rw [Bool.and_eq_true]; exact ⟨hr1, (Bool.and_eq_true _ _ ▸ hv : _ ∧ _).2⟩
            have q3 : rSub (s1 + t1) (s2 + t2) t1 t2 = true := hr3
            have C3 := fun w => Sub_c (s1 + t1) (s2 + t2) t1 t2 w
            simp only [v3, q3, selI, selB, erv, cond_true, cond_false, Bool.and_true, Bool.and_false, Bool.true_and, Bool.false_and] at C3
            clear v1 v2 q1 q2 v3 q3
            go_enter Try.func4, Try.ntmps4
            go_wp2_with fail
            refine Calls.mono (head_c _) ?_
            rintro e w1 ⟨rfl, hb⟩
            have ks0 : w1.cell? ⟨w.heap.size, 0, none⟩ = some (.int .i64 s1) := cell_later hb (by go_simp)
            have ks1 : w1.cell? ⟨w.heap.size, 1, none⟩ = some (.int .i64 s2) := cell_later hb (by go_simp)
            have kt0 : w1.cell? ⟨w.heap.size + 1, 0, none⟩ = some (.int .i64 t1) := cell_later hb (by go_simp)
            have kt1 : w1.cell? ⟨w.heap.size + 1, 1, none⟩ = some (.int .i64 t2) := cell_later hb (by go_simp)
            have zs : w.heap.size < w1.heap.size := World.block_lt_of_cell? _ _ ks0
            have zt : w.heap.size + 1 < w1.heap.size := World.block_lt_of_cell? _ _ kt0
            have hb0 : Below w.heap.size w w1 := (by repeat (first | exact Below.refl _ _ | assumption | refine bstep ?_ (by assumption) | refine Below.drew ?_ | refine balloc ?_ _ | refine Below.setCell ?_ (by first | omega | (simp <;> omega)) _))
            clear hb
            go_wp2_with fail
            refine Calls.mono (C1 _) ?_
            rintro e w2 ⟨rfl, hb⟩
            replace ks0 : w2.cell? ⟨w.heap.size, 0, none⟩ = some (.int .i64 s1) := cell_later hb (by first | (with_reducible exact ks0) | (with_reducible exact cell_al _ ks0) | (with_reducible exact cell_al _ (cell_al _ ks0)) | go_simp)
            replace ks1 : w2.cell? ⟨w.heap.size, 1, none⟩ = some (.int .i64 s2) := cell_later hb (by first | (with_reducible exact ks1) | (with_reducible exact cell_al _ ks1) | (with_reducible exact cell_al _ (cell_al _ ks1)) | go_simp)
            replace kt0 : w2.cell? ⟨w.heap.size + 1, 0, none⟩ = some (.int .i64 t1) := cell_later hb (by first | (with_reducible exact kt0) | (with_reducible exact cell_al _ kt0) | (with_reducible exact cell_al _ (cell_al _ kt0)) | go_simp)
            replace kt1 : w2.cell? ⟨w.heap.size + 1, 1, none⟩ = some (.int .i64 t2) := cell_later hb (by first | (with_reducible exact kt1) | (with_reducible exact cell_al _ kt1) | (with_reducible exact cell_al _ (cell_al _ kt1)) | go_simp)
            replace zs : w.heap.size < w2.heap.size := World.block_lt_of_cell? _ _ ks0
            replace zt : w.heap.size + 1 < w2.heap.size := World.block_lt_of_cell? _ _ kt0
            replace hb0 : Below w.heap.size w w2 := (by repeat (first | exact Below.refl _ _ | assumption | refine bstep ?_ (by assumption) | refine Below.drew ?_ | refine balloc ?_ _ | refine Below.setCell ?_ (by first | omega | (simp <;> omega)) _))
            clear hb
            go_wp2_with fail
            refine Calls.mono (C2 _) ?_
            rintro e w3 ⟨rfl, hb⟩
            replace ks0 : w3.cell? ⟨w.heap.size, 0, none⟩ = some (.int .i64 s1) := cell_later hb (by first | (with_reducible exact ks0) | (with_reducible exact cell_al _ ks0) | (with_reducible exact cell_al _ (cell_al _ ks0)) | go_simp)
            replace ks1 : w3.cell? ⟨w.heap.size, 1, none⟩ = some (.int .i64 s2) := cell_later hb (by first | (with_reducible exact ks1) | (with_reducible exact cell_al _ ks1) | (with_reducible exact cell_al _ (cell_al _ ks1)) | go_simp)
            replace kt0 : w3.cell? ⟨w.heap.size + 1, 0, none⟩ = some (.int .i64 t1) := cell_later hb (by first | (with_reducible exact kt0) | (with_reducible exact cell_al _ kt0) | (with_reducible exact cell_al _ (cell_al _ kt0)) | go_simp)
            replace kt1 : w3.cell? ⟨w.heap.size + 1, 1, none⟩ = some (.int .i64 t2) := cell_later hb (by first | (with_reducible exact kt1) | (with_reducible exact cell_al _ kt1) | (with_reducible exact cell_al _ (cell_al _ kt1)) | go_simp)
            have ka0 : w3.cell? ⟨w2.heap.size, 0, none⟩ = some (.int .i64 (s1 + t1)) := cell_later hb (by go_simp)
            have ka1 : w3.cell? ⟨w2.heap.size, 1, none⟩ = some (.int .i64 (s2 + t2)) := cell_later hb (by go_simp)
            replace zs : w.heap.size < w3.heap.size := World.block_lt_of_cell? _ _ ks0
            replace zt : w.heap.size + 1 < w3.heap.size := World.block_lt_of_cell? _ _ kt0
            have za : w2.heap.size < w3.heap.size := World.block_lt_of_cell? _ _ ka0
            replace hb0 : Below w.heap.size w w3 := (by repeat (first | exact Below.refl _ _ | assumption | refine bstep ?_ (by assumption) | refine Below.drew ?_ | refine balloc ?_ _ | refine Below.setCell ?_ (by first | omega | (simp <;> omega)) _))
            clear hb
            go_upto_region 4 with fail
            go_cut [14] (fun s14 wx => s14 = .bool false ∧ wx.cell? ⟨w.heap.size, 0, none⟩ = some (.int .i64 s1) ∧ wx.cell? ⟨w.heap.size, 1, none⟩ = some (.int .i64 s2) ∧ wx.cell? ⟨w.heap.size + 1, 0, none⟩ = some (.int .i64 t1) ∧ wx.cell? ⟨w.heap.size + 1, 1, none⟩ = some (.int .i64 t2) ∧ wx.cell? ⟨w2.heap.size, 0, none⟩ = some (.int .i64 (s1 + t1)) ∧ wx.cell? ⟨w2.heap.size, 1, none⟩ = some (.int .i64 (s2 + t2)) ∧ wx.cell? ⟨w3.heap.size, 0, none⟩ = some (.int .i64 0) ∧ wx.cell? ⟨w3.heap.size, 1, none⟩ = some (.int .i64 0) ∧ Below w.heap.size w wx)
            case first =>
              go_wp2_with fail
              all_goals
                go_meet
                refine ⟨?_, ?_, ?_, ?_, ?_, ?_, ?_, ?_, ?_, (by repeat (first | exact Below.refl _ _ | assumption | refine bstep ?_ (by assumption) | refine Below.drew ?_ | refine balloc ?_ _ | refine Below.setCell ?_ (by first | omega | (simp <;> omega)) _))⟩
                all_goals first | (with_reducible assumption) | (go_simp; done) | rfl | (refine congrArg Value.bool ?_; rw [Bool.eq_iff_iff]; simp <;> omega)
            case rest =>
              obtain ⟨rfl, ks0, ks1, kt0, kt1, ka0, ka1, kb0, kb1, hb0⟩ := hcut
              have zs : w.heap.size < wc.heap.size := World.block_lt_of_cell? _ _ ks0
              have zt : w.heap.size + 1 < wc.heap.size := World.block_lt_of_cell? _ _ kt0
              have za : w2.heap.size < wc.heap.size := World.block_lt_of_cell? _ _ ka0
              have zb : w3.heap.size < wc.heap.size := World.block_lt_of_cell? _ _ kb0
              go_wp2_with fail
              refine Calls.mono (C3 _) ?_
              rintro e w4 ⟨rfl, hb⟩
              replace ks0 : w4.cell? ⟨w.heap.size, 0, none⟩ = some (.int .i64 s1) := cell_later hb (by first | (with_reducible exact ks0) | (with_reducible exact cell_al _ ks0) | (with_reducible exact cell_al _ (cell_al _ ks0)) | go_simp)
              replace ks1 : w4.cell? ⟨w.heap.size, 1, none⟩ = some (.int .i64 s2) := cell_later hb (by first | (with_reducible exact ks1) | (with_reducible exact cell_al _ ks1) | (with_reducible exact cell_al _ (cell_al _ ks1)) | go_simp)
              replace kt0 : w4.cell? ⟨w.heap.size + 1, 0, none⟩ = some (.int .i64 t1) := cell_later hb (by first | (with_reducible exact kt0) | (with_reducible exact cell_al _ kt0) | (with_reducible exact cell_al _ (cell_al _ kt0)) | go_simp)
              replace kt1 : w4.cell? ⟨w.heap.size + 1, 1, none⟩ = some (.int .i64 t2) := cell_later hb (by first | (with_reducible exact kt1) | (with_reducible exact cell_al _ kt1) | (with_reducible exact cell_al _ (cell_al _ kt1)) | go_simp)
              replace ka0 : w4.cell? ⟨w2.heap.size, 0, none⟩ = some (.int .i64 (s1 + t1)) := cell_later hb (by first | (with_reducible exact ka0) | (with_reducible exact cell_al _ ka0) | (with_reducible exact cell_al _ (cell_al _ ka0)) | go_simp)
              replace ka1 : w4.cell? ⟨w2.heap.size, 1, none⟩ = some (.int .i64 (s2 + t2)) := cell_later hb (by first | (with_reducible exact ka1) | (with_reducible exact cell_al _ ka1) | (with_reducible exact cell_al _ (cell_al _ ka1)) | go_simp)
              replace kb0 : w4.cell? ⟨w3.heap.size, 0, none⟩ = some (.int .i64 0) := cell_later hb (by first | (with_reducible exact kb0) | (with_reducible exact cell_al _ kb0) | (with_reducible exact cell_al _ (cell_al _ kb0)) | go_simp)
              replace kb1 : w4.cell? ⟨w3.heap.size, 1, none⟩ = some (.int .i64 0) := cell_later hb (by first | (with_reducible exact kb1) | (with_reducible exact cell_al _ kb1) | (with_reducible exact cell_al _ (cell_al _ kb1)) | go_simp)
              replace zs : w.heap.size < w4.heap.size := World.block_lt_of_cell? _ _ ks0
              replace zt : w.heap.size + 1 < w4.heap.size := World.block_lt_of_cell? _ _ kt0
              replace za : w2.heap.size < w4.heap.size := World.block_lt_of_cell? _ _ ka0
              replace zb : w3.heap.size < w4.heap.size := World.block_lt_of_cell? _ _ kb0
              replace hb0 : Below w.heap.size w w4 := (by repeat (first | exact Below.refl _ _ | assumption | refine bstep ?_ (by assumption) | refine Below.drew ?_ | refine balloc ?_ _ | refine Below.setCell ?_ (by first | omega | (simp <;> omega)) _))
              clear hb
              have m5 : s1 + t1 - t2 ≤ s1 := by omega
              have m6 : s2 ≤ s2 + t2 - t1 := by omega
              go_wp2
              all_goals first | (exfalso; omega) | (go_ret; refine ret_bool ?_ (by repeat (first | exact Below.refl _ _ | assumption | refine bstep ?_ (by assumption) | refine Below.drew ?_ | refine balloc ?_ _ | refine Below.setCell ?_ (by first | omega | (simp <;> omega)) _)); first | (simp; done) | (simp <;> omega))
          ·
            have q1 : rAdd s1 s2 t1 t2 = true := hr1
            have q2 : rSub s1 s2 t1 t2 = false := hr2
            have C1 := fun w => Add_c s1 s2 t1 t2 w
            simp only [v1, q1, selI, selB, erv, cond_true, cond_false, Bool.and_true, Bool.and_false, Bool.true_and, Bool.false_and] at C1
            have C2 := fun w => Sub_c s1 s2 t1 t2 w
            simp only [v2, q2, selI, selB, erv, cond_true, cond_false, Bool.and_true, Bool.and_false, Bool.true_and, Bool.false_and] at C2
            have v3 : vSub (s1 + t1) (s2 + t2) t1 t2 = true := by unfold vSub; rw [Bool.and_eq_true]; exact ⟨hr1, (Bool.and_eq_true _ _ ▸ hv : _ ∧ _).2⟩
            have q3 : rSub (s1 + t1) (s2 + t2) t1 t2 = false := hr3
            have C3 := fun w => Sub_c (s1 + t1) (s2 + t2) t1 t2 w
            simp only [v3, q3, selI, selB, erv, cond_true, cond_false, Bool.and_true, Bool.and_false, Bool.true_and, Bool.false_and] at C3
            clear v1 v2 q1 q2 v3 q3
            go_enter Try.func4, Try.ntmps4
            go_wp2_with fail
            refine Calls.mono (head_c _) ?_
            rintro e w1 ⟨rfl, hb⟩
            have ks0 : w1.cell? ⟨w.heap.size, 0, none⟩ = some (.int .i64 s1) := cell_later hb (by go_simp)
            have ks1 : w1.cell? ⟨w.heap.size, 1, none⟩ = some (.int .i64 s2) := cell_later hb (by go_simp)
            have kt0 : w1.cell? ⟨w.heap.size + 1, 0, none⟩ = some (.int .i64 t1) := cell_later hb (by go_simp)
            have kt1 : w1.cell? ⟨w.heap.size + 1, 1, none⟩ = some (.int .i64 t2) := cell_later hb (by go_simp)
            have zs : w.heap.size < w1.heap.size := World.block_lt_of_cell? _ _ ks0
            have zt : w.heap.size + 1 < w1.heap.size := World.block_lt_of_cell? _ _ kt0
            have hb0 : Below w.heap.size w w1 := (by repeat (first | exact Below.refl _ _ | assumption | refine bstep ?_ (by assumption) | refine Below.drew ?_ | refine balloc ?_ _ | refine Below.setCell ?_ (by first | omega | (simp <;> omega)) _))
            clear hb
            go_wp2_with fail
            refine Calls.mono (C1 _) ?_
            rintro e w2 ⟨rfl, hb⟩
            replace ks0 : w2.cell? ⟨w.heap.size, 0, none⟩ = some (.int .i64 s1) := cell_later hb (by first | (with_reducible exact ks0) | (with_reducible exact cell_al _ ks0) | (with_reducible exact cell_al _ (cell_al _ ks0)) | go_simp)
            replace ks1 : w2.cell? ⟨w.heap.size, 1, none⟩ = some (.int .i64 s2) := cell_later hb (by first | (with_reducible exact ks1) | (with_reducible exact cell_al _ ks1) | (with_reducible exact cell_al _ (cell_al _ ks1)) | go_simp)
            replace kt0 : w2.cell? ⟨w.heap.size + 1, 0, none⟩ = some (.int .i64 t1) := cell_later hb (by first | (with_reducible exact kt0) | (with_reducible exact cell_al _ kt0) | (with_reducible exact cell_al _ (cell_al _ kt0)) | go_simp)
            replace kt1 : w2.cell? ⟨w.heap.size + 1, 1, none⟩ = some (.int .i64 t2) := cell_later hb (by first | (with_reducible exact kt1) | (with_reducible exact cell_al _ kt1) | (with_reducible exact cell_al _ (cell_al _ kt1)) | go_simp)
            replace zs : w.heap.size < w2.heap.size := World.block_lt_of_cell? _ _ ks0
            replace zt : w.heap.size + 1 < w2.heap.size := World.block_lt_of_cell? _ _ kt0
            replace hb0 : Below w.heap.size w w2 := (by repeat (first | exact Below.refl _ _ | assumption | refine bstep ?_ (by assumption) | refine Below.drew ?_ | refine balloc ?_ _ | refine Below.setCell ?_ (by first | omega | (simp <;> omega)) _))
            clear hb
            go_wp2_with fail
            refine Calls.mono (C2 _) ?_
            rintro e w3 ⟨rfl, hb⟩
            replace ks0 : w3.cell? ⟨w.heap.size, 0, none⟩ = some (.int .i64 s1) := cell_later hb (by first | (with_reducible exact ks0) | (with_reducible exact cell_al _ ks0) | (with_reducible exact cell_al _ (cell_al _ ks0)) | go_simp)
            replace ks1 : w3.cell? ⟨w.heap.size, 1, none⟩ = some (.int .i64 s2) := cell_later hb (by first | (with_reducible exact ks1) | (with_reducible exact cell_al _ ks1) | (with_reducible exact cell_al _ (cell_al _ ks1)) | go_simp)
            replace kt0 : w3.cell? ⟨w.heap.size + 1, 0, none⟩ = some (.int .i64 t1) := cell_later hb (by first | (with_reducible exact kt0) | (with_reducible exact cell_al _ kt0) | (with_reducible exact cell_al _ (cell_al _ kt0)) | go_simp)
            replace kt1 : w3.cell? ⟨w.heap.size + 1, 1, none⟩ = some (.int .i64 t2) := cell_later hb (by first | (with_reducible exact kt1) | (with_reducible exact cell_al _ kt1) | (with_reducible exact cell_al _ (cell_al _ kt1)) | go_simp)
            have ka0 : w3.cell? ⟨w2.heap.size, 0, none⟩ = some (.int .i64 (s1 + t1)) := cell_later hb (by go_simp)
            have ka1 : w3.cell? ⟨w2.heap.size, 1, none⟩ = some (.int .i64 (s2 + t2)) := cell_later hb (by go_simp)
            replace zs : w.heap.size < w3.heap.size := World.block_lt_of_cell? _ _ ks0
            replace zt : w.heap.size + 1 < w3.heap.size := World.block_lt_of_cell? _ _ kt0
            have za : w2.heap.size < w3.heap.size := World.block_lt_of_cell? _ _ ka0
            replace hb0 : Below w.heap.size w w3 := (by repeat (first | exact Below.refl _ _ | assumption | refine bstep ?_ (by assumption) | refine Below.drew ?_ | refine balloc ?_ _ | refine Below.setCell ?_ (by first | omega | (simp <;> omega)) _))
            clear hb
            go_upto_region 4 with fail
            go_cut [14] (fun s14 wx => s14 = .bool false ∧ wx.cell? ⟨w.heap.size, 0, none⟩ = some (.int .i64 s1) ∧ wx.cell? ⟨w.heap.size, 1, none⟩ = some (.int .i64 s2) ∧ wx.cell? ⟨w.heap.size + 1, 0, none⟩ = some (.int .i64 t1) ∧ wx.cell? ⟨w.heap.size + 1, 1, none⟩ = some (.int .i64 t2) ∧ wx.cell? ⟨w2.heap.size, 0, none⟩ = some (.int .i64 (s1 + t1)) ∧ wx.cell? ⟨w2.heap.size, 1, none⟩ = some (.int .i64 (s2 + t2)) ∧ wx.cell? ⟨w3.heap.size, 0, none⟩ = some (.int .i64 0) ∧ wx.cell? ⟨w3.heap.size, 1, none⟩ = some (.int .i64 0) ∧ Below w.heap.size w wx)
            case first =>
              go_wp2_with fail
              all_goals
                go_meet
                refine ⟨?_, ?_, ?_, ?_, ?_, ?_, ?_, ?_, ?_, (by repeat (first | exact Below.refl _ _ | assumption | refine bstep ?_ (by assumption) | refine Below.drew ?_ | refine balloc ?_ _ | refine Below.setCell ?_ (by first | omega | (simp <;> omega)) _))⟩
                all_goals first | (with_reducible assumption) | (go_simp; done) | rfl | (refine congrArg Value.bool ?_; rw [Bool.eq_iff_iff]; simp <;> omega)
            case rest =>
              obtain ⟨rfl, ks0, ks1, kt0, kt1, ka0, ka1, kb0, kb1, hb0⟩ := hcut
              have zs : w.heap.size < wc.heap.size := World.block_lt_of_cell? _ _ ks0
              have zt : w.heap.size + 1 < wc.heap.size := World.block_lt_of_cell? _ _ kt0
              have za : w2.heap.size < wc.heap.size := World.block_lt_of_cell? _ _ ka0
              have zb : w3.heap.size < wc.heap.size := World.block_lt_of_cell? _ _ kb0
              go_wp2_with fail
              refine Calls.mono (C3 _) ?_
              rintro e w4 ⟨rfl, hb⟩
              replace ks0 : w4.cell? ⟨w.heap.size, 0, none⟩ = some (.int .i64 s1) := cell_later hb (by first | (with_reducible exact ks0) | (with_reducible exact cell_al _ ks0) | (with_reducible exact cell_al _ (cell_al _ ks0)) | go_simp)
              replace ks1 : w4.cell? ⟨w.heap.size, 1, none⟩ = some (.int .i64 s2) := cell_later hb (by first | (with_reducible exact ks1) | (with_reducible exact cell_al _ ks1) | (with_reducible exact cell_al _ (cell_al _ ks1)) | go_simp)
              replace kt0 : w4.cell? ⟨w.heap.size + 1, 0, none⟩ = some (.int .i64 t1) := cell_later hb (by first | (with_reducible exact kt0) | (with_reducible exact cell_al _ kt0) | (with_reducible exact cell_al _ (cell_al _ kt0)) | go_simp)
              replace kt1 : w4.cell? ⟨w.heap.size + 1, 1, none⟩ = some (.int .i64 t2) := cell_later hb (by first | (with_reducible exact kt1) | (with_reducible exact cell_al _ kt1) | (with_reducible exact cell_al _ (cell_al _ kt1)) | go_simp)
              replace ka0 : w4.cell? ⟨w2.heap.size, 0, none⟩ = some (.int .i64 (s1 + t1)) := cell_later hb (by first | (with_reducible exact ka0) | (with_reducible exact cell_al _ ka0) | (with_reducible exact cell_al _ (cell_al _ ka0)) | go_simp)
              replace ka1 : w4.cell? ⟨w2.heap.size, 1, none⟩ = some (.int .i64 (s2 + t2)) := cell_later hb (by first | (with_reducible exact ka1) | (with_reducible exact cell_al _ ka1) | (with_reducible exact cell_al _ (cell_al _ ka1)) | go_simp)
              replace kb0 : w4.cell? ⟨w3.heap.size, 0, none⟩ = some (.int .i64 0) := cell_later hb (by first | (with_reducible exact kb0) | (with_reducible exact cell_al _ kb0) | (with_reducible exact cell_al _ (cell_al _ kb0)) | go_simp)
              replace kb1 : w4.cell? ⟨w3.heap.size, 1, none⟩ = some (.int .i64 0) := cell_later hb (by first | (with_reducible exact kb1) | (with_reducible exact cell_al _ kb1) | (with_reducible exact cell_al _ (cell_al _ kb1)) | go_simp)
              replace zs : w.heap.size < w4.heap.size := World.block_lt_of_cell? _ _ ks0
              replace zt : w.heap.size + 1 < w4.heap.size := World.block_lt_of_cell? _ _ kt0
              replace za : w2.heap.size < w4.heap.size := World.block_lt_of_cell? _ _ ka0
              replace zb : w3.heap.size < w4.heap.size := World.block_lt_of_cell? _ _ kb0
              replace hb0 : Below w.heap.size w w4 := (by repeat (first | exact Below.refl _ _ | assumption | refine bstep ?_ (by assumption) | refine Below.drew ?_ | refine balloc ?_ _ | refine Below.setCell ?_ (by first | omega | (simp <;> omega)) _))
              clear hb
              go_wp2
              all_goals first | (exfalso; omega) | (go_ret; refine ret_bool ?_ (by repeat (first | exact Below.refl _ _ | assumption | refine bstep ?_ (by assumption) | refine Below.drew ?_ | refine balloc ?_ _ | refine Below.setCell ?_ (by first | omega | (simp <;> omega)) _)); first | (simp; done) | (simp <;> omega))
      ·
        rcases Bool.eq_false_or_eq_true (vE 1000000000000 (s1 - t2) (s2 - t1)) with hr2 | hr2
        ·
          have q1 : rAdd s1 s2 t1 t2 = false := hr1
          have q2 : rSub s1 s2 t1 t2 = true := hr2
          have C1 := fun w => Add_c s1 s2 t1 t2 w
          simp only [v1, q1, selI, selB, erv, cond_true, cond_false, Bool.and_true, Bool.and_false, Bool.true_and, Bool.false_and] at C1
          have C2 := fun w => Sub_c s1 s2 t1 t2 w
          simp only [v2, q2, selI, selB, erv, cond_true, cond_false, Bool.and_true, Bool.and_false, Bool.true_and, Bool.false_and] at C2
          clear v1 v2 q1 q2
          go_enter Try.func4, Try.ntmps4
          go_wp2_with fail
          refine Calls.mono (head_c _) ?_
          rintro e w1 ⟨rfl, hb⟩
          have ks0 : w1.cell? ⟨w.heap.size, 0, none⟩ = some (.int .i64 s1) := cell_later hb (by go_simp)
          have ks1 : w1.cell? ⟨w.heap.size, 1, none⟩ = some (.int .i64 s2) := cell_later hb (by go_simp)
          have kt0 : w1.cell? ⟨w.heap.size + 1, 0, none⟩ = some (.int .i64 t1) := cell_later hb (by go_simp)
          have kt1 : w1.cell? ⟨w.heap.size + 1, 1, none⟩ = some (.int .i64 t2) := cell_later hb (by go_simp)
          have zs : w.heap.size < w1.heap.size := World.block_lt_of_cell? _ _ ks0
          have zt : w.heap.size + 1 < w1.heap.size := World.block_lt_of_cell? _ _ kt0
          have hb0 : Below w.heap.size w w1 := (by repeat (first | exact Below.refl _ _ | assumption | refine bstep ?_ (by assumption) | refine Below.drew ?_ | refine balloc ?_ _ | refine Below.setCell ?_ (by first | omega | (simp <;> omega)) _))
          clear hb
          go_wp2_with fail
          refine Calls.mono (C1 _) ?_
          rintro e w2 ⟨rfl, hb⟩
          replace ks0 : w2.cell? ⟨w.heap.size, 0, none⟩ = some (.int .i64 s1) := cell_later hb (by first | (with_reducible exact ks0) | (with_reducible exact cell_al _ ks0) | (with_reducible exact cell_al _ (cell_al _ ks0)) | go_simp)
          replace ks1 : w2.cell? ⟨w.heap.size, 1, none⟩ = some (.int .i64 s2) := cell_later hb (by first | (with_reducible exact ks1) | (with_reducible exact cell_al _ ks1) | (with_reducible exact cell_al _ (cell_al _ ks1)) | go_simp)
          replace kt0 : w2.cell? ⟨w.heap.size + 1, 0, none⟩ = some (.int .i64 t1) := cell_later hb (by first | (with_reducible exact kt0) | (with_reducible exact cell_al _ kt0) | (with_reducible exact cell_al _ (cell_al _ kt0)) | go_simp)
          replace kt1 : w2.cell? ⟨w.heap.size + 1, 1, none⟩ = some (.int .i64 t2) := cell_later hb (by first | (with_reducible exact kt1) | (with_reducible exact cell_al _ kt1) | (with_reducible exact cell_al _ (cell_al _ kt1)) | go_simp)
          replace zs : w.heap.size < w2.heap.size := World.block_lt_of_cell? _ _ ks0
          replace zt : w.heap.size + 1 < w2.heap.size := World.block_lt_of_cell? _ _ kt0
          replace hb0 : Below w.heap.size w w2 := (by repeat (first | exact Below.refl _ _ | assumption | refine bstep ?_ (by assumption) | refine Below.drew ?_ | refine balloc ?_ _ | refine Below.setCell ?_ (by first | omega | (simp <;> omega)) _))
          clear hb
          go_wp2_with fail
          refine Calls.mono (C2 _) ?_
          rintro e w3 ⟨rfl, hb⟩
          replace ks0 : w3.cell? ⟨w.heap.size, 0, none⟩ = some (.int .i64 s1) := cell_later hb (by first | (with_reducible exact ks0) | (with_reducible exact cell_al _ ks0) | (with_reducible exact cell_al _ (cell_al _ ks0)) | go_simp)
          replace ks1 : w3.cell? ⟨w.heap.size, 1, none⟩ = some (.int .i64 s2) := cell_later hb (by first | (with_reducible exact ks1) | (with_reducible exact cell_al _ ks1) | (with_reducible exact cell_al _ (cell_al _ ks1)) | go_simp)
          replace kt0 : w3.cell? ⟨w.heap.size + 1, 0, none⟩ = some (.int .i64 t1) := cell_later hb (by first | (with_reducible exact kt0) | (with_reducible exact cell_al _ kt0) | (with_reducible exact cell_al _ (cell_al _ kt0)) | go_simp)
          replace kt1 : w3.cell? ⟨w.heap.size + 1, 1, none⟩ = some (.int .i64 t2) := cell_later hb (by first | (with_reducible exact kt1) | (with_reducible exact cell_al _ kt1) | (with_reducible exact cell_al _ (cell_al _ kt1)) | go_simp)
          have ka0 : w3.cell? ⟨w2.heap.size, 0, none⟩ = some (.int .i64 0) := cell_later hb (by go_simp)
          have ka1 : w3.cell? ⟨w2.heap.size, 1, none⟩ = some (.int .i64 0) := cell_later hb (by go_simp)
          replace zs : w.heap.size < w3.heap.size := World.block_lt_of_cell? _ _ ks0
          replace zt : w.heap.size + 1 < w3.heap.size := World.block_lt_of_cell? _ _ kt0
          have za : w2.heap.size < w3.heap.size := World.block_lt_of_cell? _ _ ka0
          replace hb0 : Below w.heap.size w w3 := (by repeat (first | exact Below.refl _ _ | assumption | refine bstep ?_ (by assumption) | refine Below.drew ?_ | refine balloc ?_ _ | refine Below.setCell ?_ (by first | omega | (simp <;> omega)) _))
          clear hb
          go_upto_region 4 with fail
          go_cut [14] (fun s14 wx => s14 = .bool false ∧ wx.cell? ⟨w.heap.size, 0, none⟩ = some (.int .i64 s1) ∧ wx.cell? ⟨w.heap.size, 1, none⟩ = some (.int .i64 s2) ∧ wx.cell? ⟨w.heap.size + 1, 0, none⟩ = some (.int .i64 t1) ∧ wx.cell? ⟨w.heap.size + 1, 1, none⟩ = some (.int .i64 t2) ∧ wx.cell? ⟨w2.heap.size, 0, none⟩ = some (.int .i64 0) ∧ wx.cell? ⟨w2.heap.size, 1, none⟩ = some (.int .i64 0) ∧ wx.cell? ⟨w3.heap.size, 0, none⟩ = some (.int .i64 (s1 - t2)) ∧ wx.cell? ⟨w3.heap.size, 1, none⟩ = some (.int .i64 (s2 - t1)) ∧ Below w.heap.size w wx)
          case first =>
            go_wp2_with fail
            all_goals
              go_meet
              refine ⟨?_, ?_, ?_, ?_, ?_, ?_, ?_, ?_, ?_, (by repeat (first | exact Below.refl _ _ | assumption | refine bstep ?_ (by assumption) | refine Below.drew ?_ | refine balloc ?_ _ | refine Below.setCell ?_ (by first | omega | (simp <;> omega)) _))⟩
              all_goals first | (with_reducible assumption) | (go_simp; done) | rfl | (refine congrArg Value.bool ?_; rw [Bool.eq_iff_iff]; simp <;> omega)
          case rest =>
            obtain ⟨rfl, ks0, ks1, kt0, kt1, ka0, ka1, kb0, kb1, hb0⟩ := hcut
            have zs : w.heap.size < wc.heap.size := World.block_lt_of_cell? _ _ ks0
            have zt : w.heap.size + 1 < wc.heap.size := World.block_lt_of_cell? _ _ kt0
            have za : w2.heap.size < wc.heap.size := World.block_lt_of_cell? _ _ ka0
            have zb : w3.heap.size < wc.heap.size := World.block_lt_of_cell? _ _ kb0
            go_wp2
            all_goals first | (exfalso; omega) | (go_ret; refine ret_bool ?_ (by repeat (first | exact Below.refl _ _ | assumption | refine bstep ?_ (by assumption) | refine Below.drew ?_ | refine balloc ?_ _ | refine Below.setCell ?_ (by first | omega | (simp <;> omega)) _)); first | (simp; done) | (simp <;> omega))
        ·
          have q1 : rAdd s1 s2 t1 t2 = false := hr1
          have q2 : rSub s1 s2 t1 t2 = false := hr2
          have C1 := fun w => Add_c s1 s2 t1 t2 w
          simp only [v1, q1, selI, selB, erv, cond_true, cond_false, Bool.and_true, Bool.and_false, Bool.true_and, Bool.false_and] at C1
          have C2 := fun w => Sub_c s1 s2 t1 t2 w
          simp only [v2, q2, selI, selB, erv, cond_true, cond_false, Bool.and_true, Bool.and_false, Bool.true_and, Bool.false_and] at C2
          clear v1 v2 q1 q2
          go_enter Try.func4, Try.ntmps4
          go_wp2_with fail
          refine Calls.mono (head_c _) ?_
          rintro e w1 ⟨rfl, hb⟩
          have ks0 : w1.cell? ⟨w.heap.size, 0, none⟩ = some (.int .i64 s1) := cell_later hb (by go_simp)
          have ks1 : w1.cell? ⟨w.heap.size, 1, none⟩ = some (.int .i64 s2) := cell_later hb (by go_simp)
          have kt0 : w1.cell? ⟨w.heap.size + 1, 0, none⟩ = some (.int .i64 t1) := cell_later hb (by go_simp)
          have kt1 : w1.cell? ⟨w.heap.size + 1, 1, none⟩ = some (.int .i64 t2) := cell_later hb (by go_simp)
          have zs : w.heap.size < w1.heap.size := World.block_lt_of_cell? _ _ ks0
          have zt : w.heap.size + 1 < w1.heap.size := World.block_lt_of_cell? _ _ kt0
          have hb0 : Below w.heap.size w w1 := (by repeat (first | exact Below.refl _ _ | assumption | refine bstep ?_ (by assumption) | refine Below.drew ?_ | refine balloc ?_ _ | refine Below.setCell ?_ (by first | omega | (simp <;> omega)) _))
          clear hb
          go_wp2_with fail
          refine Calls.mono (C1 _) ?_
          rintro e w2 ⟨rfl, hb⟩
          replace ks0 : w2.cell? ⟨w.heap.size, 0, none⟩ = some (.int .i64 s1) := cell_later hb (by first | (with_reducible exact ks0) | (with_reducible exact cell_al _ ks0) | (with_reducible exact cell_al _ (cell_al _ ks0)) | go_simp)
          replace ks1 : w2.cell? ⟨w.heap.size, 1, none⟩ = some (.int .i64 s2) := cell_later hb (by first | (with_reducible exact ks1) | (with_reducible exact cell_al _ ks1) | (with_reducible exact cell_al _ (cell_al _ ks1)) | go_simp)
          replace kt0 : w2.cell? ⟨w.heap.size + 1, 0, none⟩ = some (.int .i64 t1) := cell_later hb (by first | (with_reducible exact kt0) | (with_reducible exact cell_al _ kt0) | (with_reducible exact cell_al _ (cell_al _ kt0)) | go_simp)
          replace kt1 : w2.cell? ⟨w.heap.size + 1, 1, none⟩ = some (.int .i64 t2) := cell_later hb (by first | (with_reducible exact kt1) | (with_reducible exact cell_al _ kt1) | (with_reducible exact cell_al _ (cell_al _ kt1)) | go_simp)
          replace zs : w.heap.size < w2.heap.size := World.block_lt_of_cell? _ _ ks0
          replace zt : w.heap.size + 1 < w2.heap.size := World.block_lt_of_cell? _ _ kt0
          replace hb0 : Below w.heap.size w w2 := (by repeat (first | exact Below.refl _ _ | assumption | refine bstep ?_ (by assumption) | refine Below.drew ?_ | refine balloc ?_ _ | refine Below.setCell ?_ (by first | omega | (simp <;> omega)) _))
          clear hb
          go_wp2_with fail
          refine Calls.mono (C2 _) ?_
          rintro e w3 ⟨rfl, hb⟩
          replace ks0 : w3.cell? ⟨w.heap.size, 0, none⟩ = some (.int .i64 s1) := cell_later hb (by first | (with_reducible exact ks0) | (with_reducible exact cell_al _ ks0) | (with_reducible exact cell_al _ (cell_al _ ks0)) | go_simp)
          replace ks1 : w3.cell? ⟨w.heap.size, 1, none⟩ = some (.int .i64 s2) := cell_later hb (by first | (with_reducible exact ks1) | (with_reducible exact cell_al _ ks1) | (with_reducible exact cell_al _ (cell_al _ ks1)) | go_simp)
          replace kt0 : w3.cell? ⟨w.heap.size + 1, 0, none⟩ = some (.int .i64 t1) := cell_later hb (by first | (with_reducible exact kt0) | (with_reducible exact cell_al _ kt0) | (with_reducible exact cell_al _ (cell_al _ kt0)) | go_simp)
          replace kt1 : w3.cell? ⟨w.heap.size + 1, 1, none⟩ = some (.int .i64 t2) := cell_later hb (by first | (with_reducible exact kt1) | (with_reducible exact cell_al _ kt1) | (with_reducible exact cell_al _ (cell_al _ kt1)) | go_simp)
          have ka0 : w3.cell? ⟨w2.heap.size, 0, none⟩ = some (.int .i64 0) := cell_later hb (by go_simp)
          have ka1 : w3.cell? ⟨w2.heap.size, 1, none⟩ = some (.int .i64 0) := cell_later hb (by go_simp)
          replace zs : w.heap.size < w3.heap.size := World.block_lt_of_cell? _ _ ks0
          replace zt : w.heap.size + 1 < w3.heap.size := World.block_lt_of_cell? _ _ kt0
          have za : w2.heap.size < w3.heap.size := World.block_lt_of_cell? _ _ ka0
          replace hb0 : Below w.heap.size w w3 := (by repeat (first | exact Below.refl _ _ | assumption | refine bstep ?_ (by assumption) | refine Below.drew ?_ | refine balloc ?_ _ | refine Below.setCell ?_ (by first | omega | (simp <;> omega)) _))
          clear hb
          go_upto_region 4 with fail
          go_cut [14] (fun s14 wx => s14 = .bool false ∧ wx.cell? ⟨w.heap.size, 0, none⟩ = some (.int .i64 s1) ∧ wx.cell? ⟨w.heap.size, 1, none⟩ = some (.int .i64 s2) ∧ wx.cell? ⟨w.heap.size + 1, 0, none⟩ = some (.int .i64 t1) ∧ wx.cell? ⟨w.heap.size + 1, 1, none⟩ = some (.int .i64 t2) ∧ wx.cell? ⟨w2.heap.size, 0, none⟩ = some (.int .i64 0) ∧ wx.cell? ⟨w2.heap.size, 1, none⟩ = some (.int .i64 0) ∧ wx.cell? ⟨w3.heap.size, 0, none⟩ = some (.int .i64 0) ∧ wx.cell? ⟨w3.heap.size, 1, none⟩ = some (.int .i64 0) ∧ Below w.heap.size w wx)
          case first =>
            go_wp2_with fail
            all_goals
              go_meet
              refine ⟨?_, ?_, ?_, ?_, ?_, ?_, ?_, ?_, ?_, (by repeat (first | exact Below.refl _ _ | assumption | refine bstep ?_ (by assumption) | refine Below.drew ?_ | refine balloc ?_ _ | refine Below.setCell ?_ (by first | omega | (simp <;> omega)) _))⟩
              all_goals first | (with_reducible assumption) | (go_simp; done) | rfl | (refine congrArg Value.bool ?_; rw [Bool.eq_iff_iff]; simp <;> omega)
          case rest =>
            obtain ⟨rfl, ks0, ks1, kt0, kt1, ka0, ka1, kb0, kb1, hb0⟩ := hcut
            have zs : w.heap.size < wc.heap.size := World.block_lt_of_cell? _ _ ks0
            have zt : w.heap.size + 1 < wc.heap.size := World.block_lt_of_cell? _ _ kt0
            have za : w2.heap.size < wc.heap.size := World.block_lt_of_cell? _ _ ka0
            have zb : w3.heap.size < wc.heap.size := World.block_lt_of_cell? _ _ kb0
            go_wp2
            all_goals first | (exfalso; omega) | (go_ret; refine ret_bool ?_ (by repeat (first | exact Below.refl _ _ | assumption | refine bstep ?_ (by assumption) | refine Below.drew ?_ | refine balloc ?_ _ | refine Below.setCell ?_ (by first | omega | (simp <;> omega)) _)); first | (simp; done) | (simp <;> omega))
  ·
    have v1 : vAdd s1 s2 t1 t2 = false := hv
    have v2 : vSub s1 s2 t1 t2 = false := hv
    have C1 := fun w => Add_c s1 s2 t1 t2 w
    simp only [v1, selI, selB, erv, cond_true, cond_false, Bool.and_true, Bool.and_false, Bool.true_and, Bool.false_and] at C1
    have C2 := fun w => Sub_c s1 s2 t1 t2 w
    simp only [v2, selI, selB, erv, cond_true, cond_false, Bool.and_true, Bool.and_false, Bool.true_and, Bool.false_and] at C2
    clear v1 v2
    go_enter Try.func4, Try.ntmps4
    go_wp2_with fail
    refine Calls.mono (head_c _) ?_
    rintro e w1 ⟨rfl, hb⟩
    have ks0 : w1.cell? ⟨w.heap.size, 0, none⟩ = some (.int .i64 s1) := cell_later hb (by go_simp)
    have ks1 : w1.cell? ⟨w.heap.size, 1, none⟩ = some (.int .i64 s2) := cell_later hb (by go_simp)
    have kt0 : w1.cell? ⟨w.heap.size + 1, 0, none⟩ = some (.int .i64 t1) := cell_later hb (by go_simp)
    have kt1 : w1.cell? ⟨w.heap.size + 1, 1, none⟩ = some (.int .i64 t2) := cell_later hb (by go_simp)
    have zs : w.heap.size < w1.heap.size := World.block_lt_of_cell? _ _ ks0
    have zt : w.heap.size + 1 < w1.heap.size := World.block_lt_of_cell? _ _ kt0
    have hb0 : Below w.heap.size w w1 := (by repeat (first | exact Below.refl _ _ | assumption | refine bstep ?_ (by assumption) | refine Below.drew ?_ | refine balloc ?_ _ | refine Below.setCell ?_ (by first | omega | (simp <;> omega)) _))
    clear hb
    go_wp2_with fail
    refine Calls.mono (C1 _) ?_
    rintro e w2 ⟨rfl, hb⟩
    replace ks0 : w2.cell? ⟨w.heap.size, 0, none⟩ = some (.int .i64 s1) := cell_later hb (by first | (with_reducible exact ks0) | (with_reducible exact cell_al _ ks0) | (with_reducible exact cell_al _ (cell_al _ ks0)) | go_simp)
    replace ks1 : w2.cell? ⟨w.heap.size, 1, none⟩ = some (.int .i64 s2) := cell_later hb (by first | (with_reducible exact ks1) | (with_reducible exact cell_al _ ks1) | (with_reducible exact cell_al _ (cell_al _ ks1)) | go_simp)
    replace kt0 : w2.cell? ⟨w.heap.size + 1, 0, none⟩ = some (.int .i64 t1) := cell_later hb (by first | (with_reducible exact kt0) | (with_reducible exact cell_al _ kt0) | (with_reducible exact cell_al _ (cell_al _ kt0)) | go_simp)
    replace kt1 : w2.cell? ⟨w.heap.size + 1, 1, none⟩ = some (.int .i64 t2) := cell_later hb (by first | (with_reducible exact kt1) | (with_reducible exact cell_al _ kt1) | (with_reducible exact cell_al _ (cell_al _ kt1)) | go_simp)
    replace zs : w.heap.size < w2.heap.size := World.block_lt_of_cell? _ _ ks0
    replace zt : w.heap.size + 1 < w2.heap.size := World.block_lt_of_cell? _ _ kt0
    replace hb0 : Below w.heap.size w w2 := (by repeat (first | exact Below.refl _ _ | assumption | refine bstep ?_ (by assumption) | refine Below.drew ?_ | refine balloc ?_ _ | refine Below.setCell ?_ (by first | omega | (simp <;> omega)) _))
    clear hb
    go_wp2_with fail
    refine Calls.mono (C2 _) ?_
    rintro e w3 ⟨rfl, hb⟩
    replace ks0 : w3.cell? ⟨w.heap.size, 0, none⟩ = some (.int .i64 s1) := cell_later hb (by first | (with_reducible exact ks0) | (with_reducible exact cell_al _ ks0) | (with_reducible exact cell_al _ (cell_al _ ks0)) | go_simp)
    replace ks1 : w3.cell? ⟨w.heap.size, 1, none⟩ = some (.int .i64 s2) := cell_later hb (by first | (with_reducible exact ks1) | (with_reducible exact cell_al _ ks1) | (with_reducible exact cell_al _ (cell_al _ ks1)) | go_simp)
    replace kt0 : w3.cell? ⟨w.heap.size + 1, 0, none⟩ = some (.int .i64 t1) := cell_later hb (by first | (with_reducible exact kt0) | (with_reducible exact cell_al _ kt0) | (with_reducible exact cell_al _ (cell_al _ kt0)) | go_simp)
    replace kt1 : w3.cell? ⟨w.heap.size + 1, 1, none⟩ = some (.int .i64 t2) := cell_later hb (by first | (with_reducible exact kt1) | (with_reducible exact cell_al _ kt1) | (with_reducible exact cell_al _ (cell_al _ kt1)) | go_simp)
    have ka0 : w3.cell? ⟨w2.heap.size, 0, none⟩ = some (.int .i64 0) := cell_later hb (by go_simp)
    have ka1 : w3.cell? ⟨w2.heap.size, 1, none⟩ = some (.int .i64 0) := cell_later hb (by go_simp)
    replace zs : w.heap.size < w3.heap.size := World.block_lt_of_cell? _ _ ks0
    replace zt : w.heap.size + 1 < w3.heap.size := World.block_lt_of_cell? _ _ kt0
    have za : w2.heap.size < w3.heap.size := World.block_lt_of_cell? _ _ ka0
    replace hb0 : Below w.heap.size w w3 := (by repeat (first | exact Below.refl _ _ | assumption | refine bstep ?_ (by assumption) | refine Below.drew ?_ | refine balloc ?_ _ | refine Below.setCell ?_ (by first | omega | (simp <;> omega)) _))
    clear hb
    go_upto_region 4 with fail
    go_cut [14] (fun s14 wx => s14 = (.bool (decide (s1 ≤ x) && decide (x ≤ s2) && decide (t1 ≤ y) && decide (y ≤ t2))) ∧ wx.cell? ⟨w.heap.size, 0, none⟩ = some (.int .i64 s1) ∧ wx.cell? ⟨w.heap.size, 1, none⟩ = some (.int .i64 s2) ∧ wx.cell? ⟨w.heap.size + 1, 0, none⟩ = some (.int .i64 t1) ∧ wx.cell? ⟨w.heap.size + 1, 1, none⟩ = some (.int .i64 t2) ∧ wx.cell? ⟨w2.heap.size, 0, none⟩ = some (.int .i64 0) ∧ wx.cell? ⟨w2.heap.size, 1, none⟩ = some (.int .i64 0) ∧ wx.cell? ⟨w3.heap.size, 0, none⟩ = some (.int .i64 0) ∧ wx.cell? ⟨w3.heap.size, 1, none⟩ = some (.int .i64 0) ∧ Below w.heap.size w wx)
    case first =>
      go_wp2_with fail
      all_goals
        go_meet
        refine ⟨?_, ?_, ?_, ?_, ?_, ?_, ?_, ?_, ?_, (by repeat (first | exact Below.refl _ _ | assumption | refine bstep ?_ (by assumption) | refine Below.drew ?_ | refine balloc ?_ _ | refine Below.setCell ?_ (by first | omega | (simp <;> omega)) _))⟩
        all_goals first | (with_reducible assumption) | (go_simp; done) | rfl | (refine congrArg Value.bool ?_; rw [Bool.eq_iff_iff]; simp <;> omega)
    case rest =>
      obtain ⟨rfl, ks0, ks1, kt0, kt1, ka0, ka1, kb0, kb1, hb0⟩ := hcut
      have zs : w.heap.size < wc.heap.size := World.block_lt_of_cell? _ _ ks0
      have zt : w.heap.size + 1 < wc.heap.size := World.block_lt_of_cell? _ _ kt0
      have za : w2.heap.size < wc.heap.size := World.block_lt_of_cell? _ _ ka0
      have zb : w3.heap.size < wc.heap.size := World.block_lt_of_cell? _ _ kb0
      go_wp2
      all_goals first | (exfalso; omega) | (go_ret; refine ret_bool ?_ (by repeat (first | exact Below.refl _ _ | assumption | refine bstep ?_ (by assumption) | refine Below.drew ?_ | refine balloc ?_ _ | refine Below.setCell ?_ (by first | omega | (simp <;> omega)) _)); first | (simp; done) | (simp <;> omega))


end Go.Proofs.Ytendnhmobhicmaa
