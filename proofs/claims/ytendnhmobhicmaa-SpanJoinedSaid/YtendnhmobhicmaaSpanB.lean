/- SpanB: package span, boxes. -/
import Derived.Test.YtendnhmobhicmaaSpanA
import Derived.Test.YtendnhmobhicmaaSpanN
import Derived.Test.YtendnhmobhicmaaRows
import Derived.WalkKit
import Derived.WalkSpells
import Derived.WalkLawsBesides
import Derived.Lib.Hide
import Derived.Deep.QuietTactic
import Derived.BigQuiet
import Derived.RegionTactic
import Derived.ChangeAlike
import Derived.BigRegion
import Derived.Deep.RegionHeld3
import Derived.Deep.RegionWith
import Derived.Outline
namespace Go.Proofs.Ytendnhmobhicmaa
open Go.RowKit

set_option maxHeartbeats 400000 in
theorem meetBox_c (a1 a2 a3 a4 b1 b2 b3 b4 : Int) (w : World)  : Calls Try.prog 51 #[(.agg #[(.int .i64 a1), (.int .i64 a2), (.int .i64 a3), (.int .i64 a4)]), (.agg #[(.int .i64 b1), (.int .i64 b2), (.int .i64 b3), (.int .i64 b4)])] w (Ret w (.agg #[(.int .i64 (max a1 b1)), (.int .i64 (min a2 b2)), (.int .i64 (max a3 b3)), (.int .i64 (min a4 b4))])) := by
  go_enter Try.func51, Try.ntmps51
  go_wp2_with fail
  go_region_held3 (fun w' => w'.cell? ⟨w.heap.size, 0, none⟩ = some (.int .i64 a1) ∧ w'.cell? ⟨w.heap.size, 1, none⟩ = some (.int .i64 a2) ∧ w'.cell? ⟨w.heap.size, 2, none⟩ = some (.int .i64 a3) ∧ w'.cell? ⟨w.heap.size, 3, none⟩ = some (.int .i64 a4) ∧ w'.cell? ⟨w.heap.size + 1, 0, none⟩ = some (.int .i64 b1) ∧ w'.cell? ⟨w.heap.size + 1, 1, none⟩ = some (.int .i64 b2) ∧ w'.cell? ⟨w.heap.size + 1, 2, none⟩ = some (.int .i64 b3) ∧ w'.cell? ⟨w.heap.size + 1, 3, none⟩ = some (.int .i64 b4) ∧ w'.frozen? ⟨w.heap.size + 1 + 1, 0, none⟩ = false ∧ w'.frozen? ⟨w.heap.size + 1 + 1, 1, none⟩ = false ∧ w'.frozen? ⟨w.heap.size + 1 + 1, 2, none⟩ = false ∧ w'.frozen? ⟨w.heap.size + 1 + 1, 3, none⟩ = false) (first | (go_keep; done) | ((repeat' apply And.intro) <;> go_simp)) (first | (go_at_call 49; refine Calls.mono (meet_c _ _ _ _ _) ?_; rintro e w1 ⟨rfl, hb1⟩; obtain ⟨hc1, hf1⟩ := bcell hb1; have hsz := hb1.size; (try simp at hsz); have gs0 : w.heap.size < w1.heap.size := (by first | omega | (simp <;> omega)); have g0 := fun o => hc1 (w.heap.size) o (by first | omega | (simp <;> omega)); have gs1 : w.heap.size + 1 < w1.heap.size := (by first | omega | (simp <;> omega)); have g1 := fun o => hc1 (w.heap.size + 1) o (by first | omega | (simp <;> omega)); have gs2 : w.heap.size + 1 + 1 < w1.heap.size := (by first | omega | (simp <;> omega)); have g2 := fun o => hc1 (w.heap.size + 1 + 1) o (by first | omega | (simp <;> omega)); have j0 := fun o => hf1 (w.heap.size + 1 + 1) o (by first | omega | (simp <;> omega)); have m0 : w1.cell? ⟨w.heap.size + 1 + 1, 0, none⟩ = some (.int .i64 0) := (by rw [hc1 _ _ (by first | omega | (simp <;> omega))]; first | assumption | go_simp); have m1 : w1.cell? ⟨w.heap.size + 1 + 1, 1, none⟩ = some (.int .i64 0) := (by rw [hc1 _ _ (by first | omega | (simp <;> omega))]; first | assumption | go_simp); have m2 : w1.cell? ⟨w.heap.size + 1 + 1, 2, none⟩ = some (.int .i64 0) := (by rw [hc1 _ _ (by first | omega | (simp <;> omega))]; first | assumption | go_simp); have m3 : w1.cell? ⟨w.heap.size + 1 + 1, 3, none⟩ = some (.int .i64 0) := (by rw [hc1 _ _ (by first | omega | (simp <;> omega))]; first | assumption | go_simp); clear hc1 hf1 hsz))
  all_goals go_wp2
  all_goals
    refine bodyPost_ret ?_ rfl ⟨rfl, (by repeat (first | exact Below.refl _ _ | assumption | refine bstep ?_ (by assumption) | refine Below.drew ?_ | refine balloc ?_ _ | refine Below.setCell ?_ (by first | omega | (simp <;> omega)) _))⟩
    simp [results, Try.results51, go_sem, m0, m1, m2, m3]

set_option maxHeartbeats 400000 in
theorem Add_c (s1 s2 t1 t2 : Int) (w : World)  : Calls Try.prog 16 #[(.agg #[(.int .i64 s1), (.int .i64 s2)]), (.agg #[(.int .i64 t1), (.int .i64 t2)])] w (Ret w (.tuple #[.agg #[(.int .i64 (selI ((vAdd s1 s2 t1 t2) && (rAdd s1 s2 t1 t2)) (s1 + t1))), (.int .i64 (selI ((vAdd s1 s2 t1 t2) && (rAdd s1 s2 t1 t2)) (s2 + t2)))], (.int .i64 (erv (vAdd s1 s2 t1 t2) (rAdd s1 s2 t1 t2) 3))])) := by
  rcases Bool.eq_false_or_eq_true (vE 1000000000000 s1 s2) with h1 | h1 <;> rcases Bool.eq_false_or_eq_true (vE 1000000000000 t1 t2) with h2 | h2
  all_goals
    go_enter Try.func16, Try.ntmps16
    (first | (have b1 := vE_iff.1 h1; have b2 := vE_iff.1 h2) | skip)
    go_wp2_with fail
    refine Calls.mono (valid_c _ _ _) ?_
    rintro e w1 ⟨rfl, hbW⟩
    have hc := (bcell hbW).1
    have hf := (bcell hbW).2
    go_wp2_with (first | (go_at_call 12; refine Calls.mono (valid_c _ _ _) ?_; rintro e w1 ⟨rfl, hb1⟩; replace hbW := bstep hbW hb1; clear hc; have hc := (bcell hbW).1; clear hb1; clear hf; have hf := (bcell hbW).2) | (go_at_call 41; refine Calls.mono (inRange_c _ _ _) ?_; rintro e w1 ⟨rfl, hb1⟩; replace hbW := bstep hbW hb1; clear hc; have hc := (bcell hbW).1; clear hb1; clear hf; have hf := (bcell hbW).2))
    all_goals
      refine bodyPost_ret ?_ rfl ⟨rfl, (by repeat (first | exact Below.refl _ _ | assumption | refine bstep ?_ (by assumption) | refine Below.drew ?_ | refine balloc ?_ _ | refine Below.setCell ?_ (by first | omega | (simp <;> omega)) _))⟩
      simp [results, Try.results16, go_sem, hc, vAdd, rAdd, selI, erv, h1, h2]

set_option maxHeartbeats 400000 in
theorem Sub_c (s1 s2 t1 t2 : Int) (w : World)  : Calls Try.prog 18 #[(.agg #[(.int .i64 s1), (.int .i64 s2)]), (.agg #[(.int .i64 t1), (.int .i64 t2)])] w (Ret w (.tuple #[.agg #[(.int .i64 (selI ((vSub s1 s2 t1 t2) && (rSub s1 s2 t1 t2)) (s1 - t2))), (.int .i64 (selI ((vSub s1 s2 t1 t2) && (rSub s1 s2 t1 t2)) (s2 - t1)))], (.int .i64 (erv (vSub s1 s2 t1 t2) (rSub s1 s2 t1 t2) 3))])) := by
  rcases Bool.eq_false_or_eq_true (vE 1000000000000 s1 s2) with h1 | h1 <;> rcases Bool.eq_false_or_eq_true (vE 1000000000000 t1 t2) with h2 | h2
  all_goals
    go_enter Try.func18, Try.ntmps18
    (first | (have b1 := vE_iff.1 h1; have b2 := vE_iff.1 h2) | skip)
    go_wp2_with fail
    refine Calls.mono (valid_c _ _ _) ?_
    rintro e w1 ⟨rfl, hbW⟩
    have hc := (bcell hbW).1
    have hf := (bcell hbW).2
    go_wp2_with (first | (go_at_call 12; refine Calls.mono (valid_c _ _ _) ?_; rintro e w1 ⟨rfl, hb1⟩; replace hbW := bstep hbW hb1; clear hc; have hc := (bcell hbW).1; clear hb1; clear hf; have hf := (bcell hbW).2) | (go_at_call 41; refine Calls.mono (inRange_c _ _ _) ?_; rintro e w1 ⟨rfl, hb1⟩; replace hbW := bstep hbW hb1; clear hc; have hc := (bcell hbW).1; clear hb1; clear hf; have hf := (bcell hbW).2))
    all_goals
      refine bodyPost_ret ?_ rfl ⟨rfl, (by repeat (first | exact Below.refl _ _ | assumption | refine bstep ?_ (by assumption) | refine Below.drew ?_ | refine balloc ?_ _ | refine Below.setCell ?_ (by first | omega | (simp <;> omega)) _))⟩
      simp [results, Try.results18, go_sem, hc, vSub, rSub, selI, erv, h1, h2]

set_option maxHeartbeats 400000 in
theorem Join_c (s1 s2 t1 t2 : Int) (w : World)  : Calls Try.prog 24 #[(.agg #[(.int .i64 s1), (.int .i64 s2)]), (.agg #[(.int .i64 t1), (.int .i64 t2)])] w (Ret w (.tuple #[.agg #[(.int .i64 (selI (vJoin s1 s2 t1 t2) (min s1 t1))), (.int .i64 (selI (vJoin s1 s2 t1 t2) (max s2 t2)))], (.int .i64 (erv (vJoin s1 s2 t1 t2) true 4))])) := by
  rcases Bool.eq_false_or_eq_true (vE 1000000000000 s1 s2) with h1 | h1 <;> rcases Bool.eq_false_or_eq_true (vE 1000000000000 t1 t2) with h2 | h2
  all_goals
    go_enter Try.func24, Try.ntmps24
    go_wp2_with fail
    refine Calls.mono (valid_c _ _ _) ?_
    rintro e w1 ⟨rfl, hbW⟩
    have hc := (bcell hbW).1
    have hf := (bcell hbW).2
    go_wp2_with (first | (go_at_call 12; refine Calls.mono (valid_c _ _ _) ?_; rintro e w1 ⟨rfl, hb1⟩; replace hbW := bstep hbW hb1; clear hc; have hc := (bcell hbW).1; clear hb1; clear hf; have hf := (bcell hbW).2) | (go_at_call 50; refine Calls.mono (join_c _ _ _ _ _) ?_; rintro e w1 ⟨rfl, hb1⟩; replace hbW := bstep hbW hb1; clear hc; have hc := (bcell hbW).1; clear hb1; clear hf; have hf := (bcell hbW).2))
    all_goals
      refine bodyPost_ret ?_ rfl ⟨rfl, (by repeat (first | exact Below.refl _ _ | assumption | refine bstep ?_ (by assumption) | refine Below.drew ?_ | refine balloc ?_ _ | refine Below.setCell ?_ (by first | omega | (simp <;> omega)) _))⟩
      simp [results, Try.results24, go_sem, hc, vJoin, selI, erv, h1, h2]

set_option maxHeartbeats 400000 in
theorem Meet_c (s1 s2 t1 t2 : Int) (w : World)  : Calls Try.prog 22 #[(.agg #[(.int .i64 s1), (.int .i64 s2)]), (.agg #[(.int .i64 t1), (.int .i64 t2)])] w (Ret w (.tuple #[.agg #[(.int .i64 (selI ((vMeet s1 s2 t1 t2) && (rMeet s1 s2 t1 t2)) (max s1 t1))), (.int .i64 (selI ((vMeet s1 s2 t1 t2) && (rMeet s1 s2 t1 t2)) (min s2 t2)))], (.int .i64 (erv (vMeet s1 s2 t1 t2) (rMeet s1 s2 t1 t2) 4))])) := by
  rcases Bool.eq_false_or_eq_true (vE 1000000000000 s1 s2) with h1 | h1
  · rcases Bool.eq_false_or_eq_true (vE 1000000000000 t1 t2) with h2 | h2
    · have b1 := vE_iff.1 h1
      have b2 := vE_iff.1 h2
      have hv : vE 1000000000000 (max s1 t1) (min s2 t2) = rM s1 s2 t1 t2 := by rw [Bool.eq_iff_iff, vE_iff, rM_iff]; omega
      rcases Bool.eq_false_or_eq_true (rM s1 s2 t1 t2) with h3 | h3
      all_goals
        go_enter Try.func22, Try.ntmps22
        go_wp2_with fail
        refine Calls.mono (valid_c _ _ _) ?_
        rintro e w1 ⟨rfl, hb⟩
        have ks0 : w1.cell? ⟨w.heap.size, 0, none⟩ = some (.int .i64 s1) := cell_later hb (by go_simp)
        have ks1 : w1.cell? ⟨w.heap.size, 1, none⟩ = some (.int .i64 s2) := cell_later hb (by go_simp)
        have kt0 : w1.cell? ⟨w.heap.size + 1, 0, none⟩ = some (.int .i64 t1) := cell_later hb (by go_simp)
        have kt1 : w1.cell? ⟨w.heap.size + 1, 1, none⟩ = some (.int .i64 t2) := cell_later hb (by go_simp)
        have kr0 : w1.cell? ⟨w.heap.size + 1 + 1, 0, none⟩ = some (.int .i64 0) := cell_later hb (by go_simp)
        have jr0 : w1.frozen? ⟨w.heap.size + 1 + 1, 0, none⟩ = false := by rw [(bcell hb).2 _ _ (by first | omega | (simp <;> omega))]; go_simp
        have kr1 : w1.cell? ⟨w.heap.size + 1 + 1, 1, none⟩ = some (.int .i64 0) := cell_later hb (by go_simp)
        have jr1 : w1.frozen? ⟨w.heap.size + 1 + 1, 1, none⟩ = false := by rw [(bcell hb).2 _ _ (by first | omega | (simp <;> omega))]; go_simp
        have zs : w.heap.size < w1.heap.size := World.block_lt_of_cell? _ _ ks0
        have zt : w.heap.size + 1 < w1.heap.size := World.block_lt_of_cell? _ _ kt0
        have zr : w.heap.size + 1 + 1 < w1.heap.size := World.block_lt_of_cell? _ _ kr0
        have hb0 : Below w.heap.size w w1 := (by repeat (first | exact Below.refl _ _ | assumption | refine bstep ?_ (by assumption) | refine Below.drew ?_ | refine balloc ?_ _ | refine Below.setCell ?_ (by first | omega | (simp <;> omega)) _))
        clear hb
        go_wp2_with fail
        refine Calls.mono (valid_c _ _ _) ?_
        rintro e w2 ⟨rfl, hb⟩
        replace ks0 : w2.cell? ⟨w.heap.size, 0, none⟩ = some (.int .i64 s1) := cell_later hb (by first | exact ks0 | exact cell_al _ ks0 | exact cell_al _ (cell_al _ ks0) | go_simp)
        replace ks1 : w2.cell? ⟨w.heap.size, 1, none⟩ = some (.int .i64 s2) := cell_later hb (by first | exact ks1 | exact cell_al _ ks1 | exact cell_al _ (cell_al _ ks1) | go_simp)
        replace kt0 : w2.cell? ⟨w.heap.size + 1, 0, none⟩ = some (.int .i64 t1) := cell_later hb (by first | exact kt0 | exact cell_al _ kt0 | exact cell_al _ (cell_al _ kt0) | go_simp)
        replace kt1 : w2.cell? ⟨w.heap.size + 1, 1, none⟩ = some (.int .i64 t2) := cell_later hb (by first | exact kt1 | exact cell_al _ kt1 | exact cell_al _ (cell_al _ kt1) | go_simp)
        replace kr0 : w2.cell? ⟨w.heap.size + 1 + 1, 0, none⟩ = some (.int .i64 0) := cell_later hb (by first | exact kr0 | exact cell_al _ kr0 | exact cell_al _ (cell_al _ kr0) | go_simp)
        replace jr0 : w2.frozen? ⟨w.heap.size + 1 + 1, 0, none⟩ = false := by rw [(bcell hb).2 _ _ (by first | omega | (simp <;> omega))]; first | exact jr0 | go_simp
        replace kr1 : w2.cell? ⟨w.heap.size + 1 + 1, 1, none⟩ = some (.int .i64 0) := cell_later hb (by first | exact kr1 | exact cell_al _ kr1 | exact cell_al _ (cell_al _ kr1) | go_simp)
        replace jr1 : w2.frozen? ⟨w.heap.size + 1 + 1, 1, none⟩ = false := by rw [(bcell hb).2 _ _ (by first | omega | (simp <;> omega))]; first | exact jr1 | go_simp
        replace zs : w.heap.size < w2.heap.size := World.block_lt_of_cell? _ _ ks0
        replace zt : w.heap.size + 1 < w2.heap.size := World.block_lt_of_cell? _ _ kt0
        replace zr : w.heap.size + 1 + 1 < w2.heap.size := World.block_lt_of_cell? _ _ kr0
        replace hb0 : Below w.heap.size w w2 := (by repeat (first | exact Below.refl _ _ | assumption | refine bstep ?_ (by assumption) | refine Below.drew ?_ | refine balloc ?_ _ | refine Below.setCell ?_ (by first | omega | (simp <;> omega)) _))
        clear hb
        go_wp2_with fail
        refine Calls.mono (meet_c _ _ _ _ _) ?_
        rintro e w3 ⟨rfl, hb⟩
        replace ks0 : w3.cell? ⟨w.heap.size, 0, none⟩ = some (.int .i64 s1) := cell_later hb (by first | exact ks0 | exact cell_al _ ks0 | exact cell_al _ (cell_al _ ks0) | go_simp)
        replace ks1 : w3.cell? ⟨w.heap.size, 1, none⟩ = some (.int .i64 s2) := cell_later hb (by first | exact ks1 | exact cell_al _ ks1 | exact cell_al _ (cell_al _ ks1) | go_simp)
        replace kt0 : w3.cell? ⟨w.heap.size + 1, 0, none⟩ = some (.int .i64 t1) := cell_later hb (by first | exact kt0 | exact cell_al _ kt0 | exact cell_al _ (cell_al _ kt0) | go_simp)
        replace kt1 : w3.cell? ⟨w.heap.size + 1, 1, none⟩ = some (.int .i64 t2) := cell_later hb (by first | exact kt1 | exact cell_al _ kt1 | exact cell_al _ (cell_al _ kt1) | go_simp)
        replace kr0 : w3.cell? ⟨w.heap.size + 1 + 1, 0, none⟩ = some (.int .i64 0) := cell_later hb (by first | exact kr0 | exact cell_al _ kr0 | exact cell_al _ (cell_al _ kr0) | go_simp)
        replace jr0 : w3.frozen? ⟨w.heap.size + 1 + 1, 0, none⟩ = false := by rw [(bcell hb).2 _ _ (by first | omega | (simp <;> omega))]; first | exact jr0 | go_simp
        replace kr1 : w3.cell? ⟨w.heap.size + 1 + 1, 1, none⟩ = some (.int .i64 0) := cell_later hb (by first | exact kr1 | exact cell_al _ kr1 | exact cell_al _ (cell_al _ kr1) | go_simp)
        replace jr1 : w3.frozen? ⟨w.heap.size + 1 + 1, 1, none⟩ = false := by rw [(bcell hb).2 _ _ (by first | omega | (simp <;> omega))]; first | exact jr1 | go_simp
        replace zs : w.heap.size < w3.heap.size := World.block_lt_of_cell? _ _ ks0
        replace zt : w.heap.size + 1 < w3.heap.size := World.block_lt_of_cell? _ _ kt0
        replace zr : w.heap.size + 1 + 1 < w3.heap.size := World.block_lt_of_cell? _ _ kr0
        replace hb0 : Below w.heap.size w w3 := (by repeat (first | exact Below.refl _ _ | assumption | refine bstep ?_ (by assumption) | refine Below.drew ?_ | refine balloc ?_ _ | refine Below.setCell ?_ (by first | omega | (simp <;> omega)) _))
        clear hb
        go_wp2_with fail
        refine Calls.mono (valid_c _ _ _) ?_
        rintro e w4 ⟨rfl, hb⟩
        replace ks0 : w4.cell? ⟨w.heap.size, 0, none⟩ = some (.int .i64 s1) := cell_later hb (by first | exact ks0 | exact cell_al _ ks0 | exact cell_al _ (cell_al _ ks0) | go_simp)
        replace ks1 : w4.cell? ⟨w.heap.size, 1, none⟩ = some (.int .i64 s2) := cell_later hb (by first | exact ks1 | exact cell_al _ ks1 | exact cell_al _ (cell_al _ ks1) | go_simp)
        replace kt0 : w4.cell? ⟨w.heap.size + 1, 0, none⟩ = some (.int .i64 t1) := cell_later hb (by first | exact kt0 | exact cell_al _ kt0 | exact cell_al _ (cell_al _ kt0) | go_simp)
        replace kt1 : w4.cell? ⟨w.heap.size + 1, 1, none⟩ = some (.int .i64 t2) := cell_later hb (by first | exact kt1 | exact cell_al _ kt1 | exact cell_al _ (cell_al _ kt1) | go_simp)
        replace kr0 : w4.cell? ⟨w.heap.size + 1 + 1, 0, none⟩ = some (.int .i64 0) := cell_later hb (by first | exact kr0 | exact cell_al _ kr0 | exact cell_al _ (cell_al _ kr0) | go_simp)
        replace jr0 : w4.frozen? ⟨w.heap.size + 1 + 1, 0, none⟩ = false := by rw [(bcell hb).2 _ _ (by first | omega | (simp <;> omega))]; first | exact jr0 | go_simp
        replace kr1 : w4.cell? ⟨w.heap.size + 1 + 1, 1, none⟩ = some (.int .i64 0) := cell_later hb (by first | exact kr1 | exact cell_al _ kr1 | exact cell_al _ (cell_al _ kr1) | go_simp)
        replace jr1 : w4.frozen? ⟨w.heap.size + 1 + 1, 1, none⟩ = false := by rw [(bcell hb).2 _ _ (by first | omega | (simp <;> omega))]; first | exact jr1 | go_simp
        have kb0 : w4.cell? ⟨w3.heap.size, 0, none⟩ = some (.int .i64 (max s1 t1)) := cell_later hb (by go_simp)
        have kb1 : w4.cell? ⟨w3.heap.size, 1, none⟩ = some (.int .i64 (min s2 t2)) := cell_later hb (by go_simp)
        replace zs : w.heap.size < w4.heap.size := World.block_lt_of_cell? _ _ ks0
        replace zt : w.heap.size + 1 < w4.heap.size := World.block_lt_of_cell? _ _ kt0
        replace zr : w.heap.size + 1 + 1 < w4.heap.size := World.block_lt_of_cell? _ _ kr0
        have zb : w3.heap.size < w4.heap.size := World.block_lt_of_cell? _ _ kb0
        replace hb0 : Below w.heap.size w w4 := (by repeat (first | exact Below.refl _ _ | assumption | refine bstep ?_ (by assumption) | refine Below.drew ?_ | refine balloc ?_ _ | refine Below.setCell ?_ (by first | omega | (simp <;> omega)) _))
        clear hb
        rw [hv, h3]
        go_wp2
        refine bodyPost_ret ?_ rfl ⟨rfl, (by repeat (first | exact Below.refl _ _ | assumption | refine bstep ?_ (by assumption) | refine Below.drew ?_ | refine balloc ?_ _ | refine Below.setCell ?_ (by first | omega | (simp <;> omega)) _))⟩
        simp [results, Try.results22, go_sem, vMeet, rMeet, selI, erv, h1, h2, h3, kr0, kr1]
    · go_enter Try.func22, Try.ntmps22
      go_wp2_with fail
      refine Calls.mono (valid_c _ _ _) ?_
      rintro e w1 ⟨rfl, hb⟩
      have ks0 : w1.cell? ⟨w.heap.size, 0, none⟩ = some (.int .i64 s1) := cell_later hb (by go_simp)
      have ks1 : w1.cell? ⟨w.heap.size, 1, none⟩ = some (.int .i64 s2) := cell_later hb (by go_simp)
      have kt0 : w1.cell? ⟨w.heap.size + 1, 0, none⟩ = some (.int .i64 t1) := cell_later hb (by go_simp)
      have kt1 : w1.cell? ⟨w.heap.size + 1, 1, none⟩ = some (.int .i64 t2) := cell_later hb (by go_simp)
      have kr0 : w1.cell? ⟨w.heap.size + 1 + 1, 0, none⟩ = some (.int .i64 0) := cell_later hb (by go_simp)
      have jr0 : w1.frozen? ⟨w.heap.size + 1 + 1, 0, none⟩ = false := by rw [(bcell hb).2 _ _ (by first | omega | (simp <;> omega))]; go_simp
      have kr1 : w1.cell? ⟨w.heap.size + 1 + 1, 1, none⟩ = some (.int .i64 0) := cell_later hb (by go_simp)
      have jr1 : w1.frozen? ⟨w.heap.size + 1 + 1, 1, none⟩ = false := by rw [(bcell hb).2 _ _ (by first | omega | (simp <;> omega))]; go_simp
      have zs : w.heap.size < w1.heap.size := World.block_lt_of_cell? _ _ ks0
      have zt : w.heap.size + 1 < w1.heap.size := World.block_lt_of_cell? _ _ kt0
      have zr : w.heap.size + 1 + 1 < w1.heap.size := World.block_lt_of_cell? _ _ kr0
      have hb0 : Below w.heap.size w w1 := (by repeat (first | exact Below.refl _ _ | assumption | refine bstep ?_ (by assumption) | refine Below.drew ?_ | refine balloc ?_ _ | refine Below.setCell ?_ (by first | omega | (simp <;> omega)) _))
      clear hb
      go_wp2_with fail
      refine Calls.mono (valid_c _ _ _) ?_
      rintro e w2 ⟨rfl, hb⟩
      replace ks0 : w2.cell? ⟨w.heap.size, 0, none⟩ = some (.int .i64 s1) := cell_later hb (by first | exact ks0 | exact cell_al _ ks0 | exact cell_al _ (cell_al _ ks0) | go_simp)
      replace ks1 : w2.cell? ⟨w.heap.size, 1, none⟩ = some (.int .i64 s2) := cell_later hb (by first | exact ks1 | exact cell_al _ ks1 | exact cell_al _ (cell_al _ ks1) | go_simp)
      replace kt0 : w2.cell? ⟨w.heap.size + 1, 0, none⟩ = some (.int .i64 t1) := cell_later hb (by first | exact kt0 | exact cell_al _ kt0 | exact cell_al _ (cell_al _ kt0) | go_simp)
      replace kt1 : w2.cell? ⟨w.heap.size + 1, 1, none⟩ = some (.int .i64 t2) := cell_later hb (by first | exact kt1 | exact cell_al _ kt1 | exact cell_al _ (cell_al _ kt1) | go_simp)
      replace kr0 : w2.cell? ⟨w.heap.size + 1 + 1, 0, none⟩ = some (.int .i64 0) := cell_later hb (by first | exact kr0 | exact cell_al _ kr0 | exact cell_al _ (cell_al _ kr0) | go_simp)
      replace jr0 : w2.frozen? ⟨w.heap.size + 1 + 1, 0, none⟩ = false := by rw [(bcell hb).2 _ _ (by first | omega | (simp <;> omega))]; first | exact jr0 | go_simp
      replace kr1 : w2.cell? ⟨w.heap.size + 1 + 1, 1, none⟩ = some (.int .i64 0) := cell_later hb (by first | exact kr1 | exact cell_al _ kr1 | exact cell_al _ (cell_al _ kr1) | go_simp)
      replace jr1 : w2.frozen? ⟨w.heap.size + 1 + 1, 1, none⟩ = false := by rw [(bcell hb).2 _ _ (by first | omega | (simp <;> omega))]; first | exact jr1 | go_simp
      replace zs : w.heap.size < w2.heap.size := World.block_lt_of_cell? _ _ ks0
      replace zt : w.heap.size + 1 < w2.heap.size := World.block_lt_of_cell? _ _ kt0
      replace zr : w.heap.size + 1 + 1 < w2.heap.size := World.block_lt_of_cell? _ _ kr0
      replace hb0 : Below w.heap.size w w2 := (by repeat (first | exact Below.refl _ _ | assumption | refine bstep ?_ (by assumption) | refine Below.drew ?_ | refine balloc ?_ _ | refine Below.setCell ?_ (by first | omega | (simp <;> omega)) _))
      clear hb
      rw [h2]
      go_wp2
      refine bodyPost_ret ?_ rfl ⟨rfl, (by repeat (first | exact Below.refl _ _ | assumption | refine bstep ?_ (by assumption) | refine Below.drew ?_ | refine balloc ?_ _ | refine Below.setCell ?_ (by first | omega | (simp <;> omega)) _))⟩
      simp [results, Try.results22, go_sem, vMeet, rMeet, selI, erv, h1, h2, kr0, kr1]
  · go_enter Try.func22, Try.ntmps22
    go_wp2_with fail
    refine Calls.mono (valid_c _ _ _) ?_
    rintro e w1 ⟨rfl, hb⟩
    have ks0 : w1.cell? ⟨w.heap.size, 0, none⟩ = some (.int .i64 s1) := cell_later hb (by go_simp)
    have ks1 : w1.cell? ⟨w.heap.size, 1, none⟩ = some (.int .i64 s2) := cell_later hb (by go_simp)
    have kt0 : w1.cell? ⟨w.heap.size + 1, 0, none⟩ = some (.int .i64 t1) := cell_later hb (by go_simp)
    have kt1 : w1.cell? ⟨w.heap.size + 1, 1, none⟩ = some (.int .i64 t2) := cell_later hb (by go_simp)
    have kr0 : w1.cell? ⟨w.heap.size + 1 + 1, 0, none⟩ = some (.int .i64 0) := cell_later hb (by go_simp)
    have jr0 : w1.frozen? ⟨w.heap.size + 1 + 1, 0, none⟩ = false := by rw [(bcell hb).2 _ _ (by first | omega | (simp <;> omega))]; go_simp
    have kr1 : w1.cell? ⟨w.heap.size + 1 + 1, 1, none⟩ = some (.int .i64 0) := cell_later hb (by go_simp)
    have jr1 : w1.frozen? ⟨w.heap.size + 1 + 1, 1, none⟩ = false := by rw [(bcell hb).2 _ _ (by first | omega | (simp <;> omega))]; go_simp
    have zs : w.heap.size < w1.heap.size := World.block_lt_of_cell? _ _ ks0
    have zt : w.heap.size + 1 < w1.heap.size := World.block_lt_of_cell? _ _ kt0
    have zr : w.heap.size + 1 + 1 < w1.heap.size := World.block_lt_of_cell? _ _ kr0
    have hb0 : Below w.heap.size w w1 := (by repeat (first | exact Below.refl _ _ | assumption | refine bstep ?_ (by assumption) | refine Below.drew ?_ | refine balloc ?_ _ | refine Below.setCell ?_ (by first | omega | (simp <;> omega)) _))
    clear hb
    rw [h1]
    go_wp2
    refine bodyPost_ret ?_ rfl ⟨rfl, (by repeat (first | exact Below.refl _ _ | assumption | refine bstep ?_ (by assumption) | refine Below.drew ?_ | refine balloc ?_ _ | refine Below.setCell ?_ (by first | omega | (simp <;> omega)) _))⟩
    simp [results, Try.results22, go_sem, vMeet, rMeet, selI, erv, h1, kr0, kr1]


end Go.Proofs.Ytendnhmobhicmaa
