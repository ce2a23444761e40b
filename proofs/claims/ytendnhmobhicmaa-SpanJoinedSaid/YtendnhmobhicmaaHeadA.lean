/- HeadA: the head of the laws of layer 2. -/
import Derived.Test.YtendnhmobhicmaaSpanE
import Derived.Test.YtendnhmobhicmaaSpanF
import Derived.Test.YtendnhmobhicmaaRows
import Derived.WalkKit
import Derived.WalkSpells
import Derived.WalkLawsBesides
import Derived.Lib.Hide
import Derived.Deep.QuietTactic
import Derived.BigQuiet
import Derived.RegionTactic
import Derived.ChangeAlike
import Derived.BigRegion
import Derived.Deep.RegionHeld3
import Derived.Deep.RegionWith
import Derived.Outline
namespace Go.Proofs.Ytendnhmobhicmaa
open Go.RowKit
set_option linter.unusedSimpArgs false
set_option linter.unusedVariables false

set_option maxHeartbeats 400000 in
theorem of_c (a b : Int) (w : World)  : Calls Try.prog 38 #[(.int .i64 a), (.int .i64 b)] w (Ret w (.agg #[(.int .i64 a), (.int .i64 b)])) := by
  go_enter Try.func38, Try.ntmps38
  go_wp2
  all_goals
    refine bodyPost_ret ?_ rfl ⟨rfl, (by repeat (first | exact Below.refl _ _ | assumption | refine bstep ?_ (by assumption) | refine Below.drew ?_ | refine balloc ?_ _ | refine Below.setCell ?_ (by first | omega | (simp <;> omega)) _))⟩
    simp [results, Try.results38, go_sem]

set_option maxRecDepth 100000 in
set_option maxHeartbeats 3200000 in
theorem head_c  (w : World)  : Calls Try.prog 11 #[] w (Ret w (.bool true)) := by
  have t0 := fun w => Sub_c 1 3 2 5 w
  have t0' : ∀ w, Calls Try.prog 18 #[(.agg #[(.int .i64 1), (.int .i64 3)]), (.agg #[(.int .i64 2), (.int .i64 5)])] w (Ret w (.tuple #[.agg #[(.int .i64 (-4)), (.int .i64 1)], (.int .i64 0)])) := t0
  clear t0
  have t1 := fun w => Scale_c (-3) 5 1 2 w
  have t1' : ∀ w, Calls Try.prog 20 #[(.agg #[(.int .i64 ((-3))), (.int .i64 5)]), (.int .i64 1), (.int .i64 2)] w (Ret w (.tuple #[.agg #[(.int .i64 (-2)), (.int .i64 3)], (.int .i64 0)])) := t1
  clear t1
  have t2 := fun w => Scale_c (-3) 5 (-1) 2 w
  have t2' : ∀ w, Calls Try.prog 20 #[(.agg #[(.int .i64 ((-3))), (.int .i64 5)]), (.int .i64 ((-1))), (.int .i64 2)] w (Ret w (.tuple #[.agg #[(.int .i64 (-3)), (.int .i64 2)], (.int .i64 0)])) := t2
  clear t2
  have t3 := fun w => Meet_c 1 3 3 9 w
  have t3' : ∀ w, Calls Try.prog 22 #[(.agg #[(.int .i64 1), (.int .i64 3)]), (.agg #[(.int .i64 3), (.int .i64 9)])] w (Ret w (.tuple #[.agg #[(.int .i64 3), (.int .i64 3)], (.int .i64 0)])) := t3
  clear t3
  have t4 := fun w => Meet_c 1 3 4 9 w
  have t4' : ∀ w, Calls Try.prog 22 #[(.agg #[(.int .i64 1), (.int .i64 3)]), (.agg #[(.int .i64 4), (.int .i64 9)])] w (Ret w (.tuple #[.agg #[(.int .i64 0), (.int .i64 0)], (.int .i64 4)])) := t4
  clear t4
  have t5 := fun w => Join_c 1 3 7 9 w
  have t5' : ∀ w, Calls Try.prog 24 #[(.agg #[(.int .i64 1), (.int .i64 3)]), (.agg #[(.int .i64 7), (.int .i64 9)])] w (Ret w (.tuple #[.agg #[(.int .i64 1), (.int .i64 9)], (.int .i64 0)])) := t5
  clear t5
  have t6 := fun w => GrowBox_c 0 2 5 5 3 w
  have t6' : ∀ w, Calls Try.prog 32 #[(.agg #[(.int .i64 0), (.int .i64 2), (.int .i64 5), (.int .i64 5)]), (.int .i64 3)] w (Ret w (.tuple #[.agg #[(.int .i64 (-3)), (.int .i64 5), (.int .i64 2), (.int .i64 8)], (.int .i64 0)])) := t6
  clear t6
  have t7 := fun w => Add_c 1 3 2 5 w
  have t7' : ∀ w, Calls Try.prog 16 #[(.agg #[(.int .i64 1), (.int .i64 3)]), (.agg #[(.int .i64 2), (.int .i64 5)])] w (Ret w (.tuple #[.agg #[(.int .i64 3), (.int .i64 8)], (.int .i64 0)])) := t7
  clear t7
  go_enter Try.func11, Try.ntmps11
  go_wp2_with fail
  refine Calls.mono (of_c _ _ _) ?_
  rintro e w1 ⟨rfl, hb⟩
  have hb0 : Below w.heap.size w w1 := (by repeat (first | exact Below.refl _ _ | assumption | refine bstep ?_ (by assumption) | refine Below.drew ?_ | refine balloc ?_ _ | refine Below.setCell ?_ (by first | omega | (simp <;> omega)) _))
  clear hb
  go_wp2_with fail
  refine Calls.mono (of_c _ _ _) ?_
  rintro e w2 ⟨rfl, hb⟩
  replace hb0 : Below w.heap.size w w2 := (by repeat (first | exact Below.refl _ _ | assumption | refine bstep ?_ (by assumption) | refine Below.drew ?_ | refine balloc ?_ _ | refine Below.setCell ?_ (by first | omega | (simp <;> omega)) _))
  clear hb
  go_wp2_with fail
  refine Calls.mono (t0' _) ?_
  rintro e w3 ⟨rfl, hb⟩
  replace hb0 : Below w.heap.size w w3 := (by repeat (first | exact Below.refl _ _ | assumption | refine bstep ?_ (by assumption) | refine Below.drew ?_ | refine balloc ?_ _ | refine Below.setCell ?_ (by first | omega | (simp <;> omega)) _))
  clear hb
  go_wp2_with fail
  refine Calls.mono (of_c _ _ _) ?_
  rintro e w4 ⟨rfl, hb⟩
  have ka0 : w4.cell? ⟨w3.heap.size, 0, none⟩ = some (.int .i64 (-4)) := cell_later hb (by go_simp)
  have ka1 : w4.cell? ⟨w3.heap.size, 1, none⟩ = some (.int .i64 1) := cell_later hb (by go_simp)
  have za : w3.heap.size < w4.heap.size := World.block_lt_of_cell? _ _ ka0
  replace hb0 : Below w.heap.size w w4 := (by repeat (first | exact Below.refl _ _ | assumption | refine bstep ?_ (by assumption) | refine Below.drew ?_ | refine balloc ?_ _ | refine Below.setCell ?_ (by first | omega | (simp <;> omega)) _))
  clear hb
  go_wp2_with fail
  refine Calls.mono (t1' _) ?_
  rintro e w5 ⟨rfl, hb⟩
  replace ka0 : w5.cell? ⟨w3.heap.size, 0, none⟩ = some (.int .i64 (-4)) := cell_later hb (by first | (with_reducible exact ka0) | (with_reducible exact cell_al _ ka0) | (with_reducible exact cell_al _ (cell_al _ ka0)) | go_simp)
  replace ka1 : w5.cell? ⟨w3.heap.size, 1, none⟩ = some (.int .i64 1) := cell_later hb (by first | (with_reducible exact ka1) | (with_reducible exact cell_al _ ka1) | (with_reducible exact cell_al _ (cell_al _ ka1)) | go_simp)
  replace za : w3.heap.size < w5.heap.size := World.block_lt_of_cell? _ _ ka0
  replace hb0 : Below w.heap.size w w5 := (by repeat (first | exact Below.refl _ _ | assumption | refine bstep ?_ (by assumption) | refine Below.drew ?_ | refine balloc ?_ _ | refine Below.setCell ?_ (by first | omega | (simp <;> omega)) _))
  clear hb
  go_wp2_with fail
  refine Calls.mono (of_c _ _ _) ?_
  rintro e w6 ⟨rfl, hb⟩
  replace ka0 : w6.cell? ⟨w3.heap.size, 0, none⟩ = some (.int .i64 (-4)) := cell_later hb (by first | (with_reducible exact ka0) | (with_reducible exact cell_al _ ka0) | (with_reducible exact cell_al _ (cell_al _ ka0)) | go_simp)
  replace ka1 : w6.cell? ⟨w3.heap.size, 1, none⟩ = some (.int .i64 1) := cell_later hb (by first | (with_reducible exact ka1) | (with_reducible exact cell_al _ ka1) | (with_reducible exact cell_al _ (cell_al _ ka1)) | go_simp)
  have kb0 : w6.cell? ⟨w5.heap.size, 0, none⟩ = some (.int .i64 (-2)) := cell_later hb (by go_simp)
  have kb1 : w6.cell? ⟨w5.heap.size, 1, none⟩ = some (.int .i64 3) := cell_later hb (by go_simp)
  replace za : w3.heap.size < w6.heap.size := World.block_lt_of_cell? _ _ ka0
  have zb : w5.heap.size < w6.heap.size := World.block_lt_of_cell? _ _ kb0
  replace hb0 : Below w.heap.size w w6 := (by repeat (first | exact Below.refl _ _ | assumption | refine bstep ?_ (by assumption) | refine Below.drew ?_ | refine balloc ?_ _ | refine Below.setCell ?_ (by first | omega | (simp <;> omega)) _))
  clear hb
  go_wp2_with fail
  refine Calls.mono (t2' _) ?_
  rintro e w7 ⟨rfl, hb⟩
  replace ka0 : w7.cell? ⟨w3.heap.size, 0, none⟩ = some (.int .i64 (-4)) := cell_later hb (by first | (with_reducible exact ka0) | (with_reducible exact cell_al _ ka0) | (with_reducible exact cell_al _ (cell_al _ ka0)) | go_simp)
  replace ka1 : w7.cell? ⟨w3.heap.size, 1, none⟩ = some (.int .i64 1) := cell_later hb (by first | (with_reducible exact ka1) | (with_reducible exact cell_al _ ka1) | (with_reducible exact cell_al _ (cell_al _ ka1)) | go_simp)
  replace kb0 : w7.cell? ⟨w5.heap.size, 0, none⟩ = some (.int .i64 (-2)) := cell_later hb (by first | (with_reducible exact kb0) | (with_reducible exact cell_al _ kb0) | (with_reducible exact cell_al _ (cell_al _ kb0)) | go_simp)
  replace kb1 : w7.cell? ⟨w5.heap.size, 1, none⟩ = some (.int .i64 3) := cell_later hb (by first | (with_reducible exact kb1) | (with_reducible exact cell_al _ kb1) | (with_reducible exact cell_al _ (cell_al _ kb1)) | go_simp)
  replace za : w3.heap.size < w7.heap.size := World.block_lt_of_cell? _ _ ka0
  replace zb : w5.heap.size < w7.heap.size := World.block_lt_of_cell? _ _ kb0
  replace hb0 : Below w.heap.size w w7 := (by repeat (first | exact Below.refl _ _ | assumption | refine bstep ?_ (by assumption) | refine Below.drew ?_ | refine balloc ?_ _ | refine Below.setCell ?_ (by first | omega | (simp <;> omega)) _))
  clear hb
  go_wp2_with fail
  refine Calls.mono (of_c _ _ _) ?_
  rintro e w8 ⟨rfl, hb⟩
  replace ka0 : w8.cell? ⟨w3.heap.size, 0, none⟩ = some (.int .i64 (-4)) := cell_later hb (by first | (with_reducible exact ka0) | (with_reducible exact cell_al _ ka0) | (with_reducible exact cell_al _ (cell_al _ ka0)) | go_simp)
  replace ka1 : w8.cell? ⟨w3.heap.size, 1, none⟩ = some (.int .i64 1) := cell_later hb (by first | (with_reducible exact ka1) | (with_reducible exact cell_al _ ka1) | (with_reducible exact cell_al _ (cell_al _ ka1)) | go_simp)
  replace kb0 : w8.cell? ⟨w5.heap.size, 0, none⟩ = some (.int .i64 (-2)) := cell_later hb (by first | (with_reducible exact kb0) | (with_reducible exact cell_al _ kb0) | (with_reducible exact cell_al _ (cell_al _ kb0)) | go_simp)
  replace kb1 : w8.cell? ⟨w5.heap.size, 1, none⟩ = some (.int .i64 3) := cell_later hb (by first | (with_reducible exact kb1) | (with_reducible exact cell_al _ kb1) | (with_reducible exact cell_al _ (cell_al _ kb1)) | go_simp)
  have kc0 : w8.cell? ⟨w7.heap.size, 0, none⟩ = some (.int .i64 (-3)) := cell_later hb (by go_simp)
  have kc1 : w8.cell? ⟨w7.heap.size, 1, none⟩ = some (.int .i64 2) := cell_later hb (by go_simp)
  replace za : w3.heap.size < w8.heap.size := World.block_lt_of_cell? _ _ ka0
  replace zb : w5.heap.size < w8.heap.size := World.block_lt_of_cell? _ _ kb0
  have zc : w7.heap.size < w8.heap.size := World.block_lt_of_cell? _ _ kc0
  replace hb0 : Below w.heap.size w w8 := (by repeat (first | exact Below.refl _ _ | assumption | refine bstep ?_ (by assumption) | refine Below.drew ?_ | refine balloc ?_ _ | refine Below.setCell ?_ (by first | omega | (simp <;> omega)) _))
  clear hb
  go_wp2_with fail
  refine Calls.mono (of_c _ _ _) ?_
  rintro e w9 ⟨rfl, hb⟩
  replace ka0 : w9.cell? ⟨w3.heap.size, 0, none⟩ = some (.int .i64 (-4)) := cell_later hb (by first | (with_reducible exact ka0) | (with_reducible exact cell_al _ ka0) | (with_reducible exact cell_al _ (cell_al _ ka0)) | go_simp)
  replace ka1 : w9.cell? ⟨w3.heap.size, 1, none⟩ = some (.int .i64 1) := cell_later hb (by first | (with_reducible exact ka1) | (with_reducible exact cell_al _ ka1) | (with_reducible exact cell_al _ (cell_al _ ka1)) | go_simp)
  replace kb0 : w9.cell? ⟨w5.heap.size, 0, none⟩ = some (.int .i64 (-2)) := cell_later hb (by first | (with_reducible exact kb0) | (with_reducible exact cell_al _ kb0) | (with_reducible exact cell_al _ (cell_al _ kb0)) | go_simp)
  replace kb1 : w9.cell? ⟨w5.heap.size, 1, none⟩ = some (.int .i64 3) := cell_later hb (by first | (with_reducible exact kb1) | (with_reducible exact cell_al _ kb1) | (with_reducible exact cell_al _ (cell_al _ kb1)) | go_simp)
  replace kc0 : w9.cell? ⟨w7.heap.size, 0, none⟩ = some (.int .i64 (-3)) := cell_later hb (by first | (with_reducible exact kc0) | (with_reducible exact cell_al _ kc0) | (with_reducible exact cell_al _ (cell_al _ kc0)) | go_simp)
  replace kc1 : w9.cell? ⟨w7.heap.size, 1, none⟩ = some (.int .i64 2) := cell_later hb (by first | (with_reducible exact kc1) | (with_reducible exact cell_al _ kc1) | (with_reducible exact cell_al _ (cell_al _ kc1)) | go_simp)
  replace za : w3.heap.size < w9.heap.size := World.block_lt_of_cell? _ _ ka0
  replace zb : w5.heap.size < w9.heap.size := World.block_lt_of_cell? _ _ kb0
  replace zc : w7.heap.size < w9.heap.size := World.block_lt_of_cell? _ _ kc0
  replace hb0 : Below w.heap.size w w9 := (by repeat (first | exact Below.refl _ _ | assumption | refine bstep ?_ (by assumption) | refine Below.drew ?_ | refine balloc ?_ _ | refine Below.setCell ?_ (by first | omega | (simp <;> omega)) _))
  clear hb
  go_wp2_with fail
  refine Calls.mono (t3' _) ?_
  rintro e w10 ⟨rfl, hb⟩
  replace ka0 : w10.cell? ⟨w3.heap.size, 0, none⟩ = some (.int .i64 (-4)) := cell_later hb (by first | (with_reducible exact ka0) | (with_reducible exact cell_al _ ka0) | (with_reducible exact cell_al _ (cell_al _ ka0)) | go_simp)
  replace ka1 : w10.cell? ⟨w3.heap.size, 1, none⟩ = some (.int .i64 1) := cell_later hb (by first | (with_reducible exact ka1) | (with_reducible exact cell_al _ ka1) | (with_reducible exact cell_al _ (cell_al _ ka1)) | go_simp)
  replace kb0 : w10.cell? ⟨w5.heap.size, 0, none⟩ = some (.int .i64 (-2)) := cell_later hb (by first | (with_reducible exact kb0) | (with_reducible exact cell_al _ kb0) | (with_reducible exact cell_al _ (cell_al _ kb0)) | go_simp)
  replace kb1 : w10.cell? ⟨w5.heap.size, 1, none⟩ = some (.int .i64 3) := cell_later hb (by first | (with_reducible exact kb1) | (with_reducible exact cell_al _ kb1) | (with_reducible exact cell_al _ (cell_al _ kb1)) | go_simp)
  replace kc0 : w10.cell? ⟨w7.heap.size, 0, none⟩ = some (.int .i64 (-3)) := cell_later hb (by first | (with_reducible exact kc0) | (with_reducible exact cell_al _ kc0) | (with_reducible exact cell_al _ (cell_al _ kc0)) | go_simp)
  replace kc1 : w10.cell? ⟨w7.heap.size, 1, none⟩ = some (.int .i64 2) := cell_later hb (by first | (with_reducible exact kc1) | (with_reducible exact cell_al _ kc1) | (with_reducible exact cell_al _ (cell_al _ kc1)) | go_simp)
  replace za : w3.heap.size < w10.heap.size := World.block_lt_of_cell? _ _ ka0
  replace zb : w5.heap.size < w10.heap.size := World.block_lt_of_cell? _ _ kb0
  replace zc : w7.heap.size < w10.heap.size := World.block_lt_of_cell? _ _ kc0
  replace hb0 : Below w.heap.size w w10 := (by repeat (first | exact Below.refl _ _ | assumption | refine bstep ?_ (by assumption) | refine Below.drew ?_ | refine balloc ?_ _ | refine Below.setCell ?_ (by first | omega | (simp <;> omega)) _))
  clear hb
  go_wp2_with fail
  refine Calls.mono (of_c _ _ _) ?_
  rintro e w11 ⟨rfl, hb⟩
  replace ka0 : w11.cell? ⟨w3.heap.size, 0, none⟩ = some (.int .i64 (-4)) := cell_later hb (by first | (with_reducible exact ka0) | (with_reducible exact cell_al _ ka0) | (with_reducible exact cell_al _ (cell_al _ ka0)) | go_simp)
  replace ka1 : w11.cell? ⟨w3.heap.size, 1, none⟩ = some (.int .i64 1) := cell_later hb (by first | (with_reducible exact ka1) | (with_reducible exact cell_al _ ka1) | (with_reducible exact cell_al _ (cell_al _ ka1)) | go_simp)
  replace kb0 : w11.cell? ⟨w5.heap.size, 0, none⟩ = some (.int .i64 (-2)) := cell_later hb (by first | (with_reducible exact kb0) | (with_reducible exact cell_al _ kb0) | (with_reducible exact cell_al _ (cell_al _ kb0)) | go_simp)
  replace kb1 : w11.cell? ⟨w5.heap.size, 1, none⟩ = some (.int .i64 3) := cell_later hb (by first | (with_reducible exact kb1) | (with_reducible exact cell_al _ kb1) | (with_reducible exact cell_al _ (cell_al _ kb1)) | go_simp)
  replace kc0 : w11.cell? ⟨w7.heap.size, 0, none⟩ = some (.int .i64 (-3)) := cell_later hb (by first | (with_reducible exact kc0) | (with_reducible exact cell_al _ kc0) | (with_reducible exact cell_al _ (cell_al _ kc0)) | go_simp)
  replace kc1 : w11.cell? ⟨w7.heap.size, 1, none⟩ = some (.int .i64 2) := cell_later hb (by first | (with_reducible exact kc1) | (with_reducible exact cell_al _ kc1) | (with_reducible exact cell_al _ (cell_al _ kc1)) | go_simp)
  have kd0 : w11.cell? ⟨w10.heap.size, 0, none⟩ = some (.int .i64 3) := cell_later hb (by go_simp)
  have kd1 : w11.cell? ⟨w10.heap.size, 1, none⟩ = some (.int .i64 3) := cell_later hb (by go_simp)
  replace za : w3.heap.size < w11.heap.size := World.block_lt_of_cell? _ _ ka0
  replace zb : w5.heap.size < w11.heap.size := World.block_lt_of_cell? _ _ kb0
  replace zc : w7.heap.size < w11.heap.size := World.block_lt_of_cell? _ _ kc0
  have zd : w10.heap.size < w11.heap.size := World.block_lt_of_cell? _ _ kd0
  replace hb0 : Below w.heap.size w w11 := (by repeat (first | exact Below.refl _ _ | assumption | refine bstep ?_ (by assumption) | refine Below.drew ?_ | refine balloc ?_ _ | refine Below.setCell ?_ (by first | omega | (simp <;> omega)) _))
  clear hb
  go_wp2_with fail
  refine Calls.mono (of_c _ _ _) ?_
  rintro e w12 ⟨rfl, hb⟩
  replace ka0 : w12.cell? ⟨w3.heap.size, 0, none⟩ = some (.int .i64 (-4)) := cell_later hb (by first | (with_reducible exact ka0) | (with_reducible exact cell_al _ ka0) | (with_reducible exact cell_al _ (cell_al _ ka0)) | go_simp)
  replace ka1 : w12.cell? ⟨w3.heap.size, 1, none⟩ = some (.int .i64 1) := cell_later hb (by first | (with_reducible exact ka1) | (with_reducible exact cell_al _ ka1) | (with_reducible exact cell_al _ (cell_al _ ka1)) | go_simp)
  replace kb0 : w12.cell? ⟨w5.heap.size, 0, none⟩ = some (.int .i64 (-2)) := cell_later hb (by first | (with_reducible exact kb0) | (with_reducible exact cell_al _ kb0) | (with_reducible exact cell_al _ (cell_al _ kb0)) | go_simp)
  replace kb1 : w12.cell? ⟨w5.heap.size, 1, none⟩ = some (.int .i64 3) := cell_later hb (by first | (with_reducible exact kb1) | (with_reducible exact cell_al _ kb1) | (with_reducible exact cell_al _ (cell_al _ kb1)) | go_simp)
  replace kc0 : w12.cell? ⟨w7.heap.size, 0, none⟩ = some (.int .i64 (-3)) := cell_later hb (by first | (with_reducible exact kc0) | (with_reducible exact cell_al _ kc0) | (with_reducible exact cell_al _ (cell_al _ kc0)) | go_simp)
  replace kc1 : w12.cell? ⟨w7.heap.size, 1, none⟩ = some (.int .i64 2) := cell_later hb (by first | (with_reducible exact kc1) | (with_reducible exact cell_al _ kc1) | (with_reducible exact cell_al _ (cell_al _ kc1)) | go_simp)
  replace kd0 : w12.cell? ⟨w10.heap.size, 0, none⟩ = some (.int .i64 3) := cell_later hb (by first | (with_reducible exact kd0) | (with_reducible exact cell_al _ kd0) | (with_reducible exact cell_al _ (cell_al _ kd0)) | go_simp)
  replace kd1 : w12.cell? ⟨w10.heap.size, 1, none⟩ = some (.int .i64 3) := cell_later hb (by first | (with_reducible exact kd1) | (with_reducible exact cell_al _ kd1) | (with_reducible exact cell_al _ (cell_al _ kd1)) | go_simp)
  replace za : w3.heap.size < w12.heap.size := World.block_lt_of_cell? _ _ ka0
  replace zb : w5.heap.size < w12.heap.size := World.block_lt_of_cell? _ _ kb0
  replace zc : w7.heap.size < w12.heap.size := World.block_lt_of_cell? _ _ kc0
  replace zd : w10.heap.size < w12.heap.size := World.block_lt_of_cell? _ _ kd0
  replace hb0 : Below w.heap.size w w12 := (by repeat (first | exact Below.refl _ _ | assumption | refine bstep ?_ (by assumption) | refine Below.drew ?_ | refine balloc ?_ _ | refine Below.setCell ?_ (by first | omega | (simp <;> omega)) _))
  clear hb
  go_wp2_with fail
  refine Calls.mono (t4' _) ?_
  rintro e w13 ⟨rfl, hb⟩
  replace ka0 : w13.cell? ⟨w3.heap.size, 0, none⟩ = some (.int .i64 (-4)) := cell_later hb (by first | (with_reducible exact ka0) | (with_reducible exact cell_al _ ka0) | (with_reducible exact cell_al _ (cell_al _ ka0)) | go_simp)
  replace ka1 : w13.cell? ⟨w3.heap.size, 1, none⟩ = some (.int .i64 1) := cell_later hb (by first | (with_reducible exact ka1) | (with_reducible exact cell_al _ ka1) | (with_reducible exact cell_al _ (cell_al _ ka1)) | go_simp)
  replace kb0 : w13.cell? ⟨w5.heap.size, 0, none⟩ = some (.int .i64 (-2)) := cell_later hb (by first | (with_reducible exact kb0) | (with_reducible exact cell_al _ kb0) | (with_reducible exact cell_al _ (cell_al _ kb0)) | go_simp)
  replace kb1 : w13.cell? ⟨w5.heap.size, 1, none⟩ = some (.int .i64 3) := cell_later hb (by first | (with_reducible exact kb1) | (with_reducible exact cell_al _ kb1) | (with_reducible exact cell_al _ (cell_al _ kb1)) | go_simp)
  replace kc0 : w13.cell? ⟨w7.heap.size, 0, none⟩ = some (.int .i64 (-3)) := cell_later hb (by first | (with_reducible exact kc0) | (with_reducible exact cell_al _ kc0) | (with_reducible exact cell_al _ (cell_al _ kc0)) | go_simp)
  replace kc1 : w13.cell? ⟨w7.heap.size, 1, none⟩ = some (.int .i64 2) := cell_later hb (by first | (with_reducible exact kc1) | (with_reducible exact cell_al _ kc1) | (with_reducible exact cell_al _ (cell_al _ kc1)) | go_simp)
  replace kd0 : w13.cell? ⟨w10.heap.size, 0, none⟩ = some (.int .i64 3) := cell_later hb (by first | (with_reducible exact kd0) | (with_reducible exact cell_al _ kd0) | (with_reducible exact cell_al _ (cell_al _ kd0)) | go_simp)
  replace kd1 : w13.cell? ⟨w10.heap.size, 1, none⟩ = some (.int .i64 3) := cell_later hb (by first | (with_reducible exact kd1) | (with_reducible exact cell_al _ kd1) | (with_reducible exact cell_al _ (cell_al _ kd1)) | go_simp)
  replace za : w3.heap.size < w13.heap.size := World.block_lt_of_cell? _ _ ka0
  replace zb : w5.heap.size < w13.heap.size := World.block_lt_of_cell? _ _ kb0
  replace zc : w7.heap.size < w13.heap.size := World.block_lt_of_cell? _ _ kc0
  replace zd : w10.heap.size < w13.heap.size := World.block_lt_of_cell? _ _ kd0
  replace hb0 : Below w.heap.size w w13 := (by repeat (first | exact Below.refl _ _ | assumption | refine bstep ?_ (by assumption) | refine Below.drew ?_ | refine balloc ?_ _ | refine Below.setCell ?_ (by first | omega | (simp <;> omega)) _))
  clear hb
  go_wp2_with fail
  refine Calls.mono (of_c _ _ _) ?_
  rintro e w14 ⟨rfl, hb⟩
  replace ka0 : w14.cell? ⟨w3.heap.size, 0, none⟩ = some (.int .i64 (-4)) := cell_later hb (by first | (with_reducible exact ka0) | (with_reducible exact cell_al _ ka0) | (with_reducible exact cell_al _ (cell_al _ ka0)) | go_simp)
  replace ka1 : w14.cell? ⟨w3.heap.size, 1, none⟩ = some (.int .i64 1) := cell_later hb (by first | (with_reducible exact ka1) | (with_reducible exact cell_al _ ka1) | (with_reducible exact cell_al _ (cell_al _ ka1)) | go_simp)
  replace kb0 : w14.cell? ⟨w5.heap.size, 0, none⟩ = some (.int .i64 (-2)) := cell_later hb (by first | (with_reducible exact kb0) | (with_reducible exact cell_al _ kb0) | (with_reducible exact cell_al _ (cell_al _ kb0)) | go_simp)
  replace kb1 : w14.cell? ⟨w5.heap.size, 1, none⟩ = some (.int .i64 3) := cell_later hb (by first | (with_reducible exact kb1) | (with_reducible exact cell_al _ kb1) | (with_reducible exact cell_al _ (cell_al _ kb1)) | go_simp)
  replace kc0 : w14.cell? ⟨w7.heap.size, 0, none⟩ = some (.int .i64 (-3)) := cell_later hb (by first | (with_reducible exact kc0) | (with_reducible exact cell_al _ kc0) | (with_reducible exact cell_al _ (cell_al _ kc0)) | go_simp)
  replace kc1 : w14.cell? ⟨w7.heap.size, 1, none⟩ = some (.int .i64 2) := cell_later hb (by first | (with_reducible exact kc1) | (with_reducible exact cell_al _ kc1) | (with_reducible exact cell_al _ (cell_al _ kc1)) | go_simp)
  replace kd0 : w14.cell? ⟨w10.heap.size, 0, none⟩ = some (.int .i64 3) := cell_later hb (by first | (with_reducible exact kd0) | (with_reducible exact cell_al _ kd0) | (with_reducible exact cell_al _ (cell_al _ kd0)) | go_simp)
  replace kd1 : w14.cell? ⟨w10.heap.size, 1, none⟩ = some (.int .i64 3) := cell_later hb (by first | (with_reducible exact kd1) | (with_reducible exact cell_al _ kd1) | (with_reducible exact cell_al _ (cell_al _ kd1)) | go_simp)
  replace za : w3.heap.size < w14.heap.size := World.block_lt_of_cell? _ _ ka0
  replace zb : w5.heap.size < w14.heap.size := World.block_lt_of_cell? _ _ kb0
  replace zc : w7.heap.size < w14.heap.size := World.block_lt_of_cell? _ _ kc0
  replace zd : w10.heap.size < w14.heap.size := World.block_lt_of_cell? _ _ kd0
  replace hb0 : Below w.heap.size w w14 := (by repeat (first | exact Below.refl _ _ | assumption | refine bstep ?_ (by assumption) | refine Below.drew ?_ | refine balloc ?_ _ | refine Below.setCell ?_ (by first | omega | (simp <;> omega)) _))
  clear hb
  go_wp2_with fail
  refine Calls.mono (of_c _ _ _) ?_
  rintro e w15 ⟨rfl, hb⟩
  replace ka0 : w15.cell? ⟨w3.heap.size, 0, none⟩ = some (.int .i64 (-4)) := cell_later hb (by first | (with_reducible exact ka0) | (with_reducible exact cell_al _ ka0) | (with_reducible exact cell_al _ (cell_al _ ka0)) | go_simp)
  replace ka1 : w15.cell? ⟨w3.heap.size, 1, none⟩ = some (.int .i64 1) := cell_later hb (by first | (with_reducible exact ka1) | (with_reducible exact cell_al _ ka1) | (with_reducible exact cell_al _ (cell_al _ ka1)) | go_simp)
  replace kb0 : w15.cell? ⟨w5.heap.size, 0, none⟩ = some (.int .i64 (-2)) := cell_later hb (by first | (with_reducible exact kb0) | (with_reducible exact cell_al _ kb0) | (with_reducible exact cell_al _ (cell_al _ kb0)) | go_simp)
  replace kb1 : w15.cell? ⟨w5.heap.size, 1, none⟩ = some (.int .i64 3) := cell_later hb (by first | (with_reducible exact kb1) | (with_reducible exact cell_al _ kb1) | (with_reducible exact cell_al _ (cell_al _ kb1)) | go_simp)
  replace kc0 : w15.cell? ⟨w7.heap.size, 0, none⟩ = some (.int .i64 (-3)) := cell_later hb (by first | (with_reducible exact kc0) | (with_reducible exact cell_al _ kc0) | (with_reducible exact cell_al _ (cell_al _ kc0)) | go_simp)
  replace kc1 : w15.cell? ⟨w7.heap.size, 1, none⟩ = some (.int .i64 2) := cell_later hb (by first | (with_reducible exact kc1) | (with_reducible exact cell_al _ kc1) | (with_reducible exact cell_al _ (cell_al _ kc1)) | go_simp)
  replace kd0 : w15.cell? ⟨w10.heap.size, 0, none⟩ = some (.int .i64 3) := cell_later hb (by first | (with_reducible exact kd0) | (with_reducible exact cell_al _ kd0) | (with_reducible exact cell_al _ (cell_al _ kd0)) | go_simp)
  replace kd1 : w15.cell? ⟨w10.heap.size, 1, none⟩ = some (.int .i64 3) := cell_later hb (by first | (with_reducible exact kd1) | (with_reducible exact cell_al _ kd1) | (with_reducible exact cell_al _ (cell_al _ kd1)) | go_simp)
  replace za : w3.heap.size < w15.heap.size := World.block_lt_of_cell? _ _ ka0
  replace zb : w5.heap.size < w15.heap.size := World.block_lt_of_cell? _ _ kb0
  replace zc : w7.heap.size < w15.heap.size := World.block_lt_of_cell? _ _ kc0
  replace zd : w10.heap.size < w15.heap.size := World.block_lt_of_cell? _ _ kd0
  replace hb0 : Below w.heap.size w w15 := (by repeat (first | exact Below.refl _ _ | assumption | refine bstep ?_ (by assumption) | refine Below.drew ?_ | refine balloc ?_ _ | refine Below.setCell ?_ (by first | omega | (simp <;> omega)) _))
  clear hb
  go_wp2_with fail
  refine Calls.mono (t5' _) ?_
  rintro e w16 ⟨rfl, hb⟩
  replace ka0 : w16.cell? ⟨w3.heap.size, 0, none⟩ = some (.int .i64 (-4)) := cell_later hb (by first | (with_reducible exact ka0) | (with_reducible exact cell_al _ ka0) | (with_reducible exact cell_al _ (cell_al _ ka0)) | go_simp)
  replace ka1 : w16.cell? ⟨w3.heap.size, 1, none⟩ = some (.int .i64 1) := cell_later hb (by first | (with_reducible exact ka1) | (with_reducible exact cell_al _ ka1) | (with_reducible exact cell_al _ (cell_al _ ka1)) | go_simp)
  replace kb0 : w16.cell? ⟨w5.heap.size, 0, none⟩ = some (.int .i64 (-2)) := cell_later hb (by first | (with_reducible exact kb0) | (with_reducible exact cell_al _ kb0) | (with_reducible exact cell_al _ (cell_al _ kb0)) | go_simp)
  replace kb1 : w16.cell? ⟨w5.heap.size, 1, none⟩ = some (.int .i64 3) := cell_later hb (by first | (with_reducible exact kb1) | (with_reducible exact cell_al _ kb1) | (with_reducible exact cell_al _ (cell_al _ kb1)) | go_simp)
  replace kc0 : w16.cell? ⟨w7.heap.size, 0, none⟩ = some (.int .i64 (-3)) := cell_later hb (by first | (with_reducible exact kc0) | (with_reducible exact cell_al _ kc0) | (with_reducible exact cell_al _ (cell_al _ kc0)) | go_simp)
  replace kc1 : w16.cell? ⟨w7.heap.size, 1, none⟩ = some (.int .i64 2) := cell_later hb (by first | (with_reducible exact kc1) | (with_reducible exact cell_al _ kc1) | (with_reducible exact cell_al _ (cell_al _ kc1)) | go_simp)
  replace kd0 : w16.cell? ⟨w10.heap.size, 0, none⟩ = some (.int .i64 3) := cell_later hb (by first | (with_reducible exact kd0) | (with_reducible exact cell_al _ kd0) | (with_reducible exact cell_al _ (cell_al _ kd0)) | go_simp)
  replace kd1 : w16.cell? ⟨w10.heap.size, 1, none⟩ = some (.int .i64 3) := cell_later hb (by first | (with_reducible exact kd1) | (with_reducible exact cell_al _ kd1) | (with_reducible exact cell_al _ (cell_al _ kd1)) | go_simp)
  replace za : w3.heap.size < w16.heap.size := World.block_lt_of_cell? _ _ ka0
  replace zb : w5.heap.size < w16.heap.size := World.block_lt_of_cell? _ _ kb0
  replace zc : w7.heap.size < w16.heap.size := World.block_lt_of_cell? _ _ kc0
  replace zd : w10.heap.size < w16.heap.size := World.block_lt_of_cell? _ _ kd0
  replace hb0 : Below w.heap.size w w16 := (by repeat (first | exact Below.refl _ _ | assumption | refine bstep ?_ (by assumption) | refine Below.drew ?_ | refine balloc ?_ _ | refine Below.setCell ?_ (by first | omega | (simp <;> omega)) _))
  clear hb
  go_wp2_with fail
  refine Calls.mono (of_c _ _ _) ?_
  rintro e w17 ⟨rfl, hb⟩
  replace ka0 : w17.cell? ⟨w3.heap.size, 0, none⟩ = some (.int .i64 (-4)) := cell_later hb (by first | (with_reducible exact ka0) | (with_reducible exact cell_al _ ka0) | (with_reducible exact cell_al _ (cell_al _ ka0)) | go_simp)
  replace ka1 : w17.cell? ⟨w3.heap.size, 1, none⟩ = some (.int .i64 1) := cell_later hb (by first | (with_reducible exact ka1) | (with_reducible exact cell_al _ ka1) | (with_reducible exact cell_al _ (cell_al _ ka1)) | go_simp)
  replace kb0 : w17.cell? ⟨w5.heap.size, 0, none⟩ = some (.int .i64 (-2)) := cell_later hb (by first | (with_reducible exact kb0) | (with_reducible exact cell_al _ kb0) | (with_reducible exact cell_al _ (cell_al _ kb0)) | go_simp)
  replace kb1 : w17.cell? ⟨w5.heap.size, 1, none⟩ = some (.int .i64 3) := cell_later hb (by first | (with_reducible exact kb1) | (with_reducible exact cell_al _ kb1) | (with_reducible exact cell_al _ (cell_al _ kb1)) | go_simp)
  replace kc0 : w17.cell? ⟨w7.heap.size, 0, none⟩ = some (.int .i64 (-3)) := cell_later hb (by first | (with_reducible exact kc0) | (with_reducible exact cell_al _ kc0) | (with_reducible exact cell_al _ (cell_al _ kc0)) | go_simp)
  replace kc1 : w17.cell? ⟨w7.heap.size, 1, none⟩ = some (.int .i64 2) := cell_later hb (by first | (with_reducible exact kc1) | (with_reducible exact cell_al _ kc1) | (with_reducible exact cell_al _ (cell_al _ kc1)) | go_simp)
  replace kd0 : w17.cell? ⟨w10.heap.size, 0, none⟩ = some (.int .i64 3) := cell_later hb (by first | (with_reducible exact kd0) | (with_reducible exact cell_al _ kd0) | (with_reducible exact cell_al _ (cell_al _ kd0)) | go_simp)
  replace kd1 : w17.cell? ⟨w10.heap.size, 1, none⟩ = some (.int .i64 3) := cell_later hb (by first | (with_reducible exact kd1) | (with_reducible exact cell_al _ kd1) | (with_reducible exact cell_al _ (cell_al _ kd1)) | go_simp)
  have kj0 : w17.cell? ⟨w16.heap.size, 0, none⟩ = some (.int .i64 1) := cell_later hb (by go_simp)
  have kj1 : w17.cell? ⟨w16.heap.size, 1, none⟩ = some (.int .i64 9) := cell_later hb (by go_simp)
  replace za : w3.heap.size < w17.heap.size := World.block_lt_of_cell? _ _ ka0
  replace zb : w5.heap.size < w17.heap.size := World.block_lt_of_cell? _ _ kb0
  replace zc : w7.heap.size < w17.heap.size := World.block_lt_of_cell? _ _ kc0
  replace zd : w10.heap.size < w17.heap.size := World.block_lt_of_cell? _ _ kd0
  have zj : w16.heap.size < w17.heap.size := World.block_lt_of_cell? _ _ kj0
  replace hb0 : Below w.heap.size w w17 := (by repeat (first | exact Below.refl _ _ | assumption | refine bstep ?_ (by assumption) | refine Below.drew ?_ | refine balloc ?_ _ | refine Below.setCell ?_ (by first | omega | (simp <;> omega)) _))
  clear hb
  go_wp2_with fail
  refine Calls.mono (of_c _ _ _) ?_
  rintro e w18 ⟨rfl, hb⟩
  replace ka0 : w18.cell? ⟨w3.heap.size, 0, none⟩ = some (.int .i64 (-4)) := cell_later hb (by first | (with_reducible exact ka0) | (with_reducible exact cell_al _ ka0) | (with_reducible exact cell_al _ (cell_al _ ka0)) | go_simp)
  replace ka1 : w18.cell? ⟨w3.heap.size, 1, none⟩ = some (.int .i64 1) := cell_later hb (by first | (with_reducible exact ka1) | (with_reducible exact cell_al _ ka1) | (with_reducible exact cell_al _ (cell_al _ ka1)) | go_simp)
  replace kb0 : w18.cell? ⟨w5.heap.size, 0, none⟩ = some (.int .i64 (-2)) := cell_later hb (by first | (with_reducible exact kb0) | (with_reducible exact cell_al _ kb0) | (with_reducible exact cell_al _ (cell_al _ kb0)) | go_simp)
  replace kb1 : w18.cell? ⟨w5.heap.size, 1, none⟩ = some (.int .i64 3) := cell_later hb (by first | (with_reducible exact kb1) | (with_reducible exact cell_al _ kb1) | (with_reducible exact cell_al _ (cell_al _ kb1)) | go_simp)
  replace kc0 : w18.cell? ⟨w7.heap.size, 0, none⟩ = some (.int .i64 (-3)) := cell_later hb (by first | (with_reducible exact kc0) | (with_reducible exact cell_al _ kc0) | (with_reducible exact cell_al _ (cell_al _ kc0)) | go_simp)
  replace kc1 : w18.cell? ⟨w7.heap.size, 1, none⟩ = some (.int .i64 2) := cell_later hb (by first | (with_reducible exact kc1) | (with_reducible exact cell_al _ kc1) | (with_reducible exact cell_al _ (cell_al _ kc1)) | go_simp)
  replace kd0 : w18.cell? ⟨w10.heap.size, 0, none⟩ = some (.int .i64 3) := cell_later hb (by first | (with_reducible exact kd0) | (with_reducible exact cell_al _ kd0) | (with_reducible exact cell_al _ (cell_al _ kd0)) | go_simp)
  replace kd1 : w18.cell? ⟨w10.heap.size, 1, none⟩ = some (.int .i64 3) := cell_later hb (by first | (with_reducible exact kd1) | (with_reducible exact cell_al _ kd1) | (with_reducible exact cell_al _ (cell_al _ kd1)) | go_simp)
  replace kj0 : w18.cell? ⟨w16.heap.size, 0, none⟩ = some (.int .i64 1) := cell_later hb (by first | (with_reducible exact kj0) | (with_reducible exact cell_al _ kj0) | (with_reducible exact cell_al _ (cell_al _ kj0)) | go_simp)
  replace kj1 : w18.cell? ⟨w16.heap.size, 1, none⟩ = some (.int .i64 9) := cell_later hb (by first | (with_reducible exact kj1) | (with_reducible exact cell_al _ kj1) | (with_reducible exact cell_al _ (cell_al _ kj1)) | go_simp)
  replace za : w3.heap.size < w18.heap.size := World.block_lt_of_cell? _ _ ka0
  replace zb : w5.heap.size < w18.heap.size := World.block_lt_of_cell? _ _ kb0
  replace zc : w7.heap.size < w18.heap.size := World.block_lt_of_cell? _ _ kc0
  replace zd : w10.heap.size < w18.heap.size := World.block_lt_of_cell? _ _ kd0
  replace zj : w16.heap.size < w18.heap.size := World.block_lt_of_cell? _ _ kj0
  replace hb0 : Below w.heap.size w w18 := (by repeat (first | exact Below.refl _ _ | assumption | refine bstep ?_ (by assumption) | refine Below.drew ?_ | refine balloc ?_ _ | refine Below.setCell ?_ (by first | omega | (simp <;> omega)) _))
  clear hb
  go_wp2_with fail
  refine Calls.mono (t6' _) ?_
  rintro e w19 ⟨rfl, hb⟩
  replace ka0 : w19.cell? ⟨w3.heap.size, 0, none⟩ = some (.int .i64 (-4)) := cell_later hb (by first | (with_reducible exact ka0) | (with_reducible exact cell_al _ ka0) | (with_reducible exact cell_al _ (cell_al _ ka0)) | go_simp)
  replace ka1 : w19.cell? ⟨w3.heap.size, 1, none⟩ = some (.int .i64 1) := cell_later hb (by first | (with_reducible exact ka1) | (with_reducible exact cell_al _ ka1) | (with_reducible exact cell_al _ (cell_al _ ka1)) | go_simp)
  replace kb0 : w19.cell? ⟨w5.heap.size, 0, none⟩ = some (.int .i64 (-2)) := cell_later hb (by first | (with_reducible exact kb0) | (with_reducible exact cell_al _ kb0) | (with_reducible exact cell_al _ (cell_al _ kb0)) | go_simp)
  replace kb1 : w19.cell? ⟨w5.heap.size, 1, none⟩ = some (.int .i64 3) := cell_later hb (by first | (with_reducible exact kb1) | (with_reducible exact cell_al _ kb1) | (with_reducible exact cell_al _ (cell_al _ kb1)) | go_simp)
  replace kc0 : w19.cell? ⟨w7.heap.size, 0, none⟩ = some (.int .i64 (-3)) := cell_later hb (by first | (with_reducible exact kc0) | (with_reducible exact cell_al _ kc0) | (with_reducible exact cell_al _ (cell_al _ kc0)) | go_simp)
  replace kc1 : w19.cell? ⟨w7.heap.size, 1, none⟩ = some (.int .i64 2) := cell_later hb (by first | (with_reducible exact kc1) | (with_reducible exact cell_al _ kc1) | (with_reducible exact cell_al _ (cell_al _ kc1)) | go_simp)
  replace kd0 : w19.cell? ⟨w10.heap.size, 0, none⟩ = some (.int .i64 3) := cell_later hb (by first | (with_reducible exact kd0) | (with_reducible exact cell_al _ kd0) | (with_reducible exact cell_al _ (cell_al _ kd0)) | go_simp)
  replace kd1 : w19.cell? ⟨w10.heap.size, 1, none⟩ = some (.int .i64 3) := cell_later hb (by first | (with_reducible exact kd1) | (with_reducible exact cell_al _ kd1) | (with_reducible exact cell_al _ (cell_al _ kd1)) | go_simp)
  replace kj0 : w19.cell? ⟨w16.heap.size, 0, none⟩ = some (.int .i64 1) := cell_later hb (by first | (with_reducible exact kj0) | (with_reducible exact cell_al _ kj0) | (with_reducible exact cell_al _ (cell_al _ kj0)) | go_simp)
  replace kj1 : w19.cell? ⟨w16.heap.size, 1, none⟩ = some (.int .i64 9) := cell_later hb (by first | (with_reducible exact kj1) | (with_reducible exact cell_al _ kj1) | (with_reducible exact cell_al _ (cell_al _ kj1)) | go_simp)
  replace za : w3.heap.size < w19.heap.size := World.block_lt_of_cell? _ _ ka0
  replace zb : w5.heap.size < w19.heap.size := World.block_lt_of_cell? _ _ kb0
  replace zc : w7.heap.size < w19.heap.size := World.block_lt_of_cell? _ _ kc0
  replace zd : w10.heap.size < w19.heap.size := World.block_lt_of_cell? _ _ kd0
  replace zj : w16.heap.size < w19.heap.size := World.block_lt_of_cell? _ _ kj0
  replace hb0 : Below w.heap.size w w19 := (by repeat (first | exact Below.refl _ _ | assumption | refine bstep ?_ (by assumption) | refine Below.drew ?_ | refine balloc ?_ _ | refine Below.setCell ?_ (by first | omega | (simp <;> omega)) _))
  clear hb
  go_wp2_with fail
  refine Calls.mono (of_c _ _ _) ?_
  rintro e w20 ⟨rfl, hb⟩
  replace ka0 : w20.cell? ⟨w3.heap.size, 0, none⟩ = some (.int .i64 (-4)) := cell_later hb (by first | (with_reducible exact ka0) | (with_reducible exact cell_al _ ka0) | (with_reducible exact cell_al _ (cell_al _ ka0)) | go_simp)
  replace ka1 : w20.cell? ⟨w3.heap.size, 1, none⟩ = some (.int .i64 1) := cell_later hb (by first | (with_reducible exact ka1) | (with_reducible exact cell_al _ ka1) | (with_reducible exact cell_al _ (cell_al _ ka1)) | go_simp)
  replace kb0 : w20.cell? ⟨w5.heap.size, 0, none⟩ = some (.int .i64 (-2)) := cell_later hb (by first | (with_reducible exact kb0) | (with_reducible exact cell_al _ kb0) | (with_reducible exact cell_al _ (cell_al _ kb0)) | go_simp)
  replace kb1 : w20.cell? ⟨w5.heap.size, 1, none⟩ = some (.int .i64 3) := cell_later hb (by first | (with_reducible exact kb1) | (with_reducible exact cell_al _ kb1) | (with_reducible exact cell_al _ (cell_al _ kb1)) | go_simp)
  replace kc0 : w20.cell? ⟨w7.heap.size, 0, none⟩ = some (.int .i64 (-3)) := cell_later hb (by first | (with_reducible exact kc0) | (with_reducible exact cell_al _ kc0) | (with_reducible exact cell_al _ (cell_al _ kc0)) | go_simp)
  replace kc1 : w20.cell? ⟨w7.heap.size, 1, none⟩ = some (.int .i64 2) := cell_later hb (by first | (with_reducible exact kc1) | (with_reducible exact cell_al _ kc1) | (with_reducible exact cell_al _ (cell_al _ kc1)) | go_simp)
  replace kd0 : w20.cell? ⟨w10.heap.size, 0, none⟩ = some (.int .i64 3) := cell_later hb (by first | (with_reducible exact kd0) | (with_reducible exact cell_al _ kd0) | (with_reducible exact cell_al _ (cell_al _ kd0)) | go_simp)
  replace kd1 : w20.cell? ⟨w10.heap.size, 1, none⟩ = some (.int .i64 3) := cell_later hb (by first | (with_reducible exact kd1) | (with_reducible exact cell_al _ kd1) | (with_reducible exact cell_al _ (cell_al _ kd1)) | go_simp)
  replace kj0 : w20.cell? ⟨w16.heap.size, 0, none⟩ = some (.int .i64 1) := cell_later hb (by first | (with_reducible exact kj0) | (with_reducible exact cell_al _ kj0) | (with_reducible exact cell_al _ (cell_al _ kj0)) | go_simp)
  replace kj1 : w20.cell? ⟨w16.heap.size, 1, none⟩ = some (.int .i64 9) := cell_later hb (by first | (with_reducible exact kj1) | (with_reducible exact cell_al _ kj1) | (with_reducible exact cell_al _ (cell_al _ kj1)) | go_simp)
  have kl0 : w20.cell? ⟨w19.heap.size, 0, none⟩ = some (.int .i64 (-3)) := cell_later hb (by go_simp)
  have kl1 : w20.cell? ⟨w19.heap.size, 1, none⟩ = some (.int .i64 5) := cell_later hb (by go_simp)
  have kl2 : w20.cell? ⟨w19.heap.size, 2, none⟩ = some (.int .i64 2) := cell_later hb (by go_simp)
  have kl3 : w20.cell? ⟨w19.heap.size, 3, none⟩ = some (.int .i64 8) := cell_later hb (by go_simp)
  replace za : w3.heap.size < w20.heap.size := World.block_lt_of_cell? _ _ ka0
  replace zb : w5.heap.size < w20.heap.size := World.block_lt_of_cell? _ _ kb0
  replace zc : w7.heap.size < w20.heap.size := World.block_lt_of_cell? _ _ kc0
  replace zd : w10.heap.size < w20.heap.size := World.block_lt_of_cell? _ _ kd0
  replace zj : w16.heap.size < w20.heap.size := World.block_lt_of_cell? _ _ kj0
  have zl : w19.heap.size < w20.heap.size := World.block_lt_of_cell? _ _ kl0
  replace hb0 : Below w.heap.size w w20 := (by repeat (first | exact Below.refl _ _ | assumption | refine bstep ?_ (by assumption) | refine Below.drew ?_ | refine balloc ?_ _ | refine Below.setCell ?_ (by first | omega | (simp <;> omega)) _))
  clear hb
  go_wp2_with fail
  refine Calls.mono (of_c _ _ _) ?_
  rintro e w21 ⟨rfl, hb⟩
  replace ka0 : w21.cell? ⟨w3.heap.size, 0, none⟩ = some (.int .i64 (-4)) := cell_later hb (by first | (with_reducible exact ka0) | (with_reducible exact cell_al _ ka0) | (with_reducible exact cell_al _ (cell_al _ ka0)) | go_simp)
  replace ka1 : w21.cell? ⟨w3.heap.size, 1, none⟩ = some (.int .i64 1) := cell_later hb (by first | (with_reducible exact ka1) | (with_reducible exact cell_al _ ka1) | (with_reducible exact cell_al _ (cell_al _ ka1)) | go_simp)
  replace kb0 : w21.cell? ⟨w5.heap.size, 0, none⟩ = some (.int .i64 (-2)) := cell_later hb (by first | (with_reducible exact kb0) | (with_reducible exact cell_al _ kb0) | (with_reducible exact cell_al _ (cell_al _ kb0)) | go_simp)
  replace kb1 : w21.cell? ⟨w5.heap.size, 1, none⟩ = some (.int .i64 3) := cell_later hb (by first | (with_reducible exact kb1) | (with_reducible exact cell_al _ kb1) | (with_reducible exact cell_al _ (cell_al _ kb1)) | go_simp)
  replace kc0 : w21.cell? ⟨w7.heap.size, 0, none⟩ = some (.int .i64 (-3)) := cell_later hb (by first | (with_reducible exact kc0) | (with_reducible exact cell_al _ kc0) | (with_reducible exact cell_al _ (cell_al _ kc0)) | go_simp)
  replace kc1 : w21.cell? ⟨w7.heap.size, 1, none⟩ = some (.int .i64 2) := cell_later hb (by first | (with_reducible exact kc1) | (with_reducible exact cell_al _ kc1) | (with_reducible exact cell_al _ (cell_al _ kc1)) | go_simp)
  replace kd0 : w21.cell? ⟨w10.heap.size, 0, none⟩ = some (.int .i64 3) := cell_later hb (by first | (with_reducible exact kd0) | (with_reducible exact cell_al _ kd0) | (with_reducible exact cell_al _ (cell_al _ kd0)) | go_simp)
  replace kd1 : w21.cell? ⟨w10.heap.size, 1, none⟩ = some (.int .i64 3) := cell_later hb (by first | (with_reducible exact kd1) | (with_reducible exact cell_al _ kd1) | (with_reducible exact cell_al _ (cell_al _ kd1)) | go_simp)
  replace kj0 : w21.cell? ⟨w16.heap.size, 0, none⟩ = some (.int .i64 1) := cell_later hb (by first | (with_reducible exact kj0) | (with_reducible exact cell_al _ kj0) | (with_reducible exact cell_al _ (cell_al _ kj0)) | go_simp)
  replace kj1 : w21.cell? ⟨w16.heap.size, 1, none⟩ = some (.int .i64 9) := cell_later hb (by first | (with_reducible exact kj1) | (with_reducible exact cell_al _ kj1) | (with_reducible exact cell_al _ (cell_al _ kj1)) | go_simp)
  replace kl0 : w21.cell? ⟨w19.heap.size, 0, none⟩ = some (.int .i64 (-3)) := cell_later hb (by first | (with_reducible exact kl0) | (with_reducible exact cell_al _ kl0) | (with_reducible exact cell_al _ (cell_al _ kl0)) | go_simp)
  replace kl1 : w21.cell? ⟨w19.heap.size, 1, none⟩ = some (.int .i64 5) := cell_later hb (by first | (with_reducible exact kl1) | (with_reducible exact cell_al _ kl1) | (with_reducible exact cell_al _ (cell_al _ kl1)) | go_simp)
  replace kl2 : w21.cell? ⟨w19.heap.size, 2, none⟩ = some (.int .i64 2) := cell_later hb (by first | (with_reducible exact kl2) | (with_reducible exact cell_al _ kl2) | (with_reducible exact cell_al _ (cell_al _ kl2)) | go_simp)
  replace kl3 : w21.cell? ⟨w19.heap.size, 3, none⟩ = some (.int .i64 8) := cell_later hb (by first | (with_reducible exact kl3) | (with_reducible exact cell_al _ kl3) | (with_reducible exact cell_al _ (cell_al _ kl3)) | go_simp)
  replace za : w3.heap.size < w21.heap.size := World.block_lt_of_cell? _ _ ka0
  replace zb : w5.heap.size < w21.heap.size := World.block_lt_of_cell? _ _ kb0
  replace zc : w7.heap.size < w21.heap.size := World.block_lt_of_cell? _ _ kc0
  replace zd : w10.heap.size < w21.heap.size := World.block_lt_of_cell? _ _ kd0
  replace zj : w16.heap.size < w21.heap.size := World.block_lt_of_cell? _ _ kj0
  replace zl : w19.heap.size < w21.heap.size := World.block_lt_of_cell? _ _ kl0
  replace hb0 : Below w.heap.size w w21 := (by repeat (first | exact Below.refl _ _ | assumption | refine bstep ?_ (by assumption) | refine Below.drew ?_ | refine balloc ?_ _ | refine Below.setCell ?_ (by first | omega | (simp <;> omega)) _))
  clear hb
  go_wp2_with fail
  refine Calls.mono (t7' _) ?_
  rintro e w22 ⟨rfl, hb⟩
  replace ka0 : w22.cell? ⟨w3.heap.size, 0, none⟩ = some (.int .i64 (-4)) := cell_later hb (by first | (with_reducible exact ka0) | (with_reducible exact cell_al _ ka0) | (with_reducible exact cell_al _ (cell_al _ ka0)) | go_simp)
  replace ka1 : w22.cell? ⟨w3.heap.size, 1, none⟩ = some (.int .i64 1) := cell_later hb (by first | (with_reducible exact ka1) | (with_reducible exact cell_al _ ka1) | (with_reducible exact cell_al _ (cell_al _ ka1)) | go_simp)
  replace kb0 : w22.cell? ⟨w5.heap.size, 0, none⟩ = some (.int .i64 (-2)) := cell_later hb (by first | (with_reducible exact kb0) | (with_reducible exact cell_al _ kb0) | (with_reducible exact cell_al _ (cell_al _ kb0)) | go_simp)
  replace kb1 : w22.cell? ⟨w5.heap.size, 1, none⟩ = some (.int .i64 3) := cell_later hb (by first | (with_reducible exact kb1) | (with_reducible exact cell_al _ kb1) | (with_reducible exact cell_al _ (cell_al _ kb1)) | go_simp)
  replace kc0 : w22.cell? ⟨w7.heap.size, 0, none⟩ = some (.int .i64 (-3)) := cell_later hb (by first | (with_reducible exact kc0) | (with_reducible exact cell_al _ kc0) | (with_reducible exact cell_al _ (cell_al _ kc0)) | go_simp)
  replace kc1 : w22.cell? ⟨w7.heap.size, 1, none⟩ = some (.int .i64 2) := cell_later hb (by first | (with_reducible exact kc1) | (with_reducible exact cell_al _ kc1) | (with_reducible exact cell_al _ (cell_al _ kc1)) | go_simp)
  replace kd0 : w22.cell? ⟨w10.heap.size, 0, none⟩ = some (.int .i64 3) := cell_later hb (by first | (with_reducible exact kd0) | (with_reducible exact cell_al _ kd0) | (with_reducible exact cell_al _ (cell_al _ kd0)) | go_simp)
  replace kd1 : w22.cell? ⟨w10.heap.size, 1, none⟩ = some (.int .i64 3) := cell_later hb (by first | (with_reducible exact kd1) | (with_reducible exact cell_al _ kd1) | (with_reducible exact cell_al _ (cell_al _ kd1)) | go_simp)
  replace kj0 : w22.cell? ⟨w16.heap.size, 0, none⟩ = some (.int .i64 1) := cell_later hb (by first | (with_reducible exact kj0) | (with_reducible exact cell_al _ kj0) | (with_reducible exact cell_al _ (cell_al _ kj0)) | go_simp)
  replace kj1 : w22.cell? ⟨w16.heap.size, 1, none⟩ = some (.int .i64 9) := cell_later hb (by first | (with_reducible exact kj1) | (with_reducible exact cell_al _ kj1) | (with_reducible exact cell_al _ (cell_al _ kj1)) | go_simp)
  replace kl0 : w22.cell? ⟨w19.heap.size, 0, none⟩ = some (.int .i64 (-3)) := cell_later hb (by first | (with_reducible exact kl0) | (with_reducible exact cell_al _ kl0) | (with_reducible exact cell_al _ (cell_al _ kl0)) | go_simp)
  replace kl1 : w22.cell? ⟨w19.heap.size, 1, none⟩ = some (.int .i64 5) := cell_later hb (by first | (with_reducible exact kl1) | (with_reducible exact cell_al _ kl1) | (with_reducible exact cell_al _ (cell_al _ kl1)) | go_simp)
  replace kl2 : w22.cell? ⟨w19.heap.size, 2, none⟩ = some (.int .i64 2) := cell_later hb (by first | (with_reducible exact kl2) | (with_reducible exact cell_al _ kl2) | (with_reducible exact cell_al _ (cell_al _ kl2)) | go_simp)
  replace kl3 : w22.cell? ⟨w19.heap.size, 3, none⟩ = some (.int .i64 8) := cell_later hb (by first | (with_reducible exact kl3) | (with_reducible exact cell_al _ kl3) | (with_reducible exact cell_al _ (cell_al _ kl3)) | go_simp)
  replace za : w3.heap.size < w22.heap.size := World.block_lt_of_cell? _ _ ka0
  replace zb : w5.heap.size < w22.heap.size := World.block_lt_of_cell? _ _ kb0
  replace zc : w7.heap.size < w22.heap.size := World.block_lt_of_cell? _ _ kc0
  replace zd : w10.heap.size < w22.heap.size := World.block_lt_of_cell? _ _ kd0
  replace zj : w16.heap.size < w22.heap.size := World.block_lt_of_cell? _ _ kj0
  replace zl : w19.heap.size < w22.heap.size := World.block_lt_of_cell? _ _ kl0
  replace hb0 : Below w.heap.size w w22 := (by repeat (first | exact Below.refl _ _ | assumption | refine bstep ?_ (by assumption) | refine Below.drew ?_ | refine balloc ?_ _ | refine Below.setCell ?_ (by first | omega | (simp <;> omega)) _))
  clear hb
  go_wp2_with fail
  go_region_held3 (fun w' => w'.cell? ⟨w3.heap.size, 0, none⟩ = some (.int .i64 (-4)) ∧ w'.cell? ⟨w3.heap.size, 1, none⟩ = some (.int .i64 1) ∧ w'.cell? ⟨w5.heap.size, 0, none⟩ = some (.int .i64 (-2)) ∧ w'.cell? ⟨w5.heap.size, 1, none⟩ = some (.int .i64 3) ∧ w'.cell? ⟨w7.heap.size, 0, none⟩ = some (.int .i64 (-3)) ∧ w'.cell? ⟨w7.heap.size, 1, none⟩ = some (.int .i64 2) ∧ w'.cell? ⟨w10.heap.size, 0, none⟩ = some (.int .i64 3) ∧ w'.cell? ⟨w10.heap.size, 1, none⟩ = some (.int .i64 3) ∧ w'.cell? ⟨w16.heap.size, 0, none⟩ = some (.int .i64 1) ∧ w'.cell? ⟨w16.heap.size, 1, none⟩ = some (.int .i64 9) ∧ w'.cell? ⟨w22.heap.size, 0, none⟩ = some (.int .i64 3) ∧ w'.cell? ⟨w22.heap.size, 1, none⟩ = some (.int .i64 8)) (first | (go_keep; done) | ((repeat' apply And.intro) <;> go_simp)) (first | (go_at_call 38; refine Calls.mono (of_c _ _ _) ?_; rintro e wr ⟨rfl, hb⟩; have ka0 : wr.cell? ⟨w3.heap.size, 0, none⟩ = some (.int .i64 (-4)) := cell_later hb (by first | (with_reducible assumption) | go_simp); have ka1 : wr.cell? ⟨w3.heap.size, 1, none⟩ = some (.int .i64 1) := cell_later hb (by first | (with_reducible assumption) | go_simp); have za : w3.heap.size < wr.heap.size := World.block_lt_of_cell? _ _ ka0; have kb0 : wr.cell? ⟨w5.heap.size, 0, none⟩ = some (.int .i64 (-2)) := cell_later hb (by first | (with_reducible assumption) | go_simp); have kb1 : wr.cell? ⟨w5.heap.size, 1, none⟩ = some (.int .i64 3) := cell_later hb (by first | (with_reducible assumption) | go_simp); have zb : w5.heap.size < wr.heap.size := World.block_lt_of_cell? _ _ kb0; have kc0 : wr.cell? ⟨w7.heap.size, 0, none⟩ = some (.int .i64 (-3)) := cell_later hb (by first | (with_reducible assumption) | go_simp); have kc1 : wr.cell? ⟨w7.heap.size, 1, none⟩ = some (.int .i64 2) := cell_later hb (by first | (with_reducible assumption) | go_simp); have zc : w7.heap.size < wr.heap.size := World.block_lt_of_cell? _ _ kc0; have kd0 : wr.cell? ⟨w10.heap.size, 0, none⟩ = some (.int .i64 3) := cell_later hb (by first | (with_reducible assumption) | go_simp); have kd1 : wr.cell? ⟨w10.heap.size, 1, none⟩ = some (.int .i64 3) := cell_later hb (by first | (with_reducible assumption) | go_simp); have zd : w10.heap.size < wr.heap.size := World.block_lt_of_cell? _ _ kd0; have kj0 : wr.cell? ⟨w16.heap.size, 0, none⟩ = some (.int .i64 1) := cell_later hb (by first | (with_reducible assumption) | go_simp); have kj1 : wr.cell? ⟨w16.heap.size, 1, none⟩ = some (.int .i64 9) := cell_later hb (by first | (with_reducible assumption) | go_simp); have zj : w16.heap.size < wr.heap.size := World.block_lt_of_cell? _ _ kj0; have kl0 : wr.cell? ⟨w19.heap.size, 0, none⟩ = some (.int .i64 (-3)) := cell_later hb (by first | (with_reducible assumption) | go_simp); have kl1 : wr.cell? ⟨w19.heap.size, 1, none⟩ = some (.int .i64 5) := cell_later hb (by first | (with_reducible assumption) | go_simp); have kl2 : wr.cell? ⟨w19.heap.size, 2, none⟩ = some (.int .i64 2) := cell_later hb (by first | (with_reducible assumption) | go_simp); have kl3 : wr.cell? ⟨w19.heap.size, 3, none⟩ = some (.int .i64 8) := cell_later hb (by first | (with_reducible assumption) | go_simp); have zl : w19.heap.size < wr.heap.size := World.block_lt_of_cell? _ _ kl0; have kn0 : wr.cell? ⟨w22.heap.size, 0, none⟩ = some (.int .i64 3) := cell_later hb (by first | (with_reducible assumption) | go_simp); have kn1 : wr.cell? ⟨w22.heap.size, 1, none⟩ = some (.int .i64 8) := cell_later hb (by first | (with_reducible assumption) | go_simp); have zn : w22.heap.size < wr.heap.size := World.block_lt_of_cell? _ _ kn0; have hb0 : Below w.heap.size w wr := (by repeat (first | exact Below.refl _ _ | assumption | refine bstep ?_ (by assumption) | refine Below.drew ?_ | refine balloc ?_ _ | refine Below.setCell ?_ (by first | omega | (simp <;> omega)) _)); clear hb))
  go_wp2_with fail
  go_region_held3 (fun w' => w'.cell? ⟨w19.heap.size, 0, none⟩ = some (.int .i64 (-3)) ∧ w'.cell? ⟨w19.heap.size, 1, none⟩ = some (.int .i64 5) ∧ w'.cell? ⟨w19.heap.size, 2, none⟩ = some (.int .i64 2) ∧ w'.cell? ⟨w19.heap.size, 3, none⟩ = some (.int .i64 8)) (first | (go_keep; done) | ((repeat' apply And.intro) <;> go_simp)) (first | (go_at_call 38; refine Calls.mono (of_c _ _ _) ?_; rintro e ws ⟨rfl, hb⟩; have ka0 : ws.cell? ⟨w3.heap.size, 0, none⟩ = some (.int .i64 (-4)) := cell_later hb (by first | (with_reducible assumption) | go_simp); have ka1 : ws.cell? ⟨w3.heap.size, 1, none⟩ = some (.int .i64 1) := cell_later hb (by first | (with_reducible assumption) | go_simp); have za : w3.heap.size < ws.heap.size := World.block_lt_of_cell? _ _ ka0; have kb0 : ws.cell? ⟨w5.heap.size, 0, none⟩ = some (.int .i64 (-2)) := cell_later hb (by first | (with_reducible assumption) | go_simp); have kb1 : ws.cell? ⟨w5.heap.size, 1, none⟩ = some (.int .i64 3) := cell_later hb (by first | (with_reducible assumption) | go_simp); have zb : w5.heap.size < ws.heap.size := World.block_lt_of_cell? _ _ kb0; have kc0 : ws.cell? ⟨w7.heap.size, 0, none⟩ = some (.int .i64 (-3)) := cell_later hb (by first | (with_reducible assumption) | go_simp); have kc1 : ws.cell? ⟨w7.heap.size, 1, none⟩ = some (.int .i64 2) := cell_later hb (by first | (with_reducible assumption) | go_simp); have zc : w7.heap.size < ws.heap.size := World.block_lt_of_cell? _ _ kc0; have kd0 : ws.cell? ⟨w10.heap.size, 0, none⟩ = some (.int .i64 3) := cell_later hb (by first | (with_reducible assumption) | go_simp); have kd1 : ws.cell? ⟨w10.heap.size, 1, none⟩ = some (.int .i64 3) := cell_later hb (by first | (with_reducible assumption) | go_simp); have zd : w10.heap.size < ws.heap.size := World.block_lt_of_cell? _ _ kd0; have kj0 : ws.cell? ⟨w16.heap.size, 0, none⟩ = some (.int .i64 1) := cell_later hb (by first | (with_reducible assumption) | go_simp); have kj1 : ws.cell? ⟨w16.heap.size, 1, none⟩ = some (.int .i64 9) := cell_later hb (by first | (with_reducible assumption) | go_simp); have zj : w16.heap.size < ws.heap.size := World.block_lt_of_cell? _ _ kj0; have kl0 : ws.cell? ⟨w19.heap.size, 0, none⟩ = some (.int .i64 (-3)) := cell_later hb (by first | (with_reducible assumption) | go_simp); have kl1 : ws.cell? ⟨w19.heap.size, 1, none⟩ = some (.int .i64 5) := cell_later hb (by first | (with_reducible assumption) | go_simp); have kl2 : ws.cell? ⟨w19.heap.size, 2, none⟩ = some (.int .i64 2) := cell_later hb (by first | (with_reducible assumption) | go_simp); have kl3 : ws.cell? ⟨w19.heap.size, 3, none⟩ = some (.int .i64 8) := cell_later hb (by first | (with_reducible assumption) | go_simp); have zl : w19.heap.size < ws.heap.size := World.block_lt_of_cell? _ _ kl0; have kn0 : ws.cell? ⟨w22.heap.size, 0, none⟩ = some (.int .i64 3) := cell_later hb (by first | (with_reducible assumption) | go_simp); have kn1 : ws.cell? ⟨w22.heap.size, 1, none⟩ = some (.int .i64 8) := cell_later hb (by first | (with_reducible assumption) | go_simp); have zn : w22.heap.size < ws.heap.size := World.block_lt_of_cell? _ _ kn0; have hb0 : Below w.heap.size w ws := (by repeat (first | exact Below.refl _ _ | assumption | refine bstep ?_ (by assumption) | refine Below.drew ?_ | refine balloc ?_ _ | refine Below.setCell ?_ (by first | omega | (simp <;> omega)) _)); clear hb))
  go_wp2
  go_ret
  exact ret_bool (by simp) (by repeat (first | exact Below.refl _ _ | assumption | refine bstep ?_ (by assumption) | refine Below.drew ?_ | refine balloc ?_ _ | refine Below.setCell ?_ (by first | omega | (simp <;> omega)) _))


end Go.Proofs.Ytendnhmobhicmaa
