/- DatL: undo. -/
import Derived.Test.YtlkjpackjjncaaaDatE
import Derived.Test.YtlkjpackjjncaaaDatG
import Derived.Test.YtlkjpackjjncaaaRows
import Derived.WalkKit
import Derived.WalkSpells
import Derived.WalkLawsBesides
import Derived.Lib.Hide
import Derived.Deep.QuietTactic
import Derived.BigQuiet
import Derived.RegionTactic
import Derived.ChangeAlike
import Derived.BigRegion
import Derived.Deep.RegionHeld3
import Derived.Deep.RegionWith
import Derived.Outline
import Derived.Laws.EntriesVeiled
import Derived.Deep.DeepCutAuto
import Derived.IntWalk
namespace Go.Proofs.Ytlkjpackjjncaaa.Da
open Go.RowKit Sp
set_option linter.unusedSimpArgs false
set_option linter.unusedVariables false

set_option maxHeartbeats 3200000 in
theorem both_undoing (m1 m2 m3 m4 m5 m6 n1 n2 n3 n4 n5 n6 : Int) (w : World) (hm1 : -2000000 ≤ m1 ∧ m1 ≤ 2000000) (hm2 : -2000000 ≤ m2 ∧ m2 ≤ 2000000) (hm4 : -2000000 ≤ m4 ∧ m4 ≤ 2000000) (hm5 : -2000000 ≤ m5 ∧ m5 ≤ 2000000) (hn1 : -2000000 ≤ n1 ∧ n1 ≤ 2000000) (hn2 : -2000000 ≤ n2 ∧ n2 ≤ 2000000) (hn4 : -2000000 ≤ n4 ∧ n4 ≤ 2000000) (hn5 : -2000000 ≤ n5 ∧ n5 ≤ 2000000) (hn3 : -100000 ≤ n3 ∧ n3 ≤ 100000) (hn6 : -100000 ≤ n6 ∧ n6 ≤ 100000) (hdt : 250000000000 ≤ n1 * n5 - n2 * n4) : Calls Try.prog 69 #[(.agg #[(.int .i64 m1), (.int .i64 m2), (.int .i64 m3), (.int .i64 m4), (.int .i64 m5), (.int .i64 m6)]), .func (.func 72) #[] #[], (.agg #[(.int .i64 n1), (.int .i64 n2), (.int .i64 n3), (.int .i64 n4), (.int .i64 n5), (.int .i64 n6)])] w (Ret w (.tuple #[(.agg #[(.int .i64 (nr (m1 * 1000000 * 1000000) (n1 * n5 - n2 * n4))), (.int .i64 (nr (m2 * 1000000 * 1000000) (n1 * n5 - n2 * n4))), (.int .i64 (nr (-(nr (m1 * 1000000 * 1000000) (n1 * n5 - n2 * n4) * n3 + nr (m2 * 1000000 * 1000000) (n1 * n5 - n2 * n4) * n6)) 1000000))]), (.agg #[(.int .i64 (nr (m4 * 1000000 * 1000000) (n1 * n5 - n2 * n4))), (.int .i64 (nr (m5 * 1000000 * 1000000) (n1 * n5 - n2 * n4))), (.int .i64 (nr (-(nr (m4 * 1000000 * 1000000) (n1 * n5 - n2 * n4) * n3 + nr (m5 * 1000000 * 1000000) (n1 * n5 - n2 * n4) * n6)) 1000000))])])) := by
  go_enter Try.func69, Try.ntmps69
  go_wp2_with fail
  refine wp_region_held_drew (S := fun w' => w'.cell? ⟨w.heap.size, 0, none⟩ = some (.int .i64 m1) ∧ w'.cell? ⟨w.heap.size, 1, none⟩ = some (.int .i64 m2) ∧ w'.cell? ⟨w.heap.size, 2, none⟩ = some (.int .i64 m3) ∧ w'.cell? ⟨w.heap.size, 3, none⟩ = some (.int .i64 m4) ∧ w'.cell? ⟨w.heap.size, 4, none⟩ = some (.int .i64 m5) ∧ w'.cell? ⟨w.heap.size, 5, none⟩ = some (.int .i64 m6) ∧ w'.cell? ⟨w.heap.size + 1, 0, none⟩ = some (.int .i64 n1) ∧ w'.cell? ⟨w.heap.size + 1, 1, none⟩ = some (.int .i64 n2) ∧ w'.cell? ⟨w.heap.size + 1, 2, none⟩ = some (.int .i64 n3) ∧ w'.cell? ⟨w.heap.size + 1, 3, none⟩ = some (.int .i64 n4) ∧ w'.cell? ⟨w.heap.size + 1, 4, none⟩ = some (.int .i64 n5) ∧ w'.cell? ⟨w.heap.size + 1, 5, none⟩ = some (.int .i64 n6)) (by kernel_rfl) (by first | (go_keep; done) | ((repeat' apply And.intro) <;> go_simp)) (fun hHeld => ?_)
  refine wpAnyH_take (i := 0) (oi := ⟨some 8, _, _, _, _, _⟩) (v := ?_) rfl (by kernel_rfl) (by kernel_rfl) (by kernel_rfl) (fun _ _ _ h => h) (Or.inl ⟨by rfl, ?_⟩) (by assumption) ?_
  rotate_left
  · intro w hSw; (try dsimp only at hSw); go_simp; try with_reducible rfl
  try simp only [Act.put, List.setIfInBounds_toArray, List.set_cons_zero, List.set_cons_succ]
  refine wpAnyH_take (i := 1) (oi := ⟨some 9, _, _, _, _, _⟩) (v := ?_) rfl (by kernel_rfl) (by kernel_rfl) (by kernel_rfl) (fun _ _ _ h => h) (Or.inl ⟨by rfl, ?_⟩) (by assumption) ?_
  rotate_left
  · intro w hSw; (try dsimp only at hSw); go_simp; try with_reducible rfl
  try simp only [Act.put, List.setIfInBounds_toArray, List.set_cons_zero, List.set_cons_succ]
  refine wpAnyH_take (i := 2) (oi := ⟨some 10, _, _, _, _, _⟩) (v := ?_) rfl (by kernel_rfl) (by kernel_rfl) (by kernel_rfl) (fun _ _ _ h => h) (Or.inl ⟨by rfl, ?_⟩) (by assumption) ?_
  rotate_left
  · intro w hSw; (try dsimp only at hSw); go_simp; try with_reducible rfl
  try simp only [Act.put, List.setIfInBounds_toArray, List.set_cons_zero, List.set_cons_succ]
  refine wpAnyH_take (i := 3) (oi := ⟨some 11, _, _, _, _, _⟩) (v := ?_) rfl (by kernel_rfl) (by kernel_rfl) (by kernel_rfl) (fun _ _ _ h => h) (Or.inl ⟨by rfl, ?_⟩) (by assumption) ?_
  rotate_left
  · intro w hSw; (try dsimp only at hSw); go_simp; try with_reducible rfl
  try simp only [Act.put, List.setIfInBounds_toArray, List.set_cons_zero, List.set_cons_succ]
  refine wpAnyH_take (i := 5) (oi := ⟨some 13, _, _, _, _, _⟩) (v := ?_) rfl (by kernel_rfl) (by kernel_rfl) (by kernel_rfl) (fun _ _ _ h => h) (Or.inl ⟨by rfl, ?_⟩) (by assumption) ?_
  rotate_left
  · intro w hSw; (try dsimp only at hSw); go_simp; try with_reducible rfl
  try simp only [Act.put, List.setIfInBounds_toArray, List.set_cons_zero, List.set_cons_succ]
  refine wpAnyH_take (i := 6) (oi := ⟨some 14, _, _, _, _, _⟩) (v := ?_) rfl (by kernel_rfl) (by kernel_rfl) (by kernel_rfl) (fun _ _ _ h => h) (Or.inl ⟨by rfl, ?_⟩) (by assumption) ?_
  rotate_left
  · intro w hSw; (try dsimp only at hSw); go_simp; try with_reducible rfl
  try simp only [Act.put, List.setIfInBounds_toArray, List.set_cons_zero, List.set_cons_succ]
  refine wpAnyH_take (i := 7) (oi := ⟨some 15, _, _, _, _, _⟩) (v := ?_) rfl (by kernel_rfl) (by kernel_rfl) (by kernel_rfl) (fun _ _ _ h => h) (Or.inl ⟨by rfl, ?_⟩) (by assumption) ?_
  rotate_left
  · intro w hSw; (try dsimp only at hSw); go_simp; try with_reducible rfl
  try simp only [Act.put, List.setIfInBounds_toArray, List.set_cons_zero, List.set_cons_succ]
  refine wpAnyH_take (i := 8) (oi := ⟨some 16, _, _, _, _, _⟩) (v := ?_) rfl (by kernel_rfl) (by kernel_rfl) (by kernel_rfl) (fun _ _ _ h => h) (Or.inl ⟨by rfl, ?_⟩) (by assumption) ?_
  rotate_left
  · intro w hSw; (try dsimp only at hSw); go_simp; try with_reducible rfl
  try simp only [Act.put, List.setIfInBounds_toArray, List.set_cons_zero, List.set_cons_succ]
  refine wpAnyH_ready (rs := [4]) (by kernel_rfl) (by simp) ?_
  refine AllReadyH.cons (o := ⟨some 12, _, _, _, _, _⟩) rfl (fun KK hKK => ?_) AllReadyH.nil
  go_simp
  refine Calls.mono (undoing_c m1 m2 m3 n1 n2 n3 n4 n5 n6 _ hm1 hm2 hn1 hn2 hn4 hn5 hn3 hn6 hdt) ?_
  rintro e wt1 ⟨rfl, hb⟩
  have km0 : wt1.cell? ⟨w.heap.size, 0, none⟩ = some (.int .i64 m1) := cell_later hb (by go_simp)
  have km1 : wt1.cell? ⟨w.heap.size, 1, none⟩ = some (.int .i64 m2) := cell_later hb (by go_simp)
  have km2 : wt1.cell? ⟨w.heap.size, 2, none⟩ = some (.int .i64 m3) := cell_later hb (by go_simp)
  have km3 : wt1.cell? ⟨w.heap.size, 3, none⟩ = some (.int .i64 m4) := cell_later hb (by go_simp)
  have km4 : wt1.cell? ⟨w.heap.size, 4, none⟩ = some (.int .i64 m5) := cell_later hb (by go_simp)
  have km5 : wt1.cell? ⟨w.heap.size, 5, none⟩ = some (.int .i64 m6) := cell_later hb (by go_simp)
  have kn0 : wt1.cell? ⟨w.heap.size + 1, 0, none⟩ = some (.int .i64 n1) := cell_later hb (by go_simp)
  have kn1 : wt1.cell? ⟨w.heap.size + 1, 1, none⟩ = some (.int .i64 n2) := cell_later hb (by go_simp)
  have kn2 : wt1.cell? ⟨w.heap.size + 1, 2, none⟩ = some (.int .i64 n3) := cell_later hb (by go_simp)
  have kn3 : wt1.cell? ⟨w.heap.size + 1, 3, none⟩ = some (.int .i64 n4) := cell_later hb (by go_simp)
  have kn4 : wt1.cell? ⟨w.heap.size + 1, 4, none⟩ = some (.int .i64 n5) := cell_later hb (by go_simp)
  have kn5 : wt1.cell? ⟨w.heap.size + 1, 5, none⟩ = some (.int .i64 n6) := cell_later hb (by go_simp)
  have ku0 : wt1.cell? ⟨w.heap.size + 1 + 1, 0, none⟩ = some (.int .i64 0) := cell_later hb (by go_simp)
  have ju0 : wt1.frozen? ⟨w.heap.size + 1 + 1, 0, none⟩ = false := by rw [(bcell hb).2 _ _ (by first | omega | (simp <;> omega))]; go_simp
  have ku1 : wt1.cell? ⟨w.heap.size + 1 + 1, 1, none⟩ = some (.int .i64 0) := cell_later hb (by go_simp)
  have ju1 : wt1.frozen? ⟨w.heap.size + 1 + 1, 1, none⟩ = false := by rw [(bcell hb).2 _ _ (by first | omega | (simp <;> omega))]; go_simp
  have ku2 : wt1.cell? ⟨w.heap.size + 1 + 1, 2, none⟩ = some (.int .i64 0) := cell_later hb (by go_simp)
  have ju2 : wt1.frozen? ⟨w.heap.size + 1 + 1, 2, none⟩ = false := by rw [(bcell hb).2 _ _ (by first | omega | (simp <;> omega))]; go_simp
  have kv0 : wt1.cell? ⟨w.heap.size + 1 + 1 + 1, 0, none⟩ = some (.int .i64 0) := cell_later hb (by go_simp)
  have jv0 : wt1.frozen? ⟨w.heap.size + 1 + 1 + 1, 0, none⟩ = false := by rw [(bcell hb).2 _ _ (by first | omega | (simp <;> omega))]; go_simp
  have kv1 : wt1.cell? ⟨w.heap.size + 1 + 1 + 1, 1, none⟩ = some (.int .i64 0) := cell_later hb (by go_simp)
  have jv1 : wt1.frozen? ⟨w.heap.size + 1 + 1 + 1, 1, none⟩ = false := by rw [(bcell hb).2 _ _ (by first | omega | (simp <;> omega))]; go_simp
  have kv2 : wt1.cell? ⟨w.heap.size + 1 + 1 + 1, 2, none⟩ = some (.int .i64 0) := cell_later hb (by go_simp)
  have jv2 : wt1.frozen? ⟨w.heap.size + 1 + 1 + 1, 2, none⟩ = false := by rw [(bcell hb).2 _ _ (by first | omega | (simp <;> omega))]; go_simp
  have zm : w.heap.size < wt1.heap.size := World.block_lt_of_cell? _ _ km0
  have zm_wt1 := zm
  have zn : w.heap.size + 1 < wt1.heap.size := World.block_lt_of_cell? _ _ kn0
  have zn_wt1 := zn
  have zu : w.heap.size + 1 + 1 < wt1.heap.size := World.block_lt_of_cell? _ _ ku0
  have zu_wt1 := zu
  have zv : w.heap.size + 1 + 1 + 1 < wt1.heap.size := World.block_lt_of_cell? _ _ kv0
  have zv_wt1 := zv
  have hb0 : Below w.heap.size w wt1 := (by repeat (first | with_reducible exact Below.refl _ _ | with_reducible assumption | with_reducible refine Below.setCell ?_ (by first | omega | (simp <;> omega)) _ | with_reducible refine balloc ?_ _ | with_reducible refine Below.drew ?_ | with_reducible refine bstep ?_ (by with_reducible assumption)))
  have hs_wt1 := hb.size; (try simp only [World.size_alloc, World.size_setCell] at hs_wt1)
  clear hb
  (try go_wp2_with fail)
  refine hKK.out _ _ (by first | (go_keep; done) | ((repeat' apply And.intro) <;> go_simp)) (fun hHeld => ?_)
  clear hKK KK
  try simp only [Act.put, List.setIfInBounds_toArray, List.set_cons_zero, List.set_cons_succ]
  refine wpAnyH_ready (rs := [9]) (by kernel_rfl) (by simp) ?_
  refine AllReadyH.cons (o := ⟨some 17, _, _, _, _, _⟩) rfl (fun KK hKK => ?_) AllReadyH.nil
  go_simp
  refine Calls.mono (undoing_c m4 m5 m6 n1 n2 n3 n4 n5 n6 _ hm4 hm5 hn1 hn2 hn4 hn5 hn3 hn6 hdt) ?_
  rintro e wt2 ⟨rfl, hb⟩
  replace km0 := cell_later hb km0
  replace km1 := cell_later hb km1
  replace km2 := cell_later hb km2
  replace km3 := cell_later hb km3
  replace km4 := cell_later hb km4
  replace km5 := cell_later hb km5
  replace kn0 := cell_later hb kn0
  replace kn1 := cell_later hb kn1
  replace kn2 := cell_later hb kn2
  replace kn3 := cell_later hb kn3
  replace kn4 := cell_later hb kn4
  replace kn5 := cell_later hb kn5
  replace ju0 := fro_later hb ku0 ju0
  replace ku0 := cell_later hb ku0
  replace ju1 := fro_later hb ku1 ju1
  replace ku1 := cell_later hb ku1
  replace ju2 := fro_later hb ku2 ju2
  replace ku2 := cell_later hb ku2
  replace jv0 := fro_later hb kv0 jv0
  replace kv0 := cell_later hb kv0
  replace jv1 := fro_later hb kv1 jv1
  replace kv1 := cell_later hb kv1
  replace jv2 := fro_later hb kv2 jv2
  replace kv2 := cell_later hb kv2
  replace zm : w.heap.size < wt2.heap.size := World.block_lt_of_cell? _ _ km0
  have zm_wt2 := zm
  replace zn : w.heap.size + 1 < wt2.heap.size := World.block_lt_of_cell? _ _ kn0
  have zn_wt2 := zn
  replace zu : w.heap.size + 1 + 1 < wt2.heap.size := World.block_lt_of_cell? _ _ ku0
  have zu_wt2 := zu
  replace zv : w.heap.size + 1 + 1 + 1 < wt2.heap.size := World.block_lt_of_cell? _ _ kv0
  have zv_wt2 := zv
  replace hb0 : Below w.heap.size w wt2 := (by repeat (first | with_reducible exact Below.refl _ _ | with_reducible assumption | with_reducible refine Below.setCell ?_ (by first | omega | (simp <;> omega)) _ | with_reducible refine balloc ?_ _ | with_reducible refine Below.drew ?_ | with_reducible refine bstep ?_ (by with_reducible assumption)))
  have hs_wt2 : wt1.heap.size ≤ wt2.heap.size := hb.size
  clear hb
  (try go_wp2_with fail)
  refine hKK.out _ _ (by first | (go_keep; done) | ((repeat' apply And.intro) <;> go_simp)) (fun hHeld => ?_)
  clear hKK KK
  try simp only [Act.put, List.setIfInBounds_toArray, List.set_cons_zero, List.set_cons_succ]
  refine wpAnyH_ready (rs := [10]) (by kernel_rfl) (by simp) ?_
  refine AllReadyH.cons (o := ⟨none, _, _, _, _, _⟩) rfl (fun KK hKK => ?_) AllReadyH.nil
  go_simp
  (try go_wp2_with fail)
  refine hKK.out _ _ (by first | (go_keep; done) | ((repeat' apply And.intro) <;> go_simp)) (fun hHeld => ?_)
  clear hKK KK
  try simp only [Act.put, List.setIfInBounds_toArray, List.set_cons_zero, List.set_cons_succ]
  refine wpAnyH_ready (rs := [11]) (by kernel_rfl) (by simp) ?_
  refine AllReadyH.cons (o := ⟨none, _, _, _, _, _⟩) rfl (fun KK hKK => ?_) AllReadyH.nil
  go_simp
  (try go_wp2_with fail)
  refine hKK.out _ _ (by first | (go_keep; done) | ((repeat' apply And.intro) <;> go_simp)) (fun hHeld => ?_)
  clear hKK KK
  try simp only [Act.put, List.setIfInBounds_toArray, List.set_cons_zero, List.set_cons_succ]
  refine wpAnyH_done (by kernel_rfl) ?_ _
  (try dsimp only [Exit.then, Met])
  go_wp2
  refine bodyPost_ret ?_ rfl ⟨rfl, (by repeat (first | with_reducible exact Below.refl _ _ | with_reducible assumption | with_reducible refine Below.setCell ?_ (by first | omega | (simp <;> omega)) _ | with_reducible refine balloc ?_ _ | with_reducible refine Below.drew ?_ | with_reducible refine bstep ?_ (by with_reducible assumption)))⟩
  simp [results, Try.results69, go_sem, ku0, ku1, ku2, kv0, kv1, kv2]

set_option maxRecDepth 20000 in
set_option maxHeartbeats 12800000 in
theorem undo_c (m1 m2 m3 m4 m5 m6 m7 : Int) (w : World) (hm1 : -2000000 ≤ m1 ∧ m1 ≤ 2000000) (hm2 : -2000000 ≤ m2 ∧ m2 ≤ 2000000) (hm4 : -2000000 ≤ m4 ∧ m4 ≤ 2000000) (hm5 : -2000000 ≤ m5 ∧ m5 ≤ 2000000) (hm3 : -100000 ≤ m3 ∧ m3 ≤ 100000) (hm6 : -100000 ≤ m6 ∧ m6 ≤ 100000) (hm7 : 0 ≤ m7 ∧ m7 ≤ 1000) (hdt : 250000000000 ≤ m1 * m5 - m2 * m4) : Calls Try.prog 51 #[(.agg #[(.int .i64 m1), (.int .i64 m2), (.int .i64 m3), (.int .i64 m4), (.int .i64 m5), (.int .i64 m6), (.int .i64 m7)])] w (Ret w (.agg #[(.int .i64 (nr (m5 * 1000000 * 1000000) (m1 * m5 - m2 * m4))), (.int .i64 (nr (-m2 * 1000000 * 1000000) (m1 * m5 - m2 * m4))), (.int .i64 (nr (-(nr (m5 * 1000000 * 1000000) (m1 * m5 - m2 * m4) * m3 + nr (-m2 * 1000000 * 1000000) (m1 * m5 - m2 * m4) * m6)) 1000000)), (.int .i64 (nr (-m4 * 1000000 * 1000000) (m1 * m5 - m2 * m4))), (.int .i64 (nr (m1 * 1000000 * 1000000) (m1 * m5 - m2 * m4))), (.int .i64 (nr (-(nr (-m4 * 1000000 * 1000000) (m1 * m5 - m2 * m4) * m3 + nr (m1 * 1000000 * 1000000) (m1 * m5 - m2 * m4) * m6)) 1000000)), (.int .i64 (sp (nr (m5 * 1000000 * 1000000) (m1 * m5 - m2 * m4)) (nr (-m2 * 1000000 * 1000000) (m1 * m5 - m2 * m4)) (nr (-m4 * 1000000 * 1000000) (m1 * m5 - m2 * m4)) (nr (m1 * 1000000 * 1000000) (m1 * m5 - m2 * m4)) m7 1 + 2))])) := by
  have db := det_bd hm1 hm2 hm4 hm5
  have A1 := fun w => both_undoing m5 (-m2) 0 (-m4) m1 0 m1 m2 m3 m4 m5 m6 w hm5 (by omega) (by omega) hm1 hm1 hm2 hm4 hm5 hm3 hm6 hdt
  have T1 := fun w => turned_c m1 m2 m3 m4 m5 m6 w hm2.1 hm2.2 hm4.1 hm4.2
  have q1 := nr_bd (n := m5 * 1000000 * 1000000) hdt (by omega) (by omega)
  have q2 := nr_bd (n := -m2 * 1000000 * 1000000) hdt (by omega) (by omega)
  have q4 := nr_bd (n := -m4 * 1000000 * 1000000) hdt (by omega) (by omega)
  have q5 := nr_bd (n := m1 * 1000000 * 1000000) hdt (by omega) (by omega)
  generalize nr (m5 * 1000000 * 1000000) (m1 * m5 - m2 * m4) = c1 at *
  generalize nr (-m2 * 1000000 * 1000000) (m1 * m5 - m2 * m4) = c2 at *
  generalize nr (-m4 * 1000000 * 1000000) (m1 * m5 - m2 * m4) = c4 at *
  generalize nr (m1 * 1000000 * 1000000) (m1 * m5 - m2 * m4) = c5 at *
  generalize nr (-(c1 * m3 + c2 * m6)) 1000000 = c3 at *
  generalize nr (-(c4 * m3 + c5 * m6)) 1000000 = c6 at *
  have S1 := fun w => spread_c c1 c2 c3 c4 c5 c6 m7 1 w (by omega) (by omega) (by omega) (by omega) hm7 (by omega)
  have e1 : upd (max (max c1 (-c1) + max c2 (-c2) + 1) (max c4 (-c4) + max c5 (-c5) + 1) * m7) 1000000 = sp c1 c2 c4 c5 m7 1 := rfl
  rw [e1] at S1
  clear e1
  have bS : 0 ≤ sp c1 c2 c4 c5 m7 1 ∧ sp c1 c2 c4 c5 m7 1 ≤ 1000000 := by
    have hW : 0 ≤ tW c1 c2 c4 c5 1 ∧ tW c1 c2 c4 c5 1 ≤ 17000000 := by unfold tW; omega
    have hm := mul_bd (a := tW c1 c2 c4 c5 1) (b := m7) (A := 17000000) (B := 1000) (by omega) (by omega) (by omega) (by omega)
    have h0 := Int.mul_nonneg hW.1 hm7.1
    have d := upd_spec (n := tW c1 c2 c4 c5 1 * m7) (d := 1000000) (by omega)
    unfold sp
    omega
  generalize sp c1 c2 c4 c5 m7 1 = S at *
  have e2 : IntKind.i64.wrap (S + 2) = S + 2 := IntWalk.i64_in _ (by omega)
  clear hm1 hm2 hm3 hm4 hm5 hm6 db q1 q2 q4 q5
  go_enter Try.func51, Try.ntmps51
  go_upto_region 1 with fail
  go_cut [3, 4] (fun s3 s4 wx => ∃ gx gy : Nat, s3 = .pointer (some ⟨gx, 0, none⟩) ∧ s4 = .pointer (some ⟨gy, 0, none⟩) ∧ w.heap.size + 1 + 1 ≤ gx ∧ w.heap.size + 1 + 1 ≤ gy ∧ wx.cell? ⟨gx, 0, none⟩ = some (.int .i64 c1) ∧ wx.cell? ⟨gx, 1, none⟩ = some (.int .i64 c2) ∧ wx.cell? ⟨gx, 2, none⟩ = some (.int .i64 c3) ∧ wx.cell? ⟨gy, 0, none⟩ = some (.int .i64 c4) ∧ wx.cell? ⟨gy, 1, none⟩ = some (.int .i64 c5) ∧ wx.cell? ⟨gy, 2, none⟩ = some (.int .i64 c6) ∧ wx.cell? ⟨w.heap.size, 0, none⟩ = some (.int .i64 m1) ∧ wx.cell? ⟨w.heap.size, 1, none⟩ = some (.int .i64 m2) ∧ wx.cell? ⟨w.heap.size, 2, none⟩ = some (.int .i64 m3) ∧ wx.cell? ⟨w.heap.size, 3, none⟩ = some (.int .i64 m4) ∧ wx.cell? ⟨w.heap.size, 4, none⟩ = some (.int .i64 m5) ∧ wx.cell? ⟨w.heap.size, 5, none⟩ = some (.int .i64 m6) ∧ wx.cell? ⟨w.heap.size, 6, none⟩ = some (.int .i64 m7) ∧ wx.cell? ⟨w.heap.size + 1, 0, none⟩ = some (.int .i64 0) ∧ wx.frozen? ⟨w.heap.size + 1, 0, none⟩ = false ∧ wx.cell? ⟨w.heap.size + 1, 1, none⟩ = some (.int .i64 0) ∧ wx.frozen? ⟨w.heap.size + 1, 1, none⟩ = false ∧ wx.cell? ⟨w.heap.size + 1, 2, none⟩ = some (.int .i64 0) ∧ wx.frozen? ⟨w.heap.size + 1, 2, none⟩ = false ∧ wx.cell? ⟨w.heap.size + 1, 3, none⟩ = some (.int .i64 0) ∧ wx.frozen? ⟨w.heap.size + 1, 3, none⟩ = false ∧ wx.cell? ⟨w.heap.size + 1, 4, none⟩ = some (.int .i64 0) ∧ wx.frozen? ⟨w.heap.size + 1, 4, none⟩ = false ∧ wx.cell? ⟨w.heap.size + 1, 5, none⟩ = some (.int .i64 0) ∧ wx.frozen? ⟨w.heap.size + 1, 5, none⟩ = false ∧ wx.cell? ⟨w.heap.size + 1, 6, none⟩ = some (.int .i64 0) ∧ wx.frozen? ⟨w.heap.size + 1, 6, none⟩ = false ∧ Below w.heap.size w wx)
  case first =>
    refine wp_region_held_drew (S := fun w' => w'.cell? ⟨w.heap.size, 0, none⟩ = some (.int .i64 m1) ∧ w'.cell? ⟨w.heap.size, 1, none⟩ = some (.int .i64 m2) ∧ w'.cell? ⟨w.heap.size, 2, none⟩ = some (.int .i64 m3) ∧ w'.cell? ⟨w.heap.size, 3, none⟩ = some (.int .i64 m4) ∧ w'.cell? ⟨w.heap.size, 4, none⟩ = some (.int .i64 m5) ∧ w'.cell? ⟨w.heap.size, 5, none⟩ = some (.int .i64 m6) ∧ w'.cell? ⟨w.heap.size, 6, none⟩ = some (.int .i64 m7)) (by kernel_rfl) (by first | (go_keep; done) | ((repeat' apply And.intro) <;> go_simp)) (fun hHeld => ?_)
    refine wpAnyH_take (i := 0) (oi := ⟨some 7, _, _, _, _, _⟩) (v := ?_) rfl (by kernel_rfl) (by kernel_rfl) (by kernel_rfl) (fun _ _ _ h => h) (Or.inl ⟨by rfl, ?_⟩) (by assumption) ?_
    rotate_left
    · intro w hSw; (try dsimp only at hSw); go_simp; try with_reducible rfl
    try simp only [Act.put, List.setIfInBounds_toArray, List.set_cons_zero, List.set_cons_succ]
    refine wpAnyH_take (i := 1) (oi := ⟨some 8, _, _, _, _, _⟩) (v := ?_) rfl (by kernel_rfl) (by kernel_rfl) (by kernel_rfl) (fun _ _ _ h => h) (Or.inl ⟨by rfl, ?_⟩) (by assumption) ?_
    rotate_left
    · intro w hSw; (try dsimp only at hSw); go_simp; try with_reducible rfl
    try simp only [Act.put, List.setIfInBounds_toArray, List.set_cons_zero, List.set_cons_succ]
    refine wpAnyH_take (i := 3) (oi := ⟨some 10, _, _, _, _, _⟩) (v := ?_) rfl (by kernel_rfl) (by kernel_rfl) (by kernel_rfl) (fun _ _ _ h => h) (Or.inl ⟨by rfl, ?_⟩) (by assumption) ?_
    rotate_left
    · intro w hSw; (try dsimp only at hSw); go_simp; try with_reducible rfl
    try simp only [Act.put, List.setIfInBounds_toArray, List.set_cons_zero, List.set_cons_succ]
    refine wpAnyH_take (i := 4) (oi := ⟨some 11, _, _, _, _, _⟩) (v := ?_) rfl (by kernel_rfl) (by kernel_rfl) (by kernel_rfl) (fun _ _ _ h => h) (Or.inl ⟨by rfl, ?_⟩) (by assumption) ?_
    rotate_left
    · intro w hSw; (try dsimp only at hSw); go_simp; try with_reducible rfl
    try simp only [Act.put, List.setIfInBounds_toArray, List.set_cons_zero, List.set_cons_succ]
    refine wpAnyH_ready (rs := [2, 9, 10]) (by kernel_rfl) (by simp) ?_
    refine AllReadyH.cons (o := ⟨some 9, _, _, _, _, _⟩) rfl (fun KK hKK => ?_) (AllReadyH.cons (o := ⟨some 3, _, _, _, _, _⟩) rfl (fun KK hKK => ?_) (AllReadyH.cons (o := ⟨some 4, _, _, _, _, _⟩) rfl (fun KK hKK => ?_) AllReadyH.nil))
    · go_simp
      refine Calls.mono (T1 _) ?_
      rintro e wt1 ⟨rfl, hb⟩
      have km0 : wt1.cell? ⟨w.heap.size, 0, none⟩ = some (.int .i64 m1) := cell_later hb (by go_simp)
      have km1 : wt1.cell? ⟨w.heap.size, 1, none⟩ = some (.int .i64 m2) := cell_later hb (by go_simp)
      have km2 : wt1.cell? ⟨w.heap.size, 2, none⟩ = some (.int .i64 m3) := cell_later hb (by go_simp)
      have km3 : wt1.cell? ⟨w.heap.size, 3, none⟩ = some (.int .i64 m4) := cell_later hb (by go_simp)
      have km4 : wt1.cell? ⟨w.heap.size, 4, none⟩ = some (.int .i64 m5) := cell_later hb (by go_simp)
      have km5 : wt1.cell? ⟨w.heap.size, 5, none⟩ = some (.int .i64 m6) := cell_later hb (by go_simp)
      have km6 : wt1.cell? ⟨w.heap.size, 6, none⟩ = some (.int .i64 m7) := cell_later hb (by go_simp)
      have kr0 : wt1.cell? ⟨w.heap.size + 1, 0, none⟩ = some (.int .i64 0) := cell_later hb (by go_simp)
      have jr0 : wt1.frozen? ⟨w.heap.size + 1, 0, none⟩ = false := by rw [(bcell hb).2 _ _ (by first | omega | (simp <;> omega))]; go_simp
      have kr1 : wt1.cell? ⟨w.heap.size + 1, 1, none⟩ = some (.int .i64 0) := cell_later hb (by go_simp)
      have jr1 : wt1.frozen? ⟨w.heap.size + 1, 1, none⟩ = false := by rw [(bcell hb).2 _ _ (by first | omega | (simp <;> omega))]; go_simp
      have kr2 : wt1.cell? ⟨w.heap.size + 1, 2, none⟩ = some (.int .i64 0) := cell_later hb (by go_simp)
      have jr2 : wt1.frozen? ⟨w.heap.size + 1, 2, none⟩ = false := by rw [(bcell hb).2 _ _ (by first | omega | (simp <;> omega))]; go_simp
      have kr3 : wt1.cell? ⟨w.heap.size + 1, 3, none⟩ = some (.int .i64 0) := cell_later hb (by go_simp)
      have jr3 : wt1.frozen? ⟨w.heap.size + 1, 3, none⟩ = false := by rw [(bcell hb).2 _ _ (by first | omega | (simp <;> omega))]; go_simp
      have kr4 : wt1.cell? ⟨w.heap.size + 1, 4, none⟩ = some (.int .i64 0) := cell_later hb (by go_simp)
      have jr4 : wt1.frozen? ⟨w.heap.size + 1, 4, none⟩ = false := by rw [(bcell hb).2 _ _ (by first | omega | (simp <;> omega))]; go_simp
      have kr5 : wt1.cell? ⟨w.heap.size + 1, 5, none⟩ = some (.int .i64 0) := cell_later hb (by go_simp)
      have jr5 : wt1.frozen? ⟨w.heap.size + 1, 5, none⟩ = false := by rw [(bcell hb).2 _ _ (by first | omega | (simp <;> omega))]; go_simp
      have kr6 : wt1.cell? ⟨w.heap.size + 1, 6, none⟩ = some (.int .i64 0) := cell_later hb (by go_simp)
      have jr6 : wt1.frozen? ⟨w.heap.size + 1, 6, none⟩ = false := by rw [(bcell hb).2 _ _ (by first | omega | (simp <;> omega))]; go_simp
      have zm : w.heap.size < wt1.heap.size := World.block_lt_of_cell? _ _ km0
      have zm_wt1 := zm
      have zr : w.heap.size + 1 < wt1.heap.size := World.block_lt_of_cell? _ _ kr0
      have zr_wt1 := zr
      have hb0 : Below w.heap.size w wt1 := (by repeat (first | with_reducible exact Below.refl _ _ | with_reducible assumption | with_reducible refine Below.setCell ?_ (by first | omega | (simp <;> omega)) _ | with_reducible refine balloc ?_ _ | with_reducible refine Below.drew ?_ | with_reducible refine bstep ?_ (by with_reducible assumption)))
      have hs_wt1 := hb.size; (try simp only [World.size_alloc, World.size_setCell] at hs_wt1)
      clear hb
      (try go_wp2_with fail)
      refine hKK.out _ _ (by first | (go_keep; done) | ((repeat' apply And.intro) <;> go_simp)) (fun hHeld => ?_)
      clear hKK KK
      try simp only [Act.put, List.setIfInBounds_toArray, List.set_cons_zero, List.set_cons_succ]
      refine wpAnyH_ready (rs := [5, 9, 10]) (by kernel_rfl) (by simp) ?_
      refine AllReadyH.cons (o := ⟨some 12, _, _, _, _, _⟩) rfl (fun KK hKK => ?_) (AllReadyH.cons (o := ⟨some 3, _, _, _, _, _⟩) rfl (fun KK hKK => ?_) (AllReadyH.cons (o := ⟨some 4, _, _, _, _, _⟩) rfl (fun KK hKK => ?_) AllReadyH.nil))
      · go_simp
        refine Calls.mono (A1 _) ?_
        rintro e wt2 ⟨rfl, hb⟩
        replace km0 := cell_later hb km0
        replace km1 := cell_later hb km1
        replace km2 := cell_later hb km2
        replace km3 := cell_later hb km3
        replace km4 := cell_later hb km4
        replace km5 := cell_later hb km5
        replace km6 := cell_later hb km6
        replace jr0 := fro_later hb kr0 jr0
        replace kr0 := cell_later hb kr0
        replace jr1 := fro_later hb kr1 jr1
        replace kr1 := cell_later hb kr1
        replace jr2 := fro_later hb kr2 jr2
        replace kr2 := cell_later hb kr2
        replace jr3 := fro_later hb kr3 jr3
        replace kr3 := cell_later hb kr3
        replace jr4 := fro_later hb kr4 jr4
        replace kr4 := cell_later hb kr4
        replace jr5 := fro_later hb kr5 jr5
        replace kr5 := cell_later hb kr5
        replace jr6 := fro_later hb kr6 jr6
        replace kr6 := cell_later hb kr6
        replace zm : w.heap.size < wt2.heap.size := World.block_lt_of_cell? _ _ km0
        have zm_wt2 := zm
        replace zr : w.heap.size + 1 < wt2.heap.size := World.block_lt_of_cell? _ _ kr0
        have zr_wt2 := zr
        replace hb0 : Below w.heap.size w wt2 := (by repeat (first | with_reducible exact Below.refl _ _ | with_reducible assumption | with_reducible refine Below.setCell ?_ (by first | omega | (simp <;> omega)) _ | with_reducible refine balloc ?_ _ | with_reducible refine Below.drew ?_ | with_reducible refine bstep ?_ (by with_reducible assumption)))
        have hs_wt2 : wt1.heap.size ≤ wt2.heap.size := hb.size
        clear hb
        (try go_wp2_with fail)
        refine hKK.out _ _ (by first | (go_keep; done) | ((repeat' apply And.intro) <;> go_simp)) (fun hHeld => ?_)
        clear hKK KK
        try simp only [Act.put, List.setIfInBounds_toArray, List.set_cons_zero, List.set_cons_succ]
        refine wpAnyH_take (i := 6) (oi := ⟨some 6, _, _, _, _, _⟩) (v := ?_) rfl (by kernel_rfl) (by kernel_rfl) (by kernel_rfl) (fun _ _ _ h => h) (Or.inl ⟨by rfl, ?_⟩) (by assumption) ?_
        rotate_left
        · intro w hSw; (try dsimp only at hSw); go_simp; try with_reducible rfl
        try simp only [Act.put, List.setIfInBounds_toArray, List.set_cons_zero, List.set_cons_succ]
        refine wpAnyH_take (i := 7) (oi := ⟨some 13, _, _, _, _, _⟩) (v := ?_) rfl (by kernel_rfl) (by kernel_rfl) (by kernel_rfl) (fun _ _ _ h => h) (Or.inl ⟨by rfl, ?_⟩) (by assumption) ?_
        rotate_left
        · intro w hSw; (try dsimp only at hSw); go_simp; try with_reducible rfl
        try simp only [Act.put, List.setIfInBounds_toArray, List.set_cons_zero, List.set_cons_succ]
        refine wpAnyH_take (i := 8) (oi := ⟨some 14, _, _, _, _, _⟩) (v := ?_) rfl (by kernel_rfl) (by kernel_rfl) (by kernel_rfl) (fun _ _ _ h => h) (Or.inl ⟨by rfl, ?_⟩) (by assumption) ?_
        rotate_left
        · intro w hSw; (try dsimp only at hSw); go_simp; try with_reducible rfl
        try simp only [Act.put, List.setIfInBounds_toArray, List.set_cons_zero, List.set_cons_succ]
        refine wpAnyH_ready (rs := [9, 10]) (by kernel_rfl) (by simp) ?_
        refine AllReadyH.cons (o := ⟨some 3, _, _, _, _, _⟩) rfl (fun KK hKK => ?_) (AllReadyH.cons (o := ⟨some 4, _, _, _, _, _⟩) rfl (fun KK hKK => ?_) AllReadyH.nil)
        · go_simp
          (try go_wp2_with fail)
          refine hKK.out _ _ (by first | (go_keep; done) | ((repeat' apply And.intro) <;> go_simp)) (fun hHeld => ?_)
          clear hKK KK
          try simp only [Act.put, List.setIfInBounds_toArray, List.set_cons_zero, List.set_cons_succ]
          refine wpAnyH_ready (rs := [10]) (by kernel_rfl) (by simp) ?_
          refine AllReadyH.cons (o := ⟨some 4, _, _, _, _, _⟩) rfl (fun KK hKK => ?_) AllReadyH.nil
          go_simp
          (try go_wp2_with fail)
          refine hKK.out _ _ (by first | (go_keep; done) | ((repeat' apply And.intro) <;> go_simp)) (fun hHeld => ?_)
          clear hKK KK
          try simp only [Act.put, List.setIfInBounds_toArray, List.set_cons_zero, List.set_cons_succ]
          refine wpAnyH_ready (rs := [11]) (by kernel_rfl) (by simp) ?_
          refine AllReadyH.cons (o := ⟨none, _, _, _, _, _⟩) rfl (fun KK hKK => ?_) AllReadyH.nil
          go_simp
          (try go_wp2_with fail)
          refine hKK.out _ _ (by first | (go_keep; done) | ((repeat' apply And.intro) <;> go_simp)) (fun hHeld => ?_)
          clear hKK KK
          try simp only [Act.put, List.setIfInBounds_toArray, List.set_cons_zero, List.set_cons_succ]
          refine wpAnyH_ready (rs := [12]) (by kernel_rfl) (by simp) ?_
          refine AllReadyH.cons (o := ⟨none, _, _, _, _, _⟩) rfl (fun KK hKK => ?_) AllReadyH.nil
          go_simp
          (try go_wp2_with fail)
          refine hKK.out _ _ (by first | (go_keep; done) | ((repeat' apply And.intro) <;> go_simp)) (fun hHeld => ?_)
          clear hKK KK
          try simp only [Act.put, List.setIfInBounds_toArray, List.set_cons_zero, List.set_cons_succ]
          refine wpAnyH_done (by kernel_rfl) ?_ _
          (try dsimp only [Exit.then, Met])
          go_wp2_with fail
          go_meet
          refine ⟨_, _, rfl, rfl, by first | omega | (simp; omega), by first | omega | (simp; omega), ?_, ?_, ?_, ?_, ?_, ?_, ?_, ?_, ?_, ?_, ?_, ?_, ?_, ?_, ?_, ?_, ?_, ?_, ?_, ?_, ?_, ?_, ?_, ?_, ?_, ?_, ?_, (by repeat (first | with_reducible exact Below.refl _ _ | with_reducible assumption | with_reducible refine Below.setCell ?_ (by first | omega | (simp <;> omega)) _ | with_reducible refine balloc ?_ _ | with_reducible refine Below.drew ?_ | with_reducible refine bstep ?_ (by with_reducible assumption)))⟩
          all_goals first | (with_reducible assumption) | go_simp
        · go_simp
          (try go_wp2_with fail)
          refine hKK.out _ _ (by first | (go_keep; done) | ((repeat' apply And.intro) <;> go_simp)) (fun hHeld => ?_)
          clear hKK KK
          try simp only [Act.put, List.setIfInBounds_toArray, List.set_cons_zero, List.set_cons_succ]
          refine wpAnyH_ready (rs := [9]) (by kernel_rfl) (by simp) ?_
          refine AllReadyH.cons (o := ⟨some 3, _, _, _, _, _⟩) rfl (fun KK hKK => ?_) AllReadyH.nil
          go_simp
          (try go_wp2_with fail)
          refine hKK.out _ _ (by first | (go_keep; done) | ((repeat' apply And.intro) <;> go_simp)) (fun hHeld => ?_)
          clear hKK KK
          try simp only [Act.put, List.setIfInBounds_toArray, List.set_cons_zero, List.set_cons_succ]
          refine wpAnyH_ready (rs := [11]) (by kernel_rfl) (by simp) ?_
          refine AllReadyH.cons (o := ⟨none, _, _, _, _, _⟩) rfl (fun KK hKK => ?_) AllReadyH.nil
          go_simp
          (try go_wp2_with fail)
          refine hKK.out _ _ (by first | (go_keep; done) | ((repeat' apply And.intro) <;> go_simp)) (fun hHeld => ?_)
          clear hKK KK
          try simp only [Act.put, List.setIfInBounds_toArray, List.set_cons_zero, List.set_cons_succ]
          refine wpAnyH_ready (rs := [12]) (by kernel_rfl) (by simp) ?_
          refine AllReadyH.cons (o := ⟨none, _, _, _, _, _⟩) rfl (fun KK hKK => ?_) AllReadyH.nil
          go_simp
          (try go_wp2_with fail)
          refine hKK.out _ _ (by first | (go_keep; done) | ((repeat' apply And.intro) <;> go_simp)) (fun hHeld => ?_)
          clear hKK KK
          try simp only [Act.put, List.setIfInBounds_toArray, List.set_cons_zero, List.set_cons_succ]
          refine wpAnyH_done (by kernel_rfl) ?_ _
          (try dsimp only [Exit.then, Met])
          go_wp2_with fail
          go_meet
          refine ⟨_, _, rfl, rfl, by first | omega | (simp; omega), by first | omega | (simp; omega), ?_, ?_, ?_, ?_, ?_, ?_, ?_, ?_, ?_, ?_, ?_, ?_, ?_, ?_, ?_, ?_, ?_, ?_, ?_, ?_, ?_, ?_, ?_, ?_, ?_, ?_, ?_, (by repeat (first | with_reducible exact Below.refl _ _ | with_reducible assumption | with_reducible refine Below.setCell ?_ (by first | omega | (simp <;> omega)) _ | with_reducible refine balloc ?_ _ | with_reducible refine Below.drew ?_ | with_reducible refine bstep ?_ (by with_reducible assumption)))⟩
          all_goals first | (with_reducible assumption) | go_simp
      · go_simp
        (try go_wp2_with fail)
        refine hKK.out _ _ (by first | (go_keep; done) | ((repeat' apply And.intro) <;> go_simp)) (fun hHeld => ?_)
        clear hKK KK
        try simp only [Act.put, List.setIfInBounds_toArray, List.set_cons_zero, List.set_cons_succ]
        refine wpAnyH_ready (rs := [5, 10]) (by kernel_rfl) (by simp) ?_
        refine AllReadyH.cons (o := ⟨some 12, _, _, _, _, _⟩) rfl (fun KK hKK => ?_) (AllReadyH.cons (o := ⟨some 4, _, _, _, _, _⟩) rfl (fun KK hKK => ?_) AllReadyH.nil)
        · go_simp
          refine Calls.mono (A1 _) ?_
          rintro e wt2 ⟨rfl, hb⟩
          replace km0 := cell_later hb (cell_al _ km0)
          replace km1 := cell_later hb (cell_al _ km1)
          replace km2 := cell_later hb (cell_al _ km2)
          replace km3 := cell_later hb (cell_al _ km3)
          replace km4 := cell_later hb (cell_al _ km4)
          replace km5 := cell_later hb (cell_al _ km5)
          replace km6 := cell_later hb (cell_al _ km6)
          replace jr0 := fro_later hb (cell_al _ kr0) (fro_al jr0)
          replace kr0 := cell_later hb (cell_al _ kr0)
          replace jr1 := fro_later hb (cell_al _ kr1) (fro_al jr1)
          replace kr1 := cell_later hb (cell_al _ kr1)
          replace jr2 := fro_later hb (cell_al _ kr2) (fro_al jr2)
          replace kr2 := cell_later hb (cell_al _ kr2)
          replace jr3 := fro_later hb (cell_al _ kr3) (fro_al jr3)
          replace kr3 := cell_later hb (cell_al _ kr3)
          replace jr4 := fro_later hb (cell_al _ kr4) (fro_al jr4)
          replace kr4 := cell_later hb (cell_al _ kr4)
          replace jr5 := fro_later hb (cell_al _ kr5) (fro_al jr5)
          replace kr5 := cell_later hb (cell_al _ kr5)
          replace jr6 := fro_later hb (cell_al _ kr6) (fro_al jr6)
          replace kr6 := cell_later hb (cell_al _ kr6)
          have kx0 : wt2.cell? ⟨wt1.heap.size, 0, none⟩ = some (.int .i64 0) := cell_later hb (by go_simp)
          have jx0 : wt2.frozen? ⟨wt1.heap.size, 0, none⟩ = false := by rw [(bcell hb).2 _ _ (by first | omega | (simp <;> omega))]; go_simp
          have kx1 : wt2.cell? ⟨wt1.heap.size, 1, none⟩ = some (.int .i64 0) := cell_later hb (by go_simp)
          have jx1 : wt2.frozen? ⟨wt1.heap.size, 1, none⟩ = false := by rw [(bcell hb).2 _ _ (by first | omega | (simp <;> omega))]; go_simp
          have kx2 : wt2.cell? ⟨wt1.heap.size, 2, none⟩ = some (.int .i64 0) := cell_later hb (by go_simp)
          have jx2 : wt2.frozen? ⟨wt1.heap.size, 2, none⟩ = false := by rw [(bcell hb).2 _ _ (by first | omega | (simp <;> omega))]; go_simp
          replace zm : w.heap.size < wt2.heap.size := World.block_lt_of_cell? _ _ km0
          have zm_wt2 := zm
          replace zr : w.heap.size + 1 < wt2.heap.size := World.block_lt_of_cell? _ _ kr0
          have zr_wt2 := zr
          have zx : wt1.heap.size < wt2.heap.size := World.block_lt_of_cell? _ _ kx0
          have zx_wt2 := zx
          replace hb0 : Below w.heap.size w wt2 := (by repeat (first | with_reducible exact Below.refl _ _ | with_reducible assumption | with_reducible refine Below.setCell ?_ (by first | omega | (simp <;> omega)) _ | with_reducible refine balloc ?_ _ | with_reducible refine Below.drew ?_ | with_reducible refine bstep ?_ (by with_reducible assumption)))
          have hs_wt2 := hb.size; (try simp only [World.size_alloc, World.size_setCell] at hs_wt2)
          clear hb
          (try go_wp2_with fail)
          refine hKK.out _ _ (by first | (go_keep; done) | ((repeat' apply And.intro) <;> go_simp)) (fun hHeld => ?_)
          clear hKK KK
          try simp only [Act.put, List.setIfInBounds_toArray, List.set_cons_zero, List.set_cons_succ]
          refine wpAnyH_take (i := 6) (oi := ⟨some 6, _, _, _, _, _⟩) (v := ?_) rfl (by kernel_rfl) (by kernel_rfl) (by kernel_rfl) (fun _ _ _ h => h) (Or.inl ⟨by rfl, ?_⟩) (by assumption) ?_
          rotate_left
          · intro w hSw; (try dsimp only at hSw); go_simp; try with_reducible rfl
          try simp only [Act.put, List.setIfInBounds_toArray, List.set_cons_zero, List.set_cons_succ]
          refine wpAnyH_take (i := 7) (oi := ⟨some 13, _, _, _, _, _⟩) (v := ?_) rfl (by kernel_rfl) (by kernel_rfl) (by kernel_rfl) (fun _ _ _ h => h) (Or.inl ⟨by rfl, ?_⟩) (by assumption) ?_
          rotate_left
          · intro w hSw; (try dsimp only at hSw); go_simp; try with_reducible rfl
          try simp only [Act.put, List.setIfInBounds_toArray, List.set_cons_zero, List.set_cons_succ]
          refine wpAnyH_take (i := 8) (oi := ⟨some 14, _, _, _, _, _⟩) (v := ?_) rfl (by kernel_rfl) (by kernel_rfl) (by kernel_rfl) (fun _ _ _ h => h) (Or.inl ⟨by rfl, ?_⟩) (by assumption) ?_
          rotate_left
          · intro w hSw; (try dsimp only at hSw); go_simp; try with_reducible rfl
          try simp only [Act.put, List.setIfInBounds_toArray, List.set_cons_zero, List.set_cons_succ]
          refine wpAnyH_ready (rs := [10]) (by kernel_rfl) (by simp) ?_
          refine AllReadyH.cons (o := ⟨some 4, _, _, _, _, _⟩) rfl (fun KK hKK => ?_) AllReadyH.nil
          go_simp
          (try go_wp2_with fail)
          refine hKK.out _ _ (by first | (go_keep; done) | ((repeat' apply And.intro) <;> go_simp)) (fun hHeld => ?_)
          clear hKK KK
          try simp only [Act.put, List.setIfInBounds_toArray, List.set_cons_zero, List.set_cons_succ]
          refine wpAnyH_ready (rs := [11]) (by kernel_rfl) (by simp) ?_
          refine AllReadyH.cons (o := ⟨none, _, _, _, _, _⟩) rfl (fun KK hKK => ?_) AllReadyH.nil
          go_simp
          (try go_wp2_with fail)
          refine hKK.out _ _ (by first | (go_keep; done) | ((repeat' apply And.intro) <;> go_simp)) (fun hHeld => ?_)
          clear hKK KK
          try simp only [Act.put, List.setIfInBounds_toArray, List.set_cons_zero, List.set_cons_succ]
          refine wpAnyH_ready (rs := [12]) (by kernel_rfl) (by simp) ?_
          refine AllReadyH.cons (o := ⟨none, _, _, _, _, _⟩) rfl (fun KK hKK => ?_) AllReadyH.nil
          go_simp
          (try go_wp2_with fail)
          refine hKK.out _ _ (by first | (go_keep; done) | ((repeat' apply And.intro) <;> go_simp)) (fun hHeld => ?_)
          clear hKK KK
          try simp only [Act.put, List.setIfInBounds_toArray, List.set_cons_zero, List.set_cons_succ]
          refine wpAnyH_done (by kernel_rfl) ?_ _
          (try dsimp only [Exit.then, Met])
          go_wp2_with fail
          go_meet
          refine ⟨_, _, rfl, rfl, by first | omega | (simp; omega), by first | omega | (simp; omega), ?_, ?_, ?_, ?_, ?_, ?_, ?_, ?_, ?_, ?_, ?_, ?_, ?_, ?_, ?_, ?_, ?_, ?_, ?_, ?_, ?_, ?_, ?_, ?_, ?_, ?_, ?_, (by repeat (first | with_reducible exact Below.refl _ _ | with_reducible assumption | with_reducible refine Below.setCell ?_ (by first | omega | (simp <;> omega)) _ | with_reducible refine balloc ?_ _ | with_reducible refine Below.drew ?_ | with_reducible refine bstep ?_ (by with_reducible assumption)))⟩
          all_goals first | (with_reducible assumption) | go_simp
        · go_simp
          (try go_wp2_with fail)
          refine hKK.out _ _ (by first | (go_keep; done) | ((repeat' apply And.intro) <;> go_simp)) (fun hHeld => ?_)
          clear hKK KK
          try simp only [Act.put, List.setIfInBounds_toArray, List.set_cons_zero, List.set_cons_succ]
          refine wpAnyH_ready (rs := [5]) (by kernel_rfl) (by simp) ?_
          refine AllReadyH.cons (o := ⟨some 12, _, _, _, _, _⟩) rfl (fun KK hKK => ?_) AllReadyH.nil
          go_simp
          refine Calls.mono (A1 _) ?_
          rintro e wt2 ⟨rfl, hb⟩
          replace km0 := cell_later hb (cell_al _ (cell_al _ km0))
          replace km1 := cell_later hb (cell_al _ (cell_al _ km1))
          replace km2 := cell_later hb (cell_al _ (cell_al _ km2))
          replace km3 := cell_later hb (cell_al _ (cell_al _ km3))
          replace km4 := cell_later hb (cell_al _ (cell_al _ km4))
          replace km5 := cell_later hb (cell_al _ (cell_al _ km5))
          replace km6 := cell_later hb (cell_al _ (cell_al _ km6))
          replace jr0 := fro_later hb (cell_al _ (cell_al _ kr0)) (fro_al (fro_al jr0))
          replace kr0 := cell_later hb (cell_al _ (cell_al _ kr0))
          replace jr1 := fro_later hb (cell_al _ (cell_al _ kr1)) (fro_al (fro_al jr1))
          replace kr1 := cell_later hb (cell_al _ (cell_al _ kr1))
          replace jr2 := fro_later hb (cell_al _ (cell_al _ kr2)) (fro_al (fro_al jr2))
          replace kr2 := cell_later hb (cell_al _ (cell_al _ kr2))
          replace jr3 := fro_later hb (cell_al _ (cell_al _ kr3)) (fro_al (fro_al jr3))
          replace kr3 := cell_later hb (cell_al _ (cell_al _ kr3))
          replace jr4 := fro_later hb (cell_al _ (cell_al _ kr4)) (fro_al (fro_al jr4))
          replace kr4 := cell_later hb (cell_al _ (cell_al _ kr4))
          replace jr5 := fro_later hb (cell_al _ (cell_al _ kr5)) (fro_al (fro_al jr5))
          replace kr5 := cell_later hb (cell_al _ (cell_al _ kr5))
          replace jr6 := fro_later hb (cell_al _ (cell_al _ kr6)) (fro_al (fro_al jr6))
          replace kr6 := cell_later hb (cell_al _ (cell_al _ kr6))
          have kx0 : wt2.cell? ⟨wt1.heap.size, 0, none⟩ = some (.int .i64 0) := cell_later hb (by go_simp)
          have jx0 : wt2.frozen? ⟨wt1.heap.size, 0, none⟩ = false := by rw [(bcell hb).2 _ _ (by first | omega | (simp <;> omega))]; go_simp
          have kx1 : wt2.cell? ⟨wt1.heap.size, 1, none⟩ = some (.int .i64 0) := cell_later hb (by go_simp)
          have jx1 : wt2.frozen? ⟨wt1.heap.size, 1, none⟩ = false := by rw [(bcell hb).2 _ _ (by first | omega | (simp <;> omega))]; go_simp
          have kx2 : wt2.cell? ⟨wt1.heap.size, 2, none⟩ = some (.int .i64 0) := cell_later hb (by go_simp)
          have jx2 : wt2.frozen? ⟨wt1.heap.size, 2, none⟩ = false := by rw [(bcell hb).2 _ _ (by first | omega | (simp <;> omega))]; go_simp
          have ky0 : wt2.cell? ⟨wt1.heap.size + 1, 0, none⟩ = some (.int .i64 0) := cell_later hb (by go_simp)
          have jy0 : wt2.frozen? ⟨wt1.heap.size + 1, 0, none⟩ = false := by rw [(bcell hb).2 _ _ (by first | omega | (simp <;> omega))]; go_simp
          have ky1 : wt2.cell? ⟨wt1.heap.size + 1, 1, none⟩ = some (.int .i64 0) := cell_later hb (by go_simp)
          have jy1 : wt2.frozen? ⟨wt1.heap.size + 1, 1, none⟩ = false := by rw [(bcell hb).2 _ _ (by first | omega | (simp <;> omega))]; go_simp
          have ky2 : wt2.cell? ⟨wt1.heap.size + 1, 2, none⟩ = some (.int .i64 0) := cell_later hb (by go_simp)
          have jy2 : wt2.frozen? ⟨wt1.heap.size + 1, 2, none⟩ = false := by rw [(bcell hb).2 _ _ (by first | omega | (simp <;> omega))]; go_simp
          replace zm : w.heap.size < wt2.heap.size := World.block_lt_of_cell? _ _ km0
          have zm_wt2 := zm
          replace zr : w.heap.size + 1 < wt2.heap.size := World.block_lt_of_cell? _ _ kr0
          have zr_wt2 := zr
          have zx : wt1.heap.size < wt2.heap.size := World.block_lt_of_cell? _ _ kx0
          have zx_wt2 := zx
          have zy : wt1.heap.size + 1 < wt2.heap.size := World.block_lt_of_cell? _ _ ky0
          have zy_wt2 := zy
          replace hb0 : Below w.heap.size w wt2 := (by repeat (first | with_reducible exact Below.refl _ _ | with_reducible assumption | with_reducible refine Below.setCell ?_ (by first | omega | (simp <;> omega)) _ | with_reducible refine balloc ?_ _ | with_reducible refine Below.drew ?_ | with_reducible refine bstep ?_ (by with_reducible assumption)))
          have hs_wt2 := hb.size; (try simp only [World.size_alloc, World.size_setCell] at hs_wt2)
          clear hb
          (try go_wp2_with fail)
          refine hKK.out _ _ (by first | (go_keep; done) | ((repeat' apply And.intro) <;> go_simp)) (fun hHeld => ?_)
          clear hKK KK
          try simp only [Act.put, List.setIfInBounds_toArray, List.set_cons_zero, List.set_cons_succ]
          refine wpAnyH_take (i := 6) (oi := ⟨some 6, _, _, _, _, _⟩) (v := ?_) rfl (by kernel_rfl) (by kernel_rfl) (by kernel_rfl) (fun _ _ _ h => h) (Or.inl ⟨by rfl, ?_⟩) (by assumption) ?_
          rotate_left
          · intro w hSw; (try dsimp only at hSw); go_simp; try with_reducible rfl
          try simp only [Act.put, List.setIfInBounds_toArray, List.set_cons_zero, List.set_cons_succ]
          refine wpAnyH_take (i := 7) (oi := ⟨some 13, _, _, _, _, _⟩) (v := ?_) rfl (by kernel_rfl) (by kernel_rfl) (by kernel_rfl) (fun _ _ _ h => h) (Or.inl ⟨by rfl, ?_⟩) (by assumption) ?_
          rotate_left
          · intro w hSw; (try dsimp only at hSw); go_simp; try with_reducible rfl
          try simp only [Act.put, List.setIfInBounds_toArray, List.set_cons_zero, List.set_cons_succ]
          refine wpAnyH_take (i := 8) (oi := ⟨some 14, _, _, _, _, _⟩) (v := ?_) rfl (by kernel_rfl) (by kernel_rfl) (by kernel_rfl) (fun _ _ _ h => h) (Or.inl ⟨by rfl, ?_⟩) (by assumption) ?_
          rotate_left
          · intro w hSw; (try dsimp only at hSw); go_simp; try with_reducible rfl
          try simp only [Act.put, List.setIfInBounds_toArray, List.set_cons_zero, List.set_cons_succ]
          refine wpAnyH_ready (rs := [11]) (by kernel_rfl) (by simp) ?_
          refine AllReadyH.cons (o := ⟨none, _, _, _, _, _⟩) rfl (fun KK hKK => ?_) AllReadyH.nil
          go_simp
          (try go_wp2_with fail)
          refine hKK.out _ _ (by first | (go_keep; done) | ((repeat' apply And.intro) <;> go_simp)) (fun hHeld => ?_)
          clear hKK KK
          try simp only [Act.put, List.setIfInBounds_toArray, List.set_cons_zero, List.set_cons_succ]
          refine wpAnyH_ready (rs := [12]) (by kernel_rfl) (by simp) ?_
          refine AllReadyH.cons (o := ⟨none, _, _, _, _, _⟩) rfl (fun KK hKK => ?_) AllReadyH.nil
          go_simp
          (try go_wp2_with fail)
          refine hKK.out _ _ (by first | (go_keep; done) | ((repeat' apply And.intro) <;> go_simp)) (fun hHeld => ?_)
          clear hKK KK
          try simp only [Act.put, List.setIfInBounds_toArray, List.set_cons_zero, List.set_cons_succ]
          refine wpAnyH_done (by kernel_rfl) ?_ _
          (try dsimp only [Exit.then, Met])
          go_wp2_with fail
          go_meet
          refine ⟨_, _, rfl, rfl, by first | omega | (simp; omega), by first | omega | (simp; omega), ?_, ?_, ?_, ?_, ?_, ?_, ?_, ?_, ?_, ?_, ?_, ?_, ?_, ?_, ?_, ?_, ?_, ?_, ?_, ?_, ?_, ?_, ?_, ?_, ?_, ?_, ?_, (by repeat (first | with_reducible exact Below.refl _ _ | with_reducible assumption | with_reducible refine Below.setCell ?_ (by first | omega | (simp <;> omega)) _ | with_reducible refine balloc ?_ _ | with_reducible refine Below.drew ?_ | with_reducible refine bstep ?_ (by with_reducible assumption)))⟩
          all_goals first | (with_reducible assumption) | go_simp
      · go_simp
        (try go_wp2_with fail)
        refine hKK.out _ _ (by first | (go_keep; done) | ((repeat' apply And.intro) <;> go_simp)) (fun hHeld => ?_)
        clear hKK KK
        try simp only [Act.put, List.setIfInBounds_toArray, List.set_cons_zero, List.set_cons_succ]
        refine wpAnyH_ready (rs := [5, 9]) (by kernel_rfl) (by simp) ?_
        refine AllReadyH.cons (o := ⟨some 12, _, _, _, _, _⟩) rfl (fun KK hKK => ?_) (AllReadyH.cons (o := ⟨some 3, _, _, _, _, _⟩) rfl (fun KK hKK => ?_) AllReadyH.nil)
        · go_simp
          refine Calls.mono (A1 _) ?_
          rintro e wt2 ⟨rfl, hb⟩
          replace km0 := cell_later hb (cell_al _ km0)
          replace km1 := cell_later hb (cell_al _ km1)
          replace km2 := cell_later hb (cell_al _ km2)
          replace km3 := cell_later hb (cell_al _ km3)
          replace km4 := cell_later hb (cell_al _ km4)
          replace km5 := cell_later hb (cell_al _ km5)
          replace km6 := cell_later hb (cell_al _ km6)
          replace jr0 := fro_later hb (cell_al _ kr0) (fro_al jr0)
          replace kr0 := cell_later hb (cell_al _ kr0)
          replace jr1 := fro_later hb (cell_al _ kr1) (fro_al jr1)
          replace kr1 := cell_later hb (cell_al _ kr1)
          replace jr2 := fro_later hb (cell_al _ kr2) (fro_al jr2)
          replace kr2 := cell_later hb (cell_al _ kr2)
          replace jr3 := fro_later hb (cell_al _ kr3) (fro_al jr3)
          replace kr3 := cell_later hb (cell_al _ kr3)
          replace jr4 := fro_later hb (cell_al _ kr4) (fro_al jr4)
          replace kr4 := cell_later hb (cell_al _ kr4)
          replace jr5 := fro_later hb (cell_al _ kr5) (fro_al jr5)
          replace kr5 := cell_later hb (cell_al _ kr5)
          replace jr6 := fro_later hb (cell_al _ kr6) (fro_al jr6)
          replace kr6 := cell_later hb (cell_al _ kr6)
          have ky0 : wt2.cell? ⟨wt1.heap.size, 0, none⟩ = some (.int .i64 0) := cell_later hb (by go_simp)
          have jy0 : wt2.frozen? ⟨wt1.heap.size, 0, none⟩ = false := by rw [(bcell hb).2 _ _ (by first | omega | (simp <;> omega))]; go_simp
          have ky1 : wt2.cell? ⟨wt1.heap.size, 1, none⟩ = some (.int .i64 0) := cell_later hb (by go_simp)
          have jy1 : wt2.frozen? ⟨wt1.heap.size, 1, none⟩ = false := by rw [(bcell hb).2 _ _ (by first | omega | (simp <;> omega))]; go_simp
          have ky2 : wt2.cell? ⟨wt1.heap.size, 2, none⟩ = some (.int .i64 0) := cell_later hb (by go_simp)
          have jy2 : wt2.frozen? ⟨wt1.heap.size, 2, none⟩ = false := by rw [(bcell hb).2 _ _ (by first | omega | (simp <;> omega))]; go_simp
          replace zm : w.heap.size < wt2.heap.size := World.block_lt_of_cell? _ _ km0
          have zm_wt2 := zm
          replace zr : w.heap.size + 1 < wt2.heap.size := World.block_lt_of_cell? _ _ kr0
          have zr_wt2 := zr
          have zy : wt1.heap.size < wt2.heap.size := World.block_lt_of_cell? _ _ ky0
          have zy_wt2 := zy
          replace hb0 : Below w.heap.size w wt2 := (by repeat (first | with_reducible exact Below.refl _ _ | with_reducible assumption | with_reducible refine Below.setCell ?_ (by first | omega | (simp <;> omega)) _ | with_reducible refine balloc ?_ _ | with_reducible refine Below.drew ?_ | with_reducible refine bstep ?_ (by with_reducible assumption)))
          have hs_wt2 := hb.size; (try simp only [World.size_alloc, World.size_setCell] at hs_wt2)
          clear hb
          (try go_wp2_with fail)
          refine hKK.out _ _ (by first | (go_keep; done) | ((repeat' apply And.intro) <;> go_simp)) (fun hHeld => ?_)
          clear hKK KK
          try simp only [Act.put, List.setIfInBounds_toArray, List.set_cons_zero, List.set_cons_succ]
          refine wpAnyH_take (i := 6) (oi := ⟨some 6, _, _, _, _, _⟩) (v := ?_) rfl (by kernel_rfl) (by kernel_rfl) (by kernel_rfl) (fun _ _ _ h => h) (Or.inl ⟨by rfl, ?_⟩) (by assumption) ?_
          rotate_left
          · intro w hSw; (try dsimp only at hSw); go_simp; try with_reducible rfl
          try simp only [Act.put, List.setIfInBounds_toArray, List.set_cons_zero, List.set_cons_succ]
          refine wpAnyH_take (i := 7) (oi := ⟨some 13, _, _, _, _, _⟩) (v := ?_) rfl (by kernel_rfl) (by kernel_rfl) (by kernel_rfl) (fun _ _ _ h => h) (Or.inl ⟨by rfl, ?_⟩) (by assumption) ?_
          rotate_left
          · intro w hSw; (try dsimp only at hSw); go_simp; try with_reducible rfl
          try simp only [Act.put, List.setIfInBounds_toArray, List.set_cons_zero, List.set_cons_succ]
          refine wpAnyH_take (i := 8) (oi := ⟨some 14, _, _, _, _, _⟩) (v := ?_) rfl (by kernel_rfl) (by kernel_rfl) (by kernel_rfl) (fun _ _ _ h => h) (Or.inl ⟨by rfl, ?_⟩) (by assumption) ?_
          rotate_left
          · intro w hSw; (try dsimp only at hSw); go_simp; try with_reducible rfl
          try simp only [Act.put, List.setIfInBounds_toArray, List.set_cons_zero, List.set_cons_succ]
          refine wpAnyH_ready (rs := [9]) (by kernel_rfl) (by simp) ?_
          refine AllReadyH.cons (o := ⟨some 3, _, _, _, _, _⟩) rfl (fun KK hKK => ?_) AllReadyH.nil
          go_simp
          (try go_wp2_with fail)
          refine hKK.out _ _ (by first | (go_keep; done) | ((repeat' apply And.intro) <;> go_simp)) (fun hHeld => ?_)
          clear hKK KK
          try simp only [Act.put, List.setIfInBounds_toArray, List.set_cons_zero, List.set_cons_succ]
          refine wpAnyH_ready (rs := [11]) (by kernel_rfl) (by simp) ?_
          refine AllReadyH.cons (o := ⟨none, _, _, _, _, _⟩) rfl (fun KK hKK => ?_) AllReadyH.nil
          go_simp
          (try go_wp2_with fail)
          refine hKK.out _ _ (by first | (go_keep; done) | ((repeat' apply And.intro) <;> go_simp)) (fun hHeld => ?_)
          clear hKK KK
          try simp only [Act.put, List.setIfInBounds_toArray, List.set_cons_zero, List.set_cons_succ]
          refine wpAnyH_ready (rs := [12]) (by kernel_rfl) (by simp) ?_
          refine AllReadyH.cons (o := ⟨none, _, _, _, _, _⟩) rfl (fun KK hKK => ?_) AllReadyH.nil
          go_simp
          (try go_wp2_with fail)
          refine hKK.out _ _ (by first | (go_keep; done) | ((repeat' apply And.intro) <;> go_simp)) (fun hHeld => ?_)
          clear hKK KK
          try simp only [Act.put, List.setIfInBounds_toArray, List.set_cons_zero, List.set_cons_succ]
          refine wpAnyH_done (by kernel_rfl) ?_ _
          (try dsimp only [Exit.then, Met])
          go_wp2_with fail
          go_meet
          refine ⟨_, _, rfl, rfl, by first | omega | (simp; omega), by first | omega | (simp; omega), ?_, ?_, ?_, ?_, ?_, ?_, ?_, ?_, ?_, ?_, ?_, ?_, ?_, ?_, ?_, ?_, ?_, ?_, ?_, ?_, ?_, ?_, ?_, ?_, ?_, ?_, ?_, (by repeat (first | with_reducible exact Below.refl _ _ | with_reducible assumption | with_reducible refine Below.setCell ?_ (by first | omega | (simp <;> omega)) _ | with_reducible refine balloc ?_ _ | with_reducible refine Below.drew ?_ | with_reducible refine bstep ?_ (by with_reducible assumption)))⟩
          all_goals first | (with_reducible assumption) | go_simp
        · go_simp
          (try go_wp2_with fail)
          refine hKK.out _ _ (by first | (go_keep; done) | ((repeat' apply And.intro) <;> go_simp)) (fun hHeld => ?_)
          clear hKK KK
          try simp only [Act.put, List.setIfInBounds_toArray, List.set_cons_zero, List.set_cons_succ]
          refine wpAnyH_ready (rs := [5]) (by kernel_rfl) (by simp) ?_
          refine AllReadyH.cons (o := ⟨some 12, _, _, _, _, _⟩) rfl (fun KK hKK => ?_) AllReadyH.nil
          go_simp
          refine Calls.mono (A1 _) ?_
          rintro e wt2 ⟨rfl, hb⟩
          replace km0 := cell_later hb (cell_al _ (cell_al _ km0))
          replace km1 := cell_later hb (cell_al _ (cell_al _ km1))
          replace km2 := cell_later hb (cell_al _ (cell_al _ km2))
          replace km3 := cell_later hb (cell_al _ (cell_al _ km3))
          replace km4 := cell_later hb (cell_al _ (cell_al _ km4))
          replace km5 := cell_later hb (cell_al _ (cell_al _ km5))
          replace km6 := cell_later hb (cell_al _ (cell_al _ km6))
          replace jr0 := fro_later hb (cell_al _ (cell_al _ kr0)) (fro_al (fro_al jr0))
          replace kr0 := cell_later hb (cell_al _ (cell_al _ kr0))
          replace jr1 := fro_later hb (cell_al _ (cell_al _ kr1)) (fro_al (fro_al jr1))
          replace kr1 := cell_later hb (cell_al _ (cell_al _ kr1))
          replace jr2 := fro_later hb (cell_al _ (cell_al _ kr2)) (fro_al (fro_al jr2))
          replace kr2 := cell_later hb (cell_al _ (cell_al _ kr2))
          replace jr3 := fro_later hb (cell_al _ (cell_al _ kr3)) (fro_al (fro_al jr3))
          replace kr3 := cell_later hb (cell_al _ (cell_al _ kr3))
          replace jr4 := fro_later hb (cell_al _ (cell_al _ kr4)) (fro_al (fro_al jr4))
          replace kr4 := cell_later hb (cell_al _ (cell_al _ kr4))
          replace jr5 := fro_later hb (cell_al _ (cell_al _ kr5)) (fro_al (fro_al jr5))
          replace kr5 := cell_later hb (cell_al _ (cell_al _ kr5))
          replace jr6 := fro_later hb (cell_al _ (cell_al _ kr6)) (fro_al (fro_al jr6))
          replace kr6 := cell_later hb (cell_al _ (cell_al _ kr6))
          have ky0 : wt2.cell? ⟨wt1.heap.size, 0, none⟩ = some (.int .i64 0) := cell_later hb (by go_simp)
          have jy0 : wt2.frozen? ⟨wt1.heap.size, 0, none⟩ = false := by rw [(bcell hb).2 _ _ (by first | omega | (simp <;> omega))]; go_simp
          have ky1 : wt2.cell? ⟨wt1.heap.size, 1, none⟩ = some (.int .i64 0) := cell_later hb (by go_simp)
          have jy1 : wt2.frozen? ⟨wt1.heap.size, 1, none⟩ = false := by rw [(bcell hb).2 _ _ (by first | omega | (simp <;> omega))]; go_simp
          have ky2 : wt2.cell? ⟨wt1.heap.size, 2, none⟩ = some (.int .i64 0) := cell_later hb (by go_simp)
          have jy2 : wt2.frozen? ⟨wt1.heap.size, 2, none⟩ = false := by rw [(bcell hb).2 _ _ (by first | omega | (simp <;> omega))]; go_simp
          have kx0 : wt2.cell? ⟨wt1.heap.size + 1, 0, none⟩ = some (.int .i64 0) := cell_later hb (by go_simp)
          have jx0 : wt2.frozen? ⟨wt1.heap.size + 1, 0, none⟩ = false := by rw [(bcell hb).2 _ _ (by first | omega | (simp <;> omega))]; go_simp
          have kx1 : wt2.cell? ⟨wt1.heap.size + 1, 1, none⟩ = some (.int .i64 0) := cell_later hb (by go_simp)
          have jx1 : wt2.frozen? ⟨wt1.heap.size + 1, 1, none⟩ = false := by rw [(bcell hb).2 _ _ (by first | omega | (simp <;> omega))]; go_simp
          have kx2 : wt2.cell? ⟨wt1.heap.size + 1, 2, none⟩ = some (.int .i64 0) := cell_later hb (by go_simp)
          have jx2 : wt2.frozen? ⟨wt1.heap.size + 1, 2, none⟩ = false := by rw [(bcell hb).2 _ _ (by first | omega | (simp <;> omega))]; go_simp
          replace zm : w.heap.size < wt2.heap.size := World.block_lt_of_cell? _ _ km0
          have zm_wt2 := zm
          replace zr : w.heap.size + 1 < wt2.heap.size := World.block_lt_of_cell? _ _ kr0
          have zr_wt2 := zr
          have zy : wt1.heap.size < wt2.heap.size := World.block_lt_of_cell? _ _ ky0
          have zy_wt2 := zy
          have zx : wt1.heap.size + 1 < wt2.heap.size := World.block_lt_of_cell? _ _ kx0
          have zx_wt2 := zx
          replace hb0 : Below w.heap.size w wt2 := (by repeat (first | with_reducible exact Below.refl _ _ | with_reducible assumption | with_reducible refine Below.setCell ?_ (by first | omega | (simp <;> omega)) _ | with_reducible refine balloc ?_ _ | with_reducible refine Below.drew ?_ | with_reducible refine bstep ?_ (by with_reducible assumption)))
          have hs_wt2 := hb.size; (try simp only [World.size_alloc, World.size_setCell] at hs_wt2)
          clear hb
          (try go_wp2_with fail)
          refine hKK.out _ _ (by first | (go_keep; done) | ((repeat' apply And.intro) <;> go_simp)) (fun hHeld => ?_)
          clear hKK KK
          try simp only [Act.put, List.setIfInBounds_toArray, List.set_cons_zero, List.set_cons_succ]
          refine wpAnyH_take (i := 6) (oi := ⟨some 6, _, _, _, _, _⟩) (v := ?_) rfl (by kernel_rfl) (by kernel_rfl) (by kernel_rfl) (fun _ _ _ h => h) (Or.inl ⟨by rfl, ?_⟩) (by assumption) ?_
          rotate_left
          · intro w hSw; (try dsimp only at hSw); go_simp; try with_reducible rfl
          try simp only [Act.put, List.setIfInBounds_toArray, List.set_cons_zero, List.set_cons_succ]
          refine wpAnyH_take (i := 7) (oi := ⟨some 13, _, _, _, _, _⟩) (v := ?_) rfl (by kernel_rfl) (by kernel_rfl) (by kernel_rfl) (fun _ _ _ h => h) (Or.inl ⟨by rfl, ?_⟩) (by assumption) ?_
          rotate_left
          · intro w hSw; (try dsimp only at hSw); go_simp; try with_reducible rfl
          try simp only [Act.put, List.setIfInBounds_toArray, List.set_cons_zero, List.set_cons_succ]
          refine wpAnyH_take (i := 8) (oi := ⟨some 14, _, _, _, _, _⟩) (v := ?_) rfl (by kernel_rfl) (by kernel_rfl) (by kernel_rfl) (fun _ _ _ h => h) (Or.inl ⟨by rfl, ?_⟩) (by assumption) ?_
          rotate_left
          · intro w hSw; (try dsimp only at hSw); go_simp; try with_reducible rfl
          try simp only [Act.put, List.setIfInBounds_toArray, List.set_cons_zero, List.set_cons_succ]
          refine wpAnyH_ready (rs := [11]) (by kernel_rfl) (by simp) ?_
          refine AllReadyH.cons (o := ⟨none, _, _, _, _, _⟩) rfl (fun KK hKK => ?_) AllReadyH.nil
          go_simp
          (try go_wp2_with fail)
          refine hKK.out _ _ (by first | (go_keep; done) | ((repeat' apply And.intro) <;> go_simp)) (fun hHeld => ?_)
          clear hKK KK
          try simp only [Act.put, List.setIfInBounds_toArray, List.set_cons_zero, List.set_cons_succ]
          refine wpAnyH_ready (rs := [12]) (by kernel_rfl) (by simp) ?_
          refine AllReadyH.cons (o := ⟨none, _, _, _, _, _⟩) rfl (fun KK hKK => ?_) AllReadyH.nil
          go_simp
          (try go_wp2_with fail)
          refine hKK.out _ _ (by first | (go_keep; done) | ((repeat' apply And.intro) <;> go_simp)) (fun hHeld => ?_)
          clear hKK KK
          try simp only [Act.put, List.setIfInBounds_toArray, List.set_cons_zero, List.set_cons_succ]
          refine wpAnyH_done (by kernel_rfl) ?_ _
          (try dsimp only [Exit.then, Met])
          go_wp2_with fail
          go_meet
          refine ⟨_, _, rfl, rfl, by first | omega | (simp; omega), by first | omega | (simp; omega), ?_, ?_, ?_, ?_, ?_, ?_, ?_, ?_, ?_, ?_, ?_, ?_, ?_, ?_, ?_, ?_, ?_, ?_, ?_, ?_, ?_, ?_, ?_, ?_, ?_, ?_, ?_, (by repeat (first | with_reducible exact Below.refl _ _ | with_reducible assumption | with_reducible refine Below.setCell ?_ (by first | omega | (simp <;> omega)) _ | with_reducible refine balloc ?_ _ | with_reducible refine Below.drew ?_ | with_reducible refine bstep ?_ (by with_reducible assumption)))⟩
          all_goals first | (with_reducible assumption) | go_simp
    · go_simp
      (try go_wp2_with fail)
      refine hKK.out _ _ (by first | (go_keep; done) | ((repeat' apply And.intro) <;> go_simp)) (fun hHeld => ?_)
      clear hKK KK
      try simp only [Act.put, List.setIfInBounds_toArray, List.set_cons_zero, List.set_cons_succ]
      refine wpAnyH_ready (rs := [2, 10]) (by kernel_rfl) (by simp) ?_
      refine AllReadyH.cons (o := ⟨some 9, _, _, _, _, _⟩) rfl (fun KK hKK => ?_) (AllReadyH.cons (o := ⟨some 4, _, _, _, _, _⟩) rfl (fun KK hKK => ?_) AllReadyH.nil)
      · go_simp
        refine Calls.mono (T1 _) ?_
        rintro e wt1 ⟨rfl, hb⟩
        have km0 : wt1.cell? ⟨w.heap.size, 0, none⟩ = some (.int .i64 m1) := cell_later hb (by go_simp)
        have km1 : wt1.cell? ⟨w.heap.size, 1, none⟩ = some (.int .i64 m2) := cell_later hb (by go_simp)
        have km2 : wt1.cell? ⟨w.heap.size, 2, none⟩ = some (.int .i64 m3) := cell_later hb (by go_simp)
        have km3 : wt1.cell? ⟨w.heap.size, 3, none⟩ = some (.int .i64 m4) := cell_later hb (by go_simp)
        have km4 : wt1.cell? ⟨w.heap.size, 4, none⟩ = some (.int .i64 m5) := cell_later hb (by go_simp)
        have km5 : wt1.cell? ⟨w.heap.size, 5, none⟩ = some (.int .i64 m6) := cell_later hb (by go_simp)
        have km6 : wt1.cell? ⟨w.heap.size, 6, none⟩ = some (.int .i64 m7) := cell_later hb (by go_simp)
        have kr0 : wt1.cell? ⟨w.heap.size + 1, 0, none⟩ = some (.int .i64 0) := cell_later hb (by go_simp)
        have jr0 : wt1.frozen? ⟨w.heap.size + 1, 0, none⟩ = false := by rw [(bcell hb).2 _ _ (by first | omega | (simp <;> omega))]; go_simp
        have kr1 : wt1.cell? ⟨w.heap.size + 1, 1, none⟩ = some (.int .i64 0) := cell_later hb (by go_simp)
        have jr1 : wt1.frozen? ⟨w.heap.size + 1, 1, none⟩ = false := by rw [(bcell hb).2 _ _ (by first | omega | (simp <;> omega))]; go_simp
        have kr2 : wt1.cell? ⟨w.heap.size + 1, 2, none⟩ = some (.int .i64 0) := cell_later hb (by go_simp)
        have jr2 : wt1.frozen? ⟨w.heap.size + 1, 2, none⟩ = false := by rw [(bcell hb).2 _ _ (by first | omega | (simp <;> omega))]; go_simp
        have kr3 : wt1.cell? ⟨w.heap.size + 1, 3, none⟩ = some (.int .i64 0) := cell_later hb (by go_simp)
        have jr3 : wt1.frozen? ⟨w.heap.size + 1, 3, none⟩ = false := by rw [(bcell hb).2 _ _ (by first | omega | (simp <;> omega))]; go_simp
        have kr4 : wt1.cell? ⟨w.heap.size + 1, 4, none⟩ = some (.int .i64 0) := cell_later hb (by go_simp)
        have jr4 : wt1.frozen? ⟨w.heap.size + 1, 4, none⟩ = false := by rw [(bcell hb).2 _ _ (by first | omega | (simp <;> omega))]; go_simp
        have kr5 : wt1.cell? ⟨w.heap.size + 1, 5, none⟩ = some (.int .i64 0) := cell_later hb (by go_simp)
        have jr5 : wt1.frozen? ⟨w.heap.size + 1, 5, none⟩ = false := by rw [(bcell hb).2 _ _ (by first | omega | (simp <;> omega))]; go_simp
        have kr6 : wt1.cell? ⟨w.heap.size + 1, 6, none⟩ = some (.int .i64 0) := cell_later hb (by go_simp)
        have jr6 : wt1.frozen? ⟨w.heap.size + 1, 6, none⟩ = false := by rw [(bcell hb).2 _ _ (by first | omega | (simp <;> omega))]; go_simp
        have kx0 : wt1.cell? ⟨w.heap.size + 1 + 1, 0, none⟩ = some (.int .i64 0) := cell_later hb (by go_simp)
        have jx0 : wt1.frozen? ⟨w.heap.size + 1 + 1, 0, none⟩ = false := by rw [(bcell hb).2 _ _ (by first | omega | (simp <;> omega))]; go_simp
        have kx1 : wt1.cell? ⟨w.heap.size + 1 + 1, 1, none⟩ = some (.int .i64 0) := cell_later hb (by go_simp)
        have jx1 : wt1.frozen? ⟨w.heap.size + 1 + 1, 1, none⟩ = false := by rw [(bcell hb).2 _ _ (by first | omega | (simp <;> omega))]; go_simp
        have kx2 : wt1.cell? ⟨w.heap.size + 1 + 1, 2, none⟩ = some (.int .i64 0) := cell_later hb (by go_simp)
        have jx2 : wt1.frozen? ⟨w.heap.size + 1 + 1, 2, none⟩ = false := by rw [(bcell hb).2 _ _ (by first | omega | (simp <;> omega))]; go_simp
        have zm : w.heap.size < wt1.heap.size := World.block_lt_of_cell? _ _ km0
        have zm_wt1 := zm
        have zr : w.heap.size + 1 < wt1.heap.size := World.block_lt_of_cell? _ _ kr0
        have zr_wt1 := zr
        have zx : w.heap.size + 1 + 1 < wt1.heap.size := World.block_lt_of_cell? _ _ kx0
        have zx_wt1 := zx
        have hb0 : Below w.heap.size w wt1 := (by repeat (first | with_reducible exact Below.refl _ _ | with_reducible assumption | with_reducible refine Below.setCell ?_ (by first | omega | (simp <;> omega)) _ | with_reducible refine balloc ?_ _ | with_reducible refine Below.drew ?_ | with_reducible refine bstep ?_ (by with_reducible assumption)))
        have hs_wt1 := hb.size; (try simp only [World.size_alloc, World.size_setCell] at hs_wt1)
        clear hb
        (try go_wp2_with fail)
        refine hKK.out _ _ (by first | (go_keep; done) | ((repeat' apply And.intro) <;> go_simp)) (fun hHeld => ?_)
        clear hKK KK
        try simp only [Act.put, List.setIfInBounds_toArray, List.set_cons_zero, List.set_cons_succ]
        refine wpAnyH_ready (rs := [5, 10]) (by kernel_rfl) (by simp) ?_
        refine AllReadyH.cons (o := ⟨some 12, _, _, _, _, _⟩) rfl (fun KK hKK => ?_) (AllReadyH.cons (o := ⟨some 4, _, _, _, _, _⟩) rfl (fun KK hKK => ?_) AllReadyH.nil)
        · go_simp
          refine Calls.mono (A1 _) ?_
          rintro e wt2 ⟨rfl, hb⟩
          replace km0 := cell_later hb km0
          replace km1 := cell_later hb km1
          replace km2 := cell_later hb km2
          replace km3 := cell_later hb km3
          replace km4 := cell_later hb km4
          replace km5 := cell_later hb km5
          replace km6 := cell_later hb km6
          replace jr0 := fro_later hb kr0 jr0
          replace kr0 := cell_later hb kr0
          replace jr1 := fro_later hb kr1 jr1
          replace kr1 := cell_later hb kr1
          replace jr2 := fro_later hb kr2 jr2
          replace kr2 := cell_later hb kr2
          replace jr3 := fro_later hb kr3 jr3
          replace kr3 := cell_later hb kr3
          replace jr4 := fro_later hb kr4 jr4
          replace kr4 := cell_later hb kr4
          replace jr5 := fro_later hb kr5 jr5
          replace kr5 := cell_later hb kr5
          replace jr6 := fro_later hb kr6 jr6
          replace kr6 := cell_later hb kr6
          replace jx0 := fro_later hb kx0 jx0
          replace kx0 := cell_later hb kx0
          replace jx1 := fro_later hb kx1 jx1
          replace kx1 := cell_later hb kx1
          replace jx2 := fro_later hb kx2 jx2
          replace kx2 := cell_later hb kx2
          replace zm : w.heap.size < wt2.heap.size := World.block_lt_of_cell? _ _ km0
          have zm_wt2 := zm
          replace zr : w.heap.size + 1 < wt2.heap.size := World.block_lt_of_cell? _ _ kr0
          have zr_wt2 := zr
          replace zx : w.heap.size + 1 + 1 < wt2.heap.size := World.block_lt_of_cell? _ _ kx0
          have zx_wt2 := zx
          replace hb0 : Below w.heap.size w wt2 := (by repeat (first | with_reducible exact Below.refl _ _ | with_reducible assumption | with_reducible refine Below.setCell ?_ (by first | omega | (simp <;> omega)) _ | with_reducible refine balloc ?_ _ | with_reducible refine Below.drew ?_ | with_reducible refine bstep ?_ (by with_reducible assumption)))
          have hs_wt2 : wt1.heap.size ≤ wt2.heap.size := hb.size
          clear hb
          (try go_wp2_with fail)
          refine hKK.out _ _ (by first | (go_keep; done) | ((repeat' apply And.intro) <;> go_simp)) (fun hHeld => ?_)
          clear hKK KK
          try simp only [Act.put, List.setIfInBounds_toArray, List.set_cons_zero, List.set_cons_succ]
          refine wpAnyH_take (i := 6) (oi := ⟨some 6, _, _, _, _, _⟩) (v := ?_) rfl (by kernel_rfl) (by kernel_rfl) (by kernel_rfl) (fun _ _ _ h => h) (Or.inl ⟨by rfl, ?_⟩) (by assumption) ?_
          rotate_left
          · intro w hSw; (try dsimp only at hSw); go_simp; try with_reducible rfl
          try simp only [Act.put, List.setIfInBounds_toArray, List.set_cons_zero, List.set_cons_succ]
          refine wpAnyH_take (i := 7) (oi := ⟨some 13, _, _, _, _, _⟩) (v := ?_) rfl (by kernel_rfl) (by kernel_rfl) (by kernel_rfl) (fun _ _ _ h => h) (Or.inl ⟨by rfl, ?_⟩) (by assumption) ?_
          rotate_left
          · intro w hSw; (try dsimp only at hSw); go_simp; try with_reducible rfl
          try simp only [Act.put, List.setIfInBounds_toArray, List.set_cons_zero, List.set_cons_succ]
          refine wpAnyH_take (i := 8) (oi := ⟨some 14, _, _, _, _, _⟩) (v := ?_) rfl (by kernel_rfl) (by kernel_rfl) (by kernel_rfl) (fun _ _ _ h => h) (Or.inl ⟨by rfl, ?_⟩) (by assumption) ?_
          rotate_left
          · intro w hSw; (try dsimp only at hSw); go_simp; try with_reducible rfl
          try simp only [Act.put, List.setIfInBounds_toArray, List.set_cons_zero, List.set_cons_succ]
          refine wpAnyH_ready (rs := [10]) (by kernel_rfl) (by simp) ?_
          refine AllReadyH.cons (o := ⟨some 4, _, _, _, _, _⟩) rfl (fun KK hKK => ?_) AllReadyH.nil
          go_simp
          (try go_wp2_with fail)
          refine hKK.out _ _ (by first | (go_keep; done) | ((repeat' apply And.intro) <;> go_simp)) (fun hHeld => ?_)
          clear hKK KK
          try simp only [Act.put, List.setIfInBounds_toArray, List.set_cons_zero, List.set_cons_succ]
          refine wpAnyH_ready (rs := [11]) (by kernel_rfl) (by simp) ?_
          refine AllReadyH.cons (o := ⟨none, _, _, _, _, _⟩) rfl (fun KK hKK => ?_) AllReadyH.nil
          go_simp
          (try go_wp2_with fail)
          refine hKK.out _ _ (by first | (go_keep; done) | ((repeat' apply And.intro) <;> go_simp)) (fun hHeld => ?_)
          clear hKK KK
          try simp only [Act.put, List.setIfInBounds_toArray, List.set_cons_zero, List.set_cons_succ]
          refine wpAnyH_ready (rs := [12]) (by kernel_rfl) (by simp) ?_
          refine AllReadyH.cons (o := ⟨none, _, _, _, _, _⟩) rfl (fun KK hKK => ?_) AllReadyH.nil
          go_simp
          (try go_wp2_with fail)
          refine hKK.out _ _ (by first | (go_keep; done) | ((repeat' apply And.intro) <;> go_simp)) (fun hHeld => ?_)
          clear hKK KK
          try simp only [Act.put, List.setIfInBounds_toArray, List.set_cons_zero, List.set_cons_succ]
          refine wpAnyH_done (by kernel_rfl) ?_ _
          (try dsimp only [Exit.then, Met])
          go_wp2_with fail
          go_meet
          refine ⟨_, _, rfl, rfl, by first | omega | (simp; omega), by first | omega | (simp; omega), ?_, ?_, ?_, ?_, ?_, ?_, ?_, ?_, ?_, ?_, ?_, ?_, ?_, ?_, ?_, ?_, ?_, ?_, ?_, ?_, ?_, ?_, ?_, ?_, ?_, ?_, ?_, (by repeat (first | with_reducible exact Below.refl _ _ | with_reducible assumption | with_reducible refine Below.setCell ?_ (by first | omega | (simp <;> omega)) _ | with_reducible refine balloc ?_ _ | with_reducible refine Below.drew ?_ | with_reducible refine bstep ?_ (by with_reducible assumption)))⟩
          all_goals first | (with_reducible assumption) | go_simp
        · go_simp
          (try go_wp2_with fail)
          refine hKK.out _ _ (by first | (go_keep; done) | ((repeat' apply And.intro) <;> go_simp)) (fun hHeld => ?_)
          clear hKK KK
          try simp only [Act.put, List.setIfInBounds_toArray, List.set_cons_zero, List.set_cons_succ]
          refine wpAnyH_ready (rs := [5]) (by kernel_rfl) (by simp) ?_
          refine AllReadyH.cons (o := ⟨some 12, _, _, _, _, _⟩) rfl (fun KK hKK => ?_) AllReadyH.nil
          go_simp
          refine Calls.mono (A1 _) ?_
          rintro e wt2 ⟨rfl, hb⟩
          replace km0 := cell_later hb (cell_al _ km0)
          replace km1 := cell_later hb (cell_al _ km1)
          replace km2 := cell_later hb (cell_al _ km2)
          replace km3 := cell_later hb (cell_al _ km3)
          replace km4 := cell_later hb (cell_al _ km4)
          replace km5 := cell_later hb (cell_al _ km5)
          replace km6 := cell_later hb (cell_al _ km6)
          replace jr0 := fro_later hb (cell_al _ kr0) (fro_al jr0)
          replace kr0 := cell_later hb (cell_al _ kr0)
          replace jr1 := fro_later hb (cell_al _ kr1) (fro_al jr1)
          replace kr1 := cell_later hb (cell_al _ kr1)
          replace jr2 := fro_later hb (cell_al _ kr2) (fro_al jr2)
          replace kr2 := cell_later hb (cell_al _ kr2)
          replace jr3 := fro_later hb (cell_al _ kr3) (fro_al jr3)
          replace kr3 := cell_later hb (cell_al _ kr3)
          replace jr4 := fro_later hb (cell_al _ kr4) (fro_al jr4)
          replace kr4 := cell_later hb (cell_al _ kr4)
          replace jr5 := fro_later hb (cell_al _ kr5) (fro_al jr5)
          replace kr5 := cell_later hb (cell_al _ kr5)
          replace jr6 := fro_later hb (cell_al _ kr6) (fro_al jr6)
          replace kr6 := cell_later hb (cell_al _ kr6)
          replace jx0 := fro_later hb (cell_al _ kx0) (fro_al jx0)
          replace kx0 := cell_later hb (cell_al _ kx0)
          replace jx1 := fro_later hb (cell_al _ kx1) (fro_al jx1)
          replace kx1 := cell_later hb (cell_al _ kx1)
          replace jx2 := fro_later hb (cell_al _ kx2) (fro_al jx2)
          replace kx2 := cell_later hb (cell_al _ kx2)
          have ky0 : wt2.cell? ⟨wt1.heap.size, 0, none⟩ = some (.int .i64 0) := cell_later hb (by go_simp)
          have jy0 : wt2.frozen? ⟨wt1.heap.size, 0, none⟩ = false := by rw [(bcell hb).2 _ _ (by first | omega | (simp <;> omega))]; go_simp
          have ky1 : wt2.cell? ⟨wt1.heap.size, 1, none⟩ = some (.int .i64 0) := cell_later hb (by go_simp)
          have jy1 : wt2.frozen? ⟨wt1.heap.size, 1, none⟩ = false := by rw [(bcell hb).2 _ _ (by first | omega | (simp <;> omega))]; go_simp
          have ky2 : wt2.cell? ⟨wt1.heap.size, 2, none⟩ = some (.int .i64 0) := cell_later hb (by go_simp)
          have jy2 : wt2.frozen? ⟨wt1.heap.size, 2, none⟩ = false := by rw [(bcell hb).2 _ _ (by first | omega | (simp <;> omega))]; go_simp
          replace zm : w.heap.size < wt2.heap.size := World.block_lt_of_cell? _ _ km0
          have zm_wt2 := zm
          replace zr : w.heap.size + 1 < wt2.heap.size := World.block_lt_of_cell? _ _ kr0
          have zr_wt2 := zr
          replace zx : w.heap.size + 1 + 1 < wt2.heap.size := World.block_lt_of_cell? _ _ kx0
          have zx_wt2 := zx
          have zy : wt1.heap.size < wt2.heap.size := World.block_lt_of_cell? _ _ ky0
          have zy_wt2 := zy
          replace hb0 : Below w.heap.size w wt2 := (by repeat (first | with_reducible exact Below.refl _ _ | with_reducible assumption | with_reducible refine Below.setCell ?_ (by first | omega | (simp <;> omega)) _ | with_reducible refine balloc ?_ _ | with_reducible refine Below.drew ?_ | with_reducible refine bstep ?_ (by with_reducible assumption)))
          have hs_wt2 := hb.size; (try simp only [World.size_alloc, World.size_setCell] at hs_wt2)
          clear hb
          (try go_wp2_with fail)
          refine hKK.out _ _ (by first | (go_keep; done) | ((repeat' apply And.intro) <;> go_simp)) (fun hHeld => ?_)
          clear hKK KK
          try simp only [Act.put, List.setIfInBounds_toArray, List.set_cons_zero, List.set_cons_succ]
          refine wpAnyH_take (i := 6) (oi := ⟨some 6, _, _, _, _, _⟩) (v := ?_) rfl (by kernel_rfl) (by kernel_rfl) (by kernel_rfl) (fun _ _ _ h => h) (Or.inl ⟨by rfl, ?_⟩) (by assumption) ?_
          rotate_left
          · intro w hSw; (try dsimp only at hSw); go_simp; try with_reducible rfl
          try simp only [Act.put, List.setIfInBounds_toArray, List.set_cons_zero, List.set_cons_succ]
          refine wpAnyH_take (i := 7) (oi := ⟨some 13, _, _, _, _, _⟩) (v := ?_) rfl (by kernel_rfl) (by kernel_rfl) (by kernel_rfl) (fun _ _ _ h => h) (Or.inl ⟨by rfl, ?_⟩) (by assumption) ?_
          rotate_left
          · intro w hSw; (try dsimp only at hSw); go_simp; try with_reducible rfl
          try simp only [Act.put, List.setIfInBounds_toArray, List.set_cons_zero, List.set_cons_succ]
          refine wpAnyH_take (i := 8) (oi := ⟨some 14, _, _, _, _, _⟩) (v := ?_) rfl (by kernel_rfl) (by kernel_rfl) (by kernel_rfl) (fun _ _ _ h => h) (Or.inl ⟨by rfl, ?_⟩) (by assumption) ?_
          rotate_left
          · intro w hSw; (try dsimp only at hSw); go_simp; try with_reducible rfl
          try simp only [Act.put, List.setIfInBounds_toArray, List.set_cons_zero, List.set_cons_succ]
          refine wpAnyH_ready (rs := [11]) (by kernel_rfl) (by simp) ?_
          refine AllReadyH.cons (o := ⟨none, _, _, _, _, _⟩) rfl (fun KK hKK => ?_) AllReadyH.nil
          go_simp
          (try go_wp2_with fail)
          refine hKK.out _ _ (by first | (go_keep; done) | ((repeat' apply And.intro) <;> go_simp)) (fun hHeld => ?_)
          clear hKK KK
          try simp only [Act.put, List.setIfInBounds_toArray, List.set_cons_zero, List.set_cons_succ]
          refine wpAnyH_ready (rs := [12]) (by kernel_rfl) (by simp) ?_
          refine AllReadyH.cons (o := ⟨none, _, _, _, _, _⟩) rfl (fun KK hKK => ?_) AllReadyH.nil
          go_simp
          (try go_wp2_with fail)
          refine hKK.out _ _ (by first | (go_keep; done) | ((repeat' apply And.intro) <;> go_simp)) (fun hHeld => ?_)
          clear hKK KK
          try simp only [Act.put, List.setIfInBounds_toArray, List.set_cons_zero, List.set_cons_succ]
          refine wpAnyH_done (by kernel_rfl) ?_ _
          (try dsimp only [Exit.then, Met])
          go_wp2_with fail
          go_meet
          refine ⟨_, _, rfl, rfl, by first | omega | (simp; omega), by first | omega | (simp; omega), ?_, ?_, ?_, ?_, ?_, ?_, ?_, ?_, ?_, ?_, ?_, ?_, ?_, ?_, ?_, ?_, ?_, ?_, ?_, ?_, ?_, ?_, ?_, ?_, ?_, ?_, ?_, (by repeat (first | with_reducible exact Below.refl _ _ | with_reducible assumption | with_reducible refine Below.setCell ?_ (by first | omega | (simp <;> omega)) _ | with_reducible refine balloc ?_ _ | with_reducible refine Below.drew ?_ | with_reducible refine bstep ?_ (by with_reducible assumption)))⟩
          all_goals first | (with_reducible assumption) | go_simp
      · go_simp
        (try go_wp2_with fail)
        refine hKK.out _ _ (by first | (go_keep; done) | ((repeat' apply And.intro) <;> go_simp)) (fun hHeld => ?_)
        clear hKK KK
        try simp only [Act.put, List.setIfInBounds_toArray, List.set_cons_zero, List.set_cons_succ]
        refine wpAnyH_ready (rs := [2]) (by kernel_rfl) (by simp) ?_
        refine AllReadyH.cons (o := ⟨some 9, _, _, _, _, _⟩) rfl (fun KK hKK => ?_) AllReadyH.nil
        go_simp
        refine Calls.mono (T1 _) ?_
        rintro e wt1 ⟨rfl, hb⟩
        have km0 : wt1.cell? ⟨w.heap.size, 0, none⟩ = some (.int .i64 m1) := cell_later hb (by go_simp)
        have km1 : wt1.cell? ⟨w.heap.size, 1, none⟩ = some (.int .i64 m2) := cell_later hb (by go_simp)
        have km2 : wt1.cell? ⟨w.heap.size, 2, none⟩ = some (.int .i64 m3) := cell_later hb (by go_simp)
        have km3 : wt1.cell? ⟨w.heap.size, 3, none⟩ = some (.int .i64 m4) := cell_later hb (by go_simp)
        have km4 : wt1.cell? ⟨w.heap.size, 4, none⟩ = some (.int .i64 m5) := cell_later hb (by go_simp)
        have km5 : wt1.cell? ⟨w.heap.size, 5, none⟩ = some (.int .i64 m6) := cell_later hb (by go_simp)
        have km6 : wt1.cell? ⟨w.heap.size, 6, none⟩ = some (.int .i64 m7) := cell_later hb (by go_simp)
        have kr0 : wt1.cell? ⟨w.heap.size + 1, 0, none⟩ = some (.int .i64 0) := cell_later hb (by go_simp)
        have jr0 : wt1.frozen? ⟨w.heap.size + 1, 0, none⟩ = false := by rw [(bcell hb).2 _ _ (by first | omega | (simp <;> omega))]; go_simp
        have kr1 : wt1.cell? ⟨w.heap.size + 1, 1, none⟩ = some (.int .i64 0) := cell_later hb (by go_simp)
        have jr1 : wt1.frozen? ⟨w.heap.size + 1, 1, none⟩ = false := by rw [(bcell hb).2 _ _ (by first | omega | (simp <;> omega))]; go_simp
        have kr2 : wt1.cell? ⟨w.heap.size + 1, 2, none⟩ = some (.int .i64 0) := cell_later hb (by go_simp)
        have jr2 : wt1.frozen? ⟨w.heap.size + 1, 2, none⟩ = false := by rw [(bcell hb).2 _ _ (by first | omega | (simp <;> omega))]; go_simp
        have kr3 : wt1.cell? ⟨w.heap.size + 1, 3, none⟩ = some (.int .i64 0) := cell_later hb (by go_simp)
        have jr3 : wt1.frozen? ⟨w.heap.size + 1, 3, none⟩ = false := by rw [(bcell hb).2 _ _ (by first | omega | (simp <;> omega))]; go_simp
        have kr4 : wt1.cell? ⟨w.heap.size + 1, 4, none⟩ = some (.int .i64 0) := cell_later hb (by go_simp)
        have jr4 : wt1.frozen? ⟨w.heap.size + 1, 4, none⟩ = false := by rw [(bcell hb).2 _ _ (by first | omega | (simp <;> omega))]; go_simp
        have kr5 : wt1.cell? ⟨w.heap.size + 1, 5, none⟩ = some (.int .i64 0) := cell_later hb (by go_simp)
        have jr5 : wt1.frozen? ⟨w.heap.size + 1, 5, none⟩ = false := by rw [(bcell hb).2 _ _ (by first | omega | (simp <;> omega))]; go_simp
        have kr6 : wt1.cell? ⟨w.heap.size + 1, 6, none⟩ = some (.int .i64 0) := cell_later hb (by go_simp)
        have jr6 : wt1.frozen? ⟨w.heap.size + 1, 6, none⟩ = false := by rw [(bcell hb).2 _ _ (by first | omega | (simp <;> omega))]; go_simp
        have kx0 : wt1.cell? ⟨w.heap.size + 1 + 1, 0, none⟩ = some (.int .i64 0) := cell_later hb (by go_simp)
        have jx0 : wt1.frozen? ⟨w.heap.size + 1 + 1, 0, none⟩ = false := by rw [(bcell hb).2 _ _ (by first | omega | (simp <;> omega))]; go_simp
        have kx1 : wt1.cell? ⟨w.heap.size + 1 + 1, 1, none⟩ = some (.int .i64 0) := cell_later hb (by go_simp)
        have jx1 : wt1.frozen? ⟨w.heap.size + 1 + 1, 1, none⟩ = false := by rw [(bcell hb).2 _ _ (by first | omega | (simp <;> omega))]; go_simp
        have kx2 : wt1.cell? ⟨w.heap.size + 1 + 1, 2, none⟩ = some (.int .i64 0) := cell_later hb (by go_simp)
        have jx2 : wt1.frozen? ⟨w.heap.size + 1 + 1, 2, none⟩ = false := by rw [(bcell hb).2 _ _ (by first | omega | (simp <;> omega))]; go_simp
        have ky0 : wt1.cell? ⟨w.heap.size + 1 + 1 + 1, 0, none⟩ = some (.int .i64 0) := cell_later hb (by go_simp)
        have jy0 : wt1.frozen? ⟨w.heap.size + 1 + 1 + 1, 0, none⟩ = false := by rw [(bcell hb).2 _ _ (by first | omega | (simp <;> omega))]; go_simp
        have ky1 : wt1.cell? ⟨w.heap.size + 1 + 1 + 1, 1, none⟩ = some (.int .i64 0) := cell_later hb (by go_simp)
        have jy1 : wt1.frozen? ⟨w.heap.size + 1 + 1 + 1, 1, none⟩ = false := by rw [(bcell hb).2 _ _ (by first | omega | (simp <;> omega))]; go_simp
        have ky2 : wt1.cell? ⟨w.heap.size + 1 + 1 + 1, 2, none⟩ = some (.int .i64 0) := cell_later hb (by go_simp)
        have jy2 : wt1.frozen? ⟨w.heap.size + 1 + 1 + 1, 2, none⟩ = false := by rw [(bcell hb).2 _ _ (by first | omega | (simp <;> omega))]; go_simp
        have zm : w.heap.size < wt1.heap.size := World.block_lt_of_cell? _ _ km0
        have zm_wt1 := zm
        have zr : w.heap.size + 1 < wt1.heap.size := World.block_lt_of_cell? _ _ kr0
        have zr_wt1 := zr
        have zx : w.heap.size + 1 + 1 < wt1.heap.size := World.block_lt_of_cell? _ _ kx0
        have zx_wt1 := zx
        have zy : w.heap.size + 1 + 1 + 1 < wt1.heap.size := World.block_lt_of_cell? _ _ ky0
        have zy_wt1 := zy
        have hb0 : Below w.heap.size w wt1 := (by repeat (first | with_reducible exact Below.refl _ _ | with_reducible assumption | with_reducible refine Below.setCell ?_ (by first | omega | (simp <;> omega)) _ | with_reducible refine balloc ?_ _ | with_reducible refine Below.drew ?_ | with_reducible refine bstep ?_ (by with_reducible assumption)))
        have hs_wt1 := hb.size; (try simp only [World.size_alloc, World.size_setCell] at hs_wt1)
        clear hb
        (try go_wp2_with fail)
        refine hKK.out _ _ (by first | (go_keep; done) | ((repeat' apply And.intro) <;> go_simp)) (fun hHeld => ?_)
        clear hKK KK
        try simp only [Act.put, List.setIfInBounds_toArray, List.set_cons_zero, List.set_cons_succ]
        refine wpAnyH_ready (rs := [5]) (by kernel_rfl) (by simp) ?_
        refine AllReadyH.cons (o := ⟨some 12, _, _, _, _, _⟩) rfl (fun KK hKK => ?_) AllReadyH.nil
        go_simp
        refine Calls.mono (A1 _) ?_
        rintro e wt2 ⟨rfl, hb⟩
        replace km0 := cell_later hb km0
        replace km1 := cell_later hb km1
        replace km2 := cell_later hb km2
        replace km3 := cell_later hb km3
        replace km4 := cell_later hb km4
        replace km5 := cell_later hb km5
        replace km6 := cell_later hb km6
        replace jr0 := fro_later hb kr0 jr0
        replace kr0 := cell_later hb kr0
        replace jr1 := fro_later hb kr1 jr1
        replace kr1 := cell_later hb kr1
        replace jr2 := fro_later hb kr2 jr2
        replace kr2 := cell_later hb kr2
        replace jr3 := fro_later hb kr3 jr3
        replace kr3 := cell_later hb kr3
        replace jr4 := fro_later hb kr4 jr4
        replace kr4 := cell_later hb kr4
        replace jr5 := fro_later hb kr5 jr5
        replace kr5 := cell_later hb kr5
        replace jr6 := fro_later hb kr6 jr6
        replace kr6 := cell_later hb kr6
        replace jx0 := fro_later hb kx0 jx0
        replace kx0 := cell_later hb kx0
        replace jx1 := fro_later hb kx1 jx1
        replace kx1 := cell_later hb kx1
        replace jx2 := fro_later hb kx2 jx2
        replace kx2 := cell_later hb kx2
        replace jy0 := fro_later hb ky0 jy0
        replace ky0 := cell_later hb ky0
        replace jy1 := fro_later hb ky1 jy1
        replace ky1 := cell_later hb ky1
        replace jy2 := fro_later hb ky2 jy2
        replace ky2 := cell_later hb ky2
        replace zm : w.heap.size < wt2.heap.size := World.block_lt_of_cell? _ _ km0
        have zm_wt2 := zm
        replace zr : w.heap.size + 1 < wt2.heap.size := World.block_lt_of_cell? _ _ kr0
        have zr_wt2 := zr
        replace zx : w.heap.size + 1 + 1 < wt2.heap.size := World.block_lt_of_cell? _ _ kx0
        have zx_wt2 := zx
        replace zy : w.heap.size + 1 + 1 + 1 < wt2.heap.size := World.block_lt_of_cell? _ _ ky0
        have zy_wt2 := zy
        replace hb0 : Below w.heap.size w wt2 := (by repeat (first | with_reducible exact Below.refl _ _ | with_reducible assumption | with_reducible refine Below.setCell ?_ (by first | omega | (simp <;> omega)) _ | with_reducible refine balloc ?_ _ | with_reducible refine Below.drew ?_ | with_reducible refine bstep ?_ (by with_reducible assumption)))
        have hs_wt2 : wt1.heap.size ≤ wt2.heap.size := hb.size
        clear hb
        (try go_wp2_with fail)
        refine hKK.out _ _ (by first | (go_keep; done) | ((repeat' apply And.intro) <;> go_simp)) (fun hHeld => ?_)
        clear hKK KK
        try simp only [Act.put, List.setIfInBounds_toArray, List.set_cons_zero, List.set_cons_succ]
        refine wpAnyH_take (i := 6) (oi := ⟨some 6, _, _, _, _, _⟩) (v := ?_) rfl (by kernel_rfl) (by kernel_rfl) (by kernel_rfl) (fun _ _ _ h => h) (Or.inl ⟨by rfl, ?_⟩) (by assumption) ?_
        rotate_left
        · intro w hSw; (try dsimp only at hSw); go_simp; try with_reducible rfl
        try simp only [Act.put, List.setIfInBounds_toArray, List.set_cons_zero, List.set_cons_succ]
        refine wpAnyH_take (i := 7) (oi := ⟨some 13, _, _, _, _, _⟩) (v := ?_) rfl (by kernel_rfl) (by kernel_rfl) (by kernel_rfl) (fun _ _ _ h => h) (Or.inl ⟨by rfl, ?_⟩) (by assumption) ?_
        rotate_left
        · intro w hSw; (try dsimp only at hSw); go_simp; try with_reducible rfl
        try simp only [Act.put, List.setIfInBounds_toArray, List.set_cons_zero, List.set_cons_succ]
        refine wpAnyH_take (i := 8) (oi := ⟨some 14, _, _, _, _, _⟩) (v := ?_) rfl (by kernel_rfl) (by kernel_rfl) (by kernel_rfl) (fun _ _ _ h => h) (Or.inl ⟨by rfl, ?_⟩) (by assumption) ?_
        rotate_left
        · intro w hSw; (try dsimp only at hSw); go_simp; try with_reducible rfl
        try simp only [Act.put, List.setIfInBounds_toArray, List.set_cons_zero, List.set_cons_succ]
        refine wpAnyH_ready (rs := [11]) (by kernel_rfl) (by simp) ?_
        refine AllReadyH.cons (o := ⟨none, _, _, _, _, _⟩) rfl (fun KK hKK => ?_) AllReadyH.nil
        go_simp
        (try go_wp2_with fail)
        refine hKK.out _ _ (by first | (go_keep; done) | ((repeat' apply And.intro) <;> go_simp)) (fun hHeld => ?_)
        clear hKK KK
        try simp only [Act.put, List.setIfInBounds_toArray, List.set_cons_zero, List.set_cons_succ]
        refine wpAnyH_ready (rs := [12]) (by kernel_rfl) (by simp) ?_
        refine AllReadyH.cons (o := ⟨none, _, _, _, _, _⟩) rfl (fun KK hKK => ?_) AllReadyH.nil
        go_simp
        (try go_wp2_with fail)
        refine hKK.out _ _ (by first | (go_keep; done) | ((repeat' apply And.intro) <;> go_simp)) (fun hHeld => ?_)
        clear hKK KK
        try simp only [Act.put, List.setIfInBounds_toArray, List.set_cons_zero, List.set_cons_succ]
        refine wpAnyH_done (by kernel_rfl) ?_ _
        (try dsimp only [Exit.then, Met])
        go_wp2_with fail
        go_meet
        refine ⟨_, _, rfl, rfl, by first | omega | (simp; omega), by first | omega | (simp; omega), ?_, ?_, ?_, ?_, ?_, ?_, ?_, ?_, ?_, ?_, ?_, ?_, ?_, ?_, ?_, ?_, ?_, ?_, ?_, ?_, ?_, ?_, ?_, ?_, ?_, ?_, ?_, (by repeat (first | with_reducible exact Below.refl _ _ | with_reducible assumption | with_reducible refine Below.setCell ?_ (by first | omega | (simp <;> omega)) _ | with_reducible refine balloc ?_ _ | with_reducible refine Below.drew ?_ | with_reducible refine bstep ?_ (by with_reducible assumption)))⟩
        all_goals first | (with_reducible assumption) | go_simp
    · go_simp
      (try go_wp2_with fail)
      refine hKK.out _ _ (by first | (go_keep; done) | ((repeat' apply And.intro) <;> go_simp)) (fun hHeld => ?_)
      clear hKK KK
      try simp only [Act.put, List.setIfInBounds_toArray, List.set_cons_zero, List.set_cons_succ]
      refine wpAnyH_ready (rs := [2, 9]) (by kernel_rfl) (by simp) ?_
      refine AllReadyH.cons (o := ⟨some 9, _, _, _, _, _⟩) rfl (fun KK hKK => ?_) (AllReadyH.cons (o := ⟨some 3, _, _, _, _, _⟩) rfl (fun KK hKK => ?_) AllReadyH.nil)
      · go_simp
        refine Calls.mono (T1 _) ?_
        rintro e wt1 ⟨rfl, hb⟩
        have km0 : wt1.cell? ⟨w.heap.size, 0, none⟩ = some (.int .i64 m1) := cell_later hb (by go_simp)
        have km1 : wt1.cell? ⟨w.heap.size, 1, none⟩ = some (.int .i64 m2) := cell_later hb (by go_simp)
        have km2 : wt1.cell? ⟨w.heap.size, 2, none⟩ = some (.int .i64 m3) := cell_later hb (by go_simp)
        have km3 : wt1.cell? ⟨w.heap.size, 3, none⟩ = some (.int .i64 m4) := cell_later hb (by go_simp)
        have km4 : wt1.cell? ⟨w.heap.size, 4, none⟩ = some (.int .i64 m5) := cell_later hb (by go_simp)
        have km5 : wt1.cell? ⟨w.heap.size, 5, none⟩ = some (.int .i64 m6) := cell_later hb (by go_simp)
        have km6 : wt1.cell? ⟨w.heap.size, 6, none⟩ = some (.int .i64 m7) := cell_later hb (by go_simp)
        have kr0 : wt1.cell? ⟨w.heap.size + 1, 0, none⟩ = some (.int .i64 0) := cell_later hb (by go_simp)
        have jr0 : wt1.frozen? ⟨w.heap.size + 1, 0, none⟩ = false := by rw [(bcell hb).2 _ _ (by first | omega | (simp <;> omega))]; go_simp
        have kr1 : wt1.cell? ⟨w.heap.size + 1, 1, none⟩ = some (.int .i64 0) := cell_later hb (by go_simp)
        have jr1 : wt1.frozen? ⟨w.heap.size + 1, 1, none⟩ = false := by rw [(bcell hb).2 _ _ (by first | omega | (simp <;> omega))]; go_simp
        have kr2 : wt1.cell? ⟨w.heap.size + 1, 2, none⟩ = some (.int .i64 0) := cell_later hb (by go_simp)
        have jr2 : wt1.frozen? ⟨w.heap.size + 1, 2, none⟩ = false := by rw [(bcell hb).2 _ _ (by first | omega | (simp <;> omega))]; go_simp
        have kr3 : wt1.cell? ⟨w.heap.size + 1, 3, none⟩ = some (.int .i64 0) := cell_later hb (by go_simp)
        have jr3 : wt1.frozen? ⟨w.heap.size + 1, 3, none⟩ = false := by rw [(bcell hb).2 _ _ (by first | omega | (simp <;> omega))]; go_simp
        have kr4 : wt1.cell? ⟨w.heap.size + 1, 4, none⟩ = some (.int .i64 0) := cell_later hb (by go_simp)
        have jr4 : wt1.frozen? ⟨w.heap.size + 1, 4, none⟩ = false := by rw [(bcell hb).2 _ _ (by first | omega | (simp <;> omega))]; go_simp
        have kr5 : wt1.cell? ⟨w.heap.size + 1, 5, none⟩ = some (.int .i64 0) := cell_later hb (by go_simp)
        have jr5 : wt1.frozen? ⟨w.heap.size + 1, 5, none⟩ = false := by rw [(bcell hb).2 _ _ (by first | omega | (simp <;> omega))]; go_simp
        have kr6 : wt1.cell? ⟨w.heap.size + 1, 6, none⟩ = some (.int .i64 0) := cell_later hb (by go_simp)
        have jr6 : wt1.frozen? ⟨w.heap.size + 1, 6, none⟩ = false := by rw [(bcell hb).2 _ _ (by first | omega | (simp <;> omega))]; go_simp
        have ky0 : wt1.cell? ⟨w.heap.size + 1 + 1, 0, none⟩ = some (.int .i64 0) := cell_later hb (by go_simp)
        have jy0 : wt1.frozen? ⟨w.heap.size + 1 + 1, 0, none⟩ = false := by rw [(bcell hb).2 _ _ (by first | omega | (simp <;> omega))]; go_simp
        have ky1 : wt1.cell? ⟨w.heap.size + 1 + 1, 1, none⟩ = some (.int .i64 0) := cell_later hb (by go_simp)
        have jy1 : wt1.frozen? ⟨w.heap.size + 1 + 1, 1, none⟩ = false := by rw [(bcell hb).2 _ _ (by first | omega | (simp <;> omega))]; go_simp
        have ky2 : wt1.cell? ⟨w.heap.size + 1 + 1, 2, none⟩ = some (.int .i64 0) := cell_later hb (by go_simp)
        have jy2 : wt1.frozen? ⟨w.heap.size + 1 + 1, 2, none⟩ = false := by rw [(bcell hb).2 _ _ (by first | omega | (simp <;> omega))]; go_simp
        have zm : w.heap.size < wt1.heap.size := World.block_lt_of_cell? _ _ km0
        have zm_wt1 := zm
        have zr : w.heap.size + 1 < wt1.heap.size := World.block_lt_of_cell? _ _ kr0
        have zr_wt1 := zr
        have zy : w.heap.size + 1 + 1 < wt1.heap.size := World.block_lt_of_cell? _ _ ky0
        have zy_wt1 := zy
        have hb0 : Below w.heap.size w wt1 := (by repeat (first | with_reducible exact Below.refl _ _ | with_reducible assumption | with_reducible refine Below.setCell ?_ (by first | omega | (simp <;> omega)) _ | with_reducible refine balloc ?_ _ | with_reducible refine Below.drew ?_ | with_reducible refine bstep ?_ (by with_reducible assumption)))
        have hs_wt1 := hb.size; (try simp only [World.size_alloc, World.size_setCell] at hs_wt1)
        clear hb
        (try go_wp2_with fail)
        refine hKK.out _ _ (by first | (go_keep; done) | ((repeat' apply And.intro) <;> go_simp)) (fun hHeld => ?_)
        clear hKK KK
        try simp only [Act.put, List.setIfInBounds_toArray, List.set_cons_zero, List.set_cons_succ]
        refine wpAnyH_ready (rs := [5, 9]) (by kernel_rfl) (by simp) ?_
        refine AllReadyH.cons (o := ⟨some 12, _, _, _, _, _⟩) rfl (fun KK hKK => ?_) (AllReadyH.cons (o := ⟨some 3, _, _, _, _, _⟩) rfl (fun KK hKK => ?_) AllReadyH.nil)
        · go_simp
          refine Calls.mono (A1 _) ?_
          rintro e wt2 ⟨rfl, hb⟩
          replace km0 := cell_later hb km0
          replace km1 := cell_later hb km1
          replace km2 := cell_later hb km2
          replace km3 := cell_later hb km3
          replace km4 := cell_later hb km4
          replace km5 := cell_later hb km5
          replace km6 := cell_later hb km6
          replace jr0 := fro_later hb kr0 jr0
          replace kr0 := cell_later hb kr0
          replace jr1 := fro_later hb kr1 jr1
          replace kr1 := cell_later hb kr1
          replace jr2 := fro_later hb kr2 jr2
          replace kr2 := cell_later hb kr2
          replace jr3 := fro_later hb kr3 jr3
          replace kr3 := cell_later hb kr3
          replace jr4 := fro_later hb kr4 jr4
          replace kr4 := cell_later hb kr4
          replace jr5 := fro_later hb kr5 jr5
          replace kr5 := cell_later hb kr5
          replace jr6 := fro_later hb kr6 jr6
          replace kr6 := cell_later hb kr6
          replace jy0 := fro_later hb ky0 jy0
          replace ky0 := cell_later hb ky0
          replace jy1 := fro_later hb ky1 jy1
          replace ky1 := cell_later hb ky1
          replace jy2 := fro_later hb ky2 jy2
          replace ky2 := cell_later hb ky2
          replace zm : w.heap.size < wt2.heap.size := World.block_lt_of_cell? _ _ km0
          have zm_wt2 := zm
          replace zr : w.heap.size + 1 < wt2.heap.size := World.block_lt_of_cell? _ _ kr0
          have zr_wt2 := zr
          replace zy : w.heap.size + 1 + 1 < wt2.heap.size := World.block_lt_of_cell? _ _ ky0
          have zy_wt2 := zy
          replace hb0 : Below w.heap.size w wt2 := (by repeat (first | with_reducible exact Below.refl _ _ | with_reducible assumption | with_reducible refine Below.setCell ?_ (by first | omega | (simp <;> omega)) _ | with_reducible refine balloc ?_ _ | with_reducible refine Below.drew ?_ | with_reducible refine bstep ?_ (by with_reducible assumption)))
          have hs_wt2 : wt1.heap.size ≤ wt2.heap.size := hb.size
          clear hb
          (try go_wp2_with fail)
          refine hKK.out _ _ (by first | (go_keep; done) | ((repeat' apply And.intro) <;> go_simp)) (fun hHeld => ?_)
          clear hKK KK
          try simp only [Act.put, List.setIfInBounds_toArray, List.set_cons_zero, List.set_cons_succ]
          refine wpAnyH_take (i := 6) (oi := ⟨some 6, _, _, _, _, _⟩) (v := ?_) rfl (by kernel_rfl) (by kernel_rfl) (by kernel_rfl) (fun _ _ _ h => h) (Or.inl ⟨by rfl, ?_⟩) (by assumption) ?_
          rotate_left
          · intro w hSw; (try dsimp only at hSw); go_simp; try with_reducible rfl
          try simp only [Act.put, List.setIfInBounds_toArray, List.set_cons_zero, List.set_cons_succ]
          refine wpAnyH_take (i := 7) (oi := ⟨some 13, _, _, _, _, _⟩) (v := ?_) rfl (by kernel_rfl) (by kernel_rfl) (by kernel_rfl) (fun _ _ _ h => h) (Or.inl ⟨by rfl, ?_⟩) (by assumption) ?_
          rotate_left
          · intro w hSw; (try dsimp only at hSw); go_simp; try with_reducible rfl
          try simp only [Act.put, List.setIfInBounds_toArray, List.set_cons_zero, List.set_cons_succ]
          refine wpAnyH_take (i := 8) (oi := ⟨some 14, _, _, _, _, _⟩) (v := ?_) rfl (by kernel_rfl) (by kernel_rfl) (by kernel_rfl) (fun _ _ _ h => h) (Or.inl ⟨by rfl, ?_⟩) (by assumption) ?_
          rotate_left
          · intro w hSw; (try dsimp only at hSw); go_simp; try with_reducible rfl
          try simp only [Act.put, List.setIfInBounds_toArray, List.set_cons_zero, List.set_cons_succ]
          refine wpAnyH_ready (rs := [9]) (by kernel_rfl) (by simp) ?_
          refine AllReadyH.cons (o := ⟨some 3, _, _, _, _, _⟩) rfl (fun KK hKK => ?_) AllReadyH.nil
          go_simp
          (try go_wp2_with fail)
          refine hKK.out _ _ (by first | (go_keep; done) | ((repeat' apply And.intro) <;> go_simp)) (fun hHeld => ?_)
          clear hKK KK
          try simp only [Act.put, List.setIfInBounds_toArray, List.set_cons_zero, List.set_cons_succ]
          refine wpAnyH_ready (rs := [11]) (by kernel_rfl) (by simp) ?_
          refine AllReadyH.cons (o := ⟨none, _, _, _, _, _⟩) rfl (fun KK hKK => ?_) AllReadyH.nil
          go_simp
          (try go_wp2_with fail)
          refine hKK.out _ _ (by first | (go_keep; done) | ((repeat' apply And.intro) <;> go_simp)) (fun hHeld => ?_)
          clear hKK KK
          try simp only [Act.put, List.setIfInBounds_toArray, List.set_cons_zero, List.set_cons_succ]
          refine wpAnyH_ready (rs := [12]) (by kernel_rfl) (by simp) ?_
          refine AllReadyH.cons (o := ⟨none, _, _, _, _, _⟩) rfl (fun KK hKK => ?_) AllReadyH.nil
          go_simp
          (try go_wp2_with fail)
          refine hKK.out _ _ (by first | (go_keep; done) | ((repeat' apply And.intro) <;> go_simp)) (fun hHeld => ?_)
          clear hKK KK
          try simp only [Act.put, List.setIfInBounds_toArray, List.set_cons_zero, List.set_cons_succ]
          refine wpAnyH_done (by kernel_rfl) ?_ _
          (try dsimp only [Exit.then, Met])
          go_wp2_with fail
          go_meet
          refine ⟨_, _, rfl, rfl, by first | omega | (simp; omega), by first | omega | (simp; omega), ?_, ?_, ?_, ?_, ?_, ?_, ?_, ?_, ?_, ?_, ?_, ?_, ?_, ?_, ?_, ?_, ?_, ?_, ?_, ?_, ?_, ?_, ?_, ?_, ?_, ?_, ?_, (by repeat (first | with_reducible exact Below.refl _ _ | with_reducible assumption | with_reducible refine Below.setCell ?_ (by first | omega | (simp <;> omega)) _ | with_reducible refine balloc ?_ _ | with_reducible refine Below.drew ?_ | with_reducible refine bstep ?_ (by with_reducible assumption)))⟩
          all_goals first | (with_reducible assumption) | go_simp
        · go_simp
          (try go_wp2_with fail)
          refine hKK.out _ _ (by first | (go_keep; done) | ((repeat' apply And.intro) <;> go_simp)) (fun hHeld => ?_)
          clear hKK KK
          try simp only [Act.put, List.setIfInBounds_toArray, List.set_cons_zero, List.set_cons_succ]
          refine wpAnyH_ready (rs := [5]) (by kernel_rfl) (by simp) ?_
          refine AllReadyH.cons (o := ⟨some 12, _, _, _, _, _⟩) rfl (fun KK hKK => ?_) AllReadyH.nil
          go_simp
          refine Calls.mono (A1 _) ?_
          rintro e wt2 ⟨rfl, hb⟩
          replace km0 := cell_later hb (cell_al _ km0)
          replace km1 := cell_later hb (cell_al _ km1)
          replace km2 := cell_later hb (cell_al _ km2)
          replace km3 := cell_later hb (cell_al _ km3)
          replace km4 := cell_later hb (cell_al _ km4)
          replace km5 := cell_later hb (cell_al _ km5)
          replace km6 := cell_later hb (cell_al _ km6)
          replace jr0 := fro_later hb (cell_al _ kr0) (fro_al jr0)
          replace kr0 := cell_later hb (cell_al _ kr0)
          replace jr1 := fro_later hb (cell_al _ kr1) (fro_al jr1)
          replace kr1 := cell_later hb (cell_al _ kr1)
          replace jr2 := fro_later hb (cell_al _ kr2) (fro_al jr2)
          replace kr2 := cell_later hb (cell_al _ kr2)
          replace jr3 := fro_later hb (cell_al _ kr3) (fro_al jr3)
          replace kr3 := cell_later hb (cell_al _ kr3)
          replace jr4 := fro_later hb (cell_al _ kr4) (fro_al jr4)
          replace kr4 := cell_later hb (cell_al _ kr4)
          replace jr5 := fro_later hb (cell_al _ kr5) (fro_al jr5)
          replace kr5 := cell_later hb (cell_al _ kr5)
          replace jr6 := fro_later hb (cell_al _ kr6) (fro_al jr6)
          replace kr6 := cell_later hb (cell_al _ kr6)
          replace jy0 := fro_later hb (cell_al _ ky0) (fro_al jy0)
          replace ky0 := cell_later hb (cell_al _ ky0)
          replace jy1 := fro_later hb (cell_al _ ky1) (fro_al jy1)
          replace ky1 := cell_later hb (cell_al _ ky1)
          replace jy2 := fro_later hb (cell_al _ ky2) (fro_al jy2)
          replace ky2 := cell_later hb (cell_al _ ky2)
          have kx0 : wt2.cell? ⟨wt1.heap.size, 0, none⟩ = some (.int .i64 0) := cell_later hb (by go_simp)
          have jx0 : wt2.frozen? ⟨wt1.heap.size, 0, none⟩ = false := by rw [(bcell hb).2 _ _ (by first | omega | (simp <;> omega))]; go_simp
          have kx1 : wt2.cell? ⟨wt1.heap.size, 1, none⟩ = some (.int .i64 0) := cell_later hb (by go_simp)
          have jx1 : wt2.frozen? ⟨wt1.heap.size, 1, none⟩ = false := by rw [(bcell hb).2 _ _ (by first | omega | (simp <;> omega))]; go_simp
          have kx2 : wt2.cell? ⟨wt1.heap.size, 2, none⟩ = some (.int .i64 0) := cell_later hb (by go_simp)
          have jx2 : wt2.frozen? ⟨wt1.heap.size, 2, none⟩ = false := by rw [(bcell hb).2 _ _ (by first | omega | (simp <;> omega))]; go_simp
          replace zm : w.heap.size < wt2.heap.size := World.block_lt_of_cell? _ _ km0
          have zm_wt2 := zm
          replace zr : w.heap.size + 1 < wt2.heap.size := World.block_lt_of_cell? _ _ kr0
          have zr_wt2 := zr
          replace zy : w.heap.size + 1 + 1 < wt2.heap.size := World.block_lt_of_cell? _ _ ky0
          have zy_wt2 := zy
          have zx : wt1.heap.size < wt2.heap.size := World.block_lt_of_cell? _ _ kx0
          have zx_wt2 := zx
          replace hb0 : Below w.heap.size w wt2 := (by repeat (first | with_reducible exact Below.refl _ _ | with_reducible assumption | with_reducible refine Below.setCell ?_ (by first | omega | (simp <;> omega)) _ | with_reducible refine balloc ?_ _ | with_reducible refine Below.drew ?_ | with_reducible refine bstep ?_ (by with_reducible assumption)))
          have hs_wt2 := hb.size; (try simp only [World.size_alloc, World.size_setCell] at hs_wt2)
          clear hb
          (try go_wp2_with fail)
          refine hKK.out _ _ (by first | (go_keep; done) | ((repeat' apply And.intro) <;> go_simp)) (fun hHeld => ?_)
          clear hKK KK
          try simp only [Act.put, List.setIfInBounds_toArray, List.set_cons_zero, List.set_cons_succ]
          refine wpAnyH_take (i := 6) (oi := ⟨some 6, _, _, _, _, _⟩) (v := ?_) rfl (by kernel_rfl) (by kernel_rfl) (by kernel_rfl) (fun _ _ _ h => h) (Or.inl ⟨by rfl, ?_⟩) (by assumption) ?_
          rotate_left
          · intro w hSw; (try dsimp only at hSw); go_simp; try with_reducible rfl
          try simp only [Act.put, List.setIfInBounds_toArray, List.set_cons_zero, List.set_cons_succ]
          refine wpAnyH_take (i := 7) (oi := ⟨some 13, _, _, _, _, _⟩) (v := ?_) rfl (by kernel_rfl) (by kernel_rfl) (by kernel_rfl) (fun _ _ _ h => h) (Or.inl ⟨by rfl, ?_⟩) (by assumption) ?_
          rotate_left
          · intro w hSw; (try dsimp only at hSw); go_simp; try with_reducible rfl
          try simp only [Act.put, List.setIfInBounds_toArray, List.set_cons_zero, List.set_cons_succ]
          refine wpAnyH_take (i := 8) (oi := ⟨some 14, _, _, _, _, _⟩) (v := ?_) rfl (by kernel_rfl) (by kernel_rfl) (by kernel_rfl) (fun _ _ _ h => h) (Or.inl ⟨by rfl, ?_⟩) (by assumption) ?_
          rotate_left
          · intro w hSw; (try dsimp only at hSw); go_simp; try with_reducible rfl
          try simp only [Act.put, List.setIfInBounds_toArray, List.set_cons_zero, List.set_cons_succ]
          refine wpAnyH_ready (rs := [11]) (by kernel_rfl) (by simp) ?_
          refine AllReadyH.cons (o := ⟨none, _, _, _, _, _⟩) rfl (fun KK hKK => ?_) AllReadyH.nil
          go_simp
          (try go_wp2_with fail)
          refine hKK.out _ _ (by first | (go_keep; done) | ((repeat' apply And.intro) <;> go_simp)) (fun hHeld => ?_)
          clear hKK KK
          try simp only [Act.put, List.setIfInBounds_toArray, List.set_cons_zero, List.set_cons_succ]
          refine wpAnyH_ready (rs := [12]) (by kernel_rfl) (by simp) ?_
          refine AllReadyH.cons (o := ⟨none, _, _, _, _, _⟩) rfl (fun KK hKK => ?_) AllReadyH.nil
          go_simp
          (try go_wp2_with fail)
          refine hKK.out _ _ (by first | (go_keep; done) | ((repeat' apply And.intro) <;> go_simp)) (fun hHeld => ?_)
          clear hKK KK
          try simp only [Act.put, List.setIfInBounds_toArray, List.set_cons_zero, List.set_cons_succ]
          refine wpAnyH_done (by kernel_rfl) ?_ _
          (try dsimp only [Exit.then, Met])
          go_wp2_with fail
          go_meet
          refine ⟨_, _, rfl, rfl, by first | omega | (simp; omega), by first | omega | (simp; omega), ?_, ?_, ?_, ?_, ?_, ?_, ?_, ?_, ?_, ?_, ?_, ?_, ?_, ?_, ?_, ?_, ?_, ?_, ?_, ?_, ?_, ?_, ?_, ?_, ?_, ?_, ?_, (by repeat (first | with_reducible exact Below.refl _ _ | with_reducible assumption | with_reducible refine Below.setCell ?_ (by first | omega | (simp <;> omega)) _ | with_reducible refine balloc ?_ _ | with_reducible refine Below.drew ?_ | with_reducible refine bstep ?_ (by with_reducible assumption)))⟩
          all_goals first | (with_reducible assumption) | go_simp
      · go_simp
        (try go_wp2_with fail)
        refine hKK.out _ _ (by first | (go_keep; done) | ((repeat' apply And.intro) <;> go_simp)) (fun hHeld => ?_)
        clear hKK KK
        try simp only [Act.put, List.setIfInBounds_toArray, List.set_cons_zero, List.set_cons_succ]
        refine wpAnyH_ready (rs := [2]) (by kernel_rfl) (by simp) ?_
        refine AllReadyH.cons (o := ⟨some 9, _, _, _, _, _⟩) rfl (fun KK hKK => ?_) AllReadyH.nil
        go_simp
        refine Calls.mono (T1 _) ?_
        rintro e wt1 ⟨rfl, hb⟩
        have km0 : wt1.cell? ⟨w.heap.size, 0, none⟩ = some (.int .i64 m1) := cell_later hb (by go_simp)
        have km1 : wt1.cell? ⟨w.heap.size, 1, none⟩ = some (.int .i64 m2) := cell_later hb (by go_simp)
        have km2 : wt1.cell? ⟨w.heap.size, 2, none⟩ = some (.int .i64 m3) := cell_later hb (by go_simp)
        have km3 : wt1.cell? ⟨w.heap.size, 3, none⟩ = some (.int .i64 m4) := cell_later hb (by go_simp)
        have km4 : wt1.cell? ⟨w.heap.size, 4, none⟩ = some (.int .i64 m5) := cell_later hb (by go_simp)
        have km5 : wt1.cell? ⟨w.heap.size, 5, none⟩ = some (.int .i64 m6) := cell_later hb (by go_simp)
        have km6 : wt1.cell? ⟨w.heap.size, 6, none⟩ = some (.int .i64 m7) := cell_later hb (by go_simp)
        have kr0 : wt1.cell? ⟨w.heap.size + 1, 0, none⟩ = some (.int .i64 0) := cell_later hb (by go_simp)
        have jr0 : wt1.frozen? ⟨w.heap.size + 1, 0, none⟩ = false := by rw [(bcell hb).2 _ _ (by first | omega | (simp <;> omega))]; go_simp
        have kr1 : wt1.cell? ⟨w.heap.size + 1, 1, none⟩ = some (.int .i64 0) := cell_later hb (by go_simp)
        have jr1 : wt1.frozen? ⟨w.heap.size + 1, 1, none⟩ = false := by rw [(bcell hb).2 _ _ (by first | omega | (simp <;> omega))]; go_simp
        have kr2 : wt1.cell? ⟨w.heap.size + 1, 2, none⟩ = some (.int .i64 0) := cell_later hb (by go_simp)
        have jr2 : wt1.frozen? ⟨w.heap.size + 1, 2, none⟩ = false := by rw [(bcell hb).2 _ _ (by first | omega | (simp <;> omega))]; go_simp
        have kr3 : wt1.cell? ⟨w.heap.size + 1, 3, none⟩ = some (.int .i64 0) := cell_later hb (by go_simp)
        have jr3 : wt1.frozen? ⟨w.heap.size + 1, 3, none⟩ = false := by rw [(bcell hb).2 _ _ (by first | omega | (simp <;> omega))]; go_simp
        have kr4 : wt1.cell? ⟨w.heap.size + 1, 4, none⟩ = some (.int .i64 0) := cell_later hb (by go_simp)
        have jr4 : wt1.frozen? ⟨w.heap.size + 1, 4, none⟩ = false := by rw [(bcell hb).2 _ _ (by first | omega | (simp <;> omega))]; go_simp
        have kr5 : wt1.cell? ⟨w.heap.size + 1, 5, none⟩ = some (.int .i64 0) := cell_later hb (by go_simp)
        have jr5 : wt1.frozen? ⟨w.heap.size + 1, 5, none⟩ = false := by rw [(bcell hb).2 _ _ (by first | omega | (simp <;> omega))]; go_simp
        have kr6 : wt1.cell? ⟨w.heap.size + 1, 6, none⟩ = some (.int .i64 0) := cell_later hb (by go_simp)
        have jr6 : wt1.frozen? ⟨w.heap.size + 1, 6, none⟩ = false := by rw [(bcell hb).2 _ _ (by first | omega | (simp <;> omega))]; go_simp
        have ky0 : wt1.cell? ⟨w.heap.size + 1 + 1, 0, none⟩ = some (.int .i64 0) := cell_later hb (by go_simp)
        have jy0 : wt1.frozen? ⟨w.heap.size + 1 + 1, 0, none⟩ = false := by rw [(bcell hb).2 _ _ (by first | omega | (simp <;> omega))]; go_simp
        have ky1 : wt1.cell? ⟨w.heap.size + 1 + 1, 1, none⟩ = some (.int .i64 0) := cell_later hb (by go_simp)
        have jy1 : wt1.frozen? ⟨w.heap.size + 1 + 1, 1, none⟩ = false := by rw [(bcell hb).2 _ _ (by first | omega | (simp <;> omega))]; go_simp
        have ky2 : wt1.cell? ⟨w.heap.size + 1 + 1, 2, none⟩ = some (.int .i64 0) := cell_later hb (by go_simp)
        have jy2 : wt1.frozen? ⟨w.heap.size + 1 + 1, 2, none⟩ = false := by rw [(bcell hb).2 _ _ (by first | omega | (simp <;> omega))]; go_simp
        have kx0 : wt1.cell? ⟨w.heap.size + 1 + 1 + 1, 0, none⟩ = some (.int .i64 0) := cell_later hb (by go_simp)
        have jx0 : wt1.frozen? ⟨w.heap.size + 1 + 1 + 1, 0, none⟩ = false := by rw [(bcell hb).2 _ _ (by first | omega | (simp <;> omega))]; go_simp
        have kx1 : wt1.cell? ⟨w.heap.size + 1 + 1 + 1, 1, none⟩ = some (.int .i64 0) := cell_later hb (by go_simp)
        have jx1 : wt1.frozen? ⟨w.heap.size + 1 + 1 + 1, 1, none⟩ = false := by rw [(bcell hb).2 _ _ (by first | omega | (simp <;> omega))]; go_simp
        have kx2 : wt1.cell? ⟨w.heap.size + 1 + 1 + 1, 2, none⟩ = some (.int .i64 0) := cell_later hb (by go_simp)
        have jx2 : wt1.frozen? ⟨w.heap.size + 1 + 1 + 1, 2, none⟩ = false := by rw [(bcell hb).2 _ _ (by first | omega | (simp <;> omega))]; go_simp
        have zm : w.heap.size < wt1.heap.size := World.block_lt_of_cell? _ _ km0
        have zm_wt1 := zm
        have zr : w.heap.size + 1 < wt1.heap.size := World.block_lt_of_cell? _ _ kr0
        have zr_wt1 := zr
        have zy : w.heap.size + 1 + 1 < wt1.heap.size := World.block_lt_of_cell? _ _ ky0
        have zy_wt1 := zy
        have zx : w.heap.size + 1 + 1 + 1 < wt1.heap.size := World.block_lt_of_cell? _ _ kx0
        have zx_wt1 := zx
        have hb0 : Below w.heap.size w wt1 := (by repeat (first | with_reducible exact Below.refl _ _ | with_reducible assumption | with_reducible refine Below.setCell ?_ (by first | omega | (simp <;> omega)) _ | with_reducible refine balloc ?_ _ | with_reducible refine Below.drew ?_ | with_reducible refine bstep ?_ (by with_reducible assumption)))
        have hs_wt1 := hb.size; (try simp only [World.size_alloc, World.size_setCell] at hs_wt1)
        clear hb
        (try go_wp2_with fail)
        refine hKK.out _ _ (by first | (go_keep; done) | ((repeat' apply And.intro) <;> go_simp)) (fun hHeld => ?_)
        clear hKK KK
        try simp only [Act.put, List.setIfInBounds_toArray, List.set_cons_zero, List.set_cons_succ]
        refine wpAnyH_ready (rs := [5]) (by kernel_rfl) (by simp) ?_
        refine AllReadyH.cons (o := ⟨some 12, _, _, _, _, _⟩) rfl (fun KK hKK => ?_) AllReadyH.nil
        go_simp
        refine Calls.mono (A1 _) ?_
        rintro e wt2 ⟨rfl, hb⟩
        replace km0 := cell_later hb km0
        replace km1 := cell_later hb km1
        replace km2 := cell_later hb km2
        replace km3 := cell_later hb km3
        replace km4 := cell_later hb km4
        replace km5 := cell_later hb km5
        replace km6 := cell_later hb km6
        replace jr0 := fro_later hb kr0 jr0
        replace kr0 := cell_later hb kr0
        replace jr1 := fro_later hb kr1 jr1
        replace kr1 := cell_later hb kr1
        replace jr2 := fro_later hb kr2 jr2
        replace kr2 := cell_later hb kr2
        replace jr3 := fro_later hb kr3 jr3
        replace kr3 := cell_later hb kr3
        replace jr4 := fro_later hb kr4 jr4
        replace kr4 := cell_later hb kr4
        replace jr5 := fro_later hb kr5 jr5
        replace kr5 := cell_later hb kr5
        replace jr6 := fro_later hb kr6 jr6
        replace kr6 := cell_later hb kr6
        replace jy0 := fro_later hb ky0 jy0
        replace ky0 := cell_later hb ky0
        replace jy1 := fro_later hb ky1 jy1
        replace ky1 := cell_later hb ky1
        replace jy2 := fro_later hb ky2 jy2
        replace ky2 := cell_later hb ky2
        replace jx0 := fro_later hb kx0 jx0
        replace kx0 := cell_later hb kx0
        replace jx1 := fro_later hb kx1 jx1
        replace kx1 := cell_later hb kx1
        replace jx2 := fro_later hb kx2 jx2
        replace kx2 := cell_later hb kx2
        replace zm : w.heap.size < wt2.heap.size := World.block_lt_of_cell? _ _ km0
        have zm_wt2 := zm
        replace zr : w.heap.size + 1 < wt2.heap.size := World.block_lt_of_cell? _ _ kr0
        have zr_wt2 := zr
        replace zy : w.heap.size + 1 + 1 < wt2.heap.size := World.block_lt_of_cell? _ _ ky0
        have zy_wt2 := zy
        replace zx : w.heap.size + 1 + 1 + 1 < wt2.heap.size := World.block_lt_of_cell? _ _ kx0
        have zx_wt2 := zx
        replace hb0 : Below w.heap.size w wt2 := (by repeat (first | with_reducible exact Below.refl _ _ | with_reducible assumption | with_reducible refine Below.setCell ?_ (by first | omega | (simp <;> omega)) _ | with_reducible refine balloc ?_ _ | with_reducible refine Below.drew ?_ | with_reducible refine bstep ?_ (by with_reducible assumption)))
        have hs_wt2 : wt1.heap.size ≤ wt2.heap.size := hb.size
        clear hb
        (try go_wp2_with fail)
        refine hKK.out _ _ (by first | (go_keep; done) | ((repeat' apply And.intro) <;> go_simp)) (fun hHeld => ?_)
        clear hKK KK
        try simp only [Act.put, List.setIfInBounds_toArray, List.set_cons_zero, List.set_cons_succ]
        refine wpAnyH_take (i := 6) (oi := ⟨some 6, _, _, _, _, _⟩) (v := ?_) rfl (by kernel_rfl) (by kernel_rfl) (by kernel_rfl) (fun _ _ _ h => h) (Or.inl ⟨by rfl, ?_⟩) (by assumption) ?_
        rotate_left
        · intro w hSw; (try dsimp only at hSw); go_simp; try with_reducible rfl
        try simp only [Act.put, List.setIfInBounds_toArray, List.set_cons_zero, List.set_cons_succ]
        refine wpAnyH_take (i := 7) (oi := ⟨some 13, _, _, _, _, _⟩) (v := ?_) rfl (by kernel_rfl) (by kernel_rfl) (by kernel_rfl) (fun _ _ _ h => h) (Or.inl ⟨by rfl, ?_⟩) (by assumption) ?_
        rotate_left
        · intro w hSw; (try dsimp only at hSw); go_simp; try with_reducible rfl
        try simp only [Act.put, List.setIfInBounds_toArray, List.set_cons_zero, List.set_cons_succ]
        refine wpAnyH_take (i := 8) (oi := ⟨some 14, _, _, _, _, _⟩) (v := ?_) rfl (by kernel_rfl) (by kernel_rfl) (by kernel_rfl) (fun _ _ _ h => h) (Or.inl ⟨by rfl, ?_⟩) (by assumption) ?_
        rotate_left
        · intro w hSw; (try dsimp only at hSw); go_simp; try with_reducible rfl
        try simp only [Act.put, List.setIfInBounds_toArray, List.set_cons_zero, List.set_cons_succ]
        refine wpAnyH_ready (rs := [11]) (by kernel_rfl) (by simp) ?_
        refine AllReadyH.cons (o := ⟨none, _, _, _, _, _⟩) rfl (fun KK hKK => ?_) AllReadyH.nil
        go_simp
        (try go_wp2_with fail)
        refine hKK.out _ _ (by first | (go_keep; done) | ((repeat' apply And.intro) <;> go_simp)) (fun hHeld => ?_)
        clear hKK KK
        try simp only [Act.put, List.setIfInBounds_toArray, List.set_cons_zero, List.set_cons_succ]
        refine wpAnyH_ready (rs := [12]) (by kernel_rfl) (by simp) ?_
        refine AllReadyH.cons (o := ⟨none, _, _, _, _, _⟩) rfl (fun KK hKK => ?_) AllReadyH.nil
        go_simp
        (try go_wp2_with fail)
        refine hKK.out _ _ (by first | (go_keep; done) | ((repeat' apply And.intro) <;> go_simp)) (fun hHeld => ?_)
        clear hKK KK
        try simp only [Act.put, List.setIfInBounds_toArray, List.set_cons_zero, List.set_cons_succ]
        refine wpAnyH_done (by kernel_rfl) ?_ _
        (try dsimp only [Exit.then, Met])
        go_wp2_with fail
        go_meet
        refine ⟨_, _, rfl, rfl, by first | omega | (simp; omega), by first | omega | (simp; omega), ?_, ?_, ?_, ?_, ?_, ?_, ?_, ?_, ?_, ?_, ?_, ?_, ?_, ?_, ?_, ?_, ?_, ?_, ?_, ?_, ?_, ?_, ?_, ?_, ?_, ?_, ?_, (by repeat (first | with_reducible exact Below.refl _ _ | with_reducible assumption | with_reducible refine Below.setCell ?_ (by first | omega | (simp <;> omega)) _ | with_reducible refine balloc ?_ _ | with_reducible refine Below.drew ?_ | with_reducible refine bstep ?_ (by with_reducible assumption)))⟩
        all_goals first | (with_reducible assumption) | go_simp
  case rest =>
    obtain ⟨gx, gy, rfl, rfl, lgx, lgy, kx0, kx1, kx2, ky0, ky1, ky2, km0, km1, km2, km3, km4, km5, km6, kr0, jr0, kr1, jr1, kr2, jr2, kr3, jr3, kr4, jr4, kr5, jr5, kr6, jr6, hb0⟩ := hcut
    have zx : gx < wc.heap.size := World.block_lt_of_cell? _ _ kx0
    have zx_wc := zx
    have zy : gy < wc.heap.size := World.block_lt_of_cell? _ _ ky0
    have zy_wc := zy
    have zm : w.heap.size < wc.heap.size := World.block_lt_of_cell? _ _ km0
    have zm_wc := zm
    have zr : w.heap.size + 1 < wc.heap.size := World.block_lt_of_cell? _ _ kr0
    have zr_wc := zr
    go_wp2_with fail
    refine wp_region_held_drew (S := fun w' => w'.cell? ⟨w.heap.size, 0, none⟩ = some (.int .i64 m1) ∧ w'.cell? ⟨w.heap.size, 1, none⟩ = some (.int .i64 m2) ∧ w'.cell? ⟨w.heap.size, 2, none⟩ = some (.int .i64 m3) ∧ w'.cell? ⟨w.heap.size, 3, none⟩ = some (.int .i64 m4) ∧ w'.cell? ⟨w.heap.size, 4, none⟩ = some (.int .i64 m5) ∧ w'.cell? ⟨w.heap.size, 5, none⟩ = some (.int .i64 m6) ∧ w'.cell? ⟨w.heap.size, 6, none⟩ = some (.int .i64 m7) ∧ w'.cell? ⟨wc.heap.size, 0, none⟩ = some (.int .i64 c1) ∧ w'.cell? ⟨wc.heap.size, 1, none⟩ = some (.int .i64 c2) ∧ w'.cell? ⟨wc.heap.size, 2, none⟩ = some (.int .i64 c3) ∧ w'.cell? ⟨wc.heap.size, 3, none⟩ = some (.int .i64 c4) ∧ w'.cell? ⟨wc.heap.size, 4, none⟩ = some (.int .i64 c5) ∧ w'.cell? ⟨wc.heap.size, 5, none⟩ = some (.int .i64 c6)) (by kernel_rfl) (by first | (go_keep; done) | ((repeat' apply And.intro) <;> go_simp)) (fun hHeld => ?_)
    refine wpAnyH_take (i := 0) (oi := ⟨some 18, _, _, _, _, _⟩) (v := ?_) rfl (by kernel_rfl) (by kernel_rfl) (by kernel_rfl) (fun _ _ _ h => h) (Or.inl ⟨by rfl, ?_⟩) (by assumption) ?_
    rotate_left
    · intro w hSw; (try dsimp only at hSw); go_simp; try with_reducible rfl
    try simp only [Act.put, List.setIfInBounds_toArray, List.set_cons_zero, List.set_cons_succ]
    refine wpAnyH_take (i := 1) (oi := ⟨some 19, _, _, _, _, _⟩) (v := ?_) rfl (by kernel_rfl) (by kernel_rfl) (by kernel_rfl) (fun _ _ _ h => h) (Or.inl ⟨by rfl, ?_⟩) (by assumption) ?_
    rotate_left
    · intro w hSw; (try dsimp only at hSw); go_simp; try with_reducible rfl
    try simp only [Act.put, List.setIfInBounds_toArray, List.set_cons_zero, List.set_cons_succ]
    refine wpAnyH_take (i := 2) (oi := ⟨some 20, _, _, _, _, _⟩) (v := ?_) rfl (by kernel_rfl) (by kernel_rfl) (by kernel_rfl) (fun _ _ _ h => h) (Or.inl ⟨by rfl, ?_⟩) (by assumption) ?_
    rotate_left
    · intro w hSw; (try dsimp only at hSw); go_simp; try with_reducible rfl
    try simp only [Act.put, List.setIfInBounds_toArray, List.set_cons_zero, List.set_cons_succ]
    refine wpAnyH_take (i := 3) (oi := ⟨some 21, _, _, _, _, _⟩) (v := ?_) rfl (by kernel_rfl) (by kernel_rfl) (by kernel_rfl) (fun _ _ _ h => h) (Or.inl ⟨by rfl, ?_⟩) (by assumption) ?_
    rotate_left
    · intro w hSw; (try dsimp only at hSw); go_simp; try with_reducible rfl
    try simp only [Act.put, List.setIfInBounds_toArray, List.set_cons_zero, List.set_cons_succ]
    refine wpAnyH_ready (rs := [4]) (by kernel_rfl) (by simp) ?_
    refine AllReadyH.cons (o := ⟨some 22, _, _, _, _, _⟩) rfl (fun KK hKK => ?_) AllReadyH.nil
    go_simp
    refine Calls.mono (S1 _) ?_
    rintro e wt1 ⟨rfl, hb⟩
    replace kx0 := cell_later hb (cell_al _ kx0)
    replace kx1 := cell_later hb (cell_al _ kx1)
    replace kx2 := cell_later hb (cell_al _ kx2)
    replace ky0 := cell_later hb (cell_al _ ky0)
    replace ky1 := cell_later hb (cell_al _ ky1)
    replace ky2 := cell_later hb (cell_al _ ky2)
    replace km0 := cell_later hb (cell_al _ km0)
    replace km1 := cell_later hb (cell_al _ km1)
    replace km2 := cell_later hb (cell_al _ km2)
    replace km3 := cell_later hb (cell_al _ km3)
    replace km4 := cell_later hb (cell_al _ km4)
    replace km5 := cell_later hb (cell_al _ km5)
    replace km6 := cell_later hb (cell_al _ km6)
    replace jr0 := fro_later hb (cell_al _ kr0) (fro_al jr0)
    replace kr0 := cell_later hb (cell_al _ kr0)
    replace jr1 := fro_later hb (cell_al _ kr1) (fro_al jr1)
    replace kr1 := cell_later hb (cell_al _ kr1)
    replace jr2 := fro_later hb (cell_al _ kr2) (fro_al jr2)
    replace kr2 := cell_later hb (cell_al _ kr2)
    replace jr3 := fro_later hb (cell_al _ kr3) (fro_al jr3)
    replace kr3 := cell_later hb (cell_al _ kr3)
    replace jr4 := fro_later hb (cell_al _ kr4) (fro_al jr4)
    replace kr4 := cell_later hb (cell_al _ kr4)
    replace jr5 := fro_later hb (cell_al _ kr5) (fro_al jr5)
    replace kr5 := cell_later hb (cell_al _ kr5)
    replace jr6 := fro_later hb (cell_al _ kr6) (fro_al jr6)
    replace kr6 := cell_later hb (cell_al _ kr6)
    have kd0 : wt1.cell? ⟨wc.heap.size, 0, none⟩ = some (.int .i64 c1) := cell_later hb (by go_simp)
    have kd1 : wt1.cell? ⟨wc.heap.size, 1, none⟩ = some (.int .i64 c2) := cell_later hb (by go_simp)
    have kd2 : wt1.cell? ⟨wc.heap.size, 2, none⟩ = some (.int .i64 c3) := cell_later hb (by go_simp)
    have kd3 : wt1.cell? ⟨wc.heap.size, 3, none⟩ = some (.int .i64 c4) := cell_later hb (by go_simp)
    have kd4 : wt1.cell? ⟨wc.heap.size, 4, none⟩ = some (.int .i64 c5) := cell_later hb (by go_simp)
    have kd5 : wt1.cell? ⟨wc.heap.size, 5, none⟩ = some (.int .i64 c6) := cell_later hb (by go_simp)
    replace zx : gx < wt1.heap.size := World.block_lt_of_cell? _ _ kx0
    have zx_wt1 := zx
    replace zy : gy < wt1.heap.size := World.block_lt_of_cell? _ _ ky0
    have zy_wt1 := zy
    replace zm : w.heap.size < wt1.heap.size := World.block_lt_of_cell? _ _ km0
    have zm_wt1 := zm
    replace zr : w.heap.size + 1 < wt1.heap.size := World.block_lt_of_cell? _ _ kr0
    have zr_wt1 := zr
    have zd : wc.heap.size < wt1.heap.size := World.block_lt_of_cell? _ _ kd0
    have zd_wt1 := zd
    replace hb0 : Below w.heap.size w wt1 := (by repeat (first | with_reducible exact Below.refl _ _ | with_reducible assumption | with_reducible refine Below.setCell ?_ (by first | omega | (simp <;> omega)) _ | with_reducible refine balloc ?_ _ | with_reducible refine Below.drew ?_ | with_reducible refine bstep ?_ (by with_reducible assumption)))
    have hs_wt1 := hb.size; (try simp only [World.size_alloc, World.size_setCell] at hs_wt1)
    clear hb
    (try go_wp2_with fail)
    refine hKK.out _ _ (by first | (go_keep; done) | ((repeat' apply And.intro) <;> go_simp)) (fun hHeld => ?_)
    clear hKK KK
    try simp only [Act.put, List.setIfInBounds_toArray, List.set_cons_zero, List.set_cons_succ]
    refine wpAnyH_take (i := 5) (oi := ⟨some 23, _, _, _, _, _⟩) (v := ?_) rfl (by kernel_rfl) (by kernel_rfl) (by kernel_rfl) (fun _ _ _ h => h) (Or.inl ⟨by rfl, ?_⟩) (by assumption) ?_
    rotate_left
    · intro w hSw; (try dsimp only at hSw); go_simp; try with_reducible rfl
    try simp only [Act.put, List.setIfInBounds_toArray, List.set_cons_zero, List.set_cons_succ]
    refine wpAnyH_take (i := 6) (oi := ⟨some 24, _, _, _, _, _⟩) (v := ?_) rfl (by kernel_rfl) (by kernel_rfl) (by kernel_rfl) (fun _ _ _ h => h) (Or.inl ⟨by rfl, ?_⟩) (by assumption) ?_
    rotate_left
    · intro w hSw; (try dsimp only at hSw); go_simp; try with_reducible rfl
    try simp only [Act.put, List.setIfInBounds_toArray, List.set_cons_zero, List.set_cons_succ]
    refine wpAnyH_ready (rs := [7]) (by kernel_rfl) (by simp) ?_
    refine AllReadyH.cons (o := ⟨none, _, _, _, _, _⟩) rfl (fun KK hKK => ?_) AllReadyH.nil
    go_simp
    (try go_wp2_with fail)
    refine hKK.out _ _ (by first | (go_keep; done) | ((repeat' apply And.intro) <;> go_simp)) (fun hHeld => ?_)
    clear hKK KK
    try simp only [Act.put, List.setIfInBounds_toArray, List.set_cons_zero, List.set_cons_succ]
    refine wpAnyH_done (by kernel_rfl) ?_ _
    (try dsimp only [Exit.then, Met])
    go_wp2
    refine bodyPost_ret ?_ rfl ⟨rfl, (by repeat (first | with_reducible exact Below.refl _ _ | with_reducible assumption | with_reducible refine Below.setCell ?_ (by first | omega | (simp <;> omega)) _ | with_reducible refine balloc ?_ _ | with_reducible refine Below.drew ?_ | with_reducible refine bstep ?_ (by with_reducible assumption)))⟩
    simp [results, Try.results51, go_sem, kr0, kr1, kr2, kr3, kr4, kr5, kr6]


end Go.Proofs.Ytlkjpackjjncaaa.Da
