/- DatK: then. -/
import Derived.Test.YtlkjpackjjncaaaDatD
import Derived.Test.YtlkjpackjjncaaaDatG
import Derived.Test.YtlkjpackjjncaaaRows
import Derived.WalkKit
import Derived.WalkSpells
import Derived.WalkLawsBesides
import Derived.Lib.Hide
import Derived.Deep.QuietTactic
import Derived.BigQuiet
import Derived.RegionTactic
import Derived.ChangeAlike
import Derived.BigRegion
import Derived.Deep.RegionHeld3
import Derived.Deep.RegionWith
import Derived.Outline
import Derived.Laws.EntriesVeiled
import Derived.Deep.DeepCutAuto
import Derived.IntWalk
namespace Go.Proofs.Ytlkjpackjjncaaa.Da
open Go.RowKit Sp
set_option linter.unusedSimpArgs false
set_option linter.unusedVariables false

set_option maxHeartbeats 3200000 in
theorem both_after (m1 m2 m3 m4 m5 m6 n1 n2 n3 n4 n5 n6 : Int) (w : World) (hm1 : -2000000 ≤ m1 ∧ m1 ≤ 2000000) (hm2 : -2000000 ≤ m2 ∧ m2 ≤ 2000000) (hm4 : -2000000 ≤ m4 ∧ m4 ≤ 2000000) (hm5 : -2000000 ≤ m5 ∧ m5 ≤ 2000000) (hm3 : -100000 ≤ m3 ∧ m3 ≤ 100000) (hm6 : -100000 ≤ m6 ∧ m6 ≤ 100000) (hn1 : -2000000 ≤ n1 ∧ n1 ≤ 2000000) (hn2 : -2000000 ≤ n2 ∧ n2 ≤ 2000000) (hn4 : -2000000 ≤ n4 ∧ n4 ≤ 2000000) (hn5 : -2000000 ≤ n5 ∧ n5 ≤ 2000000) (hn3 : -100000 ≤ n3 ∧ n3 ≤ 100000) (hn6 : -100000 ≤ n6 ∧ n6 ≤ 100000) : Calls Try.prog 69 #[(.agg #[(.int .i64 m1), (.int .i64 m2), (.int .i64 m3), (.int .i64 m4), (.int .i64 m5), (.int .i64 m6)]), .func (.func 70) #[] #[], (.agg #[(.int .i64 n1), (.int .i64 n2), (.int .i64 n3), (.int .i64 n4), (.int .i64 n5), (.int .i64 n6)])] w (Ret w (.tuple #[(.agg #[(.int .i64 (nr (m1 * n1 + m2 * n4) 1000000)), (.int .i64 (nr (m1 * n2 + m2 * n5) 1000000)), (.int .i64 (nr (m1 * n3 + m2 * n6) 1000000 + m3))]), (.agg #[(.int .i64 (nr (m4 * n1 + m5 * n4) 1000000)), (.int .i64 (nr (m4 * n2 + m5 * n5) 1000000)), (.int .i64 (nr (m4 * n3 + m5 * n6) 1000000 + m6))])])) := by
  go_enter Try.func69, Try.ntmps69
  go_wp2_with fail
  refine wp_region_held_drew (S := fun w' => w'.cell? ⟨w.heap.size, 0, none⟩ = some (.int .i64 m1) ∧ w'.cell? ⟨w.heap.size, 1, none⟩ = some (.int .i64 m2) ∧ w'.cell? ⟨w.heap.size, 2, none⟩ = some (.int .i64 m3) ∧ w'.cell? ⟨w.heap.size, 3, none⟩ = some (.int .i64 m4) ∧ w'.cell? ⟨w.heap.size, 4, none⟩ = some (.int .i64 m5) ∧ w'.cell? ⟨w.heap.size, 5, none⟩ = some (.int .i64 m6) ∧ w'.cell? ⟨w.heap.size + 1, 0, none⟩ = some (.int .i64 n1) ∧ w'.cell? ⟨w.heap.size + 1, 1, none⟩ = some (.int .i64 n2) ∧ w'.cell? ⟨w.heap.size + 1, 2, none⟩ = some (.int .i64 n3) ∧ w'.cell? ⟨w.heap.size + 1, 3, none⟩ = some (.int .i64 n4) ∧ w'.cell? ⟨w.heap.size + 1, 4, none⟩ = some (.int .i64 n5) ∧ w'.cell? ⟨w.heap.size + 1, 5, none⟩ = some (.int .i64 n6)) (by kernel_rfl) (by first | (go_keep; done) | ((repeat' apply And.intro) <;> go_simp)) (fun hHeld => ?_)
  refine wpAnyH_take (i := 0) (oi := ⟨some 8, _, _, _, _, _⟩) (v := ?_) rfl (by kernel_rfl) (by kernel_rfl) (by kernel_rfl) (fun _ _ _ h => h) (Or.inl ⟨by rfl, ?_⟩) (by assumption) ?_
  rotate_left
  · intro w hSw; (try dsimp only at hSw); go_simp; try with_reducible rfl
  try simp only [Act.put, List.setIfInBounds_toArray, List.set_cons_zero, List.set_cons_succ]
  refine wpAnyH_take (i := 1) (oi := ⟨some 9, _, _, _, _, _⟩) (v := ?_) rfl (by kernel_rfl) (by kernel_rfl) (by kernel_rfl) (fun _ _ _ h => h) (Or.inl ⟨by rfl, ?_⟩) (by assumption) ?_
  rotate_left
  · intro w hSw; (try dsimp only at hSw); go_simp; try with_reducible rfl
  try simp only [Act.put, List.setIfInBounds_toArray, List.set_cons_zero, List.set_cons_succ]
  refine wpAnyH_take (i := 2) (oi := ⟨some 10, _, _, _, _, _⟩) (v := ?_) rfl (by kernel_rfl) (by kernel_rfl) (by kernel_rfl) (fun _ _ _ h => h) (Or.inl ⟨by rfl, ?_⟩) (by assumption) ?_
  rotate_left
  · intro w hSw; (try dsimp only at hSw); go_simp; try with_reducible rfl
  try simp only [Act.put, List.setIfInBounds_toArray, List.set_cons_zero, List.set_cons_succ]
  refine wpAnyH_take (i := 3) (oi := ⟨some 11, _, _, _, _, _⟩) (v := ?_) rfl (by kernel_rfl) (by kernel_rfl) (by kernel_rfl) (fun _ _ _ h => h) (Or.inl ⟨by rfl, ?_⟩) (by assumption) ?_
  rotate_left
  · intro w hSw; (try dsimp only at hSw); go_simp; try with_reducible rfl
  try simp only [Act.put, List.setIfInBounds_toArray, List.set_cons_zero, List.set_cons_succ]
  refine wpAnyH_take (i := 5) (oi := ⟨some 13, _, _, _, _, _⟩) (v := ?_) rfl (by kernel_rfl) (by kernel_rfl) (by kernel_rfl) (fun _ _ _ h => h) (Or.inl ⟨by rfl, ?_⟩) (by assumption) ?_
  rotate_left
  · intro w hSw; (try dsimp only at hSw); go_simp; try with_reducible rfl
  try simp only [Act.put, List.setIfInBounds_toArray, List.set_cons_zero, List.set_cons_succ]
  refine wpAnyH_take (i := 6) (oi := ⟨some 14, _, _, _, _, _⟩) (v := ?_) rfl (by kernel_rfl) (by kernel_rfl) (by kernel_rfl) (fun _ _ _ h => h) (Or.inl ⟨by rfl, ?_⟩) (by assumption) ?_
  rotate_left
  · intro w hSw; (try dsimp only at hSw); go_simp; try with_reducible rfl
  try simp only [Act.put, List.setIfInBounds_toArray, List.set_cons_zero, List.set_cons_succ]
  refine wpAnyH_take (i := 7) (oi := ⟨some 15, _, _, _, _, _⟩) (v := ?_) rfl (by kernel_rfl) (by kernel_rfl) (by kernel_rfl) (fun _ _ _ h => h) (Or.inl ⟨by rfl, ?_⟩) (by assumption) ?_
  rotate_left
  · intro w hSw; (try dsimp only at hSw); go_simp; try with_reducible rfl
  try simp only [Act.put, List.setIfInBounds_toArray, List.set_cons_zero, List.set_cons_succ]
  refine wpAnyH_take (i := 8) (oi := ⟨some 16, _, _, _, _, _⟩) (v := ?_) rfl (by kernel_rfl) (by kernel_rfl) (by kernel_rfl) (fun _ _ _ h => h) (Or.inl ⟨by rfl, ?_⟩) (by assumption) ?_
  rotate_left
  · intro w hSw; (try dsimp only at hSw); go_simp; try with_reducible rfl
  try simp only [Act.put, List.setIfInBounds_toArray, List.set_cons_zero, List.set_cons_succ]
  refine wpAnyH_ready (rs := [4]) (by kernel_rfl) (by simp) ?_
  refine AllReadyH.cons (o := ⟨some 12, _, _, _, _, _⟩) rfl (fun KK hKK => ?_) AllReadyH.nil
  go_simp
  refine Calls.mono (after_c m1 m2 m3 n1 n2 n3 n4 n5 n6 _ hm1 hm2 hm3 hn1 hn2 hn4 hn5 hn3 hn6) ?_
  rintro e wt1 ⟨rfl, hb⟩
  have km0 : wt1.cell? ⟨w.heap.size, 0, none⟩ = some (.int .i64 m1) := cell_later hb (by go_simp)
  have km1 : wt1.cell? ⟨w.heap.size, 1, none⟩ = some (.int .i64 m2) := cell_later hb (by go_simp)
  have km2 : wt1.cell? ⟨w.heap.size, 2, none⟩ = some (.int .i64 m3) := cell_later hb (by go_simp)
  have km3 : wt1.cell? ⟨w.heap.size, 3, none⟩ = some (.int .i64 m4) := cell_later hb (by go_simp)
  have km4 : wt1.cell? ⟨w.heap.size, 4, none⟩ = some (.int .i64 m5) := cell_later hb (by go_simp)
  have km5 : wt1.cell? ⟨w.heap.size, 5, none⟩ = some (.int .i64 m6) := cell_later hb (by go_simp)
  have kn0 : wt1.cell? ⟨w.heap.size + 1, 0, none⟩ = some (.int .i64 n1) := cell_later hb (by go_simp)
  have kn1 : wt1.cell? ⟨w.heap.size + 1, 1, none⟩ = some (.int .i64 n2) := cell_later hb (by go_simp)
  have kn2 : wt1.cell? ⟨w.heap.size + 1, 2, none⟩ = some (.int .i64 n3) := cell_later hb (by go_simp)
  have kn3 : wt1.cell? ⟨w.heap.size + 1, 3, none⟩ = some (.int .i64 n4) := cell_later hb (by go_simp)
  have kn4 : wt1.cell? ⟨w.heap.size + 1, 4, none⟩ = some (.int .i64 n5) := cell_later hb (by go_simp)
  have kn5 : wt1.cell? ⟨w.heap.size + 1, 5, none⟩ = some (.int .i64 n6) := cell_later hb (by go_simp)
  have ku0 : wt1.cell? ⟨w.heap.size + 1 + 1, 0, none⟩ = some (.int .i64 0) := cell_later hb (by go_simp)
  have ju0 : wt1.frozen? ⟨w.heap.size + 1 + 1, 0, none⟩ = false := by rw [(bcell hb).2 _ _ (by first | omega | (simp <;> omega))]; go_simp
  have ku1 : wt1.cell? ⟨w.heap.size + 1 + 1, 1, none⟩ = some (.int .i64 0) := cell_later hb (by go_simp)
  have ju1 : wt1.frozen? ⟨w.heap.size + 1 + 1, 1, none⟩ = false := by rw [(bcell hb).2 _ _ (by first | omega | (simp <;> omega))]; go_simp
  have ku2 : wt1.cell? ⟨w.heap.size + 1 + 1, 2, none⟩ = some (.int .i64 0) := cell_later hb (by go_simp)
  have ju2 : wt1.frozen? ⟨w.heap.size + 1 + 1, 2, none⟩ = false := by rw [(bcell hb).2 _ _ (by first | omega | (simp <;> omega))]; go_simp
  have kv0 : wt1.cell? ⟨w.heap.size + 1 + 1 + 1, 0, none⟩ = some (.int .i64 0) := cell_later hb (by go_simp)
  have jv0 : wt1.frozen? ⟨w.heap.size + 1 + 1 + 1, 0, none⟩ = false := by rw [(bcell hb).2 _ _ (by first | omega | (simp <;> omega))]; go_simp
  have kv1 : wt1.cell? ⟨w.heap.size + 1 + 1 + 1, 1, none⟩ = some (.int .i64 0) := cell_later hb (by go_simp)
  have jv1 : wt1.frozen? ⟨w.heap.size + 1 + 1 + 1, 1, none⟩ = false := by rw [(bcell hb).2 _ _ (by first | omega | (simp <;> omega))]; go_simp
  have kv2 : wt1.cell? ⟨w.heap.size + 1 + 1 + 1, 2, none⟩ = some (.int .i64 0) := cell_later hb (by go_simp)
  have jv2 : wt1.frozen? ⟨w.heap.size + 1 + 1 + 1, 2, none⟩ = false := by rw [(bcell hb).2 _ _ (by first | omega | (simp <;> omega))]; go_simp
  have zm : w.heap.size < wt1.heap.size := World.block_lt_of_cell? _ _ km0
  have zm_wt1 := zm
  have zn : w.heap.size + 1 < wt1.heap.size := World.block_lt_of_cell? _ _ kn0
  have zn_wt1 := zn
  have zu : w.heap.size + 1 + 1 < wt1.heap.size := World.block_lt_of_cell? _ _ ku0
  have zu_wt1 := zu
  have zv : w.heap.size + 1 + 1 + 1 < wt1.heap.size := World.block_lt_of_cell? _ _ kv0
  have zv_wt1 := zv
  have hb0 : Below w.heap.size w wt1 := (by repeat (first | with_reducible exact Below.refl _ _ | with_reducible assumption | with_reducible refine Below.setCell ?_ (by first | omega | (simp <;> omega)) _ | with_reducible refine balloc ?_ _ | with_reducible refine Below.drew ?_ | with_reducible refine bstep ?_ (by with_reducible assumption)))
  have hs_wt1 := hb.size; (try simp only [World.size_alloc, World.size_setCell] at hs_wt1)
  clear hb
  (try go_wp2_with fail)
  refine hKK.out _ _ (by first | (go_keep; done) | ((repeat' apply And.intro) <;> go_simp)) (fun hHeld => ?_)
  clear hKK KK
  try simp only [Act.put, List.setIfInBounds_toArray, List.set_cons_zero, List.set_cons_succ]
  refine wpAnyH_ready (rs := [9]) (by kernel_rfl) (by simp) ?_
  refine AllReadyH.cons (o := ⟨some 17, _, _, _, _, _⟩) rfl (fun KK hKK => ?_) AllReadyH.nil
  go_simp
  refine Calls.mono (after_c m4 m5 m6 n1 n2 n3 n4 n5 n6 _ hm4 hm5 hm6 hn1 hn2 hn4 hn5 hn3 hn6) ?_
  rintro e wt2 ⟨rfl, hb⟩
  replace km0 := cell_later hb km0
  replace km1 := cell_later hb km1
  replace km2 := cell_later hb km2
  replace km3 := cell_later hb km3
  replace km4 := cell_later hb km4
  replace km5 := cell_later hb km5
  replace kn0 := cell_later hb kn0
  replace kn1 := cell_later hb kn1
  replace kn2 := cell_later hb kn2
  replace kn3 := cell_later hb kn3
  replace kn4 := cell_later hb kn4
  replace kn5 := cell_later hb kn5
  replace ju0 := fro_later hb ku0 ju0
  replace ku0 := cell_later hb ku0
  replace ju1 := fro_later hb ku1 ju1
  replace ku1 := cell_later hb ku1
  replace ju2 := fro_later hb ku2 ju2
  replace ku2 := cell_later hb ku2
  replace jv0 := fro_later hb kv0 jv0
  replace kv0 := cell_later hb kv0
  replace jv1 := fro_later hb kv1 jv1
  replace kv1 := cell_later hb kv1
  replace jv2 := fro_later hb kv2 jv2
  replace kv2 := cell_later hb kv2
  replace zm : w.heap.size < wt2.heap.size := World.block_lt_of_cell? _ _ km0
  have zm_wt2 := zm
  replace zn : w.heap.size + 1 < wt2.heap.size := World.block_lt_of_cell? _ _ kn0
  have zn_wt2 := zn
  replace zu : w.heap.size + 1 + 1 < wt2.heap.size := World.block_lt_of_cell? _ _ ku0
  have zu_wt2 := zu
  replace zv : w.heap.size + 1 + 1 + 1 < wt2.heap.size := World.block_lt_of_cell? _ _ kv0
  have zv_wt2 := zv
  replace hb0 : Below w.heap.size w wt2 := (by repeat (first | with_reducible exact Below.refl _ _ | with_reducible assumption | with_reducible refine Below.setCell ?_ (by first | omega | (simp <;> omega)) _ | with_reducible refine balloc ?_ _ | with_reducible refine Below.drew ?_ | with_reducible refine bstep ?_ (by with_reducible assumption)))
  have hs_wt2 : wt1.heap.size ≤ wt2.heap.size := hb.size
  clear hb
  (try go_wp2_with fail)
  refine hKK.out _ _ (by first | (go_keep; done) | ((repeat' apply And.intro) <;> go_simp)) (fun hHeld => ?_)
  clear hKK KK
  try simp only [Act.put, List.setIfInBounds_toArray, List.set_cons_zero, List.set_cons_succ]
  refine wpAnyH_ready (rs := [10]) (by kernel_rfl) (by simp) ?_
  refine AllReadyH.cons (o := ⟨none, _, _, _, _, _⟩) rfl (fun KK hKK => ?_) AllReadyH.nil
  go_simp
  (try go_wp2_with fail)
  refine hKK.out _ _ (by first | (go_keep; done) | ((repeat' apply And.intro) <;> go_simp)) (fun hHeld => ?_)
  clear hKK KK
  try simp only [Act.put, List.setIfInBounds_toArray, List.set_cons_zero, List.set_cons_succ]
  refine wpAnyH_ready (rs := [11]) (by kernel_rfl) (by simp) ?_
  refine AllReadyH.cons (o := ⟨none, _, _, _, _, _⟩) rfl (fun KK hKK => ?_) AllReadyH.nil
  go_simp
  (try go_wp2_with fail)
  refine hKK.out _ _ (by first | (go_keep; done) | ((repeat' apply And.intro) <;> go_simp)) (fun hHeld => ?_)
  clear hKK KK
  try simp only [Act.put, List.setIfInBounds_toArray, List.set_cons_zero, List.set_cons_succ]
  refine wpAnyH_done (by kernel_rfl) ?_ _
  (try dsimp only [Exit.then, Met])
  go_wp2
  refine bodyPost_ret ?_ rfl ⟨rfl, (by repeat (first | with_reducible exact Below.refl _ _ | with_reducible assumption | with_reducible refine Below.setCell ?_ (by first | omega | (simp <;> omega)) _ | with_reducible refine balloc ?_ _ | with_reducible refine Below.drew ?_ | with_reducible refine bstep ?_ (by with_reducible assumption)))⟩
  simp [results, Try.results69, go_sem, ku0, ku1, ku2, kv0, kv1, kv2]

set_option maxRecDepth 20000 in
set_option maxHeartbeats 12800000 in
theorem then_c (m1 m2 m3 m4 m5 m6 m7 n1 n2 n3 n4 n5 n6 n7 : Int) (w : World) (hm1 : -2000000 ≤ m1 ∧ m1 ≤ 2000000) (hm2 : -2000000 ≤ m2 ∧ m2 ≤ 2000000) (hm4 : -2000000 ≤ m4 ∧ m4 ≤ 2000000) (hm5 : -2000000 ≤ m5 ∧ m5 ≤ 2000000) (hm3 : -100000 ≤ m3 ∧ m3 ≤ 100000) (hm6 : -100000 ≤ m6 ∧ m6 ≤ 100000) (hm7 : 0 ≤ m7 ∧ m7 ≤ 1000) (hn1 : -2000000 ≤ n1 ∧ n1 ≤ 2000000) (hn2 : -2000000 ≤ n2 ∧ n2 ≤ 2000000) (hn4 : -2000000 ≤ n4 ∧ n4 ≤ 2000000) (hn5 : -2000000 ≤ n5 ∧ n5 ≤ 2000000) (hn3 : -100000 ≤ n3 ∧ n3 ≤ 100000) (hn6 : -100000 ≤ n6 ∧ n6 ≤ 100000) (hn7 : 0 ≤ n7 ∧ n7 ≤ 1000) : Calls Try.prog 47 #[(.agg #[(.int .i64 m1), (.int .i64 m2), (.int .i64 m3), (.int .i64 m4), (.int .i64 m5), (.int .i64 m6), (.int .i64 m7)]), (.agg #[(.int .i64 n1), (.int .i64 n2), (.int .i64 n3), (.int .i64 n4), (.int .i64 n5), (.int .i64 n6), (.int .i64 n7)])] w (Ret w (.agg #[(.int .i64 (nr (n1 * m1 + n2 * m4) 1000000)), (.int .i64 (nr (n1 * m2 + n2 * m5) 1000000)), (.int .i64 (nr (n1 * m3 + n2 * m6) 1000000 + n3)), (.int .i64 (nr (n4 * m1 + n5 * m4) 1000000)), (.int .i64 (nr (n4 * m2 + n5 * m5) 1000000)), (.int .i64 (nr (n4 * m3 + n5 * m6) 1000000 + n6)), (.int .i64 (sp n1 n2 n4 n5 m7 0 + n7 + 2))])) := by
  have A1 := fun w => both_after n1 n2 n3 n4 n5 n6 m1 m2 m3 m4 m5 m6 w hn1 hn2 hn4 hn5 hn3 hn6 hm1 hm2 hm4 hm5 hm3 hm6
  have S1 := fun w => spread_c n1 n2 n3 n4 n5 n6 m7 0 w (by omega) (by omega) (by omega) (by omega) hm7 (by omega)
  have e1 : upd (max (max n1 (-n1) + max n2 (-n2) + 0) (max n4 (-n4) + max n5 (-n5) + 0) * m7) 1000000 = sp n1 n2 n4 n5 m7 0 := rfl
  rw [e1] at S1
  clear e1
  have bS : 0 ≤ sp n1 n2 n4 n5 m7 0 ∧ sp n1 n2 n4 n5 m7 0 ≤ 1000000 := by
    have hW : 0 ≤ tW n1 n2 n4 n5 0 ∧ tW n1 n2 n4 n5 0 ≤ 4000000 := by unfold tW; omega
    have hm := mul_bd (a := tW n1 n2 n4 n5 0) (b := m7) (A := 4000000) (B := 1000) (by omega) (by omega) (by omega) (by omega)
    have h0 := Int.mul_nonneg hW.1 hm7.1
    have d := upd_spec (n := tW n1 n2 n4 n5 0 * m7) (d := 1000000) (by omega)
    unfold sp
    omega
  generalize nr (n1 * m1 + n2 * m4) 1000000 = c1 at *
  generalize nr (n1 * m2 + n2 * m5) 1000000 = c2 at *
  generalize nr (n1 * m3 + n2 * m6) 1000000 + n3 = c3 at *
  generalize nr (n4 * m1 + n5 * m4) 1000000 = c4 at *
  generalize nr (n4 * m2 + n5 * m5) 1000000 = c5 at *
  generalize nr (n4 * m3 + n5 * m6) 1000000 + n6 = c6 at *
  generalize sp n1 n2 n4 n5 m7 0 = S at *
  have e1 : IntKind.i64.wrap (S + n7) = S + n7 := IntWalk.i64_in _ (by omega)
  have e2 : IntKind.i64.wrap (S + n7 + 2) = S + n7 + 2 := IntWalk.i64_in _ (by omega)
  clear hm1 hm2 hm3 hm4 hm5 hm6 hn1 hn2 hn3 hn4 hn5 hn6
  go_enter Try.func47, Try.ntmps47
  go_wp2_with fail
  refine Calls.mono (A1 _) ?_
  rintro e w1 ⟨rfl, hb⟩
  have km0 : w1.cell? ⟨w.heap.size, 0, none⟩ = some (.int .i64 m1) := cell_later hb (by go_simp)
  have km1 : w1.cell? ⟨w.heap.size, 1, none⟩ = some (.int .i64 m2) := cell_later hb (by go_simp)
  have km2 : w1.cell? ⟨w.heap.size, 2, none⟩ = some (.int .i64 m3) := cell_later hb (by go_simp)
  have km3 : w1.cell? ⟨w.heap.size, 3, none⟩ = some (.int .i64 m4) := cell_later hb (by go_simp)
  have km4 : w1.cell? ⟨w.heap.size, 4, none⟩ = some (.int .i64 m5) := cell_later hb (by go_simp)
  have km5 : w1.cell? ⟨w.heap.size, 5, none⟩ = some (.int .i64 m6) := cell_later hb (by go_simp)
  have km6 : w1.cell? ⟨w.heap.size, 6, none⟩ = some (.int .i64 m7) := cell_later hb (by go_simp)
  have kn0 : w1.cell? ⟨w.heap.size + 1, 0, none⟩ = some (.int .i64 n1) := cell_later hb (by go_simp)
  have kn1 : w1.cell? ⟨w.heap.size + 1, 1, none⟩ = some (.int .i64 n2) := cell_later hb (by go_simp)
  have kn2 : w1.cell? ⟨w.heap.size + 1, 2, none⟩ = some (.int .i64 n3) := cell_later hb (by go_simp)
  have kn3 : w1.cell? ⟨w.heap.size + 1, 3, none⟩ = some (.int .i64 n4) := cell_later hb (by go_simp)
  have kn4 : w1.cell? ⟨w.heap.size + 1, 4, none⟩ = some (.int .i64 n5) := cell_later hb (by go_simp)
  have kn5 : w1.cell? ⟨w.heap.size + 1, 5, none⟩ = some (.int .i64 n6) := cell_later hb (by go_simp)
  have kn6 : w1.cell? ⟨w.heap.size + 1, 6, none⟩ = some (.int .i64 n7) := cell_later hb (by go_simp)
  have kr0 : w1.cell? ⟨w.heap.size + 1 + 1, 0, none⟩ = some (.int .i64 0) := cell_later hb (by go_simp)
  have jr0 : w1.frozen? ⟨w.heap.size + 1 + 1, 0, none⟩ = false := by rw [(bcell hb).2 _ _ (by first | omega | (simp <;> omega))]; go_simp
  have kr1 : w1.cell? ⟨w.heap.size + 1 + 1, 1, none⟩ = some (.int .i64 0) := cell_later hb (by go_simp)
  have jr1 : w1.frozen? ⟨w.heap.size + 1 + 1, 1, none⟩ = false := by rw [(bcell hb).2 _ _ (by first | omega | (simp <;> omega))]; go_simp
  have kr2 : w1.cell? ⟨w.heap.size + 1 + 1, 2, none⟩ = some (.int .i64 0) := cell_later hb (by go_simp)
  have jr2 : w1.frozen? ⟨w.heap.size + 1 + 1, 2, none⟩ = false := by rw [(bcell hb).2 _ _ (by first | omega | (simp <;> omega))]; go_simp
  have kr3 : w1.cell? ⟨w.heap.size + 1 + 1, 3, none⟩ = some (.int .i64 0) := cell_later hb (by go_simp)
  have jr3 : w1.frozen? ⟨w.heap.size + 1 + 1, 3, none⟩ = false := by rw [(bcell hb).2 _ _ (by first | omega | (simp <;> omega))]; go_simp
  have kr4 : w1.cell? ⟨w.heap.size + 1 + 1, 4, none⟩ = some (.int .i64 0) := cell_later hb (by go_simp)
  have jr4 : w1.frozen? ⟨w.heap.size + 1 + 1, 4, none⟩ = false := by rw [(bcell hb).2 _ _ (by first | omega | (simp <;> omega))]; go_simp
  have kr5 : w1.cell? ⟨w.heap.size + 1 + 1, 5, none⟩ = some (.int .i64 0) := cell_later hb (by go_simp)
  have jr5 : w1.frozen? ⟨w.heap.size + 1 + 1, 5, none⟩ = false := by rw [(bcell hb).2 _ _ (by first | omega | (simp <;> omega))]; go_simp
  have kr6 : w1.cell? ⟨w.heap.size + 1 + 1, 6, none⟩ = some (.int .i64 0) := cell_later hb (by go_simp)
  have jr6 : w1.frozen? ⟨w.heap.size + 1 + 1, 6, none⟩ = false := by rw [(bcell hb).2 _ _ (by first | omega | (simp <;> omega))]; go_simp
  have zm : w.heap.size < w1.heap.size := World.block_lt_of_cell? _ _ km0
  have zm_w1 := zm
  have zn : w.heap.size + 1 < w1.heap.size := World.block_lt_of_cell? _ _ kn0
  have zn_w1 := zn
  have zr : w.heap.size + 1 + 1 < w1.heap.size := World.block_lt_of_cell? _ _ kr0
  have zr_w1 := zr
  have hb0 : Below w.heap.size w w1 := (by repeat (first | with_reducible exact Below.refl _ _ | with_reducible assumption | with_reducible refine Below.setCell ?_ (by first | omega | (simp <;> omega)) _ | with_reducible refine balloc ?_ _ | with_reducible refine Below.drew ?_ | with_reducible refine bstep ?_ (by with_reducible assumption)))
  have hs_w1 := hb.size; (try simp only [World.size_alloc, World.size_setCell] at hs_w1)
  clear hb
  go_wp2_with fail
  refine wp_region_held_drew (S := fun w' => w'.cell? ⟨w.heap.size, 0, none⟩ = some (.int .i64 m1) ∧ w'.cell? ⟨w.heap.size, 1, none⟩ = some (.int .i64 m2) ∧ w'.cell? ⟨w.heap.size, 2, none⟩ = some (.int .i64 m3) ∧ w'.cell? ⟨w.heap.size, 3, none⟩ = some (.int .i64 m4) ∧ w'.cell? ⟨w.heap.size, 4, none⟩ = some (.int .i64 m5) ∧ w'.cell? ⟨w.heap.size, 5, none⟩ = some (.int .i64 m6) ∧ w'.cell? ⟨w.heap.size, 6, none⟩ = some (.int .i64 m7) ∧ w'.cell? ⟨w.heap.size + 1, 0, none⟩ = some (.int .i64 n1) ∧ w'.cell? ⟨w.heap.size + 1, 1, none⟩ = some (.int .i64 n2) ∧ w'.cell? ⟨w.heap.size + 1, 2, none⟩ = some (.int .i64 n3) ∧ w'.cell? ⟨w.heap.size + 1, 3, none⟩ = some (.int .i64 n4) ∧ w'.cell? ⟨w.heap.size + 1, 4, none⟩ = some (.int .i64 n5) ∧ w'.cell? ⟨w.heap.size + 1, 5, none⟩ = some (.int .i64 n6) ∧ w'.cell? ⟨w.heap.size + 1, 6, none⟩ = some (.int .i64 n7) ∧ w'.cell? ⟨w1.heap.size, 0, none⟩ = some (.int .i64 c1) ∧ w'.cell? ⟨w1.heap.size, 1, none⟩ = some (.int .i64 c2) ∧ w'.cell? ⟨w1.heap.size, 2, none⟩ = some (.int .i64 c3) ∧ w'.cell? ⟨w1.heap.size + 1, 0, none⟩ = some (.int .i64 c4) ∧ w'.cell? ⟨w1.heap.size + 1, 1, none⟩ = some (.int .i64 c5) ∧ w'.cell? ⟨w1.heap.size + 1, 2, none⟩ = some (.int .i64 c6)) (by kernel_rfl) (by first | (go_keep; done) | ((repeat' apply And.intro) <;> go_simp)) (fun hHeld => ?_)
  refine wpAnyH_take (i := 0) (oi := ⟨some 15, _, _, _, _, _⟩) (v := ?_) rfl (by kernel_rfl) (by kernel_rfl) (by kernel_rfl) (fun _ _ _ h => h) (Or.inl ⟨by rfl, ?_⟩) (by assumption) ?_
  rotate_left
  · intro w hSw; (try dsimp only at hSw); go_simp; try with_reducible rfl
  try simp only [Act.put, List.setIfInBounds_toArray, List.set_cons_zero, List.set_cons_succ]
  refine wpAnyH_take (i := 1) (oi := ⟨some 16, _, _, _, _, _⟩) (v := ?_) rfl (by kernel_rfl) (by kernel_rfl) (by kernel_rfl) (fun _ _ _ h => h) (Or.inl ⟨by rfl, ?_⟩) (by assumption) ?_
  rotate_left
  · intro w hSw; (try dsimp only at hSw); go_simp; try with_reducible rfl
  try simp only [Act.put, List.setIfInBounds_toArray, List.set_cons_zero, List.set_cons_succ]
  refine wpAnyH_take (i := 2) (oi := ⟨some 17, _, _, _, _, _⟩) (v := ?_) rfl (by kernel_rfl) (by kernel_rfl) (by kernel_rfl) (fun _ _ _ h => h) (Or.inl ⟨by rfl, ?_⟩) (by assumption) ?_
  rotate_left
  · intro w hSw; (try dsimp only at hSw); go_simp; try with_reducible rfl
  try simp only [Act.put, List.setIfInBounds_toArray, List.set_cons_zero, List.set_cons_succ]
  refine wpAnyH_take (i := 3) (oi := ⟨some 18, _, _, _, _, _⟩) (v := ?_) rfl (by kernel_rfl) (by kernel_rfl) (by kernel_rfl) (fun _ _ _ h => h) (Or.inl ⟨by rfl, ?_⟩) (by assumption) ?_
  rotate_left
  · intro w hSw; (try dsimp only at hSw); go_simp; try with_reducible rfl
  try simp only [Act.put, List.setIfInBounds_toArray, List.set_cons_zero, List.set_cons_succ]
  refine wpAnyH_take (i := 4) (oi := ⟨some 19, _, _, _, _, _⟩) (v := ?_) rfl (by kernel_rfl) (by kernel_rfl) (by kernel_rfl) (fun _ _ _ h => h) (Or.inl ⟨by rfl, ?_⟩) (by assumption) ?_
  rotate_left
  · intro w hSw; (try dsimp only at hSw); go_simp; try with_reducible rfl
  try simp only [Act.put, List.setIfInBounds_toArray, List.set_cons_zero, List.set_cons_succ]
  refine wpAnyH_take (i := 5) (oi := ⟨some 20, _, _, _, _, _⟩) (v := ?_) rfl (by kernel_rfl) (by kernel_rfl) (by kernel_rfl) (fun _ _ _ h => h) (Or.inl ⟨by rfl, ?_⟩) (by assumption) ?_
  rotate_left
  · intro w hSw; (try dsimp only at hSw); go_simp; try with_reducible rfl
  try simp only [Act.put, List.setIfInBounds_toArray, List.set_cons_zero, List.set_cons_succ]
  refine wpAnyH_take (i := 6) (oi := ⟨some 21, _, _, _, _, _⟩) (v := ?_) rfl (by kernel_rfl) (by kernel_rfl) (by kernel_rfl) (fun _ _ _ h => h) (Or.inl ⟨by rfl, ?_⟩) (by assumption) ?_
  rotate_left
  · intro w hSw; (try dsimp only at hSw); go_simp; try with_reducible rfl
  try simp only [Act.put, List.setIfInBounds_toArray, List.set_cons_zero, List.set_cons_succ]
  refine wpAnyH_take (i := 8) (oi := ⟨some 23, _, _, _, _, _⟩) (v := ?_) rfl (by kernel_rfl) (by kernel_rfl) (by kernel_rfl) (fun _ _ _ h => h) (Or.inl ⟨by rfl, ?_⟩) (by assumption) ?_
  rotate_left
  · intro w hSw; (try dsimp only at hSw); go_simp; try with_reducible rfl
  try simp only [Act.put, List.setIfInBounds_toArray, List.set_cons_zero, List.set_cons_succ]
  refine wpAnyH_take (i := 9) (oi := ⟨some 24, _, _, _, _, _⟩) (v := ?_) rfl (by kernel_rfl) (by kernel_rfl) (by kernel_rfl) (fun _ _ _ h => h) (Or.inl ⟨by rfl, ?_⟩) (by assumption) ?_
  rotate_left
  · intro w hSw; (try dsimp only at hSw); go_simp; try with_reducible rfl
  try simp only [Act.put, List.setIfInBounds_toArray, List.set_cons_zero, List.set_cons_succ]
  refine wpAnyH_ready (rs := [7]) (by kernel_rfl) (by simp) ?_
  refine AllReadyH.cons (o := ⟨some 22, _, _, _, _, _⟩) rfl (fun KK hKK => ?_) AllReadyH.nil
  go_simp
  refine Calls.mono (S1 _) ?_
  rintro e wt2 ⟨rfl, hb⟩
  replace km0 := cell_later hb (cell_al _ (cell_al _ km0))
  replace km1 := cell_later hb (cell_al _ (cell_al _ km1))
  replace km2 := cell_later hb (cell_al _ (cell_al _ km2))
  replace km3 := cell_later hb (cell_al _ (cell_al _ km3))
  replace km4 := cell_later hb (cell_al _ (cell_al _ km4))
  replace km5 := cell_later hb (cell_al _ (cell_al _ km5))
  replace km6 := cell_later hb (cell_al _ (cell_al _ km6))
  replace kn0 := cell_later hb (cell_al _ (cell_al _ kn0))
  replace kn1 := cell_later hb (cell_al _ (cell_al _ kn1))
  replace kn2 := cell_later hb (cell_al _ (cell_al _ kn2))
  replace kn3 := cell_later hb (cell_al _ (cell_al _ kn3))
  replace kn4 := cell_later hb (cell_al _ (cell_al _ kn4))
  replace kn5 := cell_later hb (cell_al _ (cell_al _ kn5))
  replace kn6 := cell_later hb (cell_al _ (cell_al _ kn6))
  replace jr0 := fro_later hb (cell_al _ (cell_al _ kr0)) (fro_al (fro_al jr0))
  replace kr0 := cell_later hb (cell_al _ (cell_al _ kr0))
  replace jr1 := fro_later hb (cell_al _ (cell_al _ kr1)) (fro_al (fro_al jr1))
  replace kr1 := cell_later hb (cell_al _ (cell_al _ kr1))
  replace jr2 := fro_later hb (cell_al _ (cell_al _ kr2)) (fro_al (fro_al jr2))
  replace kr2 := cell_later hb (cell_al _ (cell_al _ kr2))
  replace jr3 := fro_later hb (cell_al _ (cell_al _ kr3)) (fro_al (fro_al jr3))
  replace kr3 := cell_later hb (cell_al _ (cell_al _ kr3))
  replace jr4 := fro_later hb (cell_al _ (cell_al _ kr4)) (fro_al (fro_al jr4))
  replace kr4 := cell_later hb (cell_al _ (cell_al _ kr4))
  replace jr5 := fro_later hb (cell_al _ (cell_al _ kr5)) (fro_al (fro_al jr5))
  replace kr5 := cell_later hb (cell_al _ (cell_al _ kr5))
  replace jr6 := fro_later hb (cell_al _ (cell_al _ kr6)) (fro_al (fro_al jr6))
  replace kr6 := cell_later hb (cell_al _ (cell_al _ kr6))
  have kx0 : wt2.cell? ⟨w1.heap.size, 0, none⟩ = some (.int .i64 c1) := cell_later hb (by go_simp)
  have kx1 : wt2.cell? ⟨w1.heap.size, 1, none⟩ = some (.int .i64 c2) := cell_later hb (by go_simp)
  have kx2 : wt2.cell? ⟨w1.heap.size, 2, none⟩ = some (.int .i64 c3) := cell_later hb (by go_simp)
  have ky0 : wt2.cell? ⟨w1.heap.size + 1, 0, none⟩ = some (.int .i64 c4) := cell_later hb (by go_simp)
  have ky1 : wt2.cell? ⟨w1.heap.size + 1, 1, none⟩ = some (.int .i64 c5) := cell_later hb (by go_simp)
  have ky2 : wt2.cell? ⟨w1.heap.size + 1, 2, none⟩ = some (.int .i64 c6) := cell_later hb (by go_simp)
  replace zm : w.heap.size < wt2.heap.size := World.block_lt_of_cell? _ _ km0
  have zm_wt2 := zm
  replace zn : w.heap.size + 1 < wt2.heap.size := World.block_lt_of_cell? _ _ kn0
  have zn_wt2 := zn
  replace zr : w.heap.size + 1 + 1 < wt2.heap.size := World.block_lt_of_cell? _ _ kr0
  have zr_wt2 := zr
  have zx : w1.heap.size < wt2.heap.size := World.block_lt_of_cell? _ _ kx0
  have zx_wt2 := zx
  have zy : w1.heap.size + 1 < wt2.heap.size := World.block_lt_of_cell? _ _ ky0
  have zy_wt2 := zy
  replace hb0 : Below w.heap.size w wt2 := (by repeat (first | with_reducible exact Below.refl _ _ | with_reducible assumption | with_reducible refine Below.setCell ?_ (by first | omega | (simp <;> omega)) _ | with_reducible refine balloc ?_ _ | with_reducible refine Below.drew ?_ | with_reducible refine bstep ?_ (by with_reducible assumption)))
  have hs_wt2 := hb.size; (try simp only [World.size_alloc, World.size_setCell] at hs_wt2)
  clear hb
  (try go_wp2_with fail)
  refine hKK.out _ _ (by first | (go_keep; done) | ((repeat' apply And.intro) <;> go_simp)) (fun hHeld => ?_)
  clear hKK KK
  try simp only [Act.put, List.setIfInBounds_toArray, List.set_cons_zero, List.set_cons_succ]
  refine wpAnyH_take (i := 10) (oi := ⟨some 25, _, _, _, _, _⟩) (v := ?_) rfl (by kernel_rfl) (by kernel_rfl) (by kernel_rfl) (fun _ _ _ h => h) (Or.inl ⟨by rfl, ?_⟩) (by assumption) ?_
  rotate_left
  · intro w hSw; (try dsimp only at hSw); go_simp; try with_reducible rfl
  try simp only [Act.put, List.setIfInBounds_toArray, List.set_cons_zero, List.set_cons_succ]
  refine wpAnyH_take (i := 11) (oi := ⟨some 26, _, _, _, _, _⟩) (v := ?_) rfl (by kernel_rfl) (by kernel_rfl) (by kernel_rfl) (fun _ _ _ h => h) (Or.inl ⟨by rfl, ?_⟩) (by assumption) ?_
  rotate_left
  · intro w hSw; (try dsimp only at hSw); go_simp; try with_reducible rfl
  try simp only [Act.put, List.setIfInBounds_toArray, List.set_cons_zero, List.set_cons_succ]
  refine wpAnyH_take (i := 12) (oi := ⟨some 27, _, _, _, _, _⟩) (v := ?_) rfl (by kernel_rfl) (by kernel_rfl) (by kernel_rfl) (fun _ _ _ h => h) (Or.inl ⟨by rfl, ?_⟩) (by assumption) ?_
  rotate_left
  · intro w hSw; (try dsimp only at hSw); go_simp; try with_reducible rfl
  try simp only [Act.put, List.setIfInBounds_toArray, List.set_cons_zero, List.set_cons_succ]
  refine wpAnyH_ready (rs := [13]) (by kernel_rfl) (by simp) ?_
  refine AllReadyH.cons (o := ⟨none, _, _, _, _, _⟩) rfl (fun KK hKK => ?_) AllReadyH.nil
  go_simp
  (try go_wp2_with fail)
  refine hKK.out _ _ (by first | (go_keep; done) | ((repeat' apply And.intro) <;> go_simp)) (fun hHeld => ?_)
  clear hKK KK
  try simp only [Act.put, List.setIfInBounds_toArray, List.set_cons_zero, List.set_cons_succ]
  refine wpAnyH_done (by kernel_rfl) ?_ _
  (try dsimp only [Exit.then, Met])
  go_wp2
  refine bodyPost_ret ?_ rfl ⟨rfl, (by repeat (first | with_reducible exact Below.refl _ _ | with_reducible assumption | with_reducible refine Below.setCell ?_ (by first | omega | (simp <;> omega)) _ | with_reducible refine balloc ?_ _ | with_reducible refine Below.drew ?_ | with_reducible refine bstep ?_ (by with_reducible assumption)))⟩
  simp [results, Try.results47, go_sem, kr0, kr1, kr2, kr3, kr4, kr5, kr6]


end Go.Proofs.Ytlkjpackjjncaaa.Da
