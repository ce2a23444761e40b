/- DatD: rows after rows. -/
import Derived.Test.YtlkjpackjjncaaaDatS
import Derived.Test.YtlkjpackjjncaaaRows
import Derived.WalkKit
import Derived.WalkSpells
import Derived.WalkLawsBesides
import Derived.Lib.Hide
import Derived.Deep.QuietTactic
import Derived.BigQuiet
import Derived.RegionTactic
import Derived.ChangeAlike
import Derived.BigRegion
import Derived.Deep.RegionHeld3
import Derived.Deep.RegionWith
import Derived.Outline
import Derived.Laws.EntriesVeiled
import Derived.Deep.DeepCutAuto
import Derived.IntWalk
namespace Go.Proofs.Ytlkjpackjjncaaa.Da
open Go.RowKit Sp
set_option linter.unusedSimpArgs false
set_option linter.unusedVariables false

set_option maxHeartbeats 3200000 in
theorem after_c (r1 r2 r3 m1 m2 m3 m4 m5 m6 : Int) (w : World) (hr1 : -2000000 ≤ r1 ∧ r1 ≤ 2000000) (hr2 : -2000000 ≤ r2 ∧ r2 ≤ 2000000) (hr3 : -100000 ≤ r3 ∧ r3 ≤ 100000) (hm1 : -2000000 ≤ m1 ∧ m1 ≤ 2000000) (hm2 : -2000000 ≤ m2 ∧ m2 ≤ 2000000) (hm4 : -2000000 ≤ m4 ∧ m4 ≤ 2000000) (hm5 : -2000000 ≤ m5 ∧ m5 ≤ 2000000) (hm3 : -100000 ≤ m3 ∧ m3 ≤ 100000) (hm6 : -100000 ≤ m6 ∧ m6 ≤ 100000) : Calls Try.prog 70 #[(.agg #[(.int .i64 r1), (.int .i64 r2), (.int .i64 r3)]), (.agg #[(.int .i64 m1), (.int .i64 m2), (.int .i64 m3), (.int .i64 m4), (.int .i64 m5), (.int .i64 m6)])] w (Ret w (.agg #[(.int .i64 (nr (r1 * m1 + r2 * m4) 1000000)), (.int .i64 (nr (r1 * m2 + r2 * m5) 1000000)), (.int .i64 (nr (r1 * m3 + r2 * m6) 1000000 + r3))])) := by
  have mb_r1m1 := mul_bd (a := r1) (b := m1) (A := 2000000) (B := 2000000) (by omega) (by omega) (by omega) (by omega)
  have mb_r2m4 := mul_bd (a := r2) (b := m4) (A := 2000000) (B := 2000000) (by omega) (by omega) (by omega) (by omega)
  have mb_r1m2 := mul_bd (a := r1) (b := m2) (A := 2000000) (B := 2000000) (by omega) (by omega) (by omega) (by omega)
  have mb_r2m5 := mul_bd (a := r2) (b := m5) (A := 2000000) (B := 2000000) (by omega) (by omega) (by omega) (by omega)
  have mb_r1m3 := mul_bd (a := r1) (b := m3) (A := 2000000) (B := 100000) (by omega) (by omega) (by omega) (by omega)
  have mb_r2m6 := mul_bd (a := r2) (b := m6) (A := 2000000) (B := 100000) (by omega) (by omega) (by omega) (by omega)
  have nb := nr_spec (n := r1 * m3 + r2 * m6) (d := 1000000) (by omega)
  have u0 : IntKind.i64.wrap (r1 * m1) = r1 * m1 := IntWalk.i64_in _ (by omega)
  have u1 : IntKind.i64.wrap (r2 * m4) = r2 * m4 := IntWalk.i64_in _ (by omega)
  have u2 : IntKind.i64.wrap (r1 * m2) = r1 * m2 := IntWalk.i64_in _ (by omega)
  have u3 : IntKind.i64.wrap (r2 * m5) = r2 * m5 := IntWalk.i64_in _ (by omega)
  have u4 : IntKind.i64.wrap (r1 * m3) = r1 * m3 := IntWalk.i64_in _ (by omega)
  have u5 : IntKind.i64.wrap (r2 * m6) = r2 * m6 := IntWalk.i64_in _ (by omega)
  have u6 : IntKind.i64.wrap (r1 * m1 + r2 * m4) = r1 * m1 + r2 * m4 := IntWalk.i64_in _ (by omega)
  have u7 : IntKind.i64.wrap (r1 * m2 + r2 * m5) = r1 * m2 + r2 * m5 := IntWalk.i64_in _ (by omega)
  have u8 : IntKind.i64.wrap (r1 * m3 + r2 * m6) = r1 * m3 + r2 * m6 := IntWalk.i64_in _ (by omega)
  have u9 : IntKind.i64.wrap (nr (r1 * m3 + r2 * m6) 1000000 + r3) = nr (r1 * m3 + r2 * m6) 1000000 + r3 := IntWalk.i64_in _ (by omega)
  have p1 : -4000000000000000000 ≤ r1 * m1 + r2 * m4 ∧ r1 * m1 + r2 * m4 ≤ 4000000000000000000 := by omega
  have p2 : -4000000000000000000 ≤ r1 * m2 + r2 * m5 ∧ r1 * m2 + r2 * m5 ≤ 4000000000000000000 := by omega
  have p3 : -4000000000000000000 ≤ r1 * m3 + r2 * m6 ∧ r1 * m3 + r2 * m6 ≤ 4000000000000000000 := by omega
  have hfd := fun w => fldN w
  clear mb_r1m1 mb_r2m4 mb_r1m2 mb_r2m5 mb_r1m3 mb_r2m6 nb
  go_enter Try.func70, Try.ntmps70
  go_wp2_with fail
  refine wp_region_held_drew (S := fun w' => w'.cell? ⟨w.heap.size, 0, none⟩ = some (.int .i64 r1) ∧ w'.cell? ⟨w.heap.size, 1, none⟩ = some (.int .i64 r2) ∧ w'.cell? ⟨w.heap.size, 2, none⟩ = some (.int .i64 r3) ∧ w'.cell? ⟨w.heap.size + 1, 0, none⟩ = some (.int .i64 m1) ∧ w'.cell? ⟨w.heap.size + 1, 1, none⟩ = some (.int .i64 m2) ∧ w'.cell? ⟨w.heap.size + 1, 2, none⟩ = some (.int .i64 m3) ∧ w'.cell? ⟨w.heap.size + 1, 3, none⟩ = some (.int .i64 m4) ∧ w'.cell? ⟨w.heap.size + 1, 4, none⟩ = some (.int .i64 m5) ∧ w'.cell? ⟨w.heap.size + 1, 5, none⟩ = some (.int .i64 m6)) (by kernel_rfl) (by first | (go_keep; done) | ((repeat' apply And.intro) <;> go_simp)) (fun hHeld => ?_)
  refine wpAnyH_take (i := 2) (oi := ⟨some 7, _, _, _, _, _⟩) (v := ?_) rfl (by kernel_rfl) (by kernel_rfl) (by kernel_rfl) (fun _ _ _ h => h) (Or.inl ⟨by rfl, ?_⟩) (by assumption) ?_
  rotate_left
  · intro w hSw; (try dsimp only at hSw); go_simp; try with_reducible rfl
  try simp only [Act.put, List.setIfInBounds_toArray, List.set_cons_zero, List.set_cons_succ]
  refine wpAnyH_take (i := 3) (oi := ⟨some 8, _, _, _, _, _⟩) (v := ?_) rfl (by kernel_rfl) (by kernel_rfl) (by kernel_rfl) (fun _ _ _ h => h) (Or.inl ⟨by rfl, ?_⟩) (by assumption) ?_
  rotate_left
  · intro w hSw; (try dsimp only at hSw); go_simp; try with_reducible rfl
  try simp only [Act.put, List.setIfInBounds_toArray, List.set_cons_zero, List.set_cons_succ]
  refine wpAnyH_take (i := 4) (oi := ⟨some 9, _, _, _, _, _⟩) (v := ?_) rfl (by kernel_rfl) (by kernel_rfl) (by kernel_rfl) (fun _ _ _ h => h) (Or.inl ⟨by rfl, ?_⟩) (by assumption) ?_
  rotate_left
  · intro w hSw; (try dsimp only at hSw); go_simp; try with_reducible rfl
  try simp only [Act.put, List.setIfInBounds_toArray, List.set_cons_zero, List.set_cons_succ]
  refine wpAnyH_take (i := 5) (oi := ⟨some 10, _, _, _, _, _⟩) (v := ?_) rfl (by kernel_rfl) (by kernel_rfl) (by kernel_rfl) (fun _ _ _ h => h) (Or.inl ⟨by rfl, ?_⟩) (by assumption) ?_
  rotate_left
  · intro w hSw; (try dsimp only at hSw); go_simp; try with_reducible rfl
  try simp only [Act.put, List.setIfInBounds_toArray, List.set_cons_zero, List.set_cons_succ]
  refine wpAnyH_take (i := 6) (oi := ⟨some 11, _, _, _, _, _⟩) (v := ?_) rfl (by kernel_rfl) (by kernel_rfl) (by kernel_rfl) (fun _ _ _ h => h) (Or.inl ⟨by rfl, ?_⟩) (by assumption) ?_
  rotate_left
  · intro w hSw; (try dsimp only at hSw); go_simp; try with_reducible rfl
  try simp only [Act.put, List.setIfInBounds_toArray, List.set_cons_zero, List.set_cons_succ]
  refine wpAnyH_take (i := 7) (oi := ⟨some 12, _, _, _, _, _⟩) (v := ?_) rfl (by kernel_rfl) (by kernel_rfl) (by kernel_rfl) (fun _ _ _ h => h) (Or.inl ⟨by rfl, ?_⟩) (by assumption) ?_
  rotate_left
  · intro w hSw; (try dsimp only at hSw); go_simp; try with_reducible rfl
  try simp only [Act.put, List.setIfInBounds_toArray, List.set_cons_zero, List.set_cons_succ]
  refine wpAnyH_take (i := 8) (oi := ⟨some 13, _, _, _, _, _⟩) (v := ?_) rfl (by kernel_rfl) (by kernel_rfl) (by kernel_rfl) (fun _ _ _ h => h) (Or.inl ⟨by rfl, ?_⟩) (by assumption) ?_
  rotate_left
  · intro w hSw; (try dsimp only at hSw); go_simp; try with_reducible rfl
  try simp only [Act.put, List.setIfInBounds_toArray, List.set_cons_zero, List.set_cons_succ]
  refine wpAnyH_take (i := 9) (oi := ⟨some 14, _, _, _, _, _⟩) (v := ?_) rfl (by kernel_rfl) (by kernel_rfl) (by kernel_rfl) (fun _ _ _ h => h) (Or.inl ⟨by rfl, ?_⟩) (by assumption) ?_
  rotate_left
  · intro w hSw; (try dsimp only at hSw); go_simp; try with_reducible rfl
  try simp only [Act.put, List.setIfInBounds_toArray, List.set_cons_zero, List.set_cons_succ]
  refine wpAnyH_take (i := 10) (oi := ⟨some 15, _, _, _, _, _⟩) (v := ?_) rfl (by kernel_rfl) (by kernel_rfl) (by kernel_rfl) (fun _ _ _ h => h) (Or.inl ⟨by rfl, ?_⟩) (by assumption) ?_
  rotate_left
  · intro w hSw; (try dsimp only at hSw); go_simp; try with_reducible rfl
  try simp only [Act.put, List.setIfInBounds_toArray, List.set_cons_zero, List.set_cons_succ]
  refine wpAnyH_take (i := 11) (oi := ⟨some 16, _, _, _, _, _⟩) (v := ?_) rfl (by kernel_rfl) (by kernel_rfl) (by kernel_rfl) (fun _ _ _ h => h) (Or.inl ⟨by rfl, ?_⟩) (by assumption) ?_
  rotate_left
  · intro w hSw; (try dsimp only at hSw); go_simp; try with_reducible rfl
  try simp only [Act.put, List.setIfInBounds_toArray, List.set_cons_zero, List.set_cons_succ]
  refine wpAnyH_take (i := 12) (oi := ⟨some 17, _, _, _, _, _⟩) (v := ?_) rfl (by kernel_rfl) (by kernel_rfl) (by kernel_rfl) (fun _ _ _ h => h) (Or.inl ⟨by rfl, ?_⟩) (by assumption) ?_
  rotate_left
  · intro w hSw; (try dsimp only at hSw); go_simp; try with_reducible rfl
  try simp only [Act.put, List.setIfInBounds_toArray, List.set_cons_zero, List.set_cons_succ]
  refine wpAnyH_take (i := 13) (oi := ⟨some 18, _, _, _, _, _⟩) (v := ?_) rfl (by kernel_rfl) (by kernel_rfl) (by kernel_rfl) (fun _ _ _ h => h) (Or.inl ⟨by rfl, ?_⟩) (by assumption) ?_
  rotate_left
  · intro w hSw; (try dsimp only at hSw); go_simp; try with_reducible rfl
  try simp only [Act.put, List.setIfInBounds_toArray, List.set_cons_zero, List.set_cons_succ]
  refine wpAnyH_take (i := 14) (oi := ⟨some 19, _, _, _, _, _⟩) (v := ?_) rfl (by kernel_rfl) (by kernel_rfl) (by kernel_rfl) (fun _ _ _ h => h) (Or.inl ⟨by rfl, ?_⟩) (by assumption) ?_
  rotate_left
  · intro w hSw; (try dsimp only at hSw); go_simp; try with_reducible rfl
  try simp only [Act.put, List.setIfInBounds_toArray, List.set_cons_zero, List.set_cons_succ]
  refine wpAnyH_take (i := 18) (oi := ⟨some 23, _, _, _, _, _⟩) (v := ?_) rfl (by kernel_rfl) (by kernel_rfl) (by kernel_rfl) (fun _ _ _ h => h) (Or.inl ⟨by rfl, ?_⟩) (by assumption) ?_
  rotate_left
  · intro w hSw; (try dsimp only at hSw); go_simp; try with_reducible rfl
  try simp only [Act.put, List.setIfInBounds_toArray, List.set_cons_zero, List.set_cons_succ]
  refine wpAnyH_take (i := 19) (oi := ⟨some 24, _, _, _, _, _⟩) (v := ?_) rfl (by kernel_rfl) (by kernel_rfl) (by kernel_rfl) (fun _ _ _ h => h) (Or.inl ⟨by rfl, ?_⟩) (by assumption) ?_
  rotate_left
  · intro w hSw; (try dsimp only at hSw); go_simp; try with_reducible rfl
  try simp only [Act.put, List.setIfInBounds_toArray, List.set_cons_zero, List.set_cons_succ]
  refine wpAnyH_take (i := 20) (oi := ⟨some 25, _, _, _, _, _⟩) (v := ?_) rfl (by kernel_rfl) (by kernel_rfl) (by kernel_rfl) (fun _ _ _ h => h) (Or.inl ⟨by rfl, ?_⟩) (by assumption) ?_
  rotate_left
  · intro w hSw; (try dsimp only at hSw); go_simp; try with_reducible rfl
  try simp only [Act.put, List.setIfInBounds_toArray, List.set_cons_zero, List.set_cons_succ]
  refine wpAnyH_take (i := 21) (oi := ⟨some 26, _, _, _, _, _⟩) (v := ?_) rfl (by kernel_rfl) (by kernel_rfl) (by kernel_rfl) (fun _ _ _ h => h) (Or.inl ⟨by rfl, ?_⟩) (by assumption) ?_
  rotate_left
  · intro w hSw; (try dsimp only at hSw); go_simp; try with_reducible rfl
  try simp only [Act.put, List.setIfInBounds_toArray, List.set_cons_zero, List.set_cons_succ]
  refine wpAnyH_take (i := 22) (oi := ⟨some 27, _, _, _, _, _⟩) (v := ?_) rfl (by kernel_rfl) (by kernel_rfl) (by kernel_rfl) (fun _ _ _ h => h) (Or.inl ⟨by rfl, ?_⟩) (by assumption) ?_
  rotate_left
  · intro w hSw; (try dsimp only at hSw); go_simp; try with_reducible rfl
  try simp only [Act.put, List.setIfInBounds_toArray, List.set_cons_zero, List.set_cons_succ]
  refine wpAnyH_take (i := 23) (oi := ⟨some 28, _, _, _, _, _⟩) (v := ?_) rfl (by kernel_rfl) (by kernel_rfl) (by kernel_rfl) (fun _ _ _ h => h) (Or.inl ⟨by rfl, ?_⟩) (by assumption) ?_
  rotate_left
  · intro w hSw; (try dsimp only at hSw); go_simp; try with_reducible rfl
  try simp only [Act.put, List.setIfInBounds_toArray, List.set_cons_zero, List.set_cons_succ]
  refine wpAnyH_take (i := 24) (oi := ⟨some 29, _, _, _, _, _⟩) (v := ?_) rfl (by kernel_rfl) (by kernel_rfl) (by kernel_rfl) (fun _ _ _ h => h) (Or.inl ⟨by rfl, ?_⟩) (by assumption) ?_
  rotate_left
  · intro w hSw; (try dsimp only at hSw); go_simp; try with_reducible rfl
  try simp only [Act.put, List.setIfInBounds_toArray, List.set_cons_zero, List.set_cons_succ]
  refine wpAnyH_take (i := 25) (oi := ⟨some 30, _, _, _, _, _⟩) (v := ?_) rfl (by kernel_rfl) (by kernel_rfl) (by kernel_rfl) (fun _ _ _ h => h) (Or.inl ⟨by rfl, ?_⟩) (by assumption) ?_
  rotate_left
  · intro w hSw; (try dsimp only at hSw); go_simp; try with_reducible rfl
  try simp only [Act.put, List.setIfInBounds_toArray, List.set_cons_zero, List.set_cons_succ]
  refine wpAnyH_take (i := 26) (oi := ⟨some 31, _, _, _, _, _⟩) (v := ?_) rfl (by kernel_rfl) (by kernel_rfl) (by kernel_rfl) (fun _ _ _ h => h) (Or.inl ⟨by rfl, ?_⟩) (by assumption) ?_
  rotate_left
  · intro w hSw; (try dsimp only at hSw); go_simp; try with_reducible rfl
  try simp only [Act.put, List.setIfInBounds_toArray, List.set_cons_zero, List.set_cons_succ]
  refine wpAnyH_take (i := 27) (oi := ⟨some 32, _, _, _, _, _⟩) (v := ?_) rfl (by kernel_rfl) (by kernel_rfl) (by kernel_rfl) (fun _ _ _ h => h) (Or.inl ⟨by rfl, ?_⟩) (by assumption) ?_
  rotate_left
  · intro w hSw; (try dsimp only at hSw); go_simp; try with_reducible rfl
  try simp only [Act.put, List.setIfInBounds_toArray, List.set_cons_zero, List.set_cons_succ]
  refine wpAnyH_take (i := 28) (oi := ⟨some 33, _, _, _, _, _⟩) (v := ?_) rfl (by kernel_rfl) (by kernel_rfl) (by kernel_rfl) (fun _ _ _ h => h) (Or.inl ⟨by rfl, ?_⟩) (by assumption) ?_
  rotate_left
  · intro w hSw; (try dsimp only at hSw); go_simp; try with_reducible rfl
  try simp only [Act.put, List.setIfInBounds_toArray, List.set_cons_zero, List.set_cons_succ]
  refine wpAnyH_take (i := 29) (oi := ⟨some 34, _, _, _, _, _⟩) (v := ?_) rfl (by kernel_rfl) (by kernel_rfl) (by kernel_rfl) (fun _ _ _ h => h) (Or.inl ⟨by rfl, ?_⟩) (by assumption) ?_
  rotate_left
  · intro w hSw; (try dsimp only at hSw); go_simp; try with_reducible rfl
  try simp only [Act.put, List.setIfInBounds_toArray, List.set_cons_zero, List.set_cons_succ]
  refine wpAnyH_take (i := 30) (oi := ⟨some 35, _, _, _, _, _⟩) (v := ?_) rfl (by kernel_rfl) (by kernel_rfl) (by kernel_rfl) (fun _ _ _ h => h) (Or.inl ⟨by rfl, ?_⟩) (by assumption) ?_
  rotate_left
  · intro w hSw; (try dsimp only at hSw); go_simp; try with_reducible rfl
  try simp only [Act.put, List.setIfInBounds_toArray, List.set_cons_zero, List.set_cons_succ]
  refine wpAnyH_take (i := 34) (oi := ⟨some 39, _, _, _, _, _⟩) (v := ?_) rfl (by kernel_rfl) (by kernel_rfl) (by kernel_rfl) (fun _ _ _ h => h) (Or.inl ⟨by rfl, ?_⟩) (by assumption) ?_
  rotate_left
  · intro w hSw; (try dsimp only at hSw); go_simp; try with_reducible rfl
  try simp only [Act.put, List.setIfInBounds_toArray, List.set_cons_zero, List.set_cons_succ]
  refine wpAnyH_take (i := 35) (oi := ⟨some 40, _, _, _, _, _⟩) (v := ?_) rfl (by kernel_rfl) (by kernel_rfl) (by kernel_rfl) (fun _ _ _ h => h) (Or.inl ⟨by rfl, ?_⟩) (by assumption) ?_
  rotate_left
  · intro w hSw; (try dsimp only at hSw); go_simp; try with_reducible rfl
  try simp only [Act.put, List.setIfInBounds_toArray, List.set_cons_zero, List.set_cons_succ]
  refine wpAnyH_take (i := 36) (oi := ⟨some 41, _, _, _, _, _⟩) (v := ?_) rfl (by kernel_rfl) (by kernel_rfl) (by kernel_rfl) (fun _ _ _ h => h) (Or.inl ⟨by rfl, ?_⟩) (by assumption) ?_
  rotate_left
  · intro w hSw; (try dsimp only at hSw); go_simp; try with_reducible rfl
  try simp only [Act.put, List.setIfInBounds_toArray, List.set_cons_zero, List.set_cons_succ]
  refine wpAnyH_take (i := 37) (oi := ⟨some 42, _, _, _, _, _⟩) (v := ?_) rfl (by kernel_rfl) (by kernel_rfl) (by kernel_rfl) (fun _ _ _ h => h) (Or.inl ⟨by rfl, ?_⟩) (by assumption) ?_
  rotate_left
  · intro w hSw; (try dsimp only at hSw); go_simp; try with_reducible rfl
  try simp only [Act.put, List.setIfInBounds_toArray, List.set_cons_zero, List.set_cons_succ]
  refine wpAnyH_take (i := 38) (oi := ⟨some 43, _, _, _, _, _⟩) (v := ?_) rfl (by kernel_rfl) (by kernel_rfl) (by kernel_rfl) (fun _ _ _ h => h) (Or.inl ⟨by rfl, ?_⟩) (by assumption) ?_
  rotate_left
  · intro w hSw; (try dsimp only at hSw); go_simp; try with_reducible rfl
  try simp only [Act.put, List.setIfInBounds_toArray, List.set_cons_zero, List.set_cons_succ]
  refine wpAnyH_take (i := 39) (oi := ⟨some 44, _, _, _, _, _⟩) (v := ?_) rfl (by kernel_rfl) (by kernel_rfl) (by kernel_rfl) (fun _ _ _ h => h) (Or.inl ⟨by rfl, ?_⟩) (by assumption) ?_
  rotate_left
  · intro w hSw; (try dsimp only at hSw); go_simp; try with_reducible rfl
  try simp only [Act.put, List.setIfInBounds_toArray, List.set_cons_zero, List.set_cons_succ]
  refine wpAnyH_take (i := 40) (oi := ⟨some 45, _, _, _, _, _⟩) (v := ?_) rfl (by kernel_rfl) (by kernel_rfl) (by kernel_rfl) (fun _ _ _ h => h) (Or.inl ⟨by rfl, ?_⟩) (by assumption) ?_
  rotate_left
  · intro w hSw; (try dsimp only at hSw); go_simp; try with_reducible rfl
  try simp only [Act.put, List.setIfInBounds_toArray, List.set_cons_zero, List.set_cons_succ]
  refine wpAnyH_take (i := 41) (oi := ⟨some 46, _, _, _, _, _⟩) (v := ?_) rfl (by kernel_rfl) (by kernel_rfl) (by kernel_rfl) (fun _ _ _ h => h) (Or.inl ⟨by rfl, ?_⟩) (by assumption) ?_
  rotate_left
  · intro w hSw; (try dsimp only at hSw); go_simp; try with_reducible rfl
  try simp only [Act.put, List.setIfInBounds_toArray, List.set_cons_zero, List.set_cons_succ]
  refine wpAnyH_take (i := 42) (oi := ⟨some 47, _, _, _, _, _⟩) (v := ?_) rfl (by kernel_rfl) (by kernel_rfl) (by kernel_rfl) (fun _ _ _ h => h) (Or.inl ⟨by rfl, ?_⟩) (by assumption) ?_
  rotate_left
  · intro w hSw; (try dsimp only at hSw); go_simp; try with_reducible rfl
  try simp only [Act.put, List.setIfInBounds_toArray, List.set_cons_zero, List.set_cons_succ]
  refine wpAnyH_take (i := 43) (oi := ⟨some 48, _, _, _, _, _⟩) (v := ?_) rfl (by kernel_rfl) (by kernel_rfl) (by kernel_rfl) (fun _ _ _ h => h) (Or.inl ⟨by rfl, ?_⟩) (by assumption) ?_
  rotate_left
  · intro w hSw; (try dsimp only at hSw); go_simp; try with_reducible rfl
  try simp only [Act.put, List.setIfInBounds_toArray, List.set_cons_zero, List.set_cons_succ]
  refine wpAnyH_take (i := 44) (oi := ⟨some 49, _, _, _, _, _⟩) (v := ?_) rfl (by kernel_rfl) (by kernel_rfl) (by kernel_rfl) (fun _ _ _ h => h) (Or.inl ⟨by rfl, ?_⟩) (by assumption) ?_
  rotate_left
  · intro w hSw; (try dsimp only at hSw); go_simp; try with_reducible rfl
  try simp only [Act.put, List.setIfInBounds_toArray, List.set_cons_zero, List.set_cons_succ]
  refine wpAnyH_take (i := 45) (oi := ⟨some 50, _, _, _, _, _⟩) (v := ?_) rfl (by kernel_rfl) (by kernel_rfl) (by kernel_rfl) (fun _ _ _ h => h) (Or.inl ⟨by rfl, ?_⟩) (by assumption) ?_
  rotate_left
  · intro w hSw; (try dsimp only at hSw); go_simp; try with_reducible rfl
  try simp only [Act.put, List.setIfInBounds_toArray, List.set_cons_zero, List.set_cons_succ]
  refine wpAnyH_take (i := 46) (oi := ⟨some 51, _, _, _, _, _⟩) (v := ?_) rfl (by kernel_rfl) (by kernel_rfl) (by kernel_rfl) (fun _ _ _ h => h) (Or.inl ⟨by rfl, ?_⟩) (by assumption) ?_
  rotate_left
  · intro w hSw; (try dsimp only at hSw); go_simp; try with_reducible rfl
  try simp only [Act.put, List.setIfInBounds_toArray, List.set_cons_zero, List.set_cons_succ]
  refine wpAnyH_take (i := 48) (oi := ⟨some 53, _, _, _, _, _⟩) (v := ?_) rfl (by kernel_rfl) (by kernel_rfl) (by kernel_rfl) (fun _ _ _ h => h) (Or.inl ⟨by rfl, ?_⟩) (by assumption) ?_
  rotate_left
  · intro w hSw; (try dsimp only at hSw); go_simp; try with_reducible rfl
  try simp only [Act.put, List.setIfInBounds_toArray, List.set_cons_zero, List.set_cons_succ]
  refine wpAnyH_take (i := 49) (oi := ⟨some 54, _, _, _, _, _⟩) (v := ?_) rfl (by kernel_rfl) (by kernel_rfl) (by kernel_rfl) (fun _ _ _ h => h) (Or.inl ⟨by rfl, ?_⟩) (by assumption) ?_
  rotate_left
  · intro w hSw; (try dsimp only at hSw); go_simp; try with_reducible rfl
  try simp only [Act.put, List.setIfInBounds_toArray, List.set_cons_zero, List.set_cons_succ]
  refine wpAnyH_ready (rs := [0]) (by kernel_rfl) (by simp) ?_
  refine AllReadyH.cons (o := ⟨some 5, _, _, _, _, _⟩) rfl (fun KK hKK => ?_) AllReadyH.nil
  go_simp
  refine Calls.mono (ways_c _) ?_
  rintro e wt1 ⟨rfl, hb⟩
  have kr0 : wt1.cell? ⟨w.heap.size, 0, none⟩ = some (.int .i64 r1) := cell_later hb (by go_simp)
  have kr1 : wt1.cell? ⟨w.heap.size, 1, none⟩ = some (.int .i64 r2) := cell_later hb (by go_simp)
  have kr2 : wt1.cell? ⟨w.heap.size, 2, none⟩ = some (.int .i64 r3) := cell_later hb (by go_simp)
  have km0 : wt1.cell? ⟨w.heap.size + 1, 0, none⟩ = some (.int .i64 m1) := cell_later hb (by go_simp)
  have km1 : wt1.cell? ⟨w.heap.size + 1, 1, none⟩ = some (.int .i64 m2) := cell_later hb (by go_simp)
  have km2 : wt1.cell? ⟨w.heap.size + 1, 2, none⟩ = some (.int .i64 m3) := cell_later hb (by go_simp)
  have km3 : wt1.cell? ⟨w.heap.size + 1, 3, none⟩ = some (.int .i64 m4) := cell_later hb (by go_simp)
  have km4 : wt1.cell? ⟨w.heap.size + 1, 4, none⟩ = some (.int .i64 m5) := cell_later hb (by go_simp)
  have km5 : wt1.cell? ⟨w.heap.size + 1, 5, none⟩ = some (.int .i64 m6) := cell_later hb (by go_simp)
  have kz0 : wt1.cell? ⟨w.heap.size + 1 + 1, 0, none⟩ = some (.int .i64 0) := cell_later hb (by go_simp)
  have jz0 : wt1.frozen? ⟨w.heap.size + 1 + 1, 0, none⟩ = false := by rw [(bcell hb).2 _ _ (by first | omega | (simp <;> omega))]; go_simp
  have kz1 : wt1.cell? ⟨w.heap.size + 1 + 1, 1, none⟩ = some (.int .i64 0) := cell_later hb (by go_simp)
  have jz1 : wt1.frozen? ⟨w.heap.size + 1 + 1, 1, none⟩ = false := by rw [(bcell hb).2 _ _ (by first | omega | (simp <;> omega))]; go_simp
  have kz2 : wt1.cell? ⟨w.heap.size + 1 + 1, 2, none⟩ = some (.int .i64 0) := cell_later hb (by go_simp)
  have jz2 : wt1.frozen? ⟨w.heap.size + 1 + 1, 2, none⟩ = false := by rw [(bcell hb).2 _ _ (by first | omega | (simp <;> omega))]; go_simp
  have zr : w.heap.size < wt1.heap.size := World.block_lt_of_cell? _ _ kr0
  have zr_wt1 := zr
  have zm : w.heap.size + 1 < wt1.heap.size := World.block_lt_of_cell? _ _ km0
  have zm_wt1 := zm
  have zz : w.heap.size + 1 + 1 < wt1.heap.size := World.block_lt_of_cell? _ _ kz0
  have zz_wt1 := zz
  have hb0 : Below w.heap.size w wt1 := (by repeat (first | with_reducible exact Below.refl _ _ | with_reducible assumption | with_reducible refine Below.setCell ?_ (by first | omega | (simp <;> omega)) _ | with_reducible refine balloc ?_ _ | with_reducible refine Below.drew ?_ | with_reducible refine bstep ?_ (by with_reducible assumption)))
  have hs_wt1 := hb.size; (try simp only [World.size_alloc, World.size_setCell] at hs_wt1)
  clear hb
  (try go_wp2_with fail)
  refine hKK.out _ _ (by first | (go_keep; done) | ((repeat' apply And.intro) <;> go_simp)) (fun hHeld => ?_)
  clear hKK KK
  try simp only [Act.put, List.setIfInBounds_toArray, List.set_cons_zero, List.set_cons_succ]
  refine wpAnyH_take (i := 1) (oi := ⟨some 6, _, _, _, _, _⟩) (v := ?_) rfl (by kernel_rfl) (by kernel_rfl) (by kernel_rfl) (fun _ _ _ h => h) (Or.inl ⟨by rfl, ?_⟩) (by assumption) ?_
  rotate_left
  · intro w hSw; (try dsimp only at hSw); go_simp; try with_reducible rfl
  try simp only [Act.put, List.setIfInBounds_toArray, List.set_cons_zero, List.set_cons_succ]
  refine wpAnyH_ready (rs := [15]) (by kernel_rfl) (by simp) ?_
  refine AllReadyH.cons (o := ⟨some 20, _, _, _, _, _⟩) rfl (fun KK hKK => ?_) AllReadyH.nil
  go_simp
  refine Calls.mono (near_c _ _ _ (by omega) (by omega) (by first | exact p1.1 | exact p2.1 | exact p3.1) (by first | exact p1.2 | exact p2.2 | exact p3.2)) ?_
  rintro e wy ⟨rfl, rfl⟩
  (try go_wp2_with fail)
  refine hKK.out _ _ (by first | (go_keep; done) | ((repeat' apply And.intro) <;> go_simp)) (fun hHeld => ?_)
  clear hKK KK
  try simp only [Act.put, List.setIfInBounds_toArray, List.set_cons_zero, List.set_cons_succ]
  refine wpAnyH_ready (rs := [16]) (by kernel_rfl) (by simp) ?_
  refine AllReadyH.cons (o := ⟨some 21, _, _, _, _, _⟩) rfl (fun KK hKK => ?_) AllReadyH.nil
  go_simp
  refine Calls.mono (ways_c _) ?_
  rintro e wt3 ⟨rfl, hb⟩
  replace kr0 := cell_later hb kr0
  replace kr1 := cell_later hb kr1
  replace kr2 := cell_later hb kr2
  replace km0 := cell_later hb km0
  replace km1 := cell_later hb km1
  replace km2 := cell_later hb km2
  replace km3 := cell_later hb km3
  replace km4 := cell_later hb km4
  replace km5 := cell_later hb km5
  replace jz0 := fro_later hb kz0 jz0
  replace kz0 := cell_later hb kz0
  replace jz1 := fro_later hb kz1 jz1
  replace kz1 := cell_later hb kz1
  replace jz2 := fro_later hb kz2 jz2
  replace kz2 := cell_later hb kz2
  replace zr : w.heap.size < wt3.heap.size := World.block_lt_of_cell? _ _ kr0
  have zr_wt3 := zr
  replace zm : w.heap.size + 1 < wt3.heap.size := World.block_lt_of_cell? _ _ km0
  have zm_wt3 := zm
  replace zz : w.heap.size + 1 + 1 < wt3.heap.size := World.block_lt_of_cell? _ _ kz0
  have zz_wt3 := zz
  replace hb0 : Below w.heap.size w wt3 := (by repeat (first | with_reducible exact Below.refl _ _ | with_reducible assumption | with_reducible refine Below.setCell ?_ (by first | omega | (simp <;> omega)) _ | with_reducible refine balloc ?_ _ | with_reducible refine Below.drew ?_ | with_reducible refine bstep ?_ (by with_reducible assumption)))
  have hs_wt3 : wt1.heap.size ≤ wt3.heap.size := hb.size
  clear hb
  (try go_wp2_with fail)
  refine hKK.out _ _ (by first | (go_keep; done) | ((repeat' apply And.intro) <;> go_simp)) (fun hHeld => ?_)
  clear hKK KK
  try simp only [Act.put, List.setIfInBounds_toArray, List.set_cons_zero, List.set_cons_succ]
  refine wpAnyH_take (i := 17) (oi := ⟨some 22, _, _, _, _, _⟩) (v := ?_) rfl (by kernel_rfl) (by kernel_rfl) (by kernel_rfl) (fun _ _ _ h => h) (Or.inl ⟨by rfl, ?_⟩) (by assumption) ?_
  rotate_left
  · intro w hSw; (try dsimp only at hSw); go_simp; try with_reducible rfl
  try simp only [Act.put, List.setIfInBounds_toArray, List.set_cons_zero, List.set_cons_succ]
  refine wpAnyH_ready (rs := [31]) (by kernel_rfl) (by simp) ?_
  refine AllReadyH.cons (o := ⟨some 36, _, _, _, _, _⟩) rfl (fun KK hKK => ?_) AllReadyH.nil
  go_simp
  refine Calls.mono (near_c _ _ _ (by omega) (by omega) (by first | exact p1.1 | exact p2.1 | exact p3.1) (by first | exact p1.2 | exact p2.2 | exact p3.2)) ?_
  rintro e wy ⟨rfl, rfl⟩
  (try go_wp2_with fail)
  refine hKK.out _ _ (by first | (go_keep; done) | ((repeat' apply And.intro) <;> go_simp)) (fun hHeld => ?_)
  clear hKK KK
  try simp only [Act.put, List.setIfInBounds_toArray, List.set_cons_zero, List.set_cons_succ]
  refine wpAnyH_ready (rs := [32]) (by kernel_rfl) (by simp) ?_
  refine AllReadyH.cons (o := ⟨some 37, _, _, _, _, _⟩) rfl (fun KK hKK => ?_) AllReadyH.nil
  go_simp
  refine Calls.mono (ways_c _) ?_
  rintro e wt5 ⟨rfl, hb⟩
  replace kr0 := cell_later hb kr0
  replace kr1 := cell_later hb kr1
  replace kr2 := cell_later hb kr2
  replace km0 := cell_later hb km0
  replace km1 := cell_later hb km1
  replace km2 := cell_later hb km2
  replace km3 := cell_later hb km3
  replace km4 := cell_later hb km4
  replace km5 := cell_later hb km5
  replace jz0 := fro_later hb kz0 jz0
  replace kz0 := cell_later hb kz0
  replace jz1 := fro_later hb kz1 jz1
  replace kz1 := cell_later hb kz1
  replace jz2 := fro_later hb kz2 jz2
  replace kz2 := cell_later hb kz2
  replace zr : w.heap.size < wt5.heap.size := World.block_lt_of_cell? _ _ kr0
  have zr_wt5 := zr
  replace zm : w.heap.size + 1 < wt5.heap.size := World.block_lt_of_cell? _ _ km0
  have zm_wt5 := zm
  replace zz : w.heap.size + 1 + 1 < wt5.heap.size := World.block_lt_of_cell? _ _ kz0
  have zz_wt5 := zz
  replace hb0 : Below w.heap.size w wt5 := (by repeat (first | with_reducible exact Below.refl _ _ | with_reducible assumption | with_reducible refine Below.setCell ?_ (by first | omega | (simp <;> omega)) _ | with_reducible refine balloc ?_ _ | with_reducible refine Below.drew ?_ | with_reducible refine bstep ?_ (by with_reducible assumption)))
  have hs_wt5 : wt3.heap.size ≤ wt5.heap.size := hb.size
  clear hb
  (try go_wp2_with fail)
  refine hKK.out _ _ (by first | (go_keep; done) | ((repeat' apply And.intro) <;> go_simp)) (fun hHeld => ?_)
  clear hKK KK
  try simp only [Act.put, List.setIfInBounds_toArray, List.set_cons_zero, List.set_cons_succ]
  refine wpAnyH_take (i := 33) (oi := ⟨some 38, _, _, _, _, _⟩) (v := ?_) rfl (by kernel_rfl) (by kernel_rfl) (by kernel_rfl) (fun _ _ _ h => h) (Or.inl ⟨by rfl, ?_⟩) (by assumption) ?_
  rotate_left
  · intro w hSw; (try dsimp only at hSw); go_simp; try with_reducible rfl
  try simp only [Act.put, List.setIfInBounds_toArray, List.set_cons_zero, List.set_cons_succ]
  refine wpAnyH_ready (rs := [47]) (by kernel_rfl) (by simp) ?_
  refine AllReadyH.cons (o := ⟨some 52, _, _, _, _, _⟩) rfl (fun KK hKK => ?_) AllReadyH.nil
  go_simp
  refine Calls.mono (near_c _ _ _ (by omega) (by omega) (by first | exact p1.1 | exact p2.1 | exact p3.1) (by first | exact p1.2 | exact p2.2 | exact p3.2)) ?_
  rintro e wy ⟨rfl, rfl⟩
  (try go_wp2_with fail)
  refine hKK.out _ _ (by first | (go_keep; done) | ((repeat' apply And.intro) <;> go_simp)) (fun hHeld => ?_)
  clear hKK KK
  try simp only [Act.put, List.setIfInBounds_toArray, List.set_cons_zero, List.set_cons_succ]
  refine wpAnyH_take (i := 50) (oi := ⟨some 55, _, _, _, _, _⟩) (v := ?_) rfl (by kernel_rfl) (by kernel_rfl) (by kernel_rfl) (fun _ _ _ h => h) (Or.inl ⟨by rfl, ?_⟩) (by assumption) ?_
  rotate_left
  · intro w hSw; (try dsimp only at hSw); go_simp; try with_reducible rfl
  try simp only [Act.put, List.setIfInBounds_toArray, List.set_cons_zero, List.set_cons_succ]
  refine wpAnyH_take (i := 51) (oi := ⟨some 56, _, _, _, _, _⟩) (v := ?_) rfl (by kernel_rfl) (by kernel_rfl) (by kernel_rfl) (fun _ _ _ h => h) (Or.inl ⟨by rfl, ?_⟩) (by assumption) ?_
  rotate_left
  · intro w hSw; (try dsimp only at hSw); go_simp; try with_reducible rfl
  try simp only [Act.put, List.setIfInBounds_toArray, List.set_cons_zero, List.set_cons_succ]
  refine wpAnyH_ready (rs := [52]) (by kernel_rfl) (by simp) ?_
  refine AllReadyH.cons (o := ⟨none, _, _, _, _, _⟩) rfl (fun KK hKK => ?_) AllReadyH.nil
  go_simp
  (try go_wp2_with fail)
  refine hKK.out _ _ (by first | (go_keep; done) | ((repeat' apply And.intro) <;> go_simp)) (fun hHeld => ?_)
  clear hKK KK
  try simp only [Act.put, List.setIfInBounds_toArray, List.set_cons_zero, List.set_cons_succ]
  refine wpAnyH_done (by kernel_rfl) ?_ _
  (try dsimp only [Exit.then, Met])
  go_wp2
  refine bodyPost_ret ?_ rfl ⟨rfl, (by repeat (first | with_reducible exact Below.refl _ _ | with_reducible assumption | with_reducible refine Below.setCell ?_ (by first | omega | (simp <;> omega)) _ | with_reducible refine balloc ?_ _ | with_reducible refine Below.drew ?_ | with_reducible refine bstep ?_ (by with_reducible assumption)))⟩
  simp [results, Try.results70, go_sem, kz0, kz1, kz2]


end Go.Proofs.Ytlkjpackjjncaaa.Da
