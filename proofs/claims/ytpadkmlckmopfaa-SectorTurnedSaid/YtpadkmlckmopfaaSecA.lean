/- SecA: the small functions. -/
import Derived.Test.YtpadkmlckmopfaaSecM
import Derived.Test.YtpadkmlckmopfaaPlaneA
import Derived.Test.YtpadkmlckmopfaaRows
import Derived.WalkKit
import Derived.WalkSpells
import Derived.WalkLawsBesides
import Derived.Lib.Hide
import Derived.Deep.QuietTactic
import Derived.BigQuiet
import Derived.RegionTactic
import Derived.ChangeAlike
import Derived.BigRegion
import Derived.Deep.RegionHeld3
import Derived.Deep.RegionWith
import Derived.Outline
import Derived.IntWalk
import Derived.Deep.DeepCutAuto
import Derived.Sort.Grow
import Derived.LoopTactic
namespace Go.Proofs.Ytpadkmlckmopfaa.Se
open Go.RowKit
set_option linter.unusedSimpArgs false
set_option linter.unusedVariables false

theorem below_of_grow {w w' : World} {q : Nat} {os : Array Obj} (h : w' = Sort.grow (w.drewN q) os) : Below w.heap.size w w' := by
  subst h
  refine ⟨rfl, rfl, rfl, by simp [Sort.grow, World.drewN], fun k hk => ?_⟩
  show (w.heap ++ os)[k]? = _
  rw [Array.getElem?_append_left hk]

set_option maxHeartbeats 400000 in
theorem bt_c (n a b : Int) (w : World) : Calls Try.prog 41 #[(.int .i64 n), (.int .i64 a), (.int .i64 b)] w (Same w (.bool (btB n a b))) := by
  go_enter Try.func41, Try.ntmps41
  go_wp2
  all_goals
    go_ret
    refine same_bool ?_
    simp [btB] <;> omega

set_option maxHeartbeats 400000 in
theorem half_c (d1 d2 : Int) (w : World) : Calls Try.prog 65 #[(.agg #[.int .i64 d1, .int .i64 d2])] w fun e w' => e = .returned (.int .i64 (halfV (d1, d2))) ∧ w' = w.alloc (.cells #[(.int .i64 d1), (.int .i64 d2)] 55) := by
  go_enter Try.func65, Try.ntmps65
  go_wp2
  all_goals
    go_ret
    refine ⟨?_, by first | rfl | (simp_all; done)⟩
    refine congrArg (fun x => Ending.returned (.int .i64 x)) ?_
    have := halfV_cases (d1, d2)
    simp only [Bool.not_eq_true', decide_eq_false_iff_not, decide_eq_true_eq, beq_iff_eq, bne_iff_ne, ne_eq] at *
    omega

set_option maxHeartbeats 400000 in
theorem crossV_c (d1 d2 e1 e2 : Int) (w : World) (hd : okW (d1, d2)) (he : okW (e1, e2)) : Calls Try.prog 66 #[(.agg #[.int .i64 d1, .int .i64 d2]), (.agg #[.int .i64 e1, .int .i64 e2])] w fun e w' => e = .returned (.int .i64 (crV (d1, d2) (e1, e2))) ∧ w' = (w.alloc (.cells #[(.int .i64 d1), (.int .i64 d2)] 55)).alloc (.cells #[(.int .i64 e1), (.int .i64 e2)] 55) := by
  obtain ⟨_, a1, a2, a3, a4⟩ := hd
  obtain ⟨_, b1, b2, b3, b4⟩ := he
  have m1 := mul_le4 a1 a2 b3 b4
  have m2 := mul_le4 a3 a4 b1 b2
  dsimp only at *
  obtain ⟨m3, m4⟩ := m1
  obtain ⟨m5, m6⟩ := m2
  go_enter Try.func66, Try.ntmps66
  go_wp2
  go_ret
  exact ⟨rfl, rfl⟩

set_option maxHeartbeats 800000 in
theorem cmpOr_c (x y : Int) (g : Nat) (w : World) (h0 : w.cell? ⟨g, 0, none⟩ = some (.int .i64 x)) (h1 : w.cell? ⟨g, 1, none⟩ = some (.int .i64 y)) : Calls Try.prog 63 #[.slice (some ⟨g, 0, none⟩) 2 2] w (Same w (.int .i64 (orI x y))) := by
  go_enter Try.func63, Try.ntmps63
  go_wp2
  go_loop [8] (fun i => ∃ k : Int, i = (.int .i64 k) ∧ (k = 0 ∨ k = 1 ∨ k = 2) ∧ (1 ≤ k → x = 0) ∧ (2 ≤ k → y = 0)) (fun i => (2 - intOf i).toNat)
  case atStart => exact ⟨0, rfl, .inl rfl, by omega, by omega⟩
  case round =>
    obtain ⟨k, rfl, hk, ho1, ho2⟩ := hrel
    rcases hk with rfl | rfl | rfl
    · clear ho1 ho2
      by_cases hx : x = 0
      · subst hx
        go_wp2
        go_round
        case rel => exact ⟨1, rfl, by omega, by simp, by simp⟩
        case measure => simp [intOf]
      · go_wp2
        go_ret
        exact same_int (by simp [orI, hx])
    · have hx := ho1 (by omega)
      subst hx
      clear ho1 ho2
      by_cases hy : y = 0
      · subst hy
        go_wp2
        go_round
        case rel => exact ⟨2, rfl, by omega, by simp, by simp⟩
        case measure => simp [intOf]
      · go_wp2
        go_ret
        exact same_int (by simp [orI])
    · have hx := ho1 (by omega)
      have hy := ho2 (by omega)
      subst hx hy
      clear ho1 ho2
      go_wp2
      go_ret
      exact same_int (by simp [orI])

set_option maxRecDepth 100000 in
set_option maxHeartbeats 1600000 in
theorem compare1_c (d1 d2 e1 e2 : Int) (w : World) (hd : okW (d1, d2)) (he : okW (e1, e2)) : Calls Try.prog 54 #[(.agg #[.int .i64 d1, .int .i64 d2]), (.agg #[.int .i64 e1, .int .i64 e2])] w fun e w' => e = .returned (.int .i64 (cmV (d1, d2) (e1, e2))) ∧ ∃ q os', w' = Sort.grow (w.drewN q) os' := by
  go_enter Try.func54, Try.ntmps54
  go_wp2_with fail
  refine wp_region_held_drew (S := fun w' => w'.cell? ⟨w.heap.size, 0, none⟩ = some (.int .i64 d1) ∧ w'.cell? ⟨w.heap.size, 1, none⟩ = some (.int .i64 d2) ∧ w'.cell? ⟨w.heap.size + 1, 0, none⟩ = some (.int .i64 e1) ∧ w'.cell? ⟨w.heap.size + 1, 1, none⟩ = some (.int .i64 e2)) (by kernel_rfl) (by first | (go_keep; done) | ((repeat' apply And.intro) <;> go_simp)) (fun hHeld => ?_)
  refine wpAnyH_take (i := 0) (oi := ⟨some 5, _, _, _, _, _⟩) (v := ?_) rfl (by kernel_rfl) (by kernel_rfl) (by kernel_rfl) (fun _ _ _ h => h) (Or.inl ⟨by rfl, ?_⟩) (by assumption) ?_
  rotate_left
  · intro w hSw; (try dsimp only at hSw); go_simp; try with_reducible rfl
  try simp only [Act.put, List.setIfInBounds_toArray, List.set_cons_zero, List.set_cons_succ]
  refine wpAnyH_take (i := 2) (oi := ⟨some 7, _, _, _, _, _⟩) (v := ?_) rfl (by kernel_rfl) (by kernel_rfl) (by kernel_rfl) (fun _ _ _ h => h) (Or.inl ⟨by rfl, ?_⟩) (by assumption) ?_
  rotate_left
  · intro w hSw; (try dsimp only at hSw); go_simp; try with_reducible rfl
  try simp only [Act.put, List.setIfInBounds_toArray, List.set_cons_zero, List.set_cons_succ]
  refine wpAnyH_take (i := 5) (oi := ⟨some 10, _, _, _, _, _⟩) (v := ?_) rfl (by kernel_rfl) (by kernel_rfl) (by kernel_rfl) (fun _ _ _ h => h) (Or.inl ⟨by rfl, ?_⟩) (by assumption) ?_
  rotate_left
  · intro w hSw; (try dsimp only at hSw); go_simp; try with_reducible rfl
  try simp only [Act.put, List.setIfInBounds_toArray, List.set_cons_zero, List.set_cons_succ]
  refine wpAnyH_take (i := 6) (oi := ⟨some 11, _, _, _, _, _⟩) (v := ?_) rfl (by kernel_rfl) (by kernel_rfl) (by kernel_rfl) (fun _ _ _ h => h) (Or.inl ⟨by rfl, ?_⟩) (by assumption) ?_
  rotate_left
  · intro w hSw; (try dsimp only at hSw); go_simp; try with_reducible rfl
  try simp only [Act.put, List.setIfInBounds_toArray, List.set_cons_zero, List.set_cons_succ]
  refine wpAnyH_ready (rs := [1]) (by kernel_rfl) (by simp) ?_
  refine AllReadyH.cons (o := ⟨some 6, _, _, _, _, _⟩) rfl (fun KK hKK => ?_) AllReadyH.nil
  go_simp
  refine Calls.mono (half_c _ _ _) ?_
  rintro e w1 ⟨rfl, rfl⟩
  (try go_wp2_with fail)
  refine hKK.out _ _ (by first | (go_keep; done) | ((repeat' apply And.intro) <;> go_simp)) (fun hHeld => ?_)
  clear hKK KK
  try simp only [Act.put, List.setIfInBounds_toArray, List.set_cons_zero, List.set_cons_succ]
  refine wpAnyH_ready (rs := [3]) (by kernel_rfl) (by simp) ?_
  refine AllReadyH.cons (o := ⟨some 8, _, _, _, _, _⟩) rfl (fun KK hKK => ?_) AllReadyH.nil
  go_simp
  refine Calls.mono (half_c _ _ _) ?_
  rintro e w1 ⟨rfl, rfl⟩
  (try go_wp2_with fail)
  refine hKK.out _ _ (by first | (go_keep; done) | ((repeat' apply And.intro) <;> go_simp)) (fun hHeld => ?_)
  clear hKK KK
  try simp only [Act.put, List.setIfInBounds_toArray, List.set_cons_zero, List.set_cons_succ]
  refine wpAnyH_ready (rs := [4]) (by kernel_rfl) (by simp) ?_
  refine AllReadyH.cons (o := ⟨some 9, _, _, _, _, _⟩) rfl (fun KK hKK => ?_) AllReadyH.nil
  go_simp
  refine Calls.mono (cmp_c _ _ _) ?_
  rintro e w1 ⟨rfl, rfl⟩
  (try go_wp2_with fail)
  refine hKK.out _ _ (by first | (go_keep; done) | ((repeat' apply And.intro) <;> go_simp)) (fun hHeld => ?_)
  clear hKK KK
  try simp only [Act.put, List.setIfInBounds_toArray, List.set_cons_zero, List.set_cons_succ]
  refine wpAnyH_ready (rs := [7]) (by kernel_rfl) (by simp) ?_
  refine AllReadyH.cons (o := ⟨some 12, _, _, _, _, _⟩) rfl (fun KK hKK => ?_) AllReadyH.nil
  go_simp
  refine Calls.mono (crossV_c _ _ _ _ _ he hd) ?_
  rintro e w1 ⟨rfl, rfl⟩
  (try go_wp2_with fail)
  refine hKK.out _ _ (by first | (go_keep; done) | ((repeat' apply And.intro) <;> go_simp)) (fun hHeld => ?_)
  clear hKK KK
  try simp only [Act.put, List.setIfInBounds_toArray, List.set_cons_zero, List.set_cons_succ]
  refine wpAnyH_ready (rs := [8]) (by kernel_rfl) (by simp) ?_
  refine AllReadyH.cons (o := ⟨some 13, _, _, _, _, _⟩) rfl (fun KK hKK => ?_) AllReadyH.nil
  go_simp
  refine Calls.mono (cmp_c _ _ _) ?_
  rintro e w1 ⟨rfl, rfl⟩
  (try go_wp2_with fail)
  refine hKK.out _ _ (by first | (go_keep; done) | ((repeat' apply And.intro) <;> go_simp)) (fun hHeld => ?_)
  clear hKK KK
  try simp only [Act.put, List.setIfInBounds_toArray, List.set_cons_zero, List.set_cons_succ]
  refine wpAnyH_ready (rs := [9]) (by kernel_rfl) (by simp) ?_
  refine AllReadyH.cons (o := ⟨some 14, _, _, _, _, _⟩) rfl (fun KK hKK => ?_) AllReadyH.nil
  go_simp
  (try go_wp2_with fail)
  refine hKK.out _ _ (by first | (go_keep; done) | ((repeat' apply And.intro) <;> go_simp)) (fun hHeld => ?_)
  clear hKK KK
  try simp only [Act.put, List.setIfInBounds_toArray, List.set_cons_zero, List.set_cons_succ]
  refine wpAnyH_ready (rs := [10]) (by kernel_rfl) (by simp) ?_
  refine AllReadyH.cons (o := ⟨some 15, _, _, _, _, _⟩) rfl (fun KK hKK => ?_) AllReadyH.nil
  go_simp
  refine Calls.mono (cmpOr_c (cmp (halfV (d1, d2)) (halfV (e1, e2))) (cmp (crV (e1, e2) (d1, d2)) 0) _ _ (by go_simp) (by go_simp)) ?_
  rintro e w1 ⟨rfl, rfl⟩
  (try go_wp2_with fail)
  refine hKK.out _ _ (by first | (go_keep; done) | ((repeat' apply And.intro) <;> go_simp)) (fun hHeld => ?_)
  clear hKK KK
  try simp only [Act.put, List.setIfInBounds_toArray, List.set_cons_zero, List.set_cons_succ]
  refine wpAnyH_take (i := 11) (oi := ⟨some 4, _, _, _, _, _⟩) (v := ?_) rfl (by kernel_rfl) (by kernel_rfl) (by kernel_rfl) (fun _ _ _ h => h) (Or.inl ⟨by rfl, ?_⟩) (by assumption) ?_
  rotate_left
  · intro w hSw; (try dsimp only at hSw); go_simp; try with_reducible rfl
  try simp only [Act.put, List.setIfInBounds_toArray, List.set_cons_zero, List.set_cons_succ]
  refine wpAnyH_done (by kernel_rfl) ?_ _
  go_wp2
  go_ret
  exact ⟨rfl, 1, _, by simp only [Sort.alloc_eq_grow, Sort.drew_grow, Sort.grow_grow]; rfl⟩
theorem compare_c (d1 d2 e1 e2 : Int) (w : World) (hd : okW (d1, d2)) (he : okW (e1, e2)) : Calls Try.prog 54 #[(.agg #[.int .i64 d1, .int .i64 d2]), (.agg #[.int .i64 e1, .int .i64 e2])] w (Ret w (.int .i64 (cmV (d1, d2) (e1, e2)))) :=
  (compare1_c d1 d2 e1 e2 w hd he).mono fun e w' ⟨h, q, os, hw⟩ => ⟨h, below_of_grow hw⟩


end Go.Proofs.Ytpadkmlckmopfaa.Se
