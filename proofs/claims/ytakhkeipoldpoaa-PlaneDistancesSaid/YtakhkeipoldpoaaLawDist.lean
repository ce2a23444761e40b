/- LawDist: the law's walk. -/
import Derived.Test.YtakhkeipoldpoaaHeadA
import Derived.Test.YtakhkeipoldpoaaPlaneN
namespace Go.Proofs.Ytakhkeipoldpoaa
open Go.RowKit

theorem up_bd (n : Int) : rt n ≤ up n ∧ up n ≤ rt n + 1 ∧ (rt n * rt n = n → up n = rt n) ∧ (rt n * rt n ≠ n → up n = rt n + 1) := by
  unfold up
  split
  · exact ⟨by omega, by omega, fun _ => rfl, fun k => absurd (by assumption) k⟩
  · exact ⟨by omega, by omega, fun k => absurd k (by assumption), fun _ => rfl⟩
theorem up_sqD {n : Int} (h : 0 ≤ n) : 0 ≤ up n ∧ n ≤ up n * up n := by
  obtain ⟨a, b, c⟩ := rt_spec h
  unfold up
  split
  · omega
  · exact ⟨by omega, by omega⟩
theorem dist_tri (a1 a2 b1 b2 c1 c2 : Int) : rt (sq a1 a2 c1 c2) ≤ up (sq a1 a2 b1 b2) + up (sq b1 b2 c1 c2) := by
  obtain ⟨u0, u1⟩ := up_sqD (sq_nonneg a1 a2 b1 b2)
  obtain ⟨v0, v1⟩ := up_sqD (sq_nonneg b1 b2 c1 c2)
  obtain ⟨r0, r1, r2⟩ := rt_spec (sq_nonneg a1 a2 c1 c2)
  have t := tri u0 v0 u1 v1
  have g : rt (sq a1 a2 c1 c2) * rt (sq a1 a2 c1 c2) ≤ (up (sq a1 a2 b1 b2) + up (sq b1 b2 c1 c2)) * (up (sq a1 a2 b1 b2) + up (sq b1 b2 c1 c2)) := by omega
  have e : (up (sq a1 a2 b1 b2) + up (sq b1 b2 c1 c2) + 1) * (up (sq a1 a2 b1 b2) + up (sq b1 b2 c1 c2) + 1) = (up (sq a1 a2 b1 b2) + up (sq b1 b2 c1 c2)) * (up (sq a1 a2 b1 b2) + up (sq b1 b2 c1 c2)) + 2 * (up (sq a1 a2 b1 b2) + up (sq b1 b2 c1 c2)) + 1 := by grind
  exact sq_le r0 (by omega) (by omega)

theorem cell_al {W : World} {a : Addr} {v : Value} (o : Obj) (h : W.cell? a = some v) : (W.alloc o).cell? a = some v := by
  rw [World.cell?_alloc_some _ _ _ (by rw [h]; rfl)]
  exact h

set_option maxRecDepth 100000 in
set_option maxHeartbeats 3200000 in
theorem dist_ok_c (a1 a2 b1 b2 c1 c2 : Int) (w : World) (ha : ok a1 a2) (hb : ok b1 b2) : Calls Try.prog 7 #[(.agg #[.int .i64 a1, .int .i64 a2]), (.agg #[.int .i64 b1, .int .i64 b2]), (.agg #[.int .i64 c1, .int .i64 c2])] w (Ret w (.bool true)) := by
  have e0 : sq b1 b2 a1 a2 = sq a1 a2 b1 b2 := sq_comm b1 b2 a1 a2
  have e1 : (a1 - b1) * (a1 - b1) + (a2 - b2) * (a2 - b2) = sq a1 a2 b1 b2 := by unfold sq dot; grind
  have s1 := sq_nn (a1 - b1)
  have s2 := sq_nn (a2 - b2)
  obtain ⟨n1, n2⟩ := sq_bd a1 a2 b1 b2 ha hb
  have tr := dist_tri a1 a2 b1 b2 c1 c2
  obtain ⟨g1, g2⟩ := rt_bd n1 n2
  obtain ⟨_, g3, g4⟩ := rt_spec n1
  obtain ⟨g5, g6, g7, g8⟩ := up_bd (sq a1 a2 b1 b2)
  obtain ⟨g9, g10⟩ := up_sqD n1
  have r0 := sq_nn (rt (sq a1 a2 b1 b2))
  have r1 := sq_nn (up (sq a1 a2 b1 b2))
  have rU : up (sq a1 a2 b1 b2) * up (sq a1 a2 b1 b2) ≤ 9000000000000 := by
    have := mul_bd (a := up (sq a1 a2 b1 b2)) (b := up (sq a1 a2 b1 b2)) (A := 3000000) (B := 3000000) (by omega) (by omega) (by omega) (by omega)
    omega
  have l1 : (a1 - b1) * (a1 - b1) ≤ 8000000000000 := by omega
  have l2 : (a2 - b2) * (a2 - b2) ≤ 8000000000000 := by omega
  have hA := ha
  have hB := hb
  obtain ⟨a3, a4, a5, a6⟩ := hA
  obtain ⟨b3, b4, b5, b6⟩ := hB
  have fin : (rt (sq a1 a2 b1 b2) * rt (sq a1 a2 b1 b2) == sq a1 a2 b1 b2) = (rt (sq a1 a2 b1 b2) == up (sq a1 a2 b1 b2)) := by
    rw [Bool.eq_iff_iff, beq_iff_eq, beq_iff_eq]
    constructor
    · intro k
      exact (g7 k).symm
    · intro k
      by_cases kk : rt (sq a1 a2 b1 b2) * rt (sq a1 a2 b1 b2) = sq a1 a2 b1 b2
      · exact kk
      · have := g8 kk
        omega
  clear g7 g8 g4
  by_cases hk : ok c1 c2
  · have v1 := up_bd (sq b1 b2 c1 c2)
    obtain ⟨v2, v3, _, _⟩ := v1
    obtain ⟨v4, v5⟩ := rt_bd (sq_bd b1 b2 c1 c2 hb hk).1 (sq_bd b1 b2 c1 c2 hb hk).2
    go_enter Try.func7, Try.ntmps7
    go_wp2_with fail
    refine (head_c _).mono ?_
    rintro e w1 ⟨rfl, hbW⟩
    have hc := (bcell hbW).1
    have ka0 : w1.cell? ⟨w.heap.size, 0, none⟩ = some (.int .i64 a1) := by rw [hc _ _ (by first | omega | (simp <;> omega))]; go_simp
    have ka1 : w1.cell? ⟨w.heap.size, 1, none⟩ = some (.int .i64 a2) := by rw [hc _ _ (by first | omega | (simp <;> omega))]; go_simp
    have kb0 : w1.cell? ⟨w.heap.size + 1, 0, none⟩ = some (.int .i64 b1) := by rw [hc _ _ (by first | omega | (simp <;> omega))]; go_simp
    have kb1 : w1.cell? ⟨w.heap.size + 1, 1, none⟩ = some (.int .i64 b2) := by rw [hc _ _ (by first | omega | (simp <;> omega))]; go_simp
    have kc0 : w1.cell? ⟨w.heap.size + 1 + 1, 0, none⟩ = some (.int .i64 c1) := by rw [hc _ _ (by first | omega | (simp <;> omega))]; go_simp
    have kc1 : w1.cell? ⟨w.heap.size + 1 + 1, 1, none⟩ = some (.int .i64 c2) := by rw [hc _ _ (by first | omega | (simp <;> omega))]; go_simp
    have hb1 : Below w.heap.size w w1 := (by repeat (first | exact Below.refl _ _ | assumption | refine bstep ?_ (by assumption) | refine Below.drew ?_ | refine balloc ?_ _ | refine Below.setCell ?_ (by first | omega | (simp <;> omega)) _))
    clear hc hbW
    go_wp2_with fail
    refine Calls.mono (Dist_ok _ _ _ _ _ ha hb) ?_
    rintro e w2 ⟨rfl, hb2⟩
    replace ka0 : w2.cell? ⟨w.heap.size, 0, none⟩ = some (.int .i64 a1) := cell_later hb2 ka0
    replace ka1 : w2.cell? ⟨w.heap.size, 1, none⟩ = some (.int .i64 a2) := cell_later hb2 ka1
    replace kb0 : w2.cell? ⟨w.heap.size + 1, 0, none⟩ = some (.int .i64 b1) := cell_later hb2 kb0
    replace kb1 : w2.cell? ⟨w.heap.size + 1, 1, none⟩ = some (.int .i64 b2) := cell_later hb2 kb1
    replace kc0 : w2.cell? ⟨w.heap.size + 1 + 1, 0, none⟩ = some (.int .i64 c1) := cell_later hb2 kc0
    replace kc1 : w2.cell? ⟨w.heap.size + 1 + 1, 1, none⟩ = some (.int .i64 c2) := cell_later hb2 kc1
    (try clear z0 z1 z2)
    have z0 : w.heap.size < w2.heap.size := World.block_lt_of_cell? _ _ ka0
    have z1 : w.heap.size + 1 < w2.heap.size := World.block_lt_of_cell? _ _ kb0
    have z2 : w.heap.size + 1 + 1 < w2.heap.size := World.block_lt_of_cell? _ _ kc0
    replace hb1 := bstep hb1 hb2
    clear hb2
    go_wp2_with fail
    refine Calls.mono (Dist_ok _ _ _ _ _ hb ha) ?_
    rintro e w3 ⟨rfl, hb3⟩
    have ks0 : w3.cell? ⟨w2.heap.size, 0, none⟩ = some (.int .i64 (rt (sq a1 a2 b1 b2))) := cell_later hb3 (by go_simp)
    have ks1 : w3.cell? ⟨w2.heap.size, 1, none⟩ = some (.int .i64 (up (sq a1 a2 b1 b2))) := cell_later hb3 (by go_simp)
    replace ka0 : w3.cell? ⟨w.heap.size, 0, none⟩ = some (.int .i64 a1) := cell_later hb3 (cell_al _ ka0)
    replace ka1 : w3.cell? ⟨w.heap.size, 1, none⟩ = some (.int .i64 a2) := cell_later hb3 (cell_al _ ka1)
    replace kb0 : w3.cell? ⟨w.heap.size + 1, 0, none⟩ = some (.int .i64 b1) := cell_later hb3 (cell_al _ kb0)
    replace kb1 : w3.cell? ⟨w.heap.size + 1, 1, none⟩ = some (.int .i64 b2) := cell_later hb3 (cell_al _ kb1)
    replace kc0 : w3.cell? ⟨w.heap.size + 1 + 1, 0, none⟩ = some (.int .i64 c1) := cell_later hb3 (cell_al _ kc0)
    replace kc1 : w3.cell? ⟨w.heap.size + 1 + 1, 1, none⟩ = some (.int .i64 c2) := cell_later hb3 (cell_al _ kc1)
    (try clear z0 z1 z2)
    have z0 : w.heap.size < w3.heap.size := World.block_lt_of_cell? _ _ ka0
    have z1 : w.heap.size + 1 < w3.heap.size := World.block_lt_of_cell? _ _ kb0
    have z2 : w.heap.size + 1 + 1 < w3.heap.size := World.block_lt_of_cell? _ _ kc0
    have z3 : w2.heap.size < w3.heap.size := World.block_lt_of_cell? _ _ ks0
    replace hb1 := bstep (balloc hb1 _) hb3
    clear hb3
    go_wp2_with fail
    refine Calls.mono (Dist_ok _ _ _ _ _ hb hk) ?_
    rintro e w4 ⟨rfl, hb4⟩
    replace ks1 : w4.cell? ⟨w2.heap.size, 1, none⟩ = some (.int .i64 (up (sq a1 a2 b1 b2))) := cell_later hb4 (cell_al _ ks1)
    have z3 : w2.heap.size < w4.heap.size := World.block_lt_of_cell? _ _ ks1
    replace ka0 : w4.cell? ⟨w.heap.size, 0, none⟩ = some (.int .i64 a1) := cell_later hb4 (cell_al _ ka0)
    replace ka1 : w4.cell? ⟨w.heap.size, 1, none⟩ = some (.int .i64 a2) := cell_later hb4 (cell_al _ ka1)
    replace kb0 : w4.cell? ⟨w.heap.size + 1, 0, none⟩ = some (.int .i64 b1) := cell_later hb4 (cell_al _ kb0)
    replace kb1 : w4.cell? ⟨w.heap.size + 1, 1, none⟩ = some (.int .i64 b2) := cell_later hb4 (cell_al _ kb1)
    replace kc0 : w4.cell? ⟨w.heap.size + 1 + 1, 0, none⟩ = some (.int .i64 c1) := cell_later hb4 (cell_al _ kc0)
    replace kc1 : w4.cell? ⟨w.heap.size + 1 + 1, 1, none⟩ = some (.int .i64 c2) := cell_later hb4 (cell_al _ kc1)
    (try clear z0 z1 z2)
    have z0 : w.heap.size < w4.heap.size := World.block_lt_of_cell? _ _ ka0
    have z1 : w.heap.size + 1 < w4.heap.size := World.block_lt_of_cell? _ _ kb0
    have z2 : w.heap.size + 1 + 1 < w4.heap.size := World.block_lt_of_cell? _ _ kc0
    replace hb1 := bstep (balloc hb1 _) hb4
    clear hb4 ks0
    go_wp2_with fail
    refine Calls.mono (Dist_ok _ _ _ _ _ ha hk) ?_
    rintro e w5 ⟨rfl, hb5⟩
    have ku1 : w5.cell? ⟨w4.heap.size, 1, none⟩ = some (.int .i64 (up (sq b1 b2 c1 c2))) := cell_later hb5 (by go_simp)
    replace ks1 : w5.cell? ⟨w2.heap.size, 1, none⟩ = some (.int .i64 (up (sq a1 a2 b1 b2))) := cell_later hb5 (cell_al _ ks1)
    have kt1 : (w5.alloc (Obj.cells #[(.int .i64 (rt (sq a1 a2 c1 c2))), (.int .i64 (up (sq a1 a2 c1 c2)))] 36)).cell? ⟨w2.heap.size, 1, none⟩ = some (.int .i64 (up (sq a1 a2 b1 b2))) := cell_al _ ks1
    have kt2 : (w5.alloc (Obj.cells #[(.int .i64 (rt (sq a1 a2 c1 c2))), (.int .i64 (up (sq a1 a2 c1 c2)))] 36)).cell? ⟨w4.heap.size, 1, none⟩ = some (.int .i64 (up (sq b1 b2 c1 c2))) := cell_al _ ku1
    replace hb1 := bstep (balloc hb1 _) hb5
    clear hb5
    go_wp2
    all_goals
      go_ret
      exact ret_bool (by simp) (by repeat (first | exact Below.refl _ _ | assumption | refine bstep ?_ (by assumption) | refine Below.drew ?_ | refine balloc ?_ _ | refine Below.setCell ?_ (by first | omega | (simp <;> omega)) _))
  · have m1 : ¬ (ok b1 b2 ∧ ok c1 c2) := fun k => hk k.2
    have m2 : ¬ (ok a1 a2 ∧ ok c1 c2) := fun k => hk k.2
    have m1' := Lib.hid m1
    clear m1
    have m2' := Lib.hid m2
    clear m2
    clear hk tr
    go_enter Try.func7, Try.ntmps7
    go_wp2_with fail
    refine (head_c _).mono ?_
    rintro e w1 ⟨rfl, hbW⟩
    have hc := (bcell hbW).1
    have ka0 : w1.cell? ⟨w.heap.size, 0, none⟩ = some (.int .i64 a1) := by rw [hc _ _ (by first | omega | (simp <;> omega))]; go_simp
    have ka1 : w1.cell? ⟨w.heap.size, 1, none⟩ = some (.int .i64 a2) := by rw [hc _ _ (by first | omega | (simp <;> omega))]; go_simp
    have kb0 : w1.cell? ⟨w.heap.size + 1, 0, none⟩ = some (.int .i64 b1) := by rw [hc _ _ (by first | omega | (simp <;> omega))]; go_simp
    have kb1 : w1.cell? ⟨w.heap.size + 1, 1, none⟩ = some (.int .i64 b2) := by rw [hc _ _ (by first | omega | (simp <;> omega))]; go_simp
    have kc0 : w1.cell? ⟨w.heap.size + 1 + 1, 0, none⟩ = some (.int .i64 c1) := by rw [hc _ _ (by first | omega | (simp <;> omega))]; go_simp
    have kc1 : w1.cell? ⟨w.heap.size + 1 + 1, 1, none⟩ = some (.int .i64 c2) := by rw [hc _ _ (by first | omega | (simp <;> omega))]; go_simp
    have hb1 : Below w.heap.size w w1 := (by repeat (first | exact Below.refl _ _ | assumption | refine bstep ?_ (by assumption) | refine Below.drew ?_ | refine balloc ?_ _ | refine Below.setCell ?_ (by first | omega | (simp <;> omega)) _))
    clear hc hbW
    go_wp2_with fail
    refine Calls.mono (Dist_ok _ _ _ _ _ ha hb) ?_
    rintro e w2 ⟨rfl, hb2⟩
    replace ka0 : w2.cell? ⟨w.heap.size, 0, none⟩ = some (.int .i64 a1) := cell_later hb2 ka0
    replace ka1 : w2.cell? ⟨w.heap.size, 1, none⟩ = some (.int .i64 a2) := cell_later hb2 ka1
    replace kb0 : w2.cell? ⟨w.heap.size + 1, 0, none⟩ = some (.int .i64 b1) := cell_later hb2 kb0
    replace kb1 : w2.cell? ⟨w.heap.size + 1, 1, none⟩ = some (.int .i64 b2) := cell_later hb2 kb1
    replace kc0 : w2.cell? ⟨w.heap.size + 1 + 1, 0, none⟩ = some (.int .i64 c1) := cell_later hb2 kc0
    replace kc1 : w2.cell? ⟨w.heap.size + 1 + 1, 1, none⟩ = some (.int .i64 c2) := cell_later hb2 kc1
    (try clear z0 z1 z2)
    have z0 : w.heap.size < w2.heap.size := World.block_lt_of_cell? _ _ ka0
    have z1 : w.heap.size + 1 < w2.heap.size := World.block_lt_of_cell? _ _ kb0
    have z2 : w.heap.size + 1 + 1 < w2.heap.size := World.block_lt_of_cell? _ _ kc0
    replace hb1 := bstep hb1 hb2
    clear hb2
    go_wp2_with fail
    refine Calls.mono (Dist_ok _ _ _ _ _ hb ha) ?_
    rintro e w3 ⟨rfl, hb3⟩
    have ks0 : w3.cell? ⟨w2.heap.size, 0, none⟩ = some (.int .i64 (rt (sq a1 a2 b1 b2))) := cell_later hb3 (by go_simp)
    have ks1 : w3.cell? ⟨w2.heap.size, 1, none⟩ = some (.int .i64 (up (sq a1 a2 b1 b2))) := cell_later hb3 (by go_simp)
    replace ka0 : w3.cell? ⟨w.heap.size, 0, none⟩ = some (.int .i64 a1) := cell_later hb3 (cell_al _ ka0)
    replace ka1 : w3.cell? ⟨w.heap.size, 1, none⟩ = some (.int .i64 a2) := cell_later hb3 (cell_al _ ka1)
    replace kb0 : w3.cell? ⟨w.heap.size + 1, 0, none⟩ = some (.int .i64 b1) := cell_later hb3 (cell_al _ kb0)
    replace kb1 : w3.cell? ⟨w.heap.size + 1, 1, none⟩ = some (.int .i64 b2) := cell_later hb3 (cell_al _ kb1)
    replace kc0 : w3.cell? ⟨w.heap.size + 1 + 1, 0, none⟩ = some (.int .i64 c1) := cell_later hb3 (cell_al _ kc0)
    replace kc1 : w3.cell? ⟨w.heap.size + 1 + 1, 1, none⟩ = some (.int .i64 c2) := cell_later hb3 (cell_al _ kc1)
    (try clear z0 z1 z2)
    have z0 : w.heap.size < w3.heap.size := World.block_lt_of_cell? _ _ ka0
    have z1 : w.heap.size + 1 < w3.heap.size := World.block_lt_of_cell? _ _ kb0
    have z2 : w.heap.size + 1 + 1 < w3.heap.size := World.block_lt_of_cell? _ _ kc0
    have z3 : w2.heap.size < w3.heap.size := World.block_lt_of_cell? _ _ ks0
    replace hb1 := bstep (balloc hb1 _) hb3
    clear hb3
    go_wp2_with fail
    refine Calls.mono (Dist_no _ _ _ _ _ m1'.out) ?_
    rintro e w4 ⟨rfl, hb4⟩
    clear ks0 ks1
    replace ka0 : w4.cell? ⟨w.heap.size, 0, none⟩ = some (.int .i64 a1) := cell_later hb4 (cell_al _ ka0)
    replace ka1 : w4.cell? ⟨w.heap.size, 1, none⟩ = some (.int .i64 a2) := cell_later hb4 (cell_al _ ka1)
    replace kb0 : w4.cell? ⟨w.heap.size + 1, 0, none⟩ = some (.int .i64 b1) := cell_later hb4 (cell_al _ kb0)
    replace kb1 : w4.cell? ⟨w.heap.size + 1, 1, none⟩ = some (.int .i64 b2) := cell_later hb4 (cell_al _ kb1)
    replace kc0 : w4.cell? ⟨w.heap.size + 1 + 1, 0, none⟩ = some (.int .i64 c1) := cell_later hb4 (cell_al _ kc0)
    replace kc1 : w4.cell? ⟨w.heap.size + 1 + 1, 1, none⟩ = some (.int .i64 c2) := cell_later hb4 (cell_al _ kc1)
    (try clear z0 z1 z2)
    have z0 : w.heap.size < w4.heap.size := World.block_lt_of_cell? _ _ ka0
    have z1 : w.heap.size + 1 < w4.heap.size := World.block_lt_of_cell? _ _ kb0
    have z2 : w.heap.size + 1 + 1 < w4.heap.size := World.block_lt_of_cell? _ _ kc0
    replace hb1 := bstep (balloc hb1 _) hb4
    clear hb4
    go_wp2_with fail
    refine Calls.mono (Dist_no _ _ _ _ _ m2'.out) ?_
    rintro e w5 ⟨rfl, hb5⟩
    replace hb1 := bstep (balloc hb1 _) hb5
    clear hb5
    go_wp2
    all_goals
      go_ret
      exact ret_bool (by simp) (by repeat (first | exact Below.refl _ _ | assumption | refine bstep ?_ (by assumption) | refine Below.drew ?_ | refine balloc ?_ _ | refine Below.setCell ?_ (by first | omega | (simp <;> omega)) _))

set_option maxRecDepth 100000 in
set_option maxHeartbeats 3200000 in
theorem dist_law (a1 a2 b1 b2 c1 c2 : Int) (w : World) : Calls Try.prog 7 #[(.agg #[.int .i64 a1, .int .i64 a2]), (.agg #[.int .i64 b1, .int .i64 b2]), (.agg #[.int .i64 c1, .int .i64 c2])] w (Ret w (.bool true)) := by
  by_cases h : ok a1 a2 ∧ ok b1 b2
  · exact dist_ok_c a1 a2 b1 b2 c1 c2 w h.1 h.2
  · have h2 : ¬ (ok b1 b2 ∧ ok a1 a2) := fun k => h ⟨k.2, k.1⟩
    have h' := Lib.hid h
    clear h
    have h2' := Lib.hid h2
    clear h2
    go_enter Try.func7, Try.ntmps7
    go_wp2_with fail
    refine (head_c _).mono ?_
    rintro e w1 ⟨rfl, hbW⟩
    have hc := (bcell hbW).1
    have ka0 : w1.cell? ⟨w.heap.size, 0, none⟩ = some (.int .i64 a1) := by rw [hc _ _ (by first | omega | (simp <;> omega))]; go_simp
    have ka1 : w1.cell? ⟨w.heap.size, 1, none⟩ = some (.int .i64 a2) := by rw [hc _ _ (by first | omega | (simp <;> omega))]; go_simp
    have kb0 : w1.cell? ⟨w.heap.size + 1, 0, none⟩ = some (.int .i64 b1) := by rw [hc _ _ (by first | omega | (simp <;> omega))]; go_simp
    have kb1 : w1.cell? ⟨w.heap.size + 1, 1, none⟩ = some (.int .i64 b2) := by rw [hc _ _ (by first | omega | (simp <;> omega))]; go_simp
    have kc0 : w1.cell? ⟨w.heap.size + 1 + 1, 0, none⟩ = some (.int .i64 c1) := by rw [hc _ _ (by first | omega | (simp <;> omega))]; go_simp
    have kc1 : w1.cell? ⟨w.heap.size + 1 + 1, 1, none⟩ = some (.int .i64 c2) := by rw [hc _ _ (by first | omega | (simp <;> omega))]; go_simp
    have hb1 : Below w.heap.size w w1 := (by repeat (first | exact Below.refl _ _ | assumption | refine bstep ?_ (by assumption) | refine Below.drew ?_ | refine balloc ?_ _ | refine Below.setCell ?_ (by first | omega | (simp <;> omega)) _))
    clear hc hbW
    go_wp2_with fail
    refine Calls.mono (Dist_no _ _ _ _ _ h'.out) ?_
    rintro e w2 ⟨rfl, hb2⟩
    replace ka0 : w2.cell? ⟨w.heap.size, 0, none⟩ = some (.int .i64 a1) := cell_later hb2 ka0
    replace ka1 : w2.cell? ⟨w.heap.size, 1, none⟩ = some (.int .i64 a2) := cell_later hb2 ka1
    replace kb0 : w2.cell? ⟨w.heap.size + 1, 0, none⟩ = some (.int .i64 b1) := cell_later hb2 kb0
    replace kb1 : w2.cell? ⟨w.heap.size + 1, 1, none⟩ = some (.int .i64 b2) := cell_later hb2 kb1
    replace kc0 : w2.cell? ⟨w.heap.size + 1 + 1, 0, none⟩ = some (.int .i64 c1) := cell_later hb2 kc0
    replace kc1 : w2.cell? ⟨w.heap.size + 1 + 1, 1, none⟩ = some (.int .i64 c2) := cell_later hb2 kc1
    (try clear z0 z1 z2)
    have z0 : w.heap.size < w2.heap.size := World.block_lt_of_cell? _ _ ka0
    have z1 : w.heap.size + 1 < w2.heap.size := World.block_lt_of_cell? _ _ kb0
    have z2 : w.heap.size + 1 + 1 < w2.heap.size := World.block_lt_of_cell? _ _ kc0
    replace hb1 := bstep hb1 hb2
    clear hb2
    go_wp2_with fail
    refine Calls.mono (Dist_no _ _ _ _ _ h2'.out) ?_
    rintro e w3 ⟨rfl, hb3⟩
    have ks0 : w3.cell? ⟨w2.heap.size, 0, none⟩ = some (.int .i64 0) := cell_later hb3 (by go_simp)
    have ks1 : w3.cell? ⟨w2.heap.size, 1, none⟩ = some (.int .i64 0) := cell_later hb3 (by go_simp)
    have z3 : w2.heap.size < w3.heap.size := World.block_lt_of_cell? _ _ ks0
    replace hb1 := bstep (balloc hb1 _) hb3
    clear hb3
    go_wp2
    all_goals
      go_ret
      exact ret_bool (by simp) (by repeat (first | exact Below.refl _ _ | assumption | refine bstep ?_ (by assumption) | refine Below.drew ?_ | refine balloc ?_ _ | refine Below.setCell ?_ (by first | omega | (simp <;> omega)) _))

end Go.Proofs.Ytakhkeipoldpoaa
