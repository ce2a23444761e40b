/- RefG: the law's walk. -/
import Derived.Test.YtakhkeipoldpoaaRefB
import Derived.Test.YtakhkeipoldpoaaRefC
namespace Go.Proofs.Ytakhkeipoldpoaa
open Go.RowKit

theorem rsign_t (a1 a2 b1 b2 c1 c2 : Int) (w : World) : Calls Try.prog 34 #[(.int .i64 (cross a1 a2 b1 b2 c1 c2))] w (Same w (.int .i64 (turn a1 a2 b1 b2 c1 c2))) := rsign_c _ w

set_option maxRecDepth 100000 in
set_option maxHeartbeats 3200000 in
theorem rcrosses_c (a1 a2 b1 b2 c1 c2 d1 d2 : Int) (w : World) (ha : ok a1 a2) (hb : ok b1 b2) (hc0 : ok c1 c2) (hd : ok d1 d2) : Calls Try.prog 40 #[(.agg #[.int .i64 a1, .int .i64 a2]), (.agg #[.int .i64 b1, .int .i64 b2]), (.agg #[.int .i64 c1, .int .i64 c2]), (.agg #[.int .i64 d1, .int .i64 d2])] w (Ret w (.bool (meetB a1 a2 b1 b2 c1 c2 d1 d2))) := by
  cases q1 : on a1 a2 c1 c2 d1 d2
  · cases q2 : on b1 b2 c1 c2 d1 d2
    · cases q3 : on c1 c2 a1 a2 b1 b2
      · cases q4 : on d1 d2 a1 a2 b1 b2
        · have m1 := mul_bd (cmp_bd (cross a1 a2 b1 b2 c1 c2) 0).1 (cmp_bd (cross a1 a2 b1 b2 c1 c2) 0).2 (cmp_bd (cross a1 a2 b1 b2 d1 d2) 0).1 (cmp_bd (cross a1 a2 b1 b2 d1 d2) 0).2
          have m2 := mul_bd (cmp_bd (cross c1 c2 d1 d2 a1 a2) 0).1 (cmp_bd (cross c1 c2 d1 d2 a1 a2) 0).2 (cmp_bd (cross c1 c2 d1 d2 b1 b2) 0).1 (cmp_bd (cross c1 c2 d1 d2 b1 b2) 0).2
          have m3 : -1 ≤ turn a1 a2 b1 b2 c1 c2 * turn a1 a2 b1 b2 d1 d2 ∧ turn a1 a2 b1 b2 c1 c2 * turn a1 a2 b1 b2 d1 d2 ≤ 1 := by unfold turn; omega
          have m4 : -1 ≤ turn c1 c2 d1 d2 a1 a2 * turn c1 c2 d1 d2 b1 b2 ∧ turn c1 c2 d1 d2 a1 a2 * turn c1 c2 d1 d2 b1 b2 ≤ 1 := by unfold turn; omega
          obtain ⟨m5, m6⟩ := m3
          obtain ⟨m7, m8⟩ := m4
          clear m1 m2
          go_enter Try.func40, Try.ntmps40
          go_wp2_with fail
          refine (lie_c a1 a2 c1 c2 d1 d2 _ ha hc0 hd).mono ?_
          rintro e w1 ⟨rfl, hbW⟩
          have hc := (bcell hbW).1
          go_wp2_with (first | (go_at_call 38; refine (lie_c _ _ _ _ _ _ _ (by assumption) (by assumption) (by assumption)).mono ?_; rintro e w1 ⟨rfl, hb1⟩; replace hbW := bstep hbW hb1; clear hc; have hc := (bcell hbW).1; clear hb1))
          have hs0 : _ ≤ w1.heap.size := hbW.size
          (try simp at hs0)
          have ka0 : w1.cell? ⟨w.heap.size, 0, none⟩ = some (.int .i64 a1) := by rw [hc _ _ (by first | omega | (simp <;> omega))]; go_simp
          have ka1 : w1.cell? ⟨w.heap.size, 1, none⟩ = some (.int .i64 a2) := by rw [hc _ _ (by first | omega | (simp <;> omega))]; go_simp
          have kb0 : w1.cell? ⟨w.heap.size + 1, 0, none⟩ = some (.int .i64 b1) := by rw [hc _ _ (by first | omega | (simp <;> omega))]; go_simp
          have kb1 : w1.cell? ⟨w.heap.size + 1, 1, none⟩ = some (.int .i64 b2) := by rw [hc _ _ (by first | omega | (simp <;> omega))]; go_simp
          have kc0 : w1.cell? ⟨w.heap.size + 1 + 1, 0, none⟩ = some (.int .i64 c1) := by rw [hc _ _ (by first | omega | (simp <;> omega))]; go_simp
          have kc1 : w1.cell? ⟨w.heap.size + 1 + 1, 1, none⟩ = some (.int .i64 c2) := by rw [hc _ _ (by first | omega | (simp <;> omega))]; go_simp
          have kd0 : w1.cell? ⟨w.heap.size + 1 + 1 + 1, 0, none⟩ = some (.int .i64 d1) := by rw [hc _ _ (by first | omega | (simp <;> omega))]; go_simp
          have kd1 : w1.cell? ⟨w.heap.size + 1 + 1 + 1, 1, none⟩ = some (.int .i64 d2) := by rw [hc _ _ (by first | omega | (simp <;> omega))]; go_simp
          have hbw : Below w.heap.size w w1 := (by repeat (first | exact Below.refl _ _ | assumption | refine bstep ?_ (by assumption) | refine Below.drew ?_ | refine balloc ?_ _ | refine Below.setCell ?_ (by first | omega | (simp <;> omega)) _))
          have hs : w.heap.size + 1 + 1 + 1 < w1.heap.size := by omega
          clear hc hbW hs0
          go_region_held3 (fun w' => w'.cell? ⟨w.heap.size, 0, none⟩ = some (.int .i64 a1) ∧ w'.cell? ⟨w.heap.size, 1, none⟩ = some (.int .i64 a2) ∧ w'.cell? ⟨w.heap.size + 1, 0, none⟩ = some (.int .i64 b1) ∧ w'.cell? ⟨w.heap.size + 1, 1, none⟩ = some (.int .i64 b2) ∧ w'.cell? ⟨w.heap.size + 1 + 1, 0, none⟩ = some (.int .i64 c1) ∧ w'.cell? ⟨w.heap.size + 1 + 1, 1, none⟩ = some (.int .i64 c2) ∧ w'.cell? ⟨w.heap.size + 1 + 1 + 1, 0, none⟩ = some (.int .i64 d1) ∧ w'.cell? ⟨w.heap.size + 1 + 1 + 1, 1, none⟩ = some (.int .i64 d2)) (first | (go_keep; done) | ((repeat' apply And.intro) <;> go_simp))
            (first | (go_at_call 36; refine (minus_c _ _ _ _ _ (by assumption) (by assumption)).mono ?_; rintro e w1 ⟨rfl, hb1⟩; obtain ⟨hc1, hf1⟩ := bcell hb1; have hs : w.heap.size + 1 + 1 + 1 < w1.heap.size := (by have hq := hb1.size; ((try simp at hq) <;> omega)); have ga := fun o => hc1 (w.heap.size) o (by first | omega | (simp <;> omega)); have gb := fun o => hc1 (w.heap.size + 1) o (by first | omega | (simp <;> omega)); have gc := fun o => hc1 (w.heap.size + 1 + 1) o (by first | omega | (simp <;> omega)); have gd := fun o => hc1 (w.heap.size + 1 + 1 + 1) o (by first | omega | (simp <;> omega)); have hbw : Below w.heap.size w w1 := (by repeat (first | exact Below.refl _ _ | assumption | refine bstep ?_ (by assumption) | refine Below.drew ?_ | refine balloc ?_ _ | refine Below.setCell ?_ (by first | omega | (simp <;> omega)) _)); clear hc1 hf1) | (go_at_call 35; refine (rcross_c _ _ _ _ _ _ _ (by assumption) (by assumption) (by assumption)).mono ?_; rintro e w1 ⟨rfl, hb1⟩; obtain ⟨hc1, hf1⟩ := bcell hb1; have hs : w.heap.size + 1 + 1 + 1 < w1.heap.size := (by have hq := hb1.size; ((try simp at hq) <;> omega)); have ga := fun o => hc1 (w.heap.size) o (by first | omega | (simp <;> omega)); have gb := fun o => hc1 (w.heap.size + 1) o (by first | omega | (simp <;> omega)); have gc := fun o => hc1 (w.heap.size + 1 + 1) o (by first | omega | (simp <;> omega)); have gd := fun o => hc1 (w.heap.size + 1 + 1 + 1) o (by first | omega | (simp <;> omega)); have hbw : Below w.heap.size w w1 := (by repeat (first | exact Below.refl _ _ | assumption | refine bstep ?_ (by assumption) | refine Below.drew ?_ | refine balloc ?_ _ | refine Below.setCell ?_ (by first | omega | (simp <;> omega)) _)); clear hc1 hf1) | (go_at_call 34; refine (rsign_t _ _ _ _ _ _ _).mono ?_; rintro e w1 ⟨rfl, rfl⟩))
          go_wp2_with fail
          go_region_held3 (fun w' => w'.cell? ⟨w.heap.size, 0, none⟩ = some (.int .i64 a1) ∧ w'.cell? ⟨w.heap.size, 1, none⟩ = some (.int .i64 a2) ∧ w'.cell? ⟨w.heap.size + 1, 0, none⟩ = some (.int .i64 b1) ∧ w'.cell? ⟨w.heap.size + 1, 1, none⟩ = some (.int .i64 b2) ∧ w'.cell? ⟨w.heap.size + 1 + 1, 0, none⟩ = some (.int .i64 c1) ∧ w'.cell? ⟨w.heap.size + 1 + 1, 1, none⟩ = some (.int .i64 c2) ∧ w'.cell? ⟨w.heap.size + 1 + 1 + 1, 0, none⟩ = some (.int .i64 d1) ∧ w'.cell? ⟨w.heap.size + 1 + 1 + 1, 1, none⟩ = some (.int .i64 d2)) (first | (go_keep; done) | ((repeat' apply And.intro) <;> go_simp))
            (first | (go_at_call 36; refine (minus_c _ _ _ _ _ (by assumption) (by assumption)).mono ?_; rintro e w1 ⟨rfl, hb1⟩; obtain ⟨hc1, hf1⟩ := bcell hb1; have hs : w.heap.size + 1 + 1 + 1 < w1.heap.size := (by have hq := hb1.size; ((try simp at hq) <;> omega)); have ga := fun o => hc1 (w.heap.size) o (by first | omega | (simp <;> omega)); have gb := fun o => hc1 (w.heap.size + 1) o (by first | omega | (simp <;> omega)); have gc := fun o => hc1 (w.heap.size + 1 + 1) o (by first | omega | (simp <;> omega)); have gd := fun o => hc1 (w.heap.size + 1 + 1 + 1) o (by first | omega | (simp <;> omega)); have hbw : Below w.heap.size w w1 := (by repeat (first | exact Below.refl _ _ | assumption | refine bstep ?_ (by assumption) | refine Below.drew ?_ | refine balloc ?_ _ | refine Below.setCell ?_ (by first | omega | (simp <;> omega)) _)); clear hc1 hf1) | (go_at_call 35; refine (rcross_c _ _ _ _ _ _ _ (by assumption) (by assumption) (by assumption)).mono ?_; rintro e w1 ⟨rfl, hb1⟩; obtain ⟨hc1, hf1⟩ := bcell hb1; have hs : w.heap.size + 1 + 1 + 1 < w1.heap.size := (by have hq := hb1.size; ((try simp at hq) <;> omega)); have ga := fun o => hc1 (w.heap.size) o (by first | omega | (simp <;> omega)); have gb := fun o => hc1 (w.heap.size + 1) o (by first | omega | (simp <;> omega)); have gc := fun o => hc1 (w.heap.size + 1 + 1) o (by first | omega | (simp <;> omega)); have gd := fun o => hc1 (w.heap.size + 1 + 1 + 1) o (by first | omega | (simp <;> omega)); have hbw : Below w.heap.size w w1 := (by repeat (first | exact Below.refl _ _ | assumption | refine bstep ?_ (by assumption) | refine Below.drew ?_ | refine balloc ?_ _ | refine Below.setCell ?_ (by first | omega | (simp <;> omega)) _)); clear hc1 hf1) | (go_at_call 34; refine (rsign_t _ _ _ _ _ _ _).mono ?_; rintro e w1 ⟨rfl, rfl⟩))
          go_wp2
          all_goals
            go_ret
            refine ret_bool ?_ (by repeat (first | exact Below.refl _ _ | assumption | refine bstep ?_ (by assumption) | refine Below.drew ?_ | refine balloc ?_ _ | refine Below.setCell ?_ (by first | omega | (simp <;> omega)) _))
            unfold meetB anyOn crossB
            rw [q1, q2, q3, q4]
            simp <;> omega
        ·
          go_enter Try.func40, Try.ntmps40
          go_wp2_with fail
          refine (lie_c a1 a2 c1 c2 d1 d2 _ ha hc0 hd).mono ?_
          rintro e w1 ⟨rfl, hbW⟩
          have hc := (bcell hbW).1
          go_wp2_with (first | (go_at_call 38; refine (lie_c _ _ _ _ _ _ _ (by assumption) (by assumption) (by assumption)).mono ?_; rintro e w1 ⟨rfl, hb1⟩; replace hbW := bstep hbW hb1; clear hc; have hc := (bcell hbW).1; clear hb1))
          go_ret
          exact ret_bool (by simp [meetB, anyOn, *]) (by repeat (first | exact Below.refl _ _ | assumption | refine bstep ?_ (by assumption) | refine Below.drew ?_ | refine balloc ?_ _ | refine Below.setCell ?_ (by first | omega | (simp <;> omega)) _))
      ·
        go_enter Try.func40, Try.ntmps40
        go_wp2_with fail
        refine (lie_c a1 a2 c1 c2 d1 d2 _ ha hc0 hd).mono ?_
        rintro e w1 ⟨rfl, hbW⟩
        have hc := (bcell hbW).1
        go_wp2_with (first | (go_at_call 38; refine (lie_c _ _ _ _ _ _ _ (by assumption) (by assumption) (by assumption)).mono ?_; rintro e w1 ⟨rfl, hb1⟩; replace hbW := bstep hbW hb1; clear hc; have hc := (bcell hbW).1; clear hb1))
        go_ret
        exact ret_bool (by simp [meetB, anyOn, *]) (by repeat (first | exact Below.refl _ _ | assumption | refine bstep ?_ (by assumption) | refine Below.drew ?_ | refine balloc ?_ _ | refine Below.setCell ?_ (by first | omega | (simp <;> omega)) _))
    ·
      go_enter Try.func40, Try.ntmps40
      go_wp2_with fail
      refine (lie_c a1 a2 c1 c2 d1 d2 _ ha hc0 hd).mono ?_
      rintro e w1 ⟨rfl, hbW⟩
      have hc := (bcell hbW).1
      go_wp2_with (first | (go_at_call 38; refine (lie_c _ _ _ _ _ _ _ (by assumption) (by assumption) (by assumption)).mono ?_; rintro e w1 ⟨rfl, hb1⟩; replace hbW := bstep hbW hb1; clear hc; have hc := (bcell hbW).1; clear hb1))
      go_ret
      exact ret_bool (by simp [meetB, anyOn, *]) (by repeat (first | exact Below.refl _ _ | assumption | refine bstep ?_ (by assumption) | refine Below.drew ?_ | refine balloc ?_ _ | refine Below.setCell ?_ (by first | omega | (simp <;> omega)) _))
  ·
    go_enter Try.func40, Try.ntmps40
    go_wp2_with fail
    refine (lie_c a1 a2 c1 c2 d1 d2 _ ha hc0 hd).mono ?_
    rintro e w1 ⟨rfl, hbW⟩
    have hc := (bcell hbW).1
    go_wp2_with (first | (go_at_call 38; refine (lie_c _ _ _ _ _ _ _ (by assumption) (by assumption) (by assumption)).mono ?_; rintro e w1 ⟨rfl, hb1⟩; replace hbW := bstep hbW hb1; clear hc; have hc := (bcell hbW).1; clear hb1))
    go_ret
    exact ret_bool (by simp [meetB, anyOn, *]) (by repeat (first | exact Below.refl _ _ | assumption | refine bstep ?_ (by assumption) | refine Below.drew ?_ | refine balloc ?_ _ | refine Below.setCell ?_ (by first | omega | (simp <;> omega)) _))

end Go.Proofs.Ytakhkeipoldpoaa
