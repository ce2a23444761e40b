/- The statement PlaneTurns: the law's walk, and the row. -/
import Derived.Test.YtakhkeipoldpoaaHeadA
namespace Go.Proofs.Ytakhkeipoldpoaa
open Go.RowKit

theorem cross_rot (a1 a2 b1 b2 c1 c2 : Int) : cross b1 b2 c1 c2 a1 a2 = cross a1 a2 b1 b2 c1 c2 := by
  unfold cross
  simp only [Int.mul_sub, Int.mul_comm]
  omega
theorem cross_swap (a1 a2 b1 b2 c1 c2 : Int) : cross b1 b2 a1 a2 c1 c2 = - cross a1 a2 b1 b2 c1 c2 := by
  unfold cross
  simp only [Int.mul_sub, Int.mul_comm]
  omega
theorem cross_same (a1 a2 c1 c2 : Int) : cross a1 a2 a1 a2 c1 c2 = 0 := by
  unfold cross
  simp
theorem cmp_neg (x : Int) : cmp (-x) 0 = - cmp x 0 := by
  unfold cmp
  repeat' split
  all_goals omega
theorem turn_rot (a1 a2 b1 b2 c1 c2 : Int) : turn b1 b2 c1 c2 a1 a2 = turn a1 a2 b1 b2 c1 c2 := by unfold turn; rw [cross_rot]
theorem turn_swap (a1 a2 b1 b2 c1 c2 : Int) : turn b1 b2 a1 a2 c1 c2 = - turn a1 a2 b1 b2 c1 c2 := by unfold turn; rw [cross_swap, cmp_neg]
theorem turn_same (a1 a2 c1 c2 : Int) : turn a1 a2 a1 a2 c1 c2 = 0 := by unfold turn; rw [cross_same]; decide
theorem turn_bd (a1 a2 b1 b2 c1 c2 : Int) : -1 ≤ turn a1 a2 b1 b2 c1 c2 ∧ turn a1 a2 b1 b2 c1 c2 ≤ 1 := cmp_bd _ _

set_option maxHeartbeats 800000 in
theorem turns_c (a1 a2 b1 b2 c1 c2 : Int) (w : World) : Calls Try.prog 4 #[(.agg #[.int .i64 a1, .int .i64 a2]), (.agg #[.int .i64 b1, .int .i64 b2]), (.agg #[.int .i64 c1, .int .i64 c2])] w (Ret w (.bool true)) := by
  by_cases h : ok a1 a2 ∧ ok b1 b2 ∧ ok c1 c2
  · obtain ⟨ha, hb, hc0⟩ := h
    have e1 := turn_rot a1 a2 b1 b2 c1 c2
    have e2 := turn_swap a1 a2 b1 b2 c1 c2
    have e3 := turn_same a1 a2 c1 c2
    obtain ⟨n1, n2⟩ := turn_bd a1 a2 b1 b2 c1 c2
    go_enter Try.func4, Try.ntmps4
    go_wp2_with fail
    refine (head_c _).mono ?_
    rintro e w1 ⟨rfl, hbW⟩
    have hc := (bcell hbW).1
    go_wp2_with (go_at_call 14; refine Calls.mono (Turn_ok _ _ _ _ _ _ _ ?_ ?_ ?_) ?_; assumption; assumption; assumption; rintro e w1 ⟨rfl, hb1⟩; replace hbW := bstep hbW hb1; clear hc; have hc := (bcell hbW).1; clear hb1)
    go_ret
    exact ret_bool (by simp) (by repeat (first | exact Below.refl _ _ | assumption | refine bstep ?_ (by assumption) | refine Below.drew ?_ | refine balloc ?_ _ | refine Below.setCell ?_ (by first | omega | (simp <;> omega)) _))
  · have i1 : ¬ (ok b1 b2 ∧ ok c1 c2 ∧ ok a1 a2) := fun k => h ⟨k.2.2, k.1, k.2.1⟩
    have i2 : ¬ (ok b1 b2 ∧ ok a1 a2 ∧ ok c1 c2) := fun k => h ⟨k.2.1, k.1, k.2.2⟩
    have h' := Lib.hid h
    have i1' := Lib.hid i1
    have i2' := Lib.hid i2
    clear h i1 i2
    go_enter Try.func4, Try.ntmps4
    go_wp2_with fail
    refine (head_c _).mono ?_
    rintro e w1 ⟨rfl, hbW⟩
    have hc := (bcell hbW).1
    go_wp2_with (go_at_call 14; refine Calls.mono (Turn_no _ _ _ _ _ _ _ ?_) ?_; (first | exact h'.out | exact i1'.out | exact i2'.out); rintro e w1 ⟨rfl, hb1⟩; replace hbW := bstep hbW hb1; clear hc; have hc := (bcell hbW).1; clear hb1)
    go_ret
    exact ret_bool (by simp) (by repeat (first | exact Below.refl _ _ | assumption | refine bstep ?_ (by assumption) | refine Below.drew ?_ | refine balloc ?_ _ | refine Below.setCell ?_ (by first | omega | (simp <;> omega)) _))

end Go.Proofs.Ytakhkeipoldpoaa
