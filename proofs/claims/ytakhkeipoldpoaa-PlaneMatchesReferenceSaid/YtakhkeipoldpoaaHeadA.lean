/- The head of the statements of layer 1: the walk. -/
import Derived.Test.YtakhkeipoldpoaaPlaneI
import Derived.Test.YtakhkeipoldpoaaPlaneS
namespace Go.Proofs.Ytakhkeipoldpoaa
open Go.RowKit

set_option maxHeartbeats 400000 in
theorem at_c (a b : Int) (w : World) : Calls Try.prog 31 #[(.int .i64 a), (.int .i64 b)] w (Ret w (.agg #[(.int .i64 a), (.int .i64 b)])) := by
  go_enter Try.func31, Try.ntmps31
  go_wp2
  exact bodyPost_ret (v := (.agg #[(.int .i64 a), (.int .i64 b)])) (by simp [results, Try.results31, go_sem]) rfl ⟨rfl, (by repeat (first | exact Below.refl _ _ | assumption | refine bstep ?_ (by assumption) | refine Below.drew ?_ | refine balloc ?_ _ | refine Below.setCell ?_ (by first | omega | (simp <;> omega)) _))⟩

theorem rt5 : rt 5 = 2 := rt_eq (by omega) (by omega) (by omega)
theorem up5 : up 5 = 3 := by unfold up; rw [rt5, if_neg (by omega)]; rfl

set_option maxRecDepth 100000 in
set_option maxHeartbeats 1600000 in
theorem head_c (w : World) : Calls Try.prog 11 #[] w (Ret w (.bool true)) := by
  have t1 : turn 0 0 4 0 4 3 = 1 := by decide
  have t2 : on 2 1 0 0 4 2 = true := by decide
  have t3 : meetB 0 0 4 4 0 4 4 0 = true := by decide
  have t4 : meetB 0 0 4 0 5 0 9 0 = false := by decide
  have t5 : nearB 7 4 0 0 4 0 5 = true := by decide
  have t6 : nearB 7 4 0 0 4 0 4 = false := by decide
  have t7 : closeB 0 0 4 0 6 1 6 9 3 = true := by decide
  have t8 : closeB 0 0 4 0 6 1 6 9 2 = false := by decide
  have t9 : rt (sq 0 0 1 2) = 2 := rt5
  have t10 : up (sq 0 0 1 2) = 3 := up5
  have t11 : lieB 3 4 5 0 0 10 = true := by decide
  have t12 : lieB 3 4 5 0 0 9 = false := by decide
  have hbw : Below w.heap.size w w := Below.refl _ _
  go_enter Try.func11, Try.ntmps11
  go_wp2_with (first
    | (go_at_call 31; refine (at_c _ _ _).mono ?_; rintro e w1 ⟨rfl, hb1⟩; replace hbw := bstep hbw hb1; clear hb1)
    | (go_at_call 14; refine Calls.mono (Turn_ok _ _ _ _ _ _ _ ?_ ?_ ?_) ?_; (unfold ok; omega); (unfold ok; omega); (unfold ok; omega); rintro e w1 ⟨rfl, hb1⟩; replace hbw := bstep hbw hb1; clear hb1)
    | (go_at_call 14; refine Calls.mono (Turn_no _ _ _ _ _ _ _ ?_) ?_; (unfold ok; omega); rintro e w1 ⟨rfl, hb1⟩; replace hbw := bstep hbw hb1; clear hb1)
    | (go_at_call 16; refine Calls.mono (On_ok _ _ _ _ _ _ _ ?_ ?_ ?_) ?_; (unfold ok; omega); (unfold ok; omega); (unfold ok; omega); rintro e w1 ⟨rfl, hb1⟩; replace hbw := bstep hbw hb1; clear hb1)
    | (go_at_call 18; refine Calls.mono (Meet_ok _ _ _ _ _ _ _ _ _ ?_ ?_ ?_ ?_) ?_; (unfold ok; omega); (unfold ok; omega); (unfold ok; omega); (unfold ok; omega); rintro e w1 ⟨rfl, hb1⟩; replace hbw := bstep hbw hb1; clear hb1)
    | (go_at_call 20; refine Calls.mono (Near_ok _ _ _ _ _ _ _ _ ?_ ?_ ?_ ?_) ?_; (unfold ok; omega); (unfold ok; omega); (unfold ok; omega); (unfold okd; omega); rintro e w1 ⟨rfl, hb1⟩; replace hbw := bstep hbw hb1; clear hb1)
    | (go_at_call 22; refine Calls.mono (Close_ok _ _ _ _ _ _ _ _ _ _ ?_ ?_ ?_ ?_ ?_) ?_; (unfold ok; omega); (unfold ok; omega); (unfold ok; omega); (unfold ok; omega); (unfold okd; omega); rintro e w1 ⟨rfl, hb1⟩; replace hbw := bstep hbw hb1; clear hb1)
    | (go_at_call 28; refine Calls.mono (Dist_ok _ _ _ _ _ ?_ ?_) ?_; (unfold ok; omega); (unfold ok; omega); rintro e w1 ⟨rfl, hb1⟩; replace hbw := bstep hbw hb1; clear hb1)
    | (go_at_call 26; refine Calls.mono (Lies_ok _ _ _ _ _ _ _ ?_ ?_ ?_ ?_) ?_; (unfold ok; omega); (unfold ok; omega); (unfold okd; omega); (unfold okd; omega); rintro e w1 ⟨rfl, hb1⟩; replace hbw := bstep hbw hb1; clear hb1))
  obtain ⟨g, hg⟩ : ∃ g, g = w1.heap.size := ⟨_, rfl⟩
  obtain ⟨wb, hwb⟩ : ∃ wb, wb = w1.alloc (Obj.cells #[(.int .i64 2), (.int .i64 3)] 36) := ⟨_, rfl⟩
  have e1 : wb.cell? ⟨g, 0, none⟩ = some (.int .i64 2) := by rw [hwb, hg]; go_simp
  have e2 : wb.cell? ⟨g, 1, none⟩ = some (.int .i64 3) := by rw [hwb, hg]; go_simp
  replace hbw : Below w.heap.size w wb := by rw [hwb]; exact balloc hbw _
  rw [← hwb, ← hg]
  clear hwb hg
  go_wp2_with (first
    | (go_at_call 31; refine (at_c _ _ _).mono ?_; rintro e w1 ⟨rfl, hb1⟩; replace hbw := bstep hbw hb1; replace e1 := cell_later hb1 e1; replace e2 := cell_later hb1 e2; clear hb1)
    | (go_at_call 14; refine Calls.mono (Turn_ok _ _ _ _ _ _ _ ?_ ?_ ?_) ?_; (unfold ok; omega); (unfold ok; omega); (unfold ok; omega); rintro e w1 ⟨rfl, hb1⟩; replace hbw := bstep hbw hb1; replace e1 := cell_later hb1 e1; replace e2 := cell_later hb1 e2; clear hb1)
    | (go_at_call 14; refine Calls.mono (Turn_no _ _ _ _ _ _ _ ?_) ?_; (unfold ok; omega); rintro e w1 ⟨rfl, hb1⟩; replace hbw := bstep hbw hb1; replace e1 := cell_later hb1 e1; replace e2 := cell_later hb1 e2; clear hb1)
    | (go_at_call 26; refine Calls.mono (Lies_ok _ _ _ _ _ _ _ ?_ ?_ ?_ ?_) ?_; (unfold ok; omega); (unfold ok; omega); (unfold okd; omega); (unfold okd; omega); rintro e w1 ⟨rfl, hb1⟩; replace hbw := bstep hbw hb1; replace e1 := cell_later hb1 e1; replace e2 := cell_later hb1 e2; clear hb1))
  go_ret
  exact ret_bool (by simp) hbw

end Go.Proofs.Ytakhkeipoldpoaa
