/- LawClose: the law's walk. -/
import Derived.Test.YtakhkeipoldpoaaLawCloseB
import Derived.Test.YtakhkeipoldpoaaLawCloseC
import Derived.Test.YtakhkeipoldpoaaLawCloseD
import Derived.Test.YtakhkeipoldpoaaLawCloseE
namespace Go.Proofs.Ytakhkeipoldpoaa
open Go.RowKit

set_option maxRecDepth 100000 in
set_option maxHeartbeats 3200000 in
theorem close_law (a1 a2 b1 b2 c1 c2 d1 d2 r m p1 p2 q1 q2 : Int) (w : World) : Calls Try.prog 9 #[(.agg #[.int .i64 a1, .int .i64 a2]), (.agg #[.int .i64 b1, .int .i64 b2]), (.agg #[.int .i64 c1, .int .i64 c2]), (.agg #[.int .i64 d1, .int .i64 d2]), (.int .i64 r), (.int .i64 m), (.agg #[.int .i64 p1, .int .i64 p2]), (.agg #[.int .i64 q1, .int .i64 q2])] w (Ret w (.bool true)) := by
  by_cases h : ok a1 a2 ∧ ok b1 b2 ∧ ok c1 c2 ∧ ok d1 d2 ∧ okd r
  · obtain ⟨ha, hb, hc, hd, hr⟩ := h
    cases qx : closeB a1 a2 b1 b2 c1 c2 d1 d2 r
    · by_cases hm : okd m
      · exact close1_c a1 a2 b1 b2 c1 c2 d1 d2 r m p1 p2 q1 q2 w ha hb hc hd hr hm qx
      · exact close2_c a1 a2 b1 b2 c1 c2 d1 d2 r m p1 p2 q1 q2 w ha hb hc hd hr hm qx
    · by_cases hm : okd m
      · by_cases hrm : r ≤ m
        · exact close3_c a1 a2 b1 b2 c1 c2 d1 d2 r m p1 p2 q1 q2 w ha hb hc hd hr hm hrm qx
        · exact close4_c a1 a2 b1 b2 c1 c2 d1 d2 r m p1 p2 q1 q2 w ha hb hc hd hr hm (by omega) qx
      · exact close5_c a1 a2 b1 b2 c1 c2 d1 d2 r m p1 p2 q1 q2 w ha hb hc hd hr hm qx
  · have h' := Lib.hid h
    clear h
    go_enter Try.func9, Try.ntmps9
    go_wp2_with fail
    refine (head_c _).mono ?_
    rintro e w1 ⟨rfl, hbW⟩
    have hc := (bcell hbW).1
    go_wp2_with (first
        | (go_at_call 22; refine Calls.mono (Close_no _ _ _ _ _ _ _ _ _ _ ?_) ?_; (first | exact h'.out); rintro e w1 ⟨rfl, hb1⟩; replace hbW := bstep hbW hb1; clear hc; have hc := (bcell hbW).1; clear hb1))
    all_goals
      go_ret
      exact ret_bool (by simp) (by repeat (first | exact Below.refl _ _ | assumption | refine bstep ?_ (by assumption) | refine Below.drew ?_ | refine balloc ?_ _ | refine Below.setCell ?_ (by first | omega | (simp <;> omega)) _))

end Go.Proofs.Ytakhkeipoldpoaa
