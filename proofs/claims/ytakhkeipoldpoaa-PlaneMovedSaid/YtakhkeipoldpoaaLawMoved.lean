/- LawMoved: the law's walk. -/
import Derived.Test.YtakhkeipoldpoaaLawMovedB
import Derived.Test.YtakhkeipoldpoaaLawMovedC
import Derived.Test.YtakhkeipoldpoaaLawMovedD
import Derived.Test.YtakhkeipoldpoaaLawMovedE
namespace Go.Proofs.Ytakhkeipoldpoaa
open Go.RowKit

theorem moved_law (a1 a2 b1 b2 c1 c2 d1 d2 : Int) (r : Int) (v1 v2 : Int) (m : Bool) (w : World) : Calls Try.prog 10 #[(.agg #[.int .i64 a1, .int .i64 a2]), (.agg #[.int .i64 b1, .int .i64 b2]), (.agg #[.int .i64 c1, .int .i64 c2]), (.agg #[.int .i64 d1, .int .i64 d2]), (.int .i64 r), (.agg #[.int .i64 v1, .int .i64 v2]), (.bool m)] w (Ret w (.bool true)) := by
  by_cases h : ok a1 a2 ∧ ok b1 b2 ∧ ok c1 c2 ∧ ok d1 d2 ∧ ok v1 v2
  · obtain ⟨ha, hb, hc, hd, hv⟩ := h
    cases m
    · have i := iso_turn v1 v2
      have hta := fun w => quarter_c a1 a2 v1 v2 w ha hv
      have htb := fun w => quarter_c b1 b2 v1 v2 w hb hv
      have htc := fun w => quarter_c c1 c2 v1 v2 w hc hv
      have htd := fun w => quarter_c d1 d2 v1 v2 w hd hv
      by_cases k : ok (v1 - a2) (v2 + a1) ∧ ok (v1 - b2) (v2 + b1) ∧ ok (v1 - c2) (v2 + c1) ∧ ok (v1 - d2) (v2 + d1)
      · have eT : turn (v1 - a2) (v2 + a1) (v1 - b2) (v2 + b1) (v1 - c2) (v2 + c1) = turn a1 a2 b1 b2 c1 c2 := by
          unfold turn
          have := i.2.1 a1 a2 b1 b2 c1 c2
          simp only at this
          rw [this, Int.one_mul]
        by_cases hr : okd r
        · exact moved_qr a1 a2 b1 b2 c1 c2 d1 d2 v1 v2 r _ _ _ _ _ _ _ _ w ha hb hc hd hv hta htb htc htd k.1 k.2.1 k.2.2.1 k.2.2.2 eT (iso_meet i a1 a2 b1 b2 c1 c2 d1 d2) (iso_on i a1 a2 b1 b2 c1 c2) (iso_sq i a1 a2 b1 b2) (iso_near i a1 a2 b1 b2 c1 c2 r) (iso_close i a1 a2 b1 b2 c1 c2 d1 d2 r) hr
        · exact moved_qn a1 a2 b1 b2 c1 c2 d1 d2 v1 v2 r _ _ _ _ _ _ _ _ w ha hb hc hd hv hta htb htc htd k.1 k.2.1 k.2.2.1 k.2.2.2 eT (iso_meet i a1 a2 b1 b2 c1 c2 d1 d2) (iso_on i a1 a2 b1 b2 c1 c2) (iso_sq i a1 a2 b1 b2) hr
      · exact moved_bad2 a1 a2 b1 b2 c1 c2 d1 d2 v1 v2 false r _ _ _ _ _ _ _ _ w ha hb hc hd hv hta htb htc htd k
    · have i := iso_mirror v1 v2
      have hta := fun w => mirror_c a1 a2 v1 v2 w ha hv
      have htb := fun w => mirror_c b1 b2 v1 v2 w hb hv
      have htc := fun w => mirror_c c1 c2 v1 v2 w hc hv
      have htd := fun w => mirror_c d1 d2 v1 v2 w hd hv
      by_cases k : ok (v1 - a1) (v2 + a2) ∧ ok (v1 - b1) (v2 + b2) ∧ ok (v1 - c1) (v2 + c2) ∧ ok (v1 - d1) (v2 + d2)
      · have eT : turn (v1 - a1) (v2 + a2) (v1 - b1) (v2 + b2) (v1 - c1) (v2 + c2) = - turn a1 a2 b1 b2 c1 c2 := by
          unfold turn
          have := i.2.1 a1 a2 b1 b2 c1 c2
          simp only at this
          rw [this, ← cmp_neg5]
          congr 1
          omega
        by_cases hr : okd r
        · exact moved_mr a1 a2 b1 b2 c1 c2 d1 d2 v1 v2 r _ _ _ _ _ _ _ _ w ha hb hc hd hv hta htb htc htd k.1 k.2.1 k.2.2.1 k.2.2.2 eT (iso_meet i a1 a2 b1 b2 c1 c2 d1 d2) (iso_on i a1 a2 b1 b2 c1 c2) (iso_sq i a1 a2 b1 b2) (iso_near i a1 a2 b1 b2 c1 c2 r) (iso_close i a1 a2 b1 b2 c1 c2 d1 d2 r) hr
        · exact moved_mn a1 a2 b1 b2 c1 c2 d1 d2 v1 v2 r _ _ _ _ _ _ _ _ w ha hb hc hd hv hta htb htc htd k.1 k.2.1 k.2.2.1 k.2.2.2 eT (iso_meet i a1 a2 b1 b2 c1 c2 d1 d2) (iso_on i a1 a2 b1 b2 c1 c2) (iso_sq i a1 a2 b1 b2) hr
      · exact moved_bad2 a1 a2 b1 b2 c1 c2 d1 d2 v1 v2 true r _ _ _ _ _ _ _ _ w ha hb hc hd hv hta htb htc htd k
  · exact moved_bad1 a1 a2 b1 b2 c1 c2 d1 d2 v1 v2 r m w h

end Go.Proofs.Ytakhkeipoldpoaa
