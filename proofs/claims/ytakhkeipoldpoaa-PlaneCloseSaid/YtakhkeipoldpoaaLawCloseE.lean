/- LawCloseE: the law's walk. -/
import Derived.Test.YtakhkeipoldpoaaLawCloseA
namespace Go.Proofs.Ytakhkeipoldpoaa
open Go.RowKit

set_option maxRecDepth 100000 in
set_option maxHeartbeats 3200000 in
theorem close5_c (a1 a2 b1 b2 c1 c2 d1 d2 r m p1 p2 q1 q2 : Int) (w : World) (ha : ok a1 a2) (hb : ok b1 b2) (hc : ok c1 c2) (hd : ok d1 d2) (hr : okd r) (hm : ¬ okd m) (qx : closeB a1 a2 b1 b2 c1 c2 d1 d2 r = true) : Calls Try.prog 9 #[(.agg #[.int .i64 a1, .int .i64 a2]), (.agg #[.int .i64 b1, .int .i64 b2]), (.agg #[.int .i64 c1, .int .i64 c2]), (.agg #[.int .i64 d1, .int .i64 d2]), (.int .i64 r), (.int .i64 m), (.agg #[.int .i64 p1, .int .i64 p2]), (.agg #[.int .i64 q1, .int .i64 q2])] w (Ret w (.bool true)) := by
  have e1 := close_flip a1 a2 b1 b2 c1 c2 d1 d2 r
  have e2 := close_turn a1 a2 b1 b2 c1 c2 d1 d2 r
  have hr0 : 0 ≤ r := hr.1
  clear hr0
  have n3 : ¬ (ok a1 a2 ∧ ok b1 b2 ∧ ok c1 c2 ∧ ok d1 d2 ∧ okd m) := fun k => hm k.2.2.2.2
  have n3' := Lib.hid n3
  clear n3
  clear hm
  by_cases hp : ok p1 p2
  · by_cases hq : ok q1 q2
    · cases qi : on p1 p2 a1 a2 b1 b2 <;> cases qj : on q1 q2 c1 c2 d1 d2
      all_goals
        go_enter Try.func9, Try.ntmps9
        go_wp2_with fail
        refine (head_c _).mono ?_
        rintro e w1 ⟨rfl, hbW⟩
        have hc := (bcell hbW).1
        go_wp2_with (first
        | (go_at_call 22; refine Calls.mono (Close_ok _ _ _ _ _ _ _ _ _ _ ?_ ?_ ?_ ?_ ?_) ?_; assumption; assumption; assumption; assumption; (first | assumption | (unfold okd; omega)); rintro e w1 ⟨rfl, hb1⟩; replace hbW := bstep hbW hb1; clear hc; have hc := (bcell hbW).1; clear hb1)
        | (go_at_call 16; refine Calls.mono (On_ok _ _ _ _ _ _ _ ?_ ?_ ?_) ?_; assumption; assumption; assumption; rintro e w1 ⟨rfl, hb1⟩; replace hbW := bstep hbW hb1; clear hc; have hc := (bcell hbW).1; clear hb1)
        | (go_at_call 28; refine Calls.mono (Dist_ok _ _ _ _ _ ?_ ?_) ?_; assumption; assumption; rintro e w1 ⟨rfl, hb1⟩; replace hbW := bstep hbW hb1; clear hc; have hc := (bcell hbW).1; clear hb1)
        | (go_at_call 22; refine Calls.mono (Close_no _ _ _ _ _ _ _ _ _ _ ?_) ?_; (first | exact n3'.out); rintro e w1 ⟨rfl, hb1⟩; replace hbW := bstep hbW hb1; clear hc; have hc := (bcell hbW).1; clear hb1))
        all_goals
          go_ret
          exact ret_bool (by simp) (by repeat (first | exact Below.refl _ _ | assumption | refine bstep ?_ (by assumption) | refine Below.drew ?_ | refine balloc ?_ _ | refine Below.setCell ?_ (by first | omega | (simp <;> omega)) _))
    · have m1 : ¬ (ok q1 q2 ∧ ok c1 c2 ∧ ok d1 d2) := fun k => hq k.1
      have m3 : ¬ (ok p1 p2 ∧ ok q1 q2) := fun k => hq k.2
      have m1' := Lib.hid m1
      clear m1
      have m3' := Lib.hid m3
      clear m3
      clear hq
      cases qi : on p1 p2 a1 a2 b1 b2
      all_goals
        go_enter Try.func9, Try.ntmps9
        go_wp2_with fail
        refine (head_c _).mono ?_
        rintro e w1 ⟨rfl, hbW⟩
        have hc := (bcell hbW).1
        go_wp2_with (first
        | (go_at_call 22; refine Calls.mono (Close_ok _ _ _ _ _ _ _ _ _ _ ?_ ?_ ?_ ?_ ?_) ?_; assumption; assumption; assumption; assumption; (first | assumption | (unfold okd; omega)); rintro e w1 ⟨rfl, hb1⟩; replace hbW := bstep hbW hb1; clear hc; have hc := (bcell hbW).1; clear hb1)
        | (go_at_call 16; refine Calls.mono (On_ok _ _ _ _ _ _ _ ?_ ?_ ?_) ?_; assumption; assumption; assumption; rintro e w1 ⟨rfl, hb1⟩; replace hbW := bstep hbW hb1; clear hc; have hc := (bcell hbW).1; clear hb1)
        | (go_at_call 16; refine Calls.mono (On_no _ _ _ _ _ _ _ ?_) ?_; (first | exact n3'.out | exact m1'.out | exact m3'.out); rintro e w1 ⟨rfl, hb1⟩; replace hbW := bstep hbW hb1; clear hc; have hc := (bcell hbW).1; clear hb1)
        | (go_at_call 28; refine Calls.mono (Dist_no _ _ _ _ _ ?_) ?_; (first | exact n3'.out | exact m1'.out | exact m3'.out); rintro e w1 ⟨rfl, hb1⟩; replace hbW := bstep hbW hb1; clear hc; have hc := (bcell hbW).1; clear hb1)
        | (go_at_call 22; refine Calls.mono (Close_no _ _ _ _ _ _ _ _ _ _ ?_) ?_; (first | exact n3'.out | exact m1'.out | exact m3'.out); rintro e w1 ⟨rfl, hb1⟩; replace hbW := bstep hbW hb1; clear hc; have hc := (bcell hbW).1; clear hb1))
        all_goals
          go_ret
          exact ret_bool (by simp) (by repeat (first | exact Below.refl _ _ | assumption | refine bstep ?_ (by assumption) | refine Below.drew ?_ | refine balloc ?_ _ | refine Below.setCell ?_ (by first | omega | (simp <;> omega)) _))
  · have m2 : ¬ (ok p1 p2 ∧ ok a1 a2 ∧ ok b1 b2) := fun k => hp k.1
    have m3 : ¬ (ok p1 p2 ∧ ok q1 q2) := fun k => hp k.1
    have m2' := Lib.hid m2
    clear m2
    have m3' := Lib.hid m3
    clear m3
    clear hp
    by_cases hq : ok q1 q2
    · cases qj : on q1 q2 c1 c2 d1 d2
      all_goals
        go_enter Try.func9, Try.ntmps9
        go_wp2_with fail
        refine (head_c _).mono ?_
        rintro e w1 ⟨rfl, hbW⟩
        have hc := (bcell hbW).1
        go_wp2_with (first
        | (go_at_call 22; refine Calls.mono (Close_ok _ _ _ _ _ _ _ _ _ _ ?_ ?_ ?_ ?_ ?_) ?_; assumption; assumption; assumption; assumption; (first | assumption | (unfold okd; omega)); rintro e w1 ⟨rfl, hb1⟩; replace hbW := bstep hbW hb1; clear hc; have hc := (bcell hbW).1; clear hb1)
        | (go_at_call 16; refine Calls.mono (On_ok _ _ _ _ _ _ _ ?_ ?_ ?_) ?_; assumption; assumption; assumption; rintro e w1 ⟨rfl, hb1⟩; replace hbW := bstep hbW hb1; clear hc; have hc := (bcell hbW).1; clear hb1)
        | (go_at_call 16; refine Calls.mono (On_no _ _ _ _ _ _ _ ?_) ?_; (first | exact n3'.out | exact m2'.out | exact m3'.out); rintro e w1 ⟨rfl, hb1⟩; replace hbW := bstep hbW hb1; clear hc; have hc := (bcell hbW).1; clear hb1)
        | (go_at_call 28; refine Calls.mono (Dist_no _ _ _ _ _ ?_) ?_; (first | exact n3'.out | exact m2'.out | exact m3'.out); rintro e w1 ⟨rfl, hb1⟩; replace hbW := bstep hbW hb1; clear hc; have hc := (bcell hbW).1; clear hb1)
        | (go_at_call 22; refine Calls.mono (Close_no _ _ _ _ _ _ _ _ _ _ ?_) ?_; (first | exact n3'.out | exact m2'.out | exact m3'.out); rintro e w1 ⟨rfl, hb1⟩; replace hbW := bstep hbW hb1; clear hc; have hc := (bcell hbW).1; clear hb1))
        all_goals
          go_ret
          exact ret_bool (by simp) (by repeat (first | exact Below.refl _ _ | assumption | refine bstep ?_ (by assumption) | refine Below.drew ?_ | refine balloc ?_ _ | refine Below.setCell ?_ (by first | omega | (simp <;> omega)) _))
    · have m1 : ¬ (ok q1 q2 ∧ ok c1 c2 ∧ ok d1 d2) := fun k => hq k.1
      have m1' := Lib.hid m1
      clear m1
      clear hq
      go_enter Try.func9, Try.ntmps9
      go_wp2_with fail
      refine (head_c _).mono ?_
      rintro e w1 ⟨rfl, hbW⟩
      have hc := (bcell hbW).1
      go_wp2_with (first
        | (go_at_call 22; refine Calls.mono (Close_ok _ _ _ _ _ _ _ _ _ _ ?_ ?_ ?_ ?_ ?_) ?_; assumption; assumption; assumption; assumption; (first | assumption | (unfold okd; omega)); rintro e w1 ⟨rfl, hb1⟩; replace hbW := bstep hbW hb1; clear hc; have hc := (bcell hbW).1; clear hb1)
        | (go_at_call 16; refine Calls.mono (On_no _ _ _ _ _ _ _ ?_) ?_; (first | exact n3'.out | exact m1'.out | exact m2'.out | exact m3'.out); rintro e w1 ⟨rfl, hb1⟩; replace hbW := bstep hbW hb1; clear hc; have hc := (bcell hbW).1; clear hb1)
        | (go_at_call 28; refine Calls.mono (Dist_no _ _ _ _ _ ?_) ?_; (first | exact n3'.out | exact m1'.out | exact m2'.out | exact m3'.out); rintro e w1 ⟨rfl, hb1⟩; replace hbW := bstep hbW hb1; clear hc; have hc := (bcell hbW).1; clear hb1)
        | (go_at_call 22; refine Calls.mono (Close_no _ _ _ _ _ _ _ _ _ _ ?_) ?_; (first | exact n3'.out | exact m1'.out | exact m2'.out | exact m3'.out); rintro e w1 ⟨rfl, hb1⟩; replace hbW := bstep hbW hb1; clear hc; have hc := (bcell hbW).1; clear hb1))
      all_goals
        go_ret
        exact ret_bool (by simp) (by repeat (first | exact Below.refl _ _ | assumption | refine bstep ?_ (by assumption) | refine Below.drew ?_ | refine balloc ?_ _ | refine Below.setCell ?_ (by first | omega | (simp <;> omega)) _))

end Go.Proofs.Ytakhkeipoldpoaa
