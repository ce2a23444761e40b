/- LawMeets: the law's walk. -/
import Derived.Test.YtakhkeipoldpoaaHeadA
import Derived.Test.YtakhkeipoldpoaaPlaneO
namespace Go.Proofs.Ytakhkeipoldpoaa
open Go.RowKit


set_option maxHeartbeats 1600000 in
theorem meets_c (a1 a2 b1 b2 c1 c2 d1 d2 p1 p2 : Int) (w : World) : Calls Try.prog 5 #[(.agg #[.int .i64 a1, .int .i64 a2]), (.agg #[.int .i64 b1, .int .i64 b2]), (.agg #[.int .i64 c1, .int .i64 c2]), (.agg #[.int .i64 d1, .int .i64 d2]), (.agg #[.int .i64 p1, .int .i64 p2])] w (Ret w (.bool true)) := by
  by_cases h : ok a1 a2 ∧ ok b1 b2 ∧ ok c1 c2 ∧ ok d1 d2
  · obtain ⟨ha, hb, hc0, hd⟩ := h
    have e1 := meet_flip a1 a2 b1 b2 c1 c2 d1 d2
    have e2 := meet_swap a1 a2 b1 b2 c1 c2 d1 d2
    have e3 := close_zero a1 a2 b1 b2 c1 c2 d1 d2
    have e4 := meet_end a1 a2 b1 b2 d1 d2
    have key := meet_of (p1 := p1) (p2 := p2) (a1 := a1) (a2 := a2) (b1 := b1) (b2 := b2) (c1 := c1) (c2 := c2) (d1 := d1) (d2 := d2)
    by_cases hp : ok p1 p2
    · cases q1 : on p1 p2 a1 a2 b1 b2
      · clear key
        go_enter Try.func5, Try.ntmps5
        go_wp2_with fail
        refine (head_c _).mono ?_
        rintro e w1 ⟨rfl, hbW⟩
        have hc := (bcell hbW).1
        go_wp2_with (first
        | (go_at_call 18; refine Calls.mono (Meet_ok _ _ _ _ _ _ _ _ _ ?_ ?_ ?_ ?_) ?_; assumption; assumption; assumption; assumption; rintro e w1 ⟨rfl, hb1⟩; replace hbW := bstep hbW hb1; clear hc; have hc := (bcell hbW).1; clear hb1)
        | (go_at_call 22; refine Calls.mono (Close_ok _ _ _ _ _ _ _ _ _ _ ?_ ?_ ?_ ?_ ?_) ?_; assumption; assumption; assumption; assumption; (first | assumption | (unfold okd; omega)); rintro e w1 ⟨rfl, hb1⟩; replace hbW := bstep hbW hb1; clear hc; have hc := (bcell hbW).1; clear hb1)
        | (go_at_call 16; refine Calls.mono (On_ok _ _ _ _ _ _ _ ?_ ?_ ?_) ?_; assumption; assumption; assumption; rintro e w1 ⟨rfl, hb1⟩; replace hbW := bstep hbW hb1; clear hc; have hc := (bcell hbW).1; clear hb1))
        all_goals
          go_ret
          exact ret_bool (by simp) (by repeat (first | exact Below.refl _ _ | assumption | refine bstep ?_ (by assumption) | refine Below.drew ?_ | refine balloc ?_ _ | refine Below.setCell ?_ (by first | omega | (simp <;> omega)) _))
      · cases q2 : on p1 p2 c1 c2 d1 d2
        · clear key
          go_enter Try.func5, Try.ntmps5
          go_wp2_with fail
          refine (head_c _).mono ?_
          rintro e w1 ⟨rfl, hbW⟩
          have hc := (bcell hbW).1
          go_wp2_with (first
        | (go_at_call 18; refine Calls.mono (Meet_ok _ _ _ _ _ _ _ _ _ ?_ ?_ ?_ ?_) ?_; assumption; assumption; assumption; assumption; rintro e w1 ⟨rfl, hb1⟩; replace hbW := bstep hbW hb1; clear hc; have hc := (bcell hbW).1; clear hb1)
        | (go_at_call 22; refine Calls.mono (Close_ok _ _ _ _ _ _ _ _ _ _ ?_ ?_ ?_ ?_ ?_) ?_; assumption; assumption; assumption; assumption; (first | assumption | (unfold okd; omega)); rintro e w1 ⟨rfl, hb1⟩; replace hbW := bstep hbW hb1; clear hc; have hc := (bcell hbW).1; clear hb1)
        | (go_at_call 16; refine Calls.mono (On_ok _ _ _ _ _ _ _ ?_ ?_ ?_) ?_; assumption; assumption; assumption; rintro e w1 ⟨rfl, hb1⟩; replace hbW := bstep hbW hb1; clear hc; have hc := (bcell hbW).1; clear hb1))
          all_goals
            go_ret
            exact ret_bool (by simp) (by repeat (first | exact Below.refl _ _ | assumption | refine bstep ?_ (by assumption) | refine Below.drew ?_ | refine balloc ?_ _ | refine Below.setCell ?_ (by first | omega | (simp <;> omega)) _))
        · have e5 := key q1 q2
          clear key
          go_enter Try.func5, Try.ntmps5
          go_wp2_with fail
          refine (head_c _).mono ?_
          rintro e w1 ⟨rfl, hbW⟩
          have hc := (bcell hbW).1
          go_wp2_with (first
        | (go_at_call 18; refine Calls.mono (Meet_ok _ _ _ _ _ _ _ _ _ ?_ ?_ ?_ ?_) ?_; assumption; assumption; assumption; assumption; rintro e w1 ⟨rfl, hb1⟩; replace hbW := bstep hbW hb1; clear hc; have hc := (bcell hbW).1; clear hb1)
        | (go_at_call 22; refine Calls.mono (Close_ok _ _ _ _ _ _ _ _ _ _ ?_ ?_ ?_ ?_ ?_) ?_; assumption; assumption; assumption; assumption; (first | assumption | (unfold okd; omega)); rintro e w1 ⟨rfl, hb1⟩; replace hbW := bstep hbW hb1; clear hc; have hc := (bcell hbW).1; clear hb1)
        | (go_at_call 16; refine Calls.mono (On_ok _ _ _ _ _ _ _ ?_ ?_ ?_) ?_; assumption; assumption; assumption; rintro e w1 ⟨rfl, hb1⟩; replace hbW := bstep hbW hb1; clear hc; have hc := (bcell hbW).1; clear hb1))
          all_goals
            go_ret
            exact ret_bool (by simp) (by repeat (first | exact Below.refl _ _ | assumption | refine bstep ?_ (by assumption) | refine Below.drew ?_ | refine balloc ?_ _ | refine Below.setCell ?_ (by first | omega | (simp <;> omega)) _))
    · have n1 : ¬ (ok p1 p2 ∧ ok a1 a2 ∧ ok b1 b2) := fun k => hp k.1
      have n2 : ¬ (ok p1 p2 ∧ ok c1 c2 ∧ ok d1 d2) := fun k => hp k.1
      have n1' := Lib.hid n1
      clear n1
      have n2' := Lib.hid n2
      clear n2
      clear key hp
      go_enter Try.func5, Try.ntmps5
      go_wp2_with fail
      refine (head_c _).mono ?_
      rintro e w1 ⟨rfl, hbW⟩
      have hc := (bcell hbW).1
      go_wp2_with (first
        | (go_at_call 18; refine Calls.mono (Meet_ok _ _ _ _ _ _ _ _ _ ?_ ?_ ?_ ?_) ?_; assumption; assumption; assumption; assumption; rintro e w1 ⟨rfl, hb1⟩; replace hbW := bstep hbW hb1; clear hc; have hc := (bcell hbW).1; clear hb1)
        | (go_at_call 22; refine Calls.mono (Close_ok _ _ _ _ _ _ _ _ _ _ ?_ ?_ ?_ ?_ ?_) ?_; assumption; assumption; assumption; assumption; (first | assumption | (unfold okd; omega)); rintro e w1 ⟨rfl, hb1⟩; replace hbW := bstep hbW hb1; clear hc; have hc := (bcell hbW).1; clear hb1)
        | (go_at_call 16; refine Calls.mono (On_no _ _ _ _ _ _ _ ?_) ?_; (first | exact n1'.out | exact n2'.out); rintro e w1 ⟨rfl, hb1⟩; replace hbW := bstep hbW hb1; clear hc; have hc := (bcell hbW).1; clear hb1))
      all_goals
        go_ret
        exact ret_bool (by simp) (by repeat (first | exact Below.refl _ _ | assumption | refine bstep ?_ (by assumption) | refine Below.drew ?_ | refine balloc ?_ _ | refine Below.setCell ?_ (by first | omega | (simp <;> omega)) _))
  · have h' := Lib.hid h
    clear h
    go_enter Try.func5, Try.ntmps5
    go_wp2_with fail
    refine (head_c _).mono ?_
    rintro e w1 ⟨rfl, hbW⟩
    have hc := (bcell hbW).1
    go_wp2_with (first
        | (go_at_call 18; refine Calls.mono (Meet_no _ _ _ _ _ _ _ _ _ ?_) ?_; (first | exact h'.out); rintro e w1 ⟨rfl, hb1⟩; replace hbW := bstep hbW hb1; clear hc; have hc := (bcell hbW).1; clear hb1))
    all_goals
      go_ret
      exact ret_bool (by simp) (by repeat (first | exact Below.refl _ _ | assumption | refine bstep ?_ (by assumption) | refine Below.drew ?_ | refine balloc ?_ _ | refine Below.setCell ?_ (by first | omega | (simp <;> omega)) _))

end Go.Proofs.Ytakhkeipoldpoaa
