/- LawNear: the law's walk. -/
import Derived.Test.YtakhkeipoldpoaaLawNearA
namespace Go.Proofs.Ytakhkeipoldpoaa
open Go.RowKit


set_option maxRecDepth 100000 in
set_option maxHeartbeats 3200000 in
theorem near2_c (p1 p2 a1 a2 b1 b2 d m q1 q2 : Int) (w : World) (hp : ok p1 p2) (ha : ok a1 a2) (hb : ok b1 b2) (hd : okd d) (hm : ¬ okd m) : Calls Try.prog 6 #[(.agg #[.int .i64 p1, .int .i64 p2]), (.agg #[.int .i64 a1, .int .i64 a2]), (.agg #[.int .i64 b1, .int .i64 b2]), (.int .i64 d), (.int .i64 m), (.agg #[.int .i64 q1, .int .i64 q2])] w (Ret w (.bool true)) := by
  have e1 := near_zero p1 p2 a1 a2 b1 b2
  have hd0 : 0 ≤ d := hd.1
  have n3 : ¬ (ok p1 p2 ∧ ok a1 a2 ∧ ok b1 b2 ∧ okd m) := fun k => hm k.2.2.2
  have n3' := Lib.hid n3
  clear n3
  clear hm
  cases qx : nearB p1 p2 a1 a2 b1 b2 d
  · have qf := apart_of_not qx
    have qy : on p1 p2 a1 a2 b1 b2 = false := by
      cases hh : on p1 p2 a1 a2 b1 b2
      · rfl
      · rw [near_mono (Int.le_refl 0) hd0 (by rw [near_zero]; exact hh)] at qx
        cases qx
    by_cases hq : ok q1 q2
    · cases qo : on q1 q2 a1 a2 b1 b2
      ·
        go_enter Try.func6, Try.ntmps6
        go_wp2_with fail
        refine (head_c _).mono ?_
        rintro e w1 ⟨rfl, hbW⟩
        have hc := (bcell hbW).1
        go_wp2_with (first
        | (go_at_call 20; refine Calls.mono (Near_ok _ _ _ _ _ _ _ _ ?_ ?_ ?_ ?_) ?_; assumption; assumption; assumption; (first | assumption | (unfold okd; omega)); rintro e w1 ⟨rfl, hb1⟩; replace hbW := bstep hbW hb1; clear hc; have hc := (bcell hbW).1; clear hb1)
        | (go_at_call 16; refine Calls.mono (On_ok _ _ _ _ _ _ _ ?_ ?_ ?_) ?_; assumption; assumption; assumption; rintro e w1 ⟨rfl, hb1⟩; replace hbW := bstep hbW hb1; clear hc; have hc := (bcell hbW).1; clear hb1)
        | (go_at_call 24; refine Calls.mono (ApartB_ok _ _ _ _ _ _ _ _ ?_ ?_ ?_ ?_) ?_; assumption; assumption; assumption; (first | assumption | (unfold okd; omega)); rintro e w1 ⟨rfl, hb1⟩; replace hbW := bstep hbW hb1; clear hc; have hc := (bcell hbW).1; clear hb1)
        | (go_at_call 28; refine Calls.mono (Dist_ok _ _ _ _ _ ?_ ?_) ?_; assumption; assumption; rintro e w1 ⟨rfl, hb1⟩; replace hbW := bstep hbW hb1; clear hc; have hc := (bcell hbW).1; clear hb1)
        | (go_at_call 20; refine Calls.mono (Near_no _ _ _ _ _ _ _ _ ?_) ?_; (first | exact n3'.out); rintro e w1 ⟨rfl, hb1⟩; replace hbW := bstep hbW hb1; clear hc; have hc := (bcell hbW).1; clear hb1)
        | (go_at_call 24; refine Calls.mono (ApartB_no _ _ _ _ _ _ _ _ ?_) ?_; (first | exact n3'.out); rintro e w1 ⟨rfl, hb1⟩; replace hbW := bstep hbW hb1; clear hc; have hc := (bcell hbW).1; clear hb1))
        all_goals
          go_ret
          exact ret_bool (by simp) (by repeat (first | exact Below.refl _ _ | assumption | refine bstep ?_ (by assumption) | refine Below.drew ?_ | refine balloc ?_ _ | refine Below.setCell ?_ (by first | omega | (simp <;> omega)) _))

      · have k := far_q qx qo
        have kk : d < up (sq p1 p2 q1 q2) := by omega
        clear k
        go_enter Try.func6, Try.ntmps6
        go_wp2_with fail
        refine (head_c _).mono ?_
        rintro e w1 ⟨rfl, hbW⟩
        have hc := (bcell hbW).1
        go_wp2_with (first
        | (go_at_call 20; refine Calls.mono (Near_ok _ _ _ _ _ _ _ _ ?_ ?_ ?_ ?_) ?_; assumption; assumption; assumption; (first | assumption | (unfold okd; omega)); rintro e w1 ⟨rfl, hb1⟩; replace hbW := bstep hbW hb1; clear hc; have hc := (bcell hbW).1; clear hb1)
        | (go_at_call 16; refine Calls.mono (On_ok _ _ _ _ _ _ _ ?_ ?_ ?_) ?_; assumption; assumption; assumption; rintro e w1 ⟨rfl, hb1⟩; replace hbW := bstep hbW hb1; clear hc; have hc := (bcell hbW).1; clear hb1)
        | (go_at_call 24; refine Calls.mono (ApartB_ok _ _ _ _ _ _ _ _ ?_ ?_ ?_ ?_) ?_; assumption; assumption; assumption; (first | assumption | (unfold okd; omega)); rintro e w1 ⟨rfl, hb1⟩; replace hbW := bstep hbW hb1; clear hc; have hc := (bcell hbW).1; clear hb1)
        | (go_at_call 28; refine Calls.mono (Dist_ok _ _ _ _ _ ?_ ?_) ?_; assumption; assumption; rintro e w1 ⟨rfl, hb1⟩; replace hbW := bstep hbW hb1; clear hc; have hc := (bcell hbW).1; clear hb1)
        | (go_at_call 20; refine Calls.mono (Near_no _ _ _ _ _ _ _ _ ?_) ?_; (first | exact n3'.out); rintro e w1 ⟨rfl, hb1⟩; replace hbW := bstep hbW hb1; clear hc; have hc := (bcell hbW).1; clear hb1)
        | (go_at_call 24; refine Calls.mono (ApartB_no _ _ _ _ _ _ _ _ ?_) ?_; (first | exact n3'.out); rintro e w1 ⟨rfl, hb1⟩; replace hbW := bstep hbW hb1; clear hc; have hc := (bcell hbW).1; clear hb1))
        all_goals
          go_ret
          exact ret_bool (by simp) (by repeat (first | exact Below.refl _ _ | assumption | refine bstep ?_ (by assumption) | refine Below.drew ?_ | refine balloc ?_ _ | refine Below.setCell ?_ (by first | omega | (simp <;> omega)) _))

    · have n1 : ¬ (ok q1 q2 ∧ ok a1 a2 ∧ ok b1 b2) := fun k => hq k.1
      have n2 : ¬ (ok p1 p2 ∧ ok q1 q2) := fun k => hq k.2
      have n1' := Lib.hid n1
      clear n1
      have n2' := Lib.hid n2
      clear n2
      clear hq
      go_enter Try.func6, Try.ntmps6
      go_wp2_with fail
      refine (head_c _).mono ?_
      rintro e w1 ⟨rfl, hbW⟩
      have hc := (bcell hbW).1
      go_wp2_with (first
        | (go_at_call 20; refine Calls.mono (Near_ok _ _ _ _ _ _ _ _ ?_ ?_ ?_ ?_) ?_; assumption; assumption; assumption; (first | assumption | (unfold okd; omega)); rintro e w1 ⟨rfl, hb1⟩; replace hbW := bstep hbW hb1; clear hc; have hc := (bcell hbW).1; clear hb1)
        | (go_at_call 24; refine Calls.mono (ApartB_ok _ _ _ _ _ _ _ _ ?_ ?_ ?_ ?_) ?_; assumption; assumption; assumption; (first | assumption | (unfold okd; omega)); rintro e w1 ⟨rfl, hb1⟩; replace hbW := bstep hbW hb1; clear hc; have hc := (bcell hbW).1; clear hb1)
        | (go_at_call 16; refine Calls.mono (On_ok _ _ _ _ _ _ _ ?_ ?_ ?_) ?_; assumption; assumption; assumption; rintro e w1 ⟨rfl, hb1⟩; replace hbW := bstep hbW hb1; clear hc; have hc := (bcell hbW).1; clear hb1)
        | (go_at_call 16; refine Calls.mono (On_no _ _ _ _ _ _ _ ?_) ?_; (first | exact n1'.out | exact n2'.out | exact n3'.out); rintro e w1 ⟨rfl, hb1⟩; replace hbW := bstep hbW hb1; clear hc; have hc := (bcell hbW).1; clear hb1)
        | (go_at_call 28; refine Calls.mono (Dist_no _ _ _ _ _ ?_) ?_; (first | exact n1'.out | exact n2'.out | exact n3'.out); rintro e w1 ⟨rfl, hb1⟩; replace hbW := bstep hbW hb1; clear hc; have hc := (bcell hbW).1; clear hb1)
        | (go_at_call 20; refine Calls.mono (Near_no _ _ _ _ _ _ _ _ ?_) ?_; (first | exact n1'.out | exact n2'.out | exact n3'.out); rintro e w1 ⟨rfl, hb1⟩; replace hbW := bstep hbW hb1; clear hc; have hc := (bcell hbW).1; clear hb1)
        | (go_at_call 24; refine Calls.mono (ApartB_no _ _ _ _ _ _ _ _ ?_) ?_; (first | exact n1'.out | exact n2'.out | exact n3'.out); rintro e w1 ⟨rfl, hb1⟩; replace hbW := bstep hbW hb1; clear hc; have hc := (bcell hbW).1; clear hb1))
      all_goals
        go_ret
        exact ret_bool (by simp) (by repeat (first | exact Below.refl _ _ | assumption | refine bstep ?_ (by assumption) | refine Below.drew ?_ | refine balloc ?_ _ | refine Below.setCell ?_ (by first | omega | (simp <;> omega)) _))

  · by_cases hq : ok q1 q2
    · cases qo : on q1 q2 a1 a2 b1 b2 <;> cases qy : on p1 p2 a1 a2 b1 b2
      all_goals
        go_enter Try.func6, Try.ntmps6
        go_wp2_with fail
        refine (head_c _).mono ?_
        rintro e w1 ⟨rfl, hbW⟩
        have hc := (bcell hbW).1
        go_wp2_with (first
        | (go_at_call 20; refine Calls.mono (Near_ok _ _ _ _ _ _ _ _ ?_ ?_ ?_ ?_) ?_; assumption; assumption; assumption; (first | assumption | (unfold okd; omega)); rintro e w1 ⟨rfl, hb1⟩; replace hbW := bstep hbW hb1; clear hc; have hc := (bcell hbW).1; clear hb1)
        | (go_at_call 16; refine Calls.mono (On_ok _ _ _ _ _ _ _ ?_ ?_ ?_) ?_; assumption; assumption; assumption; rintro e w1 ⟨rfl, hb1⟩; replace hbW := bstep hbW hb1; clear hc; have hc := (bcell hbW).1; clear hb1)
        | (go_at_call 24; refine Calls.mono (ApartB_ok _ _ _ _ _ _ _ _ ?_ ?_ ?_ ?_) ?_; assumption; assumption; assumption; (first | assumption | (unfold okd; omega)); rintro e w1 ⟨rfl, hb1⟩; replace hbW := bstep hbW hb1; clear hc; have hc := (bcell hbW).1; clear hb1)
        | (go_at_call 28; refine Calls.mono (Dist_ok _ _ _ _ _ ?_ ?_) ?_; assumption; assumption; rintro e w1 ⟨rfl, hb1⟩; replace hbW := bstep hbW hb1; clear hc; have hc := (bcell hbW).1; clear hb1)
        | (go_at_call 20; refine Calls.mono (Near_no _ _ _ _ _ _ _ _ ?_) ?_; (first | exact n3'.out); rintro e w1 ⟨rfl, hb1⟩; replace hbW := bstep hbW hb1; clear hc; have hc := (bcell hbW).1; clear hb1)
        | (go_at_call 24; refine Calls.mono (ApartB_no _ _ _ _ _ _ _ _ ?_) ?_; (first | exact n3'.out); rintro e w1 ⟨rfl, hb1⟩; replace hbW := bstep hbW hb1; clear hc; have hc := (bcell hbW).1; clear hb1))
        all_goals
          go_ret
          exact ret_bool (by simp) (by repeat (first | exact Below.refl _ _ | assumption | refine bstep ?_ (by assumption) | refine Below.drew ?_ | refine balloc ?_ _ | refine Below.setCell ?_ (by first | omega | (simp <;> omega)) _))

    · have n1 : ¬ (ok q1 q2 ∧ ok a1 a2 ∧ ok b1 b2) := fun k => hq k.1
      have n2 : ¬ (ok p1 p2 ∧ ok q1 q2) := fun k => hq k.2
      have n1' := Lib.hid n1
      clear n1
      have n2' := Lib.hid n2
      clear n2
      clear hq
      cases qy : on p1 p2 a1 a2 b1 b2
      all_goals
        go_enter Try.func6, Try.ntmps6
        go_wp2_with fail
        refine (head_c _).mono ?_
        rintro e w1 ⟨rfl, hbW⟩
        have hc := (bcell hbW).1
        go_wp2_with (first
        | (go_at_call 20; refine Calls.mono (Near_ok _ _ _ _ _ _ _ _ ?_ ?_ ?_ ?_) ?_; assumption; assumption; assumption; (first | assumption | (unfold okd; omega)); rintro e w1 ⟨rfl, hb1⟩; replace hbW := bstep hbW hb1; clear hc; have hc := (bcell hbW).1; clear hb1)
        | (go_at_call 24; refine Calls.mono (ApartB_ok _ _ _ _ _ _ _ _ ?_ ?_ ?_ ?_) ?_; assumption; assumption; assumption; (first | assumption | (unfold okd; omega)); rintro e w1 ⟨rfl, hb1⟩; replace hbW := bstep hbW hb1; clear hc; have hc := (bcell hbW).1; clear hb1)
        | (go_at_call 16; refine Calls.mono (On_ok _ _ _ _ _ _ _ ?_ ?_ ?_) ?_; assumption; assumption; assumption; rintro e w1 ⟨rfl, hb1⟩; replace hbW := bstep hbW hb1; clear hc; have hc := (bcell hbW).1; clear hb1)
        | (go_at_call 16; refine Calls.mono (On_no _ _ _ _ _ _ _ ?_) ?_; (first | exact n1'.out | exact n2'.out | exact n3'.out); rintro e w1 ⟨rfl, hb1⟩; replace hbW := bstep hbW hb1; clear hc; have hc := (bcell hbW).1; clear hb1)
        | (go_at_call 28; refine Calls.mono (Dist_no _ _ _ _ _ ?_) ?_; (first | exact n1'.out | exact n2'.out | exact n3'.out); rintro e w1 ⟨rfl, hb1⟩; replace hbW := bstep hbW hb1; clear hc; have hc := (bcell hbW).1; clear hb1)
        | (go_at_call 20; refine Calls.mono (Near_no _ _ _ _ _ _ _ _ ?_) ?_; (first | exact n1'.out | exact n2'.out | exact n3'.out); rintro e w1 ⟨rfl, hb1⟩; replace hbW := bstep hbW hb1; clear hc; have hc := (bcell hbW).1; clear hb1)
        | (go_at_call 24; refine Calls.mono (ApartB_no _ _ _ _ _ _ _ _ ?_) ?_; (first | exact n1'.out | exact n2'.out | exact n3'.out); rintro e w1 ⟨rfl, hb1⟩; replace hbW := bstep hbW hb1; clear hc; have hc := (bcell hbW).1; clear hb1))
        all_goals
          go_ret
          exact ret_bool (by simp) (by repeat (first | exact Below.refl _ _ | assumption | refine bstep ?_ (by assumption) | refine Below.drew ?_ | refine balloc ?_ _ | refine Below.setCell ?_ (by first | omega | (simp <;> omega)) _))


set_option maxRecDepth 100000 in
set_option maxHeartbeats 1600000 in
theorem near_law (p1 p2 a1 a2 b1 b2 d m q1 q2 : Int) (w : World) : Calls Try.prog 6 #[(.agg #[.int .i64 p1, .int .i64 p2]), (.agg #[.int .i64 a1, .int .i64 a2]), (.agg #[.int .i64 b1, .int .i64 b2]), (.int .i64 d), (.int .i64 m), (.agg #[.int .i64 q1, .int .i64 q2])] w (Ret w (.bool true)) := by
  by_cases h : ok p1 p2 ∧ ok a1 a2 ∧ ok b1 b2 ∧ okd d
  · by_cases hm : okd m
    · exact near1_c p1 p2 a1 a2 b1 b2 d m q1 q2 w h.1 h.2.1 h.2.2.1 h.2.2.2 hm
    · exact near2_c p1 p2 a1 a2 b1 b2 d m q1 q2 w h.1 h.2.1 h.2.2.1 h.2.2.2 hm
  · have h' := Lib.hid h
    clear h
    go_enter Try.func6, Try.ntmps6
    go_wp2_with fail
    refine (head_c _).mono ?_
    rintro e w1 ⟨rfl, hbW⟩
    have hc := (bcell hbW).1
    go_wp2_with (first
        | (go_at_call 20; refine Calls.mono (Near_no _ _ _ _ _ _ _ _ ?_) ?_; (first | exact h'.out); rintro e w1 ⟨rfl, hb1⟩; replace hbW := bstep hbW hb1; clear hc; have hc := (bcell hbW).1; clear hb1))
    all_goals
      go_ret
      exact ret_bool (by simp) (by repeat (first | exact Below.refl _ _ | assumption | refine bstep ?_ (by assumption) | refine Below.drew ?_ | refine balloc ?_ _ | refine Below.setCell ?_ (by first | omega | (simp <;> omega)) _))

end Go.Proofs.Ytakhkeipoldpoaa
