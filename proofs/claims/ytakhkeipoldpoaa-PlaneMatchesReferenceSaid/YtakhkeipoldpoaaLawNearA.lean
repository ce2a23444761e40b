/- LawNearA: the law's walk. -/
import Derived.Test.YtakhkeipoldpoaaHeadA
import Derived.Test.YtakhkeipoldpoaaPlaneN
namespace Go.Proofs.Ytakhkeipoldpoaa
open Go.RowKit


def apartB (p1 p2 a1 a2 b1 b2 d : Int) : Bool := decide (0 ≤ cmpDist p1 p2 a1 a2 b1 b2 d)
theorem ApartB_ok (p1 p2 a1 a2 b1 b2 d : Int) (w : World) (hp : ok p1 p2) (ha : ok a1 a2) (hb : ok b1 b2) (hd : okd d) : Calls Try.prog 24 #[(.agg #[.int .i64 p1, .int .i64 p2]), (.agg #[.int .i64 a1, .int .i64 a2]), (.agg #[.int .i64 b1, .int .i64 b2]), (.int .i64 d)] w (Ret w (.tuple #[(.bool (apartB p1 p2 a1 a2 b1 b2 d)), (.int .i64 0)])) := Apart_ok p1 p2 a1 a2 b1 b2 d w hp ha hb hd
theorem ApartB_no (p1 p2 a1 a2 b1 b2 d : Int) (w : World) (hn : ¬ (ok p1 p2 ∧ ok a1 a2 ∧ ok b1 b2 ∧ okd d)) : Calls Try.prog 24 #[(.agg #[.int .i64 p1, .int .i64 p2]), (.agg #[.int .i64 a1, .int .i64 a2]), (.agg #[.int .i64 b1, .int .i64 b2]), (.int .i64 d)] w (Ret w (.tuple #[(.bool false), (.int .i64 1)])) := Apart_no p1 p2 a1 a2 b1 b2 d w hn

theorem apart_of_not {p1 p2 a1 a2 b1 b2 d : Int} (h : nearB p1 p2 a1 a2 b1 b2 d = false) : apartB p1 p2 a1 a2 b1 b2 d = true := by
  unfold nearB apartB at *
  rw [decide_eq_false_iff_not] at h
  rw [decide_eq_true_eq]
  omega
theorem not_apart {p1 p2 a1 a2 b1 b2 d f : Int} (hd : 0 ≤ d) (hdf : d < f) (h : nearB p1 p2 a1 a2 b1 b2 d = true) : apartB p1 p2 a1 a2 b1 b2 f = false := by
  have hq : d * d < f * f := by
    have := Int.mul_le_mul (a := d) (b := d) (c := f) (d := f) (by omega) (by omega) hd (by omega)
    have h2 : d * d < f * f := by
      have t1 : d * d ≤ d * f := Int.mul_le_mul_of_nonneg_left (by omega) hd
      have t2 : d * f < f * f := Int.mul_lt_mul_of_pos_right hdf (by omega)
      omega
    exact h2
  rw [near_iff] at h
  obtain ⟨g1, g2, g3⟩ := h
  unfold apartB cmpDist
  rw [decide_eq_false_iff_not]
  by_cases k1 : (a1 = b1 ∧ a2 = b2) ∨ dot a1 a2 b1 b2 p1 p2 < 0
  · rw [if_pos k1, cmp_ge]
    have := g1 k1
    omega
  · rw [if_neg k1]
    by_cases k2 : sq a1 a2 b1 b2 < dot a1 a2 b1 b2 p1 p2
    · rw [if_pos k2, cmp_ge]
      have := g2 k1 k2
      omega
    · rw [if_neg k2, cmp_ge]
      have := g3 k1 k2
      have hN := sq_pos a1 a2 b1 b2 (fun k => k1 (.inl k))
      have := Int.mul_lt_mul_of_pos_right hq hN
      omega
theorem up_sq {n : Int} (h : 0 ≤ n) : 0 ≤ up n ∧ n ≤ up n * up n := by
  obtain ⟨a, b, c⟩ := rt_spec h
  unfold up
  split
  · omega
  · exact ⟨by omega, by omega⟩
theorem far_q {p1 p2 q1 q2 a1 a2 b1 b2 d : Int} (h : nearB p1 p2 a1 a2 b1 b2 d = false) (hq : on q1 q2 a1 a2 b1 b2 = true) : d < up (sq p1 p2 q1 q2) ∨ d < 0 := by
  by_cases k : d < up (sq p1 p2 q1 q2) ∨ d < 0
  · exact k
  · exfalso
    obtain ⟨u0, u1⟩ := up_sq (sq_nonneg p1 p2 q1 q2)
    have : up (sq p1 p2 q1 q2) * up (sq p1 p2 q1 q2) ≤ d * d := Int.mul_le_mul (by omega) (by omega) u0 (by omega)
    rw [near_on hq (by omega)] at h
    cases h

set_option maxRecDepth 100000 in
set_option maxHeartbeats 3200000 in
theorem near1_c (p1 p2 a1 a2 b1 b2 d m q1 q2 : Int) (w : World) (hp : ok p1 p2) (ha : ok a1 a2) (hb : ok b1 b2) (hd : okd d) (hm : okd m) : Calls Try.prog 6 #[(.agg #[.int .i64 p1, .int .i64 p2]), (.agg #[.int .i64 a1, .int .i64 a2]), (.agg #[.int .i64 b1, .int .i64 b2]), (.int .i64 d), (.int .i64 m), (.agg #[.int .i64 q1, .int .i64 q2])] w (Ret w (.bool true)) := by
  have e1 := near_zero p1 p2 a1 a2 b1 b2
  have hd0 : 0 ≤ d := hd.1
  cases qx : nearB p1 p2 a1 a2 b1 b2 d
  · have qf := apart_of_not qx
    have qy : on p1 p2 a1 a2 b1 b2 = false := by
      cases hh : on p1 p2 a1 a2 b1 b2
      · rfl
      · rw [near_mono (Int.le_refl 0) hd0 (by rw [near_zero]; exact hh)] at qx
        cases qx
    by_cases hmd : d ≤ m
    · by_cases hq : ok q1 q2
      · cases qo : on q1 q2 a1 a2 b1 b2
        ·
          go_enter Try.func6, Try.ntmps6
          go_wp2_with fail
          refine (head_c _).mono ?_
          rintro e w1 ⟨rfl, hbW⟩
          have hc := (bcell hbW).1
          go_wp2_with (first
        | (go_at_call 20; refine Calls.mono (Near_ok _ _ _ _ _ _ _ _ ?_ ?_ ?_ ?_) ?_; assumption; assumption; assumption; (first | assumption | (unfold okd; omega)); rintro e w1 ⟨rfl, hb1⟩; replace hbW := bstep hbW hb1; clear hc; have hc := (bcell hbW).1; clear hb1)
        | (go_at_call 16; refine Calls.mono (On_ok _ _ _ _ _ _ _ ?_ ?_ ?_) ?_; assumption; assumption; assumption; rintro e w1 ⟨rfl, hb1⟩; replace hbW := bstep hbW hb1; clear hc; have hc := (bcell hbW).1; clear hb1)
        | (go_at_call 24; refine Calls.mono (ApartB_ok _ _ _ _ _ _ _ _ ?_ ?_ ?_ ?_) ?_; assumption; assumption; assumption; (first | assumption | (unfold okd; omega)); rintro e w1 ⟨rfl, hb1⟩; replace hbW := bstep hbW hb1; clear hc; have hc := (bcell hbW).1; clear hb1)
        | (go_at_call 28; refine Calls.mono (Dist_ok _ _ _ _ _ ?_ ?_) ?_; assumption; assumption; rintro e w1 ⟨rfl, hb1⟩; replace hbW := bstep hbW hb1; clear hc; have hc := (bcell hbW).1; clear hb1))
          all_goals
            go_ret
            exact ret_bool (by simp) (by repeat (first | exact Below.refl _ _ | assumption | refine bstep ?_ (by assumption) | refine Below.drew ?_ | refine balloc ?_ _ | refine Below.setCell ?_ (by first | omega | (simp <;> omega)) _))

        · have k := far_q qx qo
          have kk : d < up (sq p1 p2 q1 q2) := by omega
          clear k
          go_enter Try.func6, Try.ntmps6
          go_wp2_with fail
          refine (head_c _).mono ?_
          rintro e w1 ⟨rfl, hbW⟩
          have hc := (bcell hbW).1
          go_wp2_with (first
        | (go_at_call 20; refine Calls.mono (Near_ok _ _ _ _ _ _ _ _ ?_ ?_ ?_ ?_) ?_; assumption; assumption; assumption; (first | assumption | (unfold okd; omega)); rintro e w1 ⟨rfl, hb1⟩; replace hbW := bstep hbW hb1; clear hc; have hc := (bcell hbW).1; clear hb1)
        | (go_at_call 16; refine Calls.mono (On_ok _ _ _ _ _ _ _ ?_ ?_ ?_) ?_; assumption; assumption; assumption; rintro e w1 ⟨rfl, hb1⟩; replace hbW := bstep hbW hb1; clear hc; have hc := (bcell hbW).1; clear hb1)
        | (go_at_call 24; refine Calls.mono (ApartB_ok _ _ _ _ _ _ _ _ ?_ ?_ ?_ ?_) ?_; assumption; assumption; assumption; (first | assumption | (unfold okd; omega)); rintro e w1 ⟨rfl, hb1⟩; replace hbW := bstep hbW hb1; clear hc; have hc := (bcell hbW).1; clear hb1)
        | (go_at_call 28; refine Calls.mono (Dist_ok _ _ _ _ _ ?_ ?_) ?_; assumption; assumption; rintro e w1 ⟨rfl, hb1⟩; replace hbW := bstep hbW hb1; clear hc; have hc := (bcell hbW).1; clear hb1))
          all_goals
            go_ret
            exact ret_bool (by simp) (by repeat (first | exact Below.refl _ _ | assumption | refine bstep ?_ (by assumption) | refine Below.drew ?_ | refine balloc ?_ _ | refine Below.setCell ?_ (by first | omega | (simp <;> omega)) _))

      · have n1 : ¬ (ok q1 q2 ∧ ok a1 a2 ∧ ok b1 b2) := fun k => hq k.1
        have n2 : ¬ (ok p1 p2 ∧ ok q1 q2) := fun k => hq k.2
        have n1' := Lib.hid n1
        clear n1
        have n2' := Lib.hid n2
        clear n2
        clear hq
        go_enter Try.func6, Try.ntmps6
        go_wp2_with fail
        refine (head_c _).mono ?_
        rintro e w1 ⟨rfl, hbW⟩
        have hc := (bcell hbW).1
        go_wp2_with (first
        | (go_at_call 20; refine Calls.mono (Near_ok _ _ _ _ _ _ _ _ ?_ ?_ ?_ ?_) ?_; assumption; assumption; assumption; (first | assumption | (unfold okd; omega)); rintro e w1 ⟨rfl, hb1⟩; replace hbW := bstep hbW hb1; clear hc; have hc := (bcell hbW).1; clear hb1)
        | (go_at_call 24; refine Calls.mono (ApartB_ok _ _ _ _ _ _ _ _ ?_ ?_ ?_ ?_) ?_; assumption; assumption; assumption; (first | assumption | (unfold okd; omega)); rintro e w1 ⟨rfl, hb1⟩; replace hbW := bstep hbW hb1; clear hc; have hc := (bcell hbW).1; clear hb1)
        | (go_at_call 16; refine Calls.mono (On_ok _ _ _ _ _ _ _ ?_ ?_ ?_) ?_; assumption; assumption; assumption; rintro e w1 ⟨rfl, hb1⟩; replace hbW := bstep hbW hb1; clear hc; have hc := (bcell hbW).1; clear hb1)
        | (go_at_call 16; refine Calls.mono (On_no _ _ _ _ _ _ _ ?_) ?_; (first | exact n1'.out | exact n2'.out); rintro e w1 ⟨rfl, hb1⟩; replace hbW := bstep hbW hb1; clear hc; have hc := (bcell hbW).1; clear hb1)
        | (go_at_call 28; refine Calls.mono (Dist_no _ _ _ _ _ ?_) ?_; (first | exact n1'.out | exact n2'.out); rintro e w1 ⟨rfl, hb1⟩; replace hbW := bstep hbW hb1; clear hc; have hc := (bcell hbW).1; clear hb1))
        all_goals
          go_ret
          exact ret_bool (by simp) (by repeat (first | exact Below.refl _ _ | assumption | refine bstep ?_ (by assumption) | refine Below.drew ?_ | refine balloc ?_ _ | refine Below.setCell ?_ (by first | omega | (simp <;> omega)) _))

    · have hmd' : m < d := by omega
      by_cases hq : ok q1 q2
      · cases qo : on q1 q2 a1 a2 b1 b2
        ·
          go_enter Try.func6, Try.ntmps6
          go_wp2_with fail
          refine (head_c _).mono ?_
          rintro e w1 ⟨rfl, hbW⟩
          have hc := (bcell hbW).1
          go_wp2_with (first
        | (go_at_call 20; refine Calls.mono (Near_ok _ _ _ _ _ _ _ _ ?_ ?_ ?_ ?_) ?_; assumption; assumption; assumption; (first | assumption | (unfold okd; omega)); rintro e w1 ⟨rfl, hb1⟩; replace hbW := bstep hbW hb1; clear hc; have hc := (bcell hbW).1; clear hb1)
        | (go_at_call 16; refine Calls.mono (On_ok _ _ _ _ _ _ _ ?_ ?_ ?_) ?_; assumption; assumption; assumption; rintro e w1 ⟨rfl, hb1⟩; replace hbW := bstep hbW hb1; clear hc; have hc := (bcell hbW).1; clear hb1)
        | (go_at_call 24; refine Calls.mono (ApartB_ok _ _ _ _ _ _ _ _ ?_ ?_ ?_ ?_) ?_; assumption; assumption; assumption; (first | assumption | (unfold okd; omega)); rintro e w1 ⟨rfl, hb1⟩; replace hbW := bstep hbW hb1; clear hc; have hc := (bcell hbW).1; clear hb1)
        | (go_at_call 28; refine Calls.mono (Dist_ok _ _ _ _ _ ?_ ?_) ?_; assumption; assumption; rintro e w1 ⟨rfl, hb1⟩; replace hbW := bstep hbW hb1; clear hc; have hc := (bcell hbW).1; clear hb1))
          all_goals
            go_ret
            exact ret_bool (by simp) (by repeat (first | exact Below.refl _ _ | assumption | refine bstep ?_ (by assumption) | refine Below.drew ?_ | refine balloc ?_ _ | refine Below.setCell ?_ (by first | omega | (simp <;> omega)) _))

        · have k := far_q qx qo
          have kk : d < up (sq p1 p2 q1 q2) := by omega
          clear k
          go_enter Try.func6, Try.ntmps6
          go_wp2_with fail
          refine (head_c _).mono ?_
          rintro e w1 ⟨rfl, hbW⟩
          have hc := (bcell hbW).1
          go_wp2_with (first
        | (go_at_call 20; refine Calls.mono (Near_ok _ _ _ _ _ _ _ _ ?_ ?_ ?_ ?_) ?_; assumption; assumption; assumption; (first | assumption | (unfold okd; omega)); rintro e w1 ⟨rfl, hb1⟩; replace hbW := bstep hbW hb1; clear hc; have hc := (bcell hbW).1; clear hb1)
        | (go_at_call 16; refine Calls.mono (On_ok _ _ _ _ _ _ _ ?_ ?_ ?_) ?_; assumption; assumption; assumption; rintro e w1 ⟨rfl, hb1⟩; replace hbW := bstep hbW hb1; clear hc; have hc := (bcell hbW).1; clear hb1)
        | (go_at_call 24; refine Calls.mono (ApartB_ok _ _ _ _ _ _ _ _ ?_ ?_ ?_ ?_) ?_; assumption; assumption; assumption; (first | assumption | (unfold okd; omega)); rintro e w1 ⟨rfl, hb1⟩; replace hbW := bstep hbW hb1; clear hc; have hc := (bcell hbW).1; clear hb1)
        | (go_at_call 28; refine Calls.mono (Dist_ok _ _ _ _ _ ?_ ?_) ?_; assumption; assumption; rintro e w1 ⟨rfl, hb1⟩; replace hbW := bstep hbW hb1; clear hc; have hc := (bcell hbW).1; clear hb1))
          all_goals
            go_ret
            exact ret_bool (by simp) (by repeat (first | exact Below.refl _ _ | assumption | refine bstep ?_ (by assumption) | refine Below.drew ?_ | refine balloc ?_ _ | refine Below.setCell ?_ (by first | omega | (simp <;> omega)) _))

      · have n1 : ¬ (ok q1 q2 ∧ ok a1 a2 ∧ ok b1 b2) := fun k => hq k.1
        have n2 : ¬ (ok p1 p2 ∧ ok q1 q2) := fun k => hq k.2
        have n1' := Lib.hid n1
        clear n1
        have n2' := Lib.hid n2
        clear n2
        clear hq
        go_enter Try.func6, Try.ntmps6
        go_wp2_with fail
        refine (head_c _).mono ?_
        rintro e w1 ⟨rfl, hbW⟩
        have hc := (bcell hbW).1
        go_wp2_with (first
        | (go_at_call 20; refine Calls.mono (Near_ok _ _ _ _ _ _ _ _ ?_ ?_ ?_ ?_) ?_; assumption; assumption; assumption; (first | assumption | (unfold okd; omega)); rintro e w1 ⟨rfl, hb1⟩; replace hbW := bstep hbW hb1; clear hc; have hc := (bcell hbW).1; clear hb1)
        | (go_at_call 24; refine Calls.mono (ApartB_ok _ _ _ _ _ _ _ _ ?_ ?_ ?_ ?_) ?_; assumption; assumption; assumption; (first | assumption | (unfold okd; omega)); rintro e w1 ⟨rfl, hb1⟩; replace hbW := bstep hbW hb1; clear hc; have hc := (bcell hbW).1; clear hb1)
        | (go_at_call 16; refine Calls.mono (On_ok _ _ _ _ _ _ _ ?_ ?_ ?_) ?_; assumption; assumption; assumption; rintro e w1 ⟨rfl, hb1⟩; replace hbW := bstep hbW hb1; clear hc; have hc := (bcell hbW).1; clear hb1)
        | (go_at_call 16; refine Calls.mono (On_no _ _ _ _ _ _ _ ?_) ?_; (first | exact n1'.out | exact n2'.out); rintro e w1 ⟨rfl, hb1⟩; replace hbW := bstep hbW hb1; clear hc; have hc := (bcell hbW).1; clear hb1)
        | (go_at_call 28; refine Calls.mono (Dist_no _ _ _ _ _ ?_) ?_; (first | exact n1'.out | exact n2'.out); rintro e w1 ⟨rfl, hb1⟩; replace hbW := bstep hbW hb1; clear hc; have hc := (bcell hbW).1; clear hb1))
        all_goals
          go_ret
          exact ret_bool (by simp) (by repeat (first | exact Below.refl _ _ | assumption | refine bstep ?_ (by assumption) | refine Below.drew ?_ | refine balloc ?_ _ | refine Below.setCell ?_ (by first | omega | (simp <;> omega)) _))

  · by_cases hmd : d ≤ m
    · have qw : nearB p1 p2 a1 a2 b1 b2 m = true := near_mono hd0 hmd qx
      by_cases hdm : m ≤ d
      · by_cases hq : ok q1 q2
        · cases qo : on q1 q2 a1 a2 b1 b2 <;> cases qy : on p1 p2 a1 a2 b1 b2
          all_goals
            go_enter Try.func6, Try.ntmps6
            go_wp2_with fail
            refine (head_c _).mono ?_
            rintro e w1 ⟨rfl, hbW⟩
            have hc := (bcell hbW).1
            go_wp2_with (first
        | (go_at_call 20; refine Calls.mono (Near_ok _ _ _ _ _ _ _ _ ?_ ?_ ?_ ?_) ?_; assumption; assumption; assumption; (first | assumption | (unfold okd; omega)); rintro e w1 ⟨rfl, hb1⟩; replace hbW := bstep hbW hb1; clear hc; have hc := (bcell hbW).1; clear hb1)
        | (go_at_call 16; refine Calls.mono (On_ok _ _ _ _ _ _ _ ?_ ?_ ?_) ?_; assumption; assumption; assumption; rintro e w1 ⟨rfl, hb1⟩; replace hbW := bstep hbW hb1; clear hc; have hc := (bcell hbW).1; clear hb1)
        | (go_at_call 24; refine Calls.mono (ApartB_ok _ _ _ _ _ _ _ _ ?_ ?_ ?_ ?_) ?_; assumption; assumption; assumption; (first | assumption | (unfold okd; omega)); rintro e w1 ⟨rfl, hb1⟩; replace hbW := bstep hbW hb1; clear hc; have hc := (bcell hbW).1; clear hb1)
        | (go_at_call 28; refine Calls.mono (Dist_ok _ _ _ _ _ ?_ ?_) ?_; assumption; assumption; rintro e w1 ⟨rfl, hb1⟩; replace hbW := bstep hbW hb1; clear hc; have hc := (bcell hbW).1; clear hb1))
            all_goals
              go_ret
              exact ret_bool (by simp) (by repeat (first | exact Below.refl _ _ | assumption | refine bstep ?_ (by assumption) | refine Below.drew ?_ | refine balloc ?_ _ | refine Below.setCell ?_ (by first | omega | (simp <;> omega)) _))

        · have n1 : ¬ (ok q1 q2 ∧ ok a1 a2 ∧ ok b1 b2) := fun k => hq k.1
          have n2 : ¬ (ok p1 p2 ∧ ok q1 q2) := fun k => hq k.2
          have n1' := Lib.hid n1
          clear n1
          have n2' := Lib.hid n2
          clear n2
          clear hq
          cases qy : on p1 p2 a1 a2 b1 b2
          all_goals
            go_enter Try.func6, Try.ntmps6
            go_wp2_with fail
            refine (head_c _).mono ?_
            rintro e w1 ⟨rfl, hbW⟩
            have hc := (bcell hbW).1
            go_wp2_with (first
        | (go_at_call 20; refine Calls.mono (Near_ok _ _ _ _ _ _ _ _ ?_ ?_ ?_ ?_) ?_; assumption; assumption; assumption; (first | assumption | (unfold okd; omega)); rintro e w1 ⟨rfl, hb1⟩; replace hbW := bstep hbW hb1; clear hc; have hc := (bcell hbW).1; clear hb1)
        | (go_at_call 16; refine Calls.mono (On_ok _ _ _ _ _ _ _ ?_ ?_ ?_) ?_; assumption; assumption; assumption; rintro e w1 ⟨rfl, hb1⟩; replace hbW := bstep hbW hb1; clear hc; have hc := (bcell hbW).1; clear hb1)
        | (go_at_call 24; refine Calls.mono (ApartB_ok _ _ _ _ _ _ _ _ ?_ ?_ ?_ ?_) ?_; assumption; assumption; assumption; (first | assumption | (unfold okd; omega)); rintro e w1 ⟨rfl, hb1⟩; replace hbW := bstep hbW hb1; clear hc; have hc := (bcell hbW).1; clear hb1)
        | (go_at_call 16; refine Calls.mono (On_no _ _ _ _ _ _ _ ?_) ?_; (first | exact n1'.out | exact n2'.out); rintro e w1 ⟨rfl, hb1⟩; replace hbW := bstep hbW hb1; clear hc; have hc := (bcell hbW).1; clear hb1)
        | (go_at_call 28; refine Calls.mono (Dist_no _ _ _ _ _ ?_) ?_; (first | exact n1'.out | exact n2'.out); rintro e w1 ⟨rfl, hb1⟩; replace hbW := bstep hbW hb1; clear hc; have hc := (bcell hbW).1; clear hb1))
            all_goals
              go_ret
              exact ret_bool (by simp) (by repeat (first | exact Below.refl _ _ | assumption | refine bstep ?_ (by assumption) | refine Below.drew ?_ | refine balloc ?_ _ | refine Below.setCell ?_ (by first | omega | (simp <;> omega)) _))

      · have hdm' : d < m := by omega
        have qg := not_apart hd0 hdm' qx
        by_cases hq : ok q1 q2
        · cases qo : on q1 q2 a1 a2 b1 b2 <;> cases qy : on p1 p2 a1 a2 b1 b2
          all_goals
            go_enter Try.func6, Try.ntmps6
            go_wp2_with fail
            refine (head_c _).mono ?_
            rintro e w1 ⟨rfl, hbW⟩
            have hc := (bcell hbW).1
            go_wp2_with (first
        | (go_at_call 20; refine Calls.mono (Near_ok _ _ _ _ _ _ _ _ ?_ ?_ ?_ ?_) ?_; assumption; assumption; assumption; (first | assumption | (unfold okd; omega)); rintro e w1 ⟨rfl, hb1⟩; replace hbW := bstep hbW hb1; clear hc; have hc := (bcell hbW).1; clear hb1)
        | (go_at_call 16; refine Calls.mono (On_ok _ _ _ _ _ _ _ ?_ ?_ ?_) ?_; assumption; assumption; assumption; rintro e w1 ⟨rfl, hb1⟩; replace hbW := bstep hbW hb1; clear hc; have hc := (bcell hbW).1; clear hb1)
        | (go_at_call 24; refine Calls.mono (ApartB_ok _ _ _ _ _ _ _ _ ?_ ?_ ?_ ?_) ?_; assumption; assumption; assumption; (first | assumption | (unfold okd; omega)); rintro e w1 ⟨rfl, hb1⟩; replace hbW := bstep hbW hb1; clear hc; have hc := (bcell hbW).1; clear hb1)
        | (go_at_call 28; refine Calls.mono (Dist_ok _ _ _ _ _ ?_ ?_) ?_; assumption; assumption; rintro e w1 ⟨rfl, hb1⟩; replace hbW := bstep hbW hb1; clear hc; have hc := (bcell hbW).1; clear hb1))
            all_goals
              go_ret
              exact ret_bool (by simp) (by repeat (first | exact Below.refl _ _ | assumption | refine bstep ?_ (by assumption) | refine Below.drew ?_ | refine balloc ?_ _ | refine Below.setCell ?_ (by first | omega | (simp <;> omega)) _))

        · have n1 : ¬ (ok q1 q2 ∧ ok a1 a2 ∧ ok b1 b2) := fun k => hq k.1
          have n2 : ¬ (ok p1 p2 ∧ ok q1 q2) := fun k => hq k.2
          have n1' := Lib.hid n1
          clear n1
          have n2' := Lib.hid n2
          clear n2
          clear hq
          cases qy : on p1 p2 a1 a2 b1 b2
          all_goals
            go_enter Try.func6, Try.ntmps6
            go_wp2_with fail
            refine (head_c _).mono ?_
            rintro e w1 ⟨rfl, hbW⟩
            have hc := (bcell hbW).1
            go_wp2_with (first
        | (go_at_call 20; refine Calls.mono (Near_ok _ _ _ _ _ _ _ _ ?_ ?_ ?_ ?_) ?_; assumption; assumption; assumption; (first | assumption | (unfold okd; omega)); rintro e w1 ⟨rfl, hb1⟩; replace hbW := bstep hbW hb1; clear hc; have hc := (bcell hbW).1; clear hb1)
        | (go_at_call 16; refine Calls.mono (On_ok _ _ _ _ _ _ _ ?_ ?_ ?_) ?_; assumption; assumption; assumption; rintro e w1 ⟨rfl, hb1⟩; replace hbW := bstep hbW hb1; clear hc; have hc := (bcell hbW).1; clear hb1)
        | (go_at_call 24; refine Calls.mono (ApartB_ok _ _ _ _ _ _ _ _ ?_ ?_ ?_ ?_) ?_; assumption; assumption; assumption; (first | assumption | (unfold okd; omega)); rintro e w1 ⟨rfl, hb1⟩; replace hbW := bstep hbW hb1; clear hc; have hc := (bcell hbW).1; clear hb1)
        | (go_at_call 16; refine Calls.mono (On_no _ _ _ _ _ _ _ ?_) ?_; (first | exact n1'.out | exact n2'.out); rintro e w1 ⟨rfl, hb1⟩; replace hbW := bstep hbW hb1; clear hc; have hc := (bcell hbW).1; clear hb1)
        | (go_at_call 28; refine Calls.mono (Dist_no _ _ _ _ _ ?_) ?_; (first | exact n1'.out | exact n2'.out); rintro e w1 ⟨rfl, hb1⟩; replace hbW := bstep hbW hb1; clear hc; have hc := (bcell hbW).1; clear hb1))
            all_goals
              go_ret
              exact ret_bool (by simp) (by repeat (first | exact Below.refl _ _ | assumption | refine bstep ?_ (by assumption) | refine Below.drew ?_ | refine balloc ?_ _ | refine Below.setCell ?_ (by first | omega | (simp <;> omega)) _))

    · have hmd' : m < d := by omega
      by_cases hq : ok q1 q2
      · cases qo : on q1 q2 a1 a2 b1 b2 <;> cases qy : on p1 p2 a1 a2 b1 b2
        all_goals
          go_enter Try.func6, Try.ntmps6
          go_wp2_with fail
          refine (head_c _).mono ?_
          rintro e w1 ⟨rfl, hbW⟩
          have hc := (bcell hbW).1
          go_wp2_with (first
        | (go_at_call 20; refine Calls.mono (Near_ok _ _ _ _ _ _ _ _ ?_ ?_ ?_ ?_) ?_; assumption; assumption; assumption; (first | assumption | (unfold okd; omega)); rintro e w1 ⟨rfl, hb1⟩; replace hbW := bstep hbW hb1; clear hc; have hc := (bcell hbW).1; clear hb1)
        | (go_at_call 16; refine Calls.mono (On_ok _ _ _ _ _ _ _ ?_ ?_ ?_) ?_; assumption; assumption; assumption; rintro e w1 ⟨rfl, hb1⟩; replace hbW := bstep hbW hb1; clear hc; have hc := (bcell hbW).1; clear hb1)
        | (go_at_call 24; refine Calls.mono (ApartB_ok _ _ _ _ _ _ _ _ ?_ ?_ ?_ ?_) ?_; assumption; assumption; assumption; (first | assumption | (unfold okd; omega)); rintro e w1 ⟨rfl, hb1⟩; replace hbW := bstep hbW hb1; clear hc; have hc := (bcell hbW).1; clear hb1)
        | (go_at_call 28; refine Calls.mono (Dist_ok _ _ _ _ _ ?_ ?_) ?_; assumption; assumption; rintro e w1 ⟨rfl, hb1⟩; replace hbW := bstep hbW hb1; clear hc; have hc := (bcell hbW).1; clear hb1))
          all_goals
            go_ret
            exact ret_bool (by simp) (by repeat (first | exact Below.refl _ _ | assumption | refine bstep ?_ (by assumption) | refine Below.drew ?_ | refine balloc ?_ _ | refine Below.setCell ?_ (by first | omega | (simp <;> omega)) _))

      · have n1 : ¬ (ok q1 q2 ∧ ok a1 a2 ∧ ok b1 b2) := fun k => hq k.1
        have n2 : ¬ (ok p1 p2 ∧ ok q1 q2) := fun k => hq k.2
        have n1' := Lib.hid n1
        clear n1
        have n2' := Lib.hid n2
        clear n2
        clear hq
        cases qy : on p1 p2 a1 a2 b1 b2
        all_goals
          go_enter Try.func6, Try.ntmps6
          go_wp2_with fail
          refine (head_c _).mono ?_
          rintro e w1 ⟨rfl, hbW⟩
          have hc := (bcell hbW).1
          go_wp2_with (first
        | (go_at_call 20; refine Calls.mono (Near_ok _ _ _ _ _ _ _ _ ?_ ?_ ?_ ?_) ?_; assumption; assumption; assumption; (first | assumption | (unfold okd; omega)); rintro e w1 ⟨rfl, hb1⟩; replace hbW := bstep hbW hb1; clear hc; have hc := (bcell hbW).1; clear hb1)
        | (go_at_call 16; refine Calls.mono (On_ok _ _ _ _ _ _ _ ?_ ?_ ?_) ?_; assumption; assumption; assumption; rintro e w1 ⟨rfl, hb1⟩; replace hbW := bstep hbW hb1; clear hc; have hc := (bcell hbW).1; clear hb1)
        | (go_at_call 24; refine Calls.mono (ApartB_ok _ _ _ _ _ _ _ _ ?_ ?_ ?_ ?_) ?_; assumption; assumption; assumption; (first | assumption | (unfold okd; omega)); rintro e w1 ⟨rfl, hb1⟩; replace hbW := bstep hbW hb1; clear hc; have hc := (bcell hbW).1; clear hb1)
        | (go_at_call 16; refine Calls.mono (On_no _ _ _ _ _ _ _ ?_) ?_; (first | exact n1'.out | exact n2'.out); rintro e w1 ⟨rfl, hb1⟩; replace hbW := bstep hbW hb1; clear hc; have hc := (bcell hbW).1; clear hb1)
        | (go_at_call 28; refine Calls.mono (Dist_no _ _ _ _ _ ?_) ?_; (first | exact n1'.out | exact n2'.out); rintro e w1 ⟨rfl, hb1⟩; replace hbW := bstep hbW hb1; clear hc; have hc := (bcell hbW).1; clear hb1))
          all_goals
            go_ret
            exact ret_bool (by simp) (by repeat (first | exact Below.refl _ _ | assumption | refine bstep ?_ (by assumption) | refine Below.drew ?_ | refine balloc ?_ _ | refine Below.setCell ?_ (by first | omega | (simp <;> omega)) _))


end Go.Proofs.Ytakhkeipoldpoaa
