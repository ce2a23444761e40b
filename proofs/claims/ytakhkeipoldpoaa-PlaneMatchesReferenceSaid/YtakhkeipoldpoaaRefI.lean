/- RefI: the law's walk. -/
import Derived.Test.YtakhkeipoldpoaaRefE
import Derived.Test.YtakhkeipoldpoaaRefG
import Derived.Test.YtakhkeipoldpoaaLawNearA
namespace Go.Proofs.Ytakhkeipoldpoaa
open Go.RowKit

set_option maxRecDepth 100000 in
set_option maxHeartbeats 3200000 in
theorem beside_c (a1 a2 b1 b2 c1 c2 d1 d2 : Int) (r : Int) (w : World) (ha : ok a1 a2) (hb : ok b1 b2) (hc0 : ok c1 c2) (hd : ok d1 d2) (hr : okd r) : Calls Try.prog 47 #[(.agg #[.int .i64 a1, .int .i64 a2]), (.agg #[.int .i64 b1, .int .i64 b2]), (.agg #[.int .i64 c1, .int .i64 c2]), (.agg #[.int .i64 d1, .int .i64 d2]), (.int .i64 r)] w (Ret w (.bool (closeB a1 a2 b1 b2 c1 c2 d1 d2 r))) := by
  cases q0 : meetB a1 a2 b1 b2 c1 c2 d1 d2
  · cases q1 : nearB a1 a2 c1 c2 d1 d2 r
    · cases q2 : nearB b1 b2 c1 c2 d1 d2 r
      · cases q3 : nearB c1 c2 a1 a2 b1 b2 r
        · cases q4 : nearB d1 d2 a1 a2 b1 b2 r
          ·
            go_enter Try.func47, Try.ntmps47
            go_wp2_with fail
            refine (rcrosses_c a1 a2 b1 b2 c1 c2 d1 d2 _ ha hb hc0 hd).mono ?_
            rintro e w1 ⟨rfl, hbW⟩
            have hc := (bcell hbW).1
            go_wp2_with (first | (go_at_call 44; refine (rwithin_c _ _ _ _ _ _ _ _ (by assumption) (by assumption) (by assumption) (by assumption)).mono ?_; rintro e w1 ⟨rfl, hb1⟩; replace hbW := bstep hbW hb1; clear hc; have hc := (bcell hbW).1; clear hb1))
            go_ret
            exact ret_bool (by simp [closeB, anyNear, *]) (by repeat (first | exact Below.refl _ _ | assumption | refine bstep ?_ (by assumption) | refine Below.drew ?_ | refine balloc ?_ _ | refine Below.setCell ?_ (by first | omega | (simp <;> omega)) _))
          ·
            go_enter Try.func47, Try.ntmps47
            go_wp2_with fail
            refine (rcrosses_c a1 a2 b1 b2 c1 c2 d1 d2 _ ha hb hc0 hd).mono ?_
            rintro e w1 ⟨rfl, hbW⟩
            have hc := (bcell hbW).1
            go_wp2_with (first | (go_at_call 44; refine (rwithin_c _ _ _ _ _ _ _ _ (by assumption) (by assumption) (by assumption) (by assumption)).mono ?_; rintro e w1 ⟨rfl, hb1⟩; replace hbW := bstep hbW hb1; clear hc; have hc := (bcell hbW).1; clear hb1))
            go_ret
            exact ret_bool (by simp [closeB, anyNear, *]) (by repeat (first | exact Below.refl _ _ | assumption | refine bstep ?_ (by assumption) | refine Below.drew ?_ | refine balloc ?_ _ | refine Below.setCell ?_ (by first | omega | (simp <;> omega)) _))
        ·
          go_enter Try.func47, Try.ntmps47
          go_wp2_with fail
          refine (rcrosses_c a1 a2 b1 b2 c1 c2 d1 d2 _ ha hb hc0 hd).mono ?_
          rintro e w1 ⟨rfl, hbW⟩
          have hc := (bcell hbW).1
          go_wp2_with (first | (go_at_call 44; refine (rwithin_c _ _ _ _ _ _ _ _ (by assumption) (by assumption) (by assumption) (by assumption)).mono ?_; rintro e w1 ⟨rfl, hb1⟩; replace hbW := bstep hbW hb1; clear hc; have hc := (bcell hbW).1; clear hb1))
          go_ret
          exact ret_bool (by simp [closeB, anyNear, *]) (by repeat (first | exact Below.refl _ _ | assumption | refine bstep ?_ (by assumption) | refine Below.drew ?_ | refine balloc ?_ _ | refine Below.setCell ?_ (by first | omega | (simp <;> omega)) _))
      ·
        go_enter Try.func47, Try.ntmps47
        go_wp2_with fail
        refine (rcrosses_c a1 a2 b1 b2 c1 c2 d1 d2 _ ha hb hc0 hd).mono ?_
        rintro e w1 ⟨rfl, hbW⟩
        have hc := (bcell hbW).1
        go_wp2_with (first | (go_at_call 44; refine (rwithin_c _ _ _ _ _ _ _ _ (by assumption) (by assumption) (by assumption) (by assumption)).mono ?_; rintro e w1 ⟨rfl, hb1⟩; replace hbW := bstep hbW hb1; clear hc; have hc := (bcell hbW).1; clear hb1))
        go_ret
        exact ret_bool (by simp [closeB, anyNear, *]) (by repeat (first | exact Below.refl _ _ | assumption | refine bstep ?_ (by assumption) | refine Below.drew ?_ | refine balloc ?_ _ | refine Below.setCell ?_ (by first | omega | (simp <;> omega)) _))
    ·
      go_enter Try.func47, Try.ntmps47
      go_wp2_with fail
      refine (rcrosses_c a1 a2 b1 b2 c1 c2 d1 d2 _ ha hb hc0 hd).mono ?_
      rintro e w1 ⟨rfl, hbW⟩
      have hc := (bcell hbW).1
      go_wp2_with (first | (go_at_call 44; refine (rwithin_c _ _ _ _ _ _ _ _ (by assumption) (by assumption) (by assumption) (by assumption)).mono ?_; rintro e w1 ⟨rfl, hb1⟩; replace hbW := bstep hbW hb1; clear hc; have hc := (bcell hbW).1; clear hb1))
      go_ret
      exact ret_bool (by simp [closeB, anyNear, *]) (by repeat (first | exact Below.refl _ _ | assumption | refine bstep ?_ (by assumption) | refine Below.drew ?_ | refine balloc ?_ _ | refine Below.setCell ?_ (by first | omega | (simp <;> omega)) _))
  ·
    go_enter Try.func47, Try.ntmps47
    go_wp2_with fail
    refine (rcrosses_c a1 a2 b1 b2 c1 c2 d1 d2 _ ha hb hc0 hd).mono ?_
    rintro e w1 ⟨rfl, hbW⟩
    have hc := (bcell hbW).1
    go_wp2_with (first | (go_at_call 44; refine (rwithin_c _ _ _ _ _ _ _ _ (by assumption) (by assumption) (by assumption) (by assumption)).mono ?_; rintro e w1 ⟨rfl, hb1⟩; replace hbW := bstep hbW hb1; clear hc; have hc := (bcell hbW).1; clear hb1))
    go_ret
    exact ret_bool (by simp [closeB, anyNear, *]) (by repeat (first | exact Below.refl _ _ | assumption | refine bstep ?_ (by assumption) | refine Below.drew ?_ | refine balloc ?_ _ | refine Below.setCell ?_ (by first | omega | (simp <;> omega)) _))

set_option maxRecDepth 100000 in
set_option maxHeartbeats 3200000 in
theorem inside_c (p1 p2 k q1 q2 l : Int) (w : World) (hp : ok p1 p2) (hq : ok q1 q2) (hk : okd k) (hl : okd l) : Calls Try.prog 50 #[(.agg #[.int .i64 p1, .int .i64 p2]), (.int .i64 k), (.agg #[.int .i64 q1, .int .i64 q2]), (.int .i64 l)] w (Ret w (.bool (lieB p1 p2 k q1 q2 l))) := by
  obtain ⟨hk1, hk2⟩ := hk
  obtain ⟨hl1, hl2⟩ := hl
  obtain ⟨n1, n2⟩ := mul_bd (a := l - k) (b := l - k) (A := 3000000) (B := 3000000) (by omega) (by omega) (by omega) (by omega)
  by_cases hkl : k ≤ l
  · go_enter Try.func50, Try.ntmps50
    go_wp2_with (first | (go_at_call 52; refine (rsq_c _ _ _ _ _ (by assumption) (by assumption)).mono ?_; rintro e w3 ⟨rfl, hb3⟩))
    go_ret
    exact ret_bool (by simp [lieB, hkl]) (by repeat (first | exact Below.refl _ _ | assumption | refine bstep ?_ (by assumption) | refine Below.drew ?_ | refine balloc ?_ _ | refine Below.setCell ?_ (by first | omega | (simp <;> omega)) _))
  · go_enter Try.func50, Try.ntmps50
    go_wp2
    go_ret
    exact ret_bool (by simp [lieB] <;> omega) (by repeat (first | exact Below.refl _ _ | assumption | refine bstep ?_ (by assumption) | refine Below.drew ?_ | refine balloc ?_ _ | refine Below.setCell ?_ (by first | omega | (simp <;> omega)) _))

end Go.Proofs.Ytakhkeipoldpoaa
