/- RefL: the law's walk. -/
import Derived.Test.YtakhkeipoldpoaaRefI
namespace Go.Proofs.Ytakhkeipoldpoaa
open Go.RowKit

set_option maxRecDepth 100000 in
set_option maxHeartbeats 3200000 in
theorem rClose_ok (a1 a2 b1 b2 c1 c2 d1 d2 r : Int) (w : World) (ha : ok a1 a2) (hb : ok b1 b2) (hc0 : ok c1 c2) (hd : ok d1 d2) (hr : okd r) : Calls Try.prog 23 #[(.agg #[.int .i64 a1, .int .i64 a2]), (.agg #[.int .i64 b1, .int .i64 b2]), (.agg #[.int .i64 c1, .int .i64 c2]), (.agg #[.int .i64 d1, .int .i64 d2]), (.int .i64 r)] w (Ret w (.tuple #[(.bool (closeB a1 a2 b1 b2 c1 c2 d1 d2 r)), (.int .i64 0)])) := by
  have va : okB a1 a2 = true := okB_of ha
  have vb : okB b1 b2 = true := okB_of hb
  have vc : okB c1 c2 = true := okB_of hc0
  have vd : okB d1 d2 = true := okB_of hd
  have vr : okdB r = true := okdB_iff.2 hr
  go_enter Try.func23, Try.ntmps23
  go_wp2_with fail
  refine Calls.mono (rvalid_c _ _ _) ?_
  rintro e w1 ⟨rfl, hbW⟩
  have hc := (bcell hbW).1
  go_wp2_with (first | (go_at_call 13; refine Calls.mono (rvalid_c _ _ _) ?_; rintro e w1 ⟨rfl, hb1⟩; replace hbW := bstep hbW hb1; clear hc; have hc := (bcell hbW).1; clear hb1) | (go_at_call 43; refine Calls.mono (rrange_c _ _) ?_; rintro e w1 ⟨rfl, rfl⟩) | (go_at_call 47; refine (beside_c _ _ _ _ _ _ _ _ _ _ ha hb hc0 hd hr).mono ?_; rintro e w1 ⟨rfl, hb1⟩; replace hbW := bstep hbW hb1; clear hc; have hc := (bcell hbW).1; clear hb1))
  go_ret2
  exact ⟨rfl, (by repeat (first | exact Below.refl _ _ | assumption | refine bstep ?_ (by assumption) | refine Below.drew ?_ | refine balloc ?_ _ | refine Below.setCell ?_ (by first | omega | (simp <;> omega)) _))⟩

set_option maxRecDepth 100000 in
set_option maxHeartbeats 3200000 in
theorem rClose_no (a1 a2 b1 b2 c1 c2 d1 d2 r : Int) (w : World) (hn : ¬ (ok a1 a2 ∧ ok b1 b2 ∧ ok c1 c2 ∧ ok d1 d2 ∧ okd r)) : Calls Try.prog 23 #[(.agg #[.int .i64 a1, .int .i64 a2]), (.agg #[.int .i64 b1, .int .i64 b2]), (.agg #[.int .i64 c1, .int .i64 c2]), (.agg #[.int .i64 d1, .int .i64 d2]), (.int .i64 r)] w (Ret w (.tuple #[(.bool false), (.int .i64 1)])) := by
  cases va : okB a1 a2
  ·
    clear hn
    go_enter Try.func23, Try.ntmps23
    go_wp2_with fail
    refine Calls.mono (rvalid_c _ _ _) ?_
    rintro e w1 ⟨rfl, hbW⟩
    have hc := (bcell hbW).1
    go_wp2_with (first | (go_at_call 13; refine Calls.mono (rvalid_c _ _ _) ?_; rintro e w1 ⟨rfl, hb1⟩; replace hbW := bstep hbW hb1; clear hc; have hc := (bcell hbW).1; clear hb1) | (go_at_call 43; refine Calls.mono (rrange_c _ _) ?_; rintro e w1 ⟨rfl, rfl⟩))
    go_ret2
    exact ⟨rfl, (by repeat (first | exact Below.refl _ _ | assumption | refine bstep ?_ (by assumption) | refine Below.drew ?_ | refine balloc ?_ _ | refine Below.setCell ?_ (by first | omega | (simp <;> omega)) _))⟩
  ·
    cases vb : okB b1 b2
    ·
      clear hn
      go_enter Try.func23, Try.ntmps23
      go_wp2_with fail
      refine Calls.mono (rvalid_c _ _ _) ?_
      rintro e w1 ⟨rfl, hbW⟩
      have hc := (bcell hbW).1
      go_wp2_with (first | (go_at_call 13; refine Calls.mono (rvalid_c _ _ _) ?_; rintro e w1 ⟨rfl, hb1⟩; replace hbW := bstep hbW hb1; clear hc; have hc := (bcell hbW).1; clear hb1) | (go_at_call 43; refine Calls.mono (rrange_c _ _) ?_; rintro e w1 ⟨rfl, rfl⟩))
      go_ret2
      exact ⟨rfl, (by repeat (first | exact Below.refl _ _ | assumption | refine bstep ?_ (by assumption) | refine Below.drew ?_ | refine balloc ?_ _ | refine Below.setCell ?_ (by first | omega | (simp <;> omega)) _))⟩
    ·
      cases vc : okB c1 c2
      ·
        clear hn
        go_enter Try.func23, Try.ntmps23
        go_wp2_with fail
        refine Calls.mono (rvalid_c _ _ _) ?_
        rintro e w1 ⟨rfl, hbW⟩
        have hc := (bcell hbW).1
        go_wp2_with (first | (go_at_call 13; refine Calls.mono (rvalid_c _ _ _) ?_; rintro e w1 ⟨rfl, hb1⟩; replace hbW := bstep hbW hb1; clear hc; have hc := (bcell hbW).1; clear hb1) | (go_at_call 43; refine Calls.mono (rrange_c _ _) ?_; rintro e w1 ⟨rfl, rfl⟩))
        go_ret2
        exact ⟨rfl, (by repeat (first | exact Below.refl _ _ | assumption | refine bstep ?_ (by assumption) | refine Below.drew ?_ | refine balloc ?_ _ | refine Below.setCell ?_ (by first | omega | (simp <;> omega)) _))⟩
      ·
        cases vd : okB d1 d2
        ·
          clear hn
          go_enter Try.func23, Try.ntmps23
          go_wp2_with fail
          refine Calls.mono (rvalid_c _ _ _) ?_
          rintro e w1 ⟨rfl, hbW⟩
          have hc := (bcell hbW).1
          go_wp2_with (first | (go_at_call 13; refine Calls.mono (rvalid_c _ _ _) ?_; rintro e w1 ⟨rfl, hb1⟩; replace hbW := bstep hbW hb1; clear hc; have hc := (bcell hbW).1; clear hb1) | (go_at_call 43; refine Calls.mono (rrange_c _ _) ?_; rintro e w1 ⟨rfl, rfl⟩))
          go_ret2
          exact ⟨rfl, (by repeat (first | exact Below.refl _ _ | assumption | refine bstep ?_ (by assumption) | refine Below.drew ?_ | refine balloc ?_ _ | refine Below.setCell ?_ (by first | omega | (simp <;> omega)) _))⟩
        ·
          cases vr : okdB r
          ·
            clear hn
            go_enter Try.func23, Try.ntmps23
            go_wp2_with fail
            refine Calls.mono (rvalid_c _ _ _) ?_
            rintro e w1 ⟨rfl, hbW⟩
            have hc := (bcell hbW).1
            go_wp2_with (first | (go_at_call 13; refine Calls.mono (rvalid_c _ _ _) ?_; rintro e w1 ⟨rfl, hb1⟩; replace hbW := bstep hbW hb1; clear hc; have hc := (bcell hbW).1; clear hb1) | (go_at_call 43; refine Calls.mono (rrange_c _ _) ?_; rintro e w1 ⟨rfl, rfl⟩))
            go_ret2
            exact ⟨rfl, (by repeat (first | exact Below.refl _ _ | assumption | refine bstep ?_ (by assumption) | refine Below.drew ?_ | refine balloc ?_ _ | refine Below.setCell ?_ (by first | omega | (simp <;> omega)) _))⟩
          ·
            exact absurd ⟨okB_iff.1 va, okB_iff.1 vb, okB_iff.1 vc, okB_iff.1 vd, okdB_iff.1 vr⟩ hn

set_option maxRecDepth 100000 in
set_option maxHeartbeats 3200000 in
theorem rLies_ok (p1 p2 k q1 q2 l : Int) (w : World) (hp : ok p1 p2) (hk : okd k) (hq : ok q1 q2) (hl : okd l) : Calls Try.prog 27 #[(.agg #[.int .i64 p1, .int .i64 p2]), (.int .i64 k), (.agg #[.int .i64 q1, .int .i64 q2]), (.int .i64 l)] w (Ret w (.tuple #[(.bool (lieB p1 p2 k q1 q2 l)), (.int .i64 0)])) := by
  have vp : okB p1 p2 = true := okB_of hp
  have vk : okdB k = true := okdB_iff.2 hk
  have vq : okB q1 q2 = true := okB_of hq
  have vl : okdB l = true := okdB_iff.2 hl
  go_enter Try.func27, Try.ntmps27
  go_wp2_with fail
  refine Calls.mono (rvalid_c _ _ _) ?_
  rintro e w1 ⟨rfl, hbW⟩
  have hc := (bcell hbW).1
  go_wp2_with (first | (go_at_call 13; refine Calls.mono (rvalid_c _ _ _) ?_; rintro e w1 ⟨rfl, hb1⟩; replace hbW := bstep hbW hb1; clear hc; have hc := (bcell hbW).1; clear hb1) | (go_at_call 43; refine Calls.mono (rrange_c _ _) ?_; rintro e w1 ⟨rfl, rfl⟩) | (go_at_call 50; refine (inside_c _ _ _ _ _ _ _ hp hq hk hl).mono ?_; rintro e w1 ⟨rfl, hb1⟩; replace hbW := bstep hbW hb1; clear hc; have hc := (bcell hbW).1; clear hb1))
  go_ret2
  exact ⟨rfl, (by repeat (first | exact Below.refl _ _ | assumption | refine bstep ?_ (by assumption) | refine Below.drew ?_ | refine balloc ?_ _ | refine Below.setCell ?_ (by first | omega | (simp <;> omega)) _))⟩

set_option maxRecDepth 100000 in
set_option maxHeartbeats 3200000 in
theorem rLies_no (p1 p2 k q1 q2 l : Int) (w : World) (hn : ¬ (ok p1 p2 ∧ okd k ∧ ok q1 q2 ∧ okd l)) : Calls Try.prog 27 #[(.agg #[.int .i64 p1, .int .i64 p2]), (.int .i64 k), (.agg #[.int .i64 q1, .int .i64 q2]), (.int .i64 l)] w (Ret w (.tuple #[(.bool false), (.int .i64 1)])) := by
  cases vp : okB p1 p2
  ·
    clear hn
    go_enter Try.func27, Try.ntmps27
    go_wp2_with fail
    refine Calls.mono (rvalid_c _ _ _) ?_
    rintro e w1 ⟨rfl, hbW⟩
    have hc := (bcell hbW).1
    go_wp2_with (first | (go_at_call 13; refine Calls.mono (rvalid_c _ _ _) ?_; rintro e w1 ⟨rfl, hb1⟩; replace hbW := bstep hbW hb1; clear hc; have hc := (bcell hbW).1; clear hb1) | (go_at_call 43; refine Calls.mono (rrange_c _ _) ?_; rintro e w1 ⟨rfl, rfl⟩))
    go_ret2
    exact ⟨rfl, (by repeat (first | exact Below.refl _ _ | assumption | refine bstep ?_ (by assumption) | refine Below.drew ?_ | refine balloc ?_ _ | refine Below.setCell ?_ (by first | omega | (simp <;> omega)) _))⟩
  ·
    cases vk : okdB k
    ·
      clear hn
      go_enter Try.func27, Try.ntmps27
      go_wp2_with fail
      refine Calls.mono (rvalid_c _ _ _) ?_
      rintro e w1 ⟨rfl, hbW⟩
      have hc := (bcell hbW).1
      go_wp2_with (first | (go_at_call 13; refine Calls.mono (rvalid_c _ _ _) ?_; rintro e w1 ⟨rfl, hb1⟩; replace hbW := bstep hbW hb1; clear hc; have hc := (bcell hbW).1; clear hb1) | (go_at_call 43; refine Calls.mono (rrange_c _ _) ?_; rintro e w1 ⟨rfl, rfl⟩))
      go_ret2
      exact ⟨rfl, (by repeat (first | exact Below.refl _ _ | assumption | refine bstep ?_ (by assumption) | refine Below.drew ?_ | refine balloc ?_ _ | refine Below.setCell ?_ (by first | omega | (simp <;> omega)) _))⟩
    ·
      cases vq : okB q1 q2
      ·
        clear hn
        go_enter Try.func27, Try.ntmps27
        go_wp2_with fail
        refine Calls.mono (rvalid_c _ _ _) ?_
        rintro e w1 ⟨rfl, hbW⟩
        have hc := (bcell hbW).1
        go_wp2_with (first | (go_at_call 13; refine Calls.mono (rvalid_c _ _ _) ?_; rintro e w1 ⟨rfl, hb1⟩; replace hbW := bstep hbW hb1; clear hc; have hc := (bcell hbW).1; clear hb1) | (go_at_call 43; refine Calls.mono (rrange_c _ _) ?_; rintro e w1 ⟨rfl, rfl⟩))
        go_ret2
        exact ⟨rfl, (by repeat (first | exact Below.refl _ _ | assumption | refine bstep ?_ (by assumption) | refine Below.drew ?_ | refine balloc ?_ _ | refine Below.setCell ?_ (by first | omega | (simp <;> omega)) _))⟩
      ·
        cases vl : okdB l
        ·
          clear hn
          go_enter Try.func27, Try.ntmps27
          go_wp2_with fail
          refine Calls.mono (rvalid_c _ _ _) ?_
          rintro e w1 ⟨rfl, hbW⟩
          have hc := (bcell hbW).1
          go_wp2_with (first | (go_at_call 13; refine Calls.mono (rvalid_c _ _ _) ?_; rintro e w1 ⟨rfl, hb1⟩; replace hbW := bstep hbW hb1; clear hc; have hc := (bcell hbW).1; clear hb1) | (go_at_call 43; refine Calls.mono (rrange_c _ _) ?_; rintro e w1 ⟨rfl, rfl⟩))
          go_ret2
          exact ⟨rfl, (by repeat (first | exact Below.refl _ _ | assumption | refine bstep ?_ (by assumption) | refine Below.drew ?_ | refine balloc ?_ _ | refine Below.setCell ?_ (by first | omega | (simp <;> omega)) _))⟩
        ·
          exact absurd ⟨okB_iff.1 vp, okdB_iff.1 vk, okB_iff.1 vq, okdB_iff.1 vl⟩ hn


end Go.Proofs.Ytakhkeipoldpoaa
