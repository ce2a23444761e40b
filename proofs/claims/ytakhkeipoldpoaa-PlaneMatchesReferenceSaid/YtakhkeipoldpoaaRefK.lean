/- RefK: the law's walk. -/
import Derived.Test.YtakhkeipoldpoaaRefE
import Derived.Test.YtakhkeipoldpoaaRefF
namespace Go.Proofs.Ytakhkeipoldpoaa
open Go.RowKit

set_option maxRecDepth 100000 in
set_option maxHeartbeats 3200000 in
theorem rNear_ok (p1 p2 a1 a2 b1 b2 d : Int) (w : World) (hp : ok p1 p2) (ha : ok a1 a2) (hb : ok b1 b2) (hd : okd d) : Calls Try.prog 21 #[(.agg #[.int .i64 p1, .int .i64 p2]), (.agg #[.int .i64 a1, .int .i64 a2]), (.agg #[.int .i64 b1, .int .i64 b2]), (.int .i64 d)] w (Ret w (.tuple #[(.bool (nearB p1 p2 a1 a2 b1 b2 d)), (.int .i64 0)])) := by
  have vp : okB p1 p2 = true := okB_of hp
  have va : okB a1 a2 = true := okB_of ha
  have vb : okB b1 b2 = true := okB_of hb
  have vd : okdB d = true := okdB_iff.2 hd
  go_enter Try.func21, Try.ntmps21
  go_wp2_with fail
  refine Calls.mono (rvalid_c _ _ _) ?_
  rintro e w1 ⟨rfl, hbW⟩
  have hc := (bcell hbW).1
  go_wp2_with (first | (go_at_call 13; refine Calls.mono (rvalid_c _ _ _) ?_; rintro e w1 ⟨rfl, hb1⟩; replace hbW := bstep hbW hb1; clear hc; have hc := (bcell hbW).1; clear hb1) | (go_at_call 43; refine Calls.mono (rrange_c _ _) ?_; rintro e w1 ⟨rfl, rfl⟩) | (go_at_call 44; refine (rwithin_c _ _ _ _ _ _ _ _ hp ha hb hd).mono ?_; rintro e w1 ⟨rfl, hb1⟩; replace hbW := bstep hbW hb1; clear hc; have hc := (bcell hbW).1; clear hb1))
  go_ret2
  exact ⟨rfl, (by repeat (first | exact Below.refl _ _ | assumption | refine bstep ?_ (by assumption) | refine Below.drew ?_ | refine balloc ?_ _ | refine Below.setCell ?_ (by first | omega | (simp <;> omega)) _))⟩

set_option maxRecDepth 100000 in
set_option maxHeartbeats 3200000 in
theorem rNear_no (p1 p2 a1 a2 b1 b2 d : Int) (w : World) (hn : ¬ (ok p1 p2 ∧ ok a1 a2 ∧ ok b1 b2 ∧ okd d)) : Calls Try.prog 21 #[(.agg #[.int .i64 p1, .int .i64 p2]), (.agg #[.int .i64 a1, .int .i64 a2]), (.agg #[.int .i64 b1, .int .i64 b2]), (.int .i64 d)] w (Ret w (.tuple #[(.bool false), (.int .i64 1)])) := by
  cases vp : okB p1 p2
  ·
    clear hn
    go_enter Try.func21, Try.ntmps21
    go_wp2_with fail
    refine Calls.mono (rvalid_c _ _ _) ?_
    rintro e w1 ⟨rfl, hbW⟩
    have hc := (bcell hbW).1
    go_wp2_with (first | (go_at_call 13; refine Calls.mono (rvalid_c _ _ _) ?_; rintro e w1 ⟨rfl, hb1⟩; replace hbW := bstep hbW hb1; clear hc; have hc := (bcell hbW).1; clear hb1) | (go_at_call 43; refine Calls.mono (rrange_c _ _) ?_; rintro e w1 ⟨rfl, rfl⟩))
    go_ret2
    exact ⟨rfl, (by repeat (first | exact Below.refl _ _ | assumption | refine bstep ?_ (by assumption) | refine Below.drew ?_ | refine balloc ?_ _ | refine Below.setCell ?_ (by first | omega | (simp <;> omega)) _))⟩
  ·
    cases va : okB a1 a2
    ·
      clear hn
      go_enter Try.func21, Try.ntmps21
      go_wp2_with fail
      refine Calls.mono (rvalid_c _ _ _) ?_
      rintro e w1 ⟨rfl, hbW⟩
      have hc := (bcell hbW).1
      go_wp2_with (first | (go_at_call 13; refine Calls.mono (rvalid_c _ _ _) ?_; rintro e w1 ⟨rfl, hb1⟩; replace hbW := bstep hbW hb1; clear hc; have hc := (bcell hbW).1; clear hb1) | (go_at_call 43; refine Calls.mono (rrange_c _ _) ?_; rintro e w1 ⟨rfl, rfl⟩))
      go_ret2
      exact ⟨rfl, (by repeat (first | exact Below.refl _ _ | assumption | refine bstep ?_ (by assumption) | refine Below.drew ?_ | refine balloc ?_ _ | refine Below.setCell ?_ (by first | omega | (simp <;> omega)) _))⟩
    ·
      cases vb : okB b1 b2
      ·
        clear hn
        go_enter Try.func21, Try.ntmps21
        go_wp2_with fail
        refine Calls.mono (rvalid_c _ _ _) ?_
        rintro e w1 ⟨rfl, hbW⟩
        have hc := (bcell hbW).1
        go_wp2_with (first | (go_at_call 13; refine Calls.mono (rvalid_c _ _ _) ?_; rintro e w1 ⟨rfl, hb1⟩; replace hbW := bstep hbW hb1; clear hc; have hc := (bcell hbW).1; clear hb1) | (go_at_call 43; refine Calls.mono (rrange_c _ _) ?_; rintro e w1 ⟨rfl, rfl⟩))
        go_ret2
        exact ⟨rfl, (by repeat (first | exact Below.refl _ _ | assumption | refine bstep ?_ (by assumption) | refine Below.drew ?_ | refine balloc ?_ _ | refine Below.setCell ?_ (by first | omega | (simp <;> omega)) _))⟩
      ·
        cases vd : okdB d
        ·
          clear hn
          go_enter Try.func21, Try.ntmps21
          go_wp2_with fail
          refine Calls.mono (rvalid_c _ _ _) ?_
          rintro e w1 ⟨rfl, hbW⟩
          have hc := (bcell hbW).1
          go_wp2_with (first | (go_at_call 13; refine Calls.mono (rvalid_c _ _ _) ?_; rintro e w1 ⟨rfl, hb1⟩; replace hbW := bstep hbW hb1; clear hc; have hc := (bcell hbW).1; clear hb1) | (go_at_call 43; refine Calls.mono (rrange_c _ _) ?_; rintro e w1 ⟨rfl, rfl⟩))
          go_ret2
          exact ⟨rfl, (by repeat (first | exact Below.refl _ _ | assumption | refine bstep ?_ (by assumption) | refine Below.drew ?_ | refine balloc ?_ _ | refine Below.setCell ?_ (by first | omega | (simp <;> omega)) _))⟩
        ·
          exact absurd ⟨okB_iff.1 vp, okB_iff.1 va, okB_iff.1 vb, okdB_iff.1 vd⟩ hn

set_option maxRecDepth 100000 in
set_option maxHeartbeats 3200000 in
theorem rApart_ok (p1 p2 a1 a2 b1 b2 d : Int) (w : World) (hp : ok p1 p2) (ha : ok a1 a2) (hb : ok b1 b2) (hd : okd d) : Calls Try.prog 25 #[(.agg #[.int .i64 p1, .int .i64 p2]), (.agg #[.int .i64 a1, .int .i64 a2]), (.agg #[.int .i64 b1, .int .i64 b2]), (.int .i64 d)] w (Ret w (.tuple #[(.bool (apartB p1 p2 a1 a2 b1 b2 d)), (.int .i64 0)])) := by
  have vp : okB p1 p2 = true := okB_of hp
  have va : okB a1 a2 = true := okB_of ha
  have vb : okB b1 b2 = true := okB_of hb
  have vd : okdB d = true := okdB_iff.2 hd
  go_enter Try.func25, Try.ntmps25
  go_wp2_with fail
  refine Calls.mono (rvalid_c _ _ _) ?_
  rintro e w1 ⟨rfl, hbW⟩
  have hc := (bcell hbW).1
  go_wp2_with (first | (go_at_call 13; refine Calls.mono (rvalid_c _ _ _) ?_; rintro e w1 ⟨rfl, hb1⟩; replace hbW := bstep hbW hb1; clear hc; have hc := (bcell hbW).1; clear hb1) | (go_at_call 43; refine Calls.mono (rrange_c _ _) ?_; rintro e w1 ⟨rfl, rfl⟩) | (go_at_call 48; refine (rbeyond_c _ _ _ _ _ _ _ _ hp ha hb hd).mono ?_; rintro e w1 ⟨rfl, hb1⟩; replace hbW := bstep hbW hb1; clear hc; have hc := (bcell hbW).1; clear hb1))
  go_ret2
  exact ⟨rfl, (by repeat (first | exact Below.refl _ _ | assumption | refine bstep ?_ (by assumption) | refine Below.drew ?_ | refine balloc ?_ _ | refine Below.setCell ?_ (by first | omega | (simp <;> omega)) _))⟩

set_option maxRecDepth 100000 in
set_option maxHeartbeats 3200000 in
theorem rApart_no (p1 p2 a1 a2 b1 b2 d : Int) (w : World) (hn : ¬ (ok p1 p2 ∧ ok a1 a2 ∧ ok b1 b2 ∧ okd d)) : Calls Try.prog 25 #[(.agg #[.int .i64 p1, .int .i64 p2]), (.agg #[.int .i64 a1, .int .i64 a2]), (.agg #[.int .i64 b1, .int .i64 b2]), (.int .i64 d)] w (Ret w (.tuple #[(.bool false), (.int .i64 1)])) := by
  cases vp : okB p1 p2
  ·
    clear hn
    go_enter Try.func25, Try.ntmps25
    go_wp2_with fail
    refine Calls.mono (rvalid_c _ _ _) ?_
    rintro e w1 ⟨rfl, hbW⟩
    have hc := (bcell hbW).1
    go_wp2_with (first | (go_at_call 13; refine Calls.mono (rvalid_c _ _ _) ?_; rintro e w1 ⟨rfl, hb1⟩; replace hbW := bstep hbW hb1; clear hc; have hc := (bcell hbW).1; clear hb1) | (go_at_call 43; refine Calls.mono (rrange_c _ _) ?_; rintro e w1 ⟨rfl, rfl⟩))
    go_ret2
    exact ⟨rfl, (by repeat (first | exact Below.refl _ _ | assumption | refine bstep ?_ (by assumption) | refine Below.drew ?_ | refine balloc ?_ _ | refine Below.setCell ?_ (by first | omega | (simp <;> omega)) _))⟩
  ·
    cases va : okB a1 a2
    ·
      clear hn
      go_enter Try.func25, Try.ntmps25
      go_wp2_with fail
      refine Calls.mono (rvalid_c _ _ _) ?_
      rintro e w1 ⟨rfl, hbW⟩
      have hc := (bcell hbW).1
      go_wp2_with (first | (go_at_call 13; refine Calls.mono (rvalid_c _ _ _) ?_; rintro e w1 ⟨rfl, hb1⟩; replace hbW := bstep hbW hb1; clear hc; have hc := (bcell hbW).1; clear hb1) | (go_at_call 43; refine Calls.mono (rrange_c _ _) ?_; rintro e w1 ⟨rfl, rfl⟩))
      go_ret2
      exact ⟨rfl, (by repeat (first | exact Below.refl _ _ | assumption | refine bstep ?_ (by assumption) | refine Below.drew ?_ | refine balloc ?_ _ | refine Below.setCell ?_ (by first | omega | (simp <;> omega)) _))⟩
    ·
      cases vb : okB b1 b2
      ·
        clear hn
        go_enter Try.func25, Try.ntmps25
        go_wp2_with fail
        refine Calls.mono (rvalid_c _ _ _) ?_
        rintro e w1 ⟨rfl, hbW⟩
        have hc := (bcell hbW).1
        go_wp2_with (first | (go_at_call 13; refine Calls.mono (rvalid_c _ _ _) ?_; rintro e w1 ⟨rfl, hb1⟩; replace hbW := bstep hbW hb1; clear hc; have hc := (bcell hbW).1; clear hb1) | (go_at_call 43; refine Calls.mono (rrange_c _ _) ?_; rintro e w1 ⟨rfl, rfl⟩))
        go_ret2
        exact ⟨rfl, (by repeat (first | exact Below.refl _ _ | assumption | refine bstep ?_ (by assumption) | refine Below.drew ?_ | refine balloc ?_ _ | refine Below.setCell ?_ (by first | omega | (simp <;> omega)) _))⟩
      ·
        cases vd : okdB d
        ·
          clear hn
          go_enter Try.func25, Try.ntmps25
          go_wp2_with fail
          refine Calls.mono (rvalid_c _ _ _) ?_
          rintro e w1 ⟨rfl, hbW⟩
          have hc := (bcell hbW).1
          go_wp2_with (first | (go_at_call 13; refine Calls.mono (rvalid_c _ _ _) ?_; rintro e w1 ⟨rfl, hb1⟩; replace hbW := bstep hbW hb1; clear hc; have hc := (bcell hbW).1; clear hb1) | (go_at_call 43; refine Calls.mono (rrange_c _ _) ?_; rintro e w1 ⟨rfl, rfl⟩))
          go_ret2
          exact ⟨rfl, (by repeat (first | exact Below.refl _ _ | assumption | refine bstep ?_ (by assumption) | refine Below.drew ?_ | refine balloc ?_ _ | refine Below.setCell ?_ (by first | omega | (simp <;> omega)) _))⟩
        ·
          exact absurd ⟨okB_iff.1 vp, okB_iff.1 va, okB_iff.1 vb, okdB_iff.1 vd⟩ hn


end Go.Proofs.Ytakhkeipoldpoaa
