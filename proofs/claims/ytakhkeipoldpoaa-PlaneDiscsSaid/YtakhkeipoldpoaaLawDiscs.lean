/- LawDiscs: the law's walk. -/
import Derived.Test.YtakhkeipoldpoaaHeadA
import Derived.Test.YtakhkeipoldpoaaPlaneN
namespace Go.Proofs.Ytakhkeipoldpoaa
open Go.RowKit


theorem lie_iff (p1 p2 k q1 q2 l : Int) : lieB p1 p2 k q1 q2 l = true ↔ k ≤ l ∧ sq p1 p2 q1 q2 ≤ (l - k) * (l - k) := by
  unfold lieB
  rw [Bool.and_eq_true, decide_eq_true_eq, decide_eq_true_eq]
theorem lie_trans {p1 p2 k q1 q2 l x1 x2 m : Int} (h1 : lieB p1 p2 k q1 q2 l = true) (h2 : lieB q1 q2 l x1 x2 m = true) : lieB p1 p2 k x1 x2 m = true := by
  rw [lie_iff] at *
  have := tri (u := l - k) (v := m - l) (by omega) (by omega) h1.2 h2.2
  have e : l - k + (m - l) = m - k := by omega
  rw [e] at this
  exact ⟨by omega, this⟩
theorem near_pt (x1 x2 p1 p2 k : Int) : nearB x1 x2 p1 p2 p1 p2 k = true ↔ sq p1 p2 x1 x2 ≤ k * k := by
  rw [near_iff]
  exact ⟨fun h => h.1 (.inl ⟨rfl, rfl⟩), fun h => ⟨fun _ => h, fun g => absurd (.inl ⟨rfl, rfl⟩) g, fun g => absurd (.inl ⟨rfl, rfl⟩) g⟩⟩
theorem lie_near {p1 p2 k q1 q2 l x1 x2 : Int} (hk : 0 ≤ k) (h1 : lieB p1 p2 k q1 q2 l = true) (h2 : nearB x1 x2 p1 p2 p1 p2 k = true) : nearB x1 x2 q1 q2 q1 q2 l = true := by
  rw [near_pt] at *
  rw [lie_iff] at h1
  have := tri (u := l - k) (v := k) (by omega) hk (by rw [sq_comm]; exact h1.2) h2
  have e : l - k + k = l := by omega
  rw [e] at this
  exact this
theorem lie_zero (x1 x2 p1 p2 k : Int) (hk : 0 ≤ k) : lieB x1 x2 0 p1 p2 k = nearB x1 x2 p1 p2 p1 p2 k := by
  rw [Bool.eq_iff_iff, near_pt, lie_iff, sq_comm p1 p2 x1 x2]
  have e : k - 0 = k := by omega
  rw [e]
  exact ⟨fun h => h.2, fun h => ⟨hk, h⟩⟩

set_option maxHeartbeats 3200000 in
theorem discs_c (p1 p2 r q1 q2 s x1 x2 t : Int) (w : World) : Calls Try.prog 8 #[(.agg #[.int .i64 p1, .int .i64 p2]), (.int .i64 r), (.agg #[.int .i64 q1, .int .i64 q2]), (.int .i64 s), (.agg #[.int .i64 x1, .int .i64 x2]), (.int .i64 t)] w (Ret w (.bool true)) := by
  by_cases h : ok p1 p2 ∧ ok q1 q2 ∧ okd r ∧ okd s
  · obtain ⟨hp, hq, hr, hs⟩ := h
    have hr0 : 0 ≤ r := hr.1
    have k1 := lie_trans (p1 := p1) (p2 := p2) (k := r) (q1 := q1) (q2 := q2) (l := s) (x1 := x1) (x2 := x2) (m := t)
    have k2 := lie_near (x1 := x1) (x2 := x2) (p1 := p1) (p2 := p2) (k := r) (q1 := q1) (q2 := q2) (l := s) hr0
    have e1 := lie_zero x1 x2 p1 p2 r hr0
    clear hr0
    by_cases hx : ok x1 x2
    · by_cases ht : okd t
      · cases q1' : lieB p1 p2 r q1 q2 s <;> cases q2' : lieB q1 q2 s x1 x2 t <;> cases q3' : nearB x1 x2 p1 p2 p1 p2 r
        all_goals try have e2 := k1 q1' q2'
        all_goals try have e3 := k2 q1' q3'
        all_goals clear k1 k2
        all_goals
          go_enter Try.func8, Try.ntmps8
          go_wp2_with fail
          refine (head_c _).mono ?_
          rintro e w1 ⟨rfl, hbW⟩
          have hc := (bcell hbW).1
          go_wp2_with (first
        | (go_at_call 26; refine Calls.mono (Lies_ok _ _ _ _ _ _ _ ?_ ?_ ?_ ?_) ?_; assumption; assumption; (first | assumption | (unfold okd; omega)); (first | assumption | (unfold okd; omega)); rintro e w1 ⟨rfl, hb1⟩; replace hbW := bstep hbW hb1; clear hc; have hc := (bcell hbW).1; clear hb1)
        | (go_at_call 20; refine Calls.mono (Near_ok _ _ _ _ _ _ _ _ ?_ ?_ ?_ ?_) ?_; assumption; assumption; assumption; (first | assumption | (unfold okd; omega)); rintro e w1 ⟨rfl, hb1⟩; replace hbW := bstep hbW hb1; clear hc; have hc := (bcell hbW).1; clear hb1))
          all_goals
            go_ret
            exact ret_bool (by simp) (by repeat (first | exact Below.refl _ _ | assumption | refine bstep ?_ (by assumption) | refine Below.drew ?_ | refine balloc ?_ _ | refine Below.setCell ?_ (by first | omega | (simp <;> omega)) _))
      · have n1 : ¬ (ok q1 q2 ∧ ok x1 x2 ∧ okd s ∧ okd t) := fun k => ht k.2.2.2
        have n2 : ¬ (ok p1 p2 ∧ ok x1 x2 ∧ okd r ∧ okd t) := fun k => ht k.2.2.2
        have n1' := Lib.hid n1
        clear n1
        have n2' := Lib.hid n2
        clear n2
        clear ht k1
        cases q1' : lieB p1 p2 r q1 q2 s <;> cases q3' : nearB x1 x2 p1 p2 p1 p2 r
        all_goals try have e3 := k2 q1' q3'
        all_goals clear k2
        all_goals
          go_enter Try.func8, Try.ntmps8
          go_wp2_with fail
          refine (head_c _).mono ?_
          rintro e w1 ⟨rfl, hbW⟩
          have hc := (bcell hbW).1
          go_wp2_with (first
        | (go_at_call 26; refine Calls.mono (Lies_ok _ _ _ _ _ _ _ ?_ ?_ ?_ ?_) ?_; assumption; assumption; (first | assumption | (unfold okd; omega)); (first | assumption | (unfold okd; omega)); rintro e w1 ⟨rfl, hb1⟩; replace hbW := bstep hbW hb1; clear hc; have hc := (bcell hbW).1; clear hb1)
        | (go_at_call 20; refine Calls.mono (Near_ok _ _ _ _ _ _ _ _ ?_ ?_ ?_ ?_) ?_; assumption; assumption; assumption; (first | assumption | (unfold okd; omega)); rintro e w1 ⟨rfl, hb1⟩; replace hbW := bstep hbW hb1; clear hc; have hc := (bcell hbW).1; clear hb1)
        | (go_at_call 26; refine Calls.mono (Lies_no _ _ _ _ _ _ _ ?_) ?_; (first | exact n1'.out | exact n2'.out); rintro e w1 ⟨rfl, hb1⟩; replace hbW := bstep hbW hb1; clear hc; have hc := (bcell hbW).1; clear hb1))
          all_goals
            go_ret
            exact ret_bool (by simp) (by repeat (first | exact Below.refl _ _ | assumption | refine bstep ?_ (by assumption) | refine Below.drew ?_ | refine balloc ?_ _ | refine Below.setCell ?_ (by first | omega | (simp <;> omega)) _))
    · have n1 : ¬ (ok q1 q2 ∧ ok x1 x2 ∧ okd s ∧ okd t) := fun k => hx k.2.1
      have n2 : ¬ (ok p1 p2 ∧ ok x1 x2 ∧ okd r ∧ okd t) := fun k => hx k.2.1
      have n3 : ¬ (ok x1 x2 ∧ ok p1 p2 ∧ ok p1 p2 ∧ okd r) := fun k => hx k.1
      have n4 : ¬ (ok x1 x2 ∧ ok q1 q2 ∧ ok q1 q2 ∧ okd s) := fun k => hx k.1
      have n1' := Lib.hid n1
      clear n1
      have n2' := Lib.hid n2
      clear n2
      have n3' := Lib.hid n3
      clear n3
      have n4' := Lib.hid n4
      clear n4
      clear hx k1 k2 e1
      go_enter Try.func8, Try.ntmps8
      go_wp2_with fail
      refine (head_c _).mono ?_
      rintro e w1 ⟨rfl, hbW⟩
      have hc := (bcell hbW).1
      go_wp2_with (first
        | (go_at_call 26; refine Calls.mono (Lies_ok _ _ _ _ _ _ _ ?_ ?_ ?_ ?_) ?_; assumption; assumption; (first | assumption | (unfold okd; omega)); (first | assumption | (unfold okd; omega)); rintro e w1 ⟨rfl, hb1⟩; replace hbW := bstep hbW hb1; clear hc; have hc := (bcell hbW).1; clear hb1)
        | (go_at_call 26; refine Calls.mono (Lies_no _ _ _ _ _ _ _ ?_) ?_; (first | exact n1'.out | exact n2'.out | exact n3'.out | exact n4'.out); rintro e w1 ⟨rfl, hb1⟩; replace hbW := bstep hbW hb1; clear hc; have hc := (bcell hbW).1; clear hb1)
        | (go_at_call 20; refine Calls.mono (Near_no _ _ _ _ _ _ _ _ ?_) ?_; (first | exact n1'.out | exact n2'.out | exact n3'.out | exact n4'.out); rintro e w1 ⟨rfl, hb1⟩; replace hbW := bstep hbW hb1; clear hc; have hc := (bcell hbW).1; clear hb1))
      all_goals
        go_ret
        exact ret_bool (by simp) (by repeat (first | exact Below.refl _ _ | assumption | refine bstep ?_ (by assumption) | refine Below.drew ?_ | refine balloc ?_ _ | refine Below.setCell ?_ (by first | omega | (simp <;> omega)) _))
  · have h' := Lib.hid h
    clear h
    go_enter Try.func8, Try.ntmps8
    go_wp2_with fail
    refine (head_c _).mono ?_
    rintro e w1 ⟨rfl, hbW⟩
    have hc := (bcell hbW).1
    go_wp2_with (first
        | (go_at_call 26; refine Calls.mono (Lies_no _ _ _ _ _ _ _ ?_) ?_; (first | exact h'.out); rintro e w1 ⟨rfl, hb1⟩; replace hbW := bstep hbW hb1; clear hc; have hc := (bcell hbW).1; clear hb1))
    all_goals
      go_ret
      exact ret_bool (by simp) (by repeat (first | exact Below.refl _ _ | assumption | refine bstep ?_ (by assumption) | refine Below.drew ?_ | refine balloc ?_ _ | refine Below.setCell ?_ (by first | omega | (simp <;> omega)) _))

end Go.Proofs.Ytakhkeipoldpoaa
