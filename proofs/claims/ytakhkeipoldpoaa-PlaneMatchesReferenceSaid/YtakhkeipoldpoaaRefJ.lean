/- RefJ: the law's walk. -/
import Derived.Test.YtakhkeipoldpoaaRefB
import Derived.Test.YtakhkeipoldpoaaRefG
namespace Go.Proofs.Ytakhkeipoldpoaa
open Go.RowKit

set_option maxRecDepth 100000 in
set_option maxHeartbeats 3200000 in
theorem rOn_ok (p1 p2 a1 a2 b1 b2 : Int) (w : World) (hp : ok p1 p2) (ha : ok a1 a2) (hb : ok b1 b2) : Calls Try.prog 17 #[(.agg #[.int .i64 p1, .int .i64 p2]), (.agg #[.int .i64 a1, .int .i64 a2]), (.agg #[.int .i64 b1, .int .i64 b2])] w (Ret w (.tuple #[(.bool (on p1 p2 a1 a2 b1 b2)), (.int .i64 0)])) := by
  have vp : okB p1 p2 = true := okB_of hp
  have va : okB a1 a2 = true := okB_of ha
  have vb : okB b1 b2 = true := okB_of hb
  go_enter Try.func17, Try.ntmps17
  go_wp2_with fail
  refine Calls.mono (rvalid_c _ _ _) ?_
  rintro e w1 ⟨rfl, hbW⟩
  have hc := (bcell hbW).1
  go_wp2_with (first | (go_at_call 13; refine Calls.mono (rvalid_c _ _ _) ?_; rintro e w1 ⟨rfl, hb1⟩; replace hbW := bstep hbW hb1; clear hc; have hc := (bcell hbW).1; clear hb1) | (go_at_call 43; refine Calls.mono (rrange_c _ _) ?_; rintro e w1 ⟨rfl, rfl⟩) | (go_at_call 38; refine (lie_c _ _ _ _ _ _ _ hp ha hb).mono ?_; rintro e w1 ⟨rfl, hb1⟩; replace hbW := bstep hbW hb1; clear hc; have hc := (bcell hbW).1; clear hb1))
  go_ret2
  exact ⟨rfl, (by repeat (first | exact Below.refl _ _ | assumption | refine bstep ?_ (by assumption) | refine Below.drew ?_ | refine balloc ?_ _ | refine Below.setCell ?_ (by first | omega | (simp <;> omega)) _))⟩

set_option maxRecDepth 100000 in
set_option maxHeartbeats 3200000 in
theorem rOn_no (p1 p2 a1 a2 b1 b2 : Int) (w : World) (hn : ¬ (ok p1 p2 ∧ ok a1 a2 ∧ ok b1 b2)) : Calls Try.prog 17 #[(.agg #[.int .i64 p1, .int .i64 p2]), (.agg #[.int .i64 a1, .int .i64 a2]), (.agg #[.int .i64 b1, .int .i64 b2])] w (Ret w (.tuple #[(.bool false), (.int .i64 1)])) := by
  cases vp : okB p1 p2
  ·
    clear hn
    go_enter Try.func17, Try.ntmps17
    go_wp2_with fail
    refine Calls.mono (rvalid_c _ _ _) ?_
    rintro e w1 ⟨rfl, hbW⟩
    have hc := (bcell hbW).1
    go_wp2_with (first | (go_at_call 13; refine Calls.mono (rvalid_c _ _ _) ?_; rintro e w1 ⟨rfl, hb1⟩; replace hbW := bstep hbW hb1; clear hc; have hc := (bcell hbW).1; clear hb1) | (go_at_call 43; refine Calls.mono (rrange_c _ _) ?_; rintro e w1 ⟨rfl, rfl⟩))
    go_ret2
    exact ⟨rfl, (by repeat (first | exact Below.refl _ _ | assumption | refine bstep ?_ (by assumption) | refine Below.drew ?_ | refine balloc ?_ _ | refine Below.setCell ?_ (by first | omega | (simp <;> omega)) _))⟩
  ·
    cases va : okB a1 a2
    ·
      clear hn
      go_enter Try.func17, Try.ntmps17
      go_wp2_with fail
      refine Calls.mono (rvalid_c _ _ _) ?_
      rintro e w1 ⟨rfl, hbW⟩
      have hc := (bcell hbW).1
      go_wp2_with (first | (go_at_call 13; refine Calls.mono (rvalid_c _ _ _) ?_; rintro e w1 ⟨rfl, hb1⟩; replace hbW := bstep hbW hb1; clear hc; have hc := (bcell hbW).1; clear hb1) | (go_at_call 43; refine Calls.mono (rrange_c _ _) ?_; rintro e w1 ⟨rfl, rfl⟩))
      go_ret2
      exact ⟨rfl, (by repeat (first | exact Below.refl _ _ | assumption | refine bstep ?_ (by assumption) | refine Below.drew ?_ | refine balloc ?_ _ | refine Below.setCell ?_ (by first | omega | (simp <;> omega)) _))⟩
    ·
      cases vb : okB b1 b2
      ·
        clear hn
        go_enter Try.func17, Try.ntmps17
        go_wp2_with fail
        refine Calls.mono (rvalid_c _ _ _) ?_
        rintro e w1 ⟨rfl, hbW⟩
        have hc := (bcell hbW).1
        go_wp2_with (first | (go_at_call 13; refine Calls.mono (rvalid_c _ _ _) ?_; rintro e w1 ⟨rfl, hb1⟩; replace hbW := bstep hbW hb1; clear hc; have hc := (bcell hbW).1; clear hb1) | (go_at_call 43; refine Calls.mono (rrange_c _ _) ?_; rintro e w1 ⟨rfl, rfl⟩))
        go_ret2
        exact ⟨rfl, (by repeat (first | exact Below.refl _ _ | assumption | refine bstep ?_ (by assumption) | refine Below.drew ?_ | refine balloc ?_ _ | refine Below.setCell ?_ (by first | omega | (simp <;> omega)) _))⟩
      ·
        exact absurd ⟨okB_iff.1 vp, okB_iff.1 va, okB_iff.1 vb⟩ hn

set_option maxRecDepth 100000 in
set_option maxHeartbeats 3200000 in
theorem rMeet_ok (a1 a2 b1 b2 c1 c2 d1 d2 : Int) (w : World) (ha : ok a1 a2) (hb : ok b1 b2) (hc0 : ok c1 c2) (hd : ok d1 d2) : Calls Try.prog 19 #[(.agg #[.int .i64 a1, .int .i64 a2]), (.agg #[.int .i64 b1, .int .i64 b2]), (.agg #[.int .i64 c1, .int .i64 c2]), (.agg #[.int .i64 d1, .int .i64 d2])] w (Ret w (.tuple #[(.bool (meetB a1 a2 b1 b2 c1 c2 d1 d2)), (.int .i64 0)])) := by
  have va : okB a1 a2 = true := okB_of ha
  have vb : okB b1 b2 = true := okB_of hb
  have vc : okB c1 c2 = true := okB_of hc0
  have vd : okB d1 d2 = true := okB_of hd
  go_enter Try.func19, Try.ntmps19
  go_wp2_with fail
  refine Calls.mono (rvalid_c _ _ _) ?_
  rintro e w1 ⟨rfl, hbW⟩
  have hc := (bcell hbW).1
  go_wp2_with (first | (go_at_call 13; refine Calls.mono (rvalid_c _ _ _) ?_; rintro e w1 ⟨rfl, hb1⟩; replace hbW := bstep hbW hb1; clear hc; have hc := (bcell hbW).1; clear hb1) | (go_at_call 43; refine Calls.mono (rrange_c _ _) ?_; rintro e w1 ⟨rfl, rfl⟩) | (go_at_call 40; refine (rcrosses_c _ _ _ _ _ _ _ _ _ ha hb hc0 hd).mono ?_; rintro e w1 ⟨rfl, hb1⟩; replace hbW := bstep hbW hb1; clear hc; have hc := (bcell hbW).1; clear hb1))
  go_ret2
  exact ⟨rfl, (by repeat (first | exact Below.refl _ _ | assumption | refine bstep ?_ (by assumption) | refine Below.drew ?_ | refine balloc ?_ _ | refine Below.setCell ?_ (by first | omega | (simp <;> omega)) _))⟩

set_option maxRecDepth 100000 in
set_option maxHeartbeats 3200000 in
theorem rMeet_no (a1 a2 b1 b2 c1 c2 d1 d2 : Int) (w : World) (hn : ¬ (ok a1 a2 ∧ ok b1 b2 ∧ ok c1 c2 ∧ ok d1 d2)) : Calls Try.prog 19 #[(.agg #[.int .i64 a1, .int .i64 a2]), (.agg #[.int .i64 b1, .int .i64 b2]), (.agg #[.int .i64 c1, .int .i64 c2]), (.agg #[.int .i64 d1, .int .i64 d2])] w (Ret w (.tuple #[(.bool false), (.int .i64 1)])) := by
  cases va : okB a1 a2
  ·
    clear hn
    go_enter Try.func19, Try.ntmps19
    go_wp2_with fail
    refine Calls.mono (rvalid_c _ _ _) ?_
    rintro e w1 ⟨rfl, hbW⟩
    have hc := (bcell hbW).1
    go_wp2_with (first | (go_at_call 13; refine Calls.mono (rvalid_c _ _ _) ?_; rintro e w1 ⟨rfl, hb1⟩; replace hbW := bstep hbW hb1; clear hc; have hc := (bcell hbW).1; clear hb1) | (go_at_call 43; refine Calls.mono (rrange_c _ _) ?_; rintro e w1 ⟨rfl, rfl⟩))
    go_ret2
    exact ⟨rfl, (by repeat (first | exact Below.refl _ _ | assumption | refine bstep ?_ (by assumption) | refine Below.drew ?_ | refine balloc ?_ _ | refine Below.setCell ?_ (by first | omega | (simp <;> omega)) _))⟩
  ·
    cases vb : okB b1 b2
    ·
      clear hn
      go_enter Try.func19, Try.ntmps19
      go_wp2_with fail
      refine Calls.mono (rvalid_c _ _ _) ?_
      rintro e w1 ⟨rfl, hbW⟩
      have hc := (bcell hbW).1
      go_wp2_with (first | (go_at_call 13; refine Calls.mono (rvalid_c _ _ _) ?_; rintro e w1 ⟨rfl, hb1⟩; replace hbW := bstep hbW hb1; clear hc; have hc := (bcell hbW).1; clear hb1) | (go_at_call 43; refine Calls.mono (rrange_c _ _) ?_; rintro e w1 ⟨rfl, rfl⟩))
      go_ret2
      exact ⟨rfl, (by repeat (first | exact Below.refl _ _ | assumption | refine bstep ?_ (by assumption) | refine Below.drew ?_ | refine balloc ?_ _ | refine Below.setCell ?_ (by first | omega | (simp <;> omega)) _))⟩
    ·
      cases vc : okB c1 c2
      ·
        clear hn
        go_enter Try.func19, Try.ntmps19
        go_wp2_with fail
        refine Calls.mono (rvalid_c _ _ _) ?_
        rintro e w1 ⟨rfl, hbW⟩
        have hc := (bcell hbW).1
        go_wp2_with (first | (go_at_call 13; refine Calls.mono (rvalid_c _ _ _) ?_; rintro e w1 ⟨rfl, hb1⟩; replace hbW := bstep hbW hb1; clear hc; have hc := (bcell hbW).1; clear hb1) | (go_at_call 43; refine Calls.mono (rrange_c _ _) ?_; rintro e w1 ⟨rfl, rfl⟩))
        go_ret2
        exact ⟨rfl, (by repeat (first | exact Below.refl _ _ | assumption | refine bstep ?_ (by assumption) | refine Below.drew ?_ | refine balloc ?_ _ | refine Below.setCell ?_ (by first | omega | (simp <;> omega)) _))⟩
      ·
        cases vd : okB d1 d2
        ·
          clear hn
          go_enter Try.func19, Try.ntmps19
          go_wp2_with fail
          refine Calls.mono (rvalid_c _ _ _) ?_
          rintro e w1 ⟨rfl, hbW⟩
          have hc := (bcell hbW).1
          go_wp2_with (first | (go_at_call 13; refine Calls.mono (rvalid_c _ _ _) ?_; rintro e w1 ⟨rfl, hb1⟩; replace hbW := bstep hbW hb1; clear hc; have hc := (bcell hbW).1; clear hb1) | (go_at_call 43; refine Calls.mono (rrange_c _ _) ?_; rintro e w1 ⟨rfl, rfl⟩))
          go_ret2
          exact ⟨rfl, (by repeat (first | exact Below.refl _ _ | assumption | refine bstep ?_ (by assumption) | refine Below.drew ?_ | refine balloc ?_ _ | refine Below.setCell ?_ (by first | omega | (simp <;> omega)) _))⟩
        ·
          exact absurd ⟨okB_iff.1 va, okB_iff.1 vb, okB_iff.1 vc, okB_iff.1 vd⟩ hn

set_option maxRecDepth 100000 in
set_option maxHeartbeats 3200000 in
theorem rTurn_ok (a1 a2 b1 b2 c1 c2 : Int) (w : World) (ha : ok a1 a2) (hb : ok b1 b2) (hc0 : ok c1 c2) : Calls Try.prog 15 #[(.agg #[.int .i64 a1, .int .i64 a2]), (.agg #[.int .i64 b1, .int .i64 b2]), (.agg #[.int .i64 c1, .int .i64 c2])] w (Ret w (.tuple #[(.int .i64 (turn a1 a2 b1 b2 c1 c2)), (.int .i64 0)])) := by
  have va : okB a1 a2 = true := okB_of ha
  have vb : okB b1 b2 = true := okB_of hb
  have vc : okB c1 c2 = true := okB_of hc0
  go_enter Try.func15, Try.ntmps15
  go_wp2_with fail
  refine Calls.mono (rvalid_c _ _ _) ?_
  rintro e w1 ⟨rfl, hbW⟩
  have hc := (bcell hbW).1
  go_wp2_with (first | (go_at_call 13; refine Calls.mono (rvalid_c _ _ _) ?_; rintro e w1 ⟨rfl, hb1⟩; replace hbW := bstep hbW hb1; clear hc; have hc := (bcell hbW).1; clear hb1))
  have hs0 : _ ≤ w1.heap.size := hbW.size
  (try simp at hs0)
  have ka0 : w1.cell? ⟨w.heap.size, 0, none⟩ = some (.int .i64 a1) := by rw [hc _ _ (by first | omega | (simp <;> omega))]; go_simp
  have ka1 : w1.cell? ⟨w.heap.size, 1, none⟩ = some (.int .i64 a2) := by rw [hc _ _ (by first | omega | (simp <;> omega))]; go_simp
  have kb0 : w1.cell? ⟨w.heap.size + 1, 0, none⟩ = some (.int .i64 b1) := by rw [hc _ _ (by first | omega | (simp <;> omega))]; go_simp
  have kb1 : w1.cell? ⟨w.heap.size + 1, 1, none⟩ = some (.int .i64 b2) := by rw [hc _ _ (by first | omega | (simp <;> omega))]; go_simp
  have kc0 : w1.cell? ⟨w.heap.size + 1 + 1, 0, none⟩ = some (.int .i64 c1) := by rw [hc _ _ (by first | omega | (simp <;> omega))]; go_simp
  have kc1 : w1.cell? ⟨w.heap.size + 1 + 1, 1, none⟩ = some (.int .i64 c2) := by rw [hc _ _ (by first | omega | (simp <;> omega))]; go_simp
  have hbw : Below w.heap.size w w1 := (by repeat (first | exact Below.refl _ _ | assumption | refine bstep ?_ (by assumption) | refine Below.drew ?_ | refine balloc ?_ _ | refine Below.setCell ?_ (by first | omega | (simp <;> omega)) _))
  have hs : w.heap.size + 1 + 1 < w1.heap.size := by omega
  clear hc hbW hs0
  go_region_held3 (fun w' => w'.cell? ⟨w.heap.size, 0, none⟩ = some (.int .i64 a1) ∧ w'.cell? ⟨w.heap.size, 1, none⟩ = some (.int .i64 a2) ∧ w'.cell? ⟨w.heap.size + 1, 0, none⟩ = some (.int .i64 b1) ∧ w'.cell? ⟨w.heap.size + 1, 1, none⟩ = some (.int .i64 b2) ∧ w'.cell? ⟨w.heap.size + 1 + 1, 0, none⟩ = some (.int .i64 c1) ∧ w'.cell? ⟨w.heap.size + 1 + 1, 1, none⟩ = some (.int .i64 c2)) (first | (go_keep; done) | ((repeat' apply And.intro) <;> go_simp)) (first | (go_at_call 36; refine (minus_c _ _ _ _ _ (by assumption) (by assumption)).mono ?_; rintro e w1 ⟨rfl, hb1⟩; obtain ⟨hc1, hf1⟩ := bcell hb1; have hs : w.heap.size + 1 + 1 < w1.heap.size := (by have hq := hb1.size; ((try simp at hq) <;> omega)); have ga := fun o => hc1 (w.heap.size) o (by first | omega | (simp <;> omega)); have gb := fun o => hc1 (w.heap.size + 1) o (by first | omega | (simp <;> omega)); have gc := fun o => hc1 (w.heap.size + 1 + 1) o (by first | omega | (simp <;> omega)); have hbw : Below w.heap.size w w1 := (by repeat (first | exact Below.refl _ _ | assumption | refine bstep ?_ (by assumption) | refine Below.drew ?_ | refine balloc ?_ _ | refine Below.setCell ?_ (by first | omega | (simp <;> omega)) _)); clear hc1 hf1) | (go_at_call 35; refine (rcross_c _ _ _ _ _ _ _ (by assumption) (by assumption) (by assumption)).mono ?_; rintro e w1 ⟨rfl, hb1⟩; obtain ⟨hc1, hf1⟩ := bcell hb1; have hs : w.heap.size + 1 + 1 < w1.heap.size := (by have hq := hb1.size; ((try simp at hq) <;> omega)); have ga := fun o => hc1 (w.heap.size) o (by first | omega | (simp <;> omega)); have gb := fun o => hc1 (w.heap.size + 1) o (by first | omega | (simp <;> omega)); have gc := fun o => hc1 (w.heap.size + 1 + 1) o (by first | omega | (simp <;> omega)); have hbw : Below w.heap.size w w1 := (by repeat (first | exact Below.refl _ _ | assumption | refine bstep ?_ (by assumption) | refine Below.drew ?_ | refine balloc ?_ _ | refine Below.setCell ?_ (by first | omega | (simp <;> omega)) _)); clear hc1 hf1) | (go_at_call 34; refine (rsign_t _ _ _ _ _ _ _).mono ?_; rintro e w1 ⟨rfl, rfl⟩))
  go_wp2
  go_ret2
  exact ⟨rfl, (by repeat (first | exact Below.refl _ _ | assumption | refine bstep ?_ (by assumption) | refine Below.drew ?_ | refine balloc ?_ _ | refine Below.setCell ?_ (by first | omega | (simp <;> omega)) _))⟩

set_option maxRecDepth 100000 in
set_option maxHeartbeats 3200000 in
theorem rTurn_no (a1 a2 b1 b2 c1 c2 : Int) (w : World) (hn : ¬ (ok a1 a2 ∧ ok b1 b2 ∧ ok c1 c2)) : Calls Try.prog 15 #[(.agg #[.int .i64 a1, .int .i64 a2]), (.agg #[.int .i64 b1, .int .i64 b2]), (.agg #[.int .i64 c1, .int .i64 c2])] w (Ret w (.tuple #[(.int .i64 0), (.int .i64 1)])) := by
  cases va : okB a1 a2
  ·
    clear hn
    go_enter Try.func15, Try.ntmps15
    go_wp2_with fail
    refine Calls.mono (rvalid_c _ _ _) ?_
    rintro e w1 ⟨rfl, hbW⟩
    have hc := (bcell hbW).1
    go_wp2_with (first | (go_at_call 13; refine Calls.mono (rvalid_c _ _ _) ?_; rintro e w1 ⟨rfl, hb1⟩; replace hbW := bstep hbW hb1; clear hc; have hc := (bcell hbW).1; clear hb1) | (go_at_call 43; refine Calls.mono (rrange_c _ _) ?_; rintro e w1 ⟨rfl, rfl⟩))
    go_ret2
    exact ⟨rfl, (by repeat (first | exact Below.refl _ _ | assumption | refine bstep ?_ (by assumption) | refine Below.drew ?_ | refine balloc ?_ _ | refine Below.setCell ?_ (by first | omega | (simp <;> omega)) _))⟩
  ·
    cases vb : okB b1 b2
    ·
      clear hn
      go_enter Try.func15, Try.ntmps15
      go_wp2_with fail
      refine Calls.mono (rvalid_c _ _ _) ?_
      rintro e w1 ⟨rfl, hbW⟩
      have hc := (bcell hbW).1
      go_wp2_with (first | (go_at_call 13; refine Calls.mono (rvalid_c _ _ _) ?_; rintro e w1 ⟨rfl, hb1⟩; replace hbW := bstep hbW hb1; clear hc; have hc := (bcell hbW).1; clear hb1) | (go_at_call 43; refine Calls.mono (rrange_c _ _) ?_; rintro e w1 ⟨rfl, rfl⟩))
      go_ret2
      exact ⟨rfl, (by repeat (first | exact Below.refl _ _ | assumption | refine bstep ?_ (by assumption) | refine Below.drew ?_ | refine balloc ?_ _ | refine Below.setCell ?_ (by first | omega | (simp <;> omega)) _))⟩
    ·
      cases vc : okB c1 c2
      ·
        clear hn
        go_enter Try.func15, Try.ntmps15
        go_wp2_with fail
        refine Calls.mono (rvalid_c _ _ _) ?_
        rintro e w1 ⟨rfl, hbW⟩
        have hc := (bcell hbW).1
        go_wp2_with (first | (go_at_call 13; refine Calls.mono (rvalid_c _ _ _) ?_; rintro e w1 ⟨rfl, hb1⟩; replace hbW := bstep hbW hb1; clear hc; have hc := (bcell hbW).1; clear hb1) | (go_at_call 43; refine Calls.mono (rrange_c _ _) ?_; rintro e w1 ⟨rfl, rfl⟩))
        go_ret2
        exact ⟨rfl, (by repeat (first | exact Below.refl _ _ | assumption | refine bstep ?_ (by assumption) | refine Below.drew ?_ | refine balloc ?_ _ | refine Below.setCell ?_ (by first | omega | (simp <;> omega)) _))⟩
      ·
        exact absurd ⟨okB_iff.1 va, okB_iff.1 vb, okB_iff.1 vc⟩ hn


end Go.Proofs.Ytakhkeipoldpoaa
