/- SpanA: what package span computes with. -/
import Derived.Test.YtlkjpackjjncaaaSpanM
import Derived.Test.YtlkjpackjjncaaaRows
import Derived.WalkKit
import Derived.WalkSpells
import Derived.WalkLawsBesides
import Derived.Lib.Hide
import Derived.Deep.QuietTactic
import Derived.BigQuiet
import Derived.RegionTactic
import Derived.ChangeAlike
import Derived.BigRegion
import Derived.Deep.RegionHeld3
import Derived.Deep.RegionWith
import Derived.Outline
namespace Go.Proofs.Ytlkjpackjjncaaa.Sp
open Go.RowKit
set_option linter.unusedSimpArgs false
set_option linter.unusedVariables false

set_option maxHeartbeats 400000 in
theorem endsWithin_c (s1 s2 m : Int) (w : World) (h0 : 0 ≤ m) (hm : m ≤ 1000000000000) : Calls Try.prog 59 #[(.agg #[.int .i64 s1, .int .i64 s2]), (.int .i64 m)] w (Ret w (.bool (vE m s1 s2))) := by
  go_enter Try.func59, Try.ntmps59
  go_wp2
  all_goals
    go_ret
    refine ret_bool ?_ (by repeat (first | exact Below.refl _ _ | assumption | refine bstep ?_ (by assumption) | refine Below.drew ?_ | refine balloc ?_ _ | refine Below.setCell ?_ (by first | omega | (simp <;> omega)) _))
    rw [vE_iff]
    simp <;> omega

set_option maxHeartbeats 400000 in
theorem valid_c (s1 s2 : Int) (w : World)  : Calls Try.prog 83 #[(.agg #[(.int .i64 s1), (.int .i64 s2)])] w (Ret w (.bool (vE 1000000000000 s1 s2))) := by
  go_enter Try.func83, Try.ntmps83
  go_wp2_with fail
  refine Calls.mono (endsWithin_c _ _ _ _ (by omega) (by omega)) ?_
  rintro e w1 ⟨rfl, hbW⟩
  have hc := (bcell hbW).1
  have hf := (bcell hbW).2
  go_wp2
  all_goals
    go_ret
    exact ⟨rfl, (by repeat (first | exact Below.refl _ _ | assumption | refine bstep ?_ (by assumption) | refine Below.drew ?_ | refine balloc ?_ _ | refine Below.setCell ?_ (by first | omega | (simp <;> omega)) _))⟩

set_option maxHeartbeats 400000 in
theorem validBox_c (b1 b2 b3 b4 : Int) (w : World)  : Calls Try.prog 41 #[(.agg #[(.int .i64 b1), (.int .i64 b2), (.int .i64 b3), (.int .i64 b4)])] w (Ret w (.bool (vB b1 b2 b3 b4))) := by
  rcases Bool.eq_false_or_eq_true (vE 1000000 b1 b2) with h1 | h1
  all_goals
    go_enter Try.func41, Try.ntmps41
    go_wp2_with fail
    refine Calls.mono (endsWithin_c _ _ _ _ (by omega) (by omega)) ?_
    rintro e w1 ⟨rfl, hbW⟩
    have hc := (bcell hbW).1
    have hf := (bcell hbW).2
    go_wp2_with (first | (go_at_call 59; refine Calls.mono (endsWithin_c _ _ _ _ (by omega) (by omega)) ?_; rintro e w1 ⟨rfl, hb1⟩; replace hbW := bstep hbW hb1; clear hc; have hc := (bcell hbW).1; clear hb1; clear hf; have hf := (bcell hbW).2))
    all_goals
      go_ret
      refine ret_bool ?_ (by repeat (first | exact Below.refl _ _ | assumption | refine bstep ?_ (by assumption) | refine Below.drew ?_ | refine balloc ?_ _ | refine Below.setCell ?_ (by first | omega | (simp <;> omega)) _))
      simp [vB, h1]

set_option maxHeartbeats 400000 in
theorem meet_c (s1 s2 t1 t2 : Int) (w : World)  : Calls Try.prog 85 #[(.agg #[(.int .i64 s1), (.int .i64 s2)]), (.agg #[(.int .i64 t1), (.int .i64 t2)])] w (Ret w (.agg #[(.int .i64 (max s1 t1)), (.int .i64 (min s2 t2))])) := by
  go_enter Try.func85, Try.ntmps85
  go_wp2
  all_goals
    refine bodyPost_ret ?_ rfl ⟨rfl, (by repeat (first | exact Below.refl _ _ | assumption | refine bstep ?_ (by assumption) | refine Below.drew ?_ | refine balloc ?_ _ | refine Below.setCell ?_ (by first | omega | (simp <;> omega)) _))⟩
    simp [results, Try.results85, go_sem] <;> omega

set_option maxHeartbeats 400000 in
theorem inRange_c (s1 s2 : Int) (w : World)  : Calls Try.prog 84 #[(.agg #[(.int .i64 s1), (.int .i64 s2)])] w (Ret w (.tuple #[.agg #[(.int .i64 (selI (vE 1000000000000 s1 s2) s1)), (.int .i64 (selI (vE 1000000000000 s1 s2) s2))], (.int .i64 (erv true (vE 1000000000000 s1 s2) 3))])) := by
  rcases Bool.eq_false_or_eq_true (vE 1000000000000 s1 s2) with h1 | h1
  all_goals
    go_enter Try.func84, Try.ntmps84
    go_wp2_with fail
    refine Calls.mono (valid_c _ _ _) ?_
    rintro e w1 ⟨rfl, hbW⟩
    have hc := (bcell hbW).1
    have hf := (bcell hbW).2
    go_wp2
    all_goals
      refine bodyPost_ret ?_ rfl ⟨rfl, (by repeat (first | exact Below.refl _ _ | assumption | refine bstep ?_ (by assumption) | refine Below.drew ?_ | refine balloc ?_ _ | refine Below.setCell ?_ (by first | omega | (simp <;> omega)) _))⟩
      simp [results, Try.results84, go_sem, hc, selI, erv, h1]

end Go.Proofs.Ytlkjpackjjncaaa.Sp
