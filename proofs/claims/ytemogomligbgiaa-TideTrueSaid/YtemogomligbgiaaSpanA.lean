/- SpanA: what package span computes with. -/
import Derived.Test.YtemogomligbgiaaSpanM
import Derived.Test.YtemogomligbgiaaRows
import Derived.WalkKit
import Derived.WalkSpells
import Derived.WalkLawsBesides
import Derived.Lib.Hide
import Derived.Deep.QuietTactic
import Derived.BigQuiet
import Derived.RegionTactic
import Derived.ChangeAlike
import Derived.BigRegion
import Derived.Deep.RegionHeld3
import Derived.Deep.RegionWith
import Derived.Outline
namespace Go.Proofs.Ytemogomligbgiaa.Sp
open Go.RowKit
set_option linter.unusedSimpArgs false
set_option linter.unusedVariables false

set_option maxHeartbeats 400000 in
theorem endsWithin_c (s1 s2 m : Int) (w : World) (h0 : 0 ≤ m) (hm : m ≤ 1000000000000) : Calls Try.prog 69 #[(.agg #[.int .i64 s1, .int .i64 s2]), (.int .i64 m)] w (Ret w (.bool (vE m s1 s2))) := by
  go_enter Try.func69, Try.ntmps69
  go_wp2
  all_goals
    go_ret
    refine ret_bool ?_ (by repeat (first | with_reducible exact Below.refl _ _ | with_reducible assumption | with_reducible refine Below.setCell ?_ (by first | omega | (simp <;> omega)) _ | with_reducible refine balloc ?_ _ | with_reducible refine Below.drew ?_ | with_reducible refine bstep ?_ (by with_reducible assumption)))
    rw [vE_iff]
    simp <;> omega

set_option maxHeartbeats 400000 in
theorem valid_c (s1 s2 : Int) (w : World)  : Calls Try.prog 53 #[(.agg #[(.int .i64 s1), (.int .i64 s2)])] w (Ret w (.bool (vE 1000000000000 s1 s2))) := by
  go_enter Try.func53, Try.ntmps53
  go_wp2_with fail
  refine Calls.mono (endsWithin_c _ _ _ _ (by omega) (by omega)) ?_
  rintro e w1 ⟨rfl, hbW⟩
  have hc := (bcell hbW).1
  have hf := (bcell hbW).2
  go_wp2
  all_goals
    go_ret
    exact ⟨rfl, (by repeat (first | with_reducible exact Below.refl _ _ | with_reducible assumption | with_reducible refine Below.setCell ?_ (by first | omega | (simp <;> omega)) _ | with_reducible refine balloc ?_ _ | with_reducible refine Below.drew ?_ | with_reducible refine bstep ?_ (by with_reducible assumption)))⟩

set_option maxHeartbeats 400000 in
theorem meet_c (s1 s2 t1 t2 : Int) (w : World)  : Calls Try.prog 60 #[(.agg #[(.int .i64 s1), (.int .i64 s2)]), (.agg #[(.int .i64 t1), (.int .i64 t2)])] w (Ret w (.agg #[(.int .i64 (max s1 t1)), (.int .i64 (min s2 t2))])) := by
  go_enter Try.func60, Try.ntmps60
  go_wp2
  all_goals
    refine bodyPost_ret ?_ rfl ⟨rfl, (by repeat (first | with_reducible exact Below.refl _ _ | with_reducible assumption | with_reducible refine Below.setCell ?_ (by first | omega | (simp <;> omega)) _ | with_reducible refine balloc ?_ _ | with_reducible refine Below.drew ?_ | with_reducible refine bstep ?_ (by with_reducible assumption)))⟩
    simp [results, Try.results60, go_sem] <;> omega

set_option maxHeartbeats 400000 in
theorem join_c (s1 s2 t1 t2 : Int) (w : World)  : Calls Try.prog 59 #[(.agg #[(.int .i64 s1), (.int .i64 s2)]), (.agg #[(.int .i64 t1), (.int .i64 t2)])] w (Ret w (.agg #[(.int .i64 (min s1 t1)), (.int .i64 (max s2 t2))])) := by
  go_enter Try.func59, Try.ntmps59
  go_wp2
  all_goals
    refine bodyPost_ret ?_ rfl ⟨rfl, (by repeat (first | with_reducible exact Below.refl _ _ | with_reducible assumption | with_reducible refine Below.setCell ?_ (by first | omega | (simp <;> omega)) _ | with_reducible refine balloc ?_ _ | with_reducible refine Below.drew ?_ | with_reducible refine bstep ?_ (by with_reducible assumption)))⟩
    simp [results, Try.results59, go_sem] <;> omega

set_option maxHeartbeats 400000 in
theorem inRange_c (s1 s2 : Int) (w : World)  : Calls Try.prog 61 #[(.agg #[(.int .i64 s1), (.int .i64 s2)])] w (Ret w (.tuple #[.agg #[(.int .i64 (selI (vE 1000000000000 s1 s2) s1)), (.int .i64 (selI (vE 1000000000000 s1 s2) s2))], (.int .i64 (erv true (vE 1000000000000 s1 s2) 3))])) := by
  rcases Bool.eq_false_or_eq_true (vE 1000000000000 s1 s2) with h1 | h1
  all_goals
    go_enter Try.func61, Try.ntmps61
    go_wp2_with fail
    refine Calls.mono (valid_c _ _ _) ?_
    rintro e w1 ⟨rfl, hbW⟩
    have hc := (bcell hbW).1
    have hf := (bcell hbW).2
    go_wp2
    all_goals
      refine bodyPost_ret ?_ rfl ⟨rfl, (by repeat (first | with_reducible exact Below.refl _ _ | with_reducible assumption | with_reducible refine Below.setCell ?_ (by first | omega | (simp <;> omega)) _ | with_reducible refine balloc ?_ _ | with_reducible refine Below.drew ?_ | with_reducible refine bstep ?_ (by with_reducible assumption)))⟩
      simp [results, Try.results61, go_sem, hc, selI, erv, h1]

end Go.Proofs.Ytemogomligbgiaa.Sp
