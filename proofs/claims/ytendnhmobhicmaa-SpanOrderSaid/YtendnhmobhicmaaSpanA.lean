/- SpanA: what package span computes with. -/
import Derived.Test.YtendnhmobhicmaaSpanM
import Derived.Test.YtendnhmobhicmaaRows
import Derived.WalkKit
import Derived.WalkSpells
import Derived.WalkLawsBesides
import Derived.Lib.Hide
import Derived.Deep.QuietTactic
import Derived.BigQuiet
import Derived.RegionTactic
import Derived.ChangeAlike
import Derived.BigRegion
import Derived.Deep.RegionHeld3
import Derived.Deep.RegionWith
import Derived.Outline
namespace Go.Proofs.Ytendnhmobhicmaa
open Go.RowKit

set_option maxHeartbeats 400000 in
theorem endsWithin_c (s1 s2 m : Int) (w : World) (h0 : 0 ≤ m) (hm : m ≤ 1000000000000) : Calls Try.prog 39 #[(.agg #[.int .i64 s1, .int .i64 s2]), (.int .i64 m)] w (Ret w (.bool (vE m s1 s2))) := by
  go_enter Try.func39, Try.ntmps39
  go_wp2
  all_goals
    go_ret
    refine ret_bool ?_ (by repeat (first | exact Below.refl _ _ | assumption | refine bstep ?_ (by assumption) | refine Below.drew ?_ | refine balloc ?_ _ | refine Below.setCell ?_ (by first | omega | (simp <;> omega)) _))
    rw [vE_iff]
    simp <;> omega

set_option maxHeartbeats 400000 in
theorem valid_c (s1 s2 : Int) (w : World)  : Calls Try.prog 12 #[(.agg #[(.int .i64 s1), (.int .i64 s2)])] w (Ret w (.bool (vE 1000000000000 s1 s2))) := by
  go_enter Try.func12, Try.ntmps12
  go_wp2_with fail
  refine Calls.mono (endsWithin_c _ _ _ _ (by omega) (by omega)) ?_
  rintro e w1 ⟨rfl, hbW⟩
  have hc := (bcell hbW).1
  have hf := (bcell hbW).2
  go_wp2
  all_goals
    go_ret
    exact ⟨rfl, (by repeat (first | exact Below.refl _ _ | assumption | refine bstep ?_ (by assumption) | refine Below.drew ?_ | refine balloc ?_ _ | refine Below.setCell ?_ (by first | omega | (simp <;> omega)) _))⟩

set_option maxHeartbeats 400000 in
theorem validBox_c (b1 b2 b3 b4 : Int) (w : World)  : Calls Try.prog 14 #[(.agg #[(.int .i64 b1), (.int .i64 b2), (.int .i64 b3), (.int .i64 b4)])] w (Ret w (.bool (vB b1 b2 b3 b4))) := by
  rcases Bool.eq_false_or_eq_true (vE 1000000 b1 b2) with h1 | h1
  all_goals
    go_enter Try.func14, Try.ntmps14
    go_wp2_with fail
    refine Calls.mono (endsWithin_c _ _ _ _ (by omega) (by omega)) ?_
    rintro e w1 ⟨rfl, hbW⟩
    have hc := (bcell hbW).1
    have hf := (bcell hbW).2
    go_wp2_with (first | (go_at_call 39; refine Calls.mono (endsWithin_c _ _ _ _ (by omega) (by omega)) ?_; rintro e w1 ⟨rfl, hb1⟩; replace hbW := bstep hbW hb1; clear hc; have hc := (bcell hbW).1; clear hb1; clear hf; have hf := (bcell hbW).2))
    all_goals
      go_ret
      refine ret_bool ?_ (by repeat (first | exact Below.refl _ _ | assumption | refine bstep ?_ (by assumption) | refine Below.drew ?_ | refine balloc ?_ _ | refine Below.setCell ?_ (by first | omega | (simp <;> omega)) _))
      simp [vB, h1]

set_option maxHeartbeats 400000 in
theorem single_c (n : Int) (w : World)  : Calls Try.prog 54 #[(.int .i64 n)] w (Ret w (.agg #[(.int .i64 n), (.int .i64 n)])) := by
  go_enter Try.func54, Try.ntmps54
  go_wp2
  all_goals
    refine bodyPost_ret ?_ rfl ⟨rfl, (by repeat (first | exact Below.refl _ _ | assumption | refine bstep ?_ (by assumption) | refine Below.drew ?_ | refine balloc ?_ _ | refine Below.setCell ?_ (by first | omega | (simp <;> omega)) _))⟩
    simp [results, Try.results54, go_sem]

set_option maxHeartbeats 400000 in
theorem meet_c (s1 s2 t1 t2 : Int) (w : World)  : Calls Try.prog 49 #[(.agg #[(.int .i64 s1), (.int .i64 s2)]), (.agg #[(.int .i64 t1), (.int .i64 t2)])] w (Ret w (.agg #[(.int .i64 (max s1 t1)), (.int .i64 (min s2 t2))])) := by
  go_enter Try.func49, Try.ntmps49
  go_wp2
  all_goals
    refine bodyPost_ret ?_ rfl ⟨rfl, (by repeat (first | exact Below.refl _ _ | assumption | refine bstep ?_ (by assumption) | refine Below.drew ?_ | refine balloc ?_ _ | refine Below.setCell ?_ (by first | omega | (simp <;> omega)) _))⟩
    simp [results, Try.results49, go_sem] <;> omega

set_option maxHeartbeats 400000 in
theorem join_c (s1 s2 t1 t2 : Int) (w : World)  : Calls Try.prog 50 #[(.agg #[(.int .i64 s1), (.int .i64 s2)]), (.agg #[(.int .i64 t1), (.int .i64 t2)])] w (Ret w (.agg #[(.int .i64 (min s1 t1)), (.int .i64 (max s2 t2))])) := by
  go_enter Try.func50, Try.ntmps50
  go_wp2
  all_goals
    refine bodyPost_ret ?_ rfl ⟨rfl, (by repeat (first | exact Below.refl _ _ | assumption | refine bstep ?_ (by assumption) | refine Below.drew ?_ | refine balloc ?_ _ | refine Below.setCell ?_ (by first | omega | (simp <;> omega)) _))⟩
    simp [results, Try.results50, go_sem] <;> omega

set_option maxHeartbeats 400000 in
theorem inOrder_c (a b : Int) (w : World)  : Calls Try.prog 44 #[(.int .i64 a), (.int .i64 b)] w (Same w (.tuple #[(.int .i64 (min a b)), (.int .i64 (max a b))])) := by
  go_enter Try.func44, Try.ntmps44
  go_wp2
  all_goals
    refine bodyPost_ret ?_ rfl ⟨rfl, rfl⟩
    simp [results, Try.results44, go_sem] <;> omega

set_option maxHeartbeats 400000 in
theorem inRange_c (s1 s2 : Int) (w : World)  : Calls Try.prog 41 #[(.agg #[(.int .i64 s1), (.int .i64 s2)])] w (Ret w (.tuple #[.agg #[(.int .i64 (selI (vE 1000000000000 s1 s2) s1)), (.int .i64 (selI (vE 1000000000000 s1 s2) s2))], (.int .i64 (erv true (vE 1000000000000 s1 s2) 3))])) := by
  rcases Bool.eq_false_or_eq_true (vE 1000000000000 s1 s2) with h1 | h1
  all_goals
    go_enter Try.func41, Try.ntmps41
    go_wp2_with fail
    refine Calls.mono (valid_c _ _ _) ?_
    rintro e w1 ⟨rfl, hbW⟩
    have hc := (bcell hbW).1
    have hf := (bcell hbW).2
    go_wp2
    all_goals
      refine bodyPost_ret ?_ rfl ⟨rfl, (by repeat (first | exact Below.refl _ _ | assumption | refine bstep ?_ (by assumption) | refine Below.drew ?_ | refine balloc ?_ _ | refine Below.setCell ?_ (by first | omega | (simp <;> omega)) _))⟩
      simp [results, Try.results41, go_sem, hc, selI, erv, h1]

set_option maxHeartbeats 400000 in
theorem roundDown_c (n d : Int) (w : World) (hd : 0 < d) (h1 : -1000000000000000000 ≤ n) (h2 : n ≤ 1000000000000000000) : Calls Try.prog 45 #[(.int .i64 n), (.int .i64 d)] w (Same w (.int .i64 (dn n d))) := by
  have hq := div_bd hd h1 h2
  have he := dn_tdiv (n := n) hd
  by_cases hr : n.tmod d < 0
  all_goals
    go_enter Try.func45, Try.ntmps45
    go_wp2
    all_goals
      refine bodyPost_ret ?_ rfl ⟨rfl, rfl⟩
      simp [results, Try.results45, go_sem, he, hr]

set_option maxHeartbeats 400000 in
theorem roundUp_c (n d : Int) (w : World) (hd : 0 < d) (h1 : -1000000000000000000 ≤ n) (h2 : n ≤ 1000000000000000000) : Calls Try.prog 46 #[(.int .i64 n), (.int .i64 d)] w (Same w (.int .i64 (upd n d))) := by
  have hq := div_bd (n := -n) (d := d) (M := 1000000000000000000) hd (by omega) (by omega)
  have he := upd_neg n d
  go_enter Try.func46, Try.ntmps46
  go_wp2_with fail
  refine Calls.mono (roundDown_c (-n) d _ hd (by omega) (by omega)) ?_
  rintro e w1 ⟨rfl, rfl⟩
  go_wp2
  all_goals
    refine bodyPost_ret ?_ rfl ⟨rfl, rfl⟩
    simp [results, Try.results46, go_sem, he]


end Go.Proofs.Ytendnhmobhicmaa
