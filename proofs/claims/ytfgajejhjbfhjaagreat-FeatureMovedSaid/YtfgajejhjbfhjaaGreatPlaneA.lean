/- What the small functions of package plane do: the walks. -/
import Derived.Test.YtfgajejhjbfhjaaGreatRows
import Derived.Test.YtfgajejhjbfhjaaGreatPlaneM
import Derived.WalkKit
import Derived.WalkSpells
import Derived.WalkLawsBesides
import Derived.Lib.Hide
import Derived.Deep.QuietTactic
import Derived.BigQuiet
namespace Go.Proofs.YtfgajejhjbfhjaaGreat
open Go.RowKit

set_option maxHeartbeats 400000 in
theorem valid_c (a1 a2 : Int) (w : World) : Calls Tryz.prog 44 #[(.agg #[.int .i64 a1, .int .i64 a2])] w (Ret w (.bool (okB a1 a2))) := by
  go_enter Tryz.func44, Tryz.ntmps44
  go_wp2
  all_goals
    go_ret
    refine ret_bool ?_ ((Below.refl _ _).alloc (Nat.le_refl _) _)
    rw [okB_iff, ok]
    simp <;> omega

set_option maxHeartbeats 400000 in
theorem cross_c (a1 a2 b1 b2 c1 c2 : Int) (w : World) (ha : ok a1 a2) (hb : ok b1 b2) (hc : ok c1 c2) : Calls Tryz.prog 161 #[(.agg #[.int .i64 a1, .int .i64 a2]), (.agg #[.int .i64 b1, .int .i64 b2]), (.agg #[.int .i64 c1, .int .i64 c2])] w (Ret w (.int .i64 (cross a1 a2 b1 b2 c1 c2))) := by
  have ha' := ha
  have hb' := hb
  have hc' := hc
  obtain ⟨ha1, ha2, ha3, ha4⟩ := ha
  obtain ⟨hb1, hb2, hb3, hb4⟩ := hb
  obtain ⟨hc1, hc2, hc3, hc4⟩ := hc
  have m1 := dd_bd (a := b1) (b := a1) (c := c2) (d := a2) (by omega) (by omega) (by omega) (by omega)
  have m2 := dd_bd (a := b2) (b := a2) (c := c1) (d := a1) (by omega) (by omega) (by omega) (by omega)
  obtain ⟨m3, m4⟩ := m1
  obtain ⟨m5, m6⟩ := m2
  go_enter Tryz.func161, Tryz.ntmps161
  go_wp2
  go_ret
  exact ret_int rfl ((((Below.refl _ _).alloc (Nat.le_refl _) _).alloc (by simp) _).alloc (by simp; omega) _)

set_option maxHeartbeats 400000 in
theorem dot_c (a1 a2 b1 b2 c1 c2 : Int) (w : World) (ha : ok a1 a2) (hb : ok b1 b2) (hc : ok c1 c2) : Calls Tryz.prog 158 #[(.agg #[.int .i64 a1, .int .i64 a2]), (.agg #[.int .i64 b1, .int .i64 b2]), (.agg #[.int .i64 c1, .int .i64 c2])] w (Ret w (.int .i64 (dot a1 a2 b1 b2 c1 c2))) := by
  have ha' := ha
  have hb' := hb
  have hc' := hc
  obtain ⟨ha1, ha2, ha3, ha4⟩ := ha
  obtain ⟨hb1, hb2, hb3, hb4⟩ := hb
  obtain ⟨hc1, hc2, hc3, hc4⟩ := hc
  have m1 := dd_bd (a := b1) (b := a1) (c := c1) (d := a1) (by omega) (by omega) (by omega) (by omega)
  have m2 := dd_bd (a := b2) (b := a2) (c := c2) (d := a2) (by omega) (by omega) (by omega) (by omega)
  obtain ⟨m3, m4⟩ := m1
  obtain ⟨m5, m6⟩ := m2
  go_enter Tryz.func158, Tryz.ntmps158
  go_wp2
  go_ret
  exact ret_int rfl ((((Below.refl _ _).alloc (Nat.le_refl _) _).alloc (by simp) _).alloc (by simp; omega) _)

set_option maxHeartbeats 400000 in
theorem nan_c (n : Int) (w : World) : Calls Tryz.prog 114 #[(.int .i64 n)] w (Same w (.bool false)) := by
  go_enter Tryz.func114, Tryz.ntmps114
  go_wp2
  go_ret
  exact same_bool (by simp)

set_option maxHeartbeats 400000 in
theorem cmp_c (m n : Int) (w : World) : Calls Tryz.prog 111 #[(.int .i64 m), (.int .i64 n)] w (Same w (.int .i64 (cmp m n))) := by
  go_enter Tryz.func111, Tryz.ntmps111
  go_wp2_with (go_at_call 114; refine (nan_c _ _).mono ?_; rintro e w' ⟨rfl, rfl⟩)
  all_goals
    go_ret
    refine same_int ?_
    unfold cmp
    repeat' split
    all_goals omega

set_option maxHeartbeats 400000 in
theorem turn_c (a1 a2 b1 b2 c1 c2 : Int) (w : World) (ha : ok a1 a2) (hb : ok b1 b2) (hc : ok c1 c2) : Calls Tryz.prog 187 #[(.agg #[.int .i64 a1, .int .i64 a2]), (.agg #[.int .i64 b1, .int .i64 b2]), (.agg #[.int .i64 c1, .int .i64 c2])] w (Ret w (.int .i64 (turn a1 a2 b1 b2 c1 c2))) := by
  go_enter Tryz.func187, Tryz.ntmps187
  go_wp2_with fail
  refine (cross_c a1 a2 b1 b2 c1 c2 _ ha hb hc).mono ?_
  rintro e w1 ⟨rfl, hb1⟩
  go_wp2_with fail
  refine (cmp_c _ _ _).mono ?_
  rintro e w2 ⟨rfl, rfl⟩
  go_wp2
  go_ret
  exact ret_int rfl ((((Below.refl _ _).alloc (Nat.le_refl _) _).alloc (by simp) _).alloc (by simp; omega) _ |>.trans (hb1.mono (by simp; omega)))

set_option maxHeartbeats 400000 in
theorem sq_c (a1 a2 b1 b2 : Int) (w : World) (ha : ok a1 a2) (hb : ok b1 b2) : Calls Tryz.prog 154 #[(.agg #[.int .i64 a1, .int .i64 a2]), (.agg #[.int .i64 b1, .int .i64 b2])] w (Ret w (.int .i64 (sq a1 a2 b1 b2))) := by
  go_enter Tryz.func154, Tryz.ntmps154
  go_wp2_with fail
  refine (dot_c a1 a2 b1 b2 b1 b2 _ ha hb hb).mono ?_
  rintro e w1 ⟨rfl, hb1⟩
  go_wp2
  go_ret
  exact ret_int rfl (((Below.refl _ _).alloc (Nat.le_refl _) _).alloc (by simp) _ |>.trans (hb1.mono (by simp; omega)))

set_option maxHeartbeats 400000 in
theorem between_c (n a b : Int) (w : World) : Calls Tryz.prog 193 #[(.int .i64 n), (.int .i64 a), (.int .i64 b)] w (Same w (.bool (between n a b))) := by
  go_enter Tryz.func193, Tryz.ntmps193
  go_wp2
  all_goals
    go_ret
    refine same_bool ?_
    simp [between] <;> omega

set_option maxHeartbeats 400000 in
theorem vdist_c (d : Int) (w : World) : Calls Tryz.prog 153 #[(.int .i64 d)] w (Same w (.bool (okdB d))) := by
  go_enter Tryz.func153, Tryz.ntmps153
  go_wp2
  all_goals
    go_ret
    refine same_bool ?_
    rw [okdB_iff, okd]
    simp <;> omega

end Go.Proofs.YtfgajejhjbfhjaaGreat
