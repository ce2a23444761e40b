/- What the small functions of package plane do: the walks. -/
import Derived.Test.YtpadkmlckmopfaaRows
import Derived.Test.YtpadkmlckmopfaaPlaneM
import Derived.WalkKit
import Derived.WalkSpells
import Derived.WalkLawsBesides
import Derived.Lib.Hide
import Derived.Deep.QuietTactic
import Derived.BigQuiet
namespace Go.Proofs.Ytpadkmlckmopfaa
open Go.RowKit

set_option maxHeartbeats 400000 in
theorem valid_c (a1 a2 : Int) (w : World) : Calls Try.prog 45 #[(.agg #[.int .i64 a1, .int .i64 a2])] w (Ret w (.bool (okB a1 a2))) := by
  go_enter Try.func45, Try.ntmps45
  go_wp2
  all_goals
    go_ret
    refine ret_bool ?_ ((Below.refl _ _).alloc (Nat.le_refl _) _)
    rw [okB_iff, ok]
    simp <;> omega

set_option maxHeartbeats 400000 in
theorem cross_c (a1 a2 b1 b2 c1 c2 : Int) (w : World) (ha : ok a1 a2) (hb : ok b1 b2) (hc : ok c1 c2) : Calls Try.prog 74 #[(.agg #[.int .i64 a1, .int .i64 a2]), (.agg #[.int .i64 b1, .int .i64 b2]), (.agg #[.int .i64 c1, .int .i64 c2])] w (Ret w (.int .i64 (cross a1 a2 b1 b2 c1 c2))) := by
  have ha' := ha
  have hb' := hb
  have hc' := hc
  obtain ⟨ha1, ha2, ha3, ha4⟩ := ha
  obtain ⟨hb1, hb2, hb3, hb4⟩ := hb
  obtain ⟨hc1, hc2, hc3, hc4⟩ := hc
  have m1 := dd_bd (a := b1) (b := a1) (c := c2) (d := a2) (by omega) (by omega) (by omega) (by omega)
  have m2 := dd_bd (a := b2) (b := a2) (c := c1) (d := a1) (by omega) (by omega) (by omega) (by omega)
  obtain ⟨m3, m4⟩ := m1
  obtain ⟨m5, m6⟩ := m2
  go_enter Try.func74, Try.ntmps74
  go_wp2
  go_ret
  exact ret_int rfl ((((Below.refl _ _).alloc (Nat.le_refl _) _).alloc (by simp) _).alloc (by simp; omega) _)

set_option maxHeartbeats 400000 in
theorem dot_c (a1 a2 b1 b2 c1 c2 : Int) (w : World) (ha : ok a1 a2) (hb : ok b1 b2) (hc : ok c1 c2) : Calls Try.prog 72 #[(.agg #[.int .i64 a1, .int .i64 a2]), (.agg #[.int .i64 b1, .int .i64 b2]), (.agg #[.int .i64 c1, .int .i64 c2])] w (Ret w (.int .i64 (dot a1 a2 b1 b2 c1 c2))) := by
  have ha' := ha
  have hb' := hb
  have hc' := hc
  obtain ⟨ha1, ha2, ha3, ha4⟩ := ha
  obtain ⟨hb1, hb2, hb3, hb4⟩ := hb
  obtain ⟨hc1, hc2, hc3, hc4⟩ := hc
  have m1 := dd_bd (a := b1) (b := a1) (c := c1) (d := a1) (by omega) (by omega) (by omega) (by omega)
  have m2 := dd_bd (a := b2) (b := a2) (c := c2) (d := a2) (by omega) (by omega) (by omega) (by omega)
  obtain ⟨m3, m4⟩ := m1
  obtain ⟨m5, m6⟩ := m2
  go_enter Try.func72, Try.ntmps72
  go_wp2
  go_ret
  exact ret_int rfl ((((Below.refl _ _).alloc (Nat.le_refl _) _).alloc (by simp) _).alloc (by simp; omega) _)

set_option maxHeartbeats 400000 in
theorem nan_c (n : Int) (w : World) : Calls Try.prog 77 #[(.int .i64 n)] w (Same w (.bool false)) := by
  go_enter Try.func77, Try.ntmps77
  go_wp2
  go_ret
  exact same_bool (by simp)

set_option maxHeartbeats 400000 in
theorem cmp_c (m n : Int) (w : World) : Calls Try.prog 64 #[(.int .i64 m), (.int .i64 n)] w (Same w (.int .i64 (cmp m n))) := by
  go_enter Try.func64, Try.ntmps64
  go_wp2_with (go_at_call 77; refine (nan_c _ _).mono ?_; rintro e w' ⟨rfl, rfl⟩)
  all_goals
    go_ret
    refine same_int ?_
    unfold cmp
    repeat' split
    all_goals omega

set_option maxHeartbeats 400000 in
theorem sq_c (a1 a2 b1 b2 : Int) (w : World) (ha : ok a1 a2) (hb : ok b1 b2) : Calls Try.prog 73 #[(.agg #[.int .i64 a1, .int .i64 a2]), (.agg #[.int .i64 b1, .int .i64 b2])] w (Ret w (.int .i64 (sq a1 a2 b1 b2))) := by
  go_enter Try.func73, Try.ntmps73
  go_wp2_with fail
  refine (dot_c a1 a2 b1 b2 b1 b2 _ ha hb hb).mono ?_
  rintro e w1 ⟨rfl, hb1⟩
  go_wp2
  go_ret
  exact ret_int rfl (((Below.refl _ _).alloc (Nat.le_refl _) _).alloc (by simp) _ |>.trans (hb1.mono (by simp; omega)))

set_option maxHeartbeats 400000 in
theorem vdist_c (d : Int) (w : World) : Calls Try.prog 60 #[(.int .i64 d)] w (Same w (.bool (okdB d))) := by
  go_enter Try.func60, Try.ntmps60
  go_wp2
  all_goals
    go_ret
    refine same_bool ?_
    rw [okdB_iff, okd]
    simp <;> omega

end Go.Proofs.Ytpadkmlckmopfaa
