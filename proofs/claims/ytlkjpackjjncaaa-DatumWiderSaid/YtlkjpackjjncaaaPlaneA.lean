/- What the small functions of package plane do: the walks. -/
import Derived.Test.YtlkjpackjjncaaaRows
import Derived.Test.YtlkjpackjjncaaaPlaneM
import Derived.WalkKit
import Derived.WalkSpells
import Derived.WalkLawsBesides
import Derived.Lib.Hide
import Derived.Deep.QuietTactic
import Derived.BigQuiet
namespace Go.Proofs.Ytlkjpackjjncaaa
open Go.RowKit

set_option maxHeartbeats 400000 in
theorem valid_c (a1 a2 : Int) (w : World) : Calls Try.prog 35 #[(.agg #[.int .i64 a1, .int .i64 a2])] w (Ret w (.bool (okB a1 a2))) := by
  go_enter Try.func35, Try.ntmps35
  go_wp2
  all_goals
    go_ret
    refine ret_bool ?_ ((Below.refl _ _).alloc (Nat.le_refl _) _)
    rw [okB_iff, ok]
    simp <;> omega

end Go.Proofs.Ytlkjpackjjncaaa
