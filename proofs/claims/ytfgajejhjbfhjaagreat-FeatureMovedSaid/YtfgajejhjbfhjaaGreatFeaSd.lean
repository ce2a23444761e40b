/- FeaSd: shifted. -/
import Derived.Test.YtfgajejhjbfhjaaGreatFeaSc
import Derived.Test.YtfgajejhjbfhjaaGreatRows
import Derived.WalkKit
import Derived.WalkSpells
import Derived.WalkLawsBesides
import Derived.Lib.Hide
import Derived.Deep.QuietTactic
import Derived.BigQuiet
import Derived.RegionTactic
import Derived.ChangeAlike
import Derived.BigRegion
import Derived.Deep.RegionHeld3
import Derived.Deep.RegionWith
import Derived.Outline
import Derived.IntWalk
import Derived.Deep.DeepCutAuto
namespace Go.Proofs.YtfgajejhjbfhjaaGreat.Fe
open Go.RowKit
set_option linter.unusedSimpArgs false
set_option linter.unusedVariables false

theorem shift_c (v : Value) (f : Fe) (v1 v2 : Int) (w : World) (hv : FeV w v f) (hva : vaF f = true) (hp : ok v1 v2) : Calls Tryz.prog 31 #[v, (.agg #[.int .i64 v1, .int .i64 v2])] w (ShfPost f v1 v2 w) := by
  by_cases hk : f.ki = 3 ∨ f.ki = 6
  · exact shiftP_c v f v1 v2 w hv hva hk hp
  · have h := va_ok hva hv.2.1 hv.2.2
    refine shiftD_c v f v1 v2 w hv hk ?_ hp
    unfold shF at h
    rw [if_neg hk] at h
    by_cases hl : f.ki = 4
    · rw [if_pos hl] at h
      exact h.2
    · rw [if_neg hl] at h
      exact h.1


end Go.Proofs.YtfgajejhjbfhjaaGreat.Fe
