/- L7Touch: FeatureTouches. -/
import Derived.Test.YtfgajejhjbfhjaaGreatL7TouchA
import Derived.Test.YtfgajejhjbfhjaaGreatL7TouchB
import Derived.Test.YtfgajejhjbfhjaaGreatRows
import Derived.WalkKit
import Derived.WalkSpells
import Derived.WalkLawsBesides
import Derived.Lib.Hide
import Derived.Deep.QuietTactic
import Derived.BigQuiet
import Derived.RegionTactic
import Derived.ChangeAlike
import Derived.BigRegion
import Derived.Deep.RegionHeld3
import Derived.Deep.RegionWith
import Derived.Outline
import Derived.IntWalk
import Derived.Deep.DeepCutAuto
namespace Go.Proofs.YtfgajejhjbfhjaaGreat.Fe
open Go.RowKit
set_option linter.unusedSimpArgs false
set_option linter.unusedVariables false

theorem touches_law (v u : Value) (f g : Fe) (p1 p2 : Int) (w : World) (hv : FeV w v f) (hu : FeV w u g) : Calls Tryz.prog 8 #[v, u, (.agg #[.int .i64 p1, .int .i64 p2])] w (Ret w (.bool true)) := by
  cases hf : vaF f
  · exact touches_bad v u f g p1 p2 w hv hu (by rw [hf]; rfl)
  · cases hg : vaF g
    · exact touches_bad v u f g p1 p2 w hv hu (by rw [hf, hg]; rfl)
    · cases hp : okB p1 p2
      · exact touches_no v u f g p1 p2 w hv hu hf hg hp
      · exact touches_ok v u f g p1 p2 w hv hu hf hg (okB_iff.1 hp)

end Go.Proofs.YtfgajejhjbfhjaaGreat.Fe
