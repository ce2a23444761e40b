/- L7Moved: FeatureMoved. -/
import Derived.Test.YtfgajejhjbfhjaaGreatL7MovA
import Derived.Test.YtfgajejhjbfhjaaGreatL7MovB
import Derived.Test.YtfgajejhjbfhjaaGreatRows
import Derived.WalkKit
import Derived.WalkSpells
import Derived.WalkLawsBesides
import Derived.Lib.Hide
import Derived.Deep.QuietTactic
import Derived.BigQuiet
import Derived.RegionTactic
import Derived.ChangeAlike
import Derived.BigRegion
import Derived.Deep.RegionHeld3
import Derived.Deep.RegionWith
import Derived.Outline
import Derived.IntWalk
import Derived.Deep.DeepCutAuto
namespace Go.Proofs.YtfgajejhjbfhjaaGreat.Fe
open Go.RowKit
set_option linter.unusedSimpArgs false
set_option linter.unusedVariables false

theorem moved_law (v u : Value) (f g : Fe) (p1 p2 v1 v2 : Int) (w : World) (hv : FeV w v f) (hu : FeV w u g) : Calls Tryz.prog 9 #[v, u, (.agg #[.int .i64 p1, .int .i64 p2]), (.agg #[.int .i64 v1, .int .i64 v2])] w (Ret w (.bool true)) := by
  cases h1 : vaF f
  · exact moved_1 v u f g p1 p2 v1 v2 w hv hu h1
  · cases h2 : vaF g
    · exact moved_2 v u f g p1 p2 v1 v2 w hv hu h1 h2
    · cases h3 : okB p1 p2
      · exact moved_3 v u f g p1 p2 v1 v2 w hv hu h1 h2 h3
      · cases h4 : okB v1 v2
        · exact moved_4 v u f g p1 p2 v1 v2 w hv hu h1 h2 h3 h4
        · exact moved_ok v u f g p1 p2 v1 v2 w hv hu h1 h2 h3 h4

end Go.Proofs.YtfgajejhjbfhjaaGreat.Fe
