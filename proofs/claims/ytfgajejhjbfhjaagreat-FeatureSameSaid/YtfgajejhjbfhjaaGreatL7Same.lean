/- L7Same: FeatureSame. -/
import Derived.Test.YtfgajejhjbfhjaaGreatL7SameA
import Derived.Test.YtfgajejhjbfhjaaGreatL7SameB
import Derived.Test.YtfgajejhjbfhjaaGreatL7SameC
import Derived.Test.YtfgajejhjbfhjaaGreatL7SameD
import Derived.Test.YtfgajejhjbfhjaaGreatL7SameE
import Derived.Test.YtfgajejhjbfhjaaGreatRows
import Derived.WalkKit
import Derived.WalkSpells
import Derived.WalkLawsBesides
import Derived.Lib.Hide
import Derived.Deep.QuietTactic
import Derived.BigQuiet
import Derived.RegionTactic
import Derived.ChangeAlike
import Derived.BigRegion
import Derived.Deep.RegionHeld3
import Derived.Deep.RegionWith
import Derived.Outline
import Derived.IntWalk
import Derived.Deep.DeepCutAuto
namespace Go.Proofs.YtfgajejhjbfhjaaGreat.Fe
open Go.RowKit
set_option linter.unusedSimpArgs false
set_option linter.unusedVariables false

theorem same_c (v u x : Value) (f g h : Fe) (n : Int) (w : World) (hv : FeV w v f) (hu : FeV w u g) (hx : FeV w x h) : Calls Tryz.prog 10 #[v, u, x, (.int .i64 n)] w (Ret w (.bool true)) := by
  cases hfg : saF f g
  · exact same_ne v u x f g h n w hv hu hx hfg
  · obtain rfl := saF_iff.1 hfg
    cases hgh : saF f h
    · cases hva : vaF f
      · exact same_tff v u x f h n w hv hu hx hgh hva
      · exact same_tft v u x f h n w hv hu hx hgh hva
    · obtain rfl := saF_iff.1 hgh
      cases hva : vaF f
      · exact same_ttf v u x f n w hv hu hx hva
      · exact same_ttt v u x f n w hv hu hx hva

end Go.Proofs.YtfgajejhjbfhjaaGreat.Fe
