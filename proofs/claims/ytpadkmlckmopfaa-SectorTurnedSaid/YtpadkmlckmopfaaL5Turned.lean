/- L5Turned: SectorTurned. -/
import Derived.Test.YtpadkmlckmopfaaTurE
import Derived.Test.YtpadkmlckmopfaaSecY
import Derived.Test.YtpadkmlckmopfaaRows
import Derived.WalkKit
import Derived.WalkSpells
import Derived.WalkLawsBesides
import Derived.Lib.Hide
import Derived.Deep.QuietTactic
import Derived.BigQuiet
import Derived.RegionTactic
import Derived.ChangeAlike
import Derived.BigRegion
import Derived.Deep.RegionHeld3
import Derived.Deep.RegionWith
import Derived.Outline
import Derived.IntWalk
import Derived.Deep.DeepCutAuto
namespace Go.Proofs.Ytpadkmlckmopfaa.Se
open Go.RowKit
set_option linter.unusedSimpArgs false
set_option linter.unusedVariables false

theorem turned_law (w : World) (va : Value) (la : List Sec) (ha : Secs w va la) (vb : Value) (lb : List Sec) (hb : Secs w vb lb) (v1 v2 : Int) : Calls Try.prog 9 #[va, vb, (.agg #[.int .i64 v1, .int .i64 v2])] w (Ret w (.bool true)) := by
  cases hl : vaL la
  · exact turned_bad va vb la lb v1 v2 w ha hb head_c (by rw [hl]; rfl)
  · cases hm : vaL lb
    · exact turned_bad va vb la lb v1 v2 w ha hb head_c (by rw [hl, hm]; rfl)
    · exact turned_ok va vb la lb v1 v2 w ha hb head_c hl hm

end Go.Proofs.Ytpadkmlckmopfaa.Se
