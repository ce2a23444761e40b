/- SecY: head. -/
import Derived.Test.YtpadkmlckmopfaaSecYc
import Derived.Test.YtpadkmlckmopfaaRows
import Derived.WalkKit
import Derived.WalkSpells
import Derived.WalkLawsBesides
import Derived.Lib.Hide
import Derived.Deep.QuietTactic
import Derived.BigQuiet
import Derived.RegionTactic
import Derived.ChangeAlike
import Derived.BigRegion
import Derived.Deep.RegionHeld3
import Derived.Deep.RegionWith
import Derived.Outline
import Derived.IntWalk
import Derived.Deep.DeepCutAuto
namespace Go.Proofs.Ytpadkmlckmopfaa.Se
open Go.RowKit
set_option linter.unusedSimpArgs false
set_option linter.unusedVariables false

theorem head_c (w : World) : Calls Try.prog 11 #[] w (Ret w (.bool true)) := (segA w).h ⟨(segB w).h ⟨segC w⟩⟩

end Go.Proofs.Ytpadkmlckmopfaa.Se
