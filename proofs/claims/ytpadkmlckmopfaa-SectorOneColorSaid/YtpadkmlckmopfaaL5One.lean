/- L5One: SectorOneColor. -/
import Derived.Test.YtpadkmlckmopfaaOneC
import Derived.Test.YtpadkmlckmopfaaSecY
import Derived.Test.YtpadkmlckmopfaaRows
import Derived.WalkKit
import Derived.WalkSpells
import Derived.WalkLawsBesides
import Derived.Lib.Hide
import Derived.Deep.QuietTactic
import Derived.BigQuiet
import Derived.RegionTactic
import Derived.ChangeAlike
import Derived.BigRegion
import Derived.Deep.RegionHeld3
import Derived.Deep.RegionWith
import Derived.Outline
import Derived.IntWalk
import Derived.Deep.DeepCutAuto
namespace Go.Proofs.Ytpadkmlckmopfaa.Se
open Go.RowKit
set_option linter.unusedSimpArgs false
set_option linter.unusedVariables false

theorem one_law (va : Value) (l : List Sec) (v1 v2 z : Int) (w : World) (ha : Secs w va l) (hz : 0 ≤ z ∧ z ≤ 255) : Calls Try.prog 5 #[va, (.agg #[.int .i64 v1, .int .i64 v2]), .int .u8 z] w (Ret w (.bool true)) := by
  cases hl : (vaL l && okD (v1, v2))
  · exact one_bad va l v1 v2 z w ha head_c hl
  · rw [Bool.and_eq_true] at hl
    exact one_ok va l v1 v2 z w ha head_c hz hl.1 hl.2

end Go.Proofs.Ytpadkmlckmopfaa.Se
