/- L5Turn: Turning. -/
import Derived.Test.YtfhhocihlkgfjaaL5TurnW
import Derived.Test.YtfhhocihlkgfjaaSecY

namespace Go.Proofs.Ytfhhocihlkgfjaa.Se
open Go.RowKit
set_option linter.unusedSimpArgs false
set_option linter.unusedVariables false

theorem turning_c (a1 a2 b1 b2 v1 v2 : Int) (w : World) : Calls Try.prog 4 #[(.agg #[.int .i64 a1, .int .i64 a2]), (.agg #[.int .i64 b1, .int .i64 b2]), (.agg #[.int .i64 v1, .int .i64 v2])] w (Ret w (.bool true)) := turning_walk a1 a2 b1 b2 v1 v2 w head_c

end Go.Proofs.Ytfhhocihlkgfjaa.Se
