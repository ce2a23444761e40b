/- L5Seen: Seen. -/
import Derived.Test.YtfhhocihlkgfjaaL5SeenW
import Derived.Test.YtfhhocihlkgfjaaSecY

namespace Go.Proofs.Ytfhhocihlkgfjaa.Se
open Go.RowKit
set_option linter.unusedSimpArgs false
set_option linter.unusedVariables false

theorem seen_law (w : World) (va : Value) (l : List Sec) (ha : Secs w va l) (x1 x2 y1 y2 z1 z2 : Int) : Calls Try.prog 10 #[va, (.agg #[.int .i64 x1, .int .i64 x2]), (.agg #[.int .i64 y1, .int .i64 y2]), (.agg #[.int .i64 z1, .int .i64 z2])] w (Ret w (.bool true)) := seen_walk w va l ha x1 x2 y1 y2 z1 z2 head_c

end Go.Proofs.Ytfhhocihlkgfjaa.Se
