/- L5Holds: Holds. -/
import Derived.Test.YtfhhocihlkgfjaaL5HoldsW
import Derived.Test.YtfhhocihlkgfjaaSecY

namespace Go.Proofs.Ytfhhocihlkgfjaa.Se
open Go.RowKit
set_option linter.unusedSimpArgs false
set_option linter.unusedVariables false

theorem holds_law (w : World) (va : Value) (la : List Sec) (ha : Secs w va la) (vb : Value) (lb : List Sec) (hb : Secs w vb lb) (vc : Value) (lc : List Sec) (hc : Secs w vc lc) (k v1 v2 : Int) : Calls Try.prog 6 #[va, vb, vc, (.int .i64 k), (.agg #[.int .i64 v1, .int .i64 v2])] w (Ret w (.bool true)) := holds_walk w va vb vc la lb lc k v1 v2 ha hb hc head_c

end Go.Proofs.Ytfhhocihlkgfjaa.Se
