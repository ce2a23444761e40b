/- DatU: the small functions of the laws of layer 4. -/
import Derived.Test.YtlkjpackjjncaaaDatO
import Derived.Test.YtlkjpackjjncaaaDatP
import Derived.Test.YtlkjpackjjncaaaDatQ
import Derived.Test.YtlkjpackjjncaaaDatR
import Derived.Test.YtlkjpackjjncaaaDatT
import Derived.Test.YtlkjpackjjncaaaRows
import Derived.WalkKit
import Derived.WalkSpells
import Derived.WalkLawsBesides
import Derived.Lib.Hide
import Derived.Deep.QuietTactic
import Derived.BigQuiet
import Derived.RegionTactic
import Derived.ChangeAlike
import Derived.BigRegion
import Derived.Deep.RegionHeld3
import Derived.Deep.RegionWith
import Derived.Outline
import Derived.Laws.EntriesVeiled
import Derived.Deep.DeepCutAuto
namespace Go.Proofs.Ytlkjpackjjncaaa.Da
open Go.RowKit Sp
set_option linter.unusedSimpArgs false
set_option linter.unusedVariables false

def inB (b1 b2 b3 b4 p1 p2 : Int) : Bool := decide (b1 ≤ p1) && decide (p1 ≤ b2) && decide (b3 ≤ p2) && decide (p2 ≤ b4)
theorem inB_iff {b1 b2 b3 b4 p1 p2 : Int} : inB b1 b2 b3 b4 p1 p2 = true ↔ b1 ≤ p1 ∧ p1 ≤ b2 ∧ b3 ≤ p2 ∧ p2 ≤ b4 := by simp [inB, and_assoc]
def wiB (a1 a2 a3 a4 b1 b2 b3 b4 : Int) : Bool := decide (b1 ≤ a1) && decide (a2 ≤ b2) && decide (b3 ≤ a3) && decide (a4 ≤ b4)
theorem wiB_iff {a1 a2 a3 a4 b1 b2 b3 b4 : Int} : wiB a1 a2 a3 a4 b1 b2 b3 b4 = true ↔ b1 ≤ a1 ∧ a2 ≤ b2 ∧ b3 ≤ a3 ∧ a4 ≤ b4 := by simp [wiB, and_assoc]

set_option maxHeartbeats 400000 in
theorem box_c (a b c d : Int) (w : World)  : Calls Try.prog 27 #[(.int .i64 a), (.int .i64 b), (.int .i64 c), (.int .i64 d)] w (Ret w (.agg #[(.int .i64 a), (.int .i64 b), (.int .i64 c), (.int .i64 d)])) := by
  go_enter Try.func27, Try.ntmps27
  go_wp2
  all_goals
    refine bodyPost_ret ?_ rfl ⟨rfl, (by repeat (first | with_reducible exact Below.refl _ _ | with_reducible assumption | with_reducible refine Below.setCell ?_ (by first | omega | (simp <;> omega)) _ | with_reducible refine balloc ?_ _ | with_reducible refine Below.drew ?_ | with_reducible refine bstep ?_ (by with_reducible assumption)))⟩
    simp [results, Try.results27, go_sem]

set_option maxHeartbeats 1600000 in
theorem in_c (b1 b2 b3 b4 p1 p2 : Int) (w : World)  : Calls Try.prog 26 #[(.agg #[(.int .i64 b1), (.int .i64 b2), (.int .i64 b3), (.int .i64 b4)]), (.agg #[(.int .i64 p1), (.int .i64 p2)])] w (Ret w (.bool (inB b1 b2 b3 b4 p1 p2))) := by
  go_enter Try.func26, Try.ntmps26
  go_wp2
  all_goals
    go_ret
    refine ret_bool ?_ (by repeat (first | with_reducible exact Below.refl _ _ | with_reducible assumption | with_reducible refine Below.setCell ?_ (by first | omega | (simp <;> omega)) _ | with_reducible refine balloc ?_ _ | with_reducible refine Below.drew ?_ | with_reducible refine bstep ?_ (by with_reducible assumption)))
    simp [inB, wiB] <;> omega

set_option maxHeartbeats 1600000 in
theorem win_c (a1 a2 a3 a4 b1 b2 b3 b4 : Int) (w : World)  : Calls Try.prog 28 #[(.agg #[(.int .i64 a1), (.int .i64 a2), (.int .i64 a3), (.int .i64 a4)]), (.agg #[(.int .i64 b1), (.int .i64 b2), (.int .i64 b3), (.int .i64 b4)])] w (Ret w (.bool (wiB a1 a2 a3 a4 b1 b2 b3 b4))) := by
  go_enter Try.func28, Try.ntmps28
  go_wp2
  all_goals
    go_ret
    refine ret_bool ?_ (by repeat (first | with_reducible exact Below.refl _ _ | with_reducible assumption | with_reducible refine Below.setCell ?_ (by first | omega | (simp <;> omega)) _ | with_reducible refine balloc ?_ _ | with_reducible refine Below.drew ?_ | with_reducible refine bstep ?_ (by with_reducible assumption)))
    simp [inB, wiB] <;> omega


end Go.Proofs.Ytlkjpackjjncaaa.Da
