/- DatV: the examples. -/
import Derived.Test.YtlkjpackjjncaaaDatU
import Derived.Test.YtlkjpackjjncaaaRows
import Derived.WalkKit
import Derived.WalkSpells
import Derived.WalkLawsBesides
import Derived.Lib.Hide
import Derived.Deep.QuietTactic
import Derived.BigQuiet
import Derived.RegionTactic
import Derived.ChangeAlike
import Derived.BigRegion
import Derived.Deep.RegionHeld3
import Derived.Deep.RegionWith
import Derived.Outline
import Derived.Laws.EntriesVeiled
import Derived.Deep.DeepCutAuto
namespace Go.Proofs.Ytlkjpackjjncaaa.Da
open Go.RowKit Sp
set_option linter.unusedSimpArgs false
set_option linter.unusedVariables false

set_option maxRecDepth 100000 in
theorem ex0 (w : World) : Calls Try.prog 14 #[(.agg #[(.int .i64 0), (.int .i64 (-1000000)), (.int .i64 10), (.int .i64 1000000), (.int .i64 0), (.int .i64 0), (.int .i64 1)]), (.agg #[(.int .i64 3), (.int .i64 4)]), (.agg #[(.int .i64 6), (.int .i64 3)])] w (Ret w (.tuple #[.bool true, (.int .i64 0)])) := by
  have t := Fits_c 0 (-1000000) 10 1000000 0 0 1 3 4 6 3 w
  first
    | exact t
    | (simp (decide := true) only [selI, selB, erv, cond_true, cond_false] at t; exact t)

set_option maxRecDepth 100000 in
theorem ex1 (w : World) : Calls Try.prog 14 #[(.agg #[(.int .i64 0), (.int .i64 (-1000000)), (.int .i64 10), (.int .i64 1000000), (.int .i64 0), (.int .i64 0), (.int .i64 1)]), (.agg #[(.int .i64 3), (.int .i64 4)]), (.agg #[(.int .i64 8), (.int .i64 3)])] w (Ret w (.tuple #[.bool false, (.int .i64 0)])) := by
  have t := Fits_c 0 (-1000000) 10 1000000 0 0 1 3 4 8 3 w
  first
    | exact t
    | (simp (decide := true) only [selI, selB, erv, cond_true, cond_false] at t; exact t)

set_option maxRecDepth 100000 in
theorem ex2 (w : World) : Calls Try.prog 16 #[(.agg #[(.int .i64 0), (.int .i64 (-1000000)), (.int .i64 10), (.int .i64 1000000), (.int .i64 0), (.int .i64 0), (.int .i64 1)]), (.agg #[(.int .i64 3), (.int .i64 4)])] w (Ret w (.tuple #[(.agg #[(.int .i64 5), (.int .i64 7), (.int .i64 2), (.int .i64 4)]), (.int .i64 0)])) := by
  have t := Apply_c 0 (-1000000) 10 1000000 0 0 1 3 4 w
  first
    | exact t
    | (simp (decide := true) only [selI, selB, erv, cond_true, cond_false] at t; exact t)

set_option maxRecDepth 100000 in
theorem ex3 (w : World) : Calls Try.prog 18 #[(.agg #[(.int .i64 0), (.int .i64 (-1000000)), (.int .i64 10), (.int .i64 1000000), (.int .i64 0), (.int .i64 0), (.int .i64 1)]), (.agg #[(.int .i64 0), (.int .i64 10), (.int .i64 0), (.int .i64 20)])] w (Ret w (.tuple #[(.agg #[(.int .i64 (-11)), (.int .i64 11), (.int .i64 (-1)), (.int .i64 11)]), (.int .i64 0)])) := by
  have t := Carry_c 0 (-1000000) 10 1000000 0 0 1 0 10 0 20 w
  first
    | exact t
    | (simp (decide := true) only [selI, selB, erv, cond_true, cond_false] at t; exact t)

set_option maxRecDepth 100000 in
theorem ex4 (w : World) : Calls Try.prog 20 #[(.agg #[(.int .i64 0), (.int .i64 (-1000000)), (.int .i64 10), (.int .i64 1000000), (.int .i64 0), (.int .i64 0), (.int .i64 1)]), (.agg #[(.int .i64 6), (.int .i64 6), (.int .i64 3), (.int .i64 3)])] w (Ret w (.tuple #[(.agg #[(.int .i64 2), (.int .i64 4), (.int .i64 3), (.int .i64 5)]), (.int .i64 0)])) := by
  have t := Back_c 0 (-1000000) 10 1000000 0 0 1 6 6 3 3 w
  first
    | exact t
    | (simp (decide := true) only [selI, selB, erv, cond_true, cond_false] at t; exact t)

set_option maxRecDepth 100000 in
theorem ex5 (w : World) : Calls Try.prog 22 #[(.agg #[(.int .i64 0), (.int .i64 (-1000000)), (.int .i64 10), (.int .i64 1000000), (.int .i64 0), (.int .i64 0), (.int .i64 1)]), (.agg #[(.int .i64 1000000), (.int .i64 0), (.int .i64 5), (.int .i64 0), (.int .i64 1000000), (.int .i64 5), (.int .i64 0)])] w (Ret w (.tuple #[(.agg #[(.int .i64 0), (.int .i64 (-1000000)), (.int .i64 15), (.int .i64 1000000), (.int .i64 0), (.int .i64 5), (.int .i64 3)]), (.int .i64 0)])) := by
  have t := Then_c 0 (-1000000) 10 1000000 0 0 1 1000000 0 5 0 1000000 5 0 w
  first
    | exact t
    | (simp (decide := true) only [selI, selB, erv, cond_true, cond_false] at t; exact t)

set_option maxRecDepth 100000 in
theorem ex6 (w : World) : Calls Try.prog 24 #[(.agg #[(.int .i64 0), (.int .i64 (-1000000)), (.int .i64 10), (.int .i64 1000000), (.int .i64 0), (.int .i64 0), (.int .i64 1)])] w (Ret w (.tuple #[(.agg #[(.int .i64 0), (.int .i64 1000000), (.int .i64 0), (.int .i64 (-1000000)), (.int .i64 0), (.int .i64 10), (.int .i64 4)]), (.int .i64 0)])) := by
  have t := Undo_c 0 (-1000000) 10 1000000 0 0 1 w
  first
    | exact t
    | (simp (decide := true) only [selI, selB, erv, cond_true, cond_false] at t; exact t)

set_option maxRecDepth 100000 in
theorem ex7 (w : World) : Calls Try.prog 16 #[(.agg #[(.int .i64 2000000), (.int .i64 0), (.int .i64 0), (.int .i64 0), (.int .i64 2000000), (.int .i64 0), (.int .i64 0)]), (.agg #[(.int .i64 600000), (.int .i64 0)])] w (Ret w (.tuple #[(.agg #[(.int .i64 0), (.int .i64 0), (.int .i64 0), (.int .i64 0)]), (.int .i64 3)])) := by
  have t := Apply_c 2000000 0 0 0 2000000 0 0 600000 0 w
  first
    | exact t
    | (simp (decide := true) only [selI, selB, erv, cond_true, cond_false] at t; exact t)

set_option maxRecDepth 100000 in
theorem ex8 (w : World) : Calls Try.prog 20 #[(.agg #[(.int .i64 0), (.int .i64 (-1000000)), (.int .i64 10), (.int .i64 1000000), (.int .i64 0), (.int .i64 0), (.int .i64 1)]), (.agg #[(.int .i64 999999), (.int .i64 1000000), (.int .i64 (-1000000)), (.int .i64 (-999999))])] w (Ret w (.tuple #[(.agg #[(.int .i64 (-1000000)), (.int .i64 (-999998)), (.int .i64 (-999991)), (.int .i64 (-999988))]), (.int .i64 0)])) := by
  have t := Back_c 0 (-1000000) 10 1000000 0 0 1 999999 1000000 (-1000000) (-999999) w
  first
    | exact t
    | (simp (decide := true) only [selI, selB, erv, cond_true, cond_false] at t; exact t)

set_option maxRecDepth 100000 in
theorem ex9 (w : World) : Calls Try.prog 20 #[(.agg #[(.int .i64 500000), (.int .i64 0), (.int .i64 0), (.int .i64 0), (.int .i64 500000), (.int .i64 0), (.int .i64 0)]), (.agg #[(.int .i64 999999), (.int .i64 1000000), (.int .i64 0), (.int .i64 0)])] w (Ret w (.tuple #[(.agg #[(.int .i64 0), (.int .i64 0), (.int .i64 0), (.int .i64 0)]), (.int .i64 4)])) := by
  have t := Back_c 500000 0 0 0 500000 0 0 999999 1000000 0 0 w
  first
    | exact t
    | (simp (decide := true) only [selI, selB, erv, cond_true, cond_false] at t; exact t)


end Go.Proofs.Ytlkjpackjjncaaa.Da
