/- L4Loses: the law DatumLosesNothing. -/
import Derived.Test.YtlkjpackjjncaaaDatY
import Derived.Test.YtlkjpackjjncaaaRows
import Derived.WalkKit
import Derived.WalkSpells
import Derived.WalkLawsBesides
import Derived.Lib.Hide
import Derived.Deep.QuietTactic
import Derived.BigQuiet
import Derived.RegionTactic
import Derived.ChangeAlike
import Derived.BigRegion
import Derived.Deep.RegionHeld3
import Derived.Deep.RegionWith
import Derived.Outline
import Derived.Laws.EntriesVeiled
import Derived.Deep.DeepCutAuto
namespace Go.Proofs.Ytlkjpackjjncaaa.Da
open Go.RowKit Sp
set_option linter.unusedSimpArgs false
set_option linter.unusedVariables false

set_option maxRecDepth 100000 in
set_option maxHeartbeats 25600000 in
theorem loses_law (m1 m2 m3 m4 m5 m6 m7 p1 p2 q1 q2 b1 b2 b3 b4 c1 c2 c3 c4 : Int) (w : World)  : Calls Try.prog 4 #[(.agg #[(.int .i64 m1), (.int .i64 m2), (.int .i64 m3), (.int .i64 m4), (.int .i64 m5), (.int .i64 m6), (.int .i64 m7)]), (.agg #[(.int .i64 p1), (.int .i64 p2)]), (.agg #[(.int .i64 q1), (.int .i64 q2)]), (.agg #[(.int .i64 b1), (.int .i64 b2), (.int .i64 b3), (.int .i64 b4)]), (.agg #[(.int .i64 c1), (.int .i64 c2), (.int .i64 c3), (.int .i64 c4)])] w (Ret w (.bool true)) := by
  rcases fits3 m1 m2 m3 m4 m5 m6 m7 p1 p2 q1 q2 with ⟨h1, F1⟩ | ⟨h1, k1, F1⟩ | ⟨h1, k1, F1⟩
  · go_enter Try.func4, Try.ntmps4
    go_wp2_with fail
    refine Calls.mono (head_c _) ?_
    rintro e w1 ⟨rfl, hb⟩
    have km0 : w1.cell? ⟨w.heap.size, 0, none⟩ = some (.int .i64 m1) := cell_later hb (by go_simp)
    have km1 : w1.cell? ⟨w.heap.size, 1, none⟩ = some (.int .i64 m2) := cell_later hb (by go_simp)
    have km2 : w1.cell? ⟨w.heap.size, 2, none⟩ = some (.int .i64 m3) := cell_later hb (by go_simp)
    have km3 : w1.cell? ⟨w.heap.size, 3, none⟩ = some (.int .i64 m4) := cell_later hb (by go_simp)
    have km4 : w1.cell? ⟨w.heap.size, 4, none⟩ = some (.int .i64 m5) := cell_later hb (by go_simp)
    have km5 : w1.cell? ⟨w.heap.size, 5, none⟩ = some (.int .i64 m6) := cell_later hb (by go_simp)
    have km6 : w1.cell? ⟨w.heap.size, 6, none⟩ = some (.int .i64 m7) := cell_later hb (by go_simp)
    have kp0 : w1.cell? ⟨w.heap.size + 1, 0, none⟩ = some (.int .i64 p1) := cell_later hb (by go_simp)
    have kp1 : w1.cell? ⟨w.heap.size + 1, 1, none⟩ = some (.int .i64 p2) := cell_later hb (by go_simp)
    have kq0 : w1.cell? ⟨w.heap.size + 1 + 1, 0, none⟩ = some (.int .i64 q1) := cell_later hb (by go_simp)
    have kq1 : w1.cell? ⟨w.heap.size + 1 + 1, 1, none⟩ = some (.int .i64 q2) := cell_later hb (by go_simp)
    have kb0 : w1.cell? ⟨w.heap.size + 1 + 1 + 1, 0, none⟩ = some (.int .i64 b1) := cell_later hb (by go_simp)
    have kb1 : w1.cell? ⟨w.heap.size + 1 + 1 + 1, 1, none⟩ = some (.int .i64 b2) := cell_later hb (by go_simp)
    have kb2 : w1.cell? ⟨w.heap.size + 1 + 1 + 1, 2, none⟩ = some (.int .i64 b3) := cell_later hb (by go_simp)
    have kb3 : w1.cell? ⟨w.heap.size + 1 + 1 + 1, 3, none⟩ = some (.int .i64 b4) := cell_later hb (by go_simp)
    have kc0 : w1.cell? ⟨w.heap.size + 1 + 1 + 1 + 1, 0, none⟩ = some (.int .i64 c1) := cell_later hb (by go_simp)
    have kc1 : w1.cell? ⟨w.heap.size + 1 + 1 + 1 + 1, 1, none⟩ = some (.int .i64 c2) := cell_later hb (by go_simp)
    have kc2 : w1.cell? ⟨w.heap.size + 1 + 1 + 1 + 1, 2, none⟩ = some (.int .i64 c3) := cell_later hb (by go_simp)
    have kc3 : w1.cell? ⟨w.heap.size + 1 + 1 + 1 + 1, 3, none⟩ = some (.int .i64 c4) := cell_later hb (by go_simp)
    have zm : w.heap.size < w1.heap.size := World.block_lt_of_cell? _ _ km0
    have zm_w1 := zm
    have zp : w.heap.size + 1 < w1.heap.size := World.block_lt_of_cell? _ _ kp0
    have zp_w1 := zp
    have zq : w.heap.size + 1 + 1 < w1.heap.size := World.block_lt_of_cell? _ _ kq0
    have zq_w1 := zq
    have zb : w.heap.size + 1 + 1 + 1 < w1.heap.size := World.block_lt_of_cell? _ _ kb0
    have zb_w1 := zb
    have zc : w.heap.size + 1 + 1 + 1 + 1 < w1.heap.size := World.block_lt_of_cell? _ _ kc0
    have zc_w1 := zc
    have hb0 : Below w.heap.size w w1 := (by repeat (first | with_reducible exact Below.refl _ _ | with_reducible assumption | with_reducible refine Below.setCell ?_ (by first | omega | (simp <;> omega)) _ | with_reducible refine balloc ?_ _ | with_reducible refine Below.drew ?_ | with_reducible refine bstep ?_ (by with_reducible assumption)))
    have hs_w1 := hb.size; (try simp only [World.size_alloc, World.size_setCell] at hs_w1)
    clear hb
    go_wp2_with fail
    refine Calls.mono (F1 _) ?_
    rintro e w2 ⟨rfl, hb⟩
    replace km0 := cell_later hb km0
    replace km1 := cell_later hb km1
    replace km2 := cell_later hb km2
    replace km3 := cell_later hb km3
    replace km4 := cell_later hb km4
    replace km5 := cell_later hb km5
    replace km6 := cell_later hb km6
    replace kp0 := cell_later hb kp0
    replace kp1 := cell_later hb kp1
    replace kq0 := cell_later hb kq0
    replace kq1 := cell_later hb kq1
    replace kb0 := cell_later hb kb0
    replace kb1 := cell_later hb kb1
    replace kb2 := cell_later hb kb2
    replace kb3 := cell_later hb kb3
    replace kc0 := cell_later hb kc0
    replace kc1 := cell_later hb kc1
    replace kc2 := cell_later hb kc2
    replace kc3 := cell_later hb kc3
    replace zm : w.heap.size < w2.heap.size := World.block_lt_of_cell? _ _ km0
    have zm_w2 := zm
    replace zp : w.heap.size + 1 < w2.heap.size := World.block_lt_of_cell? _ _ kp0
    have zp_w2 := zp
    replace zq : w.heap.size + 1 + 1 < w2.heap.size := World.block_lt_of_cell? _ _ kq0
    have zq_w2 := zq
    replace zb : w.heap.size + 1 + 1 + 1 < w2.heap.size := World.block_lt_of_cell? _ _ kb0
    have zb_w2 := zb
    replace zc : w.heap.size + 1 + 1 + 1 + 1 < w2.heap.size := World.block_lt_of_cell? _ _ kc0
    have zc_w2 := zc
    replace hb0 : Below w.heap.size w w2 := (by repeat (first | with_reducible exact Below.refl _ _ | with_reducible assumption | with_reducible refine Below.setCell ?_ (by first | omega | (simp <;> omega)) _ | with_reducible refine balloc ?_ _ | with_reducible refine Below.drew ?_ | with_reducible refine bstep ?_ (by with_reducible assumption)))
    have hs_w2 : w1.heap.size ≤ w2.heap.size := hb.size
    clear hb
    go_wp2
    all_goals first | (exfalso; omega) | (go_ret; refine ret_bool ?_ (by repeat (first | with_reducible exact Below.refl _ _ | with_reducible assumption | with_reducible refine Below.setCell ?_ (by first | omega | (simp <;> omega)) _ | with_reducible refine balloc ?_ _ | with_reducible refine Below.drew ?_ | with_reducible refine bstep ?_ (by with_reducible assumption))); first | (simp; done) | (simp <;> omega) | (simp [*]; done))
  · go_enter Try.func4, Try.ntmps4
    go_wp2_with fail
    refine Calls.mono (head_c _) ?_
    rintro e w1 ⟨rfl, hb⟩
    have km0 : w1.cell? ⟨w.heap.size, 0, none⟩ = some (.int .i64 m1) := cell_later hb (by go_simp)
    have km1 : w1.cell? ⟨w.heap.size, 1, none⟩ = some (.int .i64 m2) := cell_later hb (by go_simp)
    have km2 : w1.cell? ⟨w.heap.size, 2, none⟩ = some (.int .i64 m3) := cell_later hb (by go_simp)
    have km3 : w1.cell? ⟨w.heap.size, 3, none⟩ = some (.int .i64 m4) := cell_later hb (by go_simp)
    have km4 : w1.cell? ⟨w.heap.size, 4, none⟩ = some (.int .i64 m5) := cell_later hb (by go_simp)
    have km5 : w1.cell? ⟨w.heap.size, 5, none⟩ = some (.int .i64 m6) := cell_later hb (by go_simp)
    have km6 : w1.cell? ⟨w.heap.size, 6, none⟩ = some (.int .i64 m7) := cell_later hb (by go_simp)
    have kp0 : w1.cell? ⟨w.heap.size + 1, 0, none⟩ = some (.int .i64 p1) := cell_later hb (by go_simp)
    have kp1 : w1.cell? ⟨w.heap.size + 1, 1, none⟩ = some (.int .i64 p2) := cell_later hb (by go_simp)
    have kq0 : w1.cell? ⟨w.heap.size + 1 + 1, 0, none⟩ = some (.int .i64 q1) := cell_later hb (by go_simp)
    have kq1 : w1.cell? ⟨w.heap.size + 1 + 1, 1, none⟩ = some (.int .i64 q2) := cell_later hb (by go_simp)
    have kb0 : w1.cell? ⟨w.heap.size + 1 + 1 + 1, 0, none⟩ = some (.int .i64 b1) := cell_later hb (by go_simp)
    have kb1 : w1.cell? ⟨w.heap.size + 1 + 1 + 1, 1, none⟩ = some (.int .i64 b2) := cell_later hb (by go_simp)
    have kb2 : w1.cell? ⟨w.heap.size + 1 + 1 + 1, 2, none⟩ = some (.int .i64 b3) := cell_later hb (by go_simp)
    have kb3 : w1.cell? ⟨w.heap.size + 1 + 1 + 1, 3, none⟩ = some (.int .i64 b4) := cell_later hb (by go_simp)
    have kc0 : w1.cell? ⟨w.heap.size + 1 + 1 + 1 + 1, 0, none⟩ = some (.int .i64 c1) := cell_later hb (by go_simp)
    have kc1 : w1.cell? ⟨w.heap.size + 1 + 1 + 1 + 1, 1, none⟩ = some (.int .i64 c2) := cell_later hb (by go_simp)
    have kc2 : w1.cell? ⟨w.heap.size + 1 + 1 + 1 + 1, 2, none⟩ = some (.int .i64 c3) := cell_later hb (by go_simp)
    have kc3 : w1.cell? ⟨w.heap.size + 1 + 1 + 1 + 1, 3, none⟩ = some (.int .i64 c4) := cell_later hb (by go_simp)
    have zm : w.heap.size < w1.heap.size := World.block_lt_of_cell? _ _ km0
    have zm_w1 := zm
    have zp : w.heap.size + 1 < w1.heap.size := World.block_lt_of_cell? _ _ kp0
    have zp_w1 := zp
    have zq : w.heap.size + 1 + 1 < w1.heap.size := World.block_lt_of_cell? _ _ kq0
    have zq_w1 := zq
    have zb : w.heap.size + 1 + 1 + 1 < w1.heap.size := World.block_lt_of_cell? _ _ kb0
    have zb_w1 := zb
    have zc : w.heap.size + 1 + 1 + 1 + 1 < w1.heap.size := World.block_lt_of_cell? _ _ kc0
    have zc_w1 := zc
    have hb0 : Below w.heap.size w w1 := (by repeat (first | with_reducible exact Below.refl _ _ | with_reducible assumption | with_reducible refine Below.setCell ?_ (by first | omega | (simp <;> omega)) _ | with_reducible refine balloc ?_ _ | with_reducible refine Below.drew ?_ | with_reducible refine bstep ?_ (by with_reducible assumption)))
    have hs_w1 := hb.size; (try simp only [World.size_alloc, World.size_setCell] at hs_w1)
    clear hb
    go_wp2_with fail
    refine Calls.mono (F1 _) ?_
    rintro e w2 ⟨rfl, hb⟩
    replace km0 := cell_later hb km0
    replace km1 := cell_later hb km1
    replace km2 := cell_later hb km2
    replace km3 := cell_later hb km3
    replace km4 := cell_later hb km4
    replace km5 := cell_later hb km5
    replace km6 := cell_later hb km6
    replace kp0 := cell_later hb kp0
    replace kp1 := cell_later hb kp1
    replace kq0 := cell_later hb kq0
    replace kq1 := cell_later hb kq1
    replace kb0 := cell_later hb kb0
    replace kb1 := cell_later hb kb1
    replace kb2 := cell_later hb kb2
    replace kb3 := cell_later hb kb3
    replace kc0 := cell_later hb kc0
    replace kc1 := cell_later hb kc1
    replace kc2 := cell_later hb kc2
    replace kc3 := cell_later hb kc3
    replace zm : w.heap.size < w2.heap.size := World.block_lt_of_cell? _ _ km0
    have zm_w2 := zm
    replace zp : w.heap.size + 1 < w2.heap.size := World.block_lt_of_cell? _ _ kp0
    have zp_w2 := zp
    replace zq : w.heap.size + 1 + 1 < w2.heap.size := World.block_lt_of_cell? _ _ kq0
    have zq_w2 := zq
    replace zb : w.heap.size + 1 + 1 + 1 < w2.heap.size := World.block_lt_of_cell? _ _ kb0
    have zb_w2 := zb
    replace zc : w.heap.size + 1 + 1 + 1 + 1 < w2.heap.size := World.block_lt_of_cell? _ _ kc0
    have zc_w2 := zc
    replace hb0 : Below w.heap.size w w2 := (by repeat (first | with_reducible exact Below.refl _ _ | with_reducible assumption | with_reducible refine Below.setCell ?_ (by first | omega | (simp <;> omega)) _ | with_reducible refine balloc ?_ _ | with_reducible refine Below.drew ?_ | with_reducible refine bstep ?_ (by with_reducible assumption)))
    have hs_w2 : w1.heap.size ≤ w2.heap.size := hb.size
    clear hb
    go_wp2
    all_goals first | (exfalso; omega) | (go_ret; refine ret_bool ?_ (by repeat (first | with_reducible exact Below.refl _ _ | with_reducible assumption | with_reducible refine Below.setCell ?_ (by first | omega | (simp <;> omega)) _ | with_reducible refine balloc ?_ _ | with_reducible refine Below.drew ?_ | with_reducible refine bstep ?_ (by with_reducible assumption))); first | (simp; done) | (simp <;> omega) | (simp [*]; done))
  ·
    obtain ⟨x1, x2, x3, x4, f, hA, A⟩ := lost_apply h1 k1
    obtain ⟨y1, y2, y3, y4, g, hY, Y⟩ := lost_carry b1 b2 b3 b4 h1 k1
    obtain ⟨z1, z2, z3, z4, t, hZ, Z⟩ := lost_back c1 c2 c3 c4 h1 k1
    clear h1 k1
    generalize hib : inB b1 b2 b3 b4 p1 p2 = ib at hY
    generalize hic : inB c1 c2 c3 c4 q1 q2 = ic at hZ
    have I1 := fun w => in_c x1 x2 x3 x4 q1 q2 w
    have I2 := fun w => in_c b1 b2 b3 b4 p1 p2 w
    have I3 := fun w => in_c y1 y2 y3 y4 q1 q2 w
    have I4 := fun w => in_c c1 c2 c3 c4 q1 q2 w
    have I5 := fun w => in_c z1 z2 z3 z4 p1 p2 w
    rw [hib] at I2
    rw [hic] at I4
    clear hib hic
    go_enter Try.func4, Try.ntmps4
    go_wp2_with fail
    refine Calls.mono (head_c _) ?_
    rintro e w1 ⟨rfl, hb⟩
    have km0 : w1.cell? ⟨w.heap.size, 0, none⟩ = some (.int .i64 m1) := cell_later hb (by go_simp)
    have km1 : w1.cell? ⟨w.heap.size, 1, none⟩ = some (.int .i64 m2) := cell_later hb (by go_simp)
    have km2 : w1.cell? ⟨w.heap.size, 2, none⟩ = some (.int .i64 m3) := cell_later hb (by go_simp)
    have km3 : w1.cell? ⟨w.heap.size, 3, none⟩ = some (.int .i64 m4) := cell_later hb (by go_simp)
    have km4 : w1.cell? ⟨w.heap.size, 4, none⟩ = some (.int .i64 m5) := cell_later hb (by go_simp)
    have km5 : w1.cell? ⟨w.heap.size, 5, none⟩ = some (.int .i64 m6) := cell_later hb (by go_simp)
    have km6 : w1.cell? ⟨w.heap.size, 6, none⟩ = some (.int .i64 m7) := cell_later hb (by go_simp)
    have kp0 : w1.cell? ⟨w.heap.size + 1, 0, none⟩ = some (.int .i64 p1) := cell_later hb (by go_simp)
    have kp1 : w1.cell? ⟨w.heap.size + 1, 1, none⟩ = some (.int .i64 p2) := cell_later hb (by go_simp)
    have kq0 : w1.cell? ⟨w.heap.size + 1 + 1, 0, none⟩ = some (.int .i64 q1) := cell_later hb (by go_simp)
    have kq1 : w1.cell? ⟨w.heap.size + 1 + 1, 1, none⟩ = some (.int .i64 q2) := cell_later hb (by go_simp)
    have kb0 : w1.cell? ⟨w.heap.size + 1 + 1 + 1, 0, none⟩ = some (.int .i64 b1) := cell_later hb (by go_simp)
    have kb1 : w1.cell? ⟨w.heap.size + 1 + 1 + 1, 1, none⟩ = some (.int .i64 b2) := cell_later hb (by go_simp)
    have kb2 : w1.cell? ⟨w.heap.size + 1 + 1 + 1, 2, none⟩ = some (.int .i64 b3) := cell_later hb (by go_simp)
    have kb3 : w1.cell? ⟨w.heap.size + 1 + 1 + 1, 3, none⟩ = some (.int .i64 b4) := cell_later hb (by go_simp)
    have kc0 : w1.cell? ⟨w.heap.size + 1 + 1 + 1 + 1, 0, none⟩ = some (.int .i64 c1) := cell_later hb (by go_simp)
    have kc1 : w1.cell? ⟨w.heap.size + 1 + 1 + 1 + 1, 1, none⟩ = some (.int .i64 c2) := cell_later hb (by go_simp)
    have kc2 : w1.cell? ⟨w.heap.size + 1 + 1 + 1 + 1, 2, none⟩ = some (.int .i64 c3) := cell_later hb (by go_simp)
    have kc3 : w1.cell? ⟨w.heap.size + 1 + 1 + 1 + 1, 3, none⟩ = some (.int .i64 c4) := cell_later hb (by go_simp)
    have zm : w.heap.size < w1.heap.size := World.block_lt_of_cell? _ _ km0
    have zm_w1 := zm
    have zp : w.heap.size + 1 < w1.heap.size := World.block_lt_of_cell? _ _ kp0
    have zp_w1 := zp
    have zq : w.heap.size + 1 + 1 < w1.heap.size := World.block_lt_of_cell? _ _ kq0
    have zq_w1 := zq
    have zb : w.heap.size + 1 + 1 + 1 < w1.heap.size := World.block_lt_of_cell? _ _ kb0
    have zb_w1 := zb
    have zc : w.heap.size + 1 + 1 + 1 + 1 < w1.heap.size := World.block_lt_of_cell? _ _ kc0
    have zc_w1 := zc
    have hb0 : Below w.heap.size w w1 := (by repeat (first | with_reducible exact Below.refl _ _ | with_reducible assumption | with_reducible refine Below.setCell ?_ (by first | omega | (simp <;> omega)) _ | with_reducible refine balloc ?_ _ | with_reducible refine Below.drew ?_ | with_reducible refine bstep ?_ (by with_reducible assumption)))
    have hs_w1 := hb.size; (try simp only [World.size_alloc, World.size_setCell] at hs_w1)
    clear hb
    go_wp2_with fail
    refine Calls.mono (F1 _) ?_
    rintro e w2 ⟨rfl, hb⟩
    replace km0 := cell_later hb km0
    replace km1 := cell_later hb km1
    replace km2 := cell_later hb km2
    replace km3 := cell_later hb km3
    replace km4 := cell_later hb km4
    replace km5 := cell_later hb km5
    replace km6 := cell_later hb km6
    replace kp0 := cell_later hb kp0
    replace kp1 := cell_later hb kp1
    replace kq0 := cell_later hb kq0
    replace kq1 := cell_later hb kq1
    replace kb0 := cell_later hb kb0
    replace kb1 := cell_later hb kb1
    replace kb2 := cell_later hb kb2
    replace kb3 := cell_later hb kb3
    replace kc0 := cell_later hb kc0
    replace kc1 := cell_later hb kc1
    replace kc2 := cell_later hb kc2
    replace kc3 := cell_later hb kc3
    replace zm : w.heap.size < w2.heap.size := World.block_lt_of_cell? _ _ km0
    have zm_w2 := zm
    replace zp : w.heap.size + 1 < w2.heap.size := World.block_lt_of_cell? _ _ kp0
    have zp_w2 := zp
    replace zq : w.heap.size + 1 + 1 < w2.heap.size := World.block_lt_of_cell? _ _ kq0
    have zq_w2 := zq
    replace zb : w.heap.size + 1 + 1 + 1 < w2.heap.size := World.block_lt_of_cell? _ _ kb0
    have zb_w2 := zb
    replace zc : w.heap.size + 1 + 1 + 1 + 1 < w2.heap.size := World.block_lt_of_cell? _ _ kc0
    have zc_w2 := zc
    replace hb0 : Below w.heap.size w w2 := (by repeat (first | with_reducible exact Below.refl _ _ | with_reducible assumption | with_reducible refine Below.setCell ?_ (by first | omega | (simp <;> omega)) _ | with_reducible refine balloc ?_ _ | with_reducible refine Below.drew ?_ | with_reducible refine bstep ?_ (by with_reducible assumption)))
    have hs_w2 : w1.heap.size ≤ w2.heap.size := hb.size
    clear hb
    go_wp2_with fail
    refine Calls.mono (A _) ?_
    rintro e w3 ⟨rfl, hb⟩
    replace km0 := cell_later hb km0
    replace km1 := cell_later hb km1
    replace km2 := cell_later hb km2
    replace km3 := cell_later hb km3
    replace km4 := cell_later hb km4
    replace km5 := cell_later hb km5
    replace km6 := cell_later hb km6
    replace kp0 := cell_later hb kp0
    replace kp1 := cell_later hb kp1
    replace kq0 := cell_later hb kq0
    replace kq1 := cell_later hb kq1
    replace kb0 := cell_later hb kb0
    replace kb1 := cell_later hb kb1
    replace kb2 := cell_later hb kb2
    replace kb3 := cell_later hb kb3
    replace kc0 := cell_later hb kc0
    replace kc1 := cell_later hb kc1
    replace kc2 := cell_later hb kc2
    replace kc3 := cell_later hb kc3
    replace zm : w.heap.size < w3.heap.size := World.block_lt_of_cell? _ _ km0
    have zm_w3 := zm
    replace zp : w.heap.size + 1 < w3.heap.size := World.block_lt_of_cell? _ _ kp0
    have zp_w3 := zp
    replace zq : w.heap.size + 1 + 1 < w3.heap.size := World.block_lt_of_cell? _ _ kq0
    have zq_w3 := zq
    replace zb : w.heap.size + 1 + 1 + 1 < w3.heap.size := World.block_lt_of_cell? _ _ kb0
    have zb_w3 := zb
    replace zc : w.heap.size + 1 + 1 + 1 + 1 < w3.heap.size := World.block_lt_of_cell? _ _ kc0
    have zc_w3 := zc
    replace hb0 : Below w.heap.size w w3 := (by repeat (first | with_reducible exact Below.refl _ _ | with_reducible assumption | with_reducible refine Below.setCell ?_ (by first | omega | (simp <;> omega)) _ | with_reducible refine balloc ?_ _ | with_reducible refine Below.drew ?_ | with_reducible refine bstep ?_ (by with_reducible assumption)))
    have hs_w3 : w2.heap.size ≤ w3.heap.size := hb.size
    clear hb
    go_wp2_with fail
    refine Calls.mono (Y _) ?_
    rintro e w4 ⟨rfl, hb⟩
    replace km0 := cell_later hb (cell_al _ km0)
    replace km1 := cell_later hb (cell_al _ km1)
    replace km2 := cell_later hb (cell_al _ km2)
    replace km3 := cell_later hb (cell_al _ km3)
    replace km4 := cell_later hb (cell_al _ km4)
    replace km5 := cell_later hb (cell_al _ km5)
    replace km6 := cell_later hb (cell_al _ km6)
    replace kp0 := cell_later hb (cell_al _ kp0)
    replace kp1 := cell_later hb (cell_al _ kp1)
    replace kq0 := cell_later hb (cell_al _ kq0)
    replace kq1 := cell_later hb (cell_al _ kq1)
    replace kb0 := cell_later hb (cell_al _ kb0)
    replace kb1 := cell_later hb (cell_al _ kb1)
    replace kb2 := cell_later hb (cell_al _ kb2)
    replace kb3 := cell_later hb (cell_al _ kb3)
    replace kc0 := cell_later hb (cell_al _ kc0)
    replace kc1 := cell_later hb (cell_al _ kc1)
    replace kc2 := cell_later hb (cell_al _ kc2)
    replace kc3 := cell_later hb (cell_al _ kc3)
    have kx0 : w4.cell? ⟨w3.heap.size, 0, none⟩ = some (.int .i64 x1) := cell_later hb (by go_simp)
    have kx1 : w4.cell? ⟨w3.heap.size, 1, none⟩ = some (.int .i64 x2) := cell_later hb (by go_simp)
    have kx2 : w4.cell? ⟨w3.heap.size, 2, none⟩ = some (.int .i64 x3) := cell_later hb (by go_simp)
    have kx3 : w4.cell? ⟨w3.heap.size, 3, none⟩ = some (.int .i64 x4) := cell_later hb (by go_simp)
    replace zm : w.heap.size < w4.heap.size := World.block_lt_of_cell? _ _ km0
    have zm_w4 := zm
    replace zp : w.heap.size + 1 < w4.heap.size := World.block_lt_of_cell? _ _ kp0
    have zp_w4 := zp
    replace zq : w.heap.size + 1 + 1 < w4.heap.size := World.block_lt_of_cell? _ _ kq0
    have zq_w4 := zq
    replace zb : w.heap.size + 1 + 1 + 1 < w4.heap.size := World.block_lt_of_cell? _ _ kb0
    have zb_w4 := zb
    replace zc : w.heap.size + 1 + 1 + 1 + 1 < w4.heap.size := World.block_lt_of_cell? _ _ kc0
    have zc_w4 := zc
    have zx : w3.heap.size < w4.heap.size := World.block_lt_of_cell? _ _ kx0
    have zx_w4 := zx
    replace hb0 : Below w.heap.size w w4 := (by repeat (first | with_reducible exact Below.refl _ _ | with_reducible assumption | with_reducible refine Below.setCell ?_ (by first | omega | (simp <;> omega)) _ | with_reducible refine balloc ?_ _ | with_reducible refine Below.drew ?_ | with_reducible refine bstep ?_ (by with_reducible assumption)))
    have hs_w4 := hb.size; (try simp only [World.size_alloc, World.size_setCell] at hs_w4)
    clear hb
    go_wp2_with fail
    refine Calls.mono (Z _) ?_
    rintro e w5 ⟨rfl, hb⟩
    replace km0 := cell_later hb (cell_al _ km0)
    replace km1 := cell_later hb (cell_al _ km1)
    replace km2 := cell_later hb (cell_al _ km2)
    replace km3 := cell_later hb (cell_al _ km3)
    replace km4 := cell_later hb (cell_al _ km4)
    replace km5 := cell_later hb (cell_al _ km5)
    replace km6 := cell_later hb (cell_al _ km6)
    replace kp0 := cell_later hb (cell_al _ kp0)
    replace kp1 := cell_later hb (cell_al _ kp1)
    replace kq0 := cell_later hb (cell_al _ kq0)
    replace kq1 := cell_later hb (cell_al _ kq1)
    replace kb0 := cell_later hb (cell_al _ kb0)
    replace kb1 := cell_later hb (cell_al _ kb1)
    replace kb2 := cell_later hb (cell_al _ kb2)
    replace kb3 := cell_later hb (cell_al _ kb3)
    replace kc0 := cell_later hb (cell_al _ kc0)
    replace kc1 := cell_later hb (cell_al _ kc1)
    replace kc2 := cell_later hb (cell_al _ kc2)
    replace kc3 := cell_later hb (cell_al _ kc3)
    replace kx0 := cell_later hb (cell_al _ kx0)
    replace kx1 := cell_later hb (cell_al _ kx1)
    replace kx2 := cell_later hb (cell_al _ kx2)
    replace kx3 := cell_later hb (cell_al _ kx3)
    have ky0 : w5.cell? ⟨w4.heap.size, 0, none⟩ = some (.int .i64 y1) := cell_later hb (by go_simp)
    have ky1 : w5.cell? ⟨w4.heap.size, 1, none⟩ = some (.int .i64 y2) := cell_later hb (by go_simp)
    have ky2 : w5.cell? ⟨w4.heap.size, 2, none⟩ = some (.int .i64 y3) := cell_later hb (by go_simp)
    have ky3 : w5.cell? ⟨w4.heap.size, 3, none⟩ = some (.int .i64 y4) := cell_later hb (by go_simp)
    replace zm : w.heap.size < w5.heap.size := World.block_lt_of_cell? _ _ km0
    have zm_w5 := zm
    replace zp : w.heap.size + 1 < w5.heap.size := World.block_lt_of_cell? _ _ kp0
    have zp_w5 := zp
    replace zq : w.heap.size + 1 + 1 < w5.heap.size := World.block_lt_of_cell? _ _ kq0
    have zq_w5 := zq
    replace zb : w.heap.size + 1 + 1 + 1 < w5.heap.size := World.block_lt_of_cell? _ _ kb0
    have zb_w5 := zb
    replace zc : w.heap.size + 1 + 1 + 1 + 1 < w5.heap.size := World.block_lt_of_cell? _ _ kc0
    have zc_w5 := zc
    replace zx : w3.heap.size < w5.heap.size := World.block_lt_of_cell? _ _ kx0
    have zx_w5 := zx
    have zy : w4.heap.size < w5.heap.size := World.block_lt_of_cell? _ _ ky0
    have zy_w5 := zy
    replace hb0 : Below w.heap.size w w5 := (by repeat (first | with_reducible exact Below.refl _ _ | with_reducible assumption | with_reducible refine Below.setCell ?_ (by first | omega | (simp <;> omega)) _ | with_reducible refine balloc ?_ _ | with_reducible refine Below.drew ?_ | with_reducible refine bstep ?_ (by with_reducible assumption)))
    have hs_w5 := hb.size; (try simp only [World.size_alloc, World.size_setCell] at hs_w5)
    clear hb
    rcases hA with ⟨f0, hx⟩ | f0
    · subst f0
      rw [hx] at I1
      go_wp2_with fail
      refine Calls.mono (I1 _) ?_
      rintro e w6 ⟨rfl, hb⟩
      replace km0 := cell_later hb (cell_al _ km0)
      replace km1 := cell_later hb (cell_al _ km1)
      replace km2 := cell_later hb (cell_al _ km2)
      replace km3 := cell_later hb (cell_al _ km3)
      replace km4 := cell_later hb (cell_al _ km4)
      replace km5 := cell_later hb (cell_al _ km5)
      replace km6 := cell_later hb (cell_al _ km6)
      replace kp0 := cell_later hb (cell_al _ kp0)
      replace kp1 := cell_later hb (cell_al _ kp1)
      replace kq0 := cell_later hb (cell_al _ kq0)
      replace kq1 := cell_later hb (cell_al _ kq1)
      replace kb0 := cell_later hb (cell_al _ kb0)
      replace kb1 := cell_later hb (cell_al _ kb1)
      replace kb2 := cell_later hb (cell_al _ kb2)
      replace kb3 := cell_later hb (cell_al _ kb3)
      replace kc0 := cell_later hb (cell_al _ kc0)
      replace kc1 := cell_later hb (cell_al _ kc1)
      replace kc2 := cell_later hb (cell_al _ kc2)
      replace kc3 := cell_later hb (cell_al _ kc3)
      replace kx0 := cell_later hb (cell_al _ kx0)
      replace kx1 := cell_later hb (cell_al _ kx1)
      replace kx2 := cell_later hb (cell_al _ kx2)
      replace kx3 := cell_later hb (cell_al _ kx3)
      replace ky0 := cell_later hb (cell_al _ ky0)
      replace ky1 := cell_later hb (cell_al _ ky1)
      replace ky2 := cell_later hb (cell_al _ ky2)
      replace ky3 := cell_later hb (cell_al _ ky3)
      have kz0 : w6.cell? ⟨w5.heap.size, 0, none⟩ = some (.int .i64 z1) := cell_later hb (by go_simp)
      have kz1 : w6.cell? ⟨w5.heap.size, 1, none⟩ = some (.int .i64 z2) := cell_later hb (by go_simp)
      have kz2 : w6.cell? ⟨w5.heap.size, 2, none⟩ = some (.int .i64 z3) := cell_later hb (by go_simp)
      have kz3 : w6.cell? ⟨w5.heap.size, 3, none⟩ = some (.int .i64 z4) := cell_later hb (by go_simp)
      replace zm : w.heap.size < w6.heap.size := World.block_lt_of_cell? _ _ km0
      have zm_w6 := zm
      replace zp : w.heap.size + 1 < w6.heap.size := World.block_lt_of_cell? _ _ kp0
      have zp_w6 := zp
      replace zq : w.heap.size + 1 + 1 < w6.heap.size := World.block_lt_of_cell? _ _ kq0
      have zq_w6 := zq
      replace zb : w.heap.size + 1 + 1 + 1 < w6.heap.size := World.block_lt_of_cell? _ _ kb0
      have zb_w6 := zb
      replace zc : w.heap.size + 1 + 1 + 1 + 1 < w6.heap.size := World.block_lt_of_cell? _ _ kc0
      have zc_w6 := zc
      replace zx : w3.heap.size < w6.heap.size := World.block_lt_of_cell? _ _ kx0
      have zx_w6 := zx
      replace zy : w4.heap.size < w6.heap.size := World.block_lt_of_cell? _ _ ky0
      have zy_w6 := zy
      have zz : w5.heap.size < w6.heap.size := World.block_lt_of_cell? _ _ kz0
      have zz_w6 := zz
      replace hb0 : Below w.heap.size w w6 := (by repeat (first | with_reducible exact Below.refl _ _ | with_reducible assumption | with_reducible refine Below.setCell ?_ (by first | omega | (simp <;> omega)) _ | with_reducible refine balloc ?_ _ | with_reducible refine Below.drew ?_ | with_reducible refine bstep ?_ (by with_reducible assumption)))
      have hs_w6 := hb.size; (try simp only [World.size_alloc, World.size_setCell] at hs_w6)
      clear hb
      go_wp2_with fail
      refine Calls.mono (I2 _) ?_
      rintro e w7 ⟨rfl, hb⟩
      replace km0 := cell_later hb km0
      replace km1 := cell_later hb km1
      replace km2 := cell_later hb km2
      replace km3 := cell_later hb km3
      replace km4 := cell_later hb km4
      replace km5 := cell_later hb km5
      replace km6 := cell_later hb km6
      replace kp0 := cell_later hb kp0
      replace kp1 := cell_later hb kp1
      replace kq0 := cell_later hb kq0
      replace kq1 := cell_later hb kq1
      replace kb0 := cell_later hb kb0
      replace kb1 := cell_later hb kb1
      replace kb2 := cell_later hb kb2
      replace kb3 := cell_later hb kb3
      replace kc0 := cell_later hb kc0
      replace kc1 := cell_later hb kc1
      replace kc2 := cell_later hb kc2
      replace kc3 := cell_later hb kc3
      replace kx0 := cell_later hb kx0
      replace kx1 := cell_later hb kx1
      replace kx2 := cell_later hb kx2
      replace kx3 := cell_later hb kx3
      replace ky0 := cell_later hb ky0
      replace ky1 := cell_later hb ky1
      replace ky2 := cell_later hb ky2
      replace ky3 := cell_later hb ky3
      replace kz0 := cell_later hb kz0
      replace kz1 := cell_later hb kz1
      replace kz2 := cell_later hb kz2
      replace kz3 := cell_later hb kz3
      replace zm : w.heap.size < w7.heap.size := World.block_lt_of_cell? _ _ km0
      have zm_w7 := zm
      replace zp : w.heap.size + 1 < w7.heap.size := World.block_lt_of_cell? _ _ kp0
      have zp_w7 := zp
      replace zq : w.heap.size + 1 + 1 < w7.heap.size := World.block_lt_of_cell? _ _ kq0
      have zq_w7 := zq
      replace zb : w.heap.size + 1 + 1 + 1 < w7.heap.size := World.block_lt_of_cell? _ _ kb0
      have zb_w7 := zb
      replace zc : w.heap.size + 1 + 1 + 1 + 1 < w7.heap.size := World.block_lt_of_cell? _ _ kc0
      have zc_w7 := zc
      replace zx : w3.heap.size < w7.heap.size := World.block_lt_of_cell? _ _ kx0
      have zx_w7 := zx
      replace zy : w4.heap.size < w7.heap.size := World.block_lt_of_cell? _ _ ky0
      have zy_w7 := zy
      replace zz : w5.heap.size < w7.heap.size := World.block_lt_of_cell? _ _ kz0
      have zz_w7 := zz
      replace hb0 : Below w.heap.size w w7 := (by repeat (first | with_reducible exact Below.refl _ _ | with_reducible assumption | with_reducible refine Below.setCell ?_ (by first | omega | (simp <;> omega)) _ | with_reducible refine balloc ?_ _ | with_reducible refine Below.drew ?_ | with_reducible refine bstep ?_ (by with_reducible assumption)))
      have hs_w7 : w6.heap.size ≤ w7.heap.size := hb.size
      clear hb
      cases ib
      · go_wp2_with fail
        refine Calls.mono (I4 _) ?_
        rintro e w8 ⟨rfl, hb⟩
        replace km0 := cell_later hb km0
        replace km1 := cell_later hb km1
        replace km2 := cell_later hb km2
        replace km3 := cell_later hb km3
        replace km4 := cell_later hb km4
        replace km5 := cell_later hb km5
        replace km6 := cell_later hb km6
        replace kp0 := cell_later hb kp0
        replace kp1 := cell_later hb kp1
        replace kq0 := cell_later hb kq0
        replace kq1 := cell_later hb kq1
        replace kb0 := cell_later hb kb0
        replace kb1 := cell_later hb kb1
        replace kb2 := cell_later hb kb2
        replace kb3 := cell_later hb kb3
        replace kc0 := cell_later hb kc0
        replace kc1 := cell_later hb kc1
        replace kc2 := cell_later hb kc2
        replace kc3 := cell_later hb kc3
        replace kx0 := cell_later hb kx0
        replace kx1 := cell_later hb kx1
        replace kx2 := cell_later hb kx2
        replace kx3 := cell_later hb kx3
        replace ky0 := cell_later hb ky0
        replace ky1 := cell_later hb ky1
        replace ky2 := cell_later hb ky2
        replace ky3 := cell_later hb ky3
        replace kz0 := cell_later hb kz0
        replace kz1 := cell_later hb kz1
        replace kz2 := cell_later hb kz2
        replace kz3 := cell_later hb kz3
        replace zm : w.heap.size < w8.heap.size := World.block_lt_of_cell? _ _ km0
        have zm_w8 := zm
        replace zp : w.heap.size + 1 < w8.heap.size := World.block_lt_of_cell? _ _ kp0
        have zp_w8 := zp
        replace zq : w.heap.size + 1 + 1 < w8.heap.size := World.block_lt_of_cell? _ _ kq0
        have zq_w8 := zq
        replace zb : w.heap.size + 1 + 1 + 1 < w8.heap.size := World.block_lt_of_cell? _ _ kb0
        have zb_w8 := zb
        replace zc : w.heap.size + 1 + 1 + 1 + 1 < w8.heap.size := World.block_lt_of_cell? _ _ kc0
        have zc_w8 := zc
        replace zx : w3.heap.size < w8.heap.size := World.block_lt_of_cell? _ _ kx0
        have zx_w8 := zx
        replace zy : w4.heap.size < w8.heap.size := World.block_lt_of_cell? _ _ ky0
        have zy_w8 := zy
        replace zz : w5.heap.size < w8.heap.size := World.block_lt_of_cell? _ _ kz0
        have zz_w8 := zz
        replace hb0 : Below w.heap.size w w8 := (by repeat (first | with_reducible exact Below.refl _ _ | with_reducible assumption | with_reducible refine Below.setCell ?_ (by first | omega | (simp <;> omega)) _ | with_reducible refine balloc ?_ _ | with_reducible refine Below.drew ?_ | with_reducible refine bstep ?_ (by with_reducible assumption)))
        have hs_w8 : w7.heap.size ≤ w8.heap.size := hb.size
        clear hb
        cases ic
        · go_wp2
          all_goals first | (exfalso; omega) | (go_ret; refine ret_bool ?_ (by repeat (first | with_reducible exact Below.refl _ _ | with_reducible assumption | with_reducible refine Below.setCell ?_ (by first | omega | (simp <;> omega)) _ | with_reducible refine balloc ?_ _ | with_reducible refine Below.drew ?_ | with_reducible refine bstep ?_ (by with_reducible assumption))); first | (simp; done) | (simp <;> omega) | (simp [*]; done))
        · rcases hZ rfl with e1 | ⟨e1, e2⟩
          · subst e1
            go_wp2
            all_goals first | (exfalso; omega) | (go_ret; refine ret_bool ?_ (by repeat (first | with_reducible exact Below.refl _ _ | with_reducible assumption | with_reducible refine Below.setCell ?_ (by first | omega | (simp <;> omega)) _ | with_reducible refine balloc ?_ _ | with_reducible refine Below.drew ?_ | with_reducible refine bstep ?_ (by with_reducible assumption))); first | (simp; done) | (simp <;> omega) | (simp [*]; done))
          · subst e1
            rw [e2] at I5
            go_wp2_with fail
            refine Calls.mono (I5 _) ?_
            rintro e w9 ⟨rfl, hb⟩
            replace km0 := cell_later hb km0
            replace km1 := cell_later hb km1
            replace km2 := cell_later hb km2
            replace km3 := cell_later hb km3
            replace km4 := cell_later hb km4
            replace km5 := cell_later hb km5
            replace km6 := cell_later hb km6
            replace kp0 := cell_later hb kp0
            replace kp1 := cell_later hb kp1
            replace kq0 := cell_later hb kq0
            replace kq1 := cell_later hb kq1
            replace kb0 := cell_later hb kb0
            replace kb1 := cell_later hb kb1
            replace kb2 := cell_later hb kb2
            replace kb3 := cell_later hb kb3
            replace kc0 := cell_later hb kc0
            replace kc1 := cell_later hb kc1
            replace kc2 := cell_later hb kc2
            replace kc3 := cell_later hb kc3
            replace kx0 := cell_later hb kx0
            replace kx1 := cell_later hb kx1
            replace kx2 := cell_later hb kx2
            replace kx3 := cell_later hb kx3
            replace ky0 := cell_later hb ky0
            replace ky1 := cell_later hb ky1
            replace ky2 := cell_later hb ky2
            replace ky3 := cell_later hb ky3
            replace kz0 := cell_later hb kz0
            replace kz1 := cell_later hb kz1
            replace kz2 := cell_later hb kz2
            replace kz3 := cell_later hb kz3
            replace zm : w.heap.size < w9.heap.size := World.block_lt_of_cell? _ _ km0
            have zm_w9 := zm
            replace zp : w.heap.size + 1 < w9.heap.size := World.block_lt_of_cell? _ _ kp0
            have zp_w9 := zp
            replace zq : w.heap.size + 1 + 1 < w9.heap.size := World.block_lt_of_cell? _ _ kq0
            have zq_w9 := zq
            replace zb : w.heap.size + 1 + 1 + 1 < w9.heap.size := World.block_lt_of_cell? _ _ kb0
            have zb_w9 := zb
            replace zc : w.heap.size + 1 + 1 + 1 + 1 < w9.heap.size := World.block_lt_of_cell? _ _ kc0
            have zc_w9 := zc
            replace zx : w3.heap.size < w9.heap.size := World.block_lt_of_cell? _ _ kx0
            have zx_w9 := zx
            replace zy : w4.heap.size < w9.heap.size := World.block_lt_of_cell? _ _ ky0
            have zy_w9 := zy
            replace zz : w5.heap.size < w9.heap.size := World.block_lt_of_cell? _ _ kz0
            have zz_w9 := zz
            replace hb0 : Below w.heap.size w w9 := (by repeat (first | with_reducible exact Below.refl _ _ | with_reducible assumption | with_reducible refine Below.setCell ?_ (by first | omega | (simp <;> omega)) _ | with_reducible refine balloc ?_ _ | with_reducible refine Below.drew ?_ | with_reducible refine bstep ?_ (by with_reducible assumption)))
            have hs_w9 : w8.heap.size ≤ w9.heap.size := hb.size
            clear hb
            go_wp2
            all_goals first | (exfalso; omega) | (go_ret; refine ret_bool ?_ (by repeat (first | with_reducible exact Below.refl _ _ | with_reducible assumption | with_reducible refine Below.setCell ?_ (by first | omega | (simp <;> omega)) _ | with_reducible refine balloc ?_ _ | with_reducible refine Below.drew ?_ | with_reducible refine bstep ?_ (by with_reducible assumption))); first | (simp; done) | (simp <;> omega) | (simp [*]; done))
      · rcases hY rfl with e1 | ⟨e1, e2⟩ | e1
        · subst e1
          go_wp2_with fail
          refine Calls.mono (I4 _) ?_
          rintro e w8 ⟨rfl, hb⟩
          replace km0 := cell_later hb km0
          replace km1 := cell_later hb km1
          replace km2 := cell_later hb km2
          replace km3 := cell_later hb km3
          replace km4 := cell_later hb km4
          replace km5 := cell_later hb km5
          replace km6 := cell_later hb km6
          replace kp0 := cell_later hb kp0
          replace kp1 := cell_later hb kp1
          replace kq0 := cell_later hb kq0
          replace kq1 := cell_later hb kq1
          replace kb0 := cell_later hb kb0
          replace kb1 := cell_later hb kb1
          replace kb2 := cell_later hb kb2
          replace kb3 := cell_later hb kb3
          replace kc0 := cell_later hb kc0
          replace kc1 := cell_later hb kc1
          replace kc2 := cell_later hb kc2
          replace kc3 := cell_later hb kc3
          replace kx0 := cell_later hb kx0
          replace kx1 := cell_later hb kx1
          replace kx2 := cell_later hb kx2
          replace kx3 := cell_later hb kx3
          replace ky0 := cell_later hb ky0
          replace ky1 := cell_later hb ky1
          replace ky2 := cell_later hb ky2
          replace ky3 := cell_later hb ky3
          replace kz0 := cell_later hb kz0
          replace kz1 := cell_later hb kz1
          replace kz2 := cell_later hb kz2
          replace kz3 := cell_later hb kz3
          replace zm : w.heap.size < w8.heap.size := World.block_lt_of_cell? _ _ km0
          have zm_w8 := zm
          replace zp : w.heap.size + 1 < w8.heap.size := World.block_lt_of_cell? _ _ kp0
          have zp_w8 := zp
          replace zq : w.heap.size + 1 + 1 < w8.heap.size := World.block_lt_of_cell? _ _ kq0
          have zq_w8 := zq
          replace zb : w.heap.size + 1 + 1 + 1 < w8.heap.size := World.block_lt_of_cell? _ _ kb0
          have zb_w8 := zb
          replace zc : w.heap.size + 1 + 1 + 1 + 1 < w8.heap.size := World.block_lt_of_cell? _ _ kc0
          have zc_w8 := zc
          replace zx : w3.heap.size < w8.heap.size := World.block_lt_of_cell? _ _ kx0
          have zx_w8 := zx
          replace zy : w4.heap.size < w8.heap.size := World.block_lt_of_cell? _ _ ky0
          have zy_w8 := zy
          replace zz : w5.heap.size < w8.heap.size := World.block_lt_of_cell? _ _ kz0
          have zz_w8 := zz
          replace hb0 : Below w.heap.size w w8 := (by repeat (first | with_reducible exact Below.refl _ _ | with_reducible assumption | with_reducible refine Below.setCell ?_ (by first | omega | (simp <;> omega)) _ | with_reducible refine balloc ?_ _ | with_reducible refine Below.drew ?_ | with_reducible refine bstep ?_ (by with_reducible assumption)))
          have hs_w8 : w7.heap.size ≤ w8.heap.size := hb.size
          clear hb
          cases ic
          · go_wp2
            all_goals first | (exfalso; omega) | (go_ret; refine ret_bool ?_ (by repeat (first | with_reducible exact Below.refl _ _ | with_reducible assumption | with_reducible refine Below.setCell ?_ (by first | omega | (simp <;> omega)) _ | with_reducible refine balloc ?_ _ | with_reducible refine Below.drew ?_ | with_reducible refine bstep ?_ (by with_reducible assumption))); first | (simp; done) | (simp <;> omega) | (simp [*]; done))
          · rcases hZ rfl with e1 | ⟨e1, e2⟩
            · subst e1
              go_wp2
              all_goals first | (exfalso; omega) | (go_ret; refine ret_bool ?_ (by repeat (first | with_reducible exact Below.refl _ _ | with_reducible assumption | with_reducible refine Below.setCell ?_ (by first | omega | (simp <;> omega)) _ | with_reducible refine balloc ?_ _ | with_reducible refine Below.drew ?_ | with_reducible refine bstep ?_ (by with_reducible assumption))); first | (simp; done) | (simp <;> omega) | (simp [*]; done))
            · subst e1
              rw [e2] at I5
              go_wp2_with fail
              refine Calls.mono (I5 _) ?_
              rintro e w9 ⟨rfl, hb⟩
              replace km0 := cell_later hb km0
              replace km1 := cell_later hb km1
              replace km2 := cell_later hb km2
              replace km3 := cell_later hb km3
              replace km4 := cell_later hb km4
              replace km5 := cell_later hb km5
              replace km6 := cell_later hb km6
              replace kp0 := cell_later hb kp0
              replace kp1 := cell_later hb kp1
              replace kq0 := cell_later hb kq0
              replace kq1 := cell_later hb kq1
              replace kb0 := cell_later hb kb0
              replace kb1 := cell_later hb kb1
              replace kb2 := cell_later hb kb2
              replace kb3 := cell_later hb kb3
              replace kc0 := cell_later hb kc0
              replace kc1 := cell_later hb kc1
              replace kc2 := cell_later hb kc2
              replace kc3 := cell_later hb kc3
              replace kx0 := cell_later hb kx0
              replace kx1 := cell_later hb kx1
              replace kx2 := cell_later hb kx2
              replace kx3 := cell_later hb kx3
              replace ky0 := cell_later hb ky0
              replace ky1 := cell_later hb ky1
              replace ky2 := cell_later hb ky2
              replace ky3 := cell_later hb ky3
              replace kz0 := cell_later hb kz0
              replace kz1 := cell_later hb kz1
              replace kz2 := cell_later hb kz2
              replace kz3 := cell_later hb kz3
              replace zm : w.heap.size < w9.heap.size := World.block_lt_of_cell? _ _ km0
              have zm_w9 := zm
              replace zp : w.heap.size + 1 < w9.heap.size := World.block_lt_of_cell? _ _ kp0
              have zp_w9 := zp
              replace zq : w.heap.size + 1 + 1 < w9.heap.size := World.block_lt_of_cell? _ _ kq0
              have zq_w9 := zq
              replace zb : w.heap.size + 1 + 1 + 1 < w9.heap.size := World.block_lt_of_cell? _ _ kb0
              have zb_w9 := zb
              replace zc : w.heap.size + 1 + 1 + 1 + 1 < w9.heap.size := World.block_lt_of_cell? _ _ kc0
              have zc_w9 := zc
              replace zx : w3.heap.size < w9.heap.size := World.block_lt_of_cell? _ _ kx0
              have zx_w9 := zx
              replace zy : w4.heap.size < w9.heap.size := World.block_lt_of_cell? _ _ ky0
              have zy_w9 := zy
              replace zz : w5.heap.size < w9.heap.size := World.block_lt_of_cell? _ _ kz0
              have zz_w9 := zz
              replace hb0 : Below w.heap.size w w9 := (by repeat (first | with_reducible exact Below.refl _ _ | with_reducible assumption | with_reducible refine Below.setCell ?_ (by first | omega | (simp <;> omega)) _ | with_reducible refine balloc ?_ _ | with_reducible refine Below.drew ?_ | with_reducible refine bstep ?_ (by with_reducible assumption)))
              have hs_w9 : w8.heap.size ≤ w9.heap.size := hb.size
              clear hb
              go_wp2
              all_goals first | (exfalso; omega) | (go_ret; refine ret_bool ?_ (by repeat (first | with_reducible exact Below.refl _ _ | with_reducible assumption | with_reducible refine Below.setCell ?_ (by first | omega | (simp <;> omega)) _ | with_reducible refine balloc ?_ _ | with_reducible refine Below.drew ?_ | with_reducible refine bstep ?_ (by with_reducible assumption))); first | (simp; done) | (simp <;> omega) | (simp [*]; done))
        · subst e1
          rw [e2] at I3
          go_wp2_with fail
          refine Calls.mono (I3 _) ?_
          rintro e w8 ⟨rfl, hb⟩
          replace km0 := cell_later hb km0
          replace km1 := cell_later hb km1
          replace km2 := cell_later hb km2
          replace km3 := cell_later hb km3
          replace km4 := cell_later hb km4
          replace km5 := cell_later hb km5
          replace km6 := cell_later hb km6
          replace kp0 := cell_later hb kp0
          replace kp1 := cell_later hb kp1
          replace kq0 := cell_later hb kq0
          replace kq1 := cell_later hb kq1
          replace kb0 := cell_later hb kb0
          replace kb1 := cell_later hb kb1
          replace kb2 := cell_later hb kb2
          replace kb3 := cell_later hb kb3
          replace kc0 := cell_later hb kc0
          replace kc1 := cell_later hb kc1
          replace kc2 := cell_later hb kc2
          replace kc3 := cell_later hb kc3
          replace kx0 := cell_later hb kx0
          replace kx1 := cell_later hb kx1
          replace kx2 := cell_later hb kx2
          replace kx3 := cell_later hb kx3
          replace ky0 := cell_later hb ky0
          replace ky1 := cell_later hb ky1
          replace ky2 := cell_later hb ky2
          replace ky3 := cell_later hb ky3
          replace kz0 := cell_later hb kz0
          replace kz1 := cell_later hb kz1
          replace kz2 := cell_later hb kz2
          replace kz3 := cell_later hb kz3
          replace zm : w.heap.size < w8.heap.size := World.block_lt_of_cell? _ _ km0
          have zm_w8 := zm
          replace zp : w.heap.size + 1 < w8.heap.size := World.block_lt_of_cell? _ _ kp0
          have zp_w8 := zp
          replace zq : w.heap.size + 1 + 1 < w8.heap.size := World.block_lt_of_cell? _ _ kq0
          have zq_w8 := zq
          replace zb : w.heap.size + 1 + 1 + 1 < w8.heap.size := World.block_lt_of_cell? _ _ kb0
          have zb_w8 := zb
          replace zc : w.heap.size + 1 + 1 + 1 + 1 < w8.heap.size := World.block_lt_of_cell? _ _ kc0
          have zc_w8 := zc
          replace zx : w3.heap.size < w8.heap.size := World.block_lt_of_cell? _ _ kx0
          have zx_w8 := zx
          replace zy : w4.heap.size < w8.heap.size := World.block_lt_of_cell? _ _ ky0
          have zy_w8 := zy
          replace zz : w5.heap.size < w8.heap.size := World.block_lt_of_cell? _ _ kz0
          have zz_w8 := zz
          replace hb0 : Below w.heap.size w w8 := (by repeat (first | with_reducible exact Below.refl _ _ | with_reducible assumption | with_reducible refine Below.setCell ?_ (by first | omega | (simp <;> omega)) _ | with_reducible refine balloc ?_ _ | with_reducible refine Below.drew ?_ | with_reducible refine bstep ?_ (by with_reducible assumption)))
          have hs_w8 : w7.heap.size ≤ w8.heap.size := hb.size
          clear hb
          go_wp2_with fail
          refine Calls.mono (I4 _) ?_
          rintro e w9 ⟨rfl, hb⟩
          replace km0 := cell_later hb km0
          replace km1 := cell_later hb km1
          replace km2 := cell_later hb km2
          replace km3 := cell_later hb km3
          replace km4 := cell_later hb km4
          replace km5 := cell_later hb km5
          replace km6 := cell_later hb km6
          replace kp0 := cell_later hb kp0
          replace kp1 := cell_later hb kp1
          replace kq0 := cell_later hb kq0
          replace kq1 := cell_later hb kq1
          replace kb0 := cell_later hb kb0
          replace kb1 := cell_later hb kb1
          replace kb2 := cell_later hb kb2
          replace kb3 := cell_later hb kb3
          replace kc0 := cell_later hb kc0
          replace kc1 := cell_later hb kc1
          replace kc2 := cell_later hb kc2
          replace kc3 := cell_later hb kc3
          replace kx0 := cell_later hb kx0
          replace kx1 := cell_later hb kx1
          replace kx2 := cell_later hb kx2
          replace kx3 := cell_later hb kx3
          replace ky0 := cell_later hb ky0
          replace ky1 := cell_later hb ky1
          replace ky2 := cell_later hb ky2
          replace ky3 := cell_later hb ky3
          replace kz0 := cell_later hb kz0
          replace kz1 := cell_later hb kz1
          replace kz2 := cell_later hb kz2
          replace kz3 := cell_later hb kz3
          replace zm : w.heap.size < w9.heap.size := World.block_lt_of_cell? _ _ km0
          have zm_w9 := zm
          replace zp : w.heap.size + 1 < w9.heap.size := World.block_lt_of_cell? _ _ kp0
          have zp_w9 := zp
          replace zq : w.heap.size + 1 + 1 < w9.heap.size := World.block_lt_of_cell? _ _ kq0
          have zq_w9 := zq
          replace zb : w.heap.size + 1 + 1 + 1 < w9.heap.size := World.block_lt_of_cell? _ _ kb0
          have zb_w9 := zb
          replace zc : w.heap.size + 1 + 1 + 1 + 1 < w9.heap.size := World.block_lt_of_cell? _ _ kc0
          have zc_w9 := zc
          replace zx : w3.heap.size < w9.heap.size := World.block_lt_of_cell? _ _ kx0
          have zx_w9 := zx
          replace zy : w4.heap.size < w9.heap.size := World.block_lt_of_cell? _ _ ky0
          have zy_w9 := zy
          replace zz : w5.heap.size < w9.heap.size := World.block_lt_of_cell? _ _ kz0
          have zz_w9 := zz
          replace hb0 : Below w.heap.size w w9 := (by repeat (first | with_reducible exact Below.refl _ _ | with_reducible assumption | with_reducible refine Below.setCell ?_ (by first | omega | (simp <;> omega)) _ | with_reducible refine balloc ?_ _ | with_reducible refine Below.drew ?_ | with_reducible refine bstep ?_ (by with_reducible assumption)))
          have hs_w9 : w8.heap.size ≤ w9.heap.size := hb.size
          clear hb
          cases ic
          · go_wp2
            all_goals first | (exfalso; omega) | (go_ret; refine ret_bool ?_ (by repeat (first | with_reducible exact Below.refl _ _ | with_reducible assumption | with_reducible refine Below.setCell ?_ (by first | omega | (simp <;> omega)) _ | with_reducible refine balloc ?_ _ | with_reducible refine Below.drew ?_ | with_reducible refine bstep ?_ (by with_reducible assumption))); first | (simp; done) | (simp <;> omega) | (simp [*]; done))
          · rcases hZ rfl with e1 | ⟨e1, e2⟩
            · subst e1
              go_wp2
              all_goals first | (exfalso; omega) | (go_ret; refine ret_bool ?_ (by repeat (first | with_reducible exact Below.refl _ _ | with_reducible assumption | with_reducible refine Below.setCell ?_ (by first | omega | (simp <;> omega)) _ | with_reducible refine balloc ?_ _ | with_reducible refine Below.drew ?_ | with_reducible refine bstep ?_ (by with_reducible assumption))); first | (simp; done) | (simp <;> omega) | (simp [*]; done))
            · subst e1
              rw [e2] at I5
              go_wp2_with fail
              refine Calls.mono (I5 _) ?_
              rintro e w10 ⟨rfl, hb⟩
              replace km0 := cell_later hb km0
              replace km1 := cell_later hb km1
              replace km2 := cell_later hb km2
              replace km3 := cell_later hb km3
              replace km4 := cell_later hb km4
              replace km5 := cell_later hb km5
              replace km6 := cell_later hb km6
              replace kp0 := cell_later hb kp0
              replace kp1 := cell_later hb kp1
              replace kq0 := cell_later hb kq0
              replace kq1 := cell_later hb kq1
              replace kb0 := cell_later hb kb0
              replace kb1 := cell_later hb kb1
              replace kb2 := cell_later hb kb2
              replace kb3 := cell_later hb kb3
              replace kc0 := cell_later hb kc0
              replace kc1 := cell_later hb kc1
              replace kc2 := cell_later hb kc2
              replace kc3 := cell_later hb kc3
              replace kx0 := cell_later hb kx0
              replace kx1 := cell_later hb kx1
              replace kx2 := cell_later hb kx2
              replace kx3 := cell_later hb kx3
              replace ky0 := cell_later hb ky0
              replace ky1 := cell_later hb ky1
              replace ky2 := cell_later hb ky2
              replace ky3 := cell_later hb ky3
              replace kz0 := cell_later hb kz0
              replace kz1 := cell_later hb kz1
              replace kz2 := cell_later hb kz2
              replace kz3 := cell_later hb kz3
              replace zm : w.heap.size < w10.heap.size := World.block_lt_of_cell? _ _ km0
              have zm_w10 := zm
              replace zp : w.heap.size + 1 < w10.heap.size := World.block_lt_of_cell? _ _ kp0
              have zp_w10 := zp
              replace zq : w.heap.size + 1 + 1 < w10.heap.size := World.block_lt_of_cell? _ _ kq0
              have zq_w10 := zq
              replace zb : w.heap.size + 1 + 1 + 1 < w10.heap.size := World.block_lt_of_cell? _ _ kb0
              have zb_w10 := zb
              replace zc : w.heap.size + 1 + 1 + 1 + 1 < w10.heap.size := World.block_lt_of_cell? _ _ kc0
              have zc_w10 := zc
              replace zx : w3.heap.size < w10.heap.size := World.block_lt_of_cell? _ _ kx0
              have zx_w10 := zx
              replace zy : w4.heap.size < w10.heap.size := World.block_lt_of_cell? _ _ ky0
              have zy_w10 := zy
              replace zz : w5.heap.size < w10.heap.size := World.block_lt_of_cell? _ _ kz0
              have zz_w10 := zz
              replace hb0 : Below w.heap.size w w10 := (by repeat (first | with_reducible exact Below.refl _ _ | with_reducible assumption | with_reducible refine Below.setCell ?_ (by first | omega | (simp <;> omega)) _ | with_reducible refine balloc ?_ _ | with_reducible refine Below.drew ?_ | with_reducible refine bstep ?_ (by with_reducible assumption)))
              have hs_w10 : w9.heap.size ≤ w10.heap.size := hb.size
              clear hb
              go_wp2
              all_goals first | (exfalso; omega) | (go_ret; refine ret_bool ?_ (by repeat (first | with_reducible exact Below.refl _ _ | with_reducible assumption | with_reducible refine Below.setCell ?_ (by first | omega | (simp <;> omega)) _ | with_reducible refine balloc ?_ _ | with_reducible refine Below.drew ?_ | with_reducible refine bstep ?_ (by with_reducible assumption))); first | (simp; done) | (simp <;> omega) | (simp [*]; done))
        · subst e1
          go_wp2_with fail
          refine Calls.mono (I4 _) ?_
          rintro e w8 ⟨rfl, hb⟩
          replace km0 := cell_later hb km0
          replace km1 := cell_later hb km1
          replace km2 := cell_later hb km2
          replace km3 := cell_later hb km3
          replace km4 := cell_later hb km4
          replace km5 := cell_later hb km5
          replace km6 := cell_later hb km6
          replace kp0 := cell_later hb kp0
          replace kp1 := cell_later hb kp1
          replace kq0 := cell_later hb kq0
          replace kq1 := cell_later hb kq1
          replace kb0 := cell_later hb kb0
          replace kb1 := cell_later hb kb1
          replace kb2 := cell_later hb kb2
          replace kb3 := cell_later hb kb3
          replace kc0 := cell_later hb kc0
          replace kc1 := cell_later hb kc1
          replace kc2 := cell_later hb kc2
          replace kc3 := cell_later hb kc3
          replace kx0 := cell_later hb kx0
          replace kx1 := cell_later hb kx1
          replace kx2 := cell_later hb kx2
          replace kx3 := cell_later hb kx3
          replace ky0 := cell_later hb ky0
          replace ky1 := cell_later hb ky1
          replace ky2 := cell_later hb ky2
          replace ky3 := cell_later hb ky3
          replace kz0 := cell_later hb kz0
          replace kz1 := cell_later hb kz1
          replace kz2 := cell_later hb kz2
          replace kz3 := cell_later hb kz3
          replace zm : w.heap.size < w8.heap.size := World.block_lt_of_cell? _ _ km0
          have zm_w8 := zm
          replace zp : w.heap.size + 1 < w8.heap.size := World.block_lt_of_cell? _ _ kp0
          have zp_w8 := zp
          replace zq : w.heap.size + 1 + 1 < w8.heap.size := World.block_lt_of_cell? _ _ kq0
          have zq_w8 := zq
          replace zb : w.heap.size + 1 + 1 + 1 < w8.heap.size := World.block_lt_of_cell? _ _ kb0
          have zb_w8 := zb
          replace zc : w.heap.size + 1 + 1 + 1 + 1 < w8.heap.size := World.block_lt_of_cell? _ _ kc0
          have zc_w8 := zc
          replace zx : w3.heap.size < w8.heap.size := World.block_lt_of_cell? _ _ kx0
          have zx_w8 := zx
          replace zy : w4.heap.size < w8.heap.size := World.block_lt_of_cell? _ _ ky0
          have zy_w8 := zy
          replace zz : w5.heap.size < w8.heap.size := World.block_lt_of_cell? _ _ kz0
          have zz_w8 := zz
          replace hb0 : Below w.heap.size w w8 := (by repeat (first | with_reducible exact Below.refl _ _ | with_reducible assumption | with_reducible refine Below.setCell ?_ (by first | omega | (simp <;> omega)) _ | with_reducible refine balloc ?_ _ | with_reducible refine Below.drew ?_ | with_reducible refine bstep ?_ (by with_reducible assumption)))
          have hs_w8 : w7.heap.size ≤ w8.heap.size := hb.size
          clear hb
          cases ic
          · go_wp2
            all_goals first | (exfalso; omega) | (go_ret; refine ret_bool ?_ (by repeat (first | with_reducible exact Below.refl _ _ | with_reducible assumption | with_reducible refine Below.setCell ?_ (by first | omega | (simp <;> omega)) _ | with_reducible refine balloc ?_ _ | with_reducible refine Below.drew ?_ | with_reducible refine bstep ?_ (by with_reducible assumption))); first | (simp; done) | (simp <;> omega) | (simp [*]; done))
          · rcases hZ rfl with e1 | ⟨e1, e2⟩
            · subst e1
              go_wp2
              all_goals first | (exfalso; omega) | (go_ret; refine ret_bool ?_ (by repeat (first | with_reducible exact Below.refl _ _ | with_reducible assumption | with_reducible refine Below.setCell ?_ (by first | omega | (simp <;> omega)) _ | with_reducible refine balloc ?_ _ | with_reducible refine Below.drew ?_ | with_reducible refine bstep ?_ (by with_reducible assumption))); first | (simp; done) | (simp <;> omega) | (simp [*]; done))
            · subst e1
              rw [e2] at I5
              go_wp2_with fail
              refine Calls.mono (I5 _) ?_
              rintro e w9 ⟨rfl, hb⟩
              replace km0 := cell_later hb km0
              replace km1 := cell_later hb km1
              replace km2 := cell_later hb km2
              replace km3 := cell_later hb km3
              replace km4 := cell_later hb km4
              replace km5 := cell_later hb km5
              replace km6 := cell_later hb km6
              replace kp0 := cell_later hb kp0
              replace kp1 := cell_later hb kp1
              replace kq0 := cell_later hb kq0
              replace kq1 := cell_later hb kq1
              replace kb0 := cell_later hb kb0
              replace kb1 := cell_later hb kb1
              replace kb2 := cell_later hb kb2
              replace kb3 := cell_later hb kb3
              replace kc0 := cell_later hb kc0
              replace kc1 := cell_later hb kc1
              replace kc2 := cell_later hb kc2
              replace kc3 := cell_later hb kc3
              replace kx0 := cell_later hb kx0
              replace kx1 := cell_later hb kx1
              replace kx2 := cell_later hb kx2
              replace kx3 := cell_later hb kx3
              replace ky0 := cell_later hb ky0
              replace ky1 := cell_later hb ky1
              replace ky2 := cell_later hb ky2
              replace ky3 := cell_later hb ky3
              replace kz0 := cell_later hb kz0
              replace kz1 := cell_later hb kz1
              replace kz2 := cell_later hb kz2
              replace kz3 := cell_later hb kz3
              replace zm : w.heap.size < w9.heap.size := World.block_lt_of_cell? _ _ km0
              have zm_w9 := zm
              replace zp : w.heap.size + 1 < w9.heap.size := World.block_lt_of_cell? _ _ kp0
              have zp_w9 := zp
              replace zq : w.heap.size + 1 + 1 < w9.heap.size := World.block_lt_of_cell? _ _ kq0
              have zq_w9 := zq
              replace zb : w.heap.size + 1 + 1 + 1 < w9.heap.size := World.block_lt_of_cell? _ _ kb0
              have zb_w9 := zb
              replace zc : w.heap.size + 1 + 1 + 1 + 1 < w9.heap.size := World.block_lt_of_cell? _ _ kc0
              have zc_w9 := zc
              replace zx : w3.heap.size < w9.heap.size := World.block_lt_of_cell? _ _ kx0
              have zx_w9 := zx
              replace zy : w4.heap.size < w9.heap.size := World.block_lt_of_cell? _ _ ky0
              have zy_w9 := zy
              replace zz : w5.heap.size < w9.heap.size := World.block_lt_of_cell? _ _ kz0
              have zz_w9 := zz
              replace hb0 : Below w.heap.size w w9 := (by repeat (first | with_reducible exact Below.refl _ _ | with_reducible assumption | with_reducible refine Below.setCell ?_ (by first | omega | (simp <;> omega)) _ | with_reducible refine balloc ?_ _ | with_reducible refine Below.drew ?_ | with_reducible refine bstep ?_ (by with_reducible assumption)))
              have hs_w9 : w8.heap.size ≤ w9.heap.size := hb.size
              clear hb
              go_wp2
              all_goals first | (exfalso; omega) | (go_ret; refine ret_bool ?_ (by repeat (first | with_reducible exact Below.refl _ _ | with_reducible assumption | with_reducible refine Below.setCell ?_ (by first | omega | (simp <;> omega)) _ | with_reducible refine balloc ?_ _ | with_reducible refine Below.drew ?_ | with_reducible refine bstep ?_ (by with_reducible assumption))); first | (simp; done) | (simp <;> omega) | (simp [*]; done))
    · subst f0
      go_wp2_with fail
      refine Calls.mono (I2 _) ?_
      rintro e w6 ⟨rfl, hb⟩
      replace km0 := cell_later hb (cell_al _ km0)
      replace km1 := cell_later hb (cell_al _ km1)
      replace km2 := cell_later hb (cell_al _ km2)
      replace km3 := cell_later hb (cell_al _ km3)
      replace km4 := cell_later hb (cell_al _ km4)
      replace km5 := cell_later hb (cell_al _ km5)
      replace km6 := cell_later hb (cell_al _ km6)
      replace kp0 := cell_later hb (cell_al _ kp0)
      replace kp1 := cell_later hb (cell_al _ kp1)
      replace kq0 := cell_later hb (cell_al _ kq0)
      replace kq1 := cell_later hb (cell_al _ kq1)
      replace kb0 := cell_later hb (cell_al _ kb0)
      replace kb1 := cell_later hb (cell_al _ kb1)
      replace kb2 := cell_later hb (cell_al _ kb2)
      replace kb3 := cell_later hb (cell_al _ kb3)
      replace kc0 := cell_later hb (cell_al _ kc0)
      replace kc1 := cell_later hb (cell_al _ kc1)
      replace kc2 := cell_later hb (cell_al _ kc2)
      replace kc3 := cell_later hb (cell_al _ kc3)
      replace kx0 := cell_later hb (cell_al _ kx0)
      replace kx1 := cell_later hb (cell_al _ kx1)
      replace kx2 := cell_later hb (cell_al _ kx2)
      replace kx3 := cell_later hb (cell_al _ kx3)
      replace ky0 := cell_later hb (cell_al _ ky0)
      replace ky1 := cell_later hb (cell_al _ ky1)
      replace ky2 := cell_later hb (cell_al _ ky2)
      replace ky3 := cell_later hb (cell_al _ ky3)
      have kz0 : w6.cell? ⟨w5.heap.size, 0, none⟩ = some (.int .i64 z1) := cell_later hb (by go_simp)
      have kz1 : w6.cell? ⟨w5.heap.size, 1, none⟩ = some (.int .i64 z2) := cell_later hb (by go_simp)
      have kz2 : w6.cell? ⟨w5.heap.size, 2, none⟩ = some (.int .i64 z3) := cell_later hb (by go_simp)
      have kz3 : w6.cell? ⟨w5.heap.size, 3, none⟩ = some (.int .i64 z4) := cell_later hb (by go_simp)
      replace zm : w.heap.size < w6.heap.size := World.block_lt_of_cell? _ _ km0
      have zm_w6 := zm
      replace zp : w.heap.size + 1 < w6.heap.size := World.block_lt_of_cell? _ _ kp0
      have zp_w6 := zp
      replace zq : w.heap.size + 1 + 1 < w6.heap.size := World.block_lt_of_cell? _ _ kq0
      have zq_w6 := zq
      replace zb : w.heap.size + 1 + 1 + 1 < w6.heap.size := World.block_lt_of_cell? _ _ kb0
      have zb_w6 := zb
      replace zc : w.heap.size + 1 + 1 + 1 + 1 < w6.heap.size := World.block_lt_of_cell? _ _ kc0
      have zc_w6 := zc
      replace zx : w3.heap.size < w6.heap.size := World.block_lt_of_cell? _ _ kx0
      have zx_w6 := zx
      replace zy : w4.heap.size < w6.heap.size := World.block_lt_of_cell? _ _ ky0
      have zy_w6 := zy
      have zz : w5.heap.size < w6.heap.size := World.block_lt_of_cell? _ _ kz0
      have zz_w6 := zz
      replace hb0 : Below w.heap.size w w6 := (by repeat (first | with_reducible exact Below.refl _ _ | with_reducible assumption | with_reducible refine Below.setCell ?_ (by first | omega | (simp <;> omega)) _ | with_reducible refine balloc ?_ _ | with_reducible refine Below.drew ?_ | with_reducible refine bstep ?_ (by with_reducible assumption)))
      have hs_w6 := hb.size; (try simp only [World.size_alloc, World.size_setCell] at hs_w6)
      clear hb
      cases ib
      · go_wp2_with fail
        refine Calls.mono (I4 _) ?_
        rintro e w7 ⟨rfl, hb⟩
        replace km0 := cell_later hb km0
        replace km1 := cell_later hb km1
        replace km2 := cell_later hb km2
        replace km3 := cell_later hb km3
        replace km4 := cell_later hb km4
        replace km5 := cell_later hb km5
        replace km6 := cell_later hb km6
        replace kp0 := cell_later hb kp0
        replace kp1 := cell_later hb kp1
        replace kq0 := cell_later hb kq0
        replace kq1 := cell_later hb kq1
        replace kb0 := cell_later hb kb0
        replace kb1 := cell_later hb kb1
        replace kb2 := cell_later hb kb2
        replace kb3 := cell_later hb kb3
        replace kc0 := cell_later hb kc0
        replace kc1 := cell_later hb kc1
        replace kc2 := cell_later hb kc2
        replace kc3 := cell_later hb kc3
        replace kx0 := cell_later hb kx0
        replace kx1 := cell_later hb kx1
        replace kx2 := cell_later hb kx2
        replace kx3 := cell_later hb kx3
        replace ky0 := cell_later hb ky0
        replace ky1 := cell_later hb ky1
        replace ky2 := cell_later hb ky2
        replace ky3 := cell_later hb ky3
        replace kz0 := cell_later hb kz0
        replace kz1 := cell_later hb kz1
        replace kz2 := cell_later hb kz2
        replace kz3 := cell_later hb kz3
        replace zm : w.heap.size < w7.heap.size := World.block_lt_of_cell? _ _ km0
        have zm_w7 := zm
        replace zp : w.heap.size + 1 < w7.heap.size := World.block_lt_of_cell? _ _ kp0
        have zp_w7 := zp
        replace zq : w.heap.size + 1 + 1 < w7.heap.size := World.block_lt_of_cell? _ _ kq0
        have zq_w7 := zq
        replace zb : w.heap.size + 1 + 1 + 1 < w7.heap.size := World.block_lt_of_cell? _ _ kb0
        have zb_w7 := zb
        replace zc : w.heap.size + 1 + 1 + 1 + 1 < w7.heap.size := World.block_lt_of_cell? _ _ kc0
        have zc_w7 := zc
        replace zx : w3.heap.size < w7.heap.size := World.block_lt_of_cell? _ _ kx0
        have zx_w7 := zx
        replace zy : w4.heap.size < w7.heap.size := World.block_lt_of_cell? _ _ ky0
        have zy_w7 := zy
        replace zz : w5.heap.size < w7.heap.size := World.block_lt_of_cell? _ _ kz0
        have zz_w7 := zz
        replace hb0 : Below w.heap.size w w7 := (by repeat (first | with_reducible exact Below.refl _ _ | with_reducible assumption | with_reducible refine Below.setCell ?_ (by first | omega | (simp <;> omega)) _ | with_reducible refine balloc ?_ _ | with_reducible refine Below.drew ?_ | with_reducible refine bstep ?_ (by with_reducible assumption)))
        have hs_w7 : w6.heap.size ≤ w7.heap.size := hb.size
        clear hb
        cases ic
        · go_wp2
          all_goals first | (exfalso; omega) | (go_ret; refine ret_bool ?_ (by repeat (first | with_reducible exact Below.refl _ _ | with_reducible assumption | with_reducible refine Below.setCell ?_ (by first | omega | (simp <;> omega)) _ | with_reducible refine balloc ?_ _ | with_reducible refine Below.drew ?_ | with_reducible refine bstep ?_ (by with_reducible assumption))); first | (simp; done) | (simp <;> omega) | (simp [*]; done))
        · rcases hZ rfl with e1 | ⟨e1, e2⟩
          · subst e1
            go_wp2
            all_goals first | (exfalso; omega) | (go_ret; refine ret_bool ?_ (by repeat (first | with_reducible exact Below.refl _ _ | with_reducible assumption | with_reducible refine Below.setCell ?_ (by first | omega | (simp <;> omega)) _ | with_reducible refine balloc ?_ _ | with_reducible refine Below.drew ?_ | with_reducible refine bstep ?_ (by with_reducible assumption))); first | (simp; done) | (simp <;> omega) | (simp [*]; done))
          · subst e1
            rw [e2] at I5
            go_wp2_with fail
            refine Calls.mono (I5 _) ?_
            rintro e w8 ⟨rfl, hb⟩
            replace km0 := cell_later hb km0
            replace km1 := cell_later hb km1
            replace km2 := cell_later hb km2
            replace km3 := cell_later hb km3
            replace km4 := cell_later hb km4
            replace km5 := cell_later hb km5
            replace km6 := cell_later hb km6
            replace kp0 := cell_later hb kp0
            replace kp1 := cell_later hb kp1
            replace kq0 := cell_later hb kq0
            replace kq1 := cell_later hb kq1
            replace kb0 := cell_later hb kb0
            replace kb1 := cell_later hb kb1
            replace kb2 := cell_later hb kb2
            replace kb3 := cell_later hb kb3
            replace kc0 := cell_later hb kc0
            replace kc1 := cell_later hb kc1
            replace kc2 := cell_later hb kc2
            replace kc3 := cell_later hb kc3
            replace kx0 := cell_later hb kx0
            replace kx1 := cell_later hb kx1
            replace kx2 := cell_later hb kx2
            replace kx3 := cell_later hb kx3
            replace ky0 := cell_later hb ky0
            replace ky1 := cell_later hb ky1
            replace ky2 := cell_later hb ky2
            replace ky3 := cell_later hb ky3
            replace kz0 := cell_later hb kz0
            replace kz1 := cell_later hb kz1
            replace kz2 := cell_later hb kz2
            replace kz3 := cell_later hb kz3
            replace zm : w.heap.size < w8.heap.size := World.block_lt_of_cell? _ _ km0
            have zm_w8 := zm
            replace zp : w.heap.size + 1 < w8.heap.size := World.block_lt_of_cell? _ _ kp0
            have zp_w8 := zp
            replace zq : w.heap.size + 1 + 1 < w8.heap.size := World.block_lt_of_cell? _ _ kq0
            have zq_w8 := zq
            replace zb : w.heap.size + 1 + 1 + 1 < w8.heap.size := World.block_lt_of_cell? _ _ kb0
            have zb_w8 := zb
            replace zc : w.heap.size + 1 + 1 + 1 + 1 < w8.heap.size := World.block_lt_of_cell? _ _ kc0
            have zc_w8 := zc
            replace zx : w3.heap.size < w8.heap.size := World.block_lt_of_cell? _ _ kx0
            have zx_w8 := zx
            replace zy : w4.heap.size < w8.heap.size := World.block_lt_of_cell? _ _ ky0
            have zy_w8 := zy
            replace zz : w5.heap.size < w8.heap.size := World.block_lt_of_cell? _ _ kz0
            have zz_w8 := zz
            replace hb0 : Below w.heap.size w w8 := (by repeat (first | with_reducible exact Below.refl _ _ | with_reducible assumption | with_reducible refine Below.setCell ?_ (by first | omega | (simp <;> omega)) _ | with_reducible refine balloc ?_ _ | with_reducible refine Below.drew ?_ | with_reducible refine bstep ?_ (by with_reducible assumption)))
            have hs_w8 : w7.heap.size ≤ w8.heap.size := hb.size
            clear hb
            go_wp2
            all_goals first | (exfalso; omega) | (go_ret; refine ret_bool ?_ (by repeat (first | with_reducible exact Below.refl _ _ | with_reducible assumption | with_reducible refine Below.setCell ?_ (by first | omega | (simp <;> omega)) _ | with_reducible refine balloc ?_ _ | with_reducible refine Below.drew ?_ | with_reducible refine bstep ?_ (by with_reducible assumption))); first | (simp; done) | (simp <;> omega) | (simp [*]; done))
      · rcases hY rfl with e1 | ⟨e1, e2⟩ | e1
        · subst e1
          go_wp2_with fail
          refine Calls.mono (I4 _) ?_
          rintro e w7 ⟨rfl, hb⟩
          replace km0 := cell_later hb km0
          replace km1 := cell_later hb km1
          replace km2 := cell_later hb km2
          replace km3 := cell_later hb km3
          replace km4 := cell_later hb km4
          replace km5 := cell_later hb km5
          replace km6 := cell_later hb km6
          replace kp0 := cell_later hb kp0
          replace kp1 := cell_later hb kp1
          replace kq0 := cell_later hb kq0
          replace kq1 := cell_later hb kq1
          replace kb0 := cell_later hb kb0
          replace kb1 := cell_later hb kb1
          replace kb2 := cell_later hb kb2
          replace kb3 := cell_later hb kb3
          replace kc0 := cell_later hb kc0
          replace kc1 := cell_later hb kc1
          replace kc2 := cell_later hb kc2
          replace kc3 := cell_later hb kc3
          replace kx0 := cell_later hb kx0
          replace kx1 := cell_later hb kx1
          replace kx2 := cell_later hb kx2
          replace kx3 := cell_later hb kx3
          replace ky0 := cell_later hb ky0
          replace ky1 := cell_later hb ky1
          replace ky2 := cell_later hb ky2
          replace ky3 := cell_later hb ky3
          replace kz0 := cell_later hb kz0
          replace kz1 := cell_later hb kz1
          replace kz2 := cell_later hb kz2
          replace kz3 := cell_later hb kz3
          replace zm : w.heap.size < w7.heap.size := World.block_lt_of_cell? _ _ km0
          have zm_w7 := zm
          replace zp : w.heap.size + 1 < w7.heap.size := World.block_lt_of_cell? _ _ kp0
          have zp_w7 := zp
          replace zq : w.heap.size + 1 + 1 < w7.heap.size := World.block_lt_of_cell? _ _ kq0
          have zq_w7 := zq
          replace zb : w.heap.size + 1 + 1 + 1 < w7.heap.size := World.block_lt_of_cell? _ _ kb0
          have zb_w7 := zb
          replace zc : w.heap.size + 1 + 1 + 1 + 1 < w7.heap.size := World.block_lt_of_cell? _ _ kc0
          have zc_w7 := zc
          replace zx : w3.heap.size < w7.heap.size := World.block_lt_of_cell? _ _ kx0
          have zx_w7 := zx
          replace zy : w4.heap.size < w7.heap.size := World.block_lt_of_cell? _ _ ky0
          have zy_w7 := zy
          replace zz : w5.heap.size < w7.heap.size := World.block_lt_of_cell? _ _ kz0
          have zz_w7 := zz
          replace hb0 : Below w.heap.size w w7 := (by repeat (first | with_reducible exact Below.refl _ _ | with_reducible assumption | with_reducible refine Below.setCell ?_ (by first | omega | (simp <;> omega)) _ | with_reducible refine balloc ?_ _ | with_reducible refine Below.drew ?_ | with_reducible refine bstep ?_ (by with_reducible assumption)))
          have hs_w7 : w6.heap.size ≤ w7.heap.size := hb.size
          clear hb
          cases ic
          · go_wp2
            all_goals first | (exfalso; omega) | (go_ret; refine ret_bool ?_ (by repeat (first | with_reducible exact Below.refl _ _ | with_reducible assumption | with_reducible refine Below.setCell ?_ (by first | omega | (simp <;> omega)) _ | with_reducible refine balloc ?_ _ | with_reducible refine Below.drew ?_ | with_reducible refine bstep ?_ (by with_reducible assumption))); first | (simp; done) | (simp <;> omega) | (simp [*]; done))
          · rcases hZ rfl with e1 | ⟨e1, e2⟩
            · subst e1
              go_wp2
              all_goals first | (exfalso; omega) | (go_ret; refine ret_bool ?_ (by repeat (first | with_reducible exact Below.refl _ _ | with_reducible assumption | with_reducible refine Below.setCell ?_ (by first | omega | (simp <;> omega)) _ | with_reducible refine balloc ?_ _ | with_reducible refine Below.drew ?_ | with_reducible refine bstep ?_ (by with_reducible assumption))); first | (simp; done) | (simp <;> omega) | (simp [*]; done))
            · subst e1
              rw [e2] at I5
              go_wp2_with fail
              refine Calls.mono (I5 _) ?_
              rintro e w8 ⟨rfl, hb⟩
              replace km0 := cell_later hb km0
              replace km1 := cell_later hb km1
              replace km2 := cell_later hb km2
              replace km3 := cell_later hb km3
              replace km4 := cell_later hb km4
              replace km5 := cell_later hb km5
              replace km6 := cell_later hb km6
              replace kp0 := cell_later hb kp0
              replace kp1 := cell_later hb kp1
              replace kq0 := cell_later hb kq0
              replace kq1 := cell_later hb kq1
              replace kb0 := cell_later hb kb0
              replace kb1 := cell_later hb kb1
              replace kb2 := cell_later hb kb2
              replace kb3 := cell_later hb kb3
              replace kc0 := cell_later hb kc0
              replace kc1 := cell_later hb kc1
              replace kc2 := cell_later hb kc2
              replace kc3 := cell_later hb kc3
              replace kx0 := cell_later hb kx0
              replace kx1 := cell_later hb kx1
              replace kx2 := cell_later hb kx2
              replace kx3 := cell_later hb kx3
              replace ky0 := cell_later hb ky0
              replace ky1 := cell_later hb ky1
              replace ky2 := cell_later hb ky2
              replace ky3 := cell_later hb ky3
              replace kz0 := cell_later hb kz0
              replace kz1 := cell_later hb kz1
              replace kz2 := cell_later hb kz2
              replace kz3 := cell_later hb kz3
              replace zm : w.heap.size < w8.heap.size := World.block_lt_of_cell? _ _ km0
              have zm_w8 := zm
              replace zp : w.heap.size + 1 < w8.heap.size := World.block_lt_of_cell? _ _ kp0
              have zp_w8 := zp
              replace zq : w.heap.size + 1 + 1 < w8.heap.size := World.block_lt_of_cell? _ _ kq0
              have zq_w8 := zq
              replace zb : w.heap.size + 1 + 1 + 1 < w8.heap.size := World.block_lt_of_cell? _ _ kb0
              have zb_w8 := zb
              replace zc : w.heap.size + 1 + 1 + 1 + 1 < w8.heap.size := World.block_lt_of_cell? _ _ kc0
              have zc_w8 := zc
              replace zx : w3.heap.size < w8.heap.size := World.block_lt_of_cell? _ _ kx0
              have zx_w8 := zx
              replace zy : w4.heap.size < w8.heap.size := World.block_lt_of_cell? _ _ ky0
              have zy_w8 := zy
              replace zz : w5.heap.size < w8.heap.size := World.block_lt_of_cell? _ _ kz0
              have zz_w8 := zz
              replace hb0 : Below w.heap.size w w8 := (by repeat (first | with_reducible exact Below.refl _ _ | with_reducible assumption | with_reducible refine Below.setCell ?_ (by first | omega | (simp <;> omega)) _ | with_reducible refine balloc ?_ _ | with_reducible refine Below.drew ?_ | with_reducible refine bstep ?_ (by with_reducible assumption)))
              have hs_w8 : w7.heap.size ≤ w8.heap.size := hb.size
              clear hb
              go_wp2
              all_goals first | (exfalso; omega) | (go_ret; refine ret_bool ?_ (by repeat (first | with_reducible exact Below.refl _ _ | with_reducible assumption | with_reducible refine Below.setCell ?_ (by first | omega | (simp <;> omega)) _ | with_reducible refine balloc ?_ _ | with_reducible refine Below.drew ?_ | with_reducible refine bstep ?_ (by with_reducible assumption))); first | (simp; done) | (simp <;> omega) | (simp [*]; done))
        · subst e1
          rw [e2] at I3
          go_wp2_with fail
          refine Calls.mono (I3 _) ?_
          rintro e w7 ⟨rfl, hb⟩
          replace km0 := cell_later hb km0
          replace km1 := cell_later hb km1
          replace km2 := cell_later hb km2
          replace km3 := cell_later hb km3
          replace km4 := cell_later hb km4
          replace km5 := cell_later hb km5
          replace km6 := cell_later hb km6
          replace kp0 := cell_later hb kp0
          replace kp1 := cell_later hb kp1
          replace kq0 := cell_later hb kq0
          replace kq1 := cell_later hb kq1
          replace kb0 := cell_later hb kb0
          replace kb1 := cell_later hb kb1
          replace kb2 := cell_later hb kb2
          replace kb3 := cell_later hb kb3
          replace kc0 := cell_later hb kc0
          replace kc1 := cell_later hb kc1
          replace kc2 := cell_later hb kc2
          replace kc3 := cell_later hb kc3
          replace kx0 := cell_later hb kx0
          replace kx1 := cell_later hb kx1
          replace kx2 := cell_later hb kx2
          replace kx3 := cell_later hb kx3
          replace ky0 := cell_later hb ky0
          replace ky1 := cell_later hb ky1
          replace ky2 := cell_later hb ky2
          replace ky3 := cell_later hb ky3
          replace kz0 := cell_later hb kz0
          replace kz1 := cell_later hb kz1
          replace kz2 := cell_later hb kz2
          replace kz3 := cell_later hb kz3
          replace zm : w.heap.size < w7.heap.size := World.block_lt_of_cell? _ _ km0
          have zm_w7 := zm
          replace zp : w.heap.size + 1 < w7.heap.size := World.block_lt_of_cell? _ _ kp0
          have zp_w7 := zp
          replace zq : w.heap.size + 1 + 1 < w7.heap.size := World.block_lt_of_cell? _ _ kq0
          have zq_w7 := zq
          replace zb : w.heap.size + 1 + 1 + 1 < w7.heap.size := World.block_lt_of_cell? _ _ kb0
          have zb_w7 := zb
          replace zc : w.heap.size + 1 + 1 + 1 + 1 < w7.heap.size := World.block_lt_of_cell? _ _ kc0
          have zc_w7 := zc
          replace zx : w3.heap.size < w7.heap.size := World.block_lt_of_cell? _ _ kx0
          have zx_w7 := zx
          replace zy : w4.heap.size < w7.heap.size := World.block_lt_of_cell? _ _ ky0
          have zy_w7 := zy
          replace zz : w5.heap.size < w7.heap.size := World.block_lt_of_cell? _ _ kz0
          have zz_w7 := zz
          replace hb0 : Below w.heap.size w w7 := (by repeat (first | with_reducible exact Below.refl _ _ | with_reducible assumption | with_reducible refine Below.setCell ?_ (by first | omega | (simp <;> omega)) _ | with_reducible refine balloc ?_ _ | with_reducible refine Below.drew ?_ | with_reducible refine bstep ?_ (by with_reducible assumption)))
          have hs_w7 : w6.heap.size ≤ w7.heap.size := hb.size
          clear hb
          go_wp2_with fail
          refine Calls.mono (I4 _) ?_
          rintro e w8 ⟨rfl, hb⟩
          replace km0 := cell_later hb km0
          replace km1 := cell_later hb km1
          replace km2 := cell_later hb km2
          replace km3 := cell_later hb km3
          replace km4 := cell_later hb km4
          replace km5 := cell_later hb km5
          replace km6 := cell_later hb km6
          replace kp0 := cell_later hb kp0
          replace kp1 := cell_later hb kp1
          replace kq0 := cell_later hb kq0
          replace kq1 := cell_later hb kq1
          replace kb0 := cell_later hb kb0
          replace kb1 := cell_later hb kb1
          replace kb2 := cell_later hb kb2
          replace kb3 := cell_later hb kb3
          replace kc0 := cell_later hb kc0
          replace kc1 := cell_later hb kc1
          replace kc2 := cell_later hb kc2
          replace kc3 := cell_later hb kc3
          replace kx0 := cell_later hb kx0
          replace kx1 := cell_later hb kx1
          replace kx2 := cell_later hb kx2
          replace kx3 := cell_later hb kx3
          replace ky0 := cell_later hb ky0
          replace ky1 := cell_later hb ky1
          replace ky2 := cell_later hb ky2
          replace ky3 := cell_later hb ky3
          replace kz0 := cell_later hb kz0
          replace kz1 := cell_later hb kz1
          replace kz2 := cell_later hb kz2
          replace kz3 := cell_later hb kz3
          replace zm : w.heap.size < w8.heap.size := World.block_lt_of_cell? _ _ km0
          have zm_w8 := zm
          replace zp : w.heap.size + 1 < w8.heap.size := World.block_lt_of_cell? _ _ kp0
          have zp_w8 := zp
          replace zq : w.heap.size + 1 + 1 < w8.heap.size := World.block_lt_of_cell? _ _ kq0
          have zq_w8 := zq
          replace zb : w.heap.size + 1 + 1 + 1 < w8.heap.size := World.block_lt_of_cell? _ _ kb0
          have zb_w8 := zb
          replace zc : w.heap.size + 1 + 1 + 1 + 1 < w8.heap.size := World.block_lt_of_cell? _ _ kc0
          have zc_w8 := zc
          replace zx : w3.heap.size < w8.heap.size := World.block_lt_of_cell? _ _ kx0
          have zx_w8 := zx
          replace zy : w4.heap.size < w8.heap.size := World.block_lt_of_cell? _ _ ky0
          have zy_w8 := zy
          replace zz : w5.heap.size < w8.heap.size := World.block_lt_of_cell? _ _ kz0
          have zz_w8 := zz
          replace hb0 : Below w.heap.size w w8 := (by repeat (first | with_reducible exact Below.refl _ _ | with_reducible assumption | with_reducible refine Below.setCell ?_ (by first | omega | (simp <;> omega)) _ | with_reducible refine balloc ?_ _ | with_reducible refine Below.drew ?_ | with_reducible refine bstep ?_ (by with_reducible assumption)))
          have hs_w8 : w7.heap.size ≤ w8.heap.size := hb.size
          clear hb
          cases ic
          · go_wp2
            all_goals first | (exfalso; omega) | (go_ret; refine ret_bool ?_ (by repeat (first | with_reducible exact Below.refl _ _ | with_reducible assumption | with_reducible refine Below.setCell ?_ (by first | omega | (simp <;> omega)) _ | with_reducible refine balloc ?_ _ | with_reducible refine Below.drew ?_ | with_reducible refine bstep ?_ (by with_reducible assumption))); first | (simp; done) | (simp <;> omega) | (simp [*]; done))
          · rcases hZ rfl with e1 | ⟨e1, e2⟩
            · subst e1
              go_wp2
              all_goals first | (exfalso; omega) | (go_ret; refine ret_bool ?_ (by repeat (first | with_reducible exact Below.refl _ _ | with_reducible assumption | with_reducible refine Below.setCell ?_ (by first | omega | (simp <;> omega)) _ | with_reducible refine balloc ?_ _ | with_reducible refine Below.drew ?_ | with_reducible refine bstep ?_ (by with_reducible assumption))); first | (simp; done) | (simp <;> omega) | (simp [*]; done))
            · subst e1
              rw [e2] at I5
              go_wp2_with fail
              refine Calls.mono (I5 _) ?_
              rintro e w9 ⟨rfl, hb⟩
              replace km0 := cell_later hb km0
              replace km1 := cell_later hb km1
              replace km2 := cell_later hb km2
              replace km3 := cell_later hb km3
              replace km4 := cell_later hb km4
              replace km5 := cell_later hb km5
              replace km6 := cell_later hb km6
              replace kp0 := cell_later hb kp0
              replace kp1 := cell_later hb kp1
              replace kq0 := cell_later hb kq0
              replace kq1 := cell_later hb kq1
              replace kb0 := cell_later hb kb0
              replace kb1 := cell_later hb kb1
              replace kb2 := cell_later hb kb2
              replace kb3 := cell_later hb kb3
              replace kc0 := cell_later hb kc0
              replace kc1 := cell_later hb kc1
              replace kc2 := cell_later hb kc2
              replace kc3 := cell_later hb kc3
              replace kx0 := cell_later hb kx0
              replace kx1 := cell_later hb kx1
              replace kx2 := cell_later hb kx2
              replace kx3 := cell_later hb kx3
              replace ky0 := cell_later hb ky0
              replace ky1 := cell_later hb ky1
              replace ky2 := cell_later hb ky2
              replace ky3 := cell_later hb ky3
              replace kz0 := cell_later hb kz0
              replace kz1 := cell_later hb kz1
              replace kz2 := cell_later hb kz2
              replace kz3 := cell_later hb kz3
              replace zm : w.heap.size < w9.heap.size := World.block_lt_of_cell? _ _ km0
              have zm_w9 := zm
              replace zp : w.heap.size + 1 < w9.heap.size := World.block_lt_of_cell? _ _ kp0
              have zp_w9 := zp
              replace zq : w.heap.size + 1 + 1 < w9.heap.size := World.block_lt_of_cell? _ _ kq0
              have zq_w9 := zq
              replace zb : w.heap.size + 1 + 1 + 1 < w9.heap.size := World.block_lt_of_cell? _ _ kb0
              have zb_w9 := zb
              replace zc : w.heap.size + 1 + 1 + 1 + 1 < w9.heap.size := World.block_lt_of_cell? _ _ kc0
              have zc_w9 := zc
              replace zx : w3.heap.size < w9.heap.size := World.block_lt_of_cell? _ _ kx0
              have zx_w9 := zx
              replace zy : w4.heap.size < w9.heap.size := World.block_lt_of_cell? _ _ ky0
              have zy_w9 := zy
              replace zz : w5.heap.size < w9.heap.size := World.block_lt_of_cell? _ _ kz0
              have zz_w9 := zz
              replace hb0 : Below w.heap.size w w9 := (by repeat (first | with_reducible exact Below.refl _ _ | with_reducible assumption | with_reducible refine Below.setCell ?_ (by first | omega | (simp <;> omega)) _ | with_reducible refine balloc ?_ _ | with_reducible refine Below.drew ?_ | with_reducible refine bstep ?_ (by with_reducible assumption)))
              have hs_w9 : w8.heap.size ≤ w9.heap.size := hb.size
              clear hb
              go_wp2
              all_goals first | (exfalso; omega) | (go_ret; refine ret_bool ?_ (by repeat (first | with_reducible exact Below.refl _ _ | with_reducible assumption | with_reducible refine Below.setCell ?_ (by first | omega | (simp <;> omega)) _ | with_reducible refine balloc ?_ _ | with_reducible refine Below.drew ?_ | with_reducible refine bstep ?_ (by with_reducible assumption))); first | (simp; done) | (simp <;> omega) | (simp [*]; done))
        · subst e1
          go_wp2_with fail
          refine Calls.mono (I4 _) ?_
          rintro e w7 ⟨rfl, hb⟩
          replace km0 := cell_later hb km0
          replace km1 := cell_later hb km1
          replace km2 := cell_later hb km2
          replace km3 := cell_later hb km3
          replace km4 := cell_later hb km4
          replace km5 := cell_later hb km5
          replace km6 := cell_later hb km6
          replace kp0 := cell_later hb kp0
          replace kp1 := cell_later hb kp1
          replace kq0 := cell_later hb kq0
          replace kq1 := cell_later hb kq1
          replace kb0 := cell_later hb kb0
          replace kb1 := cell_later hb kb1
          replace kb2 := cell_later hb kb2
          replace kb3 := cell_later hb kb3
          replace kc0 := cell_later hb kc0
          replace kc1 := cell_later hb kc1
          replace kc2 := cell_later hb kc2
          replace kc3 := cell_later hb kc3
          replace kx0 := cell_later hb kx0
          replace kx1 := cell_later hb kx1
          replace kx2 := cell_later hb kx2
          replace kx3 := cell_later hb kx3
          replace ky0 := cell_later hb ky0
          replace ky1 := cell_later hb ky1
          replace ky2 := cell_later hb ky2
          replace ky3 := cell_later hb ky3
          replace kz0 := cell_later hb kz0
          replace kz1 := cell_later hb kz1
          replace kz2 := cell_later hb kz2
          replace kz3 := cell_later hb kz3
          replace zm : w.heap.size < w7.heap.size := World.block_lt_of_cell? _ _ km0
          have zm_w7 := zm
          replace zp : w.heap.size + 1 < w7.heap.size := World.block_lt_of_cell? _ _ kp0
          have zp_w7 := zp
          replace zq : w.heap.size + 1 + 1 < w7.heap.size := World.block_lt_of_cell? _ _ kq0
          have zq_w7 := zq
          replace zb : w.heap.size + 1 + 1 + 1 < w7.heap.size := World.block_lt_of_cell? _ _ kb0
          have zb_w7 := zb
          replace zc : w.heap.size + 1 + 1 + 1 + 1 < w7.heap.size := World.block_lt_of_cell? _ _ kc0
          have zc_w7 := zc
          replace zx : w3.heap.size < w7.heap.size := World.block_lt_of_cell? _ _ kx0
          have zx_w7 := zx
          replace zy : w4.heap.size < w7.heap.size := World.block_lt_of_cell? _ _ ky0
          have zy_w7 := zy
          replace zz : w5.heap.size < w7.heap.size := World.block_lt_of_cell? _ _ kz0
          have zz_w7 := zz
          replace hb0 : Below w.heap.size w w7 := (by repeat (first | with_reducible exact Below.refl _ _ | with_reducible assumption | with_reducible refine Below.setCell ?_ (by first | omega | (simp <;> omega)) _ | with_reducible refine balloc ?_ _ | with_reducible refine Below.drew ?_ | with_reducible refine bstep ?_ (by with_reducible assumption)))
          have hs_w7 : w6.heap.size ≤ w7.heap.size := hb.size
          clear hb
          cases ic
          · go_wp2
            all_goals first | (exfalso; omega) | (go_ret; refine ret_bool ?_ (by repeat (first | with_reducible exact Below.refl _ _ | with_reducible assumption | with_reducible refine Below.setCell ?_ (by first | omega | (simp <;> omega)) _ | with_reducible refine balloc ?_ _ | with_reducible refine Below.drew ?_ | with_reducible refine bstep ?_ (by with_reducible assumption))); first | (simp; done) | (simp <;> omega) | (simp [*]; done))
          · rcases hZ rfl with e1 | ⟨e1, e2⟩
            · subst e1
              go_wp2
              all_goals first | (exfalso; omega) | (go_ret; refine ret_bool ?_ (by repeat (first | with_reducible exact Below.refl _ _ | with_reducible assumption | with_reducible refine Below.setCell ?_ (by first | omega | (simp <;> omega)) _ | with_reducible refine balloc ?_ _ | with_reducible refine Below.drew ?_ | with_reducible refine bstep ?_ (by with_reducible assumption))); first | (simp; done) | (simp <;> omega) | (simp [*]; done))
            · subst e1
              rw [e2] at I5
              go_wp2_with fail
              refine Calls.mono (I5 _) ?_
              rintro e w8 ⟨rfl, hb⟩
              replace km0 := cell_later hb km0
              replace km1 := cell_later hb km1
              replace km2 := cell_later hb km2
              replace km3 := cell_later hb km3
              replace km4 := cell_later hb km4
              replace km5 := cell_later hb km5
              replace km6 := cell_later hb km6
              replace kp0 := cell_later hb kp0
              replace kp1 := cell_later hb kp1
              replace kq0 := cell_later hb kq0
              replace kq1 := cell_later hb kq1
              replace kb0 := cell_later hb kb0
              replace kb1 := cell_later hb kb1
              replace kb2 := cell_later hb kb2
              replace kb3 := cell_later hb kb3
              replace kc0 := cell_later hb kc0
              replace kc1 := cell_later hb kc1
              replace kc2 := cell_later hb kc2
              replace kc3 := cell_later hb kc3
              replace kx0 := cell_later hb kx0
              replace kx1 := cell_later hb kx1
              replace kx2 := cell_later hb kx2
              replace kx3 := cell_later hb kx3
              replace ky0 := cell_later hb ky0
              replace ky1 := cell_later hb ky1
              replace ky2 := cell_later hb ky2
              replace ky3 := cell_later hb ky3
              replace kz0 := cell_later hb kz0
              replace kz1 := cell_later hb kz1
              replace kz2 := cell_later hb kz2
              replace kz3 := cell_later hb kz3
              replace zm : w.heap.size < w8.heap.size := World.block_lt_of_cell? _ _ km0
              have zm_w8 := zm
              replace zp : w.heap.size + 1 < w8.heap.size := World.block_lt_of_cell? _ _ kp0
              have zp_w8 := zp
              replace zq : w.heap.size + 1 + 1 < w8.heap.size := World.block_lt_of_cell? _ _ kq0
              have zq_w8 := zq
              replace zb : w.heap.size + 1 + 1 + 1 < w8.heap.size := World.block_lt_of_cell? _ _ kb0
              have zb_w8 := zb
              replace zc : w.heap.size + 1 + 1 + 1 + 1 < w8.heap.size := World.block_lt_of_cell? _ _ kc0
              have zc_w8 := zc
              replace zx : w3.heap.size < w8.heap.size := World.block_lt_of_cell? _ _ kx0
              have zx_w8 := zx
              replace zy : w4.heap.size < w8.heap.size := World.block_lt_of_cell? _ _ ky0
              have zy_w8 := zy
              replace zz : w5.heap.size < w8.heap.size := World.block_lt_of_cell? _ _ kz0
              have zz_w8 := zz
              replace hb0 : Below w.heap.size w w8 := (by repeat (first | with_reducible exact Below.refl _ _ | with_reducible assumption | with_reducible refine Below.setCell ?_ (by first | omega | (simp <;> omega)) _ | with_reducible refine balloc ?_ _ | with_reducible refine Below.drew ?_ | with_reducible refine bstep ?_ (by with_reducible assumption)))
              have hs_w8 : w7.heap.size ≤ w8.heap.size := hb.size
              clear hb
              go_wp2
              all_goals first | (exfalso; omega) | (go_ret; refine ret_bool ?_ (by repeat (first | with_reducible exact Below.refl _ _ | with_reducible assumption | with_reducible refine Below.setCell ?_ (by first | omega | (simp <;> omega)) _ | with_reducible refine balloc ?_ _ | with_reducible refine Below.drew ?_ | with_reducible refine bstep ?_ (by with_reducible assumption))); first | (simp; done) | (simp <;> omega) | (simp [*]; done))


end Go.Proofs.Ytlkjpackjjncaaa.Da
