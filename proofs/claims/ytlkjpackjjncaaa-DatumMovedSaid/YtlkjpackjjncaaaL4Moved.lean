/- L4Moved: the law DatumMoved. -/
import Derived.Test.YtlkjpackjjncaaaDatY
import Derived.Test.YtlkjpackjjncaaaRows
import Derived.WalkKit
import Derived.WalkSpells
import Derived.WalkLawsBesides
import Derived.Lib.Hide
import Derived.Deep.QuietTactic
import Derived.BigQuiet
import Derived.RegionTactic
import Derived.ChangeAlike
import Derived.BigRegion
import Derived.Deep.RegionHeld3
import Derived.Deep.RegionWith
import Derived.Outline
import Derived.Laws.EntriesVeiled
import Derived.Deep.DeepCutAuto
import Derived.IntWalk
namespace Go.Proofs.Ytlkjpackjjncaaa.Da
open Go.RowKit Sp
set_option linter.unusedSimpArgs false
set_option linter.unusedVariables false

theorem ft_add {a b c x y q r v : Int} : ft (rv a b (c + v) x y) (q + v) r ↔ ft (rv a b c x y) q r := by
  unfold ft rv
  omega
theorem cL_add {a b c r x1 x2 y1 y2 v : Int} : cL a b (c + v) r x1 x2 y1 y2 = cL a b c r x1 x2 y1 y2 + v := by
  unfold cL oL dn
  generalize min (x1 * a) (x2 * a) + min (y1 * b) (y2 * b) = t
  omega
theorem cH_add {a b c r x1 x2 y1 y2 v : Int} : cH a b (c + v) r x1 x2 y1 y2 = cH a b c r x1 x2 y1 y2 + v := by
  unfold cH oH upd
  generalize max (x1 * a) (x2 * a) + max (y1 * b) (y2 * b) = t
  omega
theorem xf_add {m1 m2 m3 m4 m5 m6 m7 p1 p2 q1 q2 v1 v2 : Int} : xFits m1 m2 (m3 + v1) m4 m5 (m6 + v2) m7 p1 p2 (q1 + v1) (q2 + v2) = xFits m1 m2 m3 m4 m5 m6 m7 p1 p2 q1 q2 := by
  rw [Bool.eq_iff_iff, xf_iff, xf_iff, ft_add, ft_add]

set_option maxRecDepth 100000 in
set_option maxHeartbeats 25600000 in
theorem moved_law (m1 m2 m3 m4 m5 m6 m7 p1 p2 q1 q2 v1 v2 : Int) (w : World)  : Calls Try.prog 9 #[(.agg #[(.int .i64 m1), (.int .i64 m2), (.int .i64 m3), (.int .i64 m4), (.int .i64 m5), (.int .i64 m6), (.int .i64 m7)]), (.agg #[(.int .i64 p1), (.int .i64 p2)]), (.agg #[(.int .i64 q1), (.int .i64 q2)]), (.agg #[(.int .i64 v1), (.int .i64 v2)])] w (Ret w (.bool true)) := by
  by_cases hv : -200000 ≤ v1 ∧ v1 ≤ 200000 ∧ -200000 ≤ v2 ∧ v2 ≤ 200000
  rotate_left
  · go_enter Try.func9, Try.ntmps9
    go_wp2_with fail
    refine Calls.mono (head_c _) ?_
    rintro e w1 ⟨rfl, hb⟩
    have km0 : w1.cell? ⟨w.heap.size, 0, none⟩ = some (.int .i64 m1) := cell_later hb (by go_simp)
    have km1 : w1.cell? ⟨w.heap.size, 1, none⟩ = some (.int .i64 m2) := cell_later hb (by go_simp)
    have km2 : w1.cell? ⟨w.heap.size, 2, none⟩ = some (.int .i64 m3) := cell_later hb (by go_simp)
    have km3 : w1.cell? ⟨w.heap.size, 3, none⟩ = some (.int .i64 m4) := cell_later hb (by go_simp)
    have km4 : w1.cell? ⟨w.heap.size, 4, none⟩ = some (.int .i64 m5) := cell_later hb (by go_simp)
    have km5 : w1.cell? ⟨w.heap.size, 5, none⟩ = some (.int .i64 m6) := cell_later hb (by go_simp)
    have km6 : w1.cell? ⟨w.heap.size, 6, none⟩ = some (.int .i64 m7) := cell_later hb (by go_simp)
    have kp0 : w1.cell? ⟨w.heap.size + 1, 0, none⟩ = some (.int .i64 p1) := cell_later hb (by go_simp)
    have kp1 : w1.cell? ⟨w.heap.size + 1, 1, none⟩ = some (.int .i64 p2) := cell_later hb (by go_simp)
    have kq0 : w1.cell? ⟨w.heap.size + 1 + 1, 0, none⟩ = some (.int .i64 q1) := cell_later hb (by go_simp)
    have kq1 : w1.cell? ⟨w.heap.size + 1 + 1, 1, none⟩ = some (.int .i64 q2) := cell_later hb (by go_simp)
    have kv0 : w1.cell? ⟨w.heap.size + 1 + 1 + 1, 0, none⟩ = some (.int .i64 v1) := cell_later hb (by go_simp)
    have kv1 : w1.cell? ⟨w.heap.size + 1 + 1 + 1, 1, none⟩ = some (.int .i64 v2) := cell_later hb (by go_simp)
    have zm : w.heap.size < w1.heap.size := World.block_lt_of_cell? _ _ km0
    have zm_w1 := zm
    have zp : w.heap.size + 1 < w1.heap.size := World.block_lt_of_cell? _ _ kp0
    have zp_w1 := zp
    have zq : w.heap.size + 1 + 1 < w1.heap.size := World.block_lt_of_cell? _ _ kq0
    have zq_w1 := zq
    have zv : w.heap.size + 1 + 1 + 1 < w1.heap.size := World.block_lt_of_cell? _ _ kv0
    have zv_w1 := zv
    have hb0 : Below w.heap.size w w1 := (by repeat (first | with_reducible exact Below.refl _ _ | with_reducible assumption | with_reducible refine Below.setCell ?_ (by first | omega | (simp <;> omega)) _ | with_reducible refine balloc ?_ _ | with_reducible refine Below.drew ?_ | with_reducible refine bstep ?_ (by with_reducible assumption)))
    have hs_w1 := hb.size; (try simp only [World.size_alloc, World.size_setCell] at hs_w1)
    clear hb
    go_wp2
    all_goals first | (exfalso; omega) | (go_ret; refine ret_bool ?_ (by repeat (first | with_reducible exact Below.refl _ _ | with_reducible assumption | with_reducible refine Below.setCell ?_ (by first | omega | (simp <;> omega)) _ | with_reducible refine balloc ?_ _ | with_reducible refine Below.drew ?_ | with_reducible refine bstep ?_ (by with_reducible assumption))); first | (simp; done) | (simp <;> omega) | (simp [*]; done))
  obtain ⟨r1, r2, r3, r4⟩ := hv
  rcases fits3 m1 m2 m3 m4 m5 m6 m7 p1 p2 q1 q2 with ⟨h1, F1⟩ | ⟨h1, k1, F1⟩ | ⟨h1, k1, F1⟩
  · go_enter Try.func9, Try.ntmps9
    go_wp2_with fail
    refine Calls.mono (head_c _) ?_
    rintro e w1 ⟨rfl, hb⟩
    have km0 : w1.cell? ⟨w.heap.size, 0, none⟩ = some (.int .i64 m1) := cell_later hb (by go_simp)
    have km1 : w1.cell? ⟨w.heap.size, 1, none⟩ = some (.int .i64 m2) := cell_later hb (by go_simp)
    have km2 : w1.cell? ⟨w.heap.size, 2, none⟩ = some (.int .i64 m3) := cell_later hb (by go_simp)
    have km3 : w1.cell? ⟨w.heap.size, 3, none⟩ = some (.int .i64 m4) := cell_later hb (by go_simp)
    have km4 : w1.cell? ⟨w.heap.size, 4, none⟩ = some (.int .i64 m5) := cell_later hb (by go_simp)
    have km5 : w1.cell? ⟨w.heap.size, 5, none⟩ = some (.int .i64 m6) := cell_later hb (by go_simp)
    have km6 : w1.cell? ⟨w.heap.size, 6, none⟩ = some (.int .i64 m7) := cell_later hb (by go_simp)
    have kp0 : w1.cell? ⟨w.heap.size + 1, 0, none⟩ = some (.int .i64 p1) := cell_later hb (by go_simp)
    have kp1 : w1.cell? ⟨w.heap.size + 1, 1, none⟩ = some (.int .i64 p2) := cell_later hb (by go_simp)
    have kq0 : w1.cell? ⟨w.heap.size + 1 + 1, 0, none⟩ = some (.int .i64 q1) := cell_later hb (by go_simp)
    have kq1 : w1.cell? ⟨w.heap.size + 1 + 1, 1, none⟩ = some (.int .i64 q2) := cell_later hb (by go_simp)
    have kv0 : w1.cell? ⟨w.heap.size + 1 + 1 + 1, 0, none⟩ = some (.int .i64 v1) := cell_later hb (by go_simp)
    have kv1 : w1.cell? ⟨w.heap.size + 1 + 1 + 1, 1, none⟩ = some (.int .i64 v2) := cell_later hb (by go_simp)
    have zm : w.heap.size < w1.heap.size := World.block_lt_of_cell? _ _ km0
    have zm_w1 := zm
    have zp : w.heap.size + 1 < w1.heap.size := World.block_lt_of_cell? _ _ kp0
    have zp_w1 := zp
    have zq : w.heap.size + 1 + 1 < w1.heap.size := World.block_lt_of_cell? _ _ kq0
    have zq_w1 := zq
    have zv : w.heap.size + 1 + 1 + 1 < w1.heap.size := World.block_lt_of_cell? _ _ kv0
    have zv_w1 := zv
    have hb0 : Below w.heap.size w w1 := (by repeat (first | with_reducible exact Below.refl _ _ | with_reducible assumption | with_reducible refine Below.setCell ?_ (by first | omega | (simp <;> omega)) _ | with_reducible refine balloc ?_ _ | with_reducible refine Below.drew ?_ | with_reducible refine bstep ?_ (by with_reducible assumption)))
    have hs_w1 := hb.size; (try simp only [World.size_alloc, World.size_setCell] at hs_w1)
    clear hb
    go_wp2_with fail
    all_goals first | (exfalso; omega) | skip
    refine Calls.mono (F1 _) ?_
    rintro e w2 ⟨rfl, hb⟩
    go_wp2
    all_goals first | (exfalso; omega) | (go_ret; refine ret_bool ?_ (by repeat (first | with_reducible exact Below.refl _ _ | with_reducible assumption | with_reducible refine Below.setCell ?_ (by first | omega | (simp <;> omega)) _ | with_reducible refine balloc ?_ _ | with_reducible refine Below.drew ?_ | with_reducible refine bstep ?_ (by with_reducible assumption))); first | (simp; done) | (simp <;> omega) | (simp [*]; done))
  ·
    obtain ⟨dv, op, oq⟩ := vf_iff.1 h1
    have g := rg_of dv
    have g3 := g.h3
    have g6 := g.h6
    obtain ⟨oq1, oq2, oq3, oq4⟩ := id oq
    have e1 : IntKind.i64.wrap (m3 + v1) = m3 + v1 := IntWalk.i64_in _ (by omega)
    have e2 : IntKind.i64.wrap (m6 + v2) = m6 + v2 := IntWalk.i64_in _ (by omega)
    have e3 : IntKind.i64.wrap (q1 + v1) = q1 + v1 := IntWalk.i64_in _ (by omega)
    have e4 : IntKind.i64.wrap (q2 + v2) = q2 + v2 := IntWalk.i64_in _ (by omega)
    have V := fun w => Valid_c m1 m2 (m3 + v1) m4 m5 (m6 + v2) m7 w
    have F2 := fun w => Fits_c m1 m2 (m3 + v1) m4 m5 (m6 + v2) m7 p1 p2 (q1 + v1) (q2 + v2) w
    rw [xf_add, k1] at F2
    have A := fun w => Apply_c m1 m2 m3 m4 m5 m6 m7 p1 p2 w
    have B := fun w => Apply_c m1 m2 (m3 + v1) m4 m5 (m6 + v2) m7 p1 p2 w
    simp only [dv, okp op, Bool.true_and] at A
    simp only [okp op, Bool.and_true] at B
    simp only [cL_add, cH_add] at B
    have hrb : rCarry m1 m2 m3 m4 m5 m6 m7 p1 p1 p2 p2 = vB (cL m1 m2 m3 m7 p1 p1 p2 p2) (cH m1 m2 m3 m7 p1 p1 p2 p2) (cL m4 m5 m6 m7 p1 p1 p2 p2) (cH m4 m5 m6 m7 p1 p1 p2 p2) := rfl
    rw [hrb] at A
    clear hrb
    generalize cL m1 m2 m3 m7 p1 p1 p2 p2 = x1 at *
    generalize cH m1 m2 m3 m7 p1 p1 p2 p2 = x2 at *
    generalize cL m4 m5 m6 m7 p1 p1 p2 p2 = x3 at *
    generalize cH m4 m5 m6 m7 p1 p1 p2 p2 = x4 at *
    generalize rCarry m1 m2 (m3 + v1) m4 m5 (m6 + v2) m7 p1 p1 p2 p2 = rb at *
    generalize hra : vB x1 x2 x3 x4 = ra at *
    generalize vFits m1 m2 (m3 + v1) m4 m5 (m6 + v2) m7 p1 p2 (q1 + v1) (q2 + v2) = vf at *
    generalize dV m1 m2 (m3 + v1) m4 m5 (m6 + v2) m7 = dn2 at *
    clear dv op oq g h1 k1
    go_enter Try.func9, Try.ntmps9
    go_wp2_with fail
    refine Calls.mono (head_c _) ?_
    rintro e w1 ⟨rfl, hb⟩
    have km0 : w1.cell? ⟨w.heap.size, 0, none⟩ = some (.int .i64 m1) := cell_later hb (by go_simp)
    have km1 : w1.cell? ⟨w.heap.size, 1, none⟩ = some (.int .i64 m2) := cell_later hb (by go_simp)
    have km2 : w1.cell? ⟨w.heap.size, 2, none⟩ = some (.int .i64 m3) := cell_later hb (by go_simp)
    have km3 : w1.cell? ⟨w.heap.size, 3, none⟩ = some (.int .i64 m4) := cell_later hb (by go_simp)
    have km4 : w1.cell? ⟨w.heap.size, 4, none⟩ = some (.int .i64 m5) := cell_later hb (by go_simp)
    have km5 : w1.cell? ⟨w.heap.size, 5, none⟩ = some (.int .i64 m6) := cell_later hb (by go_simp)
    have km6 : w1.cell? ⟨w.heap.size, 6, none⟩ = some (.int .i64 m7) := cell_later hb (by go_simp)
    have kp0 : w1.cell? ⟨w.heap.size + 1, 0, none⟩ = some (.int .i64 p1) := cell_later hb (by go_simp)
    have kp1 : w1.cell? ⟨w.heap.size + 1, 1, none⟩ = some (.int .i64 p2) := cell_later hb (by go_simp)
    have kq0 : w1.cell? ⟨w.heap.size + 1 + 1, 0, none⟩ = some (.int .i64 q1) := cell_later hb (by go_simp)
    have kq1 : w1.cell? ⟨w.heap.size + 1 + 1, 1, none⟩ = some (.int .i64 q2) := cell_later hb (by go_simp)
    have kv0 : w1.cell? ⟨w.heap.size + 1 + 1 + 1, 0, none⟩ = some (.int .i64 v1) := cell_later hb (by go_simp)
    have kv1 : w1.cell? ⟨w.heap.size + 1 + 1 + 1, 1, none⟩ = some (.int .i64 v2) := cell_later hb (by go_simp)
    have zm : w.heap.size < w1.heap.size := World.block_lt_of_cell? _ _ km0
    have zm_w1 := zm
    have zp : w.heap.size + 1 < w1.heap.size := World.block_lt_of_cell? _ _ kp0
    have zp_w1 := zp
    have zq : w.heap.size + 1 + 1 < w1.heap.size := World.block_lt_of_cell? _ _ kq0
    have zq_w1 := zq
    have zv : w.heap.size + 1 + 1 + 1 < w1.heap.size := World.block_lt_of_cell? _ _ kv0
    have zv_w1 := zv
    have hb0 : Below w.heap.size w w1 := (by repeat (first | with_reducible exact Below.refl _ _ | with_reducible assumption | with_reducible refine Below.setCell ?_ (by first | omega | (simp <;> omega)) _ | with_reducible refine balloc ?_ _ | with_reducible refine Below.drew ?_ | with_reducible refine bstep ?_ (by with_reducible assumption)))
    have hs_w1 := hb.size; (try simp only [World.size_alloc, World.size_setCell] at hs_w1)
    clear hb
    go_wp2_with fail
    all_goals first | (exfalso; omega) | skip
    refine Calls.mono (F1 _) ?_
    rintro e w2 ⟨rfl, hb⟩
    replace km0 : w2.cell? ⟨w.heap.size, 0, none⟩ = some (.int .i64 m1) := cell_later hb (by first | with_reducible exact cell_al _ km0 | with_reducible exact km0 | go_simp)
    replace km1 : w2.cell? ⟨w.heap.size, 1, none⟩ = some (.int .i64 m2) := cell_later hb (by first | with_reducible exact cell_al _ km1 | with_reducible exact km1 | go_simp)
    replace km2 : w2.cell? ⟨w.heap.size, 2, none⟩ = some (.int .i64 m3) := cell_later hb (by first | with_reducible exact cell_al _ km2 | with_reducible exact km2 | go_simp)
    replace km3 : w2.cell? ⟨w.heap.size, 3, none⟩ = some (.int .i64 m4) := cell_later hb (by first | with_reducible exact cell_al _ km3 | with_reducible exact km3 | go_simp)
    replace km4 : w2.cell? ⟨w.heap.size, 4, none⟩ = some (.int .i64 m5) := cell_later hb (by first | with_reducible exact cell_al _ km4 | with_reducible exact km4 | go_simp)
    replace km5 : w2.cell? ⟨w.heap.size, 5, none⟩ = some (.int .i64 m6) := cell_later hb (by first | with_reducible exact cell_al _ km5 | with_reducible exact km5 | go_simp)
    replace km6 : w2.cell? ⟨w.heap.size, 6, none⟩ = some (.int .i64 m7) := cell_later hb (by first | with_reducible exact cell_al _ km6 | with_reducible exact km6 | go_simp)
    replace kp0 : w2.cell? ⟨w.heap.size + 1, 0, none⟩ = some (.int .i64 p1) := cell_later hb (by first | with_reducible exact cell_al _ kp0 | with_reducible exact kp0 | go_simp)
    replace kp1 : w2.cell? ⟨w.heap.size + 1, 1, none⟩ = some (.int .i64 p2) := cell_later hb (by first | with_reducible exact cell_al _ kp1 | with_reducible exact kp1 | go_simp)
    replace kq0 : w2.cell? ⟨w.heap.size + 1 + 1, 0, none⟩ = some (.int .i64 q1) := cell_later hb (by first | with_reducible exact cell_al _ kq0 | with_reducible exact kq0 | go_simp)
    replace kq1 : w2.cell? ⟨w.heap.size + 1 + 1, 1, none⟩ = some (.int .i64 q2) := cell_later hb (by first | with_reducible exact cell_al _ kq1 | with_reducible exact kq1 | go_simp)
    replace kv0 : w2.cell? ⟨w.heap.size + 1 + 1 + 1, 0, none⟩ = some (.int .i64 v1) := cell_later hb (by first | with_reducible exact cell_al _ kv0 | with_reducible exact kv0 | go_simp)
    replace kv1 : w2.cell? ⟨w.heap.size + 1 + 1 + 1, 1, none⟩ = some (.int .i64 v2) := cell_later hb (by first | with_reducible exact cell_al _ kv1 | with_reducible exact kv1 | go_simp)
    have kn0 : w2.cell? ⟨w1.heap.size, 0, none⟩ = some (.int .i64 m1) := cell_later hb (by go_simp)
    have kn1 : w2.cell? ⟨w1.heap.size, 1, none⟩ = some (.int .i64 m2) := cell_later hb (by go_simp)
    have kn2 : w2.cell? ⟨w1.heap.size, 2, none⟩ = some (.int .i64 (m3 + v1)) := cell_later hb (by go_simp)
    have kn3 : w2.cell? ⟨w1.heap.size, 3, none⟩ = some (.int .i64 m4) := cell_later hb (by go_simp)
    have kn4 : w2.cell? ⟨w1.heap.size, 4, none⟩ = some (.int .i64 m5) := cell_later hb (by go_simp)
    have kn5 : w2.cell? ⟨w1.heap.size, 5, none⟩ = some (.int .i64 (m6 + v2)) := cell_later hb (by go_simp)
    have kn6 : w2.cell? ⟨w1.heap.size, 6, none⟩ = some (.int .i64 m7) := cell_later hb (by go_simp)
    replace zm : w.heap.size < w2.heap.size := World.block_lt_of_cell? _ _ km0
    have zm_w2 := zm
    replace zp : w.heap.size + 1 < w2.heap.size := World.block_lt_of_cell? _ _ kp0
    have zp_w2 := zp
    replace zq : w.heap.size + 1 + 1 < w2.heap.size := World.block_lt_of_cell? _ _ kq0
    have zq_w2 := zq
    replace zv : w.heap.size + 1 + 1 + 1 < w2.heap.size := World.block_lt_of_cell? _ _ kv0
    have zv_w2 := zv
    have zn : w1.heap.size < w2.heap.size := World.block_lt_of_cell? _ _ kn0
    have zn_w2 := zn
    replace hb0 : Below w.heap.size w w2 := (by repeat (first | with_reducible exact Below.refl _ _ | with_reducible assumption | with_reducible refine Below.setCell ?_ (by first | omega | (simp <;> omega)) _ | with_reducible refine balloc ?_ _ | with_reducible refine Below.drew ?_ | with_reducible refine bstep ?_ (by with_reducible assumption)))
    have hs_w2 := hb.size; (try simp only [World.size_alloc, World.size_setCell] at hs_w2)
    clear hb
    go_wp2_with fail
    refine Calls.mono (V _) ?_
    rintro e w3 ⟨rfl, hb⟩
    replace km0 := cell_later hb km0
    replace km1 := cell_later hb km1
    replace km2 := cell_later hb km2
    replace km3 := cell_later hb km3
    replace km4 := cell_later hb km4
    replace km5 := cell_later hb km5
    replace km6 := cell_later hb km6
    replace kp0 := cell_later hb kp0
    replace kp1 := cell_later hb kp1
    replace kq0 := cell_later hb kq0
    replace kq1 := cell_later hb kq1
    replace kv0 := cell_later hb kv0
    replace kv1 := cell_later hb kv1
    replace kn0 := cell_later hb kn0
    replace kn1 := cell_later hb kn1
    replace kn2 := cell_later hb kn2
    replace kn3 := cell_later hb kn3
    replace kn4 := cell_later hb kn4
    replace kn5 := cell_later hb kn5
    replace kn6 := cell_later hb kn6
    replace zm : w.heap.size < w3.heap.size := World.block_lt_of_cell? _ _ km0
    have zm_w3 := zm
    replace zp : w.heap.size + 1 < w3.heap.size := World.block_lt_of_cell? _ _ kp0
    have zp_w3 := zp
    replace zq : w.heap.size + 1 + 1 < w3.heap.size := World.block_lt_of_cell? _ _ kq0
    have zq_w3 := zq
    replace zv : w.heap.size + 1 + 1 + 1 < w3.heap.size := World.block_lt_of_cell? _ _ kv0
    have zv_w3 := zv
    replace zn : w1.heap.size < w3.heap.size := World.block_lt_of_cell? _ _ kn0
    have zn_w3 := zn
    replace hb0 : Below w.heap.size w w3 := (by repeat (first | with_reducible exact Below.refl _ _ | with_reducible assumption | with_reducible refine Below.setCell ?_ (by first | omega | (simp <;> omega)) _ | with_reducible refine balloc ?_ _ | with_reducible refine Below.drew ?_ | with_reducible refine bstep ?_ (by with_reducible assumption)))
    have hs_w3 : w2.heap.size ≤ w3.heap.size := hb.size
    clear hb
    cases dn2
    · go_wp2
      all_goals first | (exfalso; omega) | (go_ret; refine ret_bool ?_ (by repeat (first | with_reducible exact Below.refl _ _ | with_reducible assumption | with_reducible refine Below.setCell ?_ (by first | omega | (simp <;> omega)) _ | with_reducible refine balloc ?_ _ | with_reducible refine Below.drew ?_ | with_reducible refine bstep ?_ (by with_reducible assumption))); first | (simp; done) | (simp <;> omega) | (simp [*]; done))
    · cases vf
      · simp only [selI, selB, erv, cond_true, cond_false, Bool.and_true, Bool.and_false, Bool.true_and, Bool.false_and] at F2
        go_wp2_with fail
        refine Calls.mono (F2 _) ?_
        rintro e w4 ⟨rfl, hb⟩
        replace km0 := cell_later hb km0
        replace km1 := cell_later hb km1
        replace km2 := cell_later hb km2
        replace km3 := cell_later hb km3
        replace km4 := cell_later hb km4
        replace km5 := cell_later hb km5
        replace km6 := cell_later hb km6
        replace kp0 := cell_later hb kp0
        replace kp1 := cell_later hb kp1
        replace kq0 := cell_later hb kq0
        replace kq1 := cell_later hb kq1
        replace kv0 := cell_later hb kv0
        replace kv1 := cell_later hb kv1
        replace kn0 := cell_later hb kn0
        replace kn1 := cell_later hb kn1
        replace kn2 := cell_later hb kn2
        replace kn3 := cell_later hb kn3
        replace kn4 := cell_later hb kn4
        replace kn5 := cell_later hb kn5
        replace kn6 := cell_later hb kn6
        replace zm : w.heap.size < w4.heap.size := World.block_lt_of_cell? _ _ km0
        have zm_w4 := zm
        replace zp : w.heap.size + 1 < w4.heap.size := World.block_lt_of_cell? _ _ kp0
        have zp_w4 := zp
        replace zq : w.heap.size + 1 + 1 < w4.heap.size := World.block_lt_of_cell? _ _ kq0
        have zq_w4 := zq
        replace zv : w.heap.size + 1 + 1 + 1 < w4.heap.size := World.block_lt_of_cell? _ _ kv0
        have zv_w4 := zv
        replace zn : w1.heap.size < w4.heap.size := World.block_lt_of_cell? _ _ kn0
        have zn_w4 := zn
        replace hb0 : Below w.heap.size w w4 := (by repeat (first | with_reducible exact Below.refl _ _ | with_reducible assumption | with_reducible refine Below.setCell ?_ (by first | omega | (simp <;> omega)) _ | with_reducible refine balloc ?_ _ | with_reducible refine Below.drew ?_ | with_reducible refine bstep ?_ (by with_reducible assumption)))
        have hs_w4 : w3.heap.size ≤ w4.heap.size := hb.size
        clear hb
        cases ra
        · simp only [selI, selB, erv, cond_true, cond_false, Bool.and_true, Bool.and_false, Bool.true_and, Bool.false_and] at A
          go_wp2_with fail
          refine Calls.mono (A _) ?_
          rintro e w5 ⟨rfl, hb⟩
          replace km0 := cell_later hb km0
          replace km1 := cell_later hb km1
          replace km2 := cell_later hb km2
          replace km3 := cell_later hb km3
          replace km4 := cell_later hb km4
          replace km5 := cell_later hb km5
          replace km6 := cell_later hb km6
          replace kp0 := cell_later hb kp0
          replace kp1 := cell_later hb kp1
          replace kq0 := cell_later hb kq0
          replace kq1 := cell_later hb kq1
          replace kv0 := cell_later hb kv0
          replace kv1 := cell_later hb kv1
          replace kn0 := cell_later hb kn0
          replace kn1 := cell_later hb kn1
          replace kn2 := cell_later hb kn2
          replace kn3 := cell_later hb kn3
          replace kn4 := cell_later hb kn4
          replace kn5 := cell_later hb kn5
          replace kn6 := cell_later hb kn6
          replace zm : w.heap.size < w5.heap.size := World.block_lt_of_cell? _ _ km0
          have zm_w5 := zm
          replace zp : w.heap.size + 1 < w5.heap.size := World.block_lt_of_cell? _ _ kp0
          have zp_w5 := zp
          replace zq : w.heap.size + 1 + 1 < w5.heap.size := World.block_lt_of_cell? _ _ kq0
          have zq_w5 := zq
          replace zv : w.heap.size + 1 + 1 + 1 < w5.heap.size := World.block_lt_of_cell? _ _ kv0
          have zv_w5 := zv
          replace zn : w1.heap.size < w5.heap.size := World.block_lt_of_cell? _ _ kn0
          have zn_w5 := zn
          replace hb0 : Below w.heap.size w w5 := (by repeat (first | with_reducible exact Below.refl _ _ | with_reducible assumption | with_reducible refine Below.setCell ?_ (by first | omega | (simp <;> omega)) _ | with_reducible refine balloc ?_ _ | with_reducible refine Below.drew ?_ | with_reducible refine bstep ?_ (by with_reducible assumption)))
          have hs_w5 : w4.heap.size ≤ w5.heap.size := hb.size
          clear hb
          cases rb
          · simp only [selI, selB, erv, cond_true, cond_false, Bool.and_true, Bool.and_false, Bool.true_and, Bool.false_and] at B
            go_wp2_with fail
            refine Calls.mono (B _) ?_
            rintro e w6 ⟨rfl, hb⟩
            replace km0 := cell_later hb (cell_al _ km0)
            replace km1 := cell_later hb (cell_al _ km1)
            replace km2 := cell_later hb (cell_al _ km2)
            replace km3 := cell_later hb (cell_al _ km3)
            replace km4 := cell_later hb (cell_al _ km4)
            replace km5 := cell_later hb (cell_al _ km5)
            replace km6 := cell_later hb (cell_al _ km6)
            replace kp0 := cell_later hb (cell_al _ kp0)
            replace kp1 := cell_later hb (cell_al _ kp1)
            replace kq0 := cell_later hb (cell_al _ kq0)
            replace kq1 := cell_later hb (cell_al _ kq1)
            replace kv0 := cell_later hb (cell_al _ kv0)
            replace kv1 := cell_later hb (cell_al _ kv1)
            replace kn0 := cell_later hb (cell_al _ kn0)
            replace kn1 := cell_later hb (cell_al _ kn1)
            replace kn2 := cell_later hb (cell_al _ kn2)
            replace kn3 := cell_later hb (cell_al _ kn3)
            replace kn4 := cell_later hb (cell_al _ kn4)
            replace kn5 := cell_later hb (cell_al _ kn5)
            replace kn6 := cell_later hb (cell_al _ kn6)
            have kx0 : w6.cell? ⟨w5.heap.size, 0, none⟩ = some (.int .i64 0) := cell_later hb (by go_simp)
            have kx1 : w6.cell? ⟨w5.heap.size, 1, none⟩ = some (.int .i64 0) := cell_later hb (by go_simp)
            have kx2 : w6.cell? ⟨w5.heap.size, 2, none⟩ = some (.int .i64 0) := cell_later hb (by go_simp)
            have kx3 : w6.cell? ⟨w5.heap.size, 3, none⟩ = some (.int .i64 0) := cell_later hb (by go_simp)
            replace zm : w.heap.size < w6.heap.size := World.block_lt_of_cell? _ _ km0
            have zm_w6 := zm
            replace zp : w.heap.size + 1 < w6.heap.size := World.block_lt_of_cell? _ _ kp0
            have zp_w6 := zp
            replace zq : w.heap.size + 1 + 1 < w6.heap.size := World.block_lt_of_cell? _ _ kq0
            have zq_w6 := zq
            replace zv : w.heap.size + 1 + 1 + 1 < w6.heap.size := World.block_lt_of_cell? _ _ kv0
            have zv_w6 := zv
            replace zn : w1.heap.size < w6.heap.size := World.block_lt_of_cell? _ _ kn0
            have zn_w6 := zn
            have zx : w5.heap.size < w6.heap.size := World.block_lt_of_cell? _ _ kx0
            have zx_w6 := zx
            replace hb0 : Below w.heap.size w w6 := (by repeat (first | with_reducible exact Below.refl _ _ | with_reducible assumption | with_reducible refine Below.setCell ?_ (by first | omega | (simp <;> omega)) _ | with_reducible refine balloc ?_ _ | with_reducible refine Below.drew ?_ | with_reducible refine bstep ?_ (by with_reducible assumption)))
            have hs_w6 := hb.size; (try simp only [World.size_alloc, World.size_setCell] at hs_w6)
            clear hb
            go_wp2
            all_goals first | (exfalso; omega) | (go_ret; refine ret_bool ?_ (by repeat (first | with_reducible exact Below.refl _ _ | with_reducible assumption | with_reducible refine Below.setCell ?_ (by first | omega | (simp <;> omega)) _ | with_reducible refine balloc ?_ _ | with_reducible refine Below.drew ?_ | with_reducible refine bstep ?_ (by with_reducible assumption))); first | (simp; done) | (simp <;> omega) | (simp [*]; done))
          · simp only [selI, selB, erv, cond_true, cond_false, Bool.and_true, Bool.and_false, Bool.true_and, Bool.false_and] at B
            go_wp2_with fail
            refine Calls.mono (B _) ?_
            rintro e w6 ⟨rfl, hb⟩
            replace km0 := cell_later hb (cell_al _ km0)
            replace km1 := cell_later hb (cell_al _ km1)
            replace km2 := cell_later hb (cell_al _ km2)
            replace km3 := cell_later hb (cell_al _ km3)
            replace km4 := cell_later hb (cell_al _ km4)
            replace km5 := cell_later hb (cell_al _ km5)
            replace km6 := cell_later hb (cell_al _ km6)
            replace kp0 := cell_later hb (cell_al _ kp0)
            replace kp1 := cell_later hb (cell_al _ kp1)
            replace kq0 := cell_later hb (cell_al _ kq0)
            replace kq1 := cell_later hb (cell_al _ kq1)
            replace kv0 := cell_later hb (cell_al _ kv0)
            replace kv1 := cell_later hb (cell_al _ kv1)
            replace kn0 := cell_later hb (cell_al _ kn0)
            replace kn1 := cell_later hb (cell_al _ kn1)
            replace kn2 := cell_later hb (cell_al _ kn2)
            replace kn3 := cell_later hb (cell_al _ kn3)
            replace kn4 := cell_later hb (cell_al _ kn4)
            replace kn5 := cell_later hb (cell_al _ kn5)
            replace kn6 := cell_later hb (cell_al _ kn6)
            have kx0 : w6.cell? ⟨w5.heap.size, 0, none⟩ = some (.int .i64 0) := cell_later hb (by go_simp)
            have kx1 : w6.cell? ⟨w5.heap.size, 1, none⟩ = some (.int .i64 0) := cell_later hb (by go_simp)
            have kx2 : w6.cell? ⟨w5.heap.size, 2, none⟩ = some (.int .i64 0) := cell_later hb (by go_simp)
            have kx3 : w6.cell? ⟨w5.heap.size, 3, none⟩ = some (.int .i64 0) := cell_later hb (by go_simp)
            replace zm : w.heap.size < w6.heap.size := World.block_lt_of_cell? _ _ km0
            have zm_w6 := zm
            replace zp : w.heap.size + 1 < w6.heap.size := World.block_lt_of_cell? _ _ kp0
            have zp_w6 := zp
            replace zq : w.heap.size + 1 + 1 < w6.heap.size := World.block_lt_of_cell? _ _ kq0
            have zq_w6 := zq
            replace zv : w.heap.size + 1 + 1 + 1 < w6.heap.size := World.block_lt_of_cell? _ _ kv0
            have zv_w6 := zv
            replace zn : w1.heap.size < w6.heap.size := World.block_lt_of_cell? _ _ kn0
            have zn_w6 := zn
            have zx : w5.heap.size < w6.heap.size := World.block_lt_of_cell? _ _ kx0
            have zx_w6 := zx
            replace hb0 : Below w.heap.size w w6 := (by repeat (first | with_reducible exact Below.refl _ _ | with_reducible assumption | with_reducible refine Below.setCell ?_ (by first | omega | (simp <;> omega)) _ | with_reducible refine balloc ?_ _ | with_reducible refine Below.drew ?_ | with_reducible refine bstep ?_ (by with_reducible assumption)))
            have hs_w6 := hb.size; (try simp only [World.size_alloc, World.size_setCell] at hs_w6)
            clear hb
            go_wp2
            all_goals first | (exfalso; omega) | (go_ret; refine ret_bool ?_ (by repeat (first | with_reducible exact Below.refl _ _ | with_reducible assumption | with_reducible refine Below.setCell ?_ (by first | omega | (simp <;> omega)) _ | with_reducible refine balloc ?_ _ | with_reducible refine Below.drew ?_ | with_reducible refine bstep ?_ (by with_reducible assumption))); first | (simp; done) | (simp <;> omega) | (simp [*]; done))
        · simp only [selI, selB, erv, cond_true, cond_false, Bool.and_true, Bool.and_false, Bool.true_and, Bool.false_and] at A
          go_wp2_with fail
          refine Calls.mono (A _) ?_
          rintro e w5 ⟨rfl, hb⟩
          replace km0 := cell_later hb km0
          replace km1 := cell_later hb km1
          replace km2 := cell_later hb km2
          replace km3 := cell_later hb km3
          replace km4 := cell_later hb km4
          replace km5 := cell_later hb km5
          replace km6 := cell_later hb km6
          replace kp0 := cell_later hb kp0
          replace kp1 := cell_later hb kp1
          replace kq0 := cell_later hb kq0
          replace kq1 := cell_later hb kq1
          replace kv0 := cell_later hb kv0
          replace kv1 := cell_later hb kv1
          replace kn0 := cell_later hb kn0
          replace kn1 := cell_later hb kn1
          replace kn2 := cell_later hb kn2
          replace kn3 := cell_later hb kn3
          replace kn4 := cell_later hb kn4
          replace kn5 := cell_later hb kn5
          replace kn6 := cell_later hb kn6
          replace zm : w.heap.size < w5.heap.size := World.block_lt_of_cell? _ _ km0
          have zm_w5 := zm
          replace zp : w.heap.size + 1 < w5.heap.size := World.block_lt_of_cell? _ _ kp0
          have zp_w5 := zp
          replace zq : w.heap.size + 1 + 1 < w5.heap.size := World.block_lt_of_cell? _ _ kq0
          have zq_w5 := zq
          replace zv : w.heap.size + 1 + 1 + 1 < w5.heap.size := World.block_lt_of_cell? _ _ kv0
          have zv_w5 := zv
          replace zn : w1.heap.size < w5.heap.size := World.block_lt_of_cell? _ _ kn0
          have zn_w5 := zn
          replace hb0 : Below w.heap.size w w5 := (by repeat (first | with_reducible exact Below.refl _ _ | with_reducible assumption | with_reducible refine Below.setCell ?_ (by first | omega | (simp <;> omega)) _ | with_reducible refine balloc ?_ _ | with_reducible refine Below.drew ?_ | with_reducible refine bstep ?_ (by with_reducible assumption)))
          have hs_w5 : w4.heap.size ≤ w5.heap.size := hb.size
          clear hb
          cases rb
          · simp only [selI, selB, erv, cond_true, cond_false, Bool.and_true, Bool.and_false, Bool.true_and, Bool.false_and] at B
            go_wp2_with fail
            refine Calls.mono (B _) ?_
            rintro e w6 ⟨rfl, hb⟩
            replace km0 := cell_later hb (cell_al _ km0)
            replace km1 := cell_later hb (cell_al _ km1)
            replace km2 := cell_later hb (cell_al _ km2)
            replace km3 := cell_later hb (cell_al _ km3)
            replace km4 := cell_later hb (cell_al _ km4)
            replace km5 := cell_later hb (cell_al _ km5)
            replace km6 := cell_later hb (cell_al _ km6)
            replace kp0 := cell_later hb (cell_al _ kp0)
            replace kp1 := cell_later hb (cell_al _ kp1)
            replace kq0 := cell_later hb (cell_al _ kq0)
            replace kq1 := cell_later hb (cell_al _ kq1)
            replace kv0 := cell_later hb (cell_al _ kv0)
            replace kv1 := cell_later hb (cell_al _ kv1)
            replace kn0 := cell_later hb (cell_al _ kn0)
            replace kn1 := cell_later hb (cell_al _ kn1)
            replace kn2 := cell_later hb (cell_al _ kn2)
            replace kn3 := cell_later hb (cell_al _ kn3)
            replace kn4 := cell_later hb (cell_al _ kn4)
            replace kn5 := cell_later hb (cell_al _ kn5)
            replace kn6 := cell_later hb (cell_al _ kn6)
            have kx0 : w6.cell? ⟨w5.heap.size, 0, none⟩ = some (.int .i64 x1) := cell_later hb (by go_simp)
            have kx1 : w6.cell? ⟨w5.heap.size, 1, none⟩ = some (.int .i64 x2) := cell_later hb (by go_simp)
            have kx2 : w6.cell? ⟨w5.heap.size, 2, none⟩ = some (.int .i64 x3) := cell_later hb (by go_simp)
            have kx3 : w6.cell? ⟨w5.heap.size, 3, none⟩ = some (.int .i64 x4) := cell_later hb (by go_simp)
            replace zm : w.heap.size < w6.heap.size := World.block_lt_of_cell? _ _ km0
            have zm_w6 := zm
            replace zp : w.heap.size + 1 < w6.heap.size := World.block_lt_of_cell? _ _ kp0
            have zp_w6 := zp
            replace zq : w.heap.size + 1 + 1 < w6.heap.size := World.block_lt_of_cell? _ _ kq0
            have zq_w6 := zq
            replace zv : w.heap.size + 1 + 1 + 1 < w6.heap.size := World.block_lt_of_cell? _ _ kv0
            have zv_w6 := zv
            replace zn : w1.heap.size < w6.heap.size := World.block_lt_of_cell? _ _ kn0
            have zn_w6 := zn
            have zx : w5.heap.size < w6.heap.size := World.block_lt_of_cell? _ _ kx0
            have zx_w6 := zx
            replace hb0 : Below w.heap.size w w6 := (by repeat (first | with_reducible exact Below.refl _ _ | with_reducible assumption | with_reducible refine Below.setCell ?_ (by first | omega | (simp <;> omega)) _ | with_reducible refine balloc ?_ _ | with_reducible refine Below.drew ?_ | with_reducible refine bstep ?_ (by with_reducible assumption)))
            have hs_w6 := hb.size; (try simp only [World.size_alloc, World.size_setCell] at hs_w6)
            clear hb
            go_wp2
            all_goals first | (exfalso; omega) | (go_ret; refine ret_bool ?_ (by repeat (first | with_reducible exact Below.refl _ _ | with_reducible assumption | with_reducible refine Below.setCell ?_ (by first | omega | (simp <;> omega)) _ | with_reducible refine balloc ?_ _ | with_reducible refine Below.drew ?_ | with_reducible refine bstep ?_ (by with_reducible assumption))); first | (simp; done) | (simp <;> omega) | (simp [*]; done))
          · simp only [selI, selB, erv, cond_true, cond_false, Bool.and_true, Bool.and_false, Bool.true_and, Bool.false_and] at B
            go_wp2_with fail
            refine Calls.mono (B _) ?_
            rintro e w6 ⟨rfl, hb⟩
            replace km0 := cell_later hb (cell_al _ km0)
            replace km1 := cell_later hb (cell_al _ km1)
            replace km2 := cell_later hb (cell_al _ km2)
            replace km3 := cell_later hb (cell_al _ km3)
            replace km4 := cell_later hb (cell_al _ km4)
            replace km5 := cell_later hb (cell_al _ km5)
            replace km6 := cell_later hb (cell_al _ km6)
            replace kp0 := cell_later hb (cell_al _ kp0)
            replace kp1 := cell_later hb (cell_al _ kp1)
            replace kq0 := cell_later hb (cell_al _ kq0)
            replace kq1 := cell_later hb (cell_al _ kq1)
            replace kv0 := cell_later hb (cell_al _ kv0)
            replace kv1 := cell_later hb (cell_al _ kv1)
            replace kn0 := cell_later hb (cell_al _ kn0)
            replace kn1 := cell_later hb (cell_al _ kn1)
            replace kn2 := cell_later hb (cell_al _ kn2)
            replace kn3 := cell_later hb (cell_al _ kn3)
            replace kn4 := cell_later hb (cell_al _ kn4)
            replace kn5 := cell_later hb (cell_al _ kn5)
            replace kn6 := cell_later hb (cell_al _ kn6)
            have kx0 : w6.cell? ⟨w5.heap.size, 0, none⟩ = some (.int .i64 x1) := cell_later hb (by go_simp)
            have kx1 : w6.cell? ⟨w5.heap.size, 1, none⟩ = some (.int .i64 x2) := cell_later hb (by go_simp)
            have kx2 : w6.cell? ⟨w5.heap.size, 2, none⟩ = some (.int .i64 x3) := cell_later hb (by go_simp)
            have kx3 : w6.cell? ⟨w5.heap.size, 3, none⟩ = some (.int .i64 x4) := cell_later hb (by go_simp)
            replace zm : w.heap.size < w6.heap.size := World.block_lt_of_cell? _ _ km0
            have zm_w6 := zm
            replace zp : w.heap.size + 1 < w6.heap.size := World.block_lt_of_cell? _ _ kp0
            have zp_w6 := zp
            replace zq : w.heap.size + 1 + 1 < w6.heap.size := World.block_lt_of_cell? _ _ kq0
            have zq_w6 := zq
            replace zv : w.heap.size + 1 + 1 + 1 < w6.heap.size := World.block_lt_of_cell? _ _ kv0
            have zv_w6 := zv
            replace zn : w1.heap.size < w6.heap.size := World.block_lt_of_cell? _ _ kn0
            have zn_w6 := zn
            have zx : w5.heap.size < w6.heap.size := World.block_lt_of_cell? _ _ kx0
            have zx_w6 := zx
            replace hb0 : Below w.heap.size w w6 := (by repeat (first | with_reducible exact Below.refl _ _ | with_reducible assumption | with_reducible refine Below.setCell ?_ (by first | omega | (simp <;> omega)) _ | with_reducible refine balloc ?_ _ | with_reducible refine Below.drew ?_ | with_reducible refine bstep ?_ (by with_reducible assumption)))
            have hs_w6 := hb.size; (try simp only [World.size_alloc, World.size_setCell] at hs_w6)
            clear hb
            have hx := vB_iff.1 hra
            have ww0 : IntKind.i64.wrap (x1 + v1) = x1 + v1 := IntWalk.i64_in _ (by omega)
            have ww1 : IntKind.i64.wrap (x2 + v1) = x2 + v1 := IntWalk.i64_in _ (by omega)
            have ww2 : IntKind.i64.wrap (x3 + v2) = x3 + v2 := IntWalk.i64_in _ (by omega)
            have ww3 : IntKind.i64.wrap (x4 + v2) = x4 + v2 := IntWalk.i64_in _ (by omega)
            clear hx hra
            go_wp2_with fail
            go_region_held3 (fun w' => w'.cell? ⟨w.heap.size + 1 + 1 + 1, 0, none⟩ = some (.int .i64 v1) ∧ w'.cell? ⟨w.heap.size + 1 + 1 + 1, 1, none⟩ = some (.int .i64 v2) ∧ w'.cell? ⟨w5.heap.size, 0, none⟩ = some (.int .i64 x1) ∧ w'.cell? ⟨w5.heap.size, 1, none⟩ = some (.int .i64 x2) ∧ w'.cell? ⟨w5.heap.size, 2, none⟩ = some (.int .i64 x3) ∧ w'.cell? ⟨w5.heap.size, 3, none⟩ = some (.int .i64 x4) ∧ w'.cell? ⟨w6.heap.size, 0, none⟩ = some (.int .i64 (x1 + v1)) ∧ w'.cell? ⟨w6.heap.size, 1, none⟩ = some (.int .i64 (x2 + v1)) ∧ w'.cell? ⟨w6.heap.size, 2, none⟩ = some (.int .i64 (x3 + v2)) ∧ w'.cell? ⟨w6.heap.size, 3, none⟩ = some (.int .i64 (x4 + v2))) (first | (go_keep; done) | ((repeat' apply And.intro) <;> go_simp)) (first | (go_at_call 27; refine Calls.mono (box_c _ _ _ _ _) ?_; rintro e wr ⟨rfl, hb⟩; have km0 : wr.cell? ⟨w.heap.size, 0, none⟩ = some (.int .i64 m1) := cell_later hb (by first | (with_reducible assumption) | go_simp); have km1 : wr.cell? ⟨w.heap.size, 1, none⟩ = some (.int .i64 m2) := cell_later hb (by first | (with_reducible assumption) | go_simp); have km2 : wr.cell? ⟨w.heap.size, 2, none⟩ = some (.int .i64 m3) := cell_later hb (by first | (with_reducible assumption) | go_simp); have km3 : wr.cell? ⟨w.heap.size, 3, none⟩ = some (.int .i64 m4) := cell_later hb (by first | (with_reducible assumption) | go_simp); have km4 : wr.cell? ⟨w.heap.size, 4, none⟩ = some (.int .i64 m5) := cell_later hb (by first | (with_reducible assumption) | go_simp); have km5 : wr.cell? ⟨w.heap.size, 5, none⟩ = some (.int .i64 m6) := cell_later hb (by first | (with_reducible assumption) | go_simp); have km6 : wr.cell? ⟨w.heap.size, 6, none⟩ = some (.int .i64 m7) := cell_later hb (by first | (with_reducible assumption) | go_simp); have zm : w.heap.size < wr.heap.size := World.block_lt_of_cell? _ _ km0; have kp0 : wr.cell? ⟨w.heap.size + 1, 0, none⟩ = some (.int .i64 p1) := cell_later hb (by first | (with_reducible assumption) | go_simp); have kp1 : wr.cell? ⟨w.heap.size + 1, 1, none⟩ = some (.int .i64 p2) := cell_later hb (by first | (with_reducible assumption) | go_simp); have zp : w.heap.size + 1 < wr.heap.size := World.block_lt_of_cell? _ _ kp0; have kq0 : wr.cell? ⟨w.heap.size + 1 + 1, 0, none⟩ = some (.int .i64 q1) := cell_later hb (by first | (with_reducible assumption) | go_simp); have kq1 : wr.cell? ⟨w.heap.size + 1 + 1, 1, none⟩ = some (.int .i64 q2) := cell_later hb (by first | (with_reducible assumption) | go_simp); have zq : w.heap.size + 1 + 1 < wr.heap.size := World.block_lt_of_cell? _ _ kq0; have kv0 : wr.cell? ⟨w.heap.size + 1 + 1 + 1, 0, none⟩ = some (.int .i64 v1) := cell_later hb (by first | (with_reducible assumption) | go_simp); have kv1 : wr.cell? ⟨w.heap.size + 1 + 1 + 1, 1, none⟩ = some (.int .i64 v2) := cell_later hb (by first | (with_reducible assumption) | go_simp); have zv : w.heap.size + 1 + 1 + 1 < wr.heap.size := World.block_lt_of_cell? _ _ kv0; have kn0 : wr.cell? ⟨w1.heap.size, 0, none⟩ = some (.int .i64 m1) := cell_later hb (by first | (with_reducible assumption) | go_simp); have kn1 : wr.cell? ⟨w1.heap.size, 1, none⟩ = some (.int .i64 m2) := cell_later hb (by first | (with_reducible assumption) | go_simp); have kn2 : wr.cell? ⟨w1.heap.size, 2, none⟩ = some (.int .i64 (m3 + v1)) := cell_later hb (by first | (with_reducible assumption) | go_simp); have kn3 : wr.cell? ⟨w1.heap.size, 3, none⟩ = some (.int .i64 m4) := cell_later hb (by first | (with_reducible assumption) | go_simp); have kn4 : wr.cell? ⟨w1.heap.size, 4, none⟩ = some (.int .i64 m5) := cell_later hb (by first | (with_reducible assumption) | go_simp); have kn5 : wr.cell? ⟨w1.heap.size, 5, none⟩ = some (.int .i64 (m6 + v2)) := cell_later hb (by first | (with_reducible assumption) | go_simp); have kn6 : wr.cell? ⟨w1.heap.size, 6, none⟩ = some (.int .i64 m7) := cell_later hb (by first | (with_reducible assumption) | go_simp); have zn : w1.heap.size < wr.heap.size := World.block_lt_of_cell? _ _ kn0; have kx0 : wr.cell? ⟨w5.heap.size, 0, none⟩ = some (.int .i64 x1) := cell_later hb (by first | (with_reducible assumption) | go_simp); have kx1 : wr.cell? ⟨w5.heap.size, 1, none⟩ = some (.int .i64 x2) := cell_later hb (by first | (with_reducible assumption) | go_simp); have kx2 : wr.cell? ⟨w5.heap.size, 2, none⟩ = some (.int .i64 x3) := cell_later hb (by first | (with_reducible assumption) | go_simp); have kx3 : wr.cell? ⟨w5.heap.size, 3, none⟩ = some (.int .i64 x4) := cell_later hb (by first | (with_reducible assumption) | go_simp); have zx : w5.heap.size < wr.heap.size := World.block_lt_of_cell? _ _ kx0; have ky0 : wr.cell? ⟨w6.heap.size, 0, none⟩ = some (.int .i64 (x1 + v1)) := cell_later hb (by first | (with_reducible assumption) | go_simp); have ky1 : wr.cell? ⟨w6.heap.size, 1, none⟩ = some (.int .i64 (x2 + v1)) := cell_later hb (by first | (with_reducible assumption) | go_simp); have ky2 : wr.cell? ⟨w6.heap.size, 2, none⟩ = some (.int .i64 (x3 + v2)) := cell_later hb (by first | (with_reducible assumption) | go_simp); have ky3 : wr.cell? ⟨w6.heap.size, 3, none⟩ = some (.int .i64 (x4 + v2)) := cell_later hb (by first | (with_reducible assumption) | go_simp); have zy : w6.heap.size < wr.heap.size := World.block_lt_of_cell? _ _ ky0; have hb0 : Below w.heap.size w wr := (by repeat (first | with_reducible exact Below.refl _ _ | with_reducible assumption | with_reducible refine Below.setCell ?_ (by first | omega | (simp <;> omega)) _ | with_reducible refine balloc ?_ _ | with_reducible refine Below.drew ?_ | with_reducible refine bstep ?_ (by with_reducible assumption))); clear hb))
            go_wp2
            all_goals first | (exfalso; omega) | (go_ret; refine ret_bool ?_ (by repeat (first | with_reducible exact Below.refl _ _ | with_reducible assumption | with_reducible refine Below.setCell ?_ (by first | omega | (simp <;> omega)) _ | with_reducible refine balloc ?_ _ | with_reducible refine Below.drew ?_ | with_reducible refine bstep ?_ (by with_reducible assumption))); first | (simp; done) | (simp <;> omega) | (simp [*]; done))
      · simp only [selI, selB, erv, cond_true, cond_false, Bool.and_true, Bool.and_false, Bool.true_and, Bool.false_and] at F2
        go_wp2_with fail
        refine Calls.mono (F2 _) ?_
        rintro e w4 ⟨rfl, hb⟩
        replace km0 := cell_later hb km0
        replace km1 := cell_later hb km1
        replace km2 := cell_later hb km2
        replace km3 := cell_later hb km3
        replace km4 := cell_later hb km4
        replace km5 := cell_later hb km5
        replace km6 := cell_later hb km6
        replace kp0 := cell_later hb kp0
        replace kp1 := cell_later hb kp1
        replace kq0 := cell_later hb kq0
        replace kq1 := cell_later hb kq1
        replace kv0 := cell_later hb kv0
        replace kv1 := cell_later hb kv1
        replace kn0 := cell_later hb kn0
        replace kn1 := cell_later hb kn1
        replace kn2 := cell_later hb kn2
        replace kn3 := cell_later hb kn3
        replace kn4 := cell_later hb kn4
        replace kn5 := cell_later hb kn5
        replace kn6 := cell_later hb kn6
        replace zm : w.heap.size < w4.heap.size := World.block_lt_of_cell? _ _ km0
        have zm_w4 := zm
        replace zp : w.heap.size + 1 < w4.heap.size := World.block_lt_of_cell? _ _ kp0
        have zp_w4 := zp
        replace zq : w.heap.size + 1 + 1 < w4.heap.size := World.block_lt_of_cell? _ _ kq0
        have zq_w4 := zq
        replace zv : w.heap.size + 1 + 1 + 1 < w4.heap.size := World.block_lt_of_cell? _ _ kv0
        have zv_w4 := zv
        replace zn : w1.heap.size < w4.heap.size := World.block_lt_of_cell? _ _ kn0
        have zn_w4 := zn
        replace hb0 : Below w.heap.size w w4 := (by repeat (first | with_reducible exact Below.refl _ _ | with_reducible assumption | with_reducible refine Below.setCell ?_ (by first | omega | (simp <;> omega)) _ | with_reducible refine balloc ?_ _ | with_reducible refine Below.drew ?_ | with_reducible refine bstep ?_ (by with_reducible assumption)))
        have hs_w4 : w3.heap.size ≤ w4.heap.size := hb.size
        clear hb
        cases ra
        · simp only [selI, selB, erv, cond_true, cond_false, Bool.and_true, Bool.and_false, Bool.true_and, Bool.false_and] at A
          go_wp2_with fail
          refine Calls.mono (A _) ?_
          rintro e w5 ⟨rfl, hb⟩
          replace km0 := cell_later hb km0
          replace km1 := cell_later hb km1
          replace km2 := cell_later hb km2
          replace km3 := cell_later hb km3
          replace km4 := cell_later hb km4
          replace km5 := cell_later hb km5
          replace km6 := cell_later hb km6
          replace kp0 := cell_later hb kp0
          replace kp1 := cell_later hb kp1
          replace kq0 := cell_later hb kq0
          replace kq1 := cell_later hb kq1
          replace kv0 := cell_later hb kv0
          replace kv1 := cell_later hb kv1
          replace kn0 := cell_later hb kn0
          replace kn1 := cell_later hb kn1
          replace kn2 := cell_later hb kn2
          replace kn3 := cell_later hb kn3
          replace kn4 := cell_later hb kn4
          replace kn5 := cell_later hb kn5
          replace kn6 := cell_later hb kn6
          replace zm : w.heap.size < w5.heap.size := World.block_lt_of_cell? _ _ km0
          have zm_w5 := zm
          replace zp : w.heap.size + 1 < w5.heap.size := World.block_lt_of_cell? _ _ kp0
          have zp_w5 := zp
          replace zq : w.heap.size + 1 + 1 < w5.heap.size := World.block_lt_of_cell? _ _ kq0
          have zq_w5 := zq
          replace zv : w.heap.size + 1 + 1 + 1 < w5.heap.size := World.block_lt_of_cell? _ _ kv0
          have zv_w5 := zv
          replace zn : w1.heap.size < w5.heap.size := World.block_lt_of_cell? _ _ kn0
          have zn_w5 := zn
          replace hb0 : Below w.heap.size w w5 := (by repeat (first | with_reducible exact Below.refl _ _ | with_reducible assumption | with_reducible refine Below.setCell ?_ (by first | omega | (simp <;> omega)) _ | with_reducible refine balloc ?_ _ | with_reducible refine Below.drew ?_ | with_reducible refine bstep ?_ (by with_reducible assumption)))
          have hs_w5 : w4.heap.size ≤ w5.heap.size := hb.size
          clear hb
          cases rb
          · simp only [selI, selB, erv, cond_true, cond_false, Bool.and_true, Bool.and_false, Bool.true_and, Bool.false_and] at B
            go_wp2_with fail
            refine Calls.mono (B _) ?_
            rintro e w6 ⟨rfl, hb⟩
            replace km0 := cell_later hb (cell_al _ km0)
            replace km1 := cell_later hb (cell_al _ km1)
            replace km2 := cell_later hb (cell_al _ km2)
            replace km3 := cell_later hb (cell_al _ km3)
            replace km4 := cell_later hb (cell_al _ km4)
            replace km5 := cell_later hb (cell_al _ km5)
            replace km6 := cell_later hb (cell_al _ km6)
            replace kp0 := cell_later hb (cell_al _ kp0)
            replace kp1 := cell_later hb (cell_al _ kp1)
            replace kq0 := cell_later hb (cell_al _ kq0)
            replace kq1 := cell_later hb (cell_al _ kq1)
            replace kv0 := cell_later hb (cell_al _ kv0)
            replace kv1 := cell_later hb (cell_al _ kv1)
            replace kn0 := cell_later hb (cell_al _ kn0)
            replace kn1 := cell_later hb (cell_al _ kn1)
            replace kn2 := cell_later hb (cell_al _ kn2)
            replace kn3 := cell_later hb (cell_al _ kn3)
            replace kn4 := cell_later hb (cell_al _ kn4)
            replace kn5 := cell_later hb (cell_al _ kn5)
            replace kn6 := cell_later hb (cell_al _ kn6)
            have kx0 : w6.cell? ⟨w5.heap.size, 0, none⟩ = some (.int .i64 0) := cell_later hb (by go_simp)
            have kx1 : w6.cell? ⟨w5.heap.size, 1, none⟩ = some (.int .i64 0) := cell_later hb (by go_simp)
            have kx2 : w6.cell? ⟨w5.heap.size, 2, none⟩ = some (.int .i64 0) := cell_later hb (by go_simp)
            have kx3 : w6.cell? ⟨w5.heap.size, 3, none⟩ = some (.int .i64 0) := cell_later hb (by go_simp)
            replace zm : w.heap.size < w6.heap.size := World.block_lt_of_cell? _ _ km0
            have zm_w6 := zm
            replace zp : w.heap.size + 1 < w6.heap.size := World.block_lt_of_cell? _ _ kp0
            have zp_w6 := zp
            replace zq : w.heap.size + 1 + 1 < w6.heap.size := World.block_lt_of_cell? _ _ kq0
            have zq_w6 := zq
            replace zv : w.heap.size + 1 + 1 + 1 < w6.heap.size := World.block_lt_of_cell? _ _ kv0
            have zv_w6 := zv
            replace zn : w1.heap.size < w6.heap.size := World.block_lt_of_cell? _ _ kn0
            have zn_w6 := zn
            have zx : w5.heap.size < w6.heap.size := World.block_lt_of_cell? _ _ kx0
            have zx_w6 := zx
            replace hb0 : Below w.heap.size w w6 := (by repeat (first | with_reducible exact Below.refl _ _ | with_reducible assumption | with_reducible refine Below.setCell ?_ (by first | omega | (simp <;> omega)) _ | with_reducible refine balloc ?_ _ | with_reducible refine Below.drew ?_ | with_reducible refine bstep ?_ (by with_reducible assumption)))
            have hs_w6 := hb.size; (try simp only [World.size_alloc, World.size_setCell] at hs_w6)
            clear hb
            go_wp2
            all_goals first | (exfalso; omega) | (go_ret; refine ret_bool ?_ (by repeat (first | with_reducible exact Below.refl _ _ | with_reducible assumption | with_reducible refine Below.setCell ?_ (by first | omega | (simp <;> omega)) _ | with_reducible refine balloc ?_ _ | with_reducible refine Below.drew ?_ | with_reducible refine bstep ?_ (by with_reducible assumption))); first | (simp; done) | (simp <;> omega) | (simp [*]; done))
          · simp only [selI, selB, erv, cond_true, cond_false, Bool.and_true, Bool.and_false, Bool.true_and, Bool.false_and] at B
            go_wp2_with fail
            refine Calls.mono (B _) ?_
            rintro e w6 ⟨rfl, hb⟩
            replace km0 := cell_later hb (cell_al _ km0)
            replace km1 := cell_later hb (cell_al _ km1)
            replace km2 := cell_later hb (cell_al _ km2)
            replace km3 := cell_later hb (cell_al _ km3)
            replace km4 := cell_later hb (cell_al _ km4)
            replace km5 := cell_later hb (cell_al _ km5)
            replace km6 := cell_later hb (cell_al _ km6)
            replace kp0 := cell_later hb (cell_al _ kp0)
            replace kp1 := cell_later hb (cell_al _ kp1)
            replace kq0 := cell_later hb (cell_al _ kq0)
            replace kq1 := cell_later hb (cell_al _ kq1)
            replace kv0 := cell_later hb (cell_al _ kv0)
            replace kv1 := cell_later hb (cell_al _ kv1)
            replace kn0 := cell_later hb (cell_al _ kn0)
            replace kn1 := cell_later hb (cell_al _ kn1)
            replace kn2 := cell_later hb (cell_al _ kn2)
            replace kn3 := cell_later hb (cell_al _ kn3)
            replace kn4 := cell_later hb (cell_al _ kn4)
            replace kn5 := cell_later hb (cell_al _ kn5)
            replace kn6 := cell_later hb (cell_al _ kn6)
            have kx0 : w6.cell? ⟨w5.heap.size, 0, none⟩ = some (.int .i64 0) := cell_later hb (by go_simp)
            have kx1 : w6.cell? ⟨w5.heap.size, 1, none⟩ = some (.int .i64 0) := cell_later hb (by go_simp)
            have kx2 : w6.cell? ⟨w5.heap.size, 2, none⟩ = some (.int .i64 0) := cell_later hb (by go_simp)
            have kx3 : w6.cell? ⟨w5.heap.size, 3, none⟩ = some (.int .i64 0) := cell_later hb (by go_simp)
            replace zm : w.heap.size < w6.heap.size := World.block_lt_of_cell? _ _ km0
            have zm_w6 := zm
            replace zp : w.heap.size + 1 < w6.heap.size := World.block_lt_of_cell? _ _ kp0
            have zp_w6 := zp
            replace zq : w.heap.size + 1 + 1 < w6.heap.size := World.block_lt_of_cell? _ _ kq0
            have zq_w6 := zq
            replace zv : w.heap.size + 1 + 1 + 1 < w6.heap.size := World.block_lt_of_cell? _ _ kv0
            have zv_w6 := zv
            replace zn : w1.heap.size < w6.heap.size := World.block_lt_of_cell? _ _ kn0
            have zn_w6 := zn
            have zx : w5.heap.size < w6.heap.size := World.block_lt_of_cell? _ _ kx0
            have zx_w6 := zx
            replace hb0 : Below w.heap.size w w6 := (by repeat (first | with_reducible exact Below.refl _ _ | with_reducible assumption | with_reducible refine Below.setCell ?_ (by first | omega | (simp <;> omega)) _ | with_reducible refine balloc ?_ _ | with_reducible refine Below.drew ?_ | with_reducible refine bstep ?_ (by with_reducible assumption)))
            have hs_w6 := hb.size; (try simp only [World.size_alloc, World.size_setCell] at hs_w6)
            clear hb
            go_wp2
            all_goals first | (exfalso; omega) | (go_ret; refine ret_bool ?_ (by repeat (first | with_reducible exact Below.refl _ _ | with_reducible assumption | with_reducible refine Below.setCell ?_ (by first | omega | (simp <;> omega)) _ | with_reducible refine balloc ?_ _ | with_reducible refine Below.drew ?_ | with_reducible refine bstep ?_ (by with_reducible assumption))); first | (simp; done) | (simp <;> omega) | (simp [*]; done))
        · simp only [selI, selB, erv, cond_true, cond_false, Bool.and_true, Bool.and_false, Bool.true_and, Bool.false_and] at A
          go_wp2_with fail
          refine Calls.mono (A _) ?_
          rintro e w5 ⟨rfl, hb⟩
          replace km0 := cell_later hb km0
          replace km1 := cell_later hb km1
          replace km2 := cell_later hb km2
          replace km3 := cell_later hb km3
          replace km4 := cell_later hb km4
          replace km5 := cell_later hb km5
          replace km6 := cell_later hb km6
          replace kp0 := cell_later hb kp0
          replace kp1 := cell_later hb kp1
          replace kq0 := cell_later hb kq0
          replace kq1 := cell_later hb kq1
          replace kv0 := cell_later hb kv0
          replace kv1 := cell_later hb kv1
          replace kn0 := cell_later hb kn0
          replace kn1 := cell_later hb kn1
          replace kn2 := cell_later hb kn2
          replace kn3 := cell_later hb kn3
          replace kn4 := cell_later hb kn4
          replace kn5 := cell_later hb kn5
          replace kn6 := cell_later hb kn6
          replace zm : w.heap.size < w5.heap.size := World.block_lt_of_cell? _ _ km0
          have zm_w5 := zm
          replace zp : w.heap.size + 1 < w5.heap.size := World.block_lt_of_cell? _ _ kp0
          have zp_w5 := zp
          replace zq : w.heap.size + 1 + 1 < w5.heap.size := World.block_lt_of_cell? _ _ kq0
          have zq_w5 := zq
          replace zv : w.heap.size + 1 + 1 + 1 < w5.heap.size := World.block_lt_of_cell? _ _ kv0
          have zv_w5 := zv
          replace zn : w1.heap.size < w5.heap.size := World.block_lt_of_cell? _ _ kn0
          have zn_w5 := zn
          replace hb0 : Below w.heap.size w w5 := (by repeat (first | with_reducible exact Below.refl _ _ | with_reducible assumption | with_reducible refine Below.setCell ?_ (by first | omega | (simp <;> omega)) _ | with_reducible refine balloc ?_ _ | with_reducible refine Below.drew ?_ | with_reducible refine bstep ?_ (by with_reducible assumption)))
          have hs_w5 : w4.heap.size ≤ w5.heap.size := hb.size
          clear hb
          cases rb
          · simp only [selI, selB, erv, cond_true, cond_false, Bool.and_true, Bool.and_false, Bool.true_and, Bool.false_and] at B
            go_wp2_with fail
            refine Calls.mono (B _) ?_
            rintro e w6 ⟨rfl, hb⟩
            replace km0 := cell_later hb (cell_al _ km0)
            replace km1 := cell_later hb (cell_al _ km1)
            replace km2 := cell_later hb (cell_al _ km2)
            replace km3 := cell_later hb (cell_al _ km3)
            replace km4 := cell_later hb (cell_al _ km4)
            replace km5 := cell_later hb (cell_al _ km5)
            replace km6 := cell_later hb (cell_al _ km6)
            replace kp0 := cell_later hb (cell_al _ kp0)
            replace kp1 := cell_later hb (cell_al _ kp1)
            replace kq0 := cell_later hb (cell_al _ kq0)
            replace kq1 := cell_later hb (cell_al _ kq1)
            replace kv0 := cell_later hb (cell_al _ kv0)
            replace kv1 := cell_later hb (cell_al _ kv1)
            replace kn0 := cell_later hb (cell_al _ kn0)
            replace kn1 := cell_later hb (cell_al _ kn1)
            replace kn2 := cell_later hb (cell_al _ kn2)
            replace kn3 := cell_later hb (cell_al _ kn3)
            replace kn4 := cell_later hb (cell_al _ kn4)
            replace kn5 := cell_later hb (cell_al _ kn5)
            replace kn6 := cell_later hb (cell_al _ kn6)
            have kx0 : w6.cell? ⟨w5.heap.size, 0, none⟩ = some (.int .i64 x1) := cell_later hb (by go_simp)
            have kx1 : w6.cell? ⟨w5.heap.size, 1, none⟩ = some (.int .i64 x2) := cell_later hb (by go_simp)
            have kx2 : w6.cell? ⟨w5.heap.size, 2, none⟩ = some (.int .i64 x3) := cell_later hb (by go_simp)
            have kx3 : w6.cell? ⟨w5.heap.size, 3, none⟩ = some (.int .i64 x4) := cell_later hb (by go_simp)
            replace zm : w.heap.size < w6.heap.size := World.block_lt_of_cell? _ _ km0
            have zm_w6 := zm
            replace zp : w.heap.size + 1 < w6.heap.size := World.block_lt_of_cell? _ _ kp0
            have zp_w6 := zp
            replace zq : w.heap.size + 1 + 1 < w6.heap.size := World.block_lt_of_cell? _ _ kq0
            have zq_w6 := zq
            replace zv : w.heap.size + 1 + 1 + 1 < w6.heap.size := World.block_lt_of_cell? _ _ kv0
            have zv_w6 := zv
            replace zn : w1.heap.size < w6.heap.size := World.block_lt_of_cell? _ _ kn0
            have zn_w6 := zn
            have zx : w5.heap.size < w6.heap.size := World.block_lt_of_cell? _ _ kx0
            have zx_w6 := zx
            replace hb0 : Below w.heap.size w w6 := (by repeat (first | with_reducible exact Below.refl _ _ | with_reducible assumption | with_reducible refine Below.setCell ?_ (by first | omega | (simp <;> omega)) _ | with_reducible refine balloc ?_ _ | with_reducible refine Below.drew ?_ | with_reducible refine bstep ?_ (by with_reducible assumption)))
            have hs_w6 := hb.size; (try simp only [World.size_alloc, World.size_setCell] at hs_w6)
            clear hb
            go_wp2
            all_goals first | (exfalso; omega) | (go_ret; refine ret_bool ?_ (by repeat (first | with_reducible exact Below.refl _ _ | with_reducible assumption | with_reducible refine Below.setCell ?_ (by first | omega | (simp <;> omega)) _ | with_reducible refine balloc ?_ _ | with_reducible refine Below.drew ?_ | with_reducible refine bstep ?_ (by with_reducible assumption))); first | (simp; done) | (simp <;> omega) | (simp [*]; done))
          · simp only [selI, selB, erv, cond_true, cond_false, Bool.and_true, Bool.and_false, Bool.true_and, Bool.false_and] at B
            go_wp2_with fail
            refine Calls.mono (B _) ?_
            rintro e w6 ⟨rfl, hb⟩
            replace km0 := cell_later hb (cell_al _ km0)
            replace km1 := cell_later hb (cell_al _ km1)
            replace km2 := cell_later hb (cell_al _ km2)
            replace km3 := cell_later hb (cell_al _ km3)
            replace km4 := cell_later hb (cell_al _ km4)
            replace km5 := cell_later hb (cell_al _ km5)
            replace km6 := cell_later hb (cell_al _ km6)
            replace kp0 := cell_later hb (cell_al _ kp0)
            replace kp1 := cell_later hb (cell_al _ kp1)
            replace kq0 := cell_later hb (cell_al _ kq0)
            replace kq1 := cell_later hb (cell_al _ kq1)
            replace kv0 := cell_later hb (cell_al _ kv0)
            replace kv1 := cell_later hb (cell_al _ kv1)
            replace kn0 := cell_later hb (cell_al _ kn0)
            replace kn1 := cell_later hb (cell_al _ kn1)
            replace kn2 := cell_later hb (cell_al _ kn2)
            replace kn3 := cell_later hb (cell_al _ kn3)
            replace kn4 := cell_later hb (cell_al _ kn4)
            replace kn5 := cell_later hb (cell_al _ kn5)
            replace kn6 := cell_later hb (cell_al _ kn6)
            have kx0 : w6.cell? ⟨w5.heap.size, 0, none⟩ = some (.int .i64 x1) := cell_later hb (by go_simp)
            have kx1 : w6.cell? ⟨w5.heap.size, 1, none⟩ = some (.int .i64 x2) := cell_later hb (by go_simp)
            have kx2 : w6.cell? ⟨w5.heap.size, 2, none⟩ = some (.int .i64 x3) := cell_later hb (by go_simp)
            have kx3 : w6.cell? ⟨w5.heap.size, 3, none⟩ = some (.int .i64 x4) := cell_later hb (by go_simp)
            replace zm : w.heap.size < w6.heap.size := World.block_lt_of_cell? _ _ km0
            have zm_w6 := zm
            replace zp : w.heap.size + 1 < w6.heap.size := World.block_lt_of_cell? _ _ kp0
            have zp_w6 := zp
            replace zq : w.heap.size + 1 + 1 < w6.heap.size := World.block_lt_of_cell? _ _ kq0
            have zq_w6 := zq
            replace zv : w.heap.size + 1 + 1 + 1 < w6.heap.size := World.block_lt_of_cell? _ _ kv0
            have zv_w6 := zv
            replace zn : w1.heap.size < w6.heap.size := World.block_lt_of_cell? _ _ kn0
            have zn_w6 := zn
            have zx : w5.heap.size < w6.heap.size := World.block_lt_of_cell? _ _ kx0
            have zx_w6 := zx
            replace hb0 : Below w.heap.size w w6 := (by repeat (first | with_reducible exact Below.refl _ _ | with_reducible assumption | with_reducible refine Below.setCell ?_ (by first | omega | (simp <;> omega)) _ | with_reducible refine balloc ?_ _ | with_reducible refine Below.drew ?_ | with_reducible refine bstep ?_ (by with_reducible assumption)))
            have hs_w6 := hb.size; (try simp only [World.size_alloc, World.size_setCell] at hs_w6)
            clear hb
            have hx := vB_iff.1 hra
            have ww0 : IntKind.i64.wrap (x1 + v1) = x1 + v1 := IntWalk.i64_in _ (by omega)
            have ww1 : IntKind.i64.wrap (x2 + v1) = x2 + v1 := IntWalk.i64_in _ (by omega)
            have ww2 : IntKind.i64.wrap (x3 + v2) = x3 + v2 := IntWalk.i64_in _ (by omega)
            have ww3 : IntKind.i64.wrap (x4 + v2) = x4 + v2 := IntWalk.i64_in _ (by omega)
            clear hx hra
            go_wp2_with fail
            go_region_held3 (fun w' => w'.cell? ⟨w.heap.size + 1 + 1 + 1, 0, none⟩ = some (.int .i64 v1) ∧ w'.cell? ⟨w.heap.size + 1 + 1 + 1, 1, none⟩ = some (.int .i64 v2) ∧ w'.cell? ⟨w5.heap.size, 0, none⟩ = some (.int .i64 x1) ∧ w'.cell? ⟨w5.heap.size, 1, none⟩ = some (.int .i64 x2) ∧ w'.cell? ⟨w5.heap.size, 2, none⟩ = some (.int .i64 x3) ∧ w'.cell? ⟨w5.heap.size, 3, none⟩ = some (.int .i64 x4) ∧ w'.cell? ⟨w6.heap.size, 0, none⟩ = some (.int .i64 (x1 + v1)) ∧ w'.cell? ⟨w6.heap.size, 1, none⟩ = some (.int .i64 (x2 + v1)) ∧ w'.cell? ⟨w6.heap.size, 2, none⟩ = some (.int .i64 (x3 + v2)) ∧ w'.cell? ⟨w6.heap.size, 3, none⟩ = some (.int .i64 (x4 + v2))) (first | (go_keep; done) | ((repeat' apply And.intro) <;> go_simp)) (first | (go_at_call 27; refine Calls.mono (box_c _ _ _ _ _) ?_; rintro e wr ⟨rfl, hb⟩; have km0 : wr.cell? ⟨w.heap.size, 0, none⟩ = some (.int .i64 m1) := cell_later hb (by first | (with_reducible assumption) | go_simp); have km1 : wr.cell? ⟨w.heap.size, 1, none⟩ = some (.int .i64 m2) := cell_later hb (by first | (with_reducible assumption) | go_simp); have km2 : wr.cell? ⟨w.heap.size, 2, none⟩ = some (.int .i64 m3) := cell_later hb (by first | (with_reducible assumption) | go_simp); have km3 : wr.cell? ⟨w.heap.size, 3, none⟩ = some (.int .i64 m4) := cell_later hb (by first | (with_reducible assumption) | go_simp); have km4 : wr.cell? ⟨w.heap.size, 4, none⟩ = some (.int .i64 m5) := cell_later hb (by first | (with_reducible assumption) | go_simp); have km5 : wr.cell? ⟨w.heap.size, 5, none⟩ = some (.int .i64 m6) := cell_later hb (by first | (with_reducible assumption) | go_simp); have km6 : wr.cell? ⟨w.heap.size, 6, none⟩ = some (.int .i64 m7) := cell_later hb (by first | (with_reducible assumption) | go_simp); have zm : w.heap.size < wr.heap.size := World.block_lt_of_cell? _ _ km0; have kp0 : wr.cell? ⟨w.heap.size + 1, 0, none⟩ = some (.int .i64 p1) := cell_later hb (by first | (with_reducible assumption) | go_simp); have kp1 : wr.cell? ⟨w.heap.size + 1, 1, none⟩ = some (.int .i64 p2) := cell_later hb (by first | (with_reducible assumption) | go_simp); have zp : w.heap.size + 1 < wr.heap.size := World.block_lt_of_cell? _ _ kp0; have kq0 : wr.cell? ⟨w.heap.size + 1 + 1, 0, none⟩ = some (.int .i64 q1) := cell_later hb (by first | (with_reducible assumption) | go_simp); have kq1 : wr.cell? ⟨w.heap.size + 1 + 1, 1, none⟩ = some (.int .i64 q2) := cell_later hb (by first | (with_reducible assumption) | go_simp); have zq : w.heap.size + 1 + 1 < wr.heap.size := World.block_lt_of_cell? _ _ kq0; have kv0 : wr.cell? ⟨w.heap.size + 1 + 1 + 1, 0, none⟩ = some (.int .i64 v1) := cell_later hb (by first | (with_reducible assumption) | go_simp); have kv1 : wr.cell? ⟨w.heap.size + 1 + 1 + 1, 1, none⟩ = some (.int .i64 v2) := cell_later hb (by first | (with_reducible assumption) | go_simp); have zv : w.heap.size + 1 + 1 + 1 < wr.heap.size := World.block_lt_of_cell? _ _ kv0; have kn0 : wr.cell? ⟨w1.heap.size, 0, none⟩ = some (.int .i64 m1) := cell_later hb (by first | (with_reducible assumption) | go_simp); have kn1 : wr.cell? ⟨w1.heap.size, 1, none⟩ = some (.int .i64 m2) := cell_later hb (by first | (with_reducible assumption) | go_simp); have kn2 : wr.cell? ⟨w1.heap.size, 2, none⟩ = some (.int .i64 (m3 + v1)) := cell_later hb (by first | (with_reducible assumption) | go_simp); have kn3 : wr.cell? ⟨w1.heap.size, 3, none⟩ = some (.int .i64 m4) := cell_later hb (by first | (with_reducible assumption) | go_simp); have kn4 : wr.cell? ⟨w1.heap.size, 4, none⟩ = some (.int .i64 m5) := cell_later hb (by first | (with_reducible assumption) | go_simp); have kn5 : wr.cell? ⟨w1.heap.size, 5, none⟩ = some (.int .i64 (m6 + v2)) := cell_later hb (by first | (with_reducible assumption) | go_simp); have kn6 : wr.cell? ⟨w1.heap.size, 6, none⟩ = some (.int .i64 m7) := cell_later hb (by first | (with_reducible assumption) | go_simp); have zn : w1.heap.size < wr.heap.size := World.block_lt_of_cell? _ _ kn0; have kx0 : wr.cell? ⟨w5.heap.size, 0, none⟩ = some (.int .i64 x1) := cell_later hb (by first | (with_reducible assumption) | go_simp); have kx1 : wr.cell? ⟨w5.heap.size, 1, none⟩ = some (.int .i64 x2) := cell_later hb (by first | (with_reducible assumption) | go_simp); have kx2 : wr.cell? ⟨w5.heap.size, 2, none⟩ = some (.int .i64 x3) := cell_later hb (by first | (with_reducible assumption) | go_simp); have kx3 : wr.cell? ⟨w5.heap.size, 3, none⟩ = some (.int .i64 x4) := cell_later hb (by first | (with_reducible assumption) | go_simp); have zx : w5.heap.size < wr.heap.size := World.block_lt_of_cell? _ _ kx0; have ky0 : wr.cell? ⟨w6.heap.size, 0, none⟩ = some (.int .i64 (x1 + v1)) := cell_later hb (by first | (with_reducible assumption) | go_simp); have ky1 : wr.cell? ⟨w6.heap.size, 1, none⟩ = some (.int .i64 (x2 + v1)) := cell_later hb (by first | (with_reducible assumption) | go_simp); have ky2 : wr.cell? ⟨w6.heap.size, 2, none⟩ = some (.int .i64 (x3 + v2)) := cell_later hb (by first | (with_reducible assumption) | go_simp); have ky3 : wr.cell? ⟨w6.heap.size, 3, none⟩ = some (.int .i64 (x4 + v2)) := cell_later hb (by first | (with_reducible assumption) | go_simp); have zy : w6.heap.size < wr.heap.size := World.block_lt_of_cell? _ _ ky0; have hb0 : Below w.heap.size w wr := (by repeat (first | with_reducible exact Below.refl _ _ | with_reducible assumption | with_reducible refine Below.setCell ?_ (by first | omega | (simp <;> omega)) _ | with_reducible refine balloc ?_ _ | with_reducible refine Below.drew ?_ | with_reducible refine bstep ?_ (by with_reducible assumption))); clear hb))
            go_wp2
            all_goals first | (exfalso; omega) | (go_ret; refine ret_bool ?_ (by repeat (first | with_reducible exact Below.refl _ _ | with_reducible assumption | with_reducible refine Below.setCell ?_ (by first | omega | (simp <;> omega)) _ | with_reducible refine balloc ?_ _ | with_reducible refine Below.drew ?_ | with_reducible refine bstep ?_ (by with_reducible assumption))); first | (simp; done) | (simp <;> omega) | (simp [*]; done))
  ·
    obtain ⟨dv, op, oq⟩ := vf_iff.1 h1
    have g := rg_of dv
    have g3 := g.h3
    have g6 := g.h6
    obtain ⟨oq1, oq2, oq3, oq4⟩ := id oq
    have e1 : IntKind.i64.wrap (m3 + v1) = m3 + v1 := IntWalk.i64_in _ (by omega)
    have e2 : IntKind.i64.wrap (m6 + v2) = m6 + v2 := IntWalk.i64_in _ (by omega)
    have e3 : IntKind.i64.wrap (q1 + v1) = q1 + v1 := IntWalk.i64_in _ (by omega)
    have e4 : IntKind.i64.wrap (q2 + v2) = q2 + v2 := IntWalk.i64_in _ (by omega)
    have V := fun w => Valid_c m1 m2 (m3 + v1) m4 m5 (m6 + v2) m7 w
    have F2 := fun w => Fits_c m1 m2 (m3 + v1) m4 m5 (m6 + v2) m7 p1 p2 (q1 + v1) (q2 + v2) w
    rw [xf_add, k1] at F2
    have A := fun w => Apply_c m1 m2 m3 m4 m5 m6 m7 p1 p2 w
    have B := fun w => Apply_c m1 m2 (m3 + v1) m4 m5 (m6 + v2) m7 p1 p2 w
    simp only [dv, okp op, Bool.true_and] at A
    simp only [okp op, Bool.and_true] at B
    simp only [cL_add, cH_add] at B
    have hrb : rCarry m1 m2 m3 m4 m5 m6 m7 p1 p1 p2 p2 = vB (cL m1 m2 m3 m7 p1 p1 p2 p2) (cH m1 m2 m3 m7 p1 p1 p2 p2) (cL m4 m5 m6 m7 p1 p1 p2 p2) (cH m4 m5 m6 m7 p1 p1 p2 p2) := rfl
    rw [hrb] at A
    clear hrb
    generalize cL m1 m2 m3 m7 p1 p1 p2 p2 = x1 at *
    generalize cH m1 m2 m3 m7 p1 p1 p2 p2 = x2 at *
    generalize cL m4 m5 m6 m7 p1 p1 p2 p2 = x3 at *
    generalize cH m4 m5 m6 m7 p1 p1 p2 p2 = x4 at *
    generalize rCarry m1 m2 (m3 + v1) m4 m5 (m6 + v2) m7 p1 p1 p2 p2 = rb at *
    generalize hra : vB x1 x2 x3 x4 = ra at *
    generalize vFits m1 m2 (m3 + v1) m4 m5 (m6 + v2) m7 p1 p2 (q1 + v1) (q2 + v2) = vf at *
    generalize dV m1 m2 (m3 + v1) m4 m5 (m6 + v2) m7 = dn2 at *
    clear dv op oq g h1 k1
    go_enter Try.func9, Try.ntmps9
    go_wp2_with fail
    refine Calls.mono (head_c _) ?_
    rintro e w1 ⟨rfl, hb⟩
    have km0 : w1.cell? ⟨w.heap.size, 0, none⟩ = some (.int .i64 m1) := cell_later hb (by go_simp)
    have km1 : w1.cell? ⟨w.heap.size, 1, none⟩ = some (.int .i64 m2) := cell_later hb (by go_simp)
    have km2 : w1.cell? ⟨w.heap.size, 2, none⟩ = some (.int .i64 m3) := cell_later hb (by go_simp)
    have km3 : w1.cell? ⟨w.heap.size, 3, none⟩ = some (.int .i64 m4) := cell_later hb (by go_simp)
    have km4 : w1.cell? ⟨w.heap.size, 4, none⟩ = some (.int .i64 m5) := cell_later hb (by go_simp)
    have km5 : w1.cell? ⟨w.heap.size, 5, none⟩ = some (.int .i64 m6) := cell_later hb (by go_simp)
    have km6 : w1.cell? ⟨w.heap.size, 6, none⟩ = some (.int .i64 m7) := cell_later hb (by go_simp)
    have kp0 : w1.cell? ⟨w.heap.size + 1, 0, none⟩ = some (.int .i64 p1) := cell_later hb (by go_simp)
    have kp1 : w1.cell? ⟨w.heap.size + 1, 1, none⟩ = some (.int .i64 p2) := cell_later hb (by go_simp)
    have kq0 : w1.cell? ⟨w.heap.size + 1 + 1, 0, none⟩ = some (.int .i64 q1) := cell_later hb (by go_simp)
    have kq1 : w1.cell? ⟨w.heap.size + 1 + 1, 1, none⟩ = some (.int .i64 q2) := cell_later hb (by go_simp)
    have kv0 : w1.cell? ⟨w.heap.size + 1 + 1 + 1, 0, none⟩ = some (.int .i64 v1) := cell_later hb (by go_simp)
    have kv1 : w1.cell? ⟨w.heap.size + 1 + 1 + 1, 1, none⟩ = some (.int .i64 v2) := cell_later hb (by go_simp)
    have zm : w.heap.size < w1.heap.size := World.block_lt_of_cell? _ _ km0
    have zm_w1 := zm
    have zp : w.heap.size + 1 < w1.heap.size := World.block_lt_of_cell? _ _ kp0
    have zp_w1 := zp
    have zq : w.heap.size + 1 + 1 < w1.heap.size := World.block_lt_of_cell? _ _ kq0
    have zq_w1 := zq
    have zv : w.heap.size + 1 + 1 + 1 < w1.heap.size := World.block_lt_of_cell? _ _ kv0
    have zv_w1 := zv
    have hb0 : Below w.heap.size w w1 := (by repeat (first | with_reducible exact Below.refl _ _ | with_reducible assumption | with_reducible refine Below.setCell ?_ (by first | omega | (simp <;> omega)) _ | with_reducible refine balloc ?_ _ | with_reducible refine Below.drew ?_ | with_reducible refine bstep ?_ (by with_reducible assumption)))
    have hs_w1 := hb.size; (try simp only [World.size_alloc, World.size_setCell] at hs_w1)
    clear hb
    go_wp2_with fail
    all_goals first | (exfalso; omega) | skip
    refine Calls.mono (F1 _) ?_
    rintro e w2 ⟨rfl, hb⟩
    replace km0 : w2.cell? ⟨w.heap.size, 0, none⟩ = some (.int .i64 m1) := cell_later hb (by first | with_reducible exact cell_al _ km0 | with_reducible exact km0 | go_simp)
    replace km1 : w2.cell? ⟨w.heap.size, 1, none⟩ = some (.int .i64 m2) := cell_later hb (by first | with_reducible exact cell_al _ km1 | with_reducible exact km1 | go_simp)
    replace km2 : w2.cell? ⟨w.heap.size, 2, none⟩ = some (.int .i64 m3) := cell_later hb (by first | with_reducible exact cell_al _ km2 | with_reducible exact km2 | go_simp)
    replace km3 : w2.cell? ⟨w.heap.size, 3, none⟩ = some (.int .i64 m4) := cell_later hb (by first | with_reducible exact cell_al _ km3 | with_reducible exact km3 | go_simp)
    replace km4 : w2.cell? ⟨w.heap.size, 4, none⟩ = some (.int .i64 m5) := cell_later hb (by first | with_reducible exact cell_al _ km4 | with_reducible exact km4 | go_simp)
    replace km5 : w2.cell? ⟨w.heap.size, 5, none⟩ = some (.int .i64 m6) := cell_later hb (by first | with_reducible exact cell_al _ km5 | with_reducible exact km5 | go_simp)
    replace km6 : w2.cell? ⟨w.heap.size, 6, none⟩ = some (.int .i64 m7) := cell_later hb (by first | with_reducible exact cell_al _ km6 | with_reducible exact km6 | go_simp)
    replace kp0 : w2.cell? ⟨w.heap.size + 1, 0, none⟩ = some (.int .i64 p1) := cell_later hb (by first | with_reducible exact cell_al _ kp0 | with_reducible exact kp0 | go_simp)
    replace kp1 : w2.cell? ⟨w.heap.size + 1, 1, none⟩ = some (.int .i64 p2) := cell_later hb (by first | with_reducible exact cell_al _ kp1 | with_reducible exact kp1 | go_simp)
    replace kq0 : w2.cell? ⟨w.heap.size + 1 + 1, 0, none⟩ = some (.int .i64 q1) := cell_later hb (by first | with_reducible exact cell_al _ kq0 | with_reducible exact kq0 | go_simp)
    replace kq1 : w2.cell? ⟨w.heap.size + 1 + 1, 1, none⟩ = some (.int .i64 q2) := cell_later hb (by first | with_reducible exact cell_al _ kq1 | with_reducible exact kq1 | go_simp)
    replace kv0 : w2.cell? ⟨w.heap.size + 1 + 1 + 1, 0, none⟩ = some (.int .i64 v1) := cell_later hb (by first | with_reducible exact cell_al _ kv0 | with_reducible exact kv0 | go_simp)
    replace kv1 : w2.cell? ⟨w.heap.size + 1 + 1 + 1, 1, none⟩ = some (.int .i64 v2) := cell_later hb (by first | with_reducible exact cell_al _ kv1 | with_reducible exact kv1 | go_simp)
    have kn0 : w2.cell? ⟨w1.heap.size, 0, none⟩ = some (.int .i64 m1) := cell_later hb (by go_simp)
    have kn1 : w2.cell? ⟨w1.heap.size, 1, none⟩ = some (.int .i64 m2) := cell_later hb (by go_simp)
    have kn2 : w2.cell? ⟨w1.heap.size, 2, none⟩ = some (.int .i64 (m3 + v1)) := cell_later hb (by go_simp)
    have kn3 : w2.cell? ⟨w1.heap.size, 3, none⟩ = some (.int .i64 m4) := cell_later hb (by go_simp)
    have kn4 : w2.cell? ⟨w1.heap.size, 4, none⟩ = some (.int .i64 m5) := cell_later hb (by go_simp)
    have kn5 : w2.cell? ⟨w1.heap.size, 5, none⟩ = some (.int .i64 (m6 + v2)) := cell_later hb (by go_simp)
    have kn6 : w2.cell? ⟨w1.heap.size, 6, none⟩ = some (.int .i64 m7) := cell_later hb (by go_simp)
    replace zm : w.heap.size < w2.heap.size := World.block_lt_of_cell? _ _ km0
    have zm_w2 := zm
    replace zp : w.heap.size + 1 < w2.heap.size := World.block_lt_of_cell? _ _ kp0
    have zp_w2 := zp
    replace zq : w.heap.size + 1 + 1 < w2.heap.size := World.block_lt_of_cell? _ _ kq0
    have zq_w2 := zq
    replace zv : w.heap.size + 1 + 1 + 1 < w2.heap.size := World.block_lt_of_cell? _ _ kv0
    have zv_w2 := zv
    have zn : w1.heap.size < w2.heap.size := World.block_lt_of_cell? _ _ kn0
    have zn_w2 := zn
    replace hb0 : Below w.heap.size w w2 := (by repeat (first | with_reducible exact Below.refl _ _ | with_reducible assumption | with_reducible refine Below.setCell ?_ (by first | omega | (simp <;> omega)) _ | with_reducible refine balloc ?_ _ | with_reducible refine Below.drew ?_ | with_reducible refine bstep ?_ (by with_reducible assumption)))
    have hs_w2 := hb.size; (try simp only [World.size_alloc, World.size_setCell] at hs_w2)
    clear hb
    go_wp2_with fail
    refine Calls.mono (V _) ?_
    rintro e w3 ⟨rfl, hb⟩
    replace km0 := cell_later hb km0
    replace km1 := cell_later hb km1
    replace km2 := cell_later hb km2
    replace km3 := cell_later hb km3
    replace km4 := cell_later hb km4
    replace km5 := cell_later hb km5
    replace km6 := cell_later hb km6
    replace kp0 := cell_later hb kp0
    replace kp1 := cell_later hb kp1
    replace kq0 := cell_later hb kq0
    replace kq1 := cell_later hb kq1
    replace kv0 := cell_later hb kv0
    replace kv1 := cell_later hb kv1
    replace kn0 := cell_later hb kn0
    replace kn1 := cell_later hb kn1
    replace kn2 := cell_later hb kn2
    replace kn3 := cell_later hb kn3
    replace kn4 := cell_later hb kn4
    replace kn5 := cell_later hb kn5
    replace kn6 := cell_later hb kn6
    replace zm : w.heap.size < w3.heap.size := World.block_lt_of_cell? _ _ km0
    have zm_w3 := zm
    replace zp : w.heap.size + 1 < w3.heap.size := World.block_lt_of_cell? _ _ kp0
    have zp_w3 := zp
    replace zq : w.heap.size + 1 + 1 < w3.heap.size := World.block_lt_of_cell? _ _ kq0
    have zq_w3 := zq
    replace zv : w.heap.size + 1 + 1 + 1 < w3.heap.size := World.block_lt_of_cell? _ _ kv0
    have zv_w3 := zv
    replace zn : w1.heap.size < w3.heap.size := World.block_lt_of_cell? _ _ kn0
    have zn_w3 := zn
    replace hb0 : Below w.heap.size w w3 := (by repeat (first | with_reducible exact Below.refl _ _ | with_reducible assumption | with_reducible refine Below.setCell ?_ (by first | omega | (simp <;> omega)) _ | with_reducible refine balloc ?_ _ | with_reducible refine Below.drew ?_ | with_reducible refine bstep ?_ (by with_reducible assumption)))
    have hs_w3 : w2.heap.size ≤ w3.heap.size := hb.size
    clear hb
    cases dn2
    · go_wp2
      all_goals first | (exfalso; omega) | (go_ret; refine ret_bool ?_ (by repeat (first | with_reducible exact Below.refl _ _ | with_reducible assumption | with_reducible refine Below.setCell ?_ (by first | omega | (simp <;> omega)) _ | with_reducible refine balloc ?_ _ | with_reducible refine Below.drew ?_ | with_reducible refine bstep ?_ (by with_reducible assumption))); first | (simp; done) | (simp <;> omega) | (simp [*]; done))
    · cases vf
      · simp only [selI, selB, erv, cond_true, cond_false, Bool.and_true, Bool.and_false, Bool.true_and, Bool.false_and] at F2
        go_wp2_with fail
        refine Calls.mono (F2 _) ?_
        rintro e w4 ⟨rfl, hb⟩
        replace km0 := cell_later hb km0
        replace km1 := cell_later hb km1
        replace km2 := cell_later hb km2
        replace km3 := cell_later hb km3
        replace km4 := cell_later hb km4
        replace km5 := cell_later hb km5
        replace km6 := cell_later hb km6
        replace kp0 := cell_later hb kp0
        replace kp1 := cell_later hb kp1
        replace kq0 := cell_later hb kq0
        replace kq1 := cell_later hb kq1
        replace kv0 := cell_later hb kv0
        replace kv1 := cell_later hb kv1
        replace kn0 := cell_later hb kn0
        replace kn1 := cell_later hb kn1
        replace kn2 := cell_later hb kn2
        replace kn3 := cell_later hb kn3
        replace kn4 := cell_later hb kn4
        replace kn5 := cell_later hb kn5
        replace kn6 := cell_later hb kn6
        replace zm : w.heap.size < w4.heap.size := World.block_lt_of_cell? _ _ km0
        have zm_w4 := zm
        replace zp : w.heap.size + 1 < w4.heap.size := World.block_lt_of_cell? _ _ kp0
        have zp_w4 := zp
        replace zq : w.heap.size + 1 + 1 < w4.heap.size := World.block_lt_of_cell? _ _ kq0
        have zq_w4 := zq
        replace zv : w.heap.size + 1 + 1 + 1 < w4.heap.size := World.block_lt_of_cell? _ _ kv0
        have zv_w4 := zv
        replace zn : w1.heap.size < w4.heap.size := World.block_lt_of_cell? _ _ kn0
        have zn_w4 := zn
        replace hb0 : Below w.heap.size w w4 := (by repeat (first | with_reducible exact Below.refl _ _ | with_reducible assumption | with_reducible refine Below.setCell ?_ (by first | omega | (simp <;> omega)) _ | with_reducible refine balloc ?_ _ | with_reducible refine Below.drew ?_ | with_reducible refine bstep ?_ (by with_reducible assumption)))
        have hs_w4 : w3.heap.size ≤ w4.heap.size := hb.size
        clear hb
        cases ra
        · simp only [selI, selB, erv, cond_true, cond_false, Bool.and_true, Bool.and_false, Bool.true_and, Bool.false_and] at A
          go_wp2_with fail
          refine Calls.mono (A _) ?_
          rintro e w5 ⟨rfl, hb⟩
          replace km0 := cell_later hb km0
          replace km1 := cell_later hb km1
          replace km2 := cell_later hb km2
          replace km3 := cell_later hb km3
          replace km4 := cell_later hb km4
          replace km5 := cell_later hb km5
          replace km6 := cell_later hb km6
          replace kp0 := cell_later hb kp0
          replace kp1 := cell_later hb kp1
          replace kq0 := cell_later hb kq0
          replace kq1 := cell_later hb kq1
          replace kv0 := cell_later hb kv0
          replace kv1 := cell_later hb kv1
          replace kn0 := cell_later hb kn0
          replace kn1 := cell_later hb kn1
          replace kn2 := cell_later hb kn2
          replace kn3 := cell_later hb kn3
          replace kn4 := cell_later hb kn4
          replace kn5 := cell_later hb kn5
          replace kn6 := cell_later hb kn6
          replace zm : w.heap.size < w5.heap.size := World.block_lt_of_cell? _ _ km0
          have zm_w5 := zm
          replace zp : w.heap.size + 1 < w5.heap.size := World.block_lt_of_cell? _ _ kp0
          have zp_w5 := zp
          replace zq : w.heap.size + 1 + 1 < w5.heap.size := World.block_lt_of_cell? _ _ kq0
          have zq_w5 := zq
          replace zv : w.heap.size + 1 + 1 + 1 < w5.heap.size := World.block_lt_of_cell? _ _ kv0
          have zv_w5 := zv
          replace zn : w1.heap.size < w5.heap.size := World.block_lt_of_cell? _ _ kn0
          have zn_w5 := zn
          replace hb0 : Below w.heap.size w w5 := (by repeat (first | with_reducible exact Below.refl _ _ | with_reducible assumption | with_reducible refine Below.setCell ?_ (by first | omega | (simp <;> omega)) _ | with_reducible refine balloc ?_ _ | with_reducible refine Below.drew ?_ | with_reducible refine bstep ?_ (by with_reducible assumption)))
          have hs_w5 : w4.heap.size ≤ w5.heap.size := hb.size
          clear hb
          cases rb
          · simp only [selI, selB, erv, cond_true, cond_false, Bool.and_true, Bool.and_false, Bool.true_and, Bool.false_and] at B
            go_wp2_with fail
            refine Calls.mono (B _) ?_
            rintro e w6 ⟨rfl, hb⟩
            replace km0 := cell_later hb (cell_al _ km0)
            replace km1 := cell_later hb (cell_al _ km1)
            replace km2 := cell_later hb (cell_al _ km2)
            replace km3 := cell_later hb (cell_al _ km3)
            replace km4 := cell_later hb (cell_al _ km4)
            replace km5 := cell_later hb (cell_al _ km5)
            replace km6 := cell_later hb (cell_al _ km6)
            replace kp0 := cell_later hb (cell_al _ kp0)
            replace kp1 := cell_later hb (cell_al _ kp1)
            replace kq0 := cell_later hb (cell_al _ kq0)
            replace kq1 := cell_later hb (cell_al _ kq1)
            replace kv0 := cell_later hb (cell_al _ kv0)
            replace kv1 := cell_later hb (cell_al _ kv1)
            replace kn0 := cell_later hb (cell_al _ kn0)
            replace kn1 := cell_later hb (cell_al _ kn1)
            replace kn2 := cell_later hb (cell_al _ kn2)
            replace kn3 := cell_later hb (cell_al _ kn3)
            replace kn4 := cell_later hb (cell_al _ kn4)
            replace kn5 := cell_later hb (cell_al _ kn5)
            replace kn6 := cell_later hb (cell_al _ kn6)
            have kx0 : w6.cell? ⟨w5.heap.size, 0, none⟩ = some (.int .i64 0) := cell_later hb (by go_simp)
            have kx1 : w6.cell? ⟨w5.heap.size, 1, none⟩ = some (.int .i64 0) := cell_later hb (by go_simp)
            have kx2 : w6.cell? ⟨w5.heap.size, 2, none⟩ = some (.int .i64 0) := cell_later hb (by go_simp)
            have kx3 : w6.cell? ⟨w5.heap.size, 3, none⟩ = some (.int .i64 0) := cell_later hb (by go_simp)
            replace zm : w.heap.size < w6.heap.size := World.block_lt_of_cell? _ _ km0
            have zm_w6 := zm
            replace zp : w.heap.size + 1 < w6.heap.size := World.block_lt_of_cell? _ _ kp0
            have zp_w6 := zp
            replace zq : w.heap.size + 1 + 1 < w6.heap.size := World.block_lt_of_cell? _ _ kq0
            have zq_w6 := zq
            replace zv : w.heap.size + 1 + 1 + 1 < w6.heap.size := World.block_lt_of_cell? _ _ kv0
            have zv_w6 := zv
            replace zn : w1.heap.size < w6.heap.size := World.block_lt_of_cell? _ _ kn0
            have zn_w6 := zn
            have zx : w5.heap.size < w6.heap.size := World.block_lt_of_cell? _ _ kx0
            have zx_w6 := zx
            replace hb0 : Below w.heap.size w w6 := (by repeat (first | with_reducible exact Below.refl _ _ | with_reducible assumption | with_reducible refine Below.setCell ?_ (by first | omega | (simp <;> omega)) _ | with_reducible refine balloc ?_ _ | with_reducible refine Below.drew ?_ | with_reducible refine bstep ?_ (by with_reducible assumption)))
            have hs_w6 := hb.size; (try simp only [World.size_alloc, World.size_setCell] at hs_w6)
            clear hb
            go_wp2
            all_goals first | (exfalso; omega) | (go_ret; refine ret_bool ?_ (by repeat (first | with_reducible exact Below.refl _ _ | with_reducible assumption | with_reducible refine Below.setCell ?_ (by first | omega | (simp <;> omega)) _ | with_reducible refine balloc ?_ _ | with_reducible refine Below.drew ?_ | with_reducible refine bstep ?_ (by with_reducible assumption))); first | (simp; done) | (simp <;> omega) | (simp [*]; done))
          · simp only [selI, selB, erv, cond_true, cond_false, Bool.and_true, Bool.and_false, Bool.true_and, Bool.false_and] at B
            go_wp2_with fail
            refine Calls.mono (B _) ?_
            rintro e w6 ⟨rfl, hb⟩
            replace km0 := cell_later hb (cell_al _ km0)
            replace km1 := cell_later hb (cell_al _ km1)
            replace km2 := cell_later hb (cell_al _ km2)
            replace km3 := cell_later hb (cell_al _ km3)
            replace km4 := cell_later hb (cell_al _ km4)
            replace km5 := cell_later hb (cell_al _ km5)
            replace km6 := cell_later hb (cell_al _ km6)
            replace kp0 := cell_later hb (cell_al _ kp0)
            replace kp1 := cell_later hb (cell_al _ kp1)
            replace kq0 := cell_later hb (cell_al _ kq0)
            replace kq1 := cell_later hb (cell_al _ kq1)
            replace kv0 := cell_later hb (cell_al _ kv0)
            replace kv1 := cell_later hb (cell_al _ kv1)
            replace kn0 := cell_later hb (cell_al _ kn0)
            replace kn1 := cell_later hb (cell_al _ kn1)
            replace kn2 := cell_later hb (cell_al _ kn2)
            replace kn3 := cell_later hb (cell_al _ kn3)
            replace kn4 := cell_later hb (cell_al _ kn4)
            replace kn5 := cell_later hb (cell_al _ kn5)
            replace kn6 := cell_later hb (cell_al _ kn6)
            have kx0 : w6.cell? ⟨w5.heap.size, 0, none⟩ = some (.int .i64 0) := cell_later hb (by go_simp)
            have kx1 : w6.cell? ⟨w5.heap.size, 1, none⟩ = some (.int .i64 0) := cell_later hb (by go_simp)
            have kx2 : w6.cell? ⟨w5.heap.size, 2, none⟩ = some (.int .i64 0) := cell_later hb (by go_simp)
            have kx3 : w6.cell? ⟨w5.heap.size, 3, none⟩ = some (.int .i64 0) := cell_later hb (by go_simp)
            replace zm : w.heap.size < w6.heap.size := World.block_lt_of_cell? _ _ km0
            have zm_w6 := zm
            replace zp : w.heap.size + 1 < w6.heap.size := World.block_lt_of_cell? _ _ kp0
            have zp_w6 := zp
            replace zq : w.heap.size + 1 + 1 < w6.heap.size := World.block_lt_of_cell? _ _ kq0
            have zq_w6 := zq
            replace zv : w.heap.size + 1 + 1 + 1 < w6.heap.size := World.block_lt_of_cell? _ _ kv0
            have zv_w6 := zv
            replace zn : w1.heap.size < w6.heap.size := World.block_lt_of_cell? _ _ kn0
            have zn_w6 := zn
            have zx : w5.heap.size < w6.heap.size := World.block_lt_of_cell? _ _ kx0
            have zx_w6 := zx
            replace hb0 : Below w.heap.size w w6 := (by repeat (first | with_reducible exact Below.refl _ _ | with_reducible assumption | with_reducible refine Below.setCell ?_ (by first | omega | (simp <;> omega)) _ | with_reducible refine balloc ?_ _ | with_reducible refine Below.drew ?_ | with_reducible refine bstep ?_ (by with_reducible assumption)))
            have hs_w6 := hb.size; (try simp only [World.size_alloc, World.size_setCell] at hs_w6)
            clear hb
            go_wp2
            all_goals first | (exfalso; omega) | (go_ret; refine ret_bool ?_ (by repeat (first | with_reducible exact Below.refl _ _ | with_reducible assumption | with_reducible refine Below.setCell ?_ (by first | omega | (simp <;> omega)) _ | with_reducible refine balloc ?_ _ | with_reducible refine Below.drew ?_ | with_reducible refine bstep ?_ (by with_reducible assumption))); first | (simp; done) | (simp <;> omega) | (simp [*]; done))
        · simp only [selI, selB, erv, cond_true, cond_false, Bool.and_true, Bool.and_false, Bool.true_and, Bool.false_and] at A
          go_wp2_with fail
          refine Calls.mono (A _) ?_
          rintro e w5 ⟨rfl, hb⟩
          replace km0 := cell_later hb km0
          replace km1 := cell_later hb km1
          replace km2 := cell_later hb km2
          replace km3 := cell_later hb km3
          replace km4 := cell_later hb km4
          replace km5 := cell_later hb km5
          replace km6 := cell_later hb km6
          replace kp0 := cell_later hb kp0
          replace kp1 := cell_later hb kp1
          replace kq0 := cell_later hb kq0
          replace kq1 := cell_later hb kq1
          replace kv0 := cell_later hb kv0
          replace kv1 := cell_later hb kv1
          replace kn0 := cell_later hb kn0
          replace kn1 := cell_later hb kn1
          replace kn2 := cell_later hb kn2
          replace kn3 := cell_later hb kn3
          replace kn4 := cell_later hb kn4
          replace kn5 := cell_later hb kn5
          replace kn6 := cell_later hb kn6
          replace zm : w.heap.size < w5.heap.size := World.block_lt_of_cell? _ _ km0
          have zm_w5 := zm
          replace zp : w.heap.size + 1 < w5.heap.size := World.block_lt_of_cell? _ _ kp0
          have zp_w5 := zp
          replace zq : w.heap.size + 1 + 1 < w5.heap.size := World.block_lt_of_cell? _ _ kq0
          have zq_w5 := zq
          replace zv : w.heap.size + 1 + 1 + 1 < w5.heap.size := World.block_lt_of_cell? _ _ kv0
          have zv_w5 := zv
          replace zn : w1.heap.size < w5.heap.size := World.block_lt_of_cell? _ _ kn0
          have zn_w5 := zn
          replace hb0 : Below w.heap.size w w5 := (by repeat (first | with_reducible exact Below.refl _ _ | with_reducible assumption | with_reducible refine Below.setCell ?_ (by first | omega | (simp <;> omega)) _ | with_reducible refine balloc ?_ _ | with_reducible refine Below.drew ?_ | with_reducible refine bstep ?_ (by with_reducible assumption)))
          have hs_w5 : w4.heap.size ≤ w5.heap.size := hb.size
          clear hb
          cases rb
          · simp only [selI, selB, erv, cond_true, cond_false, Bool.and_true, Bool.and_false, Bool.true_and, Bool.false_and] at B
            go_wp2_with fail
            refine Calls.mono (B _) ?_
            rintro e w6 ⟨rfl, hb⟩
            replace km0 := cell_later hb (cell_al _ km0)
            replace km1 := cell_later hb (cell_al _ km1)
            replace km2 := cell_later hb (cell_al _ km2)
            replace km3 := cell_later hb (cell_al _ km3)
            replace km4 := cell_later hb (cell_al _ km4)
            replace km5 := cell_later hb (cell_al _ km5)
            replace km6 := cell_later hb (cell_al _ km6)
            replace kp0 := cell_later hb (cell_al _ kp0)
            replace kp1 := cell_later hb (cell_al _ kp1)
            replace kq0 := cell_later hb (cell_al _ kq0)
            replace kq1 := cell_later hb (cell_al _ kq1)
            replace kv0 := cell_later hb (cell_al _ kv0)
            replace kv1 := cell_later hb (cell_al _ kv1)
            replace kn0 := cell_later hb (cell_al _ kn0)
            replace kn1 := cell_later hb (cell_al _ kn1)
            replace kn2 := cell_later hb (cell_al _ kn2)
            replace kn3 := cell_later hb (cell_al _ kn3)
            replace kn4 := cell_later hb (cell_al _ kn4)
            replace kn5 := cell_later hb (cell_al _ kn5)
            replace kn6 := cell_later hb (cell_al _ kn6)
            have kx0 : w6.cell? ⟨w5.heap.size, 0, none⟩ = some (.int .i64 x1) := cell_later hb (by go_simp)
            have kx1 : w6.cell? ⟨w5.heap.size, 1, none⟩ = some (.int .i64 x2) := cell_later hb (by go_simp)
            have kx2 : w6.cell? ⟨w5.heap.size, 2, none⟩ = some (.int .i64 x3) := cell_later hb (by go_simp)
            have kx3 : w6.cell? ⟨w5.heap.size, 3, none⟩ = some (.int .i64 x4) := cell_later hb (by go_simp)
            replace zm : w.heap.size < w6.heap.size := World.block_lt_of_cell? _ _ km0
            have zm_w6 := zm
            replace zp : w.heap.size + 1 < w6.heap.size := World.block_lt_of_cell? _ _ kp0
            have zp_w6 := zp
            replace zq : w.heap.size + 1 + 1 < w6.heap.size := World.block_lt_of_cell? _ _ kq0
            have zq_w6 := zq
            replace zv : w.heap.size + 1 + 1 + 1 < w6.heap.size := World.block_lt_of_cell? _ _ kv0
            have zv_w6 := zv
            replace zn : w1.heap.size < w6.heap.size := World.block_lt_of_cell? _ _ kn0
            have zn_w6 := zn
            have zx : w5.heap.size < w6.heap.size := World.block_lt_of_cell? _ _ kx0
            have zx_w6 := zx
            replace hb0 : Below w.heap.size w w6 := (by repeat (first | with_reducible exact Below.refl _ _ | with_reducible assumption | with_reducible refine Below.setCell ?_ (by first | omega | (simp <;> omega)) _ | with_reducible refine balloc ?_ _ | with_reducible refine Below.drew ?_ | with_reducible refine bstep ?_ (by with_reducible assumption)))
            have hs_w6 := hb.size; (try simp only [World.size_alloc, World.size_setCell] at hs_w6)
            clear hb
            go_wp2
            all_goals first | (exfalso; omega) | (go_ret; refine ret_bool ?_ (by repeat (first | with_reducible exact Below.refl _ _ | with_reducible assumption | with_reducible refine Below.setCell ?_ (by first | omega | (simp <;> omega)) _ | with_reducible refine balloc ?_ _ | with_reducible refine Below.drew ?_ | with_reducible refine bstep ?_ (by with_reducible assumption))); first | (simp; done) | (simp <;> omega) | (simp [*]; done))
          · simp only [selI, selB, erv, cond_true, cond_false, Bool.and_true, Bool.and_false, Bool.true_and, Bool.false_and] at B
            go_wp2_with fail
            refine Calls.mono (B _) ?_
            rintro e w6 ⟨rfl, hb⟩
            replace km0 := cell_later hb (cell_al _ km0)
            replace km1 := cell_later hb (cell_al _ km1)
            replace km2 := cell_later hb (cell_al _ km2)
            replace km3 := cell_later hb (cell_al _ km3)
            replace km4 := cell_later hb (cell_al _ km4)
            replace km5 := cell_later hb (cell_al _ km5)
            replace km6 := cell_later hb (cell_al _ km6)
            replace kp0 := cell_later hb (cell_al _ kp0)
            replace kp1 := cell_later hb (cell_al _ kp1)
            replace kq0 := cell_later hb (cell_al _ kq0)
            replace kq1 := cell_later hb (cell_al _ kq1)
            replace kv0 := cell_later hb (cell_al _ kv0)
            replace kv1 := cell_later hb (cell_al _ kv1)
            replace kn0 := cell_later hb (cell_al _ kn0)
            replace kn1 := cell_later hb (cell_al _ kn1)
            replace kn2 := cell_later hb (cell_al _ kn2)
            replace kn3 := cell_later hb (cell_al _ kn3)
            replace kn4 := cell_later hb (cell_al _ kn4)
            replace kn5 := cell_later hb (cell_al _ kn5)
            replace kn6 := cell_later hb (cell_al _ kn6)
            have kx0 : w6.cell? ⟨w5.heap.size, 0, none⟩ = some (.int .i64 x1) := cell_later hb (by go_simp)
            have kx1 : w6.cell? ⟨w5.heap.size, 1, none⟩ = some (.int .i64 x2) := cell_later hb (by go_simp)
            have kx2 : w6.cell? ⟨w5.heap.size, 2, none⟩ = some (.int .i64 x3) := cell_later hb (by go_simp)
            have kx3 : w6.cell? ⟨w5.heap.size, 3, none⟩ = some (.int .i64 x4) := cell_later hb (by go_simp)
            replace zm : w.heap.size < w6.heap.size := World.block_lt_of_cell? _ _ km0
            have zm_w6 := zm
            replace zp : w.heap.size + 1 < w6.heap.size := World.block_lt_of_cell? _ _ kp0
            have zp_w6 := zp
            replace zq : w.heap.size + 1 + 1 < w6.heap.size := World.block_lt_of_cell? _ _ kq0
            have zq_w6 := zq
            replace zv : w.heap.size + 1 + 1 + 1 < w6.heap.size := World.block_lt_of_cell? _ _ kv0
            have zv_w6 := zv
            replace zn : w1.heap.size < w6.heap.size := World.block_lt_of_cell? _ _ kn0
            have zn_w6 := zn
            have zx : w5.heap.size < w6.heap.size := World.block_lt_of_cell? _ _ kx0
            have zx_w6 := zx
            replace hb0 : Below w.heap.size w w6 := (by repeat (first | with_reducible exact Below.refl _ _ | with_reducible assumption | with_reducible refine Below.setCell ?_ (by first | omega | (simp <;> omega)) _ | with_reducible refine balloc ?_ _ | with_reducible refine Below.drew ?_ | with_reducible refine bstep ?_ (by with_reducible assumption)))
            have hs_w6 := hb.size; (try simp only [World.size_alloc, World.size_setCell] at hs_w6)
            clear hb
            have hx := vB_iff.1 hra
            have ww0 : IntKind.i64.wrap (x1 + v1) = x1 + v1 := IntWalk.i64_in _ (by omega)
            have ww1 : IntKind.i64.wrap (x2 + v1) = x2 + v1 := IntWalk.i64_in _ (by omega)
            have ww2 : IntKind.i64.wrap (x3 + v2) = x3 + v2 := IntWalk.i64_in _ (by omega)
            have ww3 : IntKind.i64.wrap (x4 + v2) = x4 + v2 := IntWalk.i64_in _ (by omega)
            clear hx hra
            go_wp2_with fail
            go_region_held3 (fun w' => w'.cell? ⟨w.heap.size + 1 + 1 + 1, 0, none⟩ = some (.int .i64 v1) ∧ w'.cell? ⟨w.heap.size + 1 + 1 + 1, 1, none⟩ = some (.int .i64 v2) ∧ w'.cell? ⟨w5.heap.size, 0, none⟩ = some (.int .i64 x1) ∧ w'.cell? ⟨w5.heap.size, 1, none⟩ = some (.int .i64 x2) ∧ w'.cell? ⟨w5.heap.size, 2, none⟩ = some (.int .i64 x3) ∧ w'.cell? ⟨w5.heap.size, 3, none⟩ = some (.int .i64 x4) ∧ w'.cell? ⟨w6.heap.size, 0, none⟩ = some (.int .i64 (x1 + v1)) ∧ w'.cell? ⟨w6.heap.size, 1, none⟩ = some (.int .i64 (x2 + v1)) ∧ w'.cell? ⟨w6.heap.size, 2, none⟩ = some (.int .i64 (x3 + v2)) ∧ w'.cell? ⟨w6.heap.size, 3, none⟩ = some (.int .i64 (x4 + v2))) (first | (go_keep; done) | ((repeat' apply And.intro) <;> go_simp)) (first | (go_at_call 27; refine Calls.mono (box_c _ _ _ _ _) ?_; rintro e wr ⟨rfl, hb⟩; have km0 : wr.cell? ⟨w.heap.size, 0, none⟩ = some (.int .i64 m1) := cell_later hb (by first | (with_reducible assumption) | go_simp); have km1 : wr.cell? ⟨w.heap.size, 1, none⟩ = some (.int .i64 m2) := cell_later hb (by first | (with_reducible assumption) | go_simp); have km2 : wr.cell? ⟨w.heap.size, 2, none⟩ = some (.int .i64 m3) := cell_later hb (by first | (with_reducible assumption) | go_simp); have km3 : wr.cell? ⟨w.heap.size, 3, none⟩ = some (.int .i64 m4) := cell_later hb (by first | (with_reducible assumption) | go_simp); have km4 : wr.cell? ⟨w.heap.size, 4, none⟩ = some (.int .i64 m5) := cell_later hb (by first | (with_reducible assumption) | go_simp); have km5 : wr.cell? ⟨w.heap.size, 5, none⟩ = some (.int .i64 m6) := cell_later hb (by first | (with_reducible assumption) | go_simp); have km6 : wr.cell? ⟨w.heap.size, 6, none⟩ = some (.int .i64 m7) := cell_later hb (by first | (with_reducible assumption) | go_simp); have zm : w.heap.size < wr.heap.size := World.block_lt_of_cell? _ _ km0; have kp0 : wr.cell? ⟨w.heap.size + 1, 0, none⟩ = some (.int .i64 p1) := cell_later hb (by first | (with_reducible assumption) | go_simp); have kp1 : wr.cell? ⟨w.heap.size + 1, 1, none⟩ = some (.int .i64 p2) := cell_later hb (by first | (with_reducible assumption) | go_simp); have zp : w.heap.size + 1 < wr.heap.size := World.block_lt_of_cell? _ _ kp0; have kq0 : wr.cell? ⟨w.heap.size + 1 + 1, 0, none⟩ = some (.int .i64 q1) := cell_later hb (by first | (with_reducible assumption) | go_simp); have kq1 : wr.cell? ⟨w.heap.size + 1 + 1, 1, none⟩ = some (.int .i64 q2) := cell_later hb (by first | (with_reducible assumption) | go_simp); have zq : w.heap.size + 1 + 1 < wr.heap.size := World.block_lt_of_cell? _ _ kq0; have kv0 : wr.cell? ⟨w.heap.size + 1 + 1 + 1, 0, none⟩ = some (.int .i64 v1) := cell_later hb (by first | (with_reducible assumption) | go_simp); have kv1 : wr.cell? ⟨w.heap.size + 1 + 1 + 1, 1, none⟩ = some (.int .i64 v2) := cell_later hb (by first | (with_reducible assumption) | go_simp); have zv : w.heap.size + 1 + 1 + 1 < wr.heap.size := World.block_lt_of_cell? _ _ kv0; have kn0 : wr.cell? ⟨w1.heap.size, 0, none⟩ = some (.int .i64 m1) := cell_later hb (by first | (with_reducible assumption) | go_simp); have kn1 : wr.cell? ⟨w1.heap.size, 1, none⟩ = some (.int .i64 m2) := cell_later hb (by first | (with_reducible assumption) | go_simp); have kn2 : wr.cell? ⟨w1.heap.size, 2, none⟩ = some (.int .i64 (m3 + v1)) := cell_later hb (by first | (with_reducible assumption) | go_simp); have kn3 : wr.cell? ⟨w1.heap.size, 3, none⟩ = some (.int .i64 m4) := cell_later hb (by first | (with_reducible assumption) | go_simp); have kn4 : wr.cell? ⟨w1.heap.size, 4, none⟩ = some (.int .i64 m5) := cell_later hb (by first | (with_reducible assumption) | go_simp); have kn5 : wr.cell? ⟨w1.heap.size, 5, none⟩ = some (.int .i64 (m6 + v2)) := cell_later hb (by first | (with_reducible assumption) | go_simp); have kn6 : wr.cell? ⟨w1.heap.size, 6, none⟩ = some (.int .i64 m7) := cell_later hb (by first | (with_reducible assumption) | go_simp); have zn : w1.heap.size < wr.heap.size := World.block_lt_of_cell? _ _ kn0; have kx0 : wr.cell? ⟨w5.heap.size, 0, none⟩ = some (.int .i64 x1) := cell_later hb (by first | (with_reducible assumption) | go_simp); have kx1 : wr.cell? ⟨w5.heap.size, 1, none⟩ = some (.int .i64 x2) := cell_later hb (by first | (with_reducible assumption) | go_simp); have kx2 : wr.cell? ⟨w5.heap.size, 2, none⟩ = some (.int .i64 x3) := cell_later hb (by first | (with_reducible assumption) | go_simp); have kx3 : wr.cell? ⟨w5.heap.size, 3, none⟩ = some (.int .i64 x4) := cell_later hb (by first | (with_reducible assumption) | go_simp); have zx : w5.heap.size < wr.heap.size := World.block_lt_of_cell? _ _ kx0; have ky0 : wr.cell? ⟨w6.heap.size, 0, none⟩ = some (.int .i64 (x1 + v1)) := cell_later hb (by first | (with_reducible assumption) | go_simp); have ky1 : wr.cell? ⟨w6.heap.size, 1, none⟩ = some (.int .i64 (x2 + v1)) := cell_later hb (by first | (with_reducible assumption) | go_simp); have ky2 : wr.cell? ⟨w6.heap.size, 2, none⟩ = some (.int .i64 (x3 + v2)) := cell_later hb (by first | (with_reducible assumption) | go_simp); have ky3 : wr.cell? ⟨w6.heap.size, 3, none⟩ = some (.int .i64 (x4 + v2)) := cell_later hb (by first | (with_reducible assumption) | go_simp); have zy : w6.heap.size < wr.heap.size := World.block_lt_of_cell? _ _ ky0; have hb0 : Below w.heap.size w wr := (by repeat (first | with_reducible exact Below.refl _ _ | with_reducible assumption | with_reducible refine Below.setCell ?_ (by first | omega | (simp <;> omega)) _ | with_reducible refine balloc ?_ _ | with_reducible refine Below.drew ?_ | with_reducible refine bstep ?_ (by with_reducible assumption))); clear hb))
            go_wp2
            all_goals first | (exfalso; omega) | (go_ret; refine ret_bool ?_ (by repeat (first | with_reducible exact Below.refl _ _ | with_reducible assumption | with_reducible refine Below.setCell ?_ (by first | omega | (simp <;> omega)) _ | with_reducible refine balloc ?_ _ | with_reducible refine Below.drew ?_ | with_reducible refine bstep ?_ (by with_reducible assumption))); first | (simp; done) | (simp <;> omega) | (simp [*]; done))
      · simp only [selI, selB, erv, cond_true, cond_false, Bool.and_true, Bool.and_false, Bool.true_and, Bool.false_and] at F2
        go_wp2_with fail
        refine Calls.mono (F2 _) ?_
        rintro e w4 ⟨rfl, hb⟩
        replace km0 := cell_later hb km0
        replace km1 := cell_later hb km1
        replace km2 := cell_later hb km2
        replace km3 := cell_later hb km3
        replace km4 := cell_later hb km4
        replace km5 := cell_later hb km5
        replace km6 := cell_later hb km6
        replace kp0 := cell_later hb kp0
        replace kp1 := cell_later hb kp1
        replace kq0 := cell_later hb kq0
        replace kq1 := cell_later hb kq1
        replace kv0 := cell_later hb kv0
        replace kv1 := cell_later hb kv1
        replace kn0 := cell_later hb kn0
        replace kn1 := cell_later hb kn1
        replace kn2 := cell_later hb kn2
        replace kn3 := cell_later hb kn3
        replace kn4 := cell_later hb kn4
        replace kn5 := cell_later hb kn5
        replace kn6 := cell_later hb kn6
        replace zm : w.heap.size < w4.heap.size := World.block_lt_of_cell? _ _ km0
        have zm_w4 := zm
        replace zp : w.heap.size + 1 < w4.heap.size := World.block_lt_of_cell? _ _ kp0
        have zp_w4 := zp
        replace zq : w.heap.size + 1 + 1 < w4.heap.size := World.block_lt_of_cell? _ _ kq0
        have zq_w4 := zq
        replace zv : w.heap.size + 1 + 1 + 1 < w4.heap.size := World.block_lt_of_cell? _ _ kv0
        have zv_w4 := zv
        replace zn : w1.heap.size < w4.heap.size := World.block_lt_of_cell? _ _ kn0
        have zn_w4 := zn
        replace hb0 : Below w.heap.size w w4 := (by repeat (first | with_reducible exact Below.refl _ _ | with_reducible assumption | with_reducible refine Below.setCell ?_ (by first | omega | (simp <;> omega)) _ | with_reducible refine balloc ?_ _ | with_reducible refine Below.drew ?_ | with_reducible refine bstep ?_ (by with_reducible assumption)))
        have hs_w4 : w3.heap.size ≤ w4.heap.size := hb.size
        clear hb
        cases ra
        · simp only [selI, selB, erv, cond_true, cond_false, Bool.and_true, Bool.and_false, Bool.true_and, Bool.false_and] at A
          go_wp2_with fail
          refine Calls.mono (A _) ?_
          rintro e w5 ⟨rfl, hb⟩
          replace km0 := cell_later hb km0
          replace km1 := cell_later hb km1
          replace km2 := cell_later hb km2
          replace km3 := cell_later hb km3
          replace km4 := cell_later hb km4
          replace km5 := cell_later hb km5
          replace km6 := cell_later hb km6
          replace kp0 := cell_later hb kp0
          replace kp1 := cell_later hb kp1
          replace kq0 := cell_later hb kq0
          replace kq1 := cell_later hb kq1
          replace kv0 := cell_later hb kv0
          replace kv1 := cell_later hb kv1
          replace kn0 := cell_later hb kn0
          replace kn1 := cell_later hb kn1
          replace kn2 := cell_later hb kn2
          replace kn3 := cell_later hb kn3
          replace kn4 := cell_later hb kn4
          replace kn5 := cell_later hb kn5
          replace kn6 := cell_later hb kn6
          replace zm : w.heap.size < w5.heap.size := World.block_lt_of_cell? _ _ km0
          have zm_w5 := zm
          replace zp : w.heap.size + 1 < w5.heap.size := World.block_lt_of_cell? _ _ kp0
          have zp_w5 := zp
          replace zq : w.heap.size + 1 + 1 < w5.heap.size := World.block_lt_of_cell? _ _ kq0
          have zq_w5 := zq
          replace zv : w.heap.size + 1 + 1 + 1 < w5.heap.size := World.block_lt_of_cell? _ _ kv0
          have zv_w5 := zv
          replace zn : w1.heap.size < w5.heap.size := World.block_lt_of_cell? _ _ kn0
          have zn_w5 := zn
          replace hb0 : Below w.heap.size w w5 := (by repeat (first | with_reducible exact Below.refl _ _ | with_reducible assumption | with_reducible refine Below.setCell ?_ (by first | omega | (simp <;> omega)) _ | with_reducible refine balloc ?_ _ | with_reducible refine Below.drew ?_ | with_reducible refine bstep ?_ (by with_reducible assumption)))
          have hs_w5 : w4.heap.size ≤ w5.heap.size := hb.size
          clear hb
          cases rb
          · simp only [selI, selB, erv, cond_true, cond_false, Bool.and_true, Bool.and_false, Bool.true_and, Bool.false_and] at B
            go_wp2_with fail
            refine Calls.mono (B _) ?_
            rintro e w6 ⟨rfl, hb⟩
            replace km0 := cell_later hb (cell_al _ km0)
            replace km1 := cell_later hb (cell_al _ km1)
            replace km2 := cell_later hb (cell_al _ km2)
            replace km3 := cell_later hb (cell_al _ km3)
            replace km4 := cell_later hb (cell_al _ km4)
            replace km5 := cell_later hb (cell_al _ km5)
            replace km6 := cell_later hb (cell_al _ km6)
            replace kp0 := cell_later hb (cell_al _ kp0)
            replace kp1 := cell_later hb (cell_al _ kp1)
            replace kq0 := cell_later hb (cell_al _ kq0)
            replace kq1 := cell_later hb (cell_al _ kq1)
            replace kv0 := cell_later hb (cell_al _ kv0)
            replace kv1 := cell_later hb (cell_al _ kv1)
            replace kn0 := cell_later hb (cell_al _ kn0)
            replace kn1 := cell_later hb (cell_al _ kn1)
            replace kn2 := cell_later hb (cell_al _ kn2)
            replace kn3 := cell_later hb (cell_al _ kn3)
            replace kn4 := cell_later hb (cell_al _ kn4)
            replace kn5 := cell_later hb (cell_al _ kn5)
            replace kn6 := cell_later hb (cell_al _ kn6)
            have kx0 : w6.cell? ⟨w5.heap.size, 0, none⟩ = some (.int .i64 0) := cell_later hb (by go_simp)
            have kx1 : w6.cell? ⟨w5.heap.size, 1, none⟩ = some (.int .i64 0) := cell_later hb (by go_simp)
            have kx2 : w6.cell? ⟨w5.heap.size, 2, none⟩ = some (.int .i64 0) := cell_later hb (by go_simp)
            have kx3 : w6.cell? ⟨w5.heap.size, 3, none⟩ = some (.int .i64 0) := cell_later hb (by go_simp)
            replace zm : w.heap.size < w6.heap.size := World.block_lt_of_cell? _ _ km0
            have zm_w6 := zm
            replace zp : w.heap.size + 1 < w6.heap.size := World.block_lt_of_cell? _ _ kp0
            have zp_w6 := zp
            replace zq : w.heap.size + 1 + 1 < w6.heap.size := World.block_lt_of_cell? _ _ kq0
            have zq_w6 := zq
            replace zv : w.heap.size + 1 + 1 + 1 < w6.heap.size := World.block_lt_of_cell? _ _ kv0
            have zv_w6 := zv
            replace zn : w1.heap.size < w6.heap.size := World.block_lt_of_cell? _ _ kn0
            have zn_w6 := zn
            have zx : w5.heap.size < w6.heap.size := World.block_lt_of_cell? _ _ kx0
            have zx_w6 := zx
            replace hb0 : Below w.heap.size w w6 := (by repeat (first | with_reducible exact Below.refl _ _ | with_reducible assumption | with_reducible refine Below.setCell ?_ (by first | omega | (simp <;> omega)) _ | with_reducible refine balloc ?_ _ | with_reducible refine Below.drew ?_ | with_reducible refine bstep ?_ (by with_reducible assumption)))
            have hs_w6 := hb.size; (try simp only [World.size_alloc, World.size_setCell] at hs_w6)
            clear hb
            go_wp2
            all_goals first | (exfalso; omega) | (go_ret; refine ret_bool ?_ (by repeat (first | with_reducible exact Below.refl _ _ | with_reducible assumption | with_reducible refine Below.setCell ?_ (by first | omega | (simp <;> omega)) _ | with_reducible refine balloc ?_ _ | with_reducible refine Below.drew ?_ | with_reducible refine bstep ?_ (by with_reducible assumption))); first | (simp; done) | (simp <;> omega) | (simp [*]; done))
          · simp only [selI, selB, erv, cond_true, cond_false, Bool.and_true, Bool.and_false, Bool.true_and, Bool.false_and] at B
            go_wp2_with fail
            refine Calls.mono (B _) ?_
            rintro e w6 ⟨rfl, hb⟩
            replace km0 := cell_later hb (cell_al _ km0)
            replace km1 := cell_later hb (cell_al _ km1)
            replace km2 := cell_later hb (cell_al _ km2)
            replace km3 := cell_later hb (cell_al _ km3)
            replace km4 := cell_later hb (cell_al _ km4)
            replace km5 := cell_later hb (cell_al _ km5)
            replace km6 := cell_later hb (cell_al _ km6)
            replace kp0 := cell_later hb (cell_al _ kp0)
            replace kp1 := cell_later hb (cell_al _ kp1)
            replace kq0 := cell_later hb (cell_al _ kq0)
            replace kq1 := cell_later hb (cell_al _ kq1)
            replace kv0 := cell_later hb (cell_al _ kv0)
            replace kv1 := cell_later hb (cell_al _ kv1)
            replace kn0 := cell_later hb (cell_al _ kn0)
            replace kn1 := cell_later hb (cell_al _ kn1)
            replace kn2 := cell_later hb (cell_al _ kn2)
            replace kn3 := cell_later hb (cell_al _ kn3)
            replace kn4 := cell_later hb (cell_al _ kn4)
            replace kn5 := cell_later hb (cell_al _ kn5)
            replace kn6 := cell_later hb (cell_al _ kn6)
            have kx0 : w6.cell? ⟨w5.heap.size, 0, none⟩ = some (.int .i64 0) := cell_later hb (by go_simp)
            have kx1 : w6.cell? ⟨w5.heap.size, 1, none⟩ = some (.int .i64 0) := cell_later hb (by go_simp)
            have kx2 : w6.cell? ⟨w5.heap.size, 2, none⟩ = some (.int .i64 0) := cell_later hb (by go_simp)
            have kx3 : w6.cell? ⟨w5.heap.size, 3, none⟩ = some (.int .i64 0) := cell_later hb (by go_simp)
            replace zm : w.heap.size < w6.heap.size := World.block_lt_of_cell? _ _ km0
            have zm_w6 := zm
            replace zp : w.heap.size + 1 < w6.heap.size := World.block_lt_of_cell? _ _ kp0
            have zp_w6 := zp
            replace zq : w.heap.size + 1 + 1 < w6.heap.size := World.block_lt_of_cell? _ _ kq0
            have zq_w6 := zq
            replace zv : w.heap.size + 1 + 1 + 1 < w6.heap.size := World.block_lt_of_cell? _ _ kv0
            have zv_w6 := zv
            replace zn : w1.heap.size < w6.heap.size := World.block_lt_of_cell? _ _ kn0
            have zn_w6 := zn
            have zx : w5.heap.size < w6.heap.size := World.block_lt_of_cell? _ _ kx0
            have zx_w6 := zx
            replace hb0 : Below w.heap.size w w6 := (by repeat (first | with_reducible exact Below.refl _ _ | with_reducible assumption | with_reducible refine Below.setCell ?_ (by first | omega | (simp <;> omega)) _ | with_reducible refine balloc ?_ _ | with_reducible refine Below.drew ?_ | with_reducible refine bstep ?_ (by with_reducible assumption)))
            have hs_w6 := hb.size; (try simp only [World.size_alloc, World.size_setCell] at hs_w6)
            clear hb
            go_wp2
            all_goals first | (exfalso; omega) | (go_ret; refine ret_bool ?_ (by repeat (first | with_reducible exact Below.refl _ _ | with_reducible assumption | with_reducible refine Below.setCell ?_ (by first | omega | (simp <;> omega)) _ | with_reducible refine balloc ?_ _ | with_reducible refine Below.drew ?_ | with_reducible refine bstep ?_ (by with_reducible assumption))); first | (simp; done) | (simp <;> omega) | (simp [*]; done))
        · simp only [selI, selB, erv, cond_true, cond_false, Bool.and_true, Bool.and_false, Bool.true_and, Bool.false_and] at A
          go_wp2_with fail
          refine Calls.mono (A _) ?_
          rintro e w5 ⟨rfl, hb⟩
          replace km0 := cell_later hb km0
          replace km1 := cell_later hb km1
          replace km2 := cell_later hb km2
          replace km3 := cell_later hb km3
          replace km4 := cell_later hb km4
          replace km5 := cell_later hb km5
          replace km6 := cell_later hb km6
          replace kp0 := cell_later hb kp0
          replace kp1 := cell_later hb kp1
          replace kq0 := cell_later hb kq0
          replace kq1 := cell_later hb kq1
          replace kv0 := cell_later hb kv0
          replace kv1 := cell_later hb kv1
          replace kn0 := cell_later hb kn0
          replace kn1 := cell_later hb kn1
          replace kn2 := cell_later hb kn2
          replace kn3 := cell_later hb kn3
          replace kn4 := cell_later hb kn4
          replace kn5 := cell_later hb kn5
          replace kn6 := cell_later hb kn6
          replace zm : w.heap.size < w5.heap.size := World.block_lt_of_cell? _ _ km0
          have zm_w5 := zm
          replace zp : w.heap.size + 1 < w5.heap.size := World.block_lt_of_cell? _ _ kp0
          have zp_w5 := zp
          replace zq : w.heap.size + 1 + 1 < w5.heap.size := World.block_lt_of_cell? _ _ kq0
          have zq_w5 := zq
          replace zv : w.heap.size + 1 + 1 + 1 < w5.heap.size := World.block_lt_of_cell? _ _ kv0
          have zv_w5 := zv
          replace zn : w1.heap.size < w5.heap.size := World.block_lt_of_cell? _ _ kn0
          have zn_w5 := zn
          replace hb0 : Below w.heap.size w w5 := (by repeat (first | with_reducible exact Below.refl _ _ | with_reducible assumption | with_reducible refine Below.setCell ?_ (by first | omega | (simp <;> omega)) _ | with_reducible refine balloc ?_ _ | with_reducible refine Below.drew ?_ | with_reducible refine bstep ?_ (by with_reducible assumption)))
          have hs_w5 : w4.heap.size ≤ w5.heap.size := hb.size
          clear hb
          cases rb
          · simp only [selI, selB, erv, cond_true, cond_false, Bool.and_true, Bool.and_false, Bool.true_and, Bool.false_and] at B
            go_wp2_with fail
            refine Calls.mono (B _) ?_
            rintro e w6 ⟨rfl, hb⟩
            replace km0 := cell_later hb (cell_al _ km0)
            replace km1 := cell_later hb (cell_al _ km1)
            replace km2 := cell_later hb (cell_al _ km2)
            replace km3 := cell_later hb (cell_al _ km3)
            replace km4 := cell_later hb (cell_al _ km4)
            replace km5 := cell_later hb (cell_al _ km5)
            replace km6 := cell_later hb (cell_al _ km6)
            replace kp0 := cell_later hb (cell_al _ kp0)
            replace kp1 := cell_later hb (cell_al _ kp1)
            replace kq0 := cell_later hb (cell_al _ kq0)
            replace kq1 := cell_later hb (cell_al _ kq1)
            replace kv0 := cell_later hb (cell_al _ kv0)
            replace kv1 := cell_later hb (cell_al _ kv1)
            replace kn0 := cell_later hb (cell_al _ kn0)
            replace kn1 := cell_later hb (cell_al _ kn1)
            replace kn2 := cell_later hb (cell_al _ kn2)
            replace kn3 := cell_later hb (cell_al _ kn3)
            replace kn4 := cell_later hb (cell_al _ kn4)
            replace kn5 := cell_later hb (cell_al _ kn5)
            replace kn6 := cell_later hb (cell_al _ kn6)
            have kx0 : w6.cell? ⟨w5.heap.size, 0, none⟩ = some (.int .i64 x1) := cell_later hb (by go_simp)
            have kx1 : w6.cell? ⟨w5.heap.size, 1, none⟩ = some (.int .i64 x2) := cell_later hb (by go_simp)
            have kx2 : w6.cell? ⟨w5.heap.size, 2, none⟩ = some (.int .i64 x3) := cell_later hb (by go_simp)
            have kx3 : w6.cell? ⟨w5.heap.size, 3, none⟩ = some (.int .i64 x4) := cell_later hb (by go_simp)
            replace zm : w.heap.size < w6.heap.size := World.block_lt_of_cell? _ _ km0
            have zm_w6 := zm
            replace zp : w.heap.size + 1 < w6.heap.size := World.block_lt_of_cell? _ _ kp0
            have zp_w6 := zp
            replace zq : w.heap.size + 1 + 1 < w6.heap.size := World.block_lt_of_cell? _ _ kq0
            have zq_w6 := zq
            replace zv : w.heap.size + 1 + 1 + 1 < w6.heap.size := World.block_lt_of_cell? _ _ kv0
            have zv_w6 := zv
            replace zn : w1.heap.size < w6.heap.size := World.block_lt_of_cell? _ _ kn0
            have zn_w6 := zn
            have zx : w5.heap.size < w6.heap.size := World.block_lt_of_cell? _ _ kx0
            have zx_w6 := zx
            replace hb0 : Below w.heap.size w w6 := (by repeat (first | with_reducible exact Below.refl _ _ | with_reducible assumption | with_reducible refine Below.setCell ?_ (by first | omega | (simp <;> omega)) _ | with_reducible refine balloc ?_ _ | with_reducible refine Below.drew ?_ | with_reducible refine bstep ?_ (by with_reducible assumption)))
            have hs_w6 := hb.size; (try simp only [World.size_alloc, World.size_setCell] at hs_w6)
            clear hb
            go_wp2
            all_goals first | (exfalso; omega) | (go_ret; refine ret_bool ?_ (by repeat (first | with_reducible exact Below.refl _ _ | with_reducible assumption | with_reducible refine Below.setCell ?_ (by first | omega | (simp <;> omega)) _ | with_reducible refine balloc ?_ _ | with_reducible refine Below.drew ?_ | with_reducible refine bstep ?_ (by with_reducible assumption))); first | (simp; done) | (simp <;> omega) | (simp [*]; done))
          · simp only [selI, selB, erv, cond_true, cond_false, Bool.and_true, Bool.and_false, Bool.true_and, Bool.false_and] at B
            go_wp2_with fail
            refine Calls.mono (B _) ?_
            rintro e w6 ⟨rfl, hb⟩
            replace km0 := cell_later hb (cell_al _ km0)
            replace km1 := cell_later hb (cell_al _ km1)
            replace km2 := cell_later hb (cell_al _ km2)
            replace km3 := cell_later hb (cell_al _ km3)
            replace km4 := cell_later hb (cell_al _ km4)
            replace km5 := cell_later hb (cell_al _ km5)
            replace km6 := cell_later hb (cell_al _ km6)
            replace kp0 := cell_later hb (cell_al _ kp0)
            replace kp1 := cell_later hb (cell_al _ kp1)
            replace kq0 := cell_later hb (cell_al _ kq0)
            replace kq1 := cell_later hb (cell_al _ kq1)
            replace kv0 := cell_later hb (cell_al _ kv0)
            replace kv1 := cell_later hb (cell_al _ kv1)
            replace kn0 := cell_later hb (cell_al _ kn0)
            replace kn1 := cell_later hb (cell_al _ kn1)
            replace kn2 := cell_later hb (cell_al _ kn2)
            replace kn3 := cell_later hb (cell_al _ kn3)
            replace kn4 := cell_later hb (cell_al _ kn4)
            replace kn5 := cell_later hb (cell_al _ kn5)
            replace kn6 := cell_later hb (cell_al _ kn6)
            have kx0 : w6.cell? ⟨w5.heap.size, 0, none⟩ = some (.int .i64 x1) := cell_later hb (by go_simp)
            have kx1 : w6.cell? ⟨w5.heap.size, 1, none⟩ = some (.int .i64 x2) := cell_later hb (by go_simp)
            have kx2 : w6.cell? ⟨w5.heap.size, 2, none⟩ = some (.int .i64 x3) := cell_later hb (by go_simp)
            have kx3 : w6.cell? ⟨w5.heap.size, 3, none⟩ = some (.int .i64 x4) := cell_later hb (by go_simp)
            replace zm : w.heap.size < w6.heap.size := World.block_lt_of_cell? _ _ km0
            have zm_w6 := zm
            replace zp : w.heap.size + 1 < w6.heap.size := World.block_lt_of_cell? _ _ kp0
            have zp_w6 := zp
            replace zq : w.heap.size + 1 + 1 < w6.heap.size := World.block_lt_of_cell? _ _ kq0
            have zq_w6 := zq
            replace zv : w.heap.size + 1 + 1 + 1 < w6.heap.size := World.block_lt_of_cell? _ _ kv0
            have zv_w6 := zv
            replace zn : w1.heap.size < w6.heap.size := World.block_lt_of_cell? _ _ kn0
            have zn_w6 := zn
            have zx : w5.heap.size < w6.heap.size := World.block_lt_of_cell? _ _ kx0
            have zx_w6 := zx
            replace hb0 : Below w.heap.size w w6 := (by repeat (first | with_reducible exact Below.refl _ _ | with_reducible assumption | with_reducible refine Below.setCell ?_ (by first | omega | (simp <;> omega)) _ | with_reducible refine balloc ?_ _ | with_reducible refine Below.drew ?_ | with_reducible refine bstep ?_ (by with_reducible assumption)))
            have hs_w6 := hb.size; (try simp only [World.size_alloc, World.size_setCell] at hs_w6)
            clear hb
            have hx := vB_iff.1 hra
            have ww0 : IntKind.i64.wrap (x1 + v1) = x1 + v1 := IntWalk.i64_in _ (by omega)
            have ww1 : IntKind.i64.wrap (x2 + v1) = x2 + v1 := IntWalk.i64_in _ (by omega)
            have ww2 : IntKind.i64.wrap (x3 + v2) = x3 + v2 := IntWalk.i64_in _ (by omega)
            have ww3 : IntKind.i64.wrap (x4 + v2) = x4 + v2 := IntWalk.i64_in _ (by omega)
            clear hx hra
            go_wp2_with fail
            go_region_held3 (fun w' => w'.cell? ⟨w.heap.size + 1 + 1 + 1, 0, none⟩ = some (.int .i64 v1) ∧ w'.cell? ⟨w.heap.size + 1 + 1 + 1, 1, none⟩ = some (.int .i64 v2) ∧ w'.cell? ⟨w5.heap.size, 0, none⟩ = some (.int .i64 x1) ∧ w'.cell? ⟨w5.heap.size, 1, none⟩ = some (.int .i64 x2) ∧ w'.cell? ⟨w5.heap.size, 2, none⟩ = some (.int .i64 x3) ∧ w'.cell? ⟨w5.heap.size, 3, none⟩ = some (.int .i64 x4) ∧ w'.cell? ⟨w6.heap.size, 0, none⟩ = some (.int .i64 (x1 + v1)) ∧ w'.cell? ⟨w6.heap.size, 1, none⟩ = some (.int .i64 (x2 + v1)) ∧ w'.cell? ⟨w6.heap.size, 2, none⟩ = some (.int .i64 (x3 + v2)) ∧ w'.cell? ⟨w6.heap.size, 3, none⟩ = some (.int .i64 (x4 + v2))) (first | (go_keep; done) | ((repeat' apply And.intro) <;> go_simp)) (first | (go_at_call 27; refine Calls.mono (box_c _ _ _ _ _) ?_; rintro e wr ⟨rfl, hb⟩; have km0 : wr.cell? ⟨w.heap.size, 0, none⟩ = some (.int .i64 m1) := cell_later hb (by first | (with_reducible assumption) | go_simp); have km1 : wr.cell? ⟨w.heap.size, 1, none⟩ = some (.int .i64 m2) := cell_later hb (by first | (with_reducible assumption) | go_simp); have km2 : wr.cell? ⟨w.heap.size, 2, none⟩ = some (.int .i64 m3) := cell_later hb (by first | (with_reducible assumption) | go_simp); have km3 : wr.cell? ⟨w.heap.size, 3, none⟩ = some (.int .i64 m4) := cell_later hb (by first | (with_reducible assumption) | go_simp); have km4 : wr.cell? ⟨w.heap.size, 4, none⟩ = some (.int .i64 m5) := cell_later hb (by first | (with_reducible assumption) | go_simp); have km5 : wr.cell? ⟨w.heap.size, 5, none⟩ = some (.int .i64 m6) := cell_later hb (by first | (with_reducible assumption) | go_simp); have km6 : wr.cell? ⟨w.heap.size, 6, none⟩ = some (.int .i64 m7) := cell_later hb (by first | (with_reducible assumption) | go_simp); have zm : w.heap.size < wr.heap.size := World.block_lt_of_cell? _ _ km0; have kp0 : wr.cell? ⟨w.heap.size + 1, 0, none⟩ = some (.int .i64 p1) := cell_later hb (by first | (with_reducible assumption) | go_simp); have kp1 : wr.cell? ⟨w.heap.size + 1, 1, none⟩ = some (.int .i64 p2) := cell_later hb (by first | (with_reducible assumption) | go_simp); have zp : w.heap.size + 1 < wr.heap.size := World.block_lt_of_cell? _ _ kp0; have kq0 : wr.cell? ⟨w.heap.size + 1 + 1, 0, none⟩ = some (.int .i64 q1) := cell_later hb (by first | (with_reducible assumption) | go_simp); have kq1 : wr.cell? ⟨w.heap.size + 1 + 1, 1, none⟩ = some (.int .i64 q2) := cell_later hb (by first | (with_reducible assumption) | go_simp); have zq : w.heap.size + 1 + 1 < wr.heap.size := World.block_lt_of_cell? _ _ kq0; have kv0 : wr.cell? ⟨w.heap.size + 1 + 1 + 1, 0, none⟩ = some (.int .i64 v1) := cell_later hb (by first | (with_reducible assumption) | go_simp); have kv1 : wr.cell? ⟨w.heap.size + 1 + 1 + 1, 1, none⟩ = some (.int .i64 v2) := cell_later hb (by first | (with_reducible assumption) | go_simp); have zv : w.heap.size + 1 + 1 + 1 < wr.heap.size := World.block_lt_of_cell? _ _ kv0; have kn0 : wr.cell? ⟨w1.heap.size, 0, none⟩ = some (.int .i64 m1) := cell_later hb (by first | (with_reducible assumption) | go_simp); have kn1 : wr.cell? ⟨w1.heap.size, 1, none⟩ = some (.int .i64 m2) := cell_later hb (by first | (with_reducible assumption) | go_simp); have kn2 : wr.cell? ⟨w1.heap.size, 2, none⟩ = some (.int .i64 (m3 + v1)) := cell_later hb (by first | (with_reducible assumption) | go_simp); have kn3 : wr.cell? ⟨w1.heap.size, 3, none⟩ = some (.int .i64 m4) := cell_later hb (by first | (with_reducible assumption) | go_simp); have kn4 : wr.cell? ⟨w1.heap.size, 4, none⟩ = some (.int .i64 m5) := cell_later hb (by first | (with_reducible assumption) | go_simp); have kn5 : wr.cell? ⟨w1.heap.size, 5, none⟩ = some (.int .i64 (m6 + v2)) := cell_later hb (by first | (with_reducible assumption) | go_simp); have kn6 : wr.cell? ⟨w1.heap.size, 6, none⟩ = some (.int .i64 m7) := cell_later hb (by first | (with_reducible assumption) | go_simp); have zn : w1.heap.size < wr.heap.size := World.block_lt_of_cell? _ _ kn0; have kx0 : wr.cell? ⟨w5.heap.size, 0, none⟩ = some (.int .i64 x1) := cell_later hb (by first | (with_reducible assumption) | go_simp); have kx1 : wr.cell? ⟨w5.heap.size, 1, none⟩ = some (.int .i64 x2) := cell_later hb (by first | (with_reducible assumption) | go_simp); have kx2 : wr.cell? ⟨w5.heap.size, 2, none⟩ = some (.int .i64 x3) := cell_later hb (by first | (with_reducible assumption) | go_simp); have kx3 : wr.cell? ⟨w5.heap.size, 3, none⟩ = some (.int .i64 x4) := cell_later hb (by first | (with_reducible assumption) | go_simp); have zx : w5.heap.size < wr.heap.size := World.block_lt_of_cell? _ _ kx0; have ky0 : wr.cell? ⟨w6.heap.size, 0, none⟩ = some (.int .i64 (x1 + v1)) := cell_later hb (by first | (with_reducible assumption) | go_simp); have ky1 : wr.cell? ⟨w6.heap.size, 1, none⟩ = some (.int .i64 (x2 + v1)) := cell_later hb (by first | (with_reducible assumption) | go_simp); have ky2 : wr.cell? ⟨w6.heap.size, 2, none⟩ = some (.int .i64 (x3 + v2)) := cell_later hb (by first | (with_reducible assumption) | go_simp); have ky3 : wr.cell? ⟨w6.heap.size, 3, none⟩ = some (.int .i64 (x4 + v2)) := cell_later hb (by first | (with_reducible assumption) | go_simp); have zy : w6.heap.size < wr.heap.size := World.block_lt_of_cell? _ _ ky0; have hb0 : Below w.heap.size w wr := (by repeat (first | with_reducible exact Below.refl _ _ | with_reducible assumption | with_reducible refine Below.setCell ?_ (by first | omega | (simp <;> omega)) _ | with_reducible refine balloc ?_ _ | with_reducible refine Below.drew ?_ | with_reducible refine bstep ?_ (by with_reducible assumption))); clear hb))
            go_wp2
            all_goals first | (exfalso; omega) | (go_ret; refine ret_bool ?_ (by repeat (first | with_reducible exact Below.refl _ _ | with_reducible assumption | with_reducible refine Below.setCell ?_ (by first | omega | (simp <;> omega)) _ | with_reducible refine balloc ?_ _ | with_reducible refine Below.drew ?_ | with_reducible refine bstep ?_ (by with_reducible assumption))); first | (simp; done) | (simp <;> omega) | (simp [*]; done))


end Go.Proofs.Ytlkjpackjjncaaa.Da
