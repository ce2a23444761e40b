/- L4Then: the law DatumThen. -/
import Derived.Test.YtlkjpackjjncaaaDatX
import Derived.Test.YtlkjpackjjncaaaRows
import Derived.WalkKit
import Derived.WalkSpells
import Derived.WalkLawsBesides
import Derived.Lib.Hide
import Derived.Deep.QuietTactic
import Derived.BigQuiet
import Derived.RegionTactic
import Derived.ChangeAlike
import Derived.BigRegion
import Derived.Deep.RegionHeld3
import Derived.Deep.RegionWith
import Derived.Outline
import Derived.Laws.EntriesVeiled
import Derived.Deep.DeepCutAuto
namespace Go.Proofs.Ytlkjpackjjncaaa.Da
open Go.RowKit Sp
set_option linter.unusedSimpArgs false
set_option linter.unusedVariables false

set_option maxRecDepth 100000 in
set_option maxHeartbeats 25600000 in
theorem then_law (m1 m2 m3 m4 m5 m6 m7 n1 n2 n3 n4 n5 n6 n7 p1 p2 q1 q2 r1 r2 : Int) (w : World)  : Calls Try.prog 6 #[(.agg #[(.int .i64 m1), (.int .i64 m2), (.int .i64 m3), (.int .i64 m4), (.int .i64 m5), (.int .i64 m6), (.int .i64 m7)]), (.agg #[(.int .i64 n1), (.int .i64 n2), (.int .i64 n3), (.int .i64 n4), (.int .i64 n5), (.int .i64 n6), (.int .i64 n7)]), (.agg #[(.int .i64 p1), (.int .i64 p2)]), (.agg #[(.int .i64 q1), (.int .i64 q2)]), (.agg #[(.int .i64 r1), (.int .i64 r2)])] w (Ret w (.bool true)) := by
  rcases fits3 m1 m2 m3 m4 m5 m6 m7 p1 p2 q1 q2 with ⟨h1, F1⟩ | ⟨h1, k1, F1⟩ | ⟨h1, k1, F1⟩
  ·
    rcases fits3 n1 n2 n3 n4 n5 n6 n7 q1 q2 r1 r2 with ⟨h2, F2⟩ | ⟨h2, k2, F2⟩ | ⟨h2, k2, F2⟩
    ·
      obtain ⟨c1, c2, c3, c4, c5, c6, c7, e, T⟩ : ∃ c1 c2 c3 c4 c5 c6 c7 e : Int, ∀ w, Calls Try.prog 22 #[.agg #[(.int .i64 m1), (.int .i64 m2), (.int .i64 m3), (.int .i64 m4), (.int .i64 m5), (.int .i64 m6), (.int .i64 m7)], .agg #[(.int .i64 n1), (.int .i64 n2), (.int .i64 n3), (.int .i64 n4), (.int .i64 n5), (.int .i64 n6), (.int .i64 n7)]] w (Ret w (.tuple #[.agg #[(.int .i64 c1), (.int .i64 c2), (.int .i64 c3), (.int .i64 c4), (.int .i64 c5), (.int .i64 c6), (.int .i64 c7)], (.int .i64 e)])) := ⟨_, _, _, _, _, _, _, _, fun w => Then_c m1 m2 m3 m4 m5 m6 m7 n1 n2 n3 n4 n5 n6 n7 w⟩
      clear h1 h2
      go_enter Try.func6, Try.ntmps6
      go_wp2_with fail
      refine Calls.mono (head_c _) ?_
      rintro e w1 ⟨rfl, hb⟩
      have km0 : w1.cell? ⟨w.heap.size, 0, none⟩ = some (.int .i64 m1) := cell_later hb (by go_simp)
      have km1 : w1.cell? ⟨w.heap.size, 1, none⟩ = some (.int .i64 m2) := cell_later hb (by go_simp)
      have km2 : w1.cell? ⟨w.heap.size, 2, none⟩ = some (.int .i64 m3) := cell_later hb (by go_simp)
      have km3 : w1.cell? ⟨w.heap.size, 3, none⟩ = some (.int .i64 m4) := cell_later hb (by go_simp)
      have km4 : w1.cell? ⟨w.heap.size, 4, none⟩ = some (.int .i64 m5) := cell_later hb (by go_simp)
      have km5 : w1.cell? ⟨w.heap.size, 5, none⟩ = some (.int .i64 m6) := cell_later hb (by go_simp)
      have km6 : w1.cell? ⟨w.heap.size, 6, none⟩ = some (.int .i64 m7) := cell_later hb (by go_simp)
      have kn0 : w1.cell? ⟨w.heap.size + 1, 0, none⟩ = some (.int .i64 n1) := cell_later hb (by go_simp)
      have kn1 : w1.cell? ⟨w.heap.size + 1, 1, none⟩ = some (.int .i64 n2) := cell_later hb (by go_simp)
      have kn2 : w1.cell? ⟨w.heap.size + 1, 2, none⟩ = some (.int .i64 n3) := cell_later hb (by go_simp)
      have kn3 : w1.cell? ⟨w.heap.size + 1, 3, none⟩ = some (.int .i64 n4) := cell_later hb (by go_simp)
      have kn4 : w1.cell? ⟨w.heap.size + 1, 4, none⟩ = some (.int .i64 n5) := cell_later hb (by go_simp)
      have kn5 : w1.cell? ⟨w.heap.size + 1, 5, none⟩ = some (.int .i64 n6) := cell_later hb (by go_simp)
      have kn6 : w1.cell? ⟨w.heap.size + 1, 6, none⟩ = some (.int .i64 n7) := cell_later hb (by go_simp)
      have kp0 : w1.cell? ⟨w.heap.size + 1 + 1, 0, none⟩ = some (.int .i64 p1) := cell_later hb (by go_simp)
      have kp1 : w1.cell? ⟨w.heap.size + 1 + 1, 1, none⟩ = some (.int .i64 p2) := cell_later hb (by go_simp)
      have kq0 : w1.cell? ⟨w.heap.size + 1 + 1 + 1, 0, none⟩ = some (.int .i64 q1) := cell_later hb (by go_simp)
      have kq1 : w1.cell? ⟨w.heap.size + 1 + 1 + 1, 1, none⟩ = some (.int .i64 q2) := cell_later hb (by go_simp)
      have kr0 : w1.cell? ⟨w.heap.size + 1 + 1 + 1 + 1, 0, none⟩ = some (.int .i64 r1) := cell_later hb (by go_simp)
      have kr1 : w1.cell? ⟨w.heap.size + 1 + 1 + 1 + 1, 1, none⟩ = some (.int .i64 r2) := cell_later hb (by go_simp)
      have zm : w.heap.size < w1.heap.size := World.block_lt_of_cell? _ _ km0
      have zm_w1 := zm
      have zn : w.heap.size + 1 < w1.heap.size := World.block_lt_of_cell? _ _ kn0
      have zn_w1 := zn
      have zp : w.heap.size + 1 + 1 < w1.heap.size := World.block_lt_of_cell? _ _ kp0
      have zp_w1 := zp
      have zq : w.heap.size + 1 + 1 + 1 < w1.heap.size := World.block_lt_of_cell? _ _ kq0
      have zq_w1 := zq
      have zr : w.heap.size + 1 + 1 + 1 + 1 < w1.heap.size := World.block_lt_of_cell? _ _ kr0
      have zr_w1 := zr
      have hb0 : Below w.heap.size w w1 := (by repeat (first | with_reducible exact Below.refl _ _ | with_reducible assumption | with_reducible refine Below.setCell ?_ (by first | omega | (simp <;> omega)) _ | with_reducible refine balloc ?_ _ | with_reducible refine Below.drew ?_ | with_reducible refine bstep ?_ (by with_reducible assumption)))
      have hs_w1 := hb.size; (try simp only [World.size_alloc, World.size_setCell] at hs_w1)
      clear hb
      go_wp2_with fail
      refine Calls.mono (F1 _) ?_
      rintro e w2 ⟨rfl, hb⟩
      replace km0 := cell_later hb km0
      replace km1 := cell_later hb km1
      replace km2 := cell_later hb km2
      replace km3 := cell_later hb km3
      replace km4 := cell_later hb km4
      replace km5 := cell_later hb km5
      replace km6 := cell_later hb km6
      replace kn0 := cell_later hb kn0
      replace kn1 := cell_later hb kn1
      replace kn2 := cell_later hb kn2
      replace kn3 := cell_later hb kn3
      replace kn4 := cell_later hb kn4
      replace kn5 := cell_later hb kn5
      replace kn6 := cell_later hb kn6
      replace kp0 := cell_later hb kp0
      replace kp1 := cell_later hb kp1
      replace kq0 := cell_later hb kq0
      replace kq1 := cell_later hb kq1
      replace kr0 := cell_later hb kr0
      replace kr1 := cell_later hb kr1
      replace zm : w.heap.size < w2.heap.size := World.block_lt_of_cell? _ _ km0
      have zm_w2 := zm
      replace zn : w.heap.size + 1 < w2.heap.size := World.block_lt_of_cell? _ _ kn0
      have zn_w2 := zn
      replace zp : w.heap.size + 1 + 1 < w2.heap.size := World.block_lt_of_cell? _ _ kp0
      have zp_w2 := zp
      replace zq : w.heap.size + 1 + 1 + 1 < w2.heap.size := World.block_lt_of_cell? _ _ kq0
      have zq_w2 := zq
      replace zr : w.heap.size + 1 + 1 + 1 + 1 < w2.heap.size := World.block_lt_of_cell? _ _ kr0
      have zr_w2 := zr
      replace hb0 : Below w.heap.size w w2 := (by repeat (first | with_reducible exact Below.refl _ _ | with_reducible assumption | with_reducible refine Below.setCell ?_ (by first | omega | (simp <;> omega)) _ | with_reducible refine balloc ?_ _ | with_reducible refine Below.drew ?_ | with_reducible refine bstep ?_ (by with_reducible assumption)))
      have hs_w2 : w1.heap.size ≤ w2.heap.size := hb.size
      clear hb
      go_wp2_with fail
      refine Calls.mono (F2 _) ?_
      rintro e w3 ⟨rfl, hb⟩
      replace km0 := cell_later hb km0
      replace km1 := cell_later hb km1
      replace km2 := cell_later hb km2
      replace km3 := cell_later hb km3
      replace km4 := cell_later hb km4
      replace km5 := cell_later hb km5
      replace km6 := cell_later hb km6
      replace kn0 := cell_later hb kn0
      replace kn1 := cell_later hb kn1
      replace kn2 := cell_later hb kn2
      replace kn3 := cell_later hb kn3
      replace kn4 := cell_later hb kn4
      replace kn5 := cell_later hb kn5
      replace kn6 := cell_later hb kn6
      replace kp0 := cell_later hb kp0
      replace kp1 := cell_later hb kp1
      replace kq0 := cell_later hb kq0
      replace kq1 := cell_later hb kq1
      replace kr0 := cell_later hb kr0
      replace kr1 := cell_later hb kr1
      replace zm : w.heap.size < w3.heap.size := World.block_lt_of_cell? _ _ km0
      have zm_w3 := zm
      replace zn : w.heap.size + 1 < w3.heap.size := World.block_lt_of_cell? _ _ kn0
      have zn_w3 := zn
      replace zp : w.heap.size + 1 + 1 < w3.heap.size := World.block_lt_of_cell? _ _ kp0
      have zp_w3 := zp
      replace zq : w.heap.size + 1 + 1 + 1 < w3.heap.size := World.block_lt_of_cell? _ _ kq0
      have zq_w3 := zq
      replace zr : w.heap.size + 1 + 1 + 1 + 1 < w3.heap.size := World.block_lt_of_cell? _ _ kr0
      have zr_w3 := zr
      replace hb0 : Below w.heap.size w w3 := (by repeat (first | with_reducible exact Below.refl _ _ | with_reducible assumption | with_reducible refine Below.setCell ?_ (by first | omega | (simp <;> omega)) _ | with_reducible refine balloc ?_ _ | with_reducible refine Below.drew ?_ | with_reducible refine bstep ?_ (by with_reducible assumption)))
      have hs_w3 : w2.heap.size ≤ w3.heap.size := hb.size
      clear hb
      go_wp2_with fail
      refine Calls.mono (T _) ?_
      rintro e w4 ⟨rfl, hb⟩
      replace km0 := cell_later hb km0
      replace km1 := cell_later hb km1
      replace km2 := cell_later hb km2
      replace km3 := cell_later hb km3
      replace km4 := cell_later hb km4
      replace km5 := cell_later hb km5
      replace km6 := cell_later hb km6
      replace kn0 := cell_later hb kn0
      replace kn1 := cell_later hb kn1
      replace kn2 := cell_later hb kn2
      replace kn3 := cell_later hb kn3
      replace kn4 := cell_later hb kn4
      replace kn5 := cell_later hb kn5
      replace kn6 := cell_later hb kn6
      replace kp0 := cell_later hb kp0
      replace kp1 := cell_later hb kp1
      replace kq0 := cell_later hb kq0
      replace kq1 := cell_later hb kq1
      replace kr0 := cell_later hb kr0
      replace kr1 := cell_later hb kr1
      replace zm : w.heap.size < w4.heap.size := World.block_lt_of_cell? _ _ km0
      have zm_w4 := zm
      replace zn : w.heap.size + 1 < w4.heap.size := World.block_lt_of_cell? _ _ kn0
      have zn_w4 := zn
      replace zp : w.heap.size + 1 + 1 < w4.heap.size := World.block_lt_of_cell? _ _ kp0
      have zp_w4 := zp
      replace zq : w.heap.size + 1 + 1 + 1 < w4.heap.size := World.block_lt_of_cell? _ _ kq0
      have zq_w4 := zq
      replace zr : w.heap.size + 1 + 1 + 1 + 1 < w4.heap.size := World.block_lt_of_cell? _ _ kr0
      have zr_w4 := zr
      replace hb0 : Below w.heap.size w w4 := (by repeat (first | with_reducible exact Below.refl _ _ | with_reducible assumption | with_reducible refine Below.setCell ?_ (by first | omega | (simp <;> omega)) _ | with_reducible refine balloc ?_ _ | with_reducible refine Below.drew ?_ | with_reducible refine bstep ?_ (by with_reducible assumption)))
      have hs_w4 : w3.heap.size ≤ w4.heap.size := hb.size
      clear hb
      go_wp2
      all_goals first | (exfalso; omega) | (go_ret; refine ret_bool ?_ (by repeat (first | with_reducible exact Below.refl _ _ | with_reducible assumption | with_reducible refine Below.setCell ?_ (by first | omega | (simp <;> omega)) _ | with_reducible refine balloc ?_ _ | with_reducible refine Below.drew ?_ | with_reducible refine bstep ?_ (by with_reducible assumption))); first | (simp; done) | (simp <;> omega) | (simp [*]; done))
    ·
      obtain ⟨c1, c2, c3, c4, c5, c6, c7, e, T⟩ : ∃ c1 c2 c3 c4 c5 c6 c7 e : Int, ∀ w, Calls Try.prog 22 #[.agg #[(.int .i64 m1), (.int .i64 m2), (.int .i64 m3), (.int .i64 m4), (.int .i64 m5), (.int .i64 m6), (.int .i64 m7)], .agg #[(.int .i64 n1), (.int .i64 n2), (.int .i64 n3), (.int .i64 n4), (.int .i64 n5), (.int .i64 n6), (.int .i64 n7)]] w (Ret w (.tuple #[.agg #[(.int .i64 c1), (.int .i64 c2), (.int .i64 c3), (.int .i64 c4), (.int .i64 c5), (.int .i64 c6), (.int .i64 c7)], (.int .i64 e)])) := ⟨_, _, _, _, _, _, _, _, fun w => Then_c m1 m2 m3 m4 m5 m6 m7 n1 n2 n3 n4 n5 n6 n7 w⟩
      clear h1 h2 k2
      go_enter Try.func6, Try.ntmps6
      go_wp2_with fail
      refine Calls.mono (head_c _) ?_
      rintro e w1 ⟨rfl, hb⟩
      have km0 : w1.cell? ⟨w.heap.size, 0, none⟩ = some (.int .i64 m1) := cell_later hb (by go_simp)
      have km1 : w1.cell? ⟨w.heap.size, 1, none⟩ = some (.int .i64 m2) := cell_later hb (by go_simp)
      have km2 : w1.cell? ⟨w.heap.size, 2, none⟩ = some (.int .i64 m3) := cell_later hb (by go_simp)
      have km3 : w1.cell? ⟨w.heap.size, 3, none⟩ = some (.int .i64 m4) := cell_later hb (by go_simp)
      have km4 : w1.cell? ⟨w.heap.size, 4, none⟩ = some (.int .i64 m5) := cell_later hb (by go_simp)
      have km5 : w1.cell? ⟨w.heap.size, 5, none⟩ = some (.int .i64 m6) := cell_later hb (by go_simp)
      have km6 : w1.cell? ⟨w.heap.size, 6, none⟩ = some (.int .i64 m7) := cell_later hb (by go_simp)
      have kn0 : w1.cell? ⟨w.heap.size + 1, 0, none⟩ = some (.int .i64 n1) := cell_later hb (by go_simp)
      have kn1 : w1.cell? ⟨w.heap.size + 1, 1, none⟩ = some (.int .i64 n2) := cell_later hb (by go_simp)
      have kn2 : w1.cell? ⟨w.heap.size + 1, 2, none⟩ = some (.int .i64 n3) := cell_later hb (by go_simp)
      have kn3 : w1.cell? ⟨w.heap.size + 1, 3, none⟩ = some (.int .i64 n4) := cell_later hb (by go_simp)
      have kn4 : w1.cell? ⟨w.heap.size + 1, 4, none⟩ = some (.int .i64 n5) := cell_later hb (by go_simp)
      have kn5 : w1.cell? ⟨w.heap.size + 1, 5, none⟩ = some (.int .i64 n6) := cell_later hb (by go_simp)
      have kn6 : w1.cell? ⟨w.heap.size + 1, 6, none⟩ = some (.int .i64 n7) := cell_later hb (by go_simp)
      have kp0 : w1.cell? ⟨w.heap.size + 1 + 1, 0, none⟩ = some (.int .i64 p1) := cell_later hb (by go_simp)
      have kp1 : w1.cell? ⟨w.heap.size + 1 + 1, 1, none⟩ = some (.int .i64 p2) := cell_later hb (by go_simp)
      have kq0 : w1.cell? ⟨w.heap.size + 1 + 1 + 1, 0, none⟩ = some (.int .i64 q1) := cell_later hb (by go_simp)
      have kq1 : w1.cell? ⟨w.heap.size + 1 + 1 + 1, 1, none⟩ = some (.int .i64 q2) := cell_later hb (by go_simp)
      have kr0 : w1.cell? ⟨w.heap.size + 1 + 1 + 1 + 1, 0, none⟩ = some (.int .i64 r1) := cell_later hb (by go_simp)
      have kr1 : w1.cell? ⟨w.heap.size + 1 + 1 + 1 + 1, 1, none⟩ = some (.int .i64 r2) := cell_later hb (by go_simp)
      have zm : w.heap.size < w1.heap.size := World.block_lt_of_cell? _ _ km0
      have zm_w1 := zm
      have zn : w.heap.size + 1 < w1.heap.size := World.block_lt_of_cell? _ _ kn0
      have zn_w1 := zn
      have zp : w.heap.size + 1 + 1 < w1.heap.size := World.block_lt_of_cell? _ _ kp0
      have zp_w1 := zp
      have zq : w.heap.size + 1 + 1 + 1 < w1.heap.size := World.block_lt_of_cell? _ _ kq0
      have zq_w1 := zq
      have zr : w.heap.size + 1 + 1 + 1 + 1 < w1.heap.size := World.block_lt_of_cell? _ _ kr0
      have zr_w1 := zr
      have hb0 : Below w.heap.size w w1 := (by repeat (first | with_reducible exact Below.refl _ _ | with_reducible assumption | with_reducible refine Below.setCell ?_ (by first | omega | (simp <;> omega)) _ | with_reducible refine balloc ?_ _ | with_reducible refine Below.drew ?_ | with_reducible refine bstep ?_ (by with_reducible assumption)))
      have hs_w1 := hb.size; (try simp only [World.size_alloc, World.size_setCell] at hs_w1)
      clear hb
      go_wp2_with fail
      refine Calls.mono (F1 _) ?_
      rintro e w2 ⟨rfl, hb⟩
      replace km0 := cell_later hb km0
      replace km1 := cell_later hb km1
      replace km2 := cell_later hb km2
      replace km3 := cell_later hb km3
      replace km4 := cell_later hb km4
      replace km5 := cell_later hb km5
      replace km6 := cell_later hb km6
      replace kn0 := cell_later hb kn0
      replace kn1 := cell_later hb kn1
      replace kn2 := cell_later hb kn2
      replace kn3 := cell_later hb kn3
      replace kn4 := cell_later hb kn4
      replace kn5 := cell_later hb kn5
      replace kn6 := cell_later hb kn6
      replace kp0 := cell_later hb kp0
      replace kp1 := cell_later hb kp1
      replace kq0 := cell_later hb kq0
      replace kq1 := cell_later hb kq1
      replace kr0 := cell_later hb kr0
      replace kr1 := cell_later hb kr1
      replace zm : w.heap.size < w2.heap.size := World.block_lt_of_cell? _ _ km0
      have zm_w2 := zm
      replace zn : w.heap.size + 1 < w2.heap.size := World.block_lt_of_cell? _ _ kn0
      have zn_w2 := zn
      replace zp : w.heap.size + 1 + 1 < w2.heap.size := World.block_lt_of_cell? _ _ kp0
      have zp_w2 := zp
      replace zq : w.heap.size + 1 + 1 + 1 < w2.heap.size := World.block_lt_of_cell? _ _ kq0
      have zq_w2 := zq
      replace zr : w.heap.size + 1 + 1 + 1 + 1 < w2.heap.size := World.block_lt_of_cell? _ _ kr0
      have zr_w2 := zr
      replace hb0 : Below w.heap.size w w2 := (by repeat (first | with_reducible exact Below.refl _ _ | with_reducible assumption | with_reducible refine Below.setCell ?_ (by first | omega | (simp <;> omega)) _ | with_reducible refine balloc ?_ _ | with_reducible refine Below.drew ?_ | with_reducible refine bstep ?_ (by with_reducible assumption)))
      have hs_w2 : w1.heap.size ≤ w2.heap.size := hb.size
      clear hb
      go_wp2_with fail
      refine Calls.mono (F2 _) ?_
      rintro e w3 ⟨rfl, hb⟩
      replace km0 := cell_later hb km0
      replace km1 := cell_later hb km1
      replace km2 := cell_later hb km2
      replace km3 := cell_later hb km3
      replace km4 := cell_later hb km4
      replace km5 := cell_later hb km5
      replace km6 := cell_later hb km6
      replace kn0 := cell_later hb kn0
      replace kn1 := cell_later hb kn1
      replace kn2 := cell_later hb kn2
      replace kn3 := cell_later hb kn3
      replace kn4 := cell_later hb kn4
      replace kn5 := cell_later hb kn5
      replace kn6 := cell_later hb kn6
      replace kp0 := cell_later hb kp0
      replace kp1 := cell_later hb kp1
      replace kq0 := cell_later hb kq0
      replace kq1 := cell_later hb kq1
      replace kr0 := cell_later hb kr0
      replace kr1 := cell_later hb kr1
      replace zm : w.heap.size < w3.heap.size := World.block_lt_of_cell? _ _ km0
      have zm_w3 := zm
      replace zn : w.heap.size + 1 < w3.heap.size := World.block_lt_of_cell? _ _ kn0
      have zn_w3 := zn
      replace zp : w.heap.size + 1 + 1 < w3.heap.size := World.block_lt_of_cell? _ _ kp0
      have zp_w3 := zp
      replace zq : w.heap.size + 1 + 1 + 1 < w3.heap.size := World.block_lt_of_cell? _ _ kq0
      have zq_w3 := zq
      replace zr : w.heap.size + 1 + 1 + 1 + 1 < w3.heap.size := World.block_lt_of_cell? _ _ kr0
      have zr_w3 := zr
      replace hb0 : Below w.heap.size w w3 := (by repeat (first | with_reducible exact Below.refl _ _ | with_reducible assumption | with_reducible refine Below.setCell ?_ (by first | omega | (simp <;> omega)) _ | with_reducible refine balloc ?_ _ | with_reducible refine Below.drew ?_ | with_reducible refine bstep ?_ (by with_reducible assumption)))
      have hs_w3 : w2.heap.size ≤ w3.heap.size := hb.size
      clear hb
      go_wp2_with fail
      refine Calls.mono (T _) ?_
      rintro e w4 ⟨rfl, hb⟩
      replace km0 := cell_later hb km0
      replace km1 := cell_later hb km1
      replace km2 := cell_later hb km2
      replace km3 := cell_later hb km3
      replace km4 := cell_later hb km4
      replace km5 := cell_later hb km5
      replace km6 := cell_later hb km6
      replace kn0 := cell_later hb kn0
      replace kn1 := cell_later hb kn1
      replace kn2 := cell_later hb kn2
      replace kn3 := cell_later hb kn3
      replace kn4 := cell_later hb kn4
      replace kn5 := cell_later hb kn5
      replace kn6 := cell_later hb kn6
      replace kp0 := cell_later hb kp0
      replace kp1 := cell_later hb kp1
      replace kq0 := cell_later hb kq0
      replace kq1 := cell_later hb kq1
      replace kr0 := cell_later hb kr0
      replace kr1 := cell_later hb kr1
      replace zm : w.heap.size < w4.heap.size := World.block_lt_of_cell? _ _ km0
      have zm_w4 := zm
      replace zn : w.heap.size + 1 < w4.heap.size := World.block_lt_of_cell? _ _ kn0
      have zn_w4 := zn
      replace zp : w.heap.size + 1 + 1 < w4.heap.size := World.block_lt_of_cell? _ _ kp0
      have zp_w4 := zp
      replace zq : w.heap.size + 1 + 1 + 1 < w4.heap.size := World.block_lt_of_cell? _ _ kq0
      have zq_w4 := zq
      replace zr : w.heap.size + 1 + 1 + 1 + 1 < w4.heap.size := World.block_lt_of_cell? _ _ kr0
      have zr_w4 := zr
      replace hb0 : Below w.heap.size w w4 := (by repeat (first | with_reducible exact Below.refl _ _ | with_reducible assumption | with_reducible refine Below.setCell ?_ (by first | omega | (simp <;> omega)) _ | with_reducible refine balloc ?_ _ | with_reducible refine Below.drew ?_ | with_reducible refine bstep ?_ (by with_reducible assumption)))
      have hs_w4 : w3.heap.size ≤ w4.heap.size := hb.size
      clear hb
      go_wp2
      all_goals first | (exfalso; omega) | (go_ret; refine ret_bool ?_ (by repeat (first | with_reducible exact Below.refl _ _ | with_reducible assumption | with_reducible refine Below.setCell ?_ (by first | omega | (simp <;> omega)) _ | with_reducible refine balloc ?_ _ | with_reducible refine Below.drew ?_ | with_reducible refine bstep ?_ (by with_reducible assumption))); first | (simp; done) | (simp <;> omega) | (simp [*]; done))
    ·
      obtain ⟨c1, c2, c3, c4, c5, c6, c7, e, T⟩ : ∃ c1 c2 c3 c4 c5 c6 c7 e : Int, ∀ w, Calls Try.prog 22 #[.agg #[(.int .i64 m1), (.int .i64 m2), (.int .i64 m3), (.int .i64 m4), (.int .i64 m5), (.int .i64 m6), (.int .i64 m7)], .agg #[(.int .i64 n1), (.int .i64 n2), (.int .i64 n3), (.int .i64 n4), (.int .i64 n5), (.int .i64 n6), (.int .i64 n7)]] w (Ret w (.tuple #[.agg #[(.int .i64 c1), (.int .i64 c2), (.int .i64 c3), (.int .i64 c4), (.int .i64 c5), (.int .i64 c6), (.int .i64 c7)], (.int .i64 e)])) := ⟨_, _, _, _, _, _, _, _, fun w => Then_c m1 m2 m3 m4 m5 m6 m7 n1 n2 n3 n4 n5 n6 n7 w⟩
      clear h1 h2 k2
      go_enter Try.func6, Try.ntmps6
      go_wp2_with fail
      refine Calls.mono (head_c _) ?_
      rintro e w1 ⟨rfl, hb⟩
      have km0 : w1.cell? ⟨w.heap.size, 0, none⟩ = some (.int .i64 m1) := cell_later hb (by go_simp)
      have km1 : w1.cell? ⟨w.heap.size, 1, none⟩ = some (.int .i64 m2) := cell_later hb (by go_simp)
      have km2 : w1.cell? ⟨w.heap.size, 2, none⟩ = some (.int .i64 m3) := cell_later hb (by go_simp)
      have km3 : w1.cell? ⟨w.heap.size, 3, none⟩ = some (.int .i64 m4) := cell_later hb (by go_simp)
      have km4 : w1.cell? ⟨w.heap.size, 4, none⟩ = some (.int .i64 m5) := cell_later hb (by go_simp)
      have km5 : w1.cell? ⟨w.heap.size, 5, none⟩ = some (.int .i64 m6) := cell_later hb (by go_simp)
      have km6 : w1.cell? ⟨w.heap.size, 6, none⟩ = some (.int .i64 m7) := cell_later hb (by go_simp)
      have kn0 : w1.cell? ⟨w.heap.size + 1, 0, none⟩ = some (.int .i64 n1) := cell_later hb (by go_simp)
      have kn1 : w1.cell? ⟨w.heap.size + 1, 1, none⟩ = some (.int .i64 n2) := cell_later hb (by go_simp)
      have kn2 : w1.cell? ⟨w.heap.size + 1, 2, none⟩ = some (.int .i64 n3) := cell_later hb (by go_simp)
      have kn3 : w1.cell? ⟨w.heap.size + 1, 3, none⟩ = some (.int .i64 n4) := cell_later hb (by go_simp)
      have kn4 : w1.cell? ⟨w.heap.size + 1, 4, none⟩ = some (.int .i64 n5) := cell_later hb (by go_simp)
      have kn5 : w1.cell? ⟨w.heap.size + 1, 5, none⟩ = some (.int .i64 n6) := cell_later hb (by go_simp)
      have kn6 : w1.cell? ⟨w.heap.size + 1, 6, none⟩ = some (.int .i64 n7) := cell_later hb (by go_simp)
      have kp0 : w1.cell? ⟨w.heap.size + 1 + 1, 0, none⟩ = some (.int .i64 p1) := cell_later hb (by go_simp)
      have kp1 : w1.cell? ⟨w.heap.size + 1 + 1, 1, none⟩ = some (.int .i64 p2) := cell_later hb (by go_simp)
      have kq0 : w1.cell? ⟨w.heap.size + 1 + 1 + 1, 0, none⟩ = some (.int .i64 q1) := cell_later hb (by go_simp)
      have kq1 : w1.cell? ⟨w.heap.size + 1 + 1 + 1, 1, none⟩ = some (.int .i64 q2) := cell_later hb (by go_simp)
      have kr0 : w1.cell? ⟨w.heap.size + 1 + 1 + 1 + 1, 0, none⟩ = some (.int .i64 r1) := cell_later hb (by go_simp)
      have kr1 : w1.cell? ⟨w.heap.size + 1 + 1 + 1 + 1, 1, none⟩ = some (.int .i64 r2) := cell_later hb (by go_simp)
      have zm : w.heap.size < w1.heap.size := World.block_lt_of_cell? _ _ km0
      have zm_w1 := zm
      have zn : w.heap.size + 1 < w1.heap.size := World.block_lt_of_cell? _ _ kn0
      have zn_w1 := zn
      have zp : w.heap.size + 1 + 1 < w1.heap.size := World.block_lt_of_cell? _ _ kp0
      have zp_w1 := zp
      have zq : w.heap.size + 1 + 1 + 1 < w1.heap.size := World.block_lt_of_cell? _ _ kq0
      have zq_w1 := zq
      have zr : w.heap.size + 1 + 1 + 1 + 1 < w1.heap.size := World.block_lt_of_cell? _ _ kr0
      have zr_w1 := zr
      have hb0 : Below w.heap.size w w1 := (by repeat (first | with_reducible exact Below.refl _ _ | with_reducible assumption | with_reducible refine Below.setCell ?_ (by first | omega | (simp <;> omega)) _ | with_reducible refine balloc ?_ _ | with_reducible refine Below.drew ?_ | with_reducible refine bstep ?_ (by with_reducible assumption)))
      have hs_w1 := hb.size; (try simp only [World.size_alloc, World.size_setCell] at hs_w1)
      clear hb
      go_wp2_with fail
      refine Calls.mono (F1 _) ?_
      rintro e w2 ⟨rfl, hb⟩
      replace km0 := cell_later hb km0
      replace km1 := cell_later hb km1
      replace km2 := cell_later hb km2
      replace km3 := cell_later hb km3
      replace km4 := cell_later hb km4
      replace km5 := cell_later hb km5
      replace km6 := cell_later hb km6
      replace kn0 := cell_later hb kn0
      replace kn1 := cell_later hb kn1
      replace kn2 := cell_later hb kn2
      replace kn3 := cell_later hb kn3
      replace kn4 := cell_later hb kn4
      replace kn5 := cell_later hb kn5
      replace kn6 := cell_later hb kn6
      replace kp0 := cell_later hb kp0
      replace kp1 := cell_later hb kp1
      replace kq0 := cell_later hb kq0
      replace kq1 := cell_later hb kq1
      replace kr0 := cell_later hb kr0
      replace kr1 := cell_later hb kr1
      replace zm : w.heap.size < w2.heap.size := World.block_lt_of_cell? _ _ km0
      have zm_w2 := zm
      replace zn : w.heap.size + 1 < w2.heap.size := World.block_lt_of_cell? _ _ kn0
      have zn_w2 := zn
      replace zp : w.heap.size + 1 + 1 < w2.heap.size := World.block_lt_of_cell? _ _ kp0
      have zp_w2 := zp
      replace zq : w.heap.size + 1 + 1 + 1 < w2.heap.size := World.block_lt_of_cell? _ _ kq0
      have zq_w2 := zq
      replace zr : w.heap.size + 1 + 1 + 1 + 1 < w2.heap.size := World.block_lt_of_cell? _ _ kr0
      have zr_w2 := zr
      replace hb0 : Below w.heap.size w w2 := (by repeat (first | with_reducible exact Below.refl _ _ | with_reducible assumption | with_reducible refine Below.setCell ?_ (by first | omega | (simp <;> omega)) _ | with_reducible refine balloc ?_ _ | with_reducible refine Below.drew ?_ | with_reducible refine bstep ?_ (by with_reducible assumption)))
      have hs_w2 : w1.heap.size ≤ w2.heap.size := hb.size
      clear hb
      go_wp2_with fail
      refine Calls.mono (F2 _) ?_
      rintro e w3 ⟨rfl, hb⟩
      replace km0 := cell_later hb km0
      replace km1 := cell_later hb km1
      replace km2 := cell_later hb km2
      replace km3 := cell_later hb km3
      replace km4 := cell_later hb km4
      replace km5 := cell_later hb km5
      replace km6 := cell_later hb km6
      replace kn0 := cell_later hb kn0
      replace kn1 := cell_later hb kn1
      replace kn2 := cell_later hb kn2
      replace kn3 := cell_later hb kn3
      replace kn4 := cell_later hb kn4
      replace kn5 := cell_later hb kn5
      replace kn6 := cell_later hb kn6
      replace kp0 := cell_later hb kp0
      replace kp1 := cell_later hb kp1
      replace kq0 := cell_later hb kq0
      replace kq1 := cell_later hb kq1
      replace kr0 := cell_later hb kr0
      replace kr1 := cell_later hb kr1
      replace zm : w.heap.size < w3.heap.size := World.block_lt_of_cell? _ _ km0
      have zm_w3 := zm
      replace zn : w.heap.size + 1 < w3.heap.size := World.block_lt_of_cell? _ _ kn0
      have zn_w3 := zn
      replace zp : w.heap.size + 1 + 1 < w3.heap.size := World.block_lt_of_cell? _ _ kp0
      have zp_w3 := zp
      replace zq : w.heap.size + 1 + 1 + 1 < w3.heap.size := World.block_lt_of_cell? _ _ kq0
      have zq_w3 := zq
      replace zr : w.heap.size + 1 + 1 + 1 + 1 < w3.heap.size := World.block_lt_of_cell? _ _ kr0
      have zr_w3 := zr
      replace hb0 : Below w.heap.size w w3 := (by repeat (first | with_reducible exact Below.refl _ _ | with_reducible assumption | with_reducible refine Below.setCell ?_ (by first | omega | (simp <;> omega)) _ | with_reducible refine balloc ?_ _ | with_reducible refine Below.drew ?_ | with_reducible refine bstep ?_ (by with_reducible assumption)))
      have hs_w3 : w2.heap.size ≤ w3.heap.size := hb.size
      clear hb
      go_wp2_with fail
      refine Calls.mono (T _) ?_
      rintro e w4 ⟨rfl, hb⟩
      replace km0 := cell_later hb km0
      replace km1 := cell_later hb km1
      replace km2 := cell_later hb km2
      replace km3 := cell_later hb km3
      replace km4 := cell_later hb km4
      replace km5 := cell_later hb km5
      replace km6 := cell_later hb km6
      replace kn0 := cell_later hb kn0
      replace kn1 := cell_later hb kn1
      replace kn2 := cell_later hb kn2
      replace kn3 := cell_later hb kn3
      replace kn4 := cell_later hb kn4
      replace kn5 := cell_later hb kn5
      replace kn6 := cell_later hb kn6
      replace kp0 := cell_later hb kp0
      replace kp1 := cell_later hb kp1
      replace kq0 := cell_later hb kq0
      replace kq1 := cell_later hb kq1
      replace kr0 := cell_later hb kr0
      replace kr1 := cell_later hb kr1
      replace zm : w.heap.size < w4.heap.size := World.block_lt_of_cell? _ _ km0
      have zm_w4 := zm
      replace zn : w.heap.size + 1 < w4.heap.size := World.block_lt_of_cell? _ _ kn0
      have zn_w4 := zn
      replace zp : w.heap.size + 1 + 1 < w4.heap.size := World.block_lt_of_cell? _ _ kp0
      have zp_w4 := zp
      replace zq : w.heap.size + 1 + 1 + 1 < w4.heap.size := World.block_lt_of_cell? _ _ kq0
      have zq_w4 := zq
      replace zr : w.heap.size + 1 + 1 + 1 + 1 < w4.heap.size := World.block_lt_of_cell? _ _ kr0
      have zr_w4 := zr
      replace hb0 : Below w.heap.size w w4 := (by repeat (first | with_reducible exact Below.refl _ _ | with_reducible assumption | with_reducible refine Below.setCell ?_ (by first | omega | (simp <;> omega)) _ | with_reducible refine balloc ?_ _ | with_reducible refine Below.drew ?_ | with_reducible refine bstep ?_ (by with_reducible assumption)))
      have hs_w4 : w3.heap.size ≤ w4.heap.size := hb.size
      clear hb
      go_wp2
      all_goals first | (exfalso; omega) | (go_ret; refine ret_bool ?_ (by repeat (first | with_reducible exact Below.refl _ _ | with_reducible assumption | with_reducible refine Below.setCell ?_ (by first | omega | (simp <;> omega)) _ | with_reducible refine balloc ?_ _ | with_reducible refine Below.drew ?_ | with_reducible refine bstep ?_ (by with_reducible assumption))); first | (simp; done) | (simp <;> omega) | (simp [*]; done))
  ·
    rcases fits3 n1 n2 n3 n4 n5 n6 n7 q1 q2 r1 r2 with ⟨h2, F2⟩ | ⟨h2, k2, F2⟩ | ⟨h2, k2, F2⟩
    ·
      obtain ⟨c1, c2, c3, c4, c5, c6, c7, e, T⟩ : ∃ c1 c2 c3 c4 c5 c6 c7 e : Int, ∀ w, Calls Try.prog 22 #[.agg #[(.int .i64 m1), (.int .i64 m2), (.int .i64 m3), (.int .i64 m4), (.int .i64 m5), (.int .i64 m6), (.int .i64 m7)], .agg #[(.int .i64 n1), (.int .i64 n2), (.int .i64 n3), (.int .i64 n4), (.int .i64 n5), (.int .i64 n6), (.int .i64 n7)]] w (Ret w (.tuple #[.agg #[(.int .i64 c1), (.int .i64 c2), (.int .i64 c3), (.int .i64 c4), (.int .i64 c5), (.int .i64 c6), (.int .i64 c7)], (.int .i64 e)])) := ⟨_, _, _, _, _, _, _, _, fun w => Then_c m1 m2 m3 m4 m5 m6 m7 n1 n2 n3 n4 n5 n6 n7 w⟩
      clear h1 h2 k1
      go_enter Try.func6, Try.ntmps6
      go_wp2_with fail
      refine Calls.mono (head_c _) ?_
      rintro e w1 ⟨rfl, hb⟩
      have km0 : w1.cell? ⟨w.heap.size, 0, none⟩ = some (.int .i64 m1) := cell_later hb (by go_simp)
      have km1 : w1.cell? ⟨w.heap.size, 1, none⟩ = some (.int .i64 m2) := cell_later hb (by go_simp)
      have km2 : w1.cell? ⟨w.heap.size, 2, none⟩ = some (.int .i64 m3) := cell_later hb (by go_simp)
      have km3 : w1.cell? ⟨w.heap.size, 3, none⟩ = some (.int .i64 m4) := cell_later hb (by go_simp)
      have km4 : w1.cell? ⟨w.heap.size, 4, none⟩ = some (.int .i64 m5) := cell_later hb (by go_simp)
      have km5 : w1.cell? ⟨w.heap.size, 5, none⟩ = some (.int .i64 m6) := cell_later hb (by go_simp)
      have km6 : w1.cell? ⟨w.heap.size, 6, none⟩ = some (.int .i64 m7) := cell_later hb (by go_simp)
      have kn0 : w1.cell? ⟨w.heap.size + 1, 0, none⟩ = some (.int .i64 n1) := cell_later hb (by go_simp)
      have kn1 : w1.cell? ⟨w.heap.size + 1, 1, none⟩ = some (.int .i64 n2) := cell_later hb (by go_simp)
      have kn2 : w1.cell? ⟨w.heap.size + 1, 2, none⟩ = some (.int .i64 n3) := cell_later hb (by go_simp)
      have kn3 : w1.cell? ⟨w.heap.size + 1, 3, none⟩ = some (.int .i64 n4) := cell_later hb (by go_simp)
      have kn4 : w1.cell? ⟨w.heap.size + 1, 4, none⟩ = some (.int .i64 n5) := cell_later hb (by go_simp)
      have kn5 : w1.cell? ⟨w.heap.size + 1, 5, none⟩ = some (.int .i64 n6) := cell_later hb (by go_simp)
      have kn6 : w1.cell? ⟨w.heap.size + 1, 6, none⟩ = some (.int .i64 n7) := cell_later hb (by go_simp)
      have kp0 : w1.cell? ⟨w.heap.size + 1 + 1, 0, none⟩ = some (.int .i64 p1) := cell_later hb (by go_simp)
      have kp1 : w1.cell? ⟨w.heap.size + 1 + 1, 1, none⟩ = some (.int .i64 p2) := cell_later hb (by go_simp)
      have kq0 : w1.cell? ⟨w.heap.size + 1 + 1 + 1, 0, none⟩ = some (.int .i64 q1) := cell_later hb (by go_simp)
      have kq1 : w1.cell? ⟨w.heap.size + 1 + 1 + 1, 1, none⟩ = some (.int .i64 q2) := cell_later hb (by go_simp)
      have kr0 : w1.cell? ⟨w.heap.size + 1 + 1 + 1 + 1, 0, none⟩ = some (.int .i64 r1) := cell_later hb (by go_simp)
      have kr1 : w1.cell? ⟨w.heap.size + 1 + 1 + 1 + 1, 1, none⟩ = some (.int .i64 r2) := cell_later hb (by go_simp)
      have zm : w.heap.size < w1.heap.size := World.block_lt_of_cell? _ _ km0
      have zm_w1 := zm
      have zn : w.heap.size + 1 < w1.heap.size := World.block_lt_of_cell? _ _ kn0
      have zn_w1 := zn
      have zp : w.heap.size + 1 + 1 < w1.heap.size := World.block_lt_of_cell? _ _ kp0
      have zp_w1 := zp
      have zq : w.heap.size + 1 + 1 + 1 < w1.heap.size := World.block_lt_of_cell? _ _ kq0
      have zq_w1 := zq
      have zr : w.heap.size + 1 + 1 + 1 + 1 < w1.heap.size := World.block_lt_of_cell? _ _ kr0
      have zr_w1 := zr
      have hb0 : Below w.heap.size w w1 := (by repeat (first | with_reducible exact Below.refl _ _ | with_reducible assumption | with_reducible refine Below.setCell ?_ (by first | omega | (simp <;> omega)) _ | with_reducible refine balloc ?_ _ | with_reducible refine Below.drew ?_ | with_reducible refine bstep ?_ (by with_reducible assumption)))
      have hs_w1 := hb.size; (try simp only [World.size_alloc, World.size_setCell] at hs_w1)
      clear hb
      go_wp2_with fail
      refine Calls.mono (F1 _) ?_
      rintro e w2 ⟨rfl, hb⟩
      replace km0 := cell_later hb km0
      replace km1 := cell_later hb km1
      replace km2 := cell_later hb km2
      replace km3 := cell_later hb km3
      replace km4 := cell_later hb km4
      replace km5 := cell_later hb km5
      replace km6 := cell_later hb km6
      replace kn0 := cell_later hb kn0
      replace kn1 := cell_later hb kn1
      replace kn2 := cell_later hb kn2
      replace kn3 := cell_later hb kn3
      replace kn4 := cell_later hb kn4
      replace kn5 := cell_later hb kn5
      replace kn6 := cell_later hb kn6
      replace kp0 := cell_later hb kp0
      replace kp1 := cell_later hb kp1
      replace kq0 := cell_later hb kq0
      replace kq1 := cell_later hb kq1
      replace kr0 := cell_later hb kr0
      replace kr1 := cell_later hb kr1
      replace zm : w.heap.size < w2.heap.size := World.block_lt_of_cell? _ _ km0
      have zm_w2 := zm
      replace zn : w.heap.size + 1 < w2.heap.size := World.block_lt_of_cell? _ _ kn0
      have zn_w2 := zn
      replace zp : w.heap.size + 1 + 1 < w2.heap.size := World.block_lt_of_cell? _ _ kp0
      have zp_w2 := zp
      replace zq : w.heap.size + 1 + 1 + 1 < w2.heap.size := World.block_lt_of_cell? _ _ kq0
      have zq_w2 := zq
      replace zr : w.heap.size + 1 + 1 + 1 + 1 < w2.heap.size := World.block_lt_of_cell? _ _ kr0
      have zr_w2 := zr
      replace hb0 : Below w.heap.size w w2 := (by repeat (first | with_reducible exact Below.refl _ _ | with_reducible assumption | with_reducible refine Below.setCell ?_ (by first | omega | (simp <;> omega)) _ | with_reducible refine balloc ?_ _ | with_reducible refine Below.drew ?_ | with_reducible refine bstep ?_ (by with_reducible assumption)))
      have hs_w2 : w1.heap.size ≤ w2.heap.size := hb.size
      clear hb
      go_wp2_with fail
      refine Calls.mono (F2 _) ?_
      rintro e w3 ⟨rfl, hb⟩
      replace km0 := cell_later hb km0
      replace km1 := cell_later hb km1
      replace km2 := cell_later hb km2
      replace km3 := cell_later hb km3
      replace km4 := cell_later hb km4
      replace km5 := cell_later hb km5
      replace km6 := cell_later hb km6
      replace kn0 := cell_later hb kn0
      replace kn1 := cell_later hb kn1
      replace kn2 := cell_later hb kn2
      replace kn3 := cell_later hb kn3
      replace kn4 := cell_later hb kn4
      replace kn5 := cell_later hb kn5
      replace kn6 := cell_later hb kn6
      replace kp0 := cell_later hb kp0
      replace kp1 := cell_later hb kp1
      replace kq0 := cell_later hb kq0
      replace kq1 := cell_later hb kq1
      replace kr0 := cell_later hb kr0
      replace kr1 := cell_later hb kr1
      replace zm : w.heap.size < w3.heap.size := World.block_lt_of_cell? _ _ km0
      have zm_w3 := zm
      replace zn : w.heap.size + 1 < w3.heap.size := World.block_lt_of_cell? _ _ kn0
      have zn_w3 := zn
      replace zp : w.heap.size + 1 + 1 < w3.heap.size := World.block_lt_of_cell? _ _ kp0
      have zp_w3 := zp
      replace zq : w.heap.size + 1 + 1 + 1 < w3.heap.size := World.block_lt_of_cell? _ _ kq0
      have zq_w3 := zq
      replace zr : w.heap.size + 1 + 1 + 1 + 1 < w3.heap.size := World.block_lt_of_cell? _ _ kr0
      have zr_w3 := zr
      replace hb0 : Below w.heap.size w w3 := (by repeat (first | with_reducible exact Below.refl _ _ | with_reducible assumption | with_reducible refine Below.setCell ?_ (by first | omega | (simp <;> omega)) _ | with_reducible refine balloc ?_ _ | with_reducible refine Below.drew ?_ | with_reducible refine bstep ?_ (by with_reducible assumption)))
      have hs_w3 : w2.heap.size ≤ w3.heap.size := hb.size
      clear hb
      go_wp2_with fail
      refine Calls.mono (T _) ?_
      rintro e w4 ⟨rfl, hb⟩
      replace km0 := cell_later hb km0
      replace km1 := cell_later hb km1
      replace km2 := cell_later hb km2
      replace km3 := cell_later hb km3
      replace km4 := cell_later hb km4
      replace km5 := cell_later hb km5
      replace km6 := cell_later hb km6
      replace kn0 := cell_later hb kn0
      replace kn1 := cell_later hb kn1
      replace kn2 := cell_later hb kn2
      replace kn3 := cell_later hb kn3
      replace kn4 := cell_later hb kn4
      replace kn5 := cell_later hb kn5
      replace kn6 := cell_later hb kn6
      replace kp0 := cell_later hb kp0
      replace kp1 := cell_later hb kp1
      replace kq0 := cell_later hb kq0
      replace kq1 := cell_later hb kq1
      replace kr0 := cell_later hb kr0
      replace kr1 := cell_later hb kr1
      replace zm : w.heap.size < w4.heap.size := World.block_lt_of_cell? _ _ km0
      have zm_w4 := zm
      replace zn : w.heap.size + 1 < w4.heap.size := World.block_lt_of_cell? _ _ kn0
      have zn_w4 := zn
      replace zp : w.heap.size + 1 + 1 < w4.heap.size := World.block_lt_of_cell? _ _ kp0
      have zp_w4 := zp
      replace zq : w.heap.size + 1 + 1 + 1 < w4.heap.size := World.block_lt_of_cell? _ _ kq0
      have zq_w4 := zq
      replace zr : w.heap.size + 1 + 1 + 1 + 1 < w4.heap.size := World.block_lt_of_cell? _ _ kr0
      have zr_w4 := zr
      replace hb0 : Below w.heap.size w w4 := (by repeat (first | with_reducible exact Below.refl _ _ | with_reducible assumption | with_reducible refine Below.setCell ?_ (by first | omega | (simp <;> omega)) _ | with_reducible refine balloc ?_ _ | with_reducible refine Below.drew ?_ | with_reducible refine bstep ?_ (by with_reducible assumption)))
      have hs_w4 : w3.heap.size ≤ w4.heap.size := hb.size
      clear hb
      go_wp2
      all_goals first | (exfalso; omega) | (go_ret; refine ret_bool ?_ (by repeat (first | with_reducible exact Below.refl _ _ | with_reducible assumption | with_reducible refine Below.setCell ?_ (by first | omega | (simp <;> omega)) _ | with_reducible refine balloc ?_ _ | with_reducible refine Below.drew ?_ | with_reducible refine bstep ?_ (by with_reducible assumption))); first | (simp; done) | (simp <;> omega) | (simp [*]; done))
    ·
      obtain ⟨c1, c2, c3, c4, c5, c6, c7, e, T⟩ : ∃ c1 c2 c3 c4 c5 c6 c7 e : Int, ∀ w, Calls Try.prog 22 #[.agg #[(.int .i64 m1), (.int .i64 m2), (.int .i64 m3), (.int .i64 m4), (.int .i64 m5), (.int .i64 m6), (.int .i64 m7)], .agg #[(.int .i64 n1), (.int .i64 n2), (.int .i64 n3), (.int .i64 n4), (.int .i64 n5), (.int .i64 n6), (.int .i64 n7)]] w (Ret w (.tuple #[.agg #[(.int .i64 c1), (.int .i64 c2), (.int .i64 c3), (.int .i64 c4), (.int .i64 c5), (.int .i64 c6), (.int .i64 c7)], (.int .i64 e)])) := ⟨_, _, _, _, _, _, _, _, fun w => Then_c m1 m2 m3 m4 m5 m6 m7 n1 n2 n3 n4 n5 n6 n7 w⟩
      clear h1 h2 k1 k2
      go_enter Try.func6, Try.ntmps6
      go_wp2_with fail
      refine Calls.mono (head_c _) ?_
      rintro e w1 ⟨rfl, hb⟩
      have km0 : w1.cell? ⟨w.heap.size, 0, none⟩ = some (.int .i64 m1) := cell_later hb (by go_simp)
      have km1 : w1.cell? ⟨w.heap.size, 1, none⟩ = some (.int .i64 m2) := cell_later hb (by go_simp)
      have km2 : w1.cell? ⟨w.heap.size, 2, none⟩ = some (.int .i64 m3) := cell_later hb (by go_simp)
      have km3 : w1.cell? ⟨w.heap.size, 3, none⟩ = some (.int .i64 m4) := cell_later hb (by go_simp)
      have km4 : w1.cell? ⟨w.heap.size, 4, none⟩ = some (.int .i64 m5) := cell_later hb (by go_simp)
      have km5 : w1.cell? ⟨w.heap.size, 5, none⟩ = some (.int .i64 m6) := cell_later hb (by go_simp)
      have km6 : w1.cell? ⟨w.heap.size, 6, none⟩ = some (.int .i64 m7) := cell_later hb (by go_simp)
      have kn0 : w1.cell? ⟨w.heap.size + 1, 0, none⟩ = some (.int .i64 n1) := cell_later hb (by go_simp)
      have kn1 : w1.cell? ⟨w.heap.size + 1, 1, none⟩ = some (.int .i64 n2) := cell_later hb (by go_simp)
      have kn2 : w1.cell? ⟨w.heap.size + 1, 2, none⟩ = some (.int .i64 n3) := cell_later hb (by go_simp)
      have kn3 : w1.cell? ⟨w.heap.size + 1, 3, none⟩ = some (.int .i64 n4) := cell_later hb (by go_simp)
      have kn4 : w1.cell? ⟨w.heap.size + 1, 4, none⟩ = some (.int .i64 n5) := cell_later hb (by go_simp)
      have kn5 : w1.cell? ⟨w.heap.size + 1, 5, none⟩ = some (.int .i64 n6) := cell_later hb (by go_simp)
      have kn6 : w1.cell? ⟨w.heap.size + 1, 6, none⟩ = some (.int .i64 n7) := cell_later hb (by go_simp)
      have kp0 : w1.cell? ⟨w.heap.size + 1 + 1, 0, none⟩ = some (.int .i64 p1) := cell_later hb (by go_simp)
      have kp1 : w1.cell? ⟨w.heap.size + 1 + 1, 1, none⟩ = some (.int .i64 p2) := cell_later hb (by go_simp)
      have kq0 : w1.cell? ⟨w.heap.size + 1 + 1 + 1, 0, none⟩ = some (.int .i64 q1) := cell_later hb (by go_simp)
      have kq1 : w1.cell? ⟨w.heap.size + 1 + 1 + 1, 1, none⟩ = some (.int .i64 q2) := cell_later hb (by go_simp)
      have kr0 : w1.cell? ⟨w.heap.size + 1 + 1 + 1 + 1, 0, none⟩ = some (.int .i64 r1) := cell_later hb (by go_simp)
      have kr1 : w1.cell? ⟨w.heap.size + 1 + 1 + 1 + 1, 1, none⟩ = some (.int .i64 r2) := cell_later hb (by go_simp)
      have zm : w.heap.size < w1.heap.size := World.block_lt_of_cell? _ _ km0
      have zm_w1 := zm
      have zn : w.heap.size + 1 < w1.heap.size := World.block_lt_of_cell? _ _ kn0
      have zn_w1 := zn
      have zp : w.heap.size + 1 + 1 < w1.heap.size := World.block_lt_of_cell? _ _ kp0
      have zp_w1 := zp
      have zq : w.heap.size + 1 + 1 + 1 < w1.heap.size := World.block_lt_of_cell? _ _ kq0
      have zq_w1 := zq
      have zr : w.heap.size + 1 + 1 + 1 + 1 < w1.heap.size := World.block_lt_of_cell? _ _ kr0
      have zr_w1 := zr
      have hb0 : Below w.heap.size w w1 := (by repeat (first | with_reducible exact Below.refl _ _ | with_reducible assumption | with_reducible refine Below.setCell ?_ (by first | omega | (simp <;> omega)) _ | with_reducible refine balloc ?_ _ | with_reducible refine Below.drew ?_ | with_reducible refine bstep ?_ (by with_reducible assumption)))
      have hs_w1 := hb.size; (try simp only [World.size_alloc, World.size_setCell] at hs_w1)
      clear hb
      go_wp2_with fail
      refine Calls.mono (F1 _) ?_
      rintro e w2 ⟨rfl, hb⟩
      replace km0 := cell_later hb km0
      replace km1 := cell_later hb km1
      replace km2 := cell_later hb km2
      replace km3 := cell_later hb km3
      replace km4 := cell_later hb km4
      replace km5 := cell_later hb km5
      replace km6 := cell_later hb km6
      replace kn0 := cell_later hb kn0
      replace kn1 := cell_later hb kn1
      replace kn2 := cell_later hb kn2
      replace kn3 := cell_later hb kn3
      replace kn4 := cell_later hb kn4
      replace kn5 := cell_later hb kn5
      replace kn6 := cell_later hb kn6
      replace kp0 := cell_later hb kp0
      replace kp1 := cell_later hb kp1
      replace kq0 := cell_later hb kq0
      replace kq1 := cell_later hb kq1
      replace kr0 := cell_later hb kr0
      replace kr1 := cell_later hb kr1
      replace zm : w.heap.size < w2.heap.size := World.block_lt_of_cell? _ _ km0
      have zm_w2 := zm
      replace zn : w.heap.size + 1 < w2.heap.size := World.block_lt_of_cell? _ _ kn0
      have zn_w2 := zn
      replace zp : w.heap.size + 1 + 1 < w2.heap.size := World.block_lt_of_cell? _ _ kp0
      have zp_w2 := zp
      replace zq : w.heap.size + 1 + 1 + 1 < w2.heap.size := World.block_lt_of_cell? _ _ kq0
      have zq_w2 := zq
      replace zr : w.heap.size + 1 + 1 + 1 + 1 < w2.heap.size := World.block_lt_of_cell? _ _ kr0
      have zr_w2 := zr
      replace hb0 : Below w.heap.size w w2 := (by repeat (first | with_reducible exact Below.refl _ _ | with_reducible assumption | with_reducible refine Below.setCell ?_ (by first | omega | (simp <;> omega)) _ | with_reducible refine balloc ?_ _ | with_reducible refine Below.drew ?_ | with_reducible refine bstep ?_ (by with_reducible assumption)))
      have hs_w2 : w1.heap.size ≤ w2.heap.size := hb.size
      clear hb
      go_wp2_with fail
      refine Calls.mono (F2 _) ?_
      rintro e w3 ⟨rfl, hb⟩
      replace km0 := cell_later hb km0
      replace km1 := cell_later hb km1
      replace km2 := cell_later hb km2
      replace km3 := cell_later hb km3
      replace km4 := cell_later hb km4
      replace km5 := cell_later hb km5
      replace km6 := cell_later hb km6
      replace kn0 := cell_later hb kn0
      replace kn1 := cell_later hb kn1
      replace kn2 := cell_later hb kn2
      replace kn3 := cell_later hb kn3
      replace kn4 := cell_later hb kn4
      replace kn5 := cell_later hb kn5
      replace kn6 := cell_later hb kn6
      replace kp0 := cell_later hb kp0
      replace kp1 := cell_later hb kp1
      replace kq0 := cell_later hb kq0
      replace kq1 := cell_later hb kq1
      replace kr0 := cell_later hb kr0
      replace kr1 := cell_later hb kr1
      replace zm : w.heap.size < w3.heap.size := World.block_lt_of_cell? _ _ km0
      have zm_w3 := zm
      replace zn : w.heap.size + 1 < w3.heap.size := World.block_lt_of_cell? _ _ kn0
      have zn_w3 := zn
      replace zp : w.heap.size + 1 + 1 < w3.heap.size := World.block_lt_of_cell? _ _ kp0
      have zp_w3 := zp
      replace zq : w.heap.size + 1 + 1 + 1 < w3.heap.size := World.block_lt_of_cell? _ _ kq0
      have zq_w3 := zq
      replace zr : w.heap.size + 1 + 1 + 1 + 1 < w3.heap.size := World.block_lt_of_cell? _ _ kr0
      have zr_w3 := zr
      replace hb0 : Below w.heap.size w w3 := (by repeat (first | with_reducible exact Below.refl _ _ | with_reducible assumption | with_reducible refine Below.setCell ?_ (by first | omega | (simp <;> omega)) _ | with_reducible refine balloc ?_ _ | with_reducible refine Below.drew ?_ | with_reducible refine bstep ?_ (by with_reducible assumption)))
      have hs_w3 : w2.heap.size ≤ w3.heap.size := hb.size
      clear hb
      go_wp2_with fail
      refine Calls.mono (T _) ?_
      rintro e w4 ⟨rfl, hb⟩
      replace km0 := cell_later hb km0
      replace km1 := cell_later hb km1
      replace km2 := cell_later hb km2
      replace km3 := cell_later hb km3
      replace km4 := cell_later hb km4
      replace km5 := cell_later hb km5
      replace km6 := cell_later hb km6
      replace kn0 := cell_later hb kn0
      replace kn1 := cell_later hb kn1
      replace kn2 := cell_later hb kn2
      replace kn3 := cell_later hb kn3
      replace kn4 := cell_later hb kn4
      replace kn5 := cell_later hb kn5
      replace kn6 := cell_later hb kn6
      replace kp0 := cell_later hb kp0
      replace kp1 := cell_later hb kp1
      replace kq0 := cell_later hb kq0
      replace kq1 := cell_later hb kq1
      replace kr0 := cell_later hb kr0
      replace kr1 := cell_later hb kr1
      replace zm : w.heap.size < w4.heap.size := World.block_lt_of_cell? _ _ km0
      have zm_w4 := zm
      replace zn : w.heap.size + 1 < w4.heap.size := World.block_lt_of_cell? _ _ kn0
      have zn_w4 := zn
      replace zp : w.heap.size + 1 + 1 < w4.heap.size := World.block_lt_of_cell? _ _ kp0
      have zp_w4 := zp
      replace zq : w.heap.size + 1 + 1 + 1 < w4.heap.size := World.block_lt_of_cell? _ _ kq0
      have zq_w4 := zq
      replace zr : w.heap.size + 1 + 1 + 1 + 1 < w4.heap.size := World.block_lt_of_cell? _ _ kr0
      have zr_w4 := zr
      replace hb0 : Below w.heap.size w w4 := (by repeat (first | with_reducible exact Below.refl _ _ | with_reducible assumption | with_reducible refine Below.setCell ?_ (by first | omega | (simp <;> omega)) _ | with_reducible refine balloc ?_ _ | with_reducible refine Below.drew ?_ | with_reducible refine bstep ?_ (by with_reducible assumption)))
      have hs_w4 : w3.heap.size ≤ w4.heap.size := hb.size
      clear hb
      go_wp2
      all_goals first | (exfalso; omega) | (go_ret; refine ret_bool ?_ (by repeat (first | with_reducible exact Below.refl _ _ | with_reducible assumption | with_reducible refine Below.setCell ?_ (by first | omega | (simp <;> omega)) _ | with_reducible refine balloc ?_ _ | with_reducible refine Below.drew ?_ | with_reducible refine bstep ?_ (by with_reducible assumption))); first | (simp; done) | (simp <;> omega) | (simp [*]; done))
    ·
      obtain ⟨c1, c2, c3, c4, c5, c6, c7, e, T⟩ : ∃ c1 c2 c3 c4 c5 c6 c7 e : Int, ∀ w, Calls Try.prog 22 #[.agg #[(.int .i64 m1), (.int .i64 m2), (.int .i64 m3), (.int .i64 m4), (.int .i64 m5), (.int .i64 m6), (.int .i64 m7)], .agg #[(.int .i64 n1), (.int .i64 n2), (.int .i64 n3), (.int .i64 n4), (.int .i64 n5), (.int .i64 n6), (.int .i64 n7)]] w (Ret w (.tuple #[.agg #[(.int .i64 c1), (.int .i64 c2), (.int .i64 c3), (.int .i64 c4), (.int .i64 c5), (.int .i64 c6), (.int .i64 c7)], (.int .i64 e)])) := ⟨_, _, _, _, _, _, _, _, fun w => Then_c m1 m2 m3 m4 m5 m6 m7 n1 n2 n3 n4 n5 n6 n7 w⟩
      clear h1 h2 k1 k2
      go_enter Try.func6, Try.ntmps6
      go_wp2_with fail
      refine Calls.mono (head_c _) ?_
      rintro e w1 ⟨rfl, hb⟩
      have km0 : w1.cell? ⟨w.heap.size, 0, none⟩ = some (.int .i64 m1) := cell_later hb (by go_simp)
      have km1 : w1.cell? ⟨w.heap.size, 1, none⟩ = some (.int .i64 m2) := cell_later hb (by go_simp)
      have km2 : w1.cell? ⟨w.heap.size, 2, none⟩ = some (.int .i64 m3) := cell_later hb (by go_simp)
      have km3 : w1.cell? ⟨w.heap.size, 3, none⟩ = some (.int .i64 m4) := cell_later hb (by go_simp)
      have km4 : w1.cell? ⟨w.heap.size, 4, none⟩ = some (.int .i64 m5) := cell_later hb (by go_simp)
      have km5 : w1.cell? ⟨w.heap.size, 5, none⟩ = some (.int .i64 m6) := cell_later hb (by go_simp)
      have km6 : w1.cell? ⟨w.heap.size, 6, none⟩ = some (.int .i64 m7) := cell_later hb (by go_simp)
      have kn0 : w1.cell? ⟨w.heap.size + 1, 0, none⟩ = some (.int .i64 n1) := cell_later hb (by go_simp)
      have kn1 : w1.cell? ⟨w.heap.size + 1, 1, none⟩ = some (.int .i64 n2) := cell_later hb (by go_simp)
      have kn2 : w1.cell? ⟨w.heap.size + 1, 2, none⟩ = some (.int .i64 n3) := cell_later hb (by go_simp)
      have kn3 : w1.cell? ⟨w.heap.size + 1, 3, none⟩ = some (.int .i64 n4) := cell_later hb (by go_simp)
      have kn4 : w1.cell? ⟨w.heap.size + 1, 4, none⟩ = some (.int .i64 n5) := cell_later hb (by go_simp)
      have kn5 : w1.cell? ⟨w.heap.size + 1, 5, none⟩ = some (.int .i64 n6) := cell_later hb (by go_simp)
      have kn6 : w1.cell? ⟨w.heap.size + 1, 6, none⟩ = some (.int .i64 n7) := cell_later hb (by go_simp)
      have kp0 : w1.cell? ⟨w.heap.size + 1 + 1, 0, none⟩ = some (.int .i64 p1) := cell_later hb (by go_simp)
      have kp1 : w1.cell? ⟨w.heap.size + 1 + 1, 1, none⟩ = some (.int .i64 p2) := cell_later hb (by go_simp)
      have kq0 : w1.cell? ⟨w.heap.size + 1 + 1 + 1, 0, none⟩ = some (.int .i64 q1) := cell_later hb (by go_simp)
      have kq1 : w1.cell? ⟨w.heap.size + 1 + 1 + 1, 1, none⟩ = some (.int .i64 q2) := cell_later hb (by go_simp)
      have kr0 : w1.cell? ⟨w.heap.size + 1 + 1 + 1 + 1, 0, none⟩ = some (.int .i64 r1) := cell_later hb (by go_simp)
      have kr1 : w1.cell? ⟨w.heap.size + 1 + 1 + 1 + 1, 1, none⟩ = some (.int .i64 r2) := cell_later hb (by go_simp)
      have zm : w.heap.size < w1.heap.size := World.block_lt_of_cell? _ _ km0
      have zm_w1 := zm
      have zn : w.heap.size + 1 < w1.heap.size := World.block_lt_of_cell? _ _ kn0
      have zn_w1 := zn
      have zp : w.heap.size + 1 + 1 < w1.heap.size := World.block_lt_of_cell? _ _ kp0
      have zp_w1 := zp
      have zq : w.heap.size + 1 + 1 + 1 < w1.heap.size := World.block_lt_of_cell? _ _ kq0
      have zq_w1 := zq
      have zr : w.heap.size + 1 + 1 + 1 + 1 < w1.heap.size := World.block_lt_of_cell? _ _ kr0
      have zr_w1 := zr
      have hb0 : Below w.heap.size w w1 := (by repeat (first | with_reducible exact Below.refl _ _ | with_reducible assumption | with_reducible refine Below.setCell ?_ (by first | omega | (simp <;> omega)) _ | with_reducible refine balloc ?_ _ | with_reducible refine Below.drew ?_ | with_reducible refine bstep ?_ (by with_reducible assumption)))
      have hs_w1 := hb.size; (try simp only [World.size_alloc, World.size_setCell] at hs_w1)
      clear hb
      go_wp2_with fail
      refine Calls.mono (F1 _) ?_
      rintro e w2 ⟨rfl, hb⟩
      replace km0 := cell_later hb km0
      replace km1 := cell_later hb km1
      replace km2 := cell_later hb km2
      replace km3 := cell_later hb km3
      replace km4 := cell_later hb km4
      replace km5 := cell_later hb km5
      replace km6 := cell_later hb km6
      replace kn0 := cell_later hb kn0
      replace kn1 := cell_later hb kn1
      replace kn2 := cell_later hb kn2
      replace kn3 := cell_later hb kn3
      replace kn4 := cell_later hb kn4
      replace kn5 := cell_later hb kn5
      replace kn6 := cell_later hb kn6
      replace kp0 := cell_later hb kp0
      replace kp1 := cell_later hb kp1
      replace kq0 := cell_later hb kq0
      replace kq1 := cell_later hb kq1
      replace kr0 := cell_later hb kr0
      replace kr1 := cell_later hb kr1
      replace zm : w.heap.size < w2.heap.size := World.block_lt_of_cell? _ _ km0
      have zm_w2 := zm
      replace zn : w.heap.size + 1 < w2.heap.size := World.block_lt_of_cell? _ _ kn0
      have zn_w2 := zn
      replace zp : w.heap.size + 1 + 1 < w2.heap.size := World.block_lt_of_cell? _ _ kp0
      have zp_w2 := zp
      replace zq : w.heap.size + 1 + 1 + 1 < w2.heap.size := World.block_lt_of_cell? _ _ kq0
      have zq_w2 := zq
      replace zr : w.heap.size + 1 + 1 + 1 + 1 < w2.heap.size := World.block_lt_of_cell? _ _ kr0
      have zr_w2 := zr
      replace hb0 : Below w.heap.size w w2 := (by repeat (first | with_reducible exact Below.refl _ _ | with_reducible assumption | with_reducible refine Below.setCell ?_ (by first | omega | (simp <;> omega)) _ | with_reducible refine balloc ?_ _ | with_reducible refine Below.drew ?_ | with_reducible refine bstep ?_ (by with_reducible assumption)))
      have hs_w2 : w1.heap.size ≤ w2.heap.size := hb.size
      clear hb
      go_wp2_with fail
      refine Calls.mono (F2 _) ?_
      rintro e w3 ⟨rfl, hb⟩
      replace km0 := cell_later hb km0
      replace km1 := cell_later hb km1
      replace km2 := cell_later hb km2
      replace km3 := cell_later hb km3
      replace km4 := cell_later hb km4
      replace km5 := cell_later hb km5
      replace km6 := cell_later hb km6
      replace kn0 := cell_later hb kn0
      replace kn1 := cell_later hb kn1
      replace kn2 := cell_later hb kn2
      replace kn3 := cell_later hb kn3
      replace kn4 := cell_later hb kn4
      replace kn5 := cell_later hb kn5
      replace kn6 := cell_later hb kn6
      replace kp0 := cell_later hb kp0
      replace kp1 := cell_later hb kp1
      replace kq0 := cell_later hb kq0
      replace kq1 := cell_later hb kq1
      replace kr0 := cell_later hb kr0
      replace kr1 := cell_later hb kr1
      replace zm : w.heap.size < w3.heap.size := World.block_lt_of_cell? _ _ km0
      have zm_w3 := zm
      replace zn : w.heap.size + 1 < w3.heap.size := World.block_lt_of_cell? _ _ kn0
      have zn_w3 := zn
      replace zp : w.heap.size + 1 + 1 < w3.heap.size := World.block_lt_of_cell? _ _ kp0
      have zp_w3 := zp
      replace zq : w.heap.size + 1 + 1 + 1 < w3.heap.size := World.block_lt_of_cell? _ _ kq0
      have zq_w3 := zq
      replace zr : w.heap.size + 1 + 1 + 1 + 1 < w3.heap.size := World.block_lt_of_cell? _ _ kr0
      have zr_w3 := zr
      replace hb0 : Below w.heap.size w w3 := (by repeat (first | with_reducible exact Below.refl _ _ | with_reducible assumption | with_reducible refine Below.setCell ?_ (by first | omega | (simp <;> omega)) _ | with_reducible refine balloc ?_ _ | with_reducible refine Below.drew ?_ | with_reducible refine bstep ?_ (by with_reducible assumption)))
      have hs_w3 : w2.heap.size ≤ w3.heap.size := hb.size
      clear hb
      go_wp2_with fail
      refine Calls.mono (T _) ?_
      rintro e w4 ⟨rfl, hb⟩
      replace km0 := cell_later hb km0
      replace km1 := cell_later hb km1
      replace km2 := cell_later hb km2
      replace km3 := cell_later hb km3
      replace km4 := cell_later hb km4
      replace km5 := cell_later hb km5
      replace km6 := cell_later hb km6
      replace kn0 := cell_later hb kn0
      replace kn1 := cell_later hb kn1
      replace kn2 := cell_later hb kn2
      replace kn3 := cell_later hb kn3
      replace kn4 := cell_later hb kn4
      replace kn5 := cell_later hb kn5
      replace kn6 := cell_later hb kn6
      replace kp0 := cell_later hb kp0
      replace kp1 := cell_later hb kp1
      replace kq0 := cell_later hb kq0
      replace kq1 := cell_later hb kq1
      replace kr0 := cell_later hb kr0
      replace kr1 := cell_later hb kr1
      replace zm : w.heap.size < w4.heap.size := World.block_lt_of_cell? _ _ km0
      have zm_w4 := zm
      replace zn : w.heap.size + 1 < w4.heap.size := World.block_lt_of_cell? _ _ kn0
      have zn_w4 := zn
      replace zp : w.heap.size + 1 + 1 < w4.heap.size := World.block_lt_of_cell? _ _ kp0
      have zp_w4 := zp
      replace zq : w.heap.size + 1 + 1 + 1 < w4.heap.size := World.block_lt_of_cell? _ _ kq0
      have zq_w4 := zq
      replace zr : w.heap.size + 1 + 1 + 1 + 1 < w4.heap.size := World.block_lt_of_cell? _ _ kr0
      have zr_w4 := zr
      replace hb0 : Below w.heap.size w w4 := (by repeat (first | with_reducible exact Below.refl _ _ | with_reducible assumption | with_reducible refine Below.setCell ?_ (by first | omega | (simp <;> omega)) _ | with_reducible refine balloc ?_ _ | with_reducible refine Below.drew ?_ | with_reducible refine bstep ?_ (by with_reducible assumption)))
      have hs_w4 : w3.heap.size ≤ w4.heap.size := hb.size
      clear hb
      go_wp2
      all_goals first | (exfalso; omega) | (go_ret; refine ret_bool ?_ (by repeat (first | with_reducible exact Below.refl _ _ | with_reducible assumption | with_reducible refine Below.setCell ?_ (by first | omega | (simp <;> omega)) _ | with_reducible refine balloc ?_ _ | with_reducible refine Below.drew ?_ | with_reducible refine bstep ?_ (by with_reducible assumption))); first | (simp; done) | (simp <;> omega) | (simp [*]; done))
  ·
    rcases fits3 n1 n2 n3 n4 n5 n6 n7 q1 q2 r1 r2 with ⟨h2, F2⟩ | ⟨h2, k2, F2⟩ | ⟨h2, k2, F2⟩
    ·
      obtain ⟨c1, c2, c3, c4, c5, c6, c7, e, T⟩ : ∃ c1 c2 c3 c4 c5 c6 c7 e : Int, ∀ w, Calls Try.prog 22 #[.agg #[(.int .i64 m1), (.int .i64 m2), (.int .i64 m3), (.int .i64 m4), (.int .i64 m5), (.int .i64 m6), (.int .i64 m7)], .agg #[(.int .i64 n1), (.int .i64 n2), (.int .i64 n3), (.int .i64 n4), (.int .i64 n5), (.int .i64 n6), (.int .i64 n7)]] w (Ret w (.tuple #[.agg #[(.int .i64 c1), (.int .i64 c2), (.int .i64 c3), (.int .i64 c4), (.int .i64 c5), (.int .i64 c6), (.int .i64 c7)], (.int .i64 e)])) := ⟨_, _, _, _, _, _, _, _, fun w => Then_c m1 m2 m3 m4 m5 m6 m7 n1 n2 n3 n4 n5 n6 n7 w⟩
      clear h1 h2 k1
      go_enter Try.func6, Try.ntmps6
      go_wp2_with fail
      refine Calls.mono (head_c _) ?_
      rintro e w1 ⟨rfl, hb⟩
      have km0 : w1.cell? ⟨w.heap.size, 0, none⟩ = some (.int .i64 m1) := cell_later hb (by go_simp)
      have km1 : w1.cell? ⟨w.heap.size, 1, none⟩ = some (.int .i64 m2) := cell_later hb (by go_simp)
      have km2 : w1.cell? ⟨w.heap.size, 2, none⟩ = some (.int .i64 m3) := cell_later hb (by go_simp)
      have km3 : w1.cell? ⟨w.heap.size, 3, none⟩ = some (.int .i64 m4) := cell_later hb (by go_simp)
      have km4 : w1.cell? ⟨w.heap.size, 4, none⟩ = some (.int .i64 m5) := cell_later hb (by go_simp)
      have km5 : w1.cell? ⟨w.heap.size, 5, none⟩ = some (.int .i64 m6) := cell_later hb (by go_simp)
      have km6 : w1.cell? ⟨w.heap.size, 6, none⟩ = some (.int .i64 m7) := cell_later hb (by go_simp)
      have kn0 : w1.cell? ⟨w.heap.size + 1, 0, none⟩ = some (.int .i64 n1) := cell_later hb (by go_simp)
      have kn1 : w1.cell? ⟨w.heap.size + 1, 1, none⟩ = some (.int .i64 n2) := cell_later hb (by go_simp)
      have kn2 : w1.cell? ⟨w.heap.size + 1, 2, none⟩ = some (.int .i64 n3) := cell_later hb (by go_simp)
      have kn3 : w1.cell? ⟨w.heap.size + 1, 3, none⟩ = some (.int .i64 n4) := cell_later hb (by go_simp)
      have kn4 : w1.cell? ⟨w.heap.size + 1, 4, none⟩ = some (.int .i64 n5) := cell_later hb (by go_simp)
      have kn5 : w1.cell? ⟨w.heap.size + 1, 5, none⟩ = some (.int .i64 n6) := cell_later hb (by go_simp)
      have kn6 : w1.cell? ⟨w.heap.size + 1, 6, none⟩ = some (.int .i64 n7) := cell_later hb (by go_simp)
      have kp0 : w1.cell? ⟨w.heap.size + 1 + 1, 0, none⟩ = some (.int .i64 p1) := cell_later hb (by go_simp)
      have kp1 : w1.cell? ⟨w.heap.size + 1 + 1, 1, none⟩ = some (.int .i64 p2) := cell_later hb (by go_simp)
      have kq0 : w1.cell? ⟨w.heap.size + 1 + 1 + 1, 0, none⟩ = some (.int .i64 q1) := cell_later hb (by go_simp)
      have kq1 : w1.cell? ⟨w.heap.size + 1 + 1 + 1, 1, none⟩ = some (.int .i64 q2) := cell_later hb (by go_simp)
      have kr0 : w1.cell? ⟨w.heap.size + 1 + 1 + 1 + 1, 0, none⟩ = some (.int .i64 r1) := cell_later hb (by go_simp)
      have kr1 : w1.cell? ⟨w.heap.size + 1 + 1 + 1 + 1, 1, none⟩ = some (.int .i64 r2) := cell_later hb (by go_simp)
      have zm : w.heap.size < w1.heap.size := World.block_lt_of_cell? _ _ km0
      have zm_w1 := zm
      have zn : w.heap.size + 1 < w1.heap.size := World.block_lt_of_cell? _ _ kn0
      have zn_w1 := zn
      have zp : w.heap.size + 1 + 1 < w1.heap.size := World.block_lt_of_cell? _ _ kp0
      have zp_w1 := zp
      have zq : w.heap.size + 1 + 1 + 1 < w1.heap.size := World.block_lt_of_cell? _ _ kq0
      have zq_w1 := zq
      have zr : w.heap.size + 1 + 1 + 1 + 1 < w1.heap.size := World.block_lt_of_cell? _ _ kr0
      have zr_w1 := zr
      have hb0 : Below w.heap.size w w1 := (by repeat (first | with_reducible exact Below.refl _ _ | with_reducible assumption | with_reducible refine Below.setCell ?_ (by first | omega | (simp <;> omega)) _ | with_reducible refine balloc ?_ _ | with_reducible refine Below.drew ?_ | with_reducible refine bstep ?_ (by with_reducible assumption)))
      have hs_w1 := hb.size; (try simp only [World.size_alloc, World.size_setCell] at hs_w1)
      clear hb
      go_wp2_with fail
      refine Calls.mono (F1 _) ?_
      rintro e w2 ⟨rfl, hb⟩
      replace km0 := cell_later hb km0
      replace km1 := cell_later hb km1
      replace km2 := cell_later hb km2
      replace km3 := cell_later hb km3
      replace km4 := cell_later hb km4
      replace km5 := cell_later hb km5
      replace km6 := cell_later hb km6
      replace kn0 := cell_later hb kn0
      replace kn1 := cell_later hb kn1
      replace kn2 := cell_later hb kn2
      replace kn3 := cell_later hb kn3
      replace kn4 := cell_later hb kn4
      replace kn5 := cell_later hb kn5
      replace kn6 := cell_later hb kn6
      replace kp0 := cell_later hb kp0
      replace kp1 := cell_later hb kp1
      replace kq0 := cell_later hb kq0
      replace kq1 := cell_later hb kq1
      replace kr0 := cell_later hb kr0
      replace kr1 := cell_later hb kr1
      replace zm : w.heap.size < w2.heap.size := World.block_lt_of_cell? _ _ km0
      have zm_w2 := zm
      replace zn : w.heap.size + 1 < w2.heap.size := World.block_lt_of_cell? _ _ kn0
      have zn_w2 := zn
      replace zp : w.heap.size + 1 + 1 < w2.heap.size := World.block_lt_of_cell? _ _ kp0
      have zp_w2 := zp
      replace zq : w.heap.size + 1 + 1 + 1 < w2.heap.size := World.block_lt_of_cell? _ _ kq0
      have zq_w2 := zq
      replace zr : w.heap.size + 1 + 1 + 1 + 1 < w2.heap.size := World.block_lt_of_cell? _ _ kr0
      have zr_w2 := zr
      replace hb0 : Below w.heap.size w w2 := (by repeat (first | with_reducible exact Below.refl _ _ | with_reducible assumption | with_reducible refine Below.setCell ?_ (by first | omega | (simp <;> omega)) _ | with_reducible refine balloc ?_ _ | with_reducible refine Below.drew ?_ | with_reducible refine bstep ?_ (by with_reducible assumption)))
      have hs_w2 : w1.heap.size ≤ w2.heap.size := hb.size
      clear hb
      go_wp2_with fail
      refine Calls.mono (F2 _) ?_
      rintro e w3 ⟨rfl, hb⟩
      replace km0 := cell_later hb km0
      replace km1 := cell_later hb km1
      replace km2 := cell_later hb km2
      replace km3 := cell_later hb km3
      replace km4 := cell_later hb km4
      replace km5 := cell_later hb km5
      replace km6 := cell_later hb km6
      replace kn0 := cell_later hb kn0
      replace kn1 := cell_later hb kn1
      replace kn2 := cell_later hb kn2
      replace kn3 := cell_later hb kn3
      replace kn4 := cell_later hb kn4
      replace kn5 := cell_later hb kn5
      replace kn6 := cell_later hb kn6
      replace kp0 := cell_later hb kp0
      replace kp1 := cell_later hb kp1
      replace kq0 := cell_later hb kq0
      replace kq1 := cell_later hb kq1
      replace kr0 := cell_later hb kr0
      replace kr1 := cell_later hb kr1
      replace zm : w.heap.size < w3.heap.size := World.block_lt_of_cell? _ _ km0
      have zm_w3 := zm
      replace zn : w.heap.size + 1 < w3.heap.size := World.block_lt_of_cell? _ _ kn0
      have zn_w3 := zn
      replace zp : w.heap.size + 1 + 1 < w3.heap.size := World.block_lt_of_cell? _ _ kp0
      have zp_w3 := zp
      replace zq : w.heap.size + 1 + 1 + 1 < w3.heap.size := World.block_lt_of_cell? _ _ kq0
      have zq_w3 := zq
      replace zr : w.heap.size + 1 + 1 + 1 + 1 < w3.heap.size := World.block_lt_of_cell? _ _ kr0
      have zr_w3 := zr
      replace hb0 : Below w.heap.size w w3 := (by repeat (first | with_reducible exact Below.refl _ _ | with_reducible assumption | with_reducible refine Below.setCell ?_ (by first | omega | (simp <;> omega)) _ | with_reducible refine balloc ?_ _ | with_reducible refine Below.drew ?_ | with_reducible refine bstep ?_ (by with_reducible assumption)))
      have hs_w3 : w2.heap.size ≤ w3.heap.size := hb.size
      clear hb
      go_wp2_with fail
      refine Calls.mono (T _) ?_
      rintro e w4 ⟨rfl, hb⟩
      replace km0 := cell_later hb km0
      replace km1 := cell_later hb km1
      replace km2 := cell_later hb km2
      replace km3 := cell_later hb km3
      replace km4 := cell_later hb km4
      replace km5 := cell_later hb km5
      replace km6 := cell_later hb km6
      replace kn0 := cell_later hb kn0
      replace kn1 := cell_later hb kn1
      replace kn2 := cell_later hb kn2
      replace kn3 := cell_later hb kn3
      replace kn4 := cell_later hb kn4
      replace kn5 := cell_later hb kn5
      replace kn6 := cell_later hb kn6
      replace kp0 := cell_later hb kp0
      replace kp1 := cell_later hb kp1
      replace kq0 := cell_later hb kq0
      replace kq1 := cell_later hb kq1
      replace kr0 := cell_later hb kr0
      replace kr1 := cell_later hb kr1
      replace zm : w.heap.size < w4.heap.size := World.block_lt_of_cell? _ _ km0
      have zm_w4 := zm
      replace zn : w.heap.size + 1 < w4.heap.size := World.block_lt_of_cell? _ _ kn0
      have zn_w4 := zn
      replace zp : w.heap.size + 1 + 1 < w4.heap.size := World.block_lt_of_cell? _ _ kp0
      have zp_w4 := zp
      replace zq : w.heap.size + 1 + 1 + 1 < w4.heap.size := World.block_lt_of_cell? _ _ kq0
      have zq_w4 := zq
      replace zr : w.heap.size + 1 + 1 + 1 + 1 < w4.heap.size := World.block_lt_of_cell? _ _ kr0
      have zr_w4 := zr
      replace hb0 : Below w.heap.size w w4 := (by repeat (first | with_reducible exact Below.refl _ _ | with_reducible assumption | with_reducible refine Below.setCell ?_ (by first | omega | (simp <;> omega)) _ | with_reducible refine balloc ?_ _ | with_reducible refine Below.drew ?_ | with_reducible refine bstep ?_ (by with_reducible assumption)))
      have hs_w4 : w3.heap.size ≤ w4.heap.size := hb.size
      clear hb
      go_wp2
      all_goals first | (exfalso; omega) | (go_ret; refine ret_bool ?_ (by repeat (first | with_reducible exact Below.refl _ _ | with_reducible assumption | with_reducible refine Below.setCell ?_ (by first | omega | (simp <;> omega)) _ | with_reducible refine balloc ?_ _ | with_reducible refine Below.drew ?_ | with_reducible refine bstep ?_ (by with_reducible assumption))); first | (simp; done) | (simp <;> omega) | (simp [*]; done))
    ·
      obtain ⟨c1, c2, c3, c4, c5, c6, c7, e, T⟩ : ∃ c1 c2 c3 c4 c5 c6 c7 e : Int, ∀ w, Calls Try.prog 22 #[.agg #[(.int .i64 m1), (.int .i64 m2), (.int .i64 m3), (.int .i64 m4), (.int .i64 m5), (.int .i64 m6), (.int .i64 m7)], .agg #[(.int .i64 n1), (.int .i64 n2), (.int .i64 n3), (.int .i64 n4), (.int .i64 n5), (.int .i64 n6), (.int .i64 n7)]] w (Ret w (.tuple #[.agg #[(.int .i64 c1), (.int .i64 c2), (.int .i64 c3), (.int .i64 c4), (.int .i64 c5), (.int .i64 c6), (.int .i64 c7)], (.int .i64 e)])) := ⟨_, _, _, _, _, _, _, _, fun w => Then_c m1 m2 m3 m4 m5 m6 m7 n1 n2 n3 n4 n5 n6 n7 w⟩
      clear h1 h2 k1 k2
      go_enter Try.func6, Try.ntmps6
      go_wp2_with fail
      refine Calls.mono (head_c _) ?_
      rintro e w1 ⟨rfl, hb⟩
      have km0 : w1.cell? ⟨w.heap.size, 0, none⟩ = some (.int .i64 m1) := cell_later hb (by go_simp)
      have km1 : w1.cell? ⟨w.heap.size, 1, none⟩ = some (.int .i64 m2) := cell_later hb (by go_simp)
      have km2 : w1.cell? ⟨w.heap.size, 2, none⟩ = some (.int .i64 m3) := cell_later hb (by go_simp)
      have km3 : w1.cell? ⟨w.heap.size, 3, none⟩ = some (.int .i64 m4) := cell_later hb (by go_simp)
      have km4 : w1.cell? ⟨w.heap.size, 4, none⟩ = some (.int .i64 m5) := cell_later hb (by go_simp)
      have km5 : w1.cell? ⟨w.heap.size, 5, none⟩ = some (.int .i64 m6) := cell_later hb (by go_simp)
      have km6 : w1.cell? ⟨w.heap.size, 6, none⟩ = some (.int .i64 m7) := cell_later hb (by go_simp)
      have kn0 : w1.cell? ⟨w.heap.size + 1, 0, none⟩ = some (.int .i64 n1) := cell_later hb (by go_simp)
      have kn1 : w1.cell? ⟨w.heap.size + 1, 1, none⟩ = some (.int .i64 n2) := cell_later hb (by go_simp)
      have kn2 : w1.cell? ⟨w.heap.size + 1, 2, none⟩ = some (.int .i64 n3) := cell_later hb (by go_simp)
      have kn3 : w1.cell? ⟨w.heap.size + 1, 3, none⟩ = some (.int .i64 n4) := cell_later hb (by go_simp)
      have kn4 : w1.cell? ⟨w.heap.size + 1, 4, none⟩ = some (.int .i64 n5) := cell_later hb (by go_simp)
      have kn5 : w1.cell? ⟨w.heap.size + 1, 5, none⟩ = some (.int .i64 n6) := cell_later hb (by go_simp)
      have kn6 : w1.cell? ⟨w.heap.size + 1, 6, none⟩ = some (.int .i64 n7) := cell_later hb (by go_simp)
      have kp0 : w1.cell? ⟨w.heap.size + 1 + 1, 0, none⟩ = some (.int .i64 p1) := cell_later hb (by go_simp)
      have kp1 : w1.cell? ⟨w.heap.size + 1 + 1, 1, none⟩ = some (.int .i64 p2) := cell_later hb (by go_simp)
      have kq0 : w1.cell? ⟨w.heap.size + 1 + 1 + 1, 0, none⟩ = some (.int .i64 q1) := cell_later hb (by go_simp)
      have kq1 : w1.cell? ⟨w.heap.size + 1 + 1 + 1, 1, none⟩ = some (.int .i64 q2) := cell_later hb (by go_simp)
      have kr0 : w1.cell? ⟨w.heap.size + 1 + 1 + 1 + 1, 0, none⟩ = some (.int .i64 r1) := cell_later hb (by go_simp)
      have kr1 : w1.cell? ⟨w.heap.size + 1 + 1 + 1 + 1, 1, none⟩ = some (.int .i64 r2) := cell_later hb (by go_simp)
      have zm : w.heap.size < w1.heap.size := World.block_lt_of_cell? _ _ km0
      have zm_w1 := zm
      have zn : w.heap.size + 1 < w1.heap.size := World.block_lt_of_cell? _ _ kn0
      have zn_w1 := zn
      have zp : w.heap.size + 1 + 1 < w1.heap.size := World.block_lt_of_cell? _ _ kp0
      have zp_w1 := zp
      have zq : w.heap.size + 1 + 1 + 1 < w1.heap.size := World.block_lt_of_cell? _ _ kq0
      have zq_w1 := zq
      have zr : w.heap.size + 1 + 1 + 1 + 1 < w1.heap.size := World.block_lt_of_cell? _ _ kr0
      have zr_w1 := zr
      have hb0 : Below w.heap.size w w1 := (by repeat (first | with_reducible exact Below.refl _ _ | with_reducible assumption | with_reducible refine Below.setCell ?_ (by first | omega | (simp <;> omega)) _ | with_reducible refine balloc ?_ _ | with_reducible refine Below.drew ?_ | with_reducible refine bstep ?_ (by with_reducible assumption)))
      have hs_w1 := hb.size; (try simp only [World.size_alloc, World.size_setCell] at hs_w1)
      clear hb
      go_wp2_with fail
      refine Calls.mono (F1 _) ?_
      rintro e w2 ⟨rfl, hb⟩
      replace km0 := cell_later hb km0
      replace km1 := cell_later hb km1
      replace km2 := cell_later hb km2
      replace km3 := cell_later hb km3
      replace km4 := cell_later hb km4
      replace km5 := cell_later hb km5
      replace km6 := cell_later hb km6
      replace kn0 := cell_later hb kn0
      replace kn1 := cell_later hb kn1
      replace kn2 := cell_later hb kn2
      replace kn3 := cell_later hb kn3
      replace kn4 := cell_later hb kn4
      replace kn5 := cell_later hb kn5
      replace kn6 := cell_later hb kn6
      replace kp0 := cell_later hb kp0
      replace kp1 := cell_later hb kp1
      replace kq0 := cell_later hb kq0
      replace kq1 := cell_later hb kq1
      replace kr0 := cell_later hb kr0
      replace kr1 := cell_later hb kr1
      replace zm : w.heap.size < w2.heap.size := World.block_lt_of_cell? _ _ km0
      have zm_w2 := zm
      replace zn : w.heap.size + 1 < w2.heap.size := World.block_lt_of_cell? _ _ kn0
      have zn_w2 := zn
      replace zp : w.heap.size + 1 + 1 < w2.heap.size := World.block_lt_of_cell? _ _ kp0
      have zp_w2 := zp
      replace zq : w.heap.size + 1 + 1 + 1 < w2.heap.size := World.block_lt_of_cell? _ _ kq0
      have zq_w2 := zq
      replace zr : w.heap.size + 1 + 1 + 1 + 1 < w2.heap.size := World.block_lt_of_cell? _ _ kr0
      have zr_w2 := zr
      replace hb0 : Below w.heap.size w w2 := (by repeat (first | with_reducible exact Below.refl _ _ | with_reducible assumption | with_reducible refine Below.setCell ?_ (by first | omega | (simp <;> omega)) _ | with_reducible refine balloc ?_ _ | with_reducible refine Below.drew ?_ | with_reducible refine bstep ?_ (by with_reducible assumption)))
      have hs_w2 : w1.heap.size ≤ w2.heap.size := hb.size
      clear hb
      go_wp2_with fail
      refine Calls.mono (F2 _) ?_
      rintro e w3 ⟨rfl, hb⟩
      replace km0 := cell_later hb km0
      replace km1 := cell_later hb km1
      replace km2 := cell_later hb km2
      replace km3 := cell_later hb km3
      replace km4 := cell_later hb km4
      replace km5 := cell_later hb km5
      replace km6 := cell_later hb km6
      replace kn0 := cell_later hb kn0
      replace kn1 := cell_later hb kn1
      replace kn2 := cell_later hb kn2
      replace kn3 := cell_later hb kn3
      replace kn4 := cell_later hb kn4
      replace kn5 := cell_later hb kn5
      replace kn6 := cell_later hb kn6
      replace kp0 := cell_later hb kp0
      replace kp1 := cell_later hb kp1
      replace kq0 := cell_later hb kq0
      replace kq1 := cell_later hb kq1
      replace kr0 := cell_later hb kr0
      replace kr1 := cell_later hb kr1
      replace zm : w.heap.size < w3.heap.size := World.block_lt_of_cell? _ _ km0
      have zm_w3 := zm
      replace zn : w.heap.size + 1 < w3.heap.size := World.block_lt_of_cell? _ _ kn0
      have zn_w3 := zn
      replace zp : w.heap.size + 1 + 1 < w3.heap.size := World.block_lt_of_cell? _ _ kp0
      have zp_w3 := zp
      replace zq : w.heap.size + 1 + 1 + 1 < w3.heap.size := World.block_lt_of_cell? _ _ kq0
      have zq_w3 := zq
      replace zr : w.heap.size + 1 + 1 + 1 + 1 < w3.heap.size := World.block_lt_of_cell? _ _ kr0
      have zr_w3 := zr
      replace hb0 : Below w.heap.size w w3 := (by repeat (first | with_reducible exact Below.refl _ _ | with_reducible assumption | with_reducible refine Below.setCell ?_ (by first | omega | (simp <;> omega)) _ | with_reducible refine balloc ?_ _ | with_reducible refine Below.drew ?_ | with_reducible refine bstep ?_ (by with_reducible assumption)))
      have hs_w3 : w2.heap.size ≤ w3.heap.size := hb.size
      clear hb
      go_wp2_with fail
      refine Calls.mono (T _) ?_
      rintro e w4 ⟨rfl, hb⟩
      replace km0 := cell_later hb km0
      replace km1 := cell_later hb km1
      replace km2 := cell_later hb km2
      replace km3 := cell_later hb km3
      replace km4 := cell_later hb km4
      replace km5 := cell_later hb km5
      replace km6 := cell_later hb km6
      replace kn0 := cell_later hb kn0
      replace kn1 := cell_later hb kn1
      replace kn2 := cell_later hb kn2
      replace kn3 := cell_later hb kn3
      replace kn4 := cell_later hb kn4
      replace kn5 := cell_later hb kn5
      replace kn6 := cell_later hb kn6
      replace kp0 := cell_later hb kp0
      replace kp1 := cell_later hb kp1
      replace kq0 := cell_later hb kq0
      replace kq1 := cell_later hb kq1
      replace kr0 := cell_later hb kr0
      replace kr1 := cell_later hb kr1
      replace zm : w.heap.size < w4.heap.size := World.block_lt_of_cell? _ _ km0
      have zm_w4 := zm
      replace zn : w.heap.size + 1 < w4.heap.size := World.block_lt_of_cell? _ _ kn0
      have zn_w4 := zn
      replace zp : w.heap.size + 1 + 1 < w4.heap.size := World.block_lt_of_cell? _ _ kp0
      have zp_w4 := zp
      replace zq : w.heap.size + 1 + 1 + 1 < w4.heap.size := World.block_lt_of_cell? _ _ kq0
      have zq_w4 := zq
      replace zr : w.heap.size + 1 + 1 + 1 + 1 < w4.heap.size := World.block_lt_of_cell? _ _ kr0
      have zr_w4 := zr
      replace hb0 : Below w.heap.size w w4 := (by repeat (first | with_reducible exact Below.refl _ _ | with_reducible assumption | with_reducible refine Below.setCell ?_ (by first | omega | (simp <;> omega)) _ | with_reducible refine balloc ?_ _ | with_reducible refine Below.drew ?_ | with_reducible refine bstep ?_ (by with_reducible assumption)))
      have hs_w4 : w3.heap.size ≤ w4.heap.size := hb.size
      clear hb
      go_wp2
      all_goals first | (exfalso; omega) | (go_ret; refine ret_bool ?_ (by repeat (first | with_reducible exact Below.refl _ _ | with_reducible assumption | with_reducible refine Below.setCell ?_ (by first | omega | (simp <;> omega)) _ | with_reducible refine balloc ?_ _ | with_reducible refine Below.drew ?_ | with_reducible refine bstep ?_ (by with_reducible assumption))); first | (simp; done) | (simp <;> omega) | (simp [*]; done))
    ·
      obtain ⟨dv, op, oq⟩ := vf_iff.1 h1
      obtain ⟨dn2, _, orr⟩ := vf_iff.1 h2
      have f := xf_iff.1 k1
      have f2 := xf_iff.1 k2
      have g := rg_of dv
      have g7 := g.h7
      obtain ⟨op1, op2, op3, op4⟩ := id op
      have G1 := then_row (S := 0) (w := tW n1 n2 n4 n5 0) ⟨op1, op2⟩ ⟨op3, op4⟩ f.1 f.2 f2.1 g7.1 (by unfold tW; omega)
      have G2 := then_row (S := 0) (w := tW n1 n2 n4 n5 0) ⟨op1, op2⟩ ⟨op3, op4⟩ f.1 f.2 f2.2 g7.1 (by unfold tW; omega)
      have es : upd (tW n1 n2 n4 n5 0 * m7) 1000000 = sp n1 n2 n4 n5 m7 0 := rfl
      rw [es] at G1 G2
      clear es
      have T := fun w => Then_c m1 m2 m3 m4 m5 m6 m7 n1 n2 n3 n4 n5 n6 n7 w
      generalize nr (n1 * m1 + n2 * m4) 1000000 = c1 at *
      generalize nr (n1 * m2 + n2 * m5) 1000000 = c2 at *
      generalize nr (n1 * m3 + n2 * m6) 1000000 + n3 = c3 at *
      generalize nr (n4 * m1 + n5 * m4) 1000000 = c4 at *
      generalize nr (n4 * m2 + n5 * m5) 1000000 = c5 at *
      generalize nr (n4 * m3 + n5 * m6) 1000000 + n6 = c6 at *
      generalize sp n1 n2 n4 n5 m7 0 + n7 + 2 = c7 at *
      rcases Bool.eq_false_or_eq_true (dV c1 c2 c3 c4 c5 c6 c7) with hr | hr
      ·
        simp only [dv, dn2, hr, selI, selB, erv, cond_true, cond_false, Bool.and_true, Bool.and_false, Bool.true_and, Bool.false_and] at T
        have h3 : vFits c1 c2 c3 c4 c5 c6 c7 p1 p2 r1 r2 = true := by rw [vf_iff]; exact ⟨hr, op, orr⟩
        have k3 : xFits c1 c2 c3 c4 c5 c6 c7 p1 p2 r1 r2 = true := by rw [xf_iff]; exact ⟨G1, G2⟩
        have F3 := fun w => Fits_c c1 c2 c3 c4 c5 c6 c7 p1 p2 r1 r2 w
        simp only [h3, k3, selI, selB, erv, cond_true, cond_false, Bool.and_true, Bool.and_false, Bool.true_and, Bool.false_and] at F3
        have V := fun w => Valid_c c1 c2 c3 c4 c5 c6 c7 w
        rw [hr] at V
        clear h1 h2 h3 k1 k2 k3 f f2 g g7 G1 G2 dv dn2 op oq orr op1 op2 op3 op4 hr
        go_enter Try.func6, Try.ntmps6
        go_wp2_with fail
        refine Calls.mono (head_c _) ?_
        rintro e w1 ⟨rfl, hb⟩
        have km0 : w1.cell? ⟨w.heap.size, 0, none⟩ = some (.int .i64 m1) := cell_later hb (by go_simp)
        have km1 : w1.cell? ⟨w.heap.size, 1, none⟩ = some (.int .i64 m2) := cell_later hb (by go_simp)
        have km2 : w1.cell? ⟨w.heap.size, 2, none⟩ = some (.int .i64 m3) := cell_later hb (by go_simp)
        have km3 : w1.cell? ⟨w.heap.size, 3, none⟩ = some (.int .i64 m4) := cell_later hb (by go_simp)
        have km4 : w1.cell? ⟨w.heap.size, 4, none⟩ = some (.int .i64 m5) := cell_later hb (by go_simp)
        have km5 : w1.cell? ⟨w.heap.size, 5, none⟩ = some (.int .i64 m6) := cell_later hb (by go_simp)
        have km6 : w1.cell? ⟨w.heap.size, 6, none⟩ = some (.int .i64 m7) := cell_later hb (by go_simp)
        have kn0 : w1.cell? ⟨w.heap.size + 1, 0, none⟩ = some (.int .i64 n1) := cell_later hb (by go_simp)
        have kn1 : w1.cell? ⟨w.heap.size + 1, 1, none⟩ = some (.int .i64 n2) := cell_later hb (by go_simp)
        have kn2 : w1.cell? ⟨w.heap.size + 1, 2, none⟩ = some (.int .i64 n3) := cell_later hb (by go_simp)
        have kn3 : w1.cell? ⟨w.heap.size + 1, 3, none⟩ = some (.int .i64 n4) := cell_later hb (by go_simp)
        have kn4 : w1.cell? ⟨w.heap.size + 1, 4, none⟩ = some (.int .i64 n5) := cell_later hb (by go_simp)
        have kn5 : w1.cell? ⟨w.heap.size + 1, 5, none⟩ = some (.int .i64 n6) := cell_later hb (by go_simp)
        have kn6 : w1.cell? ⟨w.heap.size + 1, 6, none⟩ = some (.int .i64 n7) := cell_later hb (by go_simp)
        have kp0 : w1.cell? ⟨w.heap.size + 1 + 1, 0, none⟩ = some (.int .i64 p1) := cell_later hb (by go_simp)
        have kp1 : w1.cell? ⟨w.heap.size + 1 + 1, 1, none⟩ = some (.int .i64 p2) := cell_later hb (by go_simp)
        have kq0 : w1.cell? ⟨w.heap.size + 1 + 1 + 1, 0, none⟩ = some (.int .i64 q1) := cell_later hb (by go_simp)
        have kq1 : w1.cell? ⟨w.heap.size + 1 + 1 + 1, 1, none⟩ = some (.int .i64 q2) := cell_later hb (by go_simp)
        have kr0 : w1.cell? ⟨w.heap.size + 1 + 1 + 1 + 1, 0, none⟩ = some (.int .i64 r1) := cell_later hb (by go_simp)
        have kr1 : w1.cell? ⟨w.heap.size + 1 + 1 + 1 + 1, 1, none⟩ = some (.int .i64 r2) := cell_later hb (by go_simp)
        have zm : w.heap.size < w1.heap.size := World.block_lt_of_cell? _ _ km0
        have zm_w1 := zm
        have zn : w.heap.size + 1 < w1.heap.size := World.block_lt_of_cell? _ _ kn0
        have zn_w1 := zn
        have zp : w.heap.size + 1 + 1 < w1.heap.size := World.block_lt_of_cell? _ _ kp0
        have zp_w1 := zp
        have zq : w.heap.size + 1 + 1 + 1 < w1.heap.size := World.block_lt_of_cell? _ _ kq0
        have zq_w1 := zq
        have zr : w.heap.size + 1 + 1 + 1 + 1 < w1.heap.size := World.block_lt_of_cell? _ _ kr0
        have zr_w1 := zr
        have hb0 : Below w.heap.size w w1 := (by repeat (first | with_reducible exact Below.refl _ _ | with_reducible assumption | with_reducible refine Below.setCell ?_ (by first | omega | (simp <;> omega)) _ | with_reducible refine balloc ?_ _ | with_reducible refine Below.drew ?_ | with_reducible refine bstep ?_ (by with_reducible assumption)))
        have hs_w1 := hb.size; (try simp only [World.size_alloc, World.size_setCell] at hs_w1)
        clear hb
        go_wp2_with fail
        refine Calls.mono (F1 _) ?_
        rintro e w2 ⟨rfl, hb⟩
        replace km0 := cell_later hb km0
        replace km1 := cell_later hb km1
        replace km2 := cell_later hb km2
        replace km3 := cell_later hb km3
        replace km4 := cell_later hb km4
        replace km5 := cell_later hb km5
        replace km6 := cell_later hb km6
        replace kn0 := cell_later hb kn0
        replace kn1 := cell_later hb kn1
        replace kn2 := cell_later hb kn2
        replace kn3 := cell_later hb kn3
        replace kn4 := cell_later hb kn4
        replace kn5 := cell_later hb kn5
        replace kn6 := cell_later hb kn6
        replace kp0 := cell_later hb kp0
        replace kp1 := cell_later hb kp1
        replace kq0 := cell_later hb kq0
        replace kq1 := cell_later hb kq1
        replace kr0 := cell_later hb kr0
        replace kr1 := cell_later hb kr1
        replace zm : w.heap.size < w2.heap.size := World.block_lt_of_cell? _ _ km0
        have zm_w2 := zm
        replace zn : w.heap.size + 1 < w2.heap.size := World.block_lt_of_cell? _ _ kn0
        have zn_w2 := zn
        replace zp : w.heap.size + 1 + 1 < w2.heap.size := World.block_lt_of_cell? _ _ kp0
        have zp_w2 := zp
        replace zq : w.heap.size + 1 + 1 + 1 < w2.heap.size := World.block_lt_of_cell? _ _ kq0
        have zq_w2 := zq
        replace zr : w.heap.size + 1 + 1 + 1 + 1 < w2.heap.size := World.block_lt_of_cell? _ _ kr0
        have zr_w2 := zr
        replace hb0 : Below w.heap.size w w2 := (by repeat (first | with_reducible exact Below.refl _ _ | with_reducible assumption | with_reducible refine Below.setCell ?_ (by first | omega | (simp <;> omega)) _ | with_reducible refine balloc ?_ _ | with_reducible refine Below.drew ?_ | with_reducible refine bstep ?_ (by with_reducible assumption)))
        have hs_w2 : w1.heap.size ≤ w2.heap.size := hb.size
        clear hb
        go_wp2_with fail
        refine Calls.mono (F2 _) ?_
        rintro e w3 ⟨rfl, hb⟩
        replace km0 := cell_later hb km0
        replace km1 := cell_later hb km1
        replace km2 := cell_later hb km2
        replace km3 := cell_later hb km3
        replace km4 := cell_later hb km4
        replace km5 := cell_later hb km5
        replace km6 := cell_later hb km6
        replace kn0 := cell_later hb kn0
        replace kn1 := cell_later hb kn1
        replace kn2 := cell_later hb kn2
        replace kn3 := cell_later hb kn3
        replace kn4 := cell_later hb kn4
        replace kn5 := cell_later hb kn5
        replace kn6 := cell_later hb kn6
        replace kp0 := cell_later hb kp0
        replace kp1 := cell_later hb kp1
        replace kq0 := cell_later hb kq0
        replace kq1 := cell_later hb kq1
        replace kr0 := cell_later hb kr0
        replace kr1 := cell_later hb kr1
        replace zm : w.heap.size < w3.heap.size := World.block_lt_of_cell? _ _ km0
        have zm_w3 := zm
        replace zn : w.heap.size + 1 < w3.heap.size := World.block_lt_of_cell? _ _ kn0
        have zn_w3 := zn
        replace zp : w.heap.size + 1 + 1 < w3.heap.size := World.block_lt_of_cell? _ _ kp0
        have zp_w3 := zp
        replace zq : w.heap.size + 1 + 1 + 1 < w3.heap.size := World.block_lt_of_cell? _ _ kq0
        have zq_w3 := zq
        replace zr : w.heap.size + 1 + 1 + 1 + 1 < w3.heap.size := World.block_lt_of_cell? _ _ kr0
        have zr_w3 := zr
        replace hb0 : Below w.heap.size w w3 := (by repeat (first | with_reducible exact Below.refl _ _ | with_reducible assumption | with_reducible refine Below.setCell ?_ (by first | omega | (simp <;> omega)) _ | with_reducible refine balloc ?_ _ | with_reducible refine Below.drew ?_ | with_reducible refine bstep ?_ (by with_reducible assumption)))
        have hs_w3 : w2.heap.size ≤ w3.heap.size := hb.size
        clear hb
        go_wp2_with fail
        refine Calls.mono (T _) ?_
        rintro e w4 ⟨rfl, hb⟩
        replace km0 := cell_later hb km0
        replace km1 := cell_later hb km1
        replace km2 := cell_later hb km2
        replace km3 := cell_later hb km3
        replace km4 := cell_later hb km4
        replace km5 := cell_later hb km5
        replace km6 := cell_later hb km6
        replace kn0 := cell_later hb kn0
        replace kn1 := cell_later hb kn1
        replace kn2 := cell_later hb kn2
        replace kn3 := cell_later hb kn3
        replace kn4 := cell_later hb kn4
        replace kn5 := cell_later hb kn5
        replace kn6 := cell_later hb kn6
        replace kp0 := cell_later hb kp0
        replace kp1 := cell_later hb kp1
        replace kq0 := cell_later hb kq0
        replace kq1 := cell_later hb kq1
        replace kr0 := cell_later hb kr0
        replace kr1 := cell_later hb kr1
        replace zm : w.heap.size < w4.heap.size := World.block_lt_of_cell? _ _ km0
        have zm_w4 := zm
        replace zn : w.heap.size + 1 < w4.heap.size := World.block_lt_of_cell? _ _ kn0
        have zn_w4 := zn
        replace zp : w.heap.size + 1 + 1 < w4.heap.size := World.block_lt_of_cell? _ _ kp0
        have zp_w4 := zp
        replace zq : w.heap.size + 1 + 1 + 1 < w4.heap.size := World.block_lt_of_cell? _ _ kq0
        have zq_w4 := zq
        replace zr : w.heap.size + 1 + 1 + 1 + 1 < w4.heap.size := World.block_lt_of_cell? _ _ kr0
        have zr_w4 := zr
        replace hb0 : Below w.heap.size w w4 := (by repeat (first | with_reducible exact Below.refl _ _ | with_reducible assumption | with_reducible refine Below.setCell ?_ (by first | omega | (simp <;> omega)) _ | with_reducible refine balloc ?_ _ | with_reducible refine Below.drew ?_ | with_reducible refine bstep ?_ (by with_reducible assumption)))
        have hs_w4 : w3.heap.size ≤ w4.heap.size := hb.size
        clear hb
        go_wp2_with fail
        refine Calls.mono (F3 _) ?_
        rintro e w5 ⟨rfl, hb⟩
        replace km0 := cell_later hb (cell_al _ km0)
        replace km1 := cell_later hb (cell_al _ km1)
        replace km2 := cell_later hb (cell_al _ km2)
        replace km3 := cell_later hb (cell_al _ km3)
        replace km4 := cell_later hb (cell_al _ km4)
        replace km5 := cell_later hb (cell_al _ km5)
        replace km6 := cell_later hb (cell_al _ km6)
        replace kn0 := cell_later hb (cell_al _ kn0)
        replace kn1 := cell_later hb (cell_al _ kn1)
        replace kn2 := cell_later hb (cell_al _ kn2)
        replace kn3 := cell_later hb (cell_al _ kn3)
        replace kn4 := cell_later hb (cell_al _ kn4)
        replace kn5 := cell_later hb (cell_al _ kn5)
        replace kn6 := cell_later hb (cell_al _ kn6)
        replace kp0 := cell_later hb (cell_al _ kp0)
        replace kp1 := cell_later hb (cell_al _ kp1)
        replace kq0 := cell_later hb (cell_al _ kq0)
        replace kq1 := cell_later hb (cell_al _ kq1)
        replace kr0 := cell_later hb (cell_al _ kr0)
        replace kr1 := cell_later hb (cell_al _ kr1)
        have kc0 : w5.cell? ⟨w4.heap.size, 0, none⟩ = some (.int .i64 c1) := cell_later hb (by go_simp)
        have kc1 : w5.cell? ⟨w4.heap.size, 1, none⟩ = some (.int .i64 c2) := cell_later hb (by go_simp)
        have kc2 : w5.cell? ⟨w4.heap.size, 2, none⟩ = some (.int .i64 c3) := cell_later hb (by go_simp)
        have kc3 : w5.cell? ⟨w4.heap.size, 3, none⟩ = some (.int .i64 c4) := cell_later hb (by go_simp)
        have kc4 : w5.cell? ⟨w4.heap.size, 4, none⟩ = some (.int .i64 c5) := cell_later hb (by go_simp)
        have kc5 : w5.cell? ⟨w4.heap.size, 5, none⟩ = some (.int .i64 c6) := cell_later hb (by go_simp)
        have kc6 : w5.cell? ⟨w4.heap.size, 6, none⟩ = some (.int .i64 c7) := cell_later hb (by go_simp)
        replace zm : w.heap.size < w5.heap.size := World.block_lt_of_cell? _ _ km0
        have zm_w5 := zm
        replace zn : w.heap.size + 1 < w5.heap.size := World.block_lt_of_cell? _ _ kn0
        have zn_w5 := zn
        replace zp : w.heap.size + 1 + 1 < w5.heap.size := World.block_lt_of_cell? _ _ kp0
        have zp_w5 := zp
        replace zq : w.heap.size + 1 + 1 + 1 < w5.heap.size := World.block_lt_of_cell? _ _ kq0
        have zq_w5 := zq
        replace zr : w.heap.size + 1 + 1 + 1 + 1 < w5.heap.size := World.block_lt_of_cell? _ _ kr0
        have zr_w5 := zr
        have zc : w4.heap.size < w5.heap.size := World.block_lt_of_cell? _ _ kc0
        have zc_w5 := zc
        replace hb0 : Below w.heap.size w w5 := (by repeat (first | with_reducible exact Below.refl _ _ | with_reducible assumption | with_reducible refine Below.setCell ?_ (by first | omega | (simp <;> omega)) _ | with_reducible refine balloc ?_ _ | with_reducible refine Below.drew ?_ | with_reducible refine bstep ?_ (by with_reducible assumption)))
        have hs_w5 := hb.size; (try simp only [World.size_alloc, World.size_setCell] at hs_w5)
        clear hb
        go_wp2_with fail
        refine Calls.mono (V _) ?_
        rintro e w6 ⟨rfl, hb⟩
        replace km0 := cell_later hb km0
        replace km1 := cell_later hb km1
        replace km2 := cell_later hb km2
        replace km3 := cell_later hb km3
        replace km4 := cell_later hb km4
        replace km5 := cell_later hb km5
        replace km6 := cell_later hb km6
        replace kn0 := cell_later hb kn0
        replace kn1 := cell_later hb kn1
        replace kn2 := cell_later hb kn2
        replace kn3 := cell_later hb kn3
        replace kn4 := cell_later hb kn4
        replace kn5 := cell_later hb kn5
        replace kn6 := cell_later hb kn6
        replace kp0 := cell_later hb kp0
        replace kp1 := cell_later hb kp1
        replace kq0 := cell_later hb kq0
        replace kq1 := cell_later hb kq1
        replace kr0 := cell_later hb kr0
        replace kr1 := cell_later hb kr1
        replace kc0 := cell_later hb kc0
        replace kc1 := cell_later hb kc1
        replace kc2 := cell_later hb kc2
        replace kc3 := cell_later hb kc3
        replace kc4 := cell_later hb kc4
        replace kc5 := cell_later hb kc5
        replace kc6 := cell_later hb kc6
        replace zm : w.heap.size < w6.heap.size := World.block_lt_of_cell? _ _ km0
        have zm_w6 := zm
        replace zn : w.heap.size + 1 < w6.heap.size := World.block_lt_of_cell? _ _ kn0
        have zn_w6 := zn
        replace zp : w.heap.size + 1 + 1 < w6.heap.size := World.block_lt_of_cell? _ _ kp0
        have zp_w6 := zp
        replace zq : w.heap.size + 1 + 1 + 1 < w6.heap.size := World.block_lt_of_cell? _ _ kq0
        have zq_w6 := zq
        replace zr : w.heap.size + 1 + 1 + 1 + 1 < w6.heap.size := World.block_lt_of_cell? _ _ kr0
        have zr_w6 := zr
        replace zc : w4.heap.size < w6.heap.size := World.block_lt_of_cell? _ _ kc0
        have zc_w6 := zc
        replace hb0 : Below w.heap.size w w6 := (by repeat (first | with_reducible exact Below.refl _ _ | with_reducible assumption | with_reducible refine Below.setCell ?_ (by first | omega | (simp <;> omega)) _ | with_reducible refine balloc ?_ _ | with_reducible refine Below.drew ?_ | with_reducible refine bstep ?_ (by with_reducible assumption)))
        have hs_w6 : w5.heap.size ≤ w6.heap.size := hb.size
        clear hb
        go_wp2
        all_goals first | (exfalso; omega) | (go_ret; refine ret_bool ?_ (by repeat (first | with_reducible exact Below.refl _ _ | with_reducible assumption | with_reducible refine Below.setCell ?_ (by first | omega | (simp <;> omega)) _ | with_reducible refine balloc ?_ _ | with_reducible refine Below.drew ?_ | with_reducible refine bstep ?_ (by with_reducible assumption))); first | (simp; done) | (simp <;> omega) | (simp [*]; done))
      ·
        simp only [dv, dn2, hr, selI, selB, erv, cond_true, cond_false, Bool.and_true, Bool.and_false, Bool.true_and, Bool.false_and] at T
        clear h1 h2 k1 k2 f f2 g g7 G1 G2 dv dn2 op oq orr op1 op2 op3 op4 hr
        go_enter Try.func6, Try.ntmps6
        go_wp2_with fail
        refine Calls.mono (head_c _) ?_
        rintro e w1 ⟨rfl, hb⟩
        have km0 : w1.cell? ⟨w.heap.size, 0, none⟩ = some (.int .i64 m1) := cell_later hb (by go_simp)
        have km1 : w1.cell? ⟨w.heap.size, 1, none⟩ = some (.int .i64 m2) := cell_later hb (by go_simp)
        have km2 : w1.cell? ⟨w.heap.size, 2, none⟩ = some (.int .i64 m3) := cell_later hb (by go_simp)
        have km3 : w1.cell? ⟨w.heap.size, 3, none⟩ = some (.int .i64 m4) := cell_later hb (by go_simp)
        have km4 : w1.cell? ⟨w.heap.size, 4, none⟩ = some (.int .i64 m5) := cell_later hb (by go_simp)
        have km5 : w1.cell? ⟨w.heap.size, 5, none⟩ = some (.int .i64 m6) := cell_later hb (by go_simp)
        have km6 : w1.cell? ⟨w.heap.size, 6, none⟩ = some (.int .i64 m7) := cell_later hb (by go_simp)
        have kn0 : w1.cell? ⟨w.heap.size + 1, 0, none⟩ = some (.int .i64 n1) := cell_later hb (by go_simp)
        have kn1 : w1.cell? ⟨w.heap.size + 1, 1, none⟩ = some (.int .i64 n2) := cell_later hb (by go_simp)
        have kn2 : w1.cell? ⟨w.heap.size + 1, 2, none⟩ = some (.int .i64 n3) := cell_later hb (by go_simp)
        have kn3 : w1.cell? ⟨w.heap.size + 1, 3, none⟩ = some (.int .i64 n4) := cell_later hb (by go_simp)
        have kn4 : w1.cell? ⟨w.heap.size + 1, 4, none⟩ = some (.int .i64 n5) := cell_later hb (by go_simp)
        have kn5 : w1.cell? ⟨w.heap.size + 1, 5, none⟩ = some (.int .i64 n6) := cell_later hb (by go_simp)
        have kn6 : w1.cell? ⟨w.heap.size + 1, 6, none⟩ = some (.int .i64 n7) := cell_later hb (by go_simp)
        have kp0 : w1.cell? ⟨w.heap.size + 1 + 1, 0, none⟩ = some (.int .i64 p1) := cell_later hb (by go_simp)
        have kp1 : w1.cell? ⟨w.heap.size + 1 + 1, 1, none⟩ = some (.int .i64 p2) := cell_later hb (by go_simp)
        have kq0 : w1.cell? ⟨w.heap.size + 1 + 1 + 1, 0, none⟩ = some (.int .i64 q1) := cell_later hb (by go_simp)
        have kq1 : w1.cell? ⟨w.heap.size + 1 + 1 + 1, 1, none⟩ = some (.int .i64 q2) := cell_later hb (by go_simp)
        have kr0 : w1.cell? ⟨w.heap.size + 1 + 1 + 1 + 1, 0, none⟩ = some (.int .i64 r1) := cell_later hb (by go_simp)
        have kr1 : w1.cell? ⟨w.heap.size + 1 + 1 + 1 + 1, 1, none⟩ = some (.int .i64 r2) := cell_later hb (by go_simp)
        have zm : w.heap.size < w1.heap.size := World.block_lt_of_cell? _ _ km0
        have zm_w1 := zm
        have zn : w.heap.size + 1 < w1.heap.size := World.block_lt_of_cell? _ _ kn0
        have zn_w1 := zn
        have zp : w.heap.size + 1 + 1 < w1.heap.size := World.block_lt_of_cell? _ _ kp0
        have zp_w1 := zp
        have zq : w.heap.size + 1 + 1 + 1 < w1.heap.size := World.block_lt_of_cell? _ _ kq0
        have zq_w1 := zq
        have zr : w.heap.size + 1 + 1 + 1 + 1 < w1.heap.size := World.block_lt_of_cell? _ _ kr0
        have zr_w1 := zr
        have hb0 : Below w.heap.size w w1 := (by repeat (first | with_reducible exact Below.refl _ _ | with_reducible assumption | with_reducible refine Below.setCell ?_ (by first | omega | (simp <;> omega)) _ | with_reducible refine balloc ?_ _ | with_reducible refine Below.drew ?_ | with_reducible refine bstep ?_ (by with_reducible assumption)))
        have hs_w1 := hb.size; (try simp only [World.size_alloc, World.size_setCell] at hs_w1)
        clear hb
        go_wp2_with fail
        refine Calls.mono (F1 _) ?_
        rintro e w2 ⟨rfl, hb⟩
        replace km0 := cell_later hb km0
        replace km1 := cell_later hb km1
        replace km2 := cell_later hb km2
        replace km3 := cell_later hb km3
        replace km4 := cell_later hb km4
        replace km5 := cell_later hb km5
        replace km6 := cell_later hb km6
        replace kn0 := cell_later hb kn0
        replace kn1 := cell_later hb kn1
        replace kn2 := cell_later hb kn2
        replace kn3 := cell_later hb kn3
        replace kn4 := cell_later hb kn4
        replace kn5 := cell_later hb kn5
        replace kn6 := cell_later hb kn6
        replace kp0 := cell_later hb kp0
        replace kp1 := cell_later hb kp1
        replace kq0 := cell_later hb kq0
        replace kq1 := cell_later hb kq1
        replace kr0 := cell_later hb kr0
        replace kr1 := cell_later hb kr1
        replace zm : w.heap.size < w2.heap.size := World.block_lt_of_cell? _ _ km0
        have zm_w2 := zm
        replace zn : w.heap.size + 1 < w2.heap.size := World.block_lt_of_cell? _ _ kn0
        have zn_w2 := zn
        replace zp : w.heap.size + 1 + 1 < w2.heap.size := World.block_lt_of_cell? _ _ kp0
        have zp_w2 := zp
        replace zq : w.heap.size + 1 + 1 + 1 < w2.heap.size := World.block_lt_of_cell? _ _ kq0
        have zq_w2 := zq
        replace zr : w.heap.size + 1 + 1 + 1 + 1 < w2.heap.size := World.block_lt_of_cell? _ _ kr0
        have zr_w2 := zr
        replace hb0 : Below w.heap.size w w2 := (by repeat (first | with_reducible exact Below.refl _ _ | with_reducible assumption | with_reducible refine Below.setCell ?_ (by first | omega | (simp <;> omega)) _ | with_reducible refine balloc ?_ _ | with_reducible refine Below.drew ?_ | with_reducible refine bstep ?_ (by with_reducible assumption)))
        have hs_w2 : w1.heap.size ≤ w2.heap.size := hb.size
        clear hb
        go_wp2_with fail
        refine Calls.mono (F2 _) ?_
        rintro e w3 ⟨rfl, hb⟩
        replace km0 := cell_later hb km0
        replace km1 := cell_later hb km1
        replace km2 := cell_later hb km2
        replace km3 := cell_later hb km3
        replace km4 := cell_later hb km4
        replace km5 := cell_later hb km5
        replace km6 := cell_later hb km6
        replace kn0 := cell_later hb kn0
        replace kn1 := cell_later hb kn1
        replace kn2 := cell_later hb kn2
        replace kn3 := cell_later hb kn3
        replace kn4 := cell_later hb kn4
        replace kn5 := cell_later hb kn5
        replace kn6 := cell_later hb kn6
        replace kp0 := cell_later hb kp0
        replace kp1 := cell_later hb kp1
        replace kq0 := cell_later hb kq0
        replace kq1 := cell_later hb kq1
        replace kr0 := cell_later hb kr0
        replace kr1 := cell_later hb kr1
        replace zm : w.heap.size < w3.heap.size := World.block_lt_of_cell? _ _ km0
        have zm_w3 := zm
        replace zn : w.heap.size + 1 < w3.heap.size := World.block_lt_of_cell? _ _ kn0
        have zn_w3 := zn
        replace zp : w.heap.size + 1 + 1 < w3.heap.size := World.block_lt_of_cell? _ _ kp0
        have zp_w3 := zp
        replace zq : w.heap.size + 1 + 1 + 1 < w3.heap.size := World.block_lt_of_cell? _ _ kq0
        have zq_w3 := zq
        replace zr : w.heap.size + 1 + 1 + 1 + 1 < w3.heap.size := World.block_lt_of_cell? _ _ kr0
        have zr_w3 := zr
        replace hb0 : Below w.heap.size w w3 := (by repeat (first | with_reducible exact Below.refl _ _ | with_reducible assumption | with_reducible refine Below.setCell ?_ (by first | omega | (simp <;> omega)) _ | with_reducible refine balloc ?_ _ | with_reducible refine Below.drew ?_ | with_reducible refine bstep ?_ (by with_reducible assumption)))
        have hs_w3 : w2.heap.size ≤ w3.heap.size := hb.size
        clear hb
        go_wp2_with fail
        refine Calls.mono (T _) ?_
        rintro e w4 ⟨rfl, hb⟩
        replace km0 := cell_later hb km0
        replace km1 := cell_later hb km1
        replace km2 := cell_later hb km2
        replace km3 := cell_later hb km3
        replace km4 := cell_later hb km4
        replace km5 := cell_later hb km5
        replace km6 := cell_later hb km6
        replace kn0 := cell_later hb kn0
        replace kn1 := cell_later hb kn1
        replace kn2 := cell_later hb kn2
        replace kn3 := cell_later hb kn3
        replace kn4 := cell_later hb kn4
        replace kn5 := cell_later hb kn5
        replace kn6 := cell_later hb kn6
        replace kp0 := cell_later hb kp0
        replace kp1 := cell_later hb kp1
        replace kq0 := cell_later hb kq0
        replace kq1 := cell_later hb kq1
        replace kr0 := cell_later hb kr0
        replace kr1 := cell_later hb kr1
        replace zm : w.heap.size < w4.heap.size := World.block_lt_of_cell? _ _ km0
        have zm_w4 := zm
        replace zn : w.heap.size + 1 < w4.heap.size := World.block_lt_of_cell? _ _ kn0
        have zn_w4 := zn
        replace zp : w.heap.size + 1 + 1 < w4.heap.size := World.block_lt_of_cell? _ _ kp0
        have zp_w4 := zp
        replace zq : w.heap.size + 1 + 1 + 1 < w4.heap.size := World.block_lt_of_cell? _ _ kq0
        have zq_w4 := zq
        replace zr : w.heap.size + 1 + 1 + 1 + 1 < w4.heap.size := World.block_lt_of_cell? _ _ kr0
        have zr_w4 := zr
        replace hb0 : Below w.heap.size w w4 := (by repeat (first | with_reducible exact Below.refl _ _ | with_reducible assumption | with_reducible refine Below.setCell ?_ (by first | omega | (simp <;> omega)) _ | with_reducible refine balloc ?_ _ | with_reducible refine Below.drew ?_ | with_reducible refine bstep ?_ (by with_reducible assumption)))
        have hs_w4 : w3.heap.size ≤ w4.heap.size := hb.size
        clear hb
        go_wp2
        all_goals first | (exfalso; omega) | (go_ret; refine ret_bool ?_ (by repeat (first | with_reducible exact Below.refl _ _ | with_reducible assumption | with_reducible refine Below.setCell ?_ (by first | omega | (simp <;> omega)) _ | with_reducible refine balloc ?_ _ | with_reducible refine Below.drew ?_ | with_reducible refine bstep ?_ (by with_reducible assumption))); first | (simp; done) | (simp <;> omega) | (simp [*]; done))


end Go.Proofs.Ytlkjpackjjncaaa.Da
