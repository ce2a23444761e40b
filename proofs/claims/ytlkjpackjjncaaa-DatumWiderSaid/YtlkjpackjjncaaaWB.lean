/- WB: Wider, more out of range. -/
import Derived.Test.YtlkjpackjjncaaaDatX
import Derived.Test.YtlkjpackjjncaaaRows
import Derived.WalkKit
import Derived.WalkSpells
import Derived.WalkLawsBesides
import Derived.Lib.Hide
import Derived.Deep.QuietTactic
import Derived.BigQuiet
import Derived.RegionTactic
import Derived.ChangeAlike
import Derived.BigRegion
import Derived.Deep.RegionHeld3
import Derived.Deep.RegionWith
import Derived.Outline
import Derived.Laws.EntriesVeiled
import Derived.Deep.DeepCutAuto
namespace Go.Proofs.Ytlkjpackjjncaaa.Da
open Go.RowKit Sp
set_option linter.unusedSimpArgs false
set_option linter.unusedVariables false

set_option maxRecDepth 100000 in
set_option maxHeartbeats 6400000 in
theorem wB1 (m1 m2 m3 m4 m5 m6 m7 more p1 p2 q1 q2 r1 r2 : Int) (a2 : Bool) (w : World) (F1 : ∀ w, Calls Try.prog 14 #[.agg #[(.int .i64 m1), (.int .i64 m2), (.int .i64 m3), (.int .i64 m4), (.int .i64 m5), (.int .i64 m6), (.int .i64 m7)], (.agg #[.int .i64 p1, .int .i64 p2]), (.agg #[.int .i64 q1, .int .i64 q2])] w (Ret w (.tuple #[(.bool true), (.int .i64 0)]))) (F2 : ∀ w, Calls Try.prog 14 #[.agg #[(.int .i64 m1), (.int .i64 m2), (.int .i64 m3), (.int .i64 m4), (.int .i64 m5), (.int .i64 m6), (.int .i64 m7)], (.agg #[.int .i64 p1, .int .i64 p2]), (.agg #[.int .i64 r1, .int .i64 r2])] w (Ret w (.tuple #[(.bool a2), (.int .i64 1)]))) (hm : more < 0 ∨ 1000 < more) : Calls Try.prog 8 #[.agg #[(.int .i64 m1), (.int .i64 m2), (.int .i64 m3), (.int .i64 m4), (.int .i64 m5), (.int .i64 m6), (.int .i64 m7)], (.int .i64 more), (.agg #[.int .i64 p1, .int .i64 p2]), (.agg #[.int .i64 q1, .int .i64 q2]), (.agg #[.int .i64 r1, .int .i64 r2])] w (Ret w (.bool true)) := by
  rcases hm with hm | hm
  all_goals
    go_enter Try.func8, Try.ntmps8
    go_wp2_with fail
    refine Calls.mono (head_c _) ?_
    rintro e w1 ⟨rfl, hb⟩
    have km0 : w1.cell? ⟨w.heap.size, 0, none⟩ = some (.int .i64 m1) := cell_later hb (by go_simp)
    have km1 : w1.cell? ⟨w.heap.size, 1, none⟩ = some (.int .i64 m2) := cell_later hb (by go_simp)
    have km2 : w1.cell? ⟨w.heap.size, 2, none⟩ = some (.int .i64 m3) := cell_later hb (by go_simp)
    have km3 : w1.cell? ⟨w.heap.size, 3, none⟩ = some (.int .i64 m4) := cell_later hb (by go_simp)
    have km4 : w1.cell? ⟨w.heap.size, 4, none⟩ = some (.int .i64 m5) := cell_later hb (by go_simp)
    have km5 : w1.cell? ⟨w.heap.size, 5, none⟩ = some (.int .i64 m6) := cell_later hb (by go_simp)
    have km6 : w1.cell? ⟨w.heap.size, 6, none⟩ = some (.int .i64 m7) := cell_later hb (by go_simp)
    have kp0 : w1.cell? ⟨w.heap.size + 1, 0, none⟩ = some (.int .i64 p1) := cell_later hb (by go_simp)
    have kp1 : w1.cell? ⟨w.heap.size + 1, 1, none⟩ = some (.int .i64 p2) := cell_later hb (by go_simp)
    have kq0 : w1.cell? ⟨w.heap.size + 1 + 1, 0, none⟩ = some (.int .i64 q1) := cell_later hb (by go_simp)
    have kq1 : w1.cell? ⟨w.heap.size + 1 + 1, 1, none⟩ = some (.int .i64 q2) := cell_later hb (by go_simp)
    have kr0 : w1.cell? ⟨w.heap.size + 1 + 1 + 1, 0, none⟩ = some (.int .i64 r1) := cell_later hb (by go_simp)
    have kr1 : w1.cell? ⟨w.heap.size + 1 + 1 + 1, 1, none⟩ = some (.int .i64 r2) := cell_later hb (by go_simp)
    have zm : w.heap.size < w1.heap.size := World.block_lt_of_cell? _ _ km0
    have zm_w1 := zm
    have zp : w.heap.size + 1 < w1.heap.size := World.block_lt_of_cell? _ _ kp0
    have zp_w1 := zp
    have zq : w.heap.size + 1 + 1 < w1.heap.size := World.block_lt_of_cell? _ _ kq0
    have zq_w1 := zq
    have zr : w.heap.size + 1 + 1 + 1 < w1.heap.size := World.block_lt_of_cell? _ _ kr0
    have zr_w1 := zr
    have hb0 : Below w.heap.size w w1 := (by repeat (first | with_reducible exact Below.refl _ _ | with_reducible assumption | with_reducible refine Below.setCell ?_ (by first | omega | (simp <;> omega)) _ | with_reducible refine balloc ?_ _ | with_reducible refine Below.drew ?_ | with_reducible refine bstep ?_ (by with_reducible assumption)))
    have hs_w1 := hb.size; (try simp only [World.size_alloc, World.size_setCell] at hs_w1)
    clear hb
    go_wp2_with fail
    refine Calls.mono (F1 _) ?_
    rintro e w2 ⟨rfl, hb⟩
    replace km0 := cell_later hb km0
    replace km1 := cell_later hb km1
    replace km2 := cell_later hb km2
    replace km3 := cell_later hb km3
    replace km4 := cell_later hb km4
    replace km5 := cell_later hb km5
    replace km6 := cell_later hb km6
    replace kp0 := cell_later hb kp0
    replace kp1 := cell_later hb kp1
    replace kq0 := cell_later hb kq0
    replace kq1 := cell_later hb kq1
    replace kr0 := cell_later hb kr0
    replace kr1 := cell_later hb kr1
    replace zm : w.heap.size < w2.heap.size := World.block_lt_of_cell? _ _ km0
    have zm_w2 := zm
    replace zp : w.heap.size + 1 < w2.heap.size := World.block_lt_of_cell? _ _ kp0
    have zp_w2 := zp
    replace zq : w.heap.size + 1 + 1 < w2.heap.size := World.block_lt_of_cell? _ _ kq0
    have zq_w2 := zq
    replace zr : w.heap.size + 1 + 1 + 1 < w2.heap.size := World.block_lt_of_cell? _ _ kr0
    have zr_w2 := zr
    replace hb0 : Below w.heap.size w w2 := (by repeat (first | with_reducible exact Below.refl _ _ | with_reducible assumption | with_reducible refine Below.setCell ?_ (by first | omega | (simp <;> omega)) _ | with_reducible refine balloc ?_ _ | with_reducible refine Below.drew ?_ | with_reducible refine bstep ?_ (by with_reducible assumption)))
    have hs_w2 : w1.heap.size ≤ w2.heap.size := hb.size
    clear hb
    go_wp2_with fail
    refine Calls.mono (F2 _) ?_
    rintro e w3 ⟨rfl, hb⟩
    replace km0 := cell_later hb km0
    replace km1 := cell_later hb km1
    replace km2 := cell_later hb km2
    replace km3 := cell_later hb km3
    replace km4 := cell_later hb km4
    replace km5 := cell_later hb km5
    replace km6 := cell_later hb km6
    replace kp0 := cell_later hb kp0
    replace kp1 := cell_later hb kp1
    replace kq0 := cell_later hb kq0
    replace kq1 := cell_later hb kq1
    replace kr0 := cell_later hb kr0
    replace kr1 := cell_later hb kr1
    replace zm : w.heap.size < w3.heap.size := World.block_lt_of_cell? _ _ km0
    have zm_w3 := zm
    replace zp : w.heap.size + 1 < w3.heap.size := World.block_lt_of_cell? _ _ kp0
    have zp_w3 := zp
    replace zq : w.heap.size + 1 + 1 < w3.heap.size := World.block_lt_of_cell? _ _ kq0
    have zq_w3 := zq
    replace zr : w.heap.size + 1 + 1 + 1 < w3.heap.size := World.block_lt_of_cell? _ _ kr0
    have zr_w3 := zr
    replace hb0 : Below w.heap.size w w3 := (by repeat (first | with_reducible exact Below.refl _ _ | with_reducible assumption | with_reducible refine Below.setCell ?_ (by first | omega | (simp <;> omega)) _ | with_reducible refine balloc ?_ _ | with_reducible refine Below.drew ?_ | with_reducible refine bstep ?_ (by with_reducible assumption)))
    have hs_w3 : w2.heap.size ≤ w3.heap.size := hb.size
    clear hb
    go_wp2_with fail
    all_goals first | (exfalso; omega) | (go_ret; refine ret_bool ?_ (by repeat (first | with_reducible exact Below.refl _ _ | with_reducible assumption | with_reducible refine Below.setCell ?_ (by first | omega | (simp <;> omega)) _ | with_reducible refine balloc ?_ _ | with_reducible refine Below.drew ?_ | with_reducible refine bstep ?_ (by with_reducible assumption))); first | (simp; done) | (simp <;> omega))
  
set_option maxRecDepth 100000 in
set_option maxHeartbeats 6400000 in
theorem wB2 (m1 m2 m3 m4 m5 m6 m7 more p1 p2 q1 q2 r1 r2 : Int) (a2 : Bool) (w : World) (F1 : ∀ w, Calls Try.prog 14 #[.agg #[(.int .i64 m1), (.int .i64 m2), (.int .i64 m3), (.int .i64 m4), (.int .i64 m5), (.int .i64 m6), (.int .i64 m7)], (.agg #[.int .i64 p1, .int .i64 p2]), (.agg #[.int .i64 q1, .int .i64 q2])] w (Ret w (.tuple #[(.bool true), (.int .i64 0)]))) (F2 : ∀ w, Calls Try.prog 14 #[.agg #[(.int .i64 m1), (.int .i64 m2), (.int .i64 m3), (.int .i64 m4), (.int .i64 m5), (.int .i64 m6), (.int .i64 m7)], (.agg #[.int .i64 p1, .int .i64 p2]), (.agg #[.int .i64 r1, .int .i64 r2])] w (Ret w (.tuple #[(.bool false), (.int .i64 0)]))) (hm : more < 0 ∨ 1000 < more) : Calls Try.prog 8 #[.agg #[(.int .i64 m1), (.int .i64 m2), (.int .i64 m3), (.int .i64 m4), (.int .i64 m5), (.int .i64 m6), (.int .i64 m7)], (.int .i64 more), (.agg #[.int .i64 p1, .int .i64 p2]), (.agg #[.int .i64 q1, .int .i64 q2]), (.agg #[.int .i64 r1, .int .i64 r2])] w (Ret w (.bool true)) := by
  rcases hm with hm | hm
  all_goals
    go_enter Try.func8, Try.ntmps8
    go_wp2_with fail
    refine Calls.mono (head_c _) ?_
    rintro e w1 ⟨rfl, hb⟩
    have km0 : w1.cell? ⟨w.heap.size, 0, none⟩ = some (.int .i64 m1) := cell_later hb (by go_simp)
    have km1 : w1.cell? ⟨w.heap.size, 1, none⟩ = some (.int .i64 m2) := cell_later hb (by go_simp)
    have km2 : w1.cell? ⟨w.heap.size, 2, none⟩ = some (.int .i64 m3) := cell_later hb (by go_simp)
    have km3 : w1.cell? ⟨w.heap.size, 3, none⟩ = some (.int .i64 m4) := cell_later hb (by go_simp)
    have km4 : w1.cell? ⟨w.heap.size, 4, none⟩ = some (.int .i64 m5) := cell_later hb (by go_simp)
    have km5 : w1.cell? ⟨w.heap.size, 5, none⟩ = some (.int .i64 m6) := cell_later hb (by go_simp)
    have km6 : w1.cell? ⟨w.heap.size, 6, none⟩ = some (.int .i64 m7) := cell_later hb (by go_simp)
    have kp0 : w1.cell? ⟨w.heap.size + 1, 0, none⟩ = some (.int .i64 p1) := cell_later hb (by go_simp)
    have kp1 : w1.cell? ⟨w.heap.size + 1, 1, none⟩ = some (.int .i64 p2) := cell_later hb (by go_simp)
    have kq0 : w1.cell? ⟨w.heap.size + 1 + 1, 0, none⟩ = some (.int .i64 q1) := cell_later hb (by go_simp)
    have kq1 : w1.cell? ⟨w.heap.size + 1 + 1, 1, none⟩ = some (.int .i64 q2) := cell_later hb (by go_simp)
    have kr0 : w1.cell? ⟨w.heap.size + 1 + 1 + 1, 0, none⟩ = some (.int .i64 r1) := cell_later hb (by go_simp)
    have kr1 : w1.cell? ⟨w.heap.size + 1 + 1 + 1, 1, none⟩ = some (.int .i64 r2) := cell_later hb (by go_simp)
    have zm : w.heap.size < w1.heap.size := World.block_lt_of_cell? _ _ km0
    have zm_w1 := zm
    have zp : w.heap.size + 1 < w1.heap.size := World.block_lt_of_cell? _ _ kp0
    have zp_w1 := zp
    have zq : w.heap.size + 1 + 1 < w1.heap.size := World.block_lt_of_cell? _ _ kq0
    have zq_w1 := zq
    have zr : w.heap.size + 1 + 1 + 1 < w1.heap.size := World.block_lt_of_cell? _ _ kr0
    have zr_w1 := zr
    have hb0 : Below w.heap.size w w1 := (by repeat (first | with_reducible exact Below.refl _ _ | with_reducible assumption | with_reducible refine Below.setCell ?_ (by first | omega | (simp <;> omega)) _ | with_reducible refine balloc ?_ _ | with_reducible refine Below.drew ?_ | with_reducible refine bstep ?_ (by with_reducible assumption)))
    have hs_w1 := hb.size; (try simp only [World.size_alloc, World.size_setCell] at hs_w1)
    clear hb
    go_wp2_with fail
    refine Calls.mono (F1 _) ?_
    rintro e w2 ⟨rfl, hb⟩
    replace km0 := cell_later hb km0
    replace km1 := cell_later hb km1
    replace km2 := cell_later hb km2
    replace km3 := cell_later hb km3
    replace km4 := cell_later hb km4
    replace km5 := cell_later hb km5
    replace km6 := cell_later hb km6
    replace kp0 := cell_later hb kp0
    replace kp1 := cell_later hb kp1
    replace kq0 := cell_later hb kq0
    replace kq1 := cell_later hb kq1
    replace kr0 := cell_later hb kr0
    replace kr1 := cell_later hb kr1
    replace zm : w.heap.size < w2.heap.size := World.block_lt_of_cell? _ _ km0
    have zm_w2 := zm
    replace zp : w.heap.size + 1 < w2.heap.size := World.block_lt_of_cell? _ _ kp0
    have zp_w2 := zp
    replace zq : w.heap.size + 1 + 1 < w2.heap.size := World.block_lt_of_cell? _ _ kq0
    have zq_w2 := zq
    replace zr : w.heap.size + 1 + 1 + 1 < w2.heap.size := World.block_lt_of_cell? _ _ kr0
    have zr_w2 := zr
    replace hb0 : Below w.heap.size w w2 := (by repeat (first | with_reducible exact Below.refl _ _ | with_reducible assumption | with_reducible refine Below.setCell ?_ (by first | omega | (simp <;> omega)) _ | with_reducible refine balloc ?_ _ | with_reducible refine Below.drew ?_ | with_reducible refine bstep ?_ (by with_reducible assumption)))
    have hs_w2 : w1.heap.size ≤ w2.heap.size := hb.size
    clear hb
    go_wp2_with fail
    refine Calls.mono (F2 _) ?_
    rintro e w3 ⟨rfl, hb⟩
    replace km0 := cell_later hb km0
    replace km1 := cell_later hb km1
    replace km2 := cell_later hb km2
    replace km3 := cell_later hb km3
    replace km4 := cell_later hb km4
    replace km5 := cell_later hb km5
    replace km6 := cell_later hb km6
    replace kp0 := cell_later hb kp0
    replace kp1 := cell_later hb kp1
    replace kq0 := cell_later hb kq0
    replace kq1 := cell_later hb kq1
    replace kr0 := cell_later hb kr0
    replace kr1 := cell_later hb kr1
    replace zm : w.heap.size < w3.heap.size := World.block_lt_of_cell? _ _ km0
    have zm_w3 := zm
    replace zp : w.heap.size + 1 < w3.heap.size := World.block_lt_of_cell? _ _ kp0
    have zp_w3 := zp
    replace zq : w.heap.size + 1 + 1 < w3.heap.size := World.block_lt_of_cell? _ _ kq0
    have zq_w3 := zq
    replace zr : w.heap.size + 1 + 1 + 1 < w3.heap.size := World.block_lt_of_cell? _ _ kr0
    have zr_w3 := zr
    replace hb0 : Below w.heap.size w w3 := (by repeat (first | with_reducible exact Below.refl _ _ | with_reducible assumption | with_reducible refine Below.setCell ?_ (by first | omega | (simp <;> omega)) _ | with_reducible refine balloc ?_ _ | with_reducible refine Below.drew ?_ | with_reducible refine bstep ?_ (by with_reducible assumption)))
    have hs_w3 : w2.heap.size ≤ w3.heap.size := hb.size
    clear hb
    go_wp2_with fail
    all_goals first | (exfalso; omega) | (go_ret; refine ret_bool ?_ (by repeat (first | with_reducible exact Below.refl _ _ | with_reducible assumption | with_reducible refine Below.setCell ?_ (by first | omega | (simp <;> omega)) _ | with_reducible refine balloc ?_ _ | with_reducible refine Below.drew ?_ | with_reducible refine bstep ?_ (by with_reducible assumption))); first | (simp; done) | (simp <;> omega))
  

end Go.Proofs.Ytlkjpackjjncaaa.Da
