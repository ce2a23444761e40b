/- L4There: the law DatumThere. -/
import Derived.Test.YtlkjpackjjncaaaDatY
import Derived.Test.YtlkjpackjjncaaaRows
import Derived.WalkKit
import Derived.WalkSpells
import Derived.WalkLawsBesides
import Derived.Lib.Hide
import Derived.Deep.QuietTactic
import Derived.BigQuiet
import Derived.RegionTactic
import Derived.ChangeAlike
import Derived.BigRegion
import Derived.Deep.RegionHeld3
import Derived.Deep.RegionWith
import Derived.Outline
import Derived.Laws.EntriesVeiled
import Derived.Deep.DeepCutAuto
namespace Go.Proofs.Ytlkjpackjjncaaa.Da
open Go.RowKit Sp
set_option linter.unusedSimpArgs false
set_option linter.unusedVariables false

/-- Apply, Back of what it returns, and Carry of that. -/
theorem there_all (m1 m2 m3 m4 m5 m6 m7 p1 p2 : Int) :
    (∃ f : Int, (f = 1 ∨ f = 3) ∧ (∀ w, Calls Try.prog 16 #[.agg #[(.int .i64 m1), (.int .i64 m2), (.int .i64 m3), (.int .i64 m4), (.int .i64 m5), (.int .i64 m6), (.int .i64 m7)], (.agg #[.int .i64 p1, .int .i64 p2])] w (Ret w (.tuple #[.agg #[(.int .i64 0), (.int .i64 0), (.int .i64 0), (.int .i64 0)], (.int .i64 f)])))) ∨
    (∃ x1 x2 x3 x4 z1 z2 z3 z4 y1 y2 y3 y4 g : Int, inB z1 z2 z3 z4 p1 p2 = true ∧ (g = 3 ∨ (g = 0 ∧ wiB x1 x2 x3 x4 y1 y2 y3 y4 = true)) ∧ (∀ w, Calls Try.prog 16 #[.agg #[(.int .i64 m1), (.int .i64 m2), (.int .i64 m3), (.int .i64 m4), (.int .i64 m5), (.int .i64 m6), (.int .i64 m7)], (.agg #[.int .i64 p1, .int .i64 p2])] w (Ret w (.tuple #[.agg #[(.int .i64 x1), (.int .i64 x2), (.int .i64 x3), (.int .i64 x4)], (.int .i64 0)]))) ∧ (∀ w, Calls Try.prog 20 #[.agg #[(.int .i64 m1), (.int .i64 m2), (.int .i64 m3), (.int .i64 m4), (.int .i64 m5), (.int .i64 m6), (.int .i64 m7)], .agg #[(.int .i64 x1), (.int .i64 x2), (.int .i64 x3), (.int .i64 x4)]] w (Ret w (.tuple #[.agg #[(.int .i64 z1), (.int .i64 z2), (.int .i64 z3), (.int .i64 z4)], (.int .i64 0)]))) ∧ (∀ w, Calls Try.prog 18 #[.agg #[(.int .i64 m1), (.int .i64 m2), (.int .i64 m3), (.int .i64 m4), (.int .i64 m5), (.int .i64 m6), (.int .i64 m7)], .agg #[(.int .i64 z1), (.int .i64 z2), (.int .i64 z3), (.int .i64 z4)]] w (Ret w (.tuple #[.agg #[(.int .i64 y1), (.int .i64 y2), (.int .i64 y3), (.int .i64 y4)], (.int .i64 g)])))) := by
  have C := fun w => Apply_c m1 m2 m3 m4 m5 m6 m7 p1 p2 w
  rcases Bool.eq_false_or_eq_true (dV m1 m2 m3 m4 m5 m6 m7 && okB p1 p2) with hv | hv
  · rcases Bool.eq_false_or_eq_true (rCarry m1 m2 m3 m4 m5 m6 m7 p1 p1 p2 p2) with r | r
    · right
      simp only [hv, r, selI, selB, erv, cond_true, cond_false, Bool.and_true, Bool.and_false, Bool.true_and, Bool.false_and] at C
      rw [Bool.and_eq_true] at hv
      obtain ⟨dv, op⟩ := hv
      have op := okB_iff.1 op
      have g := rg_of dv
      have g7 := g.h7
      have v : vB (cL m1 m2 m3 m7 p1 p1 p2 p2) (cH m1 m2 m3 m7 p1 p1 p2 p2) (cL m4 m5 m6 m7 p1 p1 p2 p2) (cH m4 m5 m6 m7 p1 p1 p2 p2) = true := r
      have a := ov_has (a := m1) (b := m2) (c := m3) (Int.le_refl p1) (Int.le_refl p1) (Int.le_refl p2) (Int.le_refl p2)
      have b := ov_has (a := m4) (b := m5) (c := m6) (Int.le_refl p1) (Int.le_refl p1) (Int.le_refl p2) (Int.le_refl p2)
      have d1 := dn_spec (n := oL m1 m2 m3 p1 p1 p2 p2) (d := 1000000) (by omega)
      have d2 := upd_spec (n := oH m1 m2 m3 p1 p1 p2 p2) (d := 1000000) (by omega)
      have d3 := dn_spec (n := oL m4 m5 m6 p1 p1 p2 p2) (d := 1000000) (by omega)
      have d4 := upd_spec (n := oH m4 m5 m6 p1 p1 p2 p2) (d := 1000000) (by omega)
      obtain ⟨x1, hx1⟩ : ∃ x, cL m1 m2 m3 m7 p1 p1 p2 p2 = x := ⟨_, rfl⟩
      obtain ⟨x2, hx2⟩ : ∃ x, cH m1 m2 m3 m7 p1 p1 p2 p2 = x := ⟨_, rfl⟩
      obtain ⟨x3, hx3⟩ : ∃ x, cL m4 m5 m6 m7 p1 p1 p2 p2 = x := ⟨_, rfl⟩
      obtain ⟨x4, hx4⟩ : ∃ x, cH m4 m5 m6 m7 p1 p1 p2 p2 = x := ⟨_, rfl⟩
      rw [hx1, hx2, hx3, hx4] at v C
      have e1 : x1 = dn (oL m1 m2 m3 p1 p1 p2 p2) 1000000 - m7 := hx1.symm
      have e2 : x2 = upd (oH m1 m2 m3 p1 p1 p2 p2) 1000000 + m7 := hx2.symm
      have e3 : x3 = dn (oL m4 m5 m6 p1 p1 p2 p2) 1000000 - m7 := hx3.symm
      have e4 : x4 = upd (oH m4 m5 m6 p1 p1 p2 p2) 1000000 + m7 := hx4.symm
      have t := back_has g op (c1 := x1) (c2 := x2) (c3 := x3) (c4 := x4) (by unfold rv at a; omega) (by unfold rv at a; omega) (by unfold rv at b; omega) (by unfold rv at b; omega)
      clear a b d1 d2 d3 d4 e1 e2 e3 e4
      have B := fun w => Back_c m1 m2 m3 m4 m5 m6 m7 x1 x2 x3 x4 w
      simp only [dv, v, t.1, selI, selB, erv, cond_true, cond_false, Bool.and_true, Bool.and_false, Bool.true_and, Bool.false_and] at B
      obtain ⟨t1, t2⟩ := t
      rw [rPl, Bool.and_eq_true, rM_iff, rM_iff] at t1
      have K := fun z1 z2 z3 z4 w => Carry_c m1 m2 m3 m4 m5 m6 m7 z1 z2 z3 z4 w
      obtain ⟨z1, hz1⟩ : ∃ x, max (bX1 m1 m2 m3 m4 m5 m6 m7 x1 x2 x3 x4) (-1000000) = x := ⟨_, rfl⟩
      obtain ⟨z2, hz2⟩ : ∃ x, min (bX2 m1 m2 m3 m4 m5 m6 m7 x1 x2 x3 x4) 1000000 = x := ⟨_, rfl⟩
      obtain ⟨z3, hz3⟩ : ∃ x, max (bY1 m1 m2 m3 m4 m5 m6 m7 x1 x2 x3 x4) (-1000000) = x := ⟨_, rfl⟩
      obtain ⟨z4, hz4⟩ : ∃ x, min (bY2 m1 m2 m3 m4 m5 m6 m7 x1 x2 x3 x4) 1000000 = x := ⟨_, rfl⟩
      rw [hz1, hz2, hz3, hz4] at t2 B
      have vz : vB z1 z2 z3 z4 = true := by rw [vB_iff]; omega
      clear t1 hz1 hz2 hz3 hz4
      have K := K z1 z2 z3 z4
      rw [inB_iff] at t2
      rcases Bool.eq_false_or_eq_true (rCarry m1 m2 m3 m4 m5 m6 m7 z1 z2 z3 z4) with s | s
      · simp only [dv, vz, s, selI, selB, erv, cond_true, cond_false, Bool.and_true, Bool.and_false, Bool.true_and, Bool.false_and] at K
        have k1 := c_in (a := m1) (b := m2) (c := m3) (r := m7) t2.1 t2.2.1 t2.2.2.1 t2.2.2.2 (Int.le_refl p1) (Int.le_refl p2)
        have k2 := c_in (a := m4) (b := m5) (c := m6) (r := m7) t2.1 t2.2.1 t2.2.2.1 t2.2.2.2 (Int.le_refl p1) (Int.le_refl p2)
        rw [hx1, hx2] at k1
        rw [hx3, hx4] at k2
        refine ⟨x1, x2, x3, x4, z1, z2, z3, z4, _, _, _, _, _, inB_iff.2 t2, Or.inr ⟨rfl, ?_⟩, C, B, K⟩
        rw [wiB_iff]
        exact ⟨k1.1, k1.2, k2.1, k2.2⟩
      · simp only [dv, vz, s, selI, selB, erv, cond_true, cond_false, Bool.and_true, Bool.and_false, Bool.true_and, Bool.false_and] at K
        exact ⟨x1, x2, x3, x4, z1, z2, z3, z4, _, _, _, _, _, inB_iff.2 t2, Or.inl rfl, C, B, K⟩
    · left
      simp only [hv, r, selI, selB, erv, cond_true, cond_false, Bool.and_true, Bool.and_false, Bool.true_and, Bool.false_and] at C
      exact ⟨_, Or.inr rfl, C⟩
  · left
    simp only [hv, selI, selB, erv, cond_true, cond_false, Bool.and_true, Bool.and_false, Bool.true_and, Bool.false_and] at C
    exact ⟨_, Or.inl rfl, C⟩

set_option maxRecDepth 100000 in
set_option maxHeartbeats 25600000 in
theorem there_law (m1 m2 m3 m4 m5 m6 m7 p1 p2 : Int) (w : World)  : Calls Try.prog 10 #[(.agg #[(.int .i64 m1), (.int .i64 m2), (.int .i64 m3), (.int .i64 m4), (.int .i64 m5), (.int .i64 m6), (.int .i64 m7)]), (.agg #[(.int .i64 p1), (.int .i64 p2)])] w (Ret w (.bool true)) := by
  rcases there_all m1 m2 m3 m4 m5 m6 m7 p1 p2 with ⟨f, hf, A⟩ | ⟨x1, x2, x3, x4, z1, z2, z3, z4, y1, y2, y3, y4, g, hi, hg, A, B, K⟩
  · rcases hf with e | e
    all_goals
      subst e
      go_enter Try.func10, Try.ntmps10
      go_wp2_with fail
      refine Calls.mono (head_c _) ?_
      rintro e w1 ⟨rfl, hb⟩
      have km0 : w1.cell? ⟨w.heap.size, 0, none⟩ = some (.int .i64 m1) := cell_later hb (by go_simp)
      have km1 : w1.cell? ⟨w.heap.size, 1, none⟩ = some (.int .i64 m2) := cell_later hb (by go_simp)
      have km2 : w1.cell? ⟨w.heap.size, 2, none⟩ = some (.int .i64 m3) := cell_later hb (by go_simp)
      have km3 : w1.cell? ⟨w.heap.size, 3, none⟩ = some (.int .i64 m4) := cell_later hb (by go_simp)
      have km4 : w1.cell? ⟨w.heap.size, 4, none⟩ = some (.int .i64 m5) := cell_later hb (by go_simp)
      have km5 : w1.cell? ⟨w.heap.size, 5, none⟩ = some (.int .i64 m6) := cell_later hb (by go_simp)
      have km6 : w1.cell? ⟨w.heap.size, 6, none⟩ = some (.int .i64 m7) := cell_later hb (by go_simp)
      have kp0 : w1.cell? ⟨w.heap.size + 1, 0, none⟩ = some (.int .i64 p1) := cell_later hb (by go_simp)
      have kp1 : w1.cell? ⟨w.heap.size + 1, 1, none⟩ = some (.int .i64 p2) := cell_later hb (by go_simp)
      have zm : w.heap.size < w1.heap.size := World.block_lt_of_cell? _ _ km0
      have zm_w1 := zm
      have zp : w.heap.size + 1 < w1.heap.size := World.block_lt_of_cell? _ _ kp0
      have zp_w1 := zp
      have hb0 : Below w.heap.size w w1 := (by repeat (first | with_reducible exact Below.refl _ _ | with_reducible assumption | with_reducible refine Below.setCell ?_ (by first | omega | (simp <;> omega)) _ | with_reducible refine balloc ?_ _ | with_reducible refine Below.drew ?_ | with_reducible refine bstep ?_ (by with_reducible assumption)))
      have hs_w1 := hb.size; (try simp only [World.size_alloc, World.size_setCell] at hs_w1)
      clear hb
      go_wp2_with fail
      refine Calls.mono (A _) ?_
      rintro e w2 ⟨rfl, hb⟩
      replace km0 := cell_later hb km0
      replace km1 := cell_later hb km1
      replace km2 := cell_later hb km2
      replace km3 := cell_later hb km3
      replace km4 := cell_later hb km4
      replace km5 := cell_later hb km5
      replace km6 := cell_later hb km6
      replace kp0 := cell_later hb kp0
      replace kp1 := cell_later hb kp1
      replace zm : w.heap.size < w2.heap.size := World.block_lt_of_cell? _ _ km0
      have zm_w2 := zm
      replace zp : w.heap.size + 1 < w2.heap.size := World.block_lt_of_cell? _ _ kp0
      have zp_w2 := zp
      replace hb0 : Below w.heap.size w w2 := (by repeat (first | with_reducible exact Below.refl _ _ | with_reducible assumption | with_reducible refine Below.setCell ?_ (by first | omega | (simp <;> omega)) _ | with_reducible refine balloc ?_ _ | with_reducible refine Below.drew ?_ | with_reducible refine bstep ?_ (by with_reducible assumption)))
      have hs_w2 : w1.heap.size ≤ w2.heap.size := hb.size
      clear hb
      go_wp2
      all_goals first | (exfalso; omega) | (go_ret; refine ret_bool ?_ (by repeat (first | with_reducible exact Below.refl _ _ | with_reducible assumption | with_reducible refine Below.setCell ?_ (by first | omega | (simp <;> omega)) _ | with_reducible refine balloc ?_ _ | with_reducible refine Below.drew ?_ | with_reducible refine bstep ?_ (by with_reducible assumption))); first | (simp; done) | (simp <;> omega) | (simp [*]; done))
  ·
    have I := fun w => in_c z1 z2 z3 z4 p1 p2 w
    rw [hi] at I
    have W := fun w => win_c x1 x2 x3 x4 y1 y2 y3 y4 w
    go_enter Try.func10, Try.ntmps10
    go_wp2_with fail
    refine Calls.mono (head_c _) ?_
    rintro e w1 ⟨rfl, hb⟩
    have km0 : w1.cell? ⟨w.heap.size, 0, none⟩ = some (.int .i64 m1) := cell_later hb (by go_simp)
    have km1 : w1.cell? ⟨w.heap.size, 1, none⟩ = some (.int .i64 m2) := cell_later hb (by go_simp)
    have km2 : w1.cell? ⟨w.heap.size, 2, none⟩ = some (.int .i64 m3) := cell_later hb (by go_simp)
    have km3 : w1.cell? ⟨w.heap.size, 3, none⟩ = some (.int .i64 m4) := cell_later hb (by go_simp)
    have km4 : w1.cell? ⟨w.heap.size, 4, none⟩ = some (.int .i64 m5) := cell_later hb (by go_simp)
    have km5 : w1.cell? ⟨w.heap.size, 5, none⟩ = some (.int .i64 m6) := cell_later hb (by go_simp)
    have km6 : w1.cell? ⟨w.heap.size, 6, none⟩ = some (.int .i64 m7) := cell_later hb (by go_simp)
    have kp0 : w1.cell? ⟨w.heap.size + 1, 0, none⟩ = some (.int .i64 p1) := cell_later hb (by go_simp)
    have kp1 : w1.cell? ⟨w.heap.size + 1, 1, none⟩ = some (.int .i64 p2) := cell_later hb (by go_simp)
    have zm : w.heap.size < w1.heap.size := World.block_lt_of_cell? _ _ km0
    have zm_w1 := zm
    have zp : w.heap.size + 1 < w1.heap.size := World.block_lt_of_cell? _ _ kp0
    have zp_w1 := zp
    have hb0 : Below w.heap.size w w1 := (by repeat (first | with_reducible exact Below.refl _ _ | with_reducible assumption | with_reducible refine Below.setCell ?_ (by first | omega | (simp <;> omega)) _ | with_reducible refine balloc ?_ _ | with_reducible refine Below.drew ?_ | with_reducible refine bstep ?_ (by with_reducible assumption)))
    have hs_w1 := hb.size; (try simp only [World.size_alloc, World.size_setCell] at hs_w1)
    clear hb
    go_wp2_with fail
    refine Calls.mono (A _) ?_
    rintro e w2 ⟨rfl, hb⟩
    replace km0 := cell_later hb km0
    replace km1 := cell_later hb km1
    replace km2 := cell_later hb km2
    replace km3 := cell_later hb km3
    replace km4 := cell_later hb km4
    replace km5 := cell_later hb km5
    replace km6 := cell_later hb km6
    replace kp0 := cell_later hb kp0
    replace kp1 := cell_later hb kp1
    replace zm : w.heap.size < w2.heap.size := World.block_lt_of_cell? _ _ km0
    have zm_w2 := zm
    replace zp : w.heap.size + 1 < w2.heap.size := World.block_lt_of_cell? _ _ kp0
    have zp_w2 := zp
    replace hb0 : Below w.heap.size w w2 := (by repeat (first | with_reducible exact Below.refl _ _ | with_reducible assumption | with_reducible refine Below.setCell ?_ (by first | omega | (simp <;> omega)) _ | with_reducible refine balloc ?_ _ | with_reducible refine Below.drew ?_ | with_reducible refine bstep ?_ (by with_reducible assumption)))
    have hs_w2 : w1.heap.size ≤ w2.heap.size := hb.size
    clear hb
    go_wp2_with fail
    refine Calls.mono (B _) ?_
    rintro e w3 ⟨rfl, hb⟩
    replace km0 := cell_later hb (cell_al _ km0)
    replace km1 := cell_later hb (cell_al _ km1)
    replace km2 := cell_later hb (cell_al _ km2)
    replace km3 := cell_later hb (cell_al _ km3)
    replace km4 := cell_later hb (cell_al _ km4)
    replace km5 := cell_later hb (cell_al _ km5)
    replace km6 := cell_later hb (cell_al _ km6)
    replace kp0 := cell_later hb (cell_al _ kp0)
    replace kp1 := cell_later hb (cell_al _ kp1)
    have kx0 : w3.cell? ⟨w2.heap.size, 0, none⟩ = some (.int .i64 x1) := cell_later hb (by go_simp)
    have kx1 : w3.cell? ⟨w2.heap.size, 1, none⟩ = some (.int .i64 x2) := cell_later hb (by go_simp)
    have kx2 : w3.cell? ⟨w2.heap.size, 2, none⟩ = some (.int .i64 x3) := cell_later hb (by go_simp)
    have kx3 : w3.cell? ⟨w2.heap.size, 3, none⟩ = some (.int .i64 x4) := cell_later hb (by go_simp)
    replace zm : w.heap.size < w3.heap.size := World.block_lt_of_cell? _ _ km0
    have zm_w3 := zm
    replace zp : w.heap.size + 1 < w3.heap.size := World.block_lt_of_cell? _ _ kp0
    have zp_w3 := zp
    have zx : w2.heap.size < w3.heap.size := World.block_lt_of_cell? _ _ kx0
    have zx_w3 := zx
    replace hb0 : Below w.heap.size w w3 := (by repeat (first | with_reducible exact Below.refl _ _ | with_reducible assumption | with_reducible refine Below.setCell ?_ (by first | omega | (simp <;> omega)) _ | with_reducible refine balloc ?_ _ | with_reducible refine Below.drew ?_ | with_reducible refine bstep ?_ (by with_reducible assumption)))
    have hs_w3 := hb.size; (try simp only [World.size_alloc, World.size_setCell] at hs_w3)
    clear hb
    go_wp2_with fail
    refine Calls.mono (I _) ?_
    rintro e w4 ⟨rfl, hb⟩
    replace km0 := cell_later hb (cell_al _ km0)
    replace km1 := cell_later hb (cell_al _ km1)
    replace km2 := cell_later hb (cell_al _ km2)
    replace km3 := cell_later hb (cell_al _ km3)
    replace km4 := cell_later hb (cell_al _ km4)
    replace km5 := cell_later hb (cell_al _ km5)
    replace km6 := cell_later hb (cell_al _ km6)
    replace kp0 := cell_later hb (cell_al _ kp0)
    replace kp1 := cell_later hb (cell_al _ kp1)
    replace kx0 := cell_later hb (cell_al _ kx0)
    replace kx1 := cell_later hb (cell_al _ kx1)
    replace kx2 := cell_later hb (cell_al _ kx2)
    replace kx3 := cell_later hb (cell_al _ kx3)
    have kz0 : w4.cell? ⟨w3.heap.size, 0, none⟩ = some (.int .i64 z1) := cell_later hb (by go_simp)
    have kz1 : w4.cell? ⟨w3.heap.size, 1, none⟩ = some (.int .i64 z2) := cell_later hb (by go_simp)
    have kz2 : w4.cell? ⟨w3.heap.size, 2, none⟩ = some (.int .i64 z3) := cell_later hb (by go_simp)
    have kz3 : w4.cell? ⟨w3.heap.size, 3, none⟩ = some (.int .i64 z4) := cell_later hb (by go_simp)
    replace zm : w.heap.size < w4.heap.size := World.block_lt_of_cell? _ _ km0
    have zm_w4 := zm
    replace zp : w.heap.size + 1 < w4.heap.size := World.block_lt_of_cell? _ _ kp0
    have zp_w4 := zp
    replace zx : w2.heap.size < w4.heap.size := World.block_lt_of_cell? _ _ kx0
    have zx_w4 := zx
    have zz : w3.heap.size < w4.heap.size := World.block_lt_of_cell? _ _ kz0
    have zz_w4 := zz
    replace hb0 : Below w.heap.size w w4 := (by repeat (first | with_reducible exact Below.refl _ _ | with_reducible assumption | with_reducible refine Below.setCell ?_ (by first | omega | (simp <;> omega)) _ | with_reducible refine balloc ?_ _ | with_reducible refine Below.drew ?_ | with_reducible refine bstep ?_ (by with_reducible assumption)))
    have hs_w4 := hb.size; (try simp only [World.size_alloc, World.size_setCell] at hs_w4)
    clear hb
    go_wp2_with fail
    refine Calls.mono (K _) ?_
    rintro e w5 ⟨rfl, hb⟩
    replace km0 := cell_later hb km0
    replace km1 := cell_later hb km1
    replace km2 := cell_later hb km2
    replace km3 := cell_later hb km3
    replace km4 := cell_later hb km4
    replace km5 := cell_later hb km5
    replace km6 := cell_later hb km6
    replace kp0 := cell_later hb kp0
    replace kp1 := cell_later hb kp1
    replace kx0 := cell_later hb kx0
    replace kx1 := cell_later hb kx1
    replace kx2 := cell_later hb kx2
    replace kx3 := cell_later hb kx3
    replace kz0 := cell_later hb kz0
    replace kz1 := cell_later hb kz1
    replace kz2 := cell_later hb kz2
    replace kz3 := cell_later hb kz3
    replace zm : w.heap.size < w5.heap.size := World.block_lt_of_cell? _ _ km0
    have zm_w5 := zm
    replace zp : w.heap.size + 1 < w5.heap.size := World.block_lt_of_cell? _ _ kp0
    have zp_w5 := zp
    replace zx : w2.heap.size < w5.heap.size := World.block_lt_of_cell? _ _ kx0
    have zx_w5 := zx
    replace zz : w3.heap.size < w5.heap.size := World.block_lt_of_cell? _ _ kz0
    have zz_w5 := zz
    replace hb0 : Below w.heap.size w w5 := (by repeat (first | with_reducible exact Below.refl _ _ | with_reducible assumption | with_reducible refine Below.setCell ?_ (by first | omega | (simp <;> omega)) _ | with_reducible refine balloc ?_ _ | with_reducible refine Below.drew ?_ | with_reducible refine bstep ?_ (by with_reducible assumption)))
    have hs_w5 : w4.heap.size ≤ w5.heap.size := hb.size
    clear hb
    rcases hg with e1 | ⟨e1, e2⟩
    · subst e1
      go_wp2
      all_goals first | (exfalso; omega) | (go_ret; refine ret_bool ?_ (by repeat (first | with_reducible exact Below.refl _ _ | with_reducible assumption | with_reducible refine Below.setCell ?_ (by first | omega | (simp <;> omega)) _ | with_reducible refine balloc ?_ _ | with_reducible refine Below.drew ?_ | with_reducible refine bstep ?_ (by with_reducible assumption))); first | (simp; done) | (simp <;> omega) | (simp [*]; done))
    · subst e1
      rw [e2] at W
      go_wp2_with fail
      refine Calls.mono (W _) ?_
      rintro e w6 ⟨rfl, hb⟩
      replace km0 := cell_later hb (cell_al _ km0)
      replace km1 := cell_later hb (cell_al _ km1)
      replace km2 := cell_later hb (cell_al _ km2)
      replace km3 := cell_later hb (cell_al _ km3)
      replace km4 := cell_later hb (cell_al _ km4)
      replace km5 := cell_later hb (cell_al _ km5)
      replace km6 := cell_later hb (cell_al _ km6)
      replace kp0 := cell_later hb (cell_al _ kp0)
      replace kp1 := cell_later hb (cell_al _ kp1)
      replace kx0 := cell_later hb (cell_al _ kx0)
      replace kx1 := cell_later hb (cell_al _ kx1)
      replace kx2 := cell_later hb (cell_al _ kx2)
      replace kx3 := cell_later hb (cell_al _ kx3)
      replace kz0 := cell_later hb (cell_al _ kz0)
      replace kz1 := cell_later hb (cell_al _ kz1)
      replace kz2 := cell_later hb (cell_al _ kz2)
      replace kz3 := cell_later hb (cell_al _ kz3)
      have ky0 : w6.cell? ⟨w5.heap.size, 0, none⟩ = some (.int .i64 y1) := cell_later hb (by go_simp)
      have ky1 : w6.cell? ⟨w5.heap.size, 1, none⟩ = some (.int .i64 y2) := cell_later hb (by go_simp)
      have ky2 : w6.cell? ⟨w5.heap.size, 2, none⟩ = some (.int .i64 y3) := cell_later hb (by go_simp)
      have ky3 : w6.cell? ⟨w5.heap.size, 3, none⟩ = some (.int .i64 y4) := cell_later hb (by go_simp)
      replace zm : w.heap.size < w6.heap.size := World.block_lt_of_cell? _ _ km0
      have zm_w6 := zm
      replace zp : w.heap.size + 1 < w6.heap.size := World.block_lt_of_cell? _ _ kp0
      have zp_w6 := zp
      replace zx : w2.heap.size < w6.heap.size := World.block_lt_of_cell? _ _ kx0
      have zx_w6 := zx
      replace zz : w3.heap.size < w6.heap.size := World.block_lt_of_cell? _ _ kz0
      have zz_w6 := zz
      have zy : w5.heap.size < w6.heap.size := World.block_lt_of_cell? _ _ ky0
      have zy_w6 := zy
      replace hb0 : Below w.heap.size w w6 := (by repeat (first | with_reducible exact Below.refl _ _ | with_reducible assumption | with_reducible refine Below.setCell ?_ (by first | omega | (simp <;> omega)) _ | with_reducible refine balloc ?_ _ | with_reducible refine Below.drew ?_ | with_reducible refine bstep ?_ (by with_reducible assumption)))
      have hs_w6 := hb.size; (try simp only [World.size_alloc, World.size_setCell] at hs_w6)
      clear hb
      go_wp2
      all_goals first | (exfalso; omega) | (go_ret; refine ret_bool ?_ (by repeat (first | with_reducible exact Below.refl _ _ | with_reducible assumption | with_reducible refine Below.setCell ?_ (by first | omega | (simp <;> omega)) _ | with_reducible refine balloc ?_ _ | with_reducible refine Below.drew ?_ | with_reducible refine bstep ?_ (by with_reducible assumption))); first | (simp; done) | (simp <;> omega) | (simp [*]; done))


end Go.Proofs.Ytlkjpackjjncaaa.Da
