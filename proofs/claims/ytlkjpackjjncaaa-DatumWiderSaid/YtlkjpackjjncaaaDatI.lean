/- DatI: carry. -/
import Derived.Test.YtlkjpackjjncaaaDatG
import Derived.Test.YtlkjpackjjncaaaSpanE
import Derived.Test.YtlkjpackjjncaaaRows
import Derived.WalkKit
import Derived.WalkSpells
import Derived.WalkLawsBesides
import Derived.Lib.Hide
import Derived.Deep.QuietTactic
import Derived.BigQuiet
import Derived.RegionTactic
import Derived.ChangeAlike
import Derived.BigRegion
import Derived.Deep.RegionHeld3
import Derived.Deep.RegionWith
import Derived.Outline
import Derived.Laws.EntriesVeiled
import Derived.Deep.DeepCutAuto
namespace Go.Proofs.Ytlkjpackjjncaaa.Da
open Go.RowKit Sp
set_option linter.unusedSimpArgs false
set_option linter.unusedVariables false

set_option maxRecDepth 20000 in
set_option maxHeartbeats 12800000 in
theorem carry_c (m1 m2 m3 m4 m5 m6 m7 b1 b2 b3 b4 : Int) (w : World) (hm1 : -2000000 ≤ m1 ∧ m1 ≤ 2000000) (hm2 : -2000000 ≤ m2 ∧ m2 ≤ 2000000) (hm4 : -2000000 ≤ m4 ∧ m4 ≤ 2000000) (hm5 : -2000000 ≤ m5 ∧ m5 ≤ 2000000) (hm3 : -100000 ≤ m3 ∧ m3 ≤ 100000) (hm6 : -100000 ≤ m6 ∧ m6 ≤ 100000) (hm7 : 0 ≤ m7 ∧ m7 ≤ 1000) (hbx : (-1000000 ≤ b1 ∧ b1 ≤ b2 ∧ b2 ≤ 1000000) ∧ (-1000000 ≤ b3 ∧ b3 ≤ b4 ∧ b4 ≤ 1000000)) : Calls Try.prog 38 #[(.agg #[(.int .i64 m1), (.int .i64 m2), (.int .i64 m3), (.int .i64 m4), (.int .i64 m5), (.int .i64 m6), (.int .i64 m7)]), (.agg #[(.int .i64 b1), (.int .i64 b2), (.int .i64 b3), (.int .i64 b4)])] w (Ret w (.tuple #[.agg #[(.int .i64 (selI (rCarry m1 m2 m3 m4 m5 m6 m7 b1 b2 b3 b4) (cL m1 m2 m3 m7 b1 b2 b3 b4))), (.int .i64 (selI (rCarry m1 m2 m3 m4 m5 m6 m7 b1 b2 b3 b4) (cH m1 m2 m3 m7 b1 b2 b3 b4))), (.int .i64 (selI (rCarry m1 m2 m3 m4 m5 m6 m7 b1 b2 b3 b4) (cL m4 m5 m6 m7 b1 b2 b3 b4))), (.int .i64 (selI (rCarry m1 m2 m3 m4 m5 m6 m7 b1 b2 b3 b4) (cH m4 m5 m6 m7 b1 b2 b3 b4)))], (.int .i64 (erv true (rCarry m1 m2 m3 m4 m5 m6 m7 b1 b2 b3 b4) 3))])) := by
  rw [← vB_iff] at hbx
  have hbx2 := vB_iff.1 hbx
  clear hbx
  have hbx := hbx2
  clear hbx2
  have hb1 : -1200000 ≤ b1 ∧ b1 ≤ 1200000 := by omega
  have hb2 : -1200000 ≤ b2 ∧ b2 ≤ 1200000 := by omega
  have hb3 : -1200000 ≤ b3 ∧ b3 ≤ 1200000 := by omega
  have hb4 : -1200000 ≤ b4 ∧ b4 ≤ 1200000 := by omega
  have O1 := ov_bd (a := m1) (b := m2) (c := m3) hm1 hm2 hm3 hb1 hb2 hb3 hb4
  have O2 := ov_bd (a := m4) (b := m5) (c := m6) hm4 hm5 hm6 hb1 hb2 hb3 hb4
  have C1 := fun w => both_over m1 m2 m3 m4 m5 m6 b1 b2 b3 b4 w hm1 hm2 hm4 hm5 hm3 hm6 hb1 hb2 hb3 hb4
  unfold rCarry cL cH
  generalize oL m1 m2 m3 b1 b2 b3 b4 = x1 at *
  generalize oH m1 m2 m3 b1 b2 b3 b4 = x2 at *
  generalize oL m4 m5 m6 b1 b2 b3 b4 = y1 at *
  generalize oH m4 m5 m6 b1 b2 b3 b4 = y2 at *
  have X1 := fun w => outward_c x1 x2 1000000 w (by omega) (by omega) (by omega) (by omega) (by omega)
  have Y1 := fun w => outward_c y1 y2 1000000 w (by omega) (by omega) (by omega) (by omega) (by omega)
  have lx := dn_le_upd (d := 1000000) (by omega) O1.2.1
  have ly := dn_le_upd (d := 1000000) (by omega) O2.2.1
  clear O1 O2 hb1 hb2 hb3 hb4 hbx
  generalize dn x1 1000000 = a1 at *
  generalize upd x2 1000000 = a2 at *
  generalize dn y1 1000000 = a3 at *
  generalize upd y2 1000000 = a4 at *
  rcases Bool.eq_false_or_eq_true (vB a1 a2 a3 a4) with h1 | h1
  ·
    have g1 : vGrowBox a1 a2 a3 a4 m7 = true := by unfold vGrowBox; rw [h1]; simp; omega
    have g2 : rGrowBox a1 a2 a3 a4 m7 = vB (a1 - m7) (a2 + m7) (a3 - m7) (a4 + m7) := rfl
    have G1 := fun w => GrowBox_c a1 a2 a3 a4 m7 w
    simp only [g1, g2, Bool.true_and] at G1
    clear g1 g2
    generalize vB (a1 - m7) (a2 + m7) (a3 - m7) (a4 + m7) = f at *
    go_enter Try.func38, Try.ntmps38
    go_wp2_with fail
    refine Calls.mono (C1 _) ?_
    rintro e w1 ⟨rfl, hb⟩
    have km0 : w1.cell? ⟨w.heap.size, 0, none⟩ = some (.int .i64 m1) := cell_later hb (by go_simp)
    have km1 : w1.cell? ⟨w.heap.size, 1, none⟩ = some (.int .i64 m2) := cell_later hb (by go_simp)
    have km2 : w1.cell? ⟨w.heap.size, 2, none⟩ = some (.int .i64 m3) := cell_later hb (by go_simp)
    have km3 : w1.cell? ⟨w.heap.size, 3, none⟩ = some (.int .i64 m4) := cell_later hb (by go_simp)
    have km4 : w1.cell? ⟨w.heap.size, 4, none⟩ = some (.int .i64 m5) := cell_later hb (by go_simp)
    have km5 : w1.cell? ⟨w.heap.size, 5, none⟩ = some (.int .i64 m6) := cell_later hb (by go_simp)
    have km6 : w1.cell? ⟨w.heap.size, 6, none⟩ = some (.int .i64 m7) := cell_later hb (by go_simp)
    have kb0 : w1.cell? ⟨w.heap.size + 1, 0, none⟩ = some (.int .i64 b1) := cell_later hb (by go_simp)
    have kb1 : w1.cell? ⟨w.heap.size + 1, 1, none⟩ = some (.int .i64 b2) := cell_later hb (by go_simp)
    have kb2 : w1.cell? ⟨w.heap.size + 1, 2, none⟩ = some (.int .i64 b3) := cell_later hb (by go_simp)
    have kb3 : w1.cell? ⟨w.heap.size + 1, 3, none⟩ = some (.int .i64 b4) := cell_later hb (by go_simp)
    have kr0 : w1.cell? ⟨w.heap.size + 1 + 1, 0, none⟩ = some (.int .i64 0) := cell_later hb (by go_simp)
    have jr0 : w1.frozen? ⟨w.heap.size + 1 + 1, 0, none⟩ = false := by rw [(bcell hb).2 _ _ (by first | omega | (simp <;> omega))]; go_simp
    have kr1 : w1.cell? ⟨w.heap.size + 1 + 1, 1, none⟩ = some (.int .i64 0) := cell_later hb (by go_simp)
    have jr1 : w1.frozen? ⟨w.heap.size + 1 + 1, 1, none⟩ = false := by rw [(bcell hb).2 _ _ (by first | omega | (simp <;> omega))]; go_simp
    have kr2 : w1.cell? ⟨w.heap.size + 1 + 1, 2, none⟩ = some (.int .i64 0) := cell_later hb (by go_simp)
    have jr2 : w1.frozen? ⟨w.heap.size + 1 + 1, 2, none⟩ = false := by rw [(bcell hb).2 _ _ (by first | omega | (simp <;> omega))]; go_simp
    have kr3 : w1.cell? ⟨w.heap.size + 1 + 1, 3, none⟩ = some (.int .i64 0) := cell_later hb (by go_simp)
    have jr3 : w1.frozen? ⟨w.heap.size + 1 + 1, 3, none⟩ = false := by rw [(bcell hb).2 _ _ (by first | omega | (simp <;> omega))]; go_simp
    have zm : w.heap.size < w1.heap.size := World.block_lt_of_cell? _ _ km0
    have zm_w1 := zm
    have zb : w.heap.size + 1 < w1.heap.size := World.block_lt_of_cell? _ _ kb0
    have zb_w1 := zb
    have zr : w.heap.size + 1 + 1 < w1.heap.size := World.block_lt_of_cell? _ _ kr0
    have zr_w1 := zr
    have hb0 : Below w.heap.size w w1 := (by repeat (first | with_reducible exact Below.refl _ _ | with_reducible assumption | with_reducible refine Below.setCell ?_ (by first | omega | (simp <;> omega)) _ | with_reducible refine balloc ?_ _ | with_reducible refine Below.drew ?_ | with_reducible refine bstep ?_ (by with_reducible assumption)))
    have hs_w1 := hb.size; (try simp only [World.size_alloc, World.size_setCell] at hs_w1)
    clear hb
    go_upto_region 2 with fail
    go_cut [8] (fun s8 wx => ∃ gd : Nat, s8 = .pointer (some ⟨gd, 0, none⟩) ∧ w1.heap.size + 1 + 1 ≤ gd ∧ wx.cell? ⟨gd, 0, none⟩ = some (.int .i64 a1) ∧ wx.cell? ⟨gd, 1, none⟩ = some (.int .i64 a2) ∧ wx.cell? ⟨gd, 2, none⟩ = some (.int .i64 a3) ∧ wx.cell? ⟨gd, 3, none⟩ = some (.int .i64 a4) ∧ wx.cell? ⟨w.heap.size, 0, none⟩ = some (.int .i64 m1) ∧ wx.cell? ⟨w.heap.size, 1, none⟩ = some (.int .i64 m2) ∧ wx.cell? ⟨w.heap.size, 2, none⟩ = some (.int .i64 m3) ∧ wx.cell? ⟨w.heap.size, 3, none⟩ = some (.int .i64 m4) ∧ wx.cell? ⟨w.heap.size, 4, none⟩ = some (.int .i64 m5) ∧ wx.cell? ⟨w.heap.size, 5, none⟩ = some (.int .i64 m6) ∧ wx.cell? ⟨w.heap.size, 6, none⟩ = some (.int .i64 m7) ∧ wx.cell? ⟨w.heap.size + 1, 0, none⟩ = some (.int .i64 b1) ∧ wx.cell? ⟨w.heap.size + 1, 1, none⟩ = some (.int .i64 b2) ∧ wx.cell? ⟨w.heap.size + 1, 2, none⟩ = some (.int .i64 b3) ∧ wx.cell? ⟨w.heap.size + 1, 3, none⟩ = some (.int .i64 b4) ∧ wx.cell? ⟨w.heap.size + 1 + 1, 0, none⟩ = some (.int .i64 0) ∧ wx.frozen? ⟨w.heap.size + 1 + 1, 0, none⟩ = false ∧ wx.cell? ⟨w.heap.size + 1 + 1, 1, none⟩ = some (.int .i64 0) ∧ wx.frozen? ⟨w.heap.size + 1 + 1, 1, none⟩ = false ∧ wx.cell? ⟨w.heap.size + 1 + 1, 2, none⟩ = some (.int .i64 0) ∧ wx.frozen? ⟨w.heap.size + 1 + 1, 2, none⟩ = false ∧ wx.cell? ⟨w.heap.size + 1 + 1, 3, none⟩ = some (.int .i64 0) ∧ wx.frozen? ⟨w.heap.size + 1 + 1, 3, none⟩ = false ∧ wx.cell? ⟨w1.heap.size, 0, none⟩ = some (.int .i64 x1) ∧ wx.cell? ⟨w1.heap.size, 1, none⟩ = some (.int .i64 x2) ∧ wx.cell? ⟨w1.heap.size + 1, 0, none⟩ = some (.int .i64 y1) ∧ wx.cell? ⟨w1.heap.size + 1, 1, none⟩ = some (.int .i64 y2) ∧ Below w.heap.size w wx)
    case first =>
      refine wp_region_held_drew (S := fun w' => w'.cell? ⟨w1.heap.size, 0, none⟩ = some (.int .i64 x1) ∧ w'.cell? ⟨w1.heap.size, 1, none⟩ = some (.int .i64 x2) ∧ w'.cell? ⟨w1.heap.size + 1, 0, none⟩ = some (.int .i64 y1) ∧ w'.cell? ⟨w1.heap.size + 1, 1, none⟩ = some (.int .i64 y2)) (by kernel_rfl) (by first | (go_keep; done) | ((repeat' apply And.intro) <;> go_simp)) (fun hHeld => ?_)
      refine wpAnyH_take (i := 1) (oi := ⟨some 17, _, _, _, _, _⟩) (v := ?_) rfl (by kernel_rfl) (by kernel_rfl) (by kernel_rfl) (fun _ _ _ h => h) (Or.inl ⟨by rfl, ?_⟩) (by assumption) ?_
      rotate_left
      · intro w hSw; (try dsimp only at hSw); go_simp; try with_reducible rfl
      try simp only [Act.put, List.setIfInBounds_toArray, List.set_cons_zero, List.set_cons_succ]
      refine wpAnyH_take (i := 4) (oi := ⟨some 20, _, _, _, _, _⟩) (v := ?_) rfl (by kernel_rfl) (by kernel_rfl) (by kernel_rfl) (fun _ _ _ h => h) (Or.inl ⟨by rfl, ?_⟩) (by assumption) ?_
      rotate_left
      · intro w hSw; (try dsimp only at hSw); go_simp; try with_reducible rfl
      try simp only [Act.put, List.setIfInBounds_toArray, List.set_cons_zero, List.set_cons_succ]
      refine wpAnyH_ready (rs := [0, 7]) (by kernel_rfl) (by simp) ?_
      refine AllReadyH.cons (o := ⟨some 16, _, _, _, _, _⟩) rfl (fun KK hKK => ?_) (AllReadyH.cons (o := ⟨some 8, _, _, _, _, _⟩) rfl (fun KK hKK => ?_) AllReadyH.nil)
      · go_simp
        refine Calls.mono (ways_c _) ?_
        rintro e wt2 ⟨rfl, hb⟩
        replace km0 := cell_later hb (cell_al _ (cell_al _ km0))
        replace km1 := cell_later hb (cell_al _ (cell_al _ km1))
        replace km2 := cell_later hb (cell_al _ (cell_al _ km2))
        replace km3 := cell_later hb (cell_al _ (cell_al _ km3))
        replace km4 := cell_later hb (cell_al _ (cell_al _ km4))
        replace km5 := cell_later hb (cell_al _ (cell_al _ km5))
        replace km6 := cell_later hb (cell_al _ (cell_al _ km6))
        replace kb0 := cell_later hb (cell_al _ (cell_al _ kb0))
        replace kb1 := cell_later hb (cell_al _ (cell_al _ kb1))
        replace kb2 := cell_later hb (cell_al _ (cell_al _ kb2))
        replace kb3 := cell_later hb (cell_al _ (cell_al _ kb3))
        replace jr0 := fro_later hb (cell_al _ (cell_al _ kr0)) (fro_al (fro_al jr0))
        replace kr0 := cell_later hb (cell_al _ (cell_al _ kr0))
        replace jr1 := fro_later hb (cell_al _ (cell_al _ kr1)) (fro_al (fro_al jr1))
        replace kr1 := cell_later hb (cell_al _ (cell_al _ kr1))
        replace jr2 := fro_later hb (cell_al _ (cell_al _ kr2)) (fro_al (fro_al jr2))
        replace kr2 := cell_later hb (cell_al _ (cell_al _ kr2))
        replace jr3 := fro_later hb (cell_al _ (cell_al _ kr3)) (fro_al (fro_al jr3))
        replace kr3 := cell_later hb (cell_al _ (cell_al _ kr3))
        have kx0 : wt2.cell? ⟨w1.heap.size, 0, none⟩ = some (.int .i64 x1) := cell_later hb (by go_simp)
        have kx1 : wt2.cell? ⟨w1.heap.size, 1, none⟩ = some (.int .i64 x2) := cell_later hb (by go_simp)
        have ky0 : wt2.cell? ⟨w1.heap.size + 1, 0, none⟩ = some (.int .i64 y1) := cell_later hb (by go_simp)
        have ky1 : wt2.cell? ⟨w1.heap.size + 1, 1, none⟩ = some (.int .i64 y2) := cell_later hb (by go_simp)
        replace zm : w.heap.size < wt2.heap.size := World.block_lt_of_cell? _ _ km0
        have zm_wt2 := zm
        replace zb : w.heap.size + 1 < wt2.heap.size := World.block_lt_of_cell? _ _ kb0
        have zb_wt2 := zb
        replace zr : w.heap.size + 1 + 1 < wt2.heap.size := World.block_lt_of_cell? _ _ kr0
        have zr_wt2 := zr
        have zx : w1.heap.size < wt2.heap.size := World.block_lt_of_cell? _ _ kx0
        have zx_wt2 := zx
        have zy : w1.heap.size + 1 < wt2.heap.size := World.block_lt_of_cell? _ _ ky0
        have zy_wt2 := zy
        replace hb0 : Below w.heap.size w wt2 := (by repeat (first | with_reducible exact Below.refl _ _ | with_reducible assumption | with_reducible refine Below.setCell ?_ (by first | omega | (simp <;> omega)) _ | with_reducible refine balloc ?_ _ | with_reducible refine Below.drew ?_ | with_reducible refine bstep ?_ (by with_reducible assumption)))
        have hs_wt2 := hb.size; (try simp only [World.size_alloc, World.size_setCell] at hs_wt2)
        clear hb
        (try go_wp2_with fail)
        refine hKK.out _ _ (by first | (go_keep; done) | ((repeat' apply And.intro) <;> go_simp)) (fun hHeld => ?_)
        clear hKK KK
        try simp only [Act.put, List.setIfInBounds_toArray, List.set_cons_zero, List.set_cons_succ]
        refine wpAnyH_ready (rs := [2, 7]) (by kernel_rfl) (by simp) ?_
        refine AllReadyH.cons (o := ⟨some 18, _, _, _, _, _⟩) rfl (fun KK hKK => ?_) (AllReadyH.cons (o := ⟨some 8, _, _, _, _, _⟩) rfl (fun KK hKK => ?_) AllReadyH.nil)
        · go_simp
          refine Calls.mono (X1 _) ?_
          rintro e wt3 ⟨rfl, hb⟩
          replace km0 := cell_later hb km0
          replace km1 := cell_later hb km1
          replace km2 := cell_later hb km2
          replace km3 := cell_later hb km3
          replace km4 := cell_later hb km4
          replace km5 := cell_later hb km5
          replace km6 := cell_later hb km6
          replace kb0 := cell_later hb kb0
          replace kb1 := cell_later hb kb1
          replace kb2 := cell_later hb kb2
          replace kb3 := cell_later hb kb3
          replace jr0 := fro_later hb kr0 jr0
          replace kr0 := cell_later hb kr0
          replace jr1 := fro_later hb kr1 jr1
          replace kr1 := cell_later hb kr1
          replace jr2 := fro_later hb kr2 jr2
          replace kr2 := cell_later hb kr2
          replace jr3 := fro_later hb kr3 jr3
          replace kr3 := cell_later hb kr3
          replace kx0 := cell_later hb kx0
          replace kx1 := cell_later hb kx1
          replace ky0 := cell_later hb ky0
          replace ky1 := cell_later hb ky1
          replace zm : w.heap.size < wt3.heap.size := World.block_lt_of_cell? _ _ km0
          have zm_wt3 := zm
          replace zb : w.heap.size + 1 < wt3.heap.size := World.block_lt_of_cell? _ _ kb0
          have zb_wt3 := zb
          replace zr : w.heap.size + 1 + 1 < wt3.heap.size := World.block_lt_of_cell? _ _ kr0
          have zr_wt3 := zr
          replace zx : w1.heap.size < wt3.heap.size := World.block_lt_of_cell? _ _ kx0
          have zx_wt3 := zx
          replace zy : w1.heap.size + 1 < wt3.heap.size := World.block_lt_of_cell? _ _ ky0
          have zy_wt3 := zy
          replace hb0 : Below w.heap.size w wt3 := (by repeat (first | with_reducible exact Below.refl _ _ | with_reducible assumption | with_reducible refine Below.setCell ?_ (by first | omega | (simp <;> omega)) _ | with_reducible refine balloc ?_ _ | with_reducible refine Below.drew ?_ | with_reducible refine bstep ?_ (by with_reducible assumption)))
          have hs_wt3 : wt2.heap.size ≤ wt3.heap.size := hb.size
          clear hb
          (try go_wp2_with fail)
          refine hKK.out _ _ (by first | (go_keep; done) | ((repeat' apply And.intro) <;> go_simp)) (fun hHeld => ?_)
          clear hKK KK
          try simp only [Act.put, List.setIfInBounds_toArray, List.set_cons_zero, List.set_cons_succ]
          refine wpAnyH_ready (rs := [3, 7]) (by kernel_rfl) (by simp) ?_
          refine AllReadyH.cons (o := ⟨some 19, _, _, _, _, _⟩) rfl (fun KK hKK => ?_) (AllReadyH.cons (o := ⟨some 8, _, _, _, _, _⟩) rfl (fun KK hKK => ?_) AllReadyH.nil)
          · go_simp
            refine Calls.mono (ways_c _) ?_
            rintro e wt4 ⟨rfl, hb⟩
            replace km0 := cell_later hb km0
            replace km1 := cell_later hb km1
            replace km2 := cell_later hb km2
            replace km3 := cell_later hb km3
            replace km4 := cell_later hb km4
            replace km5 := cell_later hb km5
            replace km6 := cell_later hb km6
            replace kb0 := cell_later hb kb0
            replace kb1 := cell_later hb kb1
            replace kb2 := cell_later hb kb2
            replace kb3 := cell_later hb kb3
            replace jr0 := fro_later hb kr0 jr0
            replace kr0 := cell_later hb kr0
            replace jr1 := fro_later hb kr1 jr1
            replace kr1 := cell_later hb kr1
            replace jr2 := fro_later hb kr2 jr2
            replace kr2 := cell_later hb kr2
            replace jr3 := fro_later hb kr3 jr3
            replace kr3 := cell_later hb kr3
            replace kx0 := cell_later hb kx0
            replace kx1 := cell_later hb kx1
            replace ky0 := cell_later hb ky0
            replace ky1 := cell_later hb ky1
            replace zm : w.heap.size < wt4.heap.size := World.block_lt_of_cell? _ _ km0
            have zm_wt4 := zm
            replace zb : w.heap.size + 1 < wt4.heap.size := World.block_lt_of_cell? _ _ kb0
            have zb_wt4 := zb
            replace zr : w.heap.size + 1 + 1 < wt4.heap.size := World.block_lt_of_cell? _ _ kr0
            have zr_wt4 := zr
            replace zx : w1.heap.size < wt4.heap.size := World.block_lt_of_cell? _ _ kx0
            have zx_wt4 := zx
            replace zy : w1.heap.size + 1 < wt4.heap.size := World.block_lt_of_cell? _ _ ky0
            have zy_wt4 := zy
            replace hb0 : Below w.heap.size w wt4 := (by repeat (first | with_reducible exact Below.refl _ _ | with_reducible assumption | with_reducible refine Below.setCell ?_ (by first | omega | (simp <;> omega)) _ | with_reducible refine balloc ?_ _ | with_reducible refine Below.drew ?_ | with_reducible refine bstep ?_ (by with_reducible assumption)))
            have hs_wt4 : wt3.heap.size ≤ wt4.heap.size := hb.size
            clear hb
            (try go_wp2_with fail)
            refine hKK.out _ _ (by first | (go_keep; done) | ((repeat' apply And.intro) <;> go_simp)) (fun hHeld => ?_)
            clear hKK KK
            try simp only [Act.put, List.setIfInBounds_toArray, List.set_cons_zero, List.set_cons_succ]
            refine wpAnyH_ready (rs := [5, 7]) (by kernel_rfl) (by simp) ?_
            refine AllReadyH.cons (o := ⟨some 21, _, _, _, _, _⟩) rfl (fun KK hKK => ?_) (AllReadyH.cons (o := ⟨some 8, _, _, _, _, _⟩) rfl (fun KK hKK => ?_) AllReadyH.nil)
            · go_simp
              refine Calls.mono (Y1 _) ?_
              rintro e wt5 ⟨rfl, hb⟩
              replace km0 := cell_later hb km0
              replace km1 := cell_later hb km1
              replace km2 := cell_later hb km2
              replace km3 := cell_later hb km3
              replace km4 := cell_later hb km4
              replace km5 := cell_later hb km5
              replace km6 := cell_later hb km6
              replace kb0 := cell_later hb kb0
              replace kb1 := cell_later hb kb1
              replace kb2 := cell_later hb kb2
              replace kb3 := cell_later hb kb3
              replace jr0 := fro_later hb kr0 jr0
              replace kr0 := cell_later hb kr0
              replace jr1 := fro_later hb kr1 jr1
              replace kr1 := cell_later hb kr1
              replace jr2 := fro_later hb kr2 jr2
              replace kr2 := cell_later hb kr2
              replace jr3 := fro_later hb kr3 jr3
              replace kr3 := cell_later hb kr3
              replace kx0 := cell_later hb kx0
              replace kx1 := cell_later hb kx1
              replace ky0 := cell_later hb ky0
              replace ky1 := cell_later hb ky1
              replace zm : w.heap.size < wt5.heap.size := World.block_lt_of_cell? _ _ km0
              have zm_wt5 := zm
              replace zb : w.heap.size + 1 < wt5.heap.size := World.block_lt_of_cell? _ _ kb0
              have zb_wt5 := zb
              replace zr : w.heap.size + 1 + 1 < wt5.heap.size := World.block_lt_of_cell? _ _ kr0
              have zr_wt5 := zr
              replace zx : w1.heap.size < wt5.heap.size := World.block_lt_of_cell? _ _ kx0
              have zx_wt5 := zx
              replace zy : w1.heap.size + 1 < wt5.heap.size := World.block_lt_of_cell? _ _ ky0
              have zy_wt5 := zy
              replace hb0 : Below w.heap.size w wt5 := (by repeat (first | with_reducible exact Below.refl _ _ | with_reducible assumption | with_reducible refine Below.setCell ?_ (by first | omega | (simp <;> omega)) _ | with_reducible refine balloc ?_ _ | with_reducible refine Below.drew ?_ | with_reducible refine bstep ?_ (by with_reducible assumption)))
              have hs_wt5 : wt4.heap.size ≤ wt5.heap.size := hb.size
              clear hb
              (try go_wp2_with fail)
              refine hKK.out _ _ (by first | (go_keep; done) | ((repeat' apply And.intro) <;> go_simp)) (fun hHeld => ?_)
              clear hKK KK
              try simp only [Act.put, List.setIfInBounds_toArray, List.set_cons_zero, List.set_cons_succ]
              refine wpAnyH_take (i := 6) (oi := ⟨some 22, _, _, _, _, _⟩) (v := ?_) rfl (by kernel_rfl) (by kernel_rfl) (by kernel_rfl) (fun _ _ _ h => h) (Or.inl ⟨by rfl, ?_⟩) (by assumption) ?_
              rotate_left
              · intro w hSw; (try dsimp only at hSw); go_simp; try with_reducible rfl
              try simp only [Act.put, List.setIfInBounds_toArray, List.set_cons_zero, List.set_cons_succ]
              refine wpAnyH_ready (rs := [7]) (by kernel_rfl) (by simp) ?_
              refine AllReadyH.cons (o := ⟨some 8, _, _, _, _, _⟩) rfl (fun KK hKK => ?_) AllReadyH.nil
              go_simp
              (try go_wp2_with fail)
              refine hKK.out _ _ (by first | (go_keep; done) | ((repeat' apply And.intro) <;> go_simp)) (fun hHeld => ?_)
              clear hKK KK
              try simp only [Act.put, List.setIfInBounds_toArray, List.set_cons_zero, List.set_cons_succ]
              refine wpAnyH_ready (rs := [8]) (by kernel_rfl) (by simp) ?_
              refine AllReadyH.cons (o := ⟨none, _, _, _, _, _⟩) rfl (fun KK hKK => ?_) AllReadyH.nil
              go_simp
              (try go_wp2_with fail)
              refine hKK.out _ _ (by first | (go_keep; done) | ((repeat' apply And.intro) <;> go_simp)) (fun hHeld => ?_)
              clear hKK KK
              try simp only [Act.put, List.setIfInBounds_toArray, List.set_cons_zero, List.set_cons_succ]
              refine wpAnyH_done (by kernel_rfl) ?_ _
              (try dsimp only [Exit.then, Met])
              go_wp2_with fail
              go_meet
              refine ⟨_, rfl, by first | omega | (simp; omega), ?_, ?_, ?_, ?_, ?_, ?_, ?_, ?_, ?_, ?_, ?_, ?_, ?_, ?_, ?_, ?_, ?_, ?_, ?_, ?_, ?_, ?_, ?_, ?_, ?_, ?_, ?_, (by repeat (first | with_reducible exact Below.refl _ _ | with_reducible assumption | with_reducible refine Below.setCell ?_ (by first | omega | (simp <;> omega)) _ | with_reducible refine balloc ?_ _ | with_reducible refine Below.drew ?_ | with_reducible refine bstep ?_ (by with_reducible assumption)))⟩
              all_goals first | (with_reducible assumption) | go_simp
            · go_simp
              (try go_wp2_with fail)
              refine hKK.out _ _ (by first | (go_keep; done) | ((repeat' apply And.intro) <;> go_simp)) (fun hHeld => ?_)
              clear hKK KK
              try simp only [Act.put, List.setIfInBounds_toArray, List.set_cons_zero, List.set_cons_succ]
              refine wpAnyH_ready (rs := [5]) (by kernel_rfl) (by simp) ?_
              refine AllReadyH.cons (o := ⟨some 21, _, _, _, _, _⟩) rfl (fun KK hKK => ?_) AllReadyH.nil
              go_simp
              refine Calls.mono (Y1 _) ?_
              rintro e wt5 ⟨rfl, hb⟩
              replace km0 := cell_later hb (cell_al _ km0)
              replace km1 := cell_later hb (cell_al _ km1)
              replace km2 := cell_later hb (cell_al _ km2)
              replace km3 := cell_later hb (cell_al _ km3)
              replace km4 := cell_later hb (cell_al _ km4)
              replace km5 := cell_later hb (cell_al _ km5)
              replace km6 := cell_later hb (cell_al _ km6)
              replace kb0 := cell_later hb (cell_al _ kb0)
              replace kb1 := cell_later hb (cell_al _ kb1)
              replace kb2 := cell_later hb (cell_al _ kb2)
              replace kb3 := cell_later hb (cell_al _ kb3)
              replace jr0 := fro_later hb (cell_al _ kr0) (fro_al jr0)
              replace kr0 := cell_later hb (cell_al _ kr0)
              replace jr1 := fro_later hb (cell_al _ kr1) (fro_al jr1)
              replace kr1 := cell_later hb (cell_al _ kr1)
              replace jr2 := fro_later hb (cell_al _ kr2) (fro_al jr2)
              replace kr2 := cell_later hb (cell_al _ kr2)
              replace jr3 := fro_later hb (cell_al _ kr3) (fro_al jr3)
              replace kr3 := cell_later hb (cell_al _ kr3)
              replace kx0 := cell_later hb (cell_al _ kx0)
              replace kx1 := cell_later hb (cell_al _ kx1)
              replace ky0 := cell_later hb (cell_al _ ky0)
              replace ky1 := cell_later hb (cell_al _ ky1)
              have kd0 : wt5.cell? ⟨wt4.heap.size, 0, none⟩ = some (.int .i64 0) := cell_later hb (by go_simp)
              have jd0 : wt5.frozen? ⟨wt4.heap.size, 0, none⟩ = false := by rw [(bcell hb).2 _ _ (by first | omega | (simp <;> omega))]; go_simp
              have kd1 : wt5.cell? ⟨wt4.heap.size, 1, none⟩ = some (.int .i64 0) := cell_later hb (by go_simp)
              have jd1 : wt5.frozen? ⟨wt4.heap.size, 1, none⟩ = false := by rw [(bcell hb).2 _ _ (by first | omega | (simp <;> omega))]; go_simp
              have kd2 : wt5.cell? ⟨wt4.heap.size, 2, none⟩ = some (.int .i64 0) := cell_later hb (by go_simp)
              have jd2 : wt5.frozen? ⟨wt4.heap.size, 2, none⟩ = false := by rw [(bcell hb).2 _ _ (by first | omega | (simp <;> omega))]; go_simp
              have kd3 : wt5.cell? ⟨wt4.heap.size, 3, none⟩ = some (.int .i64 0) := cell_later hb (by go_simp)
              have jd3 : wt5.frozen? ⟨wt4.heap.size, 3, none⟩ = false := by rw [(bcell hb).2 _ _ (by first | omega | (simp <;> omega))]; go_simp
              replace zm : w.heap.size < wt5.heap.size := World.block_lt_of_cell? _ _ km0
              have zm_wt5 := zm
              replace zb : w.heap.size + 1 < wt5.heap.size := World.block_lt_of_cell? _ _ kb0
              have zb_wt5 := zb
              replace zr : w.heap.size + 1 + 1 < wt5.heap.size := World.block_lt_of_cell? _ _ kr0
              have zr_wt5 := zr
              replace zx : w1.heap.size < wt5.heap.size := World.block_lt_of_cell? _ _ kx0
              have zx_wt5 := zx
              replace zy : w1.heap.size + 1 < wt5.heap.size := World.block_lt_of_cell? _ _ ky0
              have zy_wt5 := zy
              have zd : wt4.heap.size < wt5.heap.size := World.block_lt_of_cell? _ _ kd0
              have zd_wt5 := zd
              replace hb0 : Below w.heap.size w wt5 := (by repeat (first | with_reducible exact Below.refl _ _ | with_reducible assumption | with_reducible refine Below.setCell ?_ (by first | omega | (simp <;> omega)) _ | with_reducible refine balloc ?_ _ | with_reducible refine Below.drew ?_ | with_reducible refine bstep ?_ (by with_reducible assumption)))
              have hs_wt5 := hb.size; (try simp only [World.size_alloc, World.size_setCell] at hs_wt5)
              clear hb
              (try go_wp2_with fail)
              refine hKK.out _ _ (by first | (go_keep; done) | ((repeat' apply And.intro) <;> go_simp)) (fun hHeld => ?_)
              clear hKK KK
              try simp only [Act.put, List.setIfInBounds_toArray, List.set_cons_zero, List.set_cons_succ]
              refine wpAnyH_take (i := 6) (oi := ⟨some 22, _, _, _, _, _⟩) (v := ?_) rfl (by kernel_rfl) (by kernel_rfl) (by kernel_rfl) (fun _ _ _ h => h) (Or.inl ⟨by rfl, ?_⟩) (by assumption) ?_
              rotate_left
              · intro w hSw; (try dsimp only at hSw); go_simp; try with_reducible rfl
              try simp only [Act.put, List.setIfInBounds_toArray, List.set_cons_zero, List.set_cons_succ]
              refine wpAnyH_ready (rs := [8]) (by kernel_rfl) (by simp) ?_
              refine AllReadyH.cons (o := ⟨none, _, _, _, _, _⟩) rfl (fun KK hKK => ?_) AllReadyH.nil
              go_simp
              (try go_wp2_with fail)
              refine hKK.out _ _ (by first | (go_keep; done) | ((repeat' apply And.intro) <;> go_simp)) (fun hHeld => ?_)
              clear hKK KK
              try simp only [Act.put, List.setIfInBounds_toArray, List.set_cons_zero, List.set_cons_succ]
              refine wpAnyH_done (by kernel_rfl) ?_ _
              (try dsimp only [Exit.then, Met])
              go_wp2_with fail
              go_meet
              refine ⟨_, rfl, by first | omega | (simp; omega), ?_, ?_, ?_, ?_, ?_, ?_, ?_, ?_, ?_, ?_, ?_, ?_, ?_, ?_, ?_, ?_, ?_, ?_, ?_, ?_, ?_, ?_, ?_, ?_, ?_, ?_, ?_, (by repeat (first | with_reducible exact Below.refl _ _ | with_reducible assumption | with_reducible refine Below.setCell ?_ (by first | omega | (simp <;> omega)) _ | with_reducible refine balloc ?_ _ | with_reducible refine Below.drew ?_ | with_reducible refine bstep ?_ (by with_reducible assumption)))⟩
              all_goals first | (with_reducible assumption) | go_simp
          · go_simp
            (try go_wp2_with fail)
            refine hKK.out _ _ (by first | (go_keep; done) | ((repeat' apply And.intro) <;> go_simp)) (fun hHeld => ?_)
            clear hKK KK
            try simp only [Act.put, List.setIfInBounds_toArray, List.set_cons_zero, List.set_cons_succ]
            refine wpAnyH_ready (rs := [3]) (by kernel_rfl) (by simp) ?_
            refine AllReadyH.cons (o := ⟨some 19, _, _, _, _, _⟩) rfl (fun KK hKK => ?_) AllReadyH.nil
            go_simp
            refine Calls.mono (ways_c _) ?_
            rintro e wt4 ⟨rfl, hb⟩
            replace km0 := cell_later hb (cell_al _ km0)
            replace km1 := cell_later hb (cell_al _ km1)
            replace km2 := cell_later hb (cell_al _ km2)
            replace km3 := cell_later hb (cell_al _ km3)
            replace km4 := cell_later hb (cell_al _ km4)
            replace km5 := cell_later hb (cell_al _ km5)
            replace km6 := cell_later hb (cell_al _ km6)
            replace kb0 := cell_later hb (cell_al _ kb0)
            replace kb1 := cell_later hb (cell_al _ kb1)
            replace kb2 := cell_later hb (cell_al _ kb2)
            replace kb3 := cell_later hb (cell_al _ kb3)
            replace jr0 := fro_later hb (cell_al _ kr0) (fro_al jr0)
            replace kr0 := cell_later hb (cell_al _ kr0)
            replace jr1 := fro_later hb (cell_al _ kr1) (fro_al jr1)
            replace kr1 := cell_later hb (cell_al _ kr1)
            replace jr2 := fro_later hb (cell_al _ kr2) (fro_al jr2)
            replace kr2 := cell_later hb (cell_al _ kr2)
            replace jr3 := fro_later hb (cell_al _ kr3) (fro_al jr3)
            replace kr3 := cell_later hb (cell_al _ kr3)
            replace kx0 := cell_later hb (cell_al _ kx0)
            replace kx1 := cell_later hb (cell_al _ kx1)
            replace ky0 := cell_later hb (cell_al _ ky0)
            replace ky1 := cell_later hb (cell_al _ ky1)
            have kd0 : wt4.cell? ⟨wt3.heap.size, 0, none⟩ = some (.int .i64 0) := cell_later hb (by go_simp)
            have jd0 : wt4.frozen? ⟨wt3.heap.size, 0, none⟩ = false := by rw [(bcell hb).2 _ _ (by first | omega | (simp <;> omega))]; go_simp
            have kd1 : wt4.cell? ⟨wt3.heap.size, 1, none⟩ = some (.int .i64 0) := cell_later hb (by go_simp)
            have jd1 : wt4.frozen? ⟨wt3.heap.size, 1, none⟩ = false := by rw [(bcell hb).2 _ _ (by first | omega | (simp <;> omega))]; go_simp
            have kd2 : wt4.cell? ⟨wt3.heap.size, 2, none⟩ = some (.int .i64 0) := cell_later hb (by go_simp)
            have jd2 : wt4.frozen? ⟨wt3.heap.size, 2, none⟩ = false := by rw [(bcell hb).2 _ _ (by first | omega | (simp <;> omega))]; go_simp
            have kd3 : wt4.cell? ⟨wt3.heap.size, 3, none⟩ = some (.int .i64 0) := cell_later hb (by go_simp)
            have jd3 : wt4.frozen? ⟨wt3.heap.size, 3, none⟩ = false := by rw [(bcell hb).2 _ _ (by first | omega | (simp <;> omega))]; go_simp
            replace zm : w.heap.size < wt4.heap.size := World.block_lt_of_cell? _ _ km0
            have zm_wt4 := zm
            replace zb : w.heap.size + 1 < wt4.heap.size := World.block_lt_of_cell? _ _ kb0
            have zb_wt4 := zb
            replace zr : w.heap.size + 1 + 1 < wt4.heap.size := World.block_lt_of_cell? _ _ kr0
            have zr_wt4 := zr
            replace zx : w1.heap.size < wt4.heap.size := World.block_lt_of_cell? _ _ kx0
            have zx_wt4 := zx
            replace zy : w1.heap.size + 1 < wt4.heap.size := World.block_lt_of_cell? _ _ ky0
            have zy_wt4 := zy
            have zd : wt3.heap.size < wt4.heap.size := World.block_lt_of_cell? _ _ kd0
            have zd_wt4 := zd
            replace hb0 : Below w.heap.size w wt4 := (by repeat (first | with_reducible exact Below.refl _ _ | with_reducible assumption | with_reducible refine Below.setCell ?_ (by first | omega | (simp <;> omega)) _ | with_reducible refine balloc ?_ _ | with_reducible refine Below.drew ?_ | with_reducible refine bstep ?_ (by with_reducible assumption)))
            have hs_wt4 := hb.size; (try simp only [World.size_alloc, World.size_setCell] at hs_wt4)
            clear hb
            (try go_wp2_with fail)
            refine hKK.out _ _ (by first | (go_keep; done) | ((repeat' apply And.intro) <;> go_simp)) (fun hHeld => ?_)
            clear hKK KK
            try simp only [Act.put, List.setIfInBounds_toArray, List.set_cons_zero, List.set_cons_succ]
            refine wpAnyH_ready (rs := [5]) (by kernel_rfl) (by simp) ?_
            refine AllReadyH.cons (o := ⟨some 21, _, _, _, _, _⟩) rfl (fun KK hKK => ?_) AllReadyH.nil
            go_simp
            refine Calls.mono (Y1 _) ?_
            rintro e wt5 ⟨rfl, hb⟩
            replace km0 := cell_later hb km0
            replace km1 := cell_later hb km1
            replace km2 := cell_later hb km2
            replace km3 := cell_later hb km3
            replace km4 := cell_later hb km4
            replace km5 := cell_later hb km5
            replace km6 := cell_later hb km6
            replace kb0 := cell_later hb kb0
            replace kb1 := cell_later hb kb1
            replace kb2 := cell_later hb kb2
            replace kb3 := cell_later hb kb3
            replace jr0 := fro_later hb kr0 jr0
            replace kr0 := cell_later hb kr0
            replace jr1 := fro_later hb kr1 jr1
            replace kr1 := cell_later hb kr1
            replace jr2 := fro_later hb kr2 jr2
            replace kr2 := cell_later hb kr2
            replace jr3 := fro_later hb kr3 jr3
            replace kr3 := cell_later hb kr3
            replace kx0 := cell_later hb kx0
            replace kx1 := cell_later hb kx1
            replace ky0 := cell_later hb ky0
            replace ky1 := cell_later hb ky1
            replace jd0 := fro_later hb kd0 jd0
            replace kd0 := cell_later hb kd0
            replace jd1 := fro_later hb kd1 jd1
            replace kd1 := cell_later hb kd1
            replace jd2 := fro_later hb kd2 jd2
            replace kd2 := cell_later hb kd2
            replace jd3 := fro_later hb kd3 jd3
            replace kd3 := cell_later hb kd3
            replace zm : w.heap.size < wt5.heap.size := World.block_lt_of_cell? _ _ km0
            have zm_wt5 := zm
            replace zb : w.heap.size + 1 < wt5.heap.size := World.block_lt_of_cell? _ _ kb0
            have zb_wt5 := zb
            replace zr : w.heap.size + 1 + 1 < wt5.heap.size := World.block_lt_of_cell? _ _ kr0
            have zr_wt5 := zr
            replace zx : w1.heap.size < wt5.heap.size := World.block_lt_of_cell? _ _ kx0
            have zx_wt5 := zx
            replace zy : w1.heap.size + 1 < wt5.heap.size := World.block_lt_of_cell? _ _ ky0
            have zy_wt5 := zy
            replace zd : wt3.heap.size < wt5.heap.size := World.block_lt_of_cell? _ _ kd0
            have zd_wt5 := zd
            replace hb0 : Below w.heap.size w wt5 := (by repeat (first | with_reducible exact Below.refl _ _ | with_reducible assumption | with_reducible refine Below.setCell ?_ (by first | omega | (simp <;> omega)) _ | with_reducible refine balloc ?_ _ | with_reducible refine Below.drew ?_ | with_reducible refine bstep ?_ (by with_reducible assumption)))
            have hs_wt5 : wt4.heap.size ≤ wt5.heap.size := hb.size
            clear hb
            (try go_wp2_with fail)
            refine hKK.out _ _ (by first | (go_keep; done) | ((repeat' apply And.intro) <;> go_simp)) (fun hHeld => ?_)
            clear hKK KK
            try simp only [Act.put, List.setIfInBounds_toArray, List.set_cons_zero, List.set_cons_succ]
            refine wpAnyH_take (i := 6) (oi := ⟨some 22, _, _, _, _, _⟩) (v := ?_) rfl (by kernel_rfl) (by kernel_rfl) (by kernel_rfl) (fun _ _ _ h => h) (Or.inl ⟨by rfl, ?_⟩) (by assumption) ?_
            rotate_left
            · intro w hSw; (try dsimp only at hSw); go_simp; try with_reducible rfl
            try simp only [Act.put, List.setIfInBounds_toArray, List.set_cons_zero, List.set_cons_succ]
            refine wpAnyH_ready (rs := [8]) (by kernel_rfl) (by simp) ?_
            refine AllReadyH.cons (o := ⟨none, _, _, _, _, _⟩) rfl (fun KK hKK => ?_) AllReadyH.nil
            go_simp
            (try go_wp2_with fail)
            refine hKK.out _ _ (by first | (go_keep; done) | ((repeat' apply And.intro) <;> go_simp)) (fun hHeld => ?_)
            clear hKK KK
            try simp only [Act.put, List.setIfInBounds_toArray, List.set_cons_zero, List.set_cons_succ]
            refine wpAnyH_done (by kernel_rfl) ?_ _
            (try dsimp only [Exit.then, Met])
            go_wp2_with fail
            go_meet
            refine ⟨_, rfl, by first | omega | (simp; omega), ?_, ?_, ?_, ?_, ?_, ?_, ?_, ?_, ?_, ?_, ?_, ?_, ?_, ?_, ?_, ?_, ?_, ?_, ?_, ?_, ?_, ?_, ?_, ?_, ?_, ?_, ?_, (by repeat (first | with_reducible exact Below.refl _ _ | with_reducible assumption | with_reducible refine Below.setCell ?_ (by first | omega | (simp <;> omega)) _ | with_reducible refine balloc ?_ _ | with_reducible refine Below.drew ?_ | with_reducible refine bstep ?_ (by with_reducible assumption)))⟩
            all_goals first | (with_reducible assumption) | go_simp
        · go_simp
          (try go_wp2_with fail)
          refine hKK.out _ _ (by first | (go_keep; done) | ((repeat' apply And.intro) <;> go_simp)) (fun hHeld => ?_)
          clear hKK KK
          try simp only [Act.put, List.setIfInBounds_toArray, List.set_cons_zero, List.set_cons_succ]
          refine wpAnyH_ready (rs := [2]) (by kernel_rfl) (by simp) ?_
          refine AllReadyH.cons (o := ⟨some 18, _, _, _, _, _⟩) rfl (fun KK hKK => ?_) AllReadyH.nil
          go_simp
          refine Calls.mono (X1 _) ?_
          rintro e wt3 ⟨rfl, hb⟩
          replace km0 := cell_later hb (cell_al _ km0)
          replace km1 := cell_later hb (cell_al _ km1)
          replace km2 := cell_later hb (cell_al _ km2)
          replace km3 := cell_later hb (cell_al _ km3)
          replace km4 := cell_later hb (cell_al _ km4)
          replace km5 := cell_later hb (cell_al _ km5)
          replace km6 := cell_later hb (cell_al _ km6)
          replace kb0 := cell_later hb (cell_al _ kb0)
          replace kb1 := cell_later hb (cell_al _ kb1)
          replace kb2 := cell_later hb (cell_al _ kb2)
          replace kb3 := cell_later hb (cell_al _ kb3)
          replace jr0 := fro_later hb (cell_al _ kr0) (fro_al jr0)
          replace kr0 := cell_later hb (cell_al _ kr0)
          replace jr1 := fro_later hb (cell_al _ kr1) (fro_al jr1)
          replace kr1 := cell_later hb (cell_al _ kr1)
          replace jr2 := fro_later hb (cell_al _ kr2) (fro_al jr2)
          replace kr2 := cell_later hb (cell_al _ kr2)
          replace jr3 := fro_later hb (cell_al _ kr3) (fro_al jr3)
          replace kr3 := cell_later hb (cell_al _ kr3)
          replace kx0 := cell_later hb (cell_al _ kx0)
          replace kx1 := cell_later hb (cell_al _ kx1)
          replace ky0 := cell_later hb (cell_al _ ky0)
          replace ky1 := cell_later hb (cell_al _ ky1)
          have kd0 : wt3.cell? ⟨wt2.heap.size, 0, none⟩ = some (.int .i64 0) := cell_later hb (by go_simp)
          have jd0 : wt3.frozen? ⟨wt2.heap.size, 0, none⟩ = false := by rw [(bcell hb).2 _ _ (by first | omega | (simp <;> omega))]; go_simp
          have kd1 : wt3.cell? ⟨wt2.heap.size, 1, none⟩ = some (.int .i64 0) := cell_later hb (by go_simp)
          have jd1 : wt3.frozen? ⟨wt2.heap.size, 1, none⟩ = false := by rw [(bcell hb).2 _ _ (by first | omega | (simp <;> omega))]; go_simp
          have kd2 : wt3.cell? ⟨wt2.heap.size, 2, none⟩ = some (.int .i64 0) := cell_later hb (by go_simp)
          have jd2 : wt3.frozen? ⟨wt2.heap.size, 2, none⟩ = false := by rw [(bcell hb).2 _ _ (by first | omega | (simp <;> omega))]; go_simp
          have kd3 : wt3.cell? ⟨wt2.heap.size, 3, none⟩ = some (.int .i64 0) := cell_later hb (by go_simp)
          have jd3 : wt3.frozen? ⟨wt2.heap.size, 3, none⟩ = false := by rw [(bcell hb).2 _ _ (by first | omega | (simp <;> omega))]; go_simp
          replace zm : w.heap.size < wt3.heap.size := World.block_lt_of_cell? _ _ km0
          have zm_wt3 := zm
          replace zb : w.heap.size + 1 < wt3.heap.size := World.block_lt_of_cell? _ _ kb0
          have zb_wt3 := zb
          replace zr : w.heap.size + 1 + 1 < wt3.heap.size := World.block_lt_of_cell? _ _ kr0
          have zr_wt3 := zr
          replace zx : w1.heap.size < wt3.heap.size := World.block_lt_of_cell? _ _ kx0
          have zx_wt3 := zx
          replace zy : w1.heap.size + 1 < wt3.heap.size := World.block_lt_of_cell? _ _ ky0
          have zy_wt3 := zy
          have zd : wt2.heap.size < wt3.heap.size := World.block_lt_of_cell? _ _ kd0
          have zd_wt3 := zd
          replace hb0 : Below w.heap.size w wt3 := (by repeat (first | with_reducible exact Below.refl _ _ | with_reducible assumption | with_reducible refine Below.setCell ?_ (by first | omega | (simp <;> omega)) _ | with_reducible refine balloc ?_ _ | with_reducible refine Below.drew ?_ | with_reducible refine bstep ?_ (by with_reducible assumption)))
          have hs_wt3 := hb.size; (try simp only [World.size_alloc, World.size_setCell] at hs_wt3)
          clear hb
          (try go_wp2_with fail)
          refine hKK.out _ _ (by first | (go_keep; done) | ((repeat' apply And.intro) <;> go_simp)) (fun hHeld => ?_)
          clear hKK KK
          try simp only [Act.put, List.setIfInBounds_toArray, List.set_cons_zero, List.set_cons_succ]
          refine wpAnyH_ready (rs := [3]) (by kernel_rfl) (by simp) ?_
          refine AllReadyH.cons (o := ⟨some 19, _, _, _, _, _⟩) rfl (fun KK hKK => ?_) AllReadyH.nil
          go_simp
          refine Calls.mono (ways_c _) ?_
          rintro e wt4 ⟨rfl, hb⟩
          replace km0 := cell_later hb km0
          replace km1 := cell_later hb km1
          replace km2 := cell_later hb km2
          replace km3 := cell_later hb km3
          replace km4 := cell_later hb km4
          replace km5 := cell_later hb km5
          replace km6 := cell_later hb km6
          replace kb0 := cell_later hb kb0
          replace kb1 := cell_later hb kb1
          replace kb2 := cell_later hb kb2
          replace kb3 := cell_later hb kb3
          replace jr0 := fro_later hb kr0 jr0
          replace kr0 := cell_later hb kr0
          replace jr1 := fro_later hb kr1 jr1
          replace kr1 := cell_later hb kr1
          replace jr2 := fro_later hb kr2 jr2
          replace kr2 := cell_later hb kr2
          replace jr3 := fro_later hb kr3 jr3
          replace kr3 := cell_later hb kr3
          replace kx0 := cell_later hb kx0
          replace kx1 := cell_later hb kx1
          replace ky0 := cell_later hb ky0
          replace ky1 := cell_later hb ky1
          replace jd0 := fro_later hb kd0 jd0
          replace kd0 := cell_later hb kd0
          replace jd1 := fro_later hb kd1 jd1
          replace kd1 := cell_later hb kd1
          replace jd2 := fro_later hb kd2 jd2
          replace kd2 := cell_later hb kd2
          replace jd3 := fro_later hb kd3 jd3
          replace kd3 := cell_later hb kd3
          replace zm : w.heap.size < wt4.heap.size := World.block_lt_of_cell? _ _ km0
          have zm_wt4 := zm
          replace zb : w.heap.size + 1 < wt4.heap.size := World.block_lt_of_cell? _ _ kb0
          have zb_wt4 := zb
          replace zr : w.heap.size + 1 + 1 < wt4.heap.size := World.block_lt_of_cell? _ _ kr0
          have zr_wt4 := zr
          replace zx : w1.heap.size < wt4.heap.size := World.block_lt_of_cell? _ _ kx0
          have zx_wt4 := zx
          replace zy : w1.heap.size + 1 < wt4.heap.size := World.block_lt_of_cell? _ _ ky0
          have zy_wt4 := zy
          replace zd : wt2.heap.size < wt4.heap.size := World.block_lt_of_cell? _ _ kd0
          have zd_wt4 := zd
          replace hb0 : Below w.heap.size w wt4 := (by repeat (first | with_reducible exact Below.refl _ _ | with_reducible assumption | with_reducible refine Below.setCell ?_ (by first | omega | (simp <;> omega)) _ | with_reducible refine balloc ?_ _ | with_reducible refine Below.drew ?_ | with_reducible refine bstep ?_ (by with_reducible assumption)))
          have hs_wt4 : wt3.heap.size ≤ wt4.heap.size := hb.size
          clear hb
          (try go_wp2_with fail)
          refine hKK.out _ _ (by first | (go_keep; done) | ((repeat' apply And.intro) <;> go_simp)) (fun hHeld => ?_)
          clear hKK KK
          try simp only [Act.put, List.setIfInBounds_toArray, List.set_cons_zero, List.set_cons_succ]
          refine wpAnyH_ready (rs := [5]) (by kernel_rfl) (by simp) ?_
          refine AllReadyH.cons (o := ⟨some 21, _, _, _, _, _⟩) rfl (fun KK hKK => ?_) AllReadyH.nil
          go_simp
          refine Calls.mono (Y1 _) ?_
          rintro e wt5 ⟨rfl, hb⟩
          replace km0 := cell_later hb km0
          replace km1 := cell_later hb km1
          replace km2 := cell_later hb km2
          replace km3 := cell_later hb km3
          replace km4 := cell_later hb km4
          replace km5 := cell_later hb km5
          replace km6 := cell_later hb km6
          replace kb0 := cell_later hb kb0
          replace kb1 := cell_later hb kb1
          replace kb2 := cell_later hb kb2
          replace kb3 := cell_later hb kb3
          replace jr0 := fro_later hb kr0 jr0
          replace kr0 := cell_later hb kr0
          replace jr1 := fro_later hb kr1 jr1
          replace kr1 := cell_later hb kr1
          replace jr2 := fro_later hb kr2 jr2
          replace kr2 := cell_later hb kr2
          replace jr3 := fro_later hb kr3 jr3
          replace kr3 := cell_later hb kr3
          replace kx0 := cell_later hb kx0
          replace kx1 := cell_later hb kx1
          replace ky0 := cell_later hb ky0
          replace ky1 := cell_later hb ky1
          replace jd0 := fro_later hb kd0 jd0
          replace kd0 := cell_later hb kd0
          replace jd1 := fro_later hb kd1 jd1
          replace kd1 := cell_later hb kd1
          replace jd2 := fro_later hb kd2 jd2
          replace kd2 := cell_later hb kd2
          replace jd3 := fro_later hb kd3 jd3
          replace kd3 := cell_later hb kd3
          replace zm : w.heap.size < wt5.heap.size := World.block_lt_of_cell? _ _ km0
          have zm_wt5 := zm
          replace zb : w.heap.size + 1 < wt5.heap.size := World.block_lt_of_cell? _ _ kb0
          have zb_wt5 := zb
          replace zr : w.heap.size + 1 + 1 < wt5.heap.size := World.block_lt_of_cell? _ _ kr0
          have zr_wt5 := zr
          replace zx : w1.heap.size < wt5.heap.size := World.block_lt_of_cell? _ _ kx0
          have zx_wt5 := zx
          replace zy : w1.heap.size + 1 < wt5.heap.size := World.block_lt_of_cell? _ _ ky0
          have zy_wt5 := zy
          replace zd : wt2.heap.size < wt5.heap.size := World.block_lt_of_cell? _ _ kd0
          have zd_wt5 := zd
          replace hb0 : Below w.heap.size w wt5 := (by repeat (first | with_reducible exact Below.refl _ _ | with_reducible assumption | with_reducible refine Below.setCell ?_ (by first | omega | (simp <;> omega)) _ | with_reducible refine balloc ?_ _ | with_reducible refine Below.drew ?_ | with_reducible refine bstep ?_ (by with_reducible assumption)))
          have hs_wt5 : wt4.heap.size ≤ wt5.heap.size := hb.size
          clear hb
          (try go_wp2_with fail)
          refine hKK.out _ _ (by first | (go_keep; done) | ((repeat' apply And.intro) <;> go_simp)) (fun hHeld => ?_)
          clear hKK KK
          try simp only [Act.put, List.setIfInBounds_toArray, List.set_cons_zero, List.set_cons_succ]
          refine wpAnyH_take (i := 6) (oi := ⟨some 22, _, _, _, _, _⟩) (v := ?_) rfl (by kernel_rfl) (by kernel_rfl) (by kernel_rfl) (fun _ _ _ h => h) (Or.inl ⟨by rfl, ?_⟩) (by assumption) ?_
          rotate_left
          · intro w hSw; (try dsimp only at hSw); go_simp; try with_reducible rfl
          try simp only [Act.put, List.setIfInBounds_toArray, List.set_cons_zero, List.set_cons_succ]
          refine wpAnyH_ready (rs := [8]) (by kernel_rfl) (by simp) ?_
          refine AllReadyH.cons (o := ⟨none, _, _, _, _, _⟩) rfl (fun KK hKK => ?_) AllReadyH.nil
          go_simp
          (try go_wp2_with fail)
          refine hKK.out _ _ (by first | (go_keep; done) | ((repeat' apply And.intro) <;> go_simp)) (fun hHeld => ?_)
          clear hKK KK
          try simp only [Act.put, List.setIfInBounds_toArray, List.set_cons_zero, List.set_cons_succ]
          refine wpAnyH_done (by kernel_rfl) ?_ _
          (try dsimp only [Exit.then, Met])
          go_wp2_with fail
          go_meet
          refine ⟨_, rfl, by first | omega | (simp; omega), ?_, ?_, ?_, ?_, ?_, ?_, ?_, ?_, ?_, ?_, ?_, ?_, ?_, ?_, ?_, ?_, ?_, ?_, ?_, ?_, ?_, ?_, ?_, ?_, ?_, ?_, ?_, (by repeat (first | with_reducible exact Below.refl _ _ | with_reducible assumption | with_reducible refine Below.setCell ?_ (by first | omega | (simp <;> omega)) _ | with_reducible refine balloc ?_ _ | with_reducible refine Below.drew ?_ | with_reducible refine bstep ?_ (by with_reducible assumption)))⟩
          all_goals first | (with_reducible assumption) | go_simp
      · go_simp
        (try go_wp2_with fail)
        refine hKK.out _ _ (by first | (go_keep; done) | ((repeat' apply And.intro) <;> go_simp)) (fun hHeld => ?_)
        clear hKK KK
        try simp only [Act.put, List.setIfInBounds_toArray, List.set_cons_zero, List.set_cons_succ]
        refine wpAnyH_ready (rs := [0]) (by kernel_rfl) (by simp) ?_
        refine AllReadyH.cons (o := ⟨some 16, _, _, _, _, _⟩) rfl (fun KK hKK => ?_) AllReadyH.nil
        go_simp
        refine Calls.mono (ways_c _) ?_
        rintro e wt2 ⟨rfl, hb⟩
        replace km0 := cell_later hb (cell_al _ (cell_al _ (cell_al _ km0)))
        replace km1 := cell_later hb (cell_al _ (cell_al _ (cell_al _ km1)))
        replace km2 := cell_later hb (cell_al _ (cell_al _ (cell_al _ km2)))
        replace km3 := cell_later hb (cell_al _ (cell_al _ (cell_al _ km3)))
        replace km4 := cell_later hb (cell_al _ (cell_al _ (cell_al _ km4)))
        replace km5 := cell_later hb (cell_al _ (cell_al _ (cell_al _ km5)))
        replace km6 := cell_later hb (cell_al _ (cell_al _ (cell_al _ km6)))
        replace kb0 := cell_later hb (cell_al _ (cell_al _ (cell_al _ kb0)))
        replace kb1 := cell_later hb (cell_al _ (cell_al _ (cell_al _ kb1)))
        replace kb2 := cell_later hb (cell_al _ (cell_al _ (cell_al _ kb2)))
        replace kb3 := cell_later hb (cell_al _ (cell_al _ (cell_al _ kb3)))
        replace jr0 := fro_later hb (cell_al _ (cell_al _ (cell_al _ kr0))) (fro_al (fro_al (fro_al jr0)))
        replace kr0 := cell_later hb (cell_al _ (cell_al _ (cell_al _ kr0)))
        replace jr1 := fro_later hb (cell_al _ (cell_al _ (cell_al _ kr1))) (fro_al (fro_al (fro_al jr1)))
        replace kr1 := cell_later hb (cell_al _ (cell_al _ (cell_al _ kr1)))
        replace jr2 := fro_later hb (cell_al _ (cell_al _ (cell_al _ kr2))) (fro_al (fro_al (fro_al jr2)))
        replace kr2 := cell_later hb (cell_al _ (cell_al _ (cell_al _ kr2)))
        replace jr3 := fro_later hb (cell_al _ (cell_al _ (cell_al _ kr3))) (fro_al (fro_al (fro_al jr3)))
        replace kr3 := cell_later hb (cell_al _ (cell_al _ (cell_al _ kr3)))
        have kx0 : wt2.cell? ⟨w1.heap.size, 0, none⟩ = some (.int .i64 x1) := cell_later hb (by go_simp)
        have kx1 : wt2.cell? ⟨w1.heap.size, 1, none⟩ = some (.int .i64 x2) := cell_later hb (by go_simp)
        have ky0 : wt2.cell? ⟨w1.heap.size + 1, 0, none⟩ = some (.int .i64 y1) := cell_later hb (by go_simp)
        have ky1 : wt2.cell? ⟨w1.heap.size + 1, 1, none⟩ = some (.int .i64 y2) := cell_later hb (by go_simp)
        have kd0 : wt2.cell? ⟨w1.heap.size + 1 + 1, 0, none⟩ = some (.int .i64 0) := cell_later hb (by go_simp)
        have jd0 : wt2.frozen? ⟨w1.heap.size + 1 + 1, 0, none⟩ = false := by rw [(bcell hb).2 _ _ (by first | omega | (simp <;> omega))]; go_simp
        have kd1 : wt2.cell? ⟨w1.heap.size + 1 + 1, 1, none⟩ = some (.int .i64 0) := cell_later hb (by go_simp)
        have jd1 : wt2.frozen? ⟨w1.heap.size + 1 + 1, 1, none⟩ = false := by rw [(bcell hb).2 _ _ (by first | omega | (simp <;> omega))]; go_simp
        have kd2 : wt2.cell? ⟨w1.heap.size + 1 + 1, 2, none⟩ = some (.int .i64 0) := cell_later hb (by go_simp)
        have jd2 : wt2.frozen? ⟨w1.heap.size + 1 + 1, 2, none⟩ = false := by rw [(bcell hb).2 _ _ (by first | omega | (simp <;> omega))]; go_simp
        have kd3 : wt2.cell? ⟨w1.heap.size + 1 + 1, 3, none⟩ = some (.int .i64 0) := cell_later hb (by go_simp)
        have jd3 : wt2.frozen? ⟨w1.heap.size + 1 + 1, 3, none⟩ = false := by rw [(bcell hb).2 _ _ (by first | omega | (simp <;> omega))]; go_simp
        replace zm : w.heap.size < wt2.heap.size := World.block_lt_of_cell? _ _ km0
        have zm_wt2 := zm
        replace zb : w.heap.size + 1 < wt2.heap.size := World.block_lt_of_cell? _ _ kb0
        have zb_wt2 := zb
        replace zr : w.heap.size + 1 + 1 < wt2.heap.size := World.block_lt_of_cell? _ _ kr0
        have zr_wt2 := zr
        have zx : w1.heap.size < wt2.heap.size := World.block_lt_of_cell? _ _ kx0
        have zx_wt2 := zx
        have zy : w1.heap.size + 1 < wt2.heap.size := World.block_lt_of_cell? _ _ ky0
        have zy_wt2 := zy
        have zd : w1.heap.size + 1 + 1 < wt2.heap.size := World.block_lt_of_cell? _ _ kd0
        have zd_wt2 := zd
        replace hb0 : Below w.heap.size w wt2 := (by repeat (first | with_reducible exact Below.refl _ _ | with_reducible assumption | with_reducible refine Below.setCell ?_ (by first | omega | (simp <;> omega)) _ | with_reducible refine balloc ?_ _ | with_reducible refine Below.drew ?_ | with_reducible refine bstep ?_ (by with_reducible assumption)))
        have hs_wt2 := hb.size; (try simp only [World.size_alloc, World.size_setCell] at hs_wt2)
        clear hb
        (try go_wp2_with fail)
        refine hKK.out _ _ (by first | (go_keep; done) | ((repeat' apply And.intro) <;> go_simp)) (fun hHeld => ?_)
        clear hKK KK
        try simp only [Act.put, List.setIfInBounds_toArray, List.set_cons_zero, List.set_cons_succ]
        refine wpAnyH_ready (rs := [2]) (by kernel_rfl) (by simp) ?_
        refine AllReadyH.cons (o := ⟨some 18, _, _, _, _, _⟩) rfl (fun KK hKK => ?_) AllReadyH.nil
        go_simp
        refine Calls.mono (X1 _) ?_
        rintro e wt3 ⟨rfl, hb⟩
        replace km0 := cell_later hb km0
        replace km1 := cell_later hb km1
        replace km2 := cell_later hb km2
        replace km3 := cell_later hb km3
        replace km4 := cell_later hb km4
        replace km5 := cell_later hb km5
        replace km6 := cell_later hb km6
        replace kb0 := cell_later hb kb0
        replace kb1 := cell_later hb kb1
        replace kb2 := cell_later hb kb2
        replace kb3 := cell_later hb kb3
        replace jr0 := fro_later hb kr0 jr0
        replace kr0 := cell_later hb kr0
        replace jr1 := fro_later hb kr1 jr1
        replace kr1 := cell_later hb kr1
        replace jr2 := fro_later hb kr2 jr2
        replace kr2 := cell_later hb kr2
        replace jr3 := fro_later hb kr3 jr3
        replace kr3 := cell_later hb kr3
        replace kx0 := cell_later hb kx0
        replace kx1 := cell_later hb kx1
        replace ky0 := cell_later hb ky0
        replace ky1 := cell_later hb ky1
        replace jd0 := fro_later hb kd0 jd0
        replace kd0 := cell_later hb kd0
        replace jd1 := fro_later hb kd1 jd1
        replace kd1 := cell_later hb kd1
        replace jd2 := fro_later hb kd2 jd2
        replace kd2 := cell_later hb kd2
        replace jd3 := fro_later hb kd3 jd3
        replace kd3 := cell_later hb kd3
        replace zm : w.heap.size < wt3.heap.size := World.block_lt_of_cell? _ _ km0
        have zm_wt3 := zm
        replace zb : w.heap.size + 1 < wt3.heap.size := World.block_lt_of_cell? _ _ kb0
        have zb_wt3 := zb
        replace zr : w.heap.size + 1 + 1 < wt3.heap.size := World.block_lt_of_cell? _ _ kr0
        have zr_wt3 := zr
        replace zx : w1.heap.size < wt3.heap.size := World.block_lt_of_cell? _ _ kx0
        have zx_wt3 := zx
        replace zy : w1.heap.size + 1 < wt3.heap.size := World.block_lt_of_cell? _ _ ky0
        have zy_wt3 := zy
        replace zd : w1.heap.size + 1 + 1 < wt3.heap.size := World.block_lt_of_cell? _ _ kd0
        have zd_wt3 := zd
        replace hb0 : Below w.heap.size w wt3 := (by repeat (first | with_reducible exact Below.refl _ _ | with_reducible assumption | with_reducible refine Below.setCell ?_ (by first | omega | (simp <;> omega)) _ | with_reducible refine balloc ?_ _ | with_reducible refine Below.drew ?_ | with_reducible refine bstep ?_ (by with_reducible assumption)))
        have hs_wt3 : wt2.heap.size ≤ wt3.heap.size := hb.size
        clear hb
        (try go_wp2_with fail)
        refine hKK.out _ _ (by first | (go_keep; done) | ((repeat' apply And.intro) <;> go_simp)) (fun hHeld => ?_)
        clear hKK KK
        try simp only [Act.put, List.setIfInBounds_toArray, List.set_cons_zero, List.set_cons_succ]
        refine wpAnyH_ready (rs := [3]) (by kernel_rfl) (by simp) ?_
        refine AllReadyH.cons (o := ⟨some 19, _, _, _, _, _⟩) rfl (fun KK hKK => ?_) AllReadyH.nil
        go_simp
        refine Calls.mono (ways_c _) ?_
        rintro e wt4 ⟨rfl, hb⟩
        replace km0 := cell_later hb km0
        replace km1 := cell_later hb km1
        replace km2 := cell_later hb km2
        replace km3 := cell_later hb km3
        replace km4 := cell_later hb km4
        replace km5 := cell_later hb km5
        replace km6 := cell_later hb km6
        replace kb0 := cell_later hb kb0
        replace kb1 := cell_later hb kb1
        replace kb2 := cell_later hb kb2
        replace kb3 := cell_later hb kb3
        replace jr0 := fro_later hb kr0 jr0
        replace kr0 := cell_later hb kr0
        replace jr1 := fro_later hb kr1 jr1
        replace kr1 := cell_later hb kr1
        replace jr2 := fro_later hb kr2 jr2
        replace kr2 := cell_later hb kr2
        replace jr3 := fro_later hb kr3 jr3
        replace kr3 := cell_later hb kr3
        replace kx0 := cell_later hb kx0
        replace kx1 := cell_later hb kx1
        replace ky0 := cell_later hb ky0
        replace ky1 := cell_later hb ky1
        replace jd0 := fro_later hb kd0 jd0
        replace kd0 := cell_later hb kd0
        replace jd1 := fro_later hb kd1 jd1
        replace kd1 := cell_later hb kd1
        replace jd2 := fro_later hb kd2 jd2
        replace kd2 := cell_later hb kd2
        replace jd3 := fro_later hb kd3 jd3
        replace kd3 := cell_later hb kd3
        replace zm : w.heap.size < wt4.heap.size := World.block_lt_of_cell? _ _ km0
        have zm_wt4 := zm
        replace zb : w.heap.size + 1 < wt4.heap.size := World.block_lt_of_cell? _ _ kb0
        have zb_wt4 := zb
        replace zr : w.heap.size + 1 + 1 < wt4.heap.size := World.block_lt_of_cell? _ _ kr0
        have zr_wt4 := zr
        replace zx : w1.heap.size < wt4.heap.size := World.block_lt_of_cell? _ _ kx0
        have zx_wt4 := zx
        replace zy : w1.heap.size + 1 < wt4.heap.size := World.block_lt_of_cell? _ _ ky0
        have zy_wt4 := zy
        replace zd : w1.heap.size + 1 + 1 < wt4.heap.size := World.block_lt_of_cell? _ _ kd0
        have zd_wt4 := zd
        replace hb0 : Below w.heap.size w wt4 := (by repeat (first | with_reducible exact Below.refl _ _ | with_reducible assumption | with_reducible refine Below.setCell ?_ (by first | omega | (simp <;> omega)) _ | with_reducible refine balloc ?_ _ | with_reducible refine Below.drew ?_ | with_reducible refine bstep ?_ (by with_reducible assumption)))
        have hs_wt4 : wt3.heap.size ≤ wt4.heap.size := hb.size
        clear hb
        (try go_wp2_with fail)
        refine hKK.out _ _ (by first | (go_keep; done) | ((repeat' apply And.intro) <;> go_simp)) (fun hHeld => ?_)
        clear hKK KK
        try simp only [Act.put, List.setIfInBounds_toArray, List.set_cons_zero, List.set_cons_succ]
        refine wpAnyH_ready (rs := [5]) (by kernel_rfl) (by simp) ?_
        refine AllReadyH.cons (o := ⟨some 21, _, _, _, _, _⟩) rfl (fun KK hKK => ?_) AllReadyH.nil
        go_simp
        refine Calls.mono (Y1 _) ?_
        rintro e wt5 ⟨rfl, hb⟩
        replace km0 := cell_later hb km0
        replace km1 := cell_later hb km1
        replace km2 := cell_later hb km2
        replace km3 := cell_later hb km3
        replace km4 := cell_later hb km4
        replace km5 := cell_later hb km5
        replace km6 := cell_later hb km6
        replace kb0 := cell_later hb kb0
        replace kb1 := cell_later hb kb1
        replace kb2 := cell_later hb kb2
        replace kb3 := cell_later hb kb3
        replace jr0 := fro_later hb kr0 jr0
        replace kr0 := cell_later hb kr0
        replace jr1 := fro_later hb kr1 jr1
        replace kr1 := cell_later hb kr1
        replace jr2 := fro_later hb kr2 jr2
        replace kr2 := cell_later hb kr2
        replace jr3 := fro_later hb kr3 jr3
        replace kr3 := cell_later hb kr3
        replace kx0 := cell_later hb kx0
        replace kx1 := cell_later hb kx1
        replace ky0 := cell_later hb ky0
        replace ky1 := cell_later hb ky1
        replace jd0 := fro_later hb kd0 jd0
        replace kd0 := cell_later hb kd0
        replace jd1 := fro_later hb kd1 jd1
        replace kd1 := cell_later hb kd1
        replace jd2 := fro_later hb kd2 jd2
        replace kd2 := cell_later hb kd2
        replace jd3 := fro_later hb kd3 jd3
        replace kd3 := cell_later hb kd3
        replace zm : w.heap.size < wt5.heap.size := World.block_lt_of_cell? _ _ km0
        have zm_wt5 := zm
        replace zb : w.heap.size + 1 < wt5.heap.size := World.block_lt_of_cell? _ _ kb0
        have zb_wt5 := zb
        replace zr : w.heap.size + 1 + 1 < wt5.heap.size := World.block_lt_of_cell? _ _ kr0
        have zr_wt5 := zr
        replace zx : w1.heap.size < wt5.heap.size := World.block_lt_of_cell? _ _ kx0
        have zx_wt5 := zx
        replace zy : w1.heap.size + 1 < wt5.heap.size := World.block_lt_of_cell? _ _ ky0
        have zy_wt5 := zy
        replace zd : w1.heap.size + 1 + 1 < wt5.heap.size := World.block_lt_of_cell? _ _ kd0
        have zd_wt5 := zd
        replace hb0 : Below w.heap.size w wt5 := (by repeat (first | with_reducible exact Below.refl _ _ | with_reducible assumption | with_reducible refine Below.setCell ?_ (by first | omega | (simp <;> omega)) _ | with_reducible refine balloc ?_ _ | with_reducible refine Below.drew ?_ | with_reducible refine bstep ?_ (by with_reducible assumption)))
        have hs_wt5 : wt4.heap.size ≤ wt5.heap.size := hb.size
        clear hb
        (try go_wp2_with fail)
        refine hKK.out _ _ (by first | (go_keep; done) | ((repeat' apply And.intro) <;> go_simp)) (fun hHeld => ?_)
        clear hKK KK
        try simp only [Act.put, List.setIfInBounds_toArray, List.set_cons_zero, List.set_cons_succ]
        refine wpAnyH_take (i := 6) (oi := ⟨some 22, _, _, _, _, _⟩) (v := ?_) rfl (by kernel_rfl) (by kernel_rfl) (by kernel_rfl) (fun _ _ _ h => h) (Or.inl ⟨by rfl, ?_⟩) (by assumption) ?_
        rotate_left
        · intro w hSw; (try dsimp only at hSw); go_simp; try with_reducible rfl
        try simp only [Act.put, List.setIfInBounds_toArray, List.set_cons_zero, List.set_cons_succ]
        refine wpAnyH_ready (rs := [8]) (by kernel_rfl) (by simp) ?_
        refine AllReadyH.cons (o := ⟨none, _, _, _, _, _⟩) rfl (fun KK hKK => ?_) AllReadyH.nil
        go_simp
        (try go_wp2_with fail)
        refine hKK.out _ _ (by first | (go_keep; done) | ((repeat' apply And.intro) <;> go_simp)) (fun hHeld => ?_)
        clear hKK KK
        try simp only [Act.put, List.setIfInBounds_toArray, List.set_cons_zero, List.set_cons_succ]
        refine wpAnyH_done (by kernel_rfl) ?_ _
        (try dsimp only [Exit.then, Met])
        go_wp2_with fail
        go_meet
        refine ⟨_, rfl, by first | omega | (simp; omega), ?_, ?_, ?_, ?_, ?_, ?_, ?_, ?_, ?_, ?_, ?_, ?_, ?_, ?_, ?_, ?_, ?_, ?_, ?_, ?_, ?_, ?_, ?_, ?_, ?_, ?_, ?_, (by repeat (first | with_reducible exact Below.refl _ _ | with_reducible assumption | with_reducible refine Below.setCell ?_ (by first | omega | (simp <;> omega)) _ | with_reducible refine balloc ?_ _ | with_reducible refine Below.drew ?_ | with_reducible refine bstep ?_ (by with_reducible assumption)))⟩
        all_goals first | (with_reducible assumption) | go_simp
    case rest =>
      obtain ⟨gd, rfl, lgd, kd0, kd1, kd2, kd3, km0, km1, km2, km3, km4, km5, km6, kb0, kb1, kb2, kb3, kr0, jr0, kr1, jr1, kr2, jr2, kr3, jr3, kx0, kx1, ky0, ky1, hb0⟩ := hcut
      have zd : gd < wc.heap.size := World.block_lt_of_cell? _ _ kd0
      have zd_wc := zd
      have zm : w.heap.size < wc.heap.size := World.block_lt_of_cell? _ _ km0
      have zm_wc := zm
      have zb : w.heap.size + 1 < wc.heap.size := World.block_lt_of_cell? _ _ kb0
      have zb_wc := zb
      have zr : w.heap.size + 1 + 1 < wc.heap.size := World.block_lt_of_cell? _ _ kr0
      have zr_wc := zr
      have zx : w1.heap.size < wc.heap.size := World.block_lt_of_cell? _ _ kx0
      have zx_wc := zx
      have zy : w1.heap.size + 1 < wc.heap.size := World.block_lt_of_cell? _ _ ky0
      have zy_wc := zy
      go_wp2_with fail
      refine Calls.mono (Sp.validBox_c a1 a2 a3 a4 _) ?_
      rintro e w2 ⟨rfl, hb⟩
      replace kd0 := cell_later hb kd0
      replace kd1 := cell_later hb kd1
      replace kd2 := cell_later hb kd2
      replace kd3 := cell_later hb kd3
      replace km0 := cell_later hb km0
      replace km1 := cell_later hb km1
      replace km2 := cell_later hb km2
      replace km3 := cell_later hb km3
      replace km4 := cell_later hb km4
      replace km5 := cell_later hb km5
      replace km6 := cell_later hb km6
      replace kb0 := cell_later hb kb0
      replace kb1 := cell_later hb kb1
      replace kb2 := cell_later hb kb2
      replace kb3 := cell_later hb kb3
      replace jr0 := fro_later hb kr0 jr0
      replace kr0 := cell_later hb kr0
      replace jr1 := fro_later hb kr1 jr1
      replace kr1 := cell_later hb kr1
      replace jr2 := fro_later hb kr2 jr2
      replace kr2 := cell_later hb kr2
      replace jr3 := fro_later hb kr3 jr3
      replace kr3 := cell_later hb kr3
      replace kx0 := cell_later hb kx0
      replace kx1 := cell_later hb kx1
      replace ky0 := cell_later hb ky0
      replace ky1 := cell_later hb ky1
      replace zd : gd < w2.heap.size := World.block_lt_of_cell? _ _ kd0
      have zd_w2 := zd
      replace zm : w.heap.size < w2.heap.size := World.block_lt_of_cell? _ _ km0
      have zm_w2 := zm
      replace zb : w.heap.size + 1 < w2.heap.size := World.block_lt_of_cell? _ _ kb0
      have zb_w2 := zb
      replace zr : w.heap.size + 1 + 1 < w2.heap.size := World.block_lt_of_cell? _ _ kr0
      have zr_w2 := zr
      replace zx : w1.heap.size < w2.heap.size := World.block_lt_of_cell? _ _ kx0
      have zx_w2 := zx
      replace zy : w1.heap.size + 1 < w2.heap.size := World.block_lt_of_cell? _ _ ky0
      have zy_w2 := zy
      replace hb0 : Below w.heap.size w w2 := (by repeat (first | with_reducible exact Below.refl _ _ | with_reducible assumption | with_reducible refine Below.setCell ?_ (by first | omega | (simp <;> omega)) _ | with_reducible refine balloc ?_ _ | with_reducible refine Below.drew ?_ | with_reducible refine bstep ?_ (by with_reducible assumption)))
      have hs_w2 : wc.heap.size ≤ w2.heap.size := hb.size
      clear hb
      rw [h1]
      go_wp2_with fail
      refine Calls.mono (G1 _) ?_
      rintro e w3 ⟨rfl, hb⟩
      replace kd0 := cell_later hb kd0
      replace kd1 := cell_later hb kd1
      replace kd2 := cell_later hb kd2
      replace kd3 := cell_later hb kd3
      replace km0 := cell_later hb km0
      replace km1 := cell_later hb km1
      replace km2 := cell_later hb km2
      replace km3 := cell_later hb km3
      replace km4 := cell_later hb km4
      replace km5 := cell_later hb km5
      replace km6 := cell_later hb km6
      replace kb0 := cell_later hb kb0
      replace kb1 := cell_later hb kb1
      replace kb2 := cell_later hb kb2
      replace kb3 := cell_later hb kb3
      replace jr0 := fro_later hb kr0 jr0
      replace kr0 := cell_later hb kr0
      replace jr1 := fro_later hb kr1 jr1
      replace kr1 := cell_later hb kr1
      replace jr2 := fro_later hb kr2 jr2
      replace kr2 := cell_later hb kr2
      replace jr3 := fro_later hb kr3 jr3
      replace kr3 := cell_later hb kr3
      replace kx0 := cell_later hb kx0
      replace kx1 := cell_later hb kx1
      replace ky0 := cell_later hb ky0
      replace ky1 := cell_later hb ky1
      replace zd : gd < w3.heap.size := World.block_lt_of_cell? _ _ kd0
      have zd_w3 := zd
      replace zm : w.heap.size < w3.heap.size := World.block_lt_of_cell? _ _ km0
      have zm_w3 := zm
      replace zb : w.heap.size + 1 < w3.heap.size := World.block_lt_of_cell? _ _ kb0
      have zb_w3 := zb
      replace zr : w.heap.size + 1 + 1 < w3.heap.size := World.block_lt_of_cell? _ _ kr0
      have zr_w3 := zr
      replace zx : w1.heap.size < w3.heap.size := World.block_lt_of_cell? _ _ kx0
      have zx_w3 := zx
      replace zy : w1.heap.size + 1 < w3.heap.size := World.block_lt_of_cell? _ _ ky0
      have zy_w3 := zy
      replace hb0 : Below w.heap.size w w3 := (by repeat (first | with_reducible exact Below.refl _ _ | with_reducible assumption | with_reducible refine Below.setCell ?_ (by first | omega | (simp <;> omega)) _ | with_reducible refine balloc ?_ _ | with_reducible refine Below.drew ?_ | with_reducible refine bstep ?_ (by with_reducible assumption)))
      have hs_w3 : w2.heap.size ≤ w3.heap.size := hb.size
      clear hb
      go_wp2
      refine bodyPost_ret ?_ rfl ⟨rfl, (by repeat (first | with_reducible exact Below.refl _ _ | with_reducible assumption | with_reducible refine Below.setCell ?_ (by first | omega | (simp <;> omega)) _ | with_reducible refine balloc ?_ _ | with_reducible refine Below.drew ?_ | with_reducible refine bstep ?_ (by with_reducible assumption)))⟩
      simp [results, Try.results38, go_sem, kr0, kr1, kr2, kr3]
  ·
    have h2 : vB (a1 - m7) (a2 + m7) (a3 - m7) (a4 + m7) = false := by rw [Bool.eq_false_iff, Ne, vB_iff] at h1 ⊢; omega
    rw [h2]
    go_enter Try.func38, Try.ntmps38
    go_wp2_with fail
    refine Calls.mono (C1 _) ?_
    rintro e w1 ⟨rfl, hb⟩
    have km0 : w1.cell? ⟨w.heap.size, 0, none⟩ = some (.int .i64 m1) := cell_later hb (by go_simp)
    have km1 : w1.cell? ⟨w.heap.size, 1, none⟩ = some (.int .i64 m2) := cell_later hb (by go_simp)
    have km2 : w1.cell? ⟨w.heap.size, 2, none⟩ = some (.int .i64 m3) := cell_later hb (by go_simp)
    have km3 : w1.cell? ⟨w.heap.size, 3, none⟩ = some (.int .i64 m4) := cell_later hb (by go_simp)
    have km4 : w1.cell? ⟨w.heap.size, 4, none⟩ = some (.int .i64 m5) := cell_later hb (by go_simp)
    have km5 : w1.cell? ⟨w.heap.size, 5, none⟩ = some (.int .i64 m6) := cell_later hb (by go_simp)
    have km6 : w1.cell? ⟨w.heap.size, 6, none⟩ = some (.int .i64 m7) := cell_later hb (by go_simp)
    have kb0 : w1.cell? ⟨w.heap.size + 1, 0, none⟩ = some (.int .i64 b1) := cell_later hb (by go_simp)
    have kb1 : w1.cell? ⟨w.heap.size + 1, 1, none⟩ = some (.int .i64 b2) := cell_later hb (by go_simp)
    have kb2 : w1.cell? ⟨w.heap.size + 1, 2, none⟩ = some (.int .i64 b3) := cell_later hb (by go_simp)
    have kb3 : w1.cell? ⟨w.heap.size + 1, 3, none⟩ = some (.int .i64 b4) := cell_later hb (by go_simp)
    have kr0 : w1.cell? ⟨w.heap.size + 1 + 1, 0, none⟩ = some (.int .i64 0) := cell_later hb (by go_simp)
    have jr0 : w1.frozen? ⟨w.heap.size + 1 + 1, 0, none⟩ = false := by rw [(bcell hb).2 _ _ (by first | omega | (simp <;> omega))]; go_simp
    have kr1 : w1.cell? ⟨w.heap.size + 1 + 1, 1, none⟩ = some (.int .i64 0) := cell_later hb (by go_simp)
    have jr1 : w1.frozen? ⟨w.heap.size + 1 + 1, 1, none⟩ = false := by rw [(bcell hb).2 _ _ (by first | omega | (simp <;> omega))]; go_simp
    have kr2 : w1.cell? ⟨w.heap.size + 1 + 1, 2, none⟩ = some (.int .i64 0) := cell_later hb (by go_simp)
    have jr2 : w1.frozen? ⟨w.heap.size + 1 + 1, 2, none⟩ = false := by rw [(bcell hb).2 _ _ (by first | omega | (simp <;> omega))]; go_simp
    have kr3 : w1.cell? ⟨w.heap.size + 1 + 1, 3, none⟩ = some (.int .i64 0) := cell_later hb (by go_simp)
    have jr3 : w1.frozen? ⟨w.heap.size + 1 + 1, 3, none⟩ = false := by rw [(bcell hb).2 _ _ (by first | omega | (simp <;> omega))]; go_simp
    have zm : w.heap.size < w1.heap.size := World.block_lt_of_cell? _ _ km0
    have zm_w1 := zm
    have zb : w.heap.size + 1 < w1.heap.size := World.block_lt_of_cell? _ _ kb0
    have zb_w1 := zb
    have zr : w.heap.size + 1 + 1 < w1.heap.size := World.block_lt_of_cell? _ _ kr0
    have zr_w1 := zr
    have hb0 : Below w.heap.size w w1 := (by repeat (first | with_reducible exact Below.refl _ _ | with_reducible assumption | with_reducible refine Below.setCell ?_ (by first | omega | (simp <;> omega)) _ | with_reducible refine balloc ?_ _ | with_reducible refine Below.drew ?_ | with_reducible refine bstep ?_ (by with_reducible assumption)))
    have hs_w1 := hb.size; (try simp only [World.size_alloc, World.size_setCell] at hs_w1)
    clear hb
    go_upto_region 2 with fail
    go_cut [8] (fun s8 wx => ∃ gd : Nat, s8 = .pointer (some ⟨gd, 0, none⟩) ∧ w1.heap.size + 1 + 1 ≤ gd ∧ wx.cell? ⟨gd, 0, none⟩ = some (.int .i64 a1) ∧ wx.cell? ⟨gd, 1, none⟩ = some (.int .i64 a2) ∧ wx.cell? ⟨gd, 2, none⟩ = some (.int .i64 a3) ∧ wx.cell? ⟨gd, 3, none⟩ = some (.int .i64 a4) ∧ wx.cell? ⟨w.heap.size, 0, none⟩ = some (.int .i64 m1) ∧ wx.cell? ⟨w.heap.size, 1, none⟩ = some (.int .i64 m2) ∧ wx.cell? ⟨w.heap.size, 2, none⟩ = some (.int .i64 m3) ∧ wx.cell? ⟨w.heap.size, 3, none⟩ = some (.int .i64 m4) ∧ wx.cell? ⟨w.heap.size, 4, none⟩ = some (.int .i64 m5) ∧ wx.cell? ⟨w.heap.size, 5, none⟩ = some (.int .i64 m6) ∧ wx.cell? ⟨w.heap.size, 6, none⟩ = some (.int .i64 m7) ∧ wx.cell? ⟨w.heap.size + 1, 0, none⟩ = some (.int .i64 b1) ∧ wx.cell? ⟨w.heap.size + 1, 1, none⟩ = some (.int .i64 b2) ∧ wx.cell? ⟨w.heap.size + 1, 2, none⟩ = some (.int .i64 b3) ∧ wx.cell? ⟨w.heap.size + 1, 3, none⟩ = some (.int .i64 b4) ∧ wx.cell? ⟨w.heap.size + 1 + 1, 0, none⟩ = some (.int .i64 0) ∧ wx.frozen? ⟨w.heap.size + 1 + 1, 0, none⟩ = false ∧ wx.cell? ⟨w.heap.size + 1 + 1, 1, none⟩ = some (.int .i64 0) ∧ wx.frozen? ⟨w.heap.size + 1 + 1, 1, none⟩ = false ∧ wx.cell? ⟨w.heap.size + 1 + 1, 2, none⟩ = some (.int .i64 0) ∧ wx.frozen? ⟨w.heap.size + 1 + 1, 2, none⟩ = false ∧ wx.cell? ⟨w.heap.size + 1 + 1, 3, none⟩ = some (.int .i64 0) ∧ wx.frozen? ⟨w.heap.size + 1 + 1, 3, none⟩ = false ∧ wx.cell? ⟨w1.heap.size, 0, none⟩ = some (.int .i64 x1) ∧ wx.cell? ⟨w1.heap.size, 1, none⟩ = some (.int .i64 x2) ∧ wx.cell? ⟨w1.heap.size + 1, 0, none⟩ = some (.int .i64 y1) ∧ wx.cell? ⟨w1.heap.size + 1, 1, none⟩ = some (.int .i64 y2) ∧ Below w.heap.size w wx)
    case first =>
      refine wp_region_held_drew (S := fun w' => w'.cell? ⟨w1.heap.size, 0, none⟩ = some (.int .i64 x1) ∧ w'.cell? ⟨w1.heap.size, 1, none⟩ = some (.int .i64 x2) ∧ w'.cell? ⟨w1.heap.size + 1, 0, none⟩ = some (.int .i64 y1) ∧ w'.cell? ⟨w1.heap.size + 1, 1, none⟩ = some (.int .i64 y2)) (by kernel_rfl) (by first | (go_keep; done) | ((repeat' apply And.intro) <;> go_simp)) (fun hHeld => ?_)
      refine wpAnyH_take (i := 1) (oi := ⟨some 17, _, _, _, _, _⟩) (v := ?_) rfl (by kernel_rfl) (by kernel_rfl) (by kernel_rfl) (fun _ _ _ h => h) (Or.inl ⟨by rfl, ?_⟩) (by assumption) ?_
      rotate_left
      · intro w hSw; (try dsimp only at hSw); go_simp; try with_reducible rfl
      try simp only [Act.put, List.setIfInBounds_toArray, List.set_cons_zero, List.set_cons_succ]
      refine wpAnyH_take (i := 4) (oi := ⟨some 20, _, _, _, _, _⟩) (v := ?_) rfl (by kernel_rfl) (by kernel_rfl) (by kernel_rfl) (fun _ _ _ h => h) (Or.inl ⟨by rfl, ?_⟩) (by assumption) ?_
      rotate_left
      · intro w hSw; (try dsimp only at hSw); go_simp; try with_reducible rfl
      try simp only [Act.put, List.setIfInBounds_toArray, List.set_cons_zero, List.set_cons_succ]
      refine wpAnyH_ready (rs := [0, 7]) (by kernel_rfl) (by simp) ?_
      refine AllReadyH.cons (o := ⟨some 16, _, _, _, _, _⟩) rfl (fun KK hKK => ?_) (AllReadyH.cons (o := ⟨some 8, _, _, _, _, _⟩) rfl (fun KK hKK => ?_) AllReadyH.nil)
      · go_simp
        refine Calls.mono (ways_c _) ?_
        rintro e wt2 ⟨rfl, hb⟩
        replace km0 := cell_later hb (cell_al _ (cell_al _ km0))
        replace km1 := cell_later hb (cell_al _ (cell_al _ km1))
        replace km2 := cell_later hb (cell_al _ (cell_al _ km2))
        replace km3 := cell_later hb (cell_al _ (cell_al _ km3))
        replace km4 := cell_later hb (cell_al _ (cell_al _ km4))
        replace km5 := cell_later hb (cell_al _ (cell_al _ km5))
        replace km6 := cell_later hb (cell_al _ (cell_al _ km6))
        replace kb0 := cell_later hb (cell_al _ (cell_al _ kb0))
        replace kb1 := cell_later hb (cell_al _ (cell_al _ kb1))
        replace kb2 := cell_later hb (cell_al _ (cell_al _ kb2))
        replace kb3 := cell_later hb (cell_al _ (cell_al _ kb3))
        replace jr0 := fro_later hb (cell_al _ (cell_al _ kr0)) (fro_al (fro_al jr0))
        replace kr0 := cell_later hb (cell_al _ (cell_al _ kr0))
        replace jr1 := fro_later hb (cell_al _ (cell_al _ kr1)) (fro_al (fro_al jr1))
        replace kr1 := cell_later hb (cell_al _ (cell_al _ kr1))
        replace jr2 := fro_later hb (cell_al _ (cell_al _ kr2)) (fro_al (fro_al jr2))
        replace kr2 := cell_later hb (cell_al _ (cell_al _ kr2))
        replace jr3 := fro_later hb (cell_al _ (cell_al _ kr3)) (fro_al (fro_al jr3))
        replace kr3 := cell_later hb (cell_al _ (cell_al _ kr3))
        have kx0 : wt2.cell? ⟨w1.heap.size, 0, none⟩ = some (.int .i64 x1) := cell_later hb (by go_simp)
        have kx1 : wt2.cell? ⟨w1.heap.size, 1, none⟩ = some (.int .i64 x2) := cell_later hb (by go_simp)
        have ky0 : wt2.cell? ⟨w1.heap.size + 1, 0, none⟩ = some (.int .i64 y1) := cell_later hb (by go_simp)
        have ky1 : wt2.cell? ⟨w1.heap.size + 1, 1, none⟩ = some (.int .i64 y2) := cell_later hb (by go_simp)
        replace zm : w.heap.size < wt2.heap.size := World.block_lt_of_cell? _ _ km0
        have zm_wt2 := zm
        replace zb : w.heap.size + 1 < wt2.heap.size := World.block_lt_of_cell? _ _ kb0
        have zb_wt2 := zb
        replace zr : w.heap.size + 1 + 1 < wt2.heap.size := World.block_lt_of_cell? _ _ kr0
        have zr_wt2 := zr
        have zx : w1.heap.size < wt2.heap.size := World.block_lt_of_cell? _ _ kx0
        have zx_wt2 := zx
        have zy : w1.heap.size + 1 < wt2.heap.size := World.block_lt_of_cell? _ _ ky0
        have zy_wt2 := zy
        replace hb0 : Below w.heap.size w wt2 := (by repeat (first | with_reducible exact Below.refl _ _ | with_reducible assumption | with_reducible refine Below.setCell ?_ (by first | omega | (simp <;> omega)) _ | with_reducible refine balloc ?_ _ | with_reducible refine Below.drew ?_ | with_reducible refine bstep ?_ (by with_reducible assumption)))
        have hs_wt2 := hb.size; (try simp only [World.size_alloc, World.size_setCell] at hs_wt2)
        clear hb
        (try go_wp2_with fail)
        refine hKK.out _ _ (by first | (go_keep; done) | ((repeat' apply And.intro) <;> go_simp)) (fun hHeld => ?_)
        clear hKK KK
        try simp only [Act.put, List.setIfInBounds_toArray, List.set_cons_zero, List.set_cons_succ]
        refine wpAnyH_ready (rs := [2, 7]) (by kernel_rfl) (by simp) ?_
        refine AllReadyH.cons (o := ⟨some 18, _, _, _, _, _⟩) rfl (fun KK hKK => ?_) (AllReadyH.cons (o := ⟨some 8, _, _, _, _, _⟩) rfl (fun KK hKK => ?_) AllReadyH.nil)
        · go_simp
          refine Calls.mono (X1 _) ?_
          rintro e wt3 ⟨rfl, hb⟩
          replace km0 := cell_later hb km0
          replace km1 := cell_later hb km1
          replace km2 := cell_later hb km2
          replace km3 := cell_later hb km3
          replace km4 := cell_later hb km4
          replace km5 := cell_later hb km5
          replace km6 := cell_later hb km6
          replace kb0 := cell_later hb kb0
          replace kb1 := cell_later hb kb1
          replace kb2 := cell_later hb kb2
          replace kb3 := cell_later hb kb3
          replace jr0 := fro_later hb kr0 jr0
          replace kr0 := cell_later hb kr0
          replace jr1 := fro_later hb kr1 jr1
          replace kr1 := cell_later hb kr1
          replace jr2 := fro_later hb kr2 jr2
          replace kr2 := cell_later hb kr2
          replace jr3 := fro_later hb kr3 jr3
          replace kr3 := cell_later hb kr3
          replace kx0 := cell_later hb kx0
          replace kx1 := cell_later hb kx1
          replace ky0 := cell_later hb ky0
          replace ky1 := cell_later hb ky1
          replace zm : w.heap.size < wt3.heap.size := World.block_lt_of_cell? _ _ km0
          have zm_wt3 := zm
          replace zb : w.heap.size + 1 < wt3.heap.size := World.block_lt_of_cell? _ _ kb0
          have zb_wt3 := zb
          replace zr : w.heap.size + 1 + 1 < wt3.heap.size := World.block_lt_of_cell? _ _ kr0
          have zr_wt3 := zr
          replace zx : w1.heap.size < wt3.heap.size := World.block_lt_of_cell? _ _ kx0
          have zx_wt3 := zx
          replace zy : w1.heap.size + 1 < wt3.heap.size := World.block_lt_of_cell? _ _ ky0
          have zy_wt3 := zy
          replace hb0 : Below w.heap.size w wt3 := (by repeat (first | with_reducible exact Below.refl _ _ | with_reducible assumption | with_reducible refine Below.setCell ?_ (by first | omega | (simp <;> omega)) _ | with_reducible refine balloc ?_ _ | with_reducible refine Below.drew ?_ | with_reducible refine bstep ?_ (by with_reducible assumption)))
          have hs_wt3 : wt2.heap.size ≤ wt3.heap.size := hb.size
          clear hb
          (try go_wp2_with fail)
          refine hKK.out _ _ (by first | (go_keep; done) | ((repeat' apply And.intro) <;> go_simp)) (fun hHeld => ?_)
          clear hKK KK
          try simp only [Act.put, List.setIfInBounds_toArray, List.set_cons_zero, List.set_cons_succ]
          refine wpAnyH_ready (rs := [3, 7]) (by kernel_rfl) (by simp) ?_
          refine AllReadyH.cons (o := ⟨some 19, _, _, _, _, _⟩) rfl (fun KK hKK => ?_) (AllReadyH.cons (o := ⟨some 8, _, _, _, _, _⟩) rfl (fun KK hKK => ?_) AllReadyH.nil)
          · go_simp
            refine Calls.mono (ways_c _) ?_
            rintro e wt4 ⟨rfl, hb⟩
            replace km0 := cell_later hb km0
            replace km1 := cell_later hb km1
            replace km2 := cell_later hb km2
            replace km3 := cell_later hb km3
            replace km4 := cell_later hb km4
            replace km5 := cell_later hb km5
            replace km6 := cell_later hb km6
            replace kb0 := cell_later hb kb0
            replace kb1 := cell_later hb kb1
            replace kb2 := cell_later hb kb2
            replace kb3 := cell_later hb kb3
            replace jr0 := fro_later hb kr0 jr0
            replace kr0 := cell_later hb kr0
            replace jr1 := fro_later hb kr1 jr1
            replace kr1 := cell_later hb kr1
            replace jr2 := fro_later hb kr2 jr2
            replace kr2 := cell_later hb kr2
            replace jr3 := fro_later hb kr3 jr3
            replace kr3 := cell_later hb kr3
            replace kx0 := cell_later hb kx0
            replace kx1 := cell_later hb kx1
            replace ky0 := cell_later hb ky0
            replace ky1 := cell_later hb ky1
            replace zm : w.heap.size < wt4.heap.size := World.block_lt_of_cell? _ _ km0
            have zm_wt4 := zm
            replace zb : w.heap.size + 1 < wt4.heap.size := World.block_lt_of_cell? _ _ kb0
            have zb_wt4 := zb
            replace zr : w.heap.size + 1 + 1 < wt4.heap.size := World.block_lt_of_cell? _ _ kr0
            have zr_wt4 := zr
            replace zx : w1.heap.size < wt4.heap.size := World.block_lt_of_cell? _ _ kx0
            have zx_wt4 := zx
            replace zy : w1.heap.size + 1 < wt4.heap.size := World.block_lt_of_cell? _ _ ky0
            have zy_wt4 := zy
            replace hb0 : Below w.heap.size w wt4 := (by repeat (first | with_reducible exact Below.refl _ _ | with_reducible assumption | with_reducible refine Below.setCell ?_ (by first | omega | (simp <;> omega)) _ | with_reducible refine balloc ?_ _ | with_reducible refine Below.drew ?_ | with_reducible refine bstep ?_ (by with_reducible assumption)))
            have hs_wt4 : wt3.heap.size ≤ wt4.heap.size := hb.size
            clear hb
            (try go_wp2_with fail)
            refine hKK.out _ _ (by first | (go_keep; done) | ((repeat' apply And.intro) <;> go_simp)) (fun hHeld => ?_)
            clear hKK KK
            try simp only [Act.put, List.setIfInBounds_toArray, List.set_cons_zero, List.set_cons_succ]
            refine wpAnyH_ready (rs := [5, 7]) (by kernel_rfl) (by simp) ?_
            refine AllReadyH.cons (o := ⟨some 21, _, _, _, _, _⟩) rfl (fun KK hKK => ?_) (AllReadyH.cons (o := ⟨some 8, _, _, _, _, _⟩) rfl (fun KK hKK => ?_) AllReadyH.nil)
            · go_simp
              refine Calls.mono (Y1 _) ?_
              rintro e wt5 ⟨rfl, hb⟩
              replace km0 := cell_later hb km0
              replace km1 := cell_later hb km1
              replace km2 := cell_later hb km2
              replace km3 := cell_later hb km3
              replace km4 := cell_later hb km4
              replace km5 := cell_later hb km5
              replace km6 := cell_later hb km6
              replace kb0 := cell_later hb kb0
              replace kb1 := cell_later hb kb1
              replace kb2 := cell_later hb kb2
              replace kb3 := cell_later hb kb3
              replace jr0 := fro_later hb kr0 jr0
              replace kr0 := cell_later hb kr0
              replace jr1 := fro_later hb kr1 jr1
              replace kr1 := cell_later hb kr1
              replace jr2 := fro_later hb kr2 jr2
              replace kr2 := cell_later hb kr2
              replace jr3 := fro_later hb kr3 jr3
              replace kr3 := cell_later hb kr3
              replace kx0 := cell_later hb kx0
              replace kx1 := cell_later hb kx1
              replace ky0 := cell_later hb ky0
              replace ky1 := cell_later hb ky1
              replace zm : w.heap.size < wt5.heap.size := World.block_lt_of_cell? _ _ km0
              have zm_wt5 := zm
              replace zb : w.heap.size + 1 < wt5.heap.size := World.block_lt_of_cell? _ _ kb0
              have zb_wt5 := zb
              replace zr : w.heap.size + 1 + 1 < wt5.heap.size := World.block_lt_of_cell? _ _ kr0
              have zr_wt5 := zr
              replace zx : w1.heap.size < wt5.heap.size := World.block_lt_of_cell? _ _ kx0
              have zx_wt5 := zx
              replace zy : w1.heap.size + 1 < wt5.heap.size := World.block_lt_of_cell? _ _ ky0
              have zy_wt5 := zy
              replace hb0 : Below w.heap.size w wt5 := (by repeat (first | with_reducible exact Below.refl _ _ | with_reducible assumption | with_reducible refine Below.setCell ?_ (by first | omega | (simp <;> omega)) _ | with_reducible refine balloc ?_ _ | with_reducible refine Below.drew ?_ | with_reducible refine bstep ?_ (by with_reducible assumption)))
              have hs_wt5 : wt4.heap.size ≤ wt5.heap.size := hb.size
              clear hb
              (try go_wp2_with fail)
              refine hKK.out _ _ (by first | (go_keep; done) | ((repeat' apply And.intro) <;> go_simp)) (fun hHeld => ?_)
              clear hKK KK
              try simp only [Act.put, List.setIfInBounds_toArray, List.set_cons_zero, List.set_cons_succ]
              refine wpAnyH_take (i := 6) (oi := ⟨some 22, _, _, _, _, _⟩) (v := ?_) rfl (by kernel_rfl) (by kernel_rfl) (by kernel_rfl) (fun _ _ _ h => h) (Or.inl ⟨by rfl, ?_⟩) (by assumption) ?_
              rotate_left
              · intro w hSw; (try dsimp only at hSw); go_simp; try with_reducible rfl
              try simp only [Act.put, List.setIfInBounds_toArray, List.set_cons_zero, List.set_cons_succ]
              refine wpAnyH_ready (rs := [7]) (by kernel_rfl) (by simp) ?_
              refine AllReadyH.cons (o := ⟨some 8, _, _, _, _, _⟩) rfl (fun KK hKK => ?_) AllReadyH.nil
              go_simp
              (try go_wp2_with fail)
              refine hKK.out _ _ (by first | (go_keep; done) | ((repeat' apply And.intro) <;> go_simp)) (fun hHeld => ?_)
              clear hKK KK
              try simp only [Act.put, List.setIfInBounds_toArray, List.set_cons_zero, List.set_cons_succ]
              refine wpAnyH_ready (rs := [8]) (by kernel_rfl) (by simp) ?_
              refine AllReadyH.cons (o := ⟨none, _, _, _, _, _⟩) rfl (fun KK hKK => ?_) AllReadyH.nil
              go_simp
              (try go_wp2_with fail)
              refine hKK.out _ _ (by first | (go_keep; done) | ((repeat' apply And.intro) <;> go_simp)) (fun hHeld => ?_)
              clear hKK KK
              try simp only [Act.put, List.setIfInBounds_toArray, List.set_cons_zero, List.set_cons_succ]
              refine wpAnyH_done (by kernel_rfl) ?_ _
              (try dsimp only [Exit.then, Met])
              go_wp2_with fail
              go_meet
              refine ⟨_, rfl, by first | omega | (simp; omega), ?_, ?_, ?_, ?_, ?_, ?_, ?_, ?_, ?_, ?_, ?_, ?_, ?_, ?_, ?_, ?_, ?_, ?_, ?_, ?_, ?_, ?_, ?_, ?_, ?_, ?_, ?_, (by repeat (first | with_reducible exact Below.refl _ _ | with_reducible assumption | with_reducible refine Below.setCell ?_ (by first | omega | (simp <;> omega)) _ | with_reducible refine balloc ?_ _ | with_reducible refine Below.drew ?_ | with_reducible refine bstep ?_ (by with_reducible assumption)))⟩
              all_goals first | (with_reducible assumption) | go_simp
            · go_simp
              (try go_wp2_with fail)
              refine hKK.out _ _ (by first | (go_keep; done) | ((repeat' apply And.intro) <;> go_simp)) (fun hHeld => ?_)
              clear hKK KK
              try simp only [Act.put, List.setIfInBounds_toArray, List.set_cons_zero, List.set_cons_succ]
              refine wpAnyH_ready (rs := [5]) (by kernel_rfl) (by simp) ?_
              refine AllReadyH.cons (o := ⟨some 21, _, _, _, _, _⟩) rfl (fun KK hKK => ?_) AllReadyH.nil
              go_simp
              refine Calls.mono (Y1 _) ?_
              rintro e wt5 ⟨rfl, hb⟩
              replace km0 := cell_later hb (cell_al _ km0)
              replace km1 := cell_later hb (cell_al _ km1)
              replace km2 := cell_later hb (cell_al _ km2)
              replace km3 := cell_later hb (cell_al _ km3)
              replace km4 := cell_later hb (cell_al _ km4)
              replace km5 := cell_later hb (cell_al _ km5)
              replace km6 := cell_later hb (cell_al _ km6)
              replace kb0 := cell_later hb (cell_al _ kb0)
              replace kb1 := cell_later hb (cell_al _ kb1)
              replace kb2 := cell_later hb (cell_al _ kb2)
              replace kb3 := cell_later hb (cell_al _ kb3)
              replace jr0 := fro_later hb (cell_al _ kr0) (fro_al jr0)
              replace kr0 := cell_later hb (cell_al _ kr0)
              replace jr1 := fro_later hb (cell_al _ kr1) (fro_al jr1)
              replace kr1 := cell_later hb (cell_al _ kr1)
              replace jr2 := fro_later hb (cell_al _ kr2) (fro_al jr2)
              replace kr2 := cell_later hb (cell_al _ kr2)
              replace jr3 := fro_later hb (cell_al _ kr3) (fro_al jr3)
              replace kr3 := cell_later hb (cell_al _ kr3)
              replace kx0 := cell_later hb (cell_al _ kx0)
              replace kx1 := cell_later hb (cell_al _ kx1)
              replace ky0 := cell_later hb (cell_al _ ky0)
              replace ky1 := cell_later hb (cell_al _ ky1)
              have kd0 : wt5.cell? ⟨wt4.heap.size, 0, none⟩ = some (.int .i64 0) := cell_later hb (by go_simp)
              have jd0 : wt5.frozen? ⟨wt4.heap.size, 0, none⟩ = false := by rw [(bcell hb).2 _ _ (by first | omega | (simp <;> omega))]; go_simp
              have kd1 : wt5.cell? ⟨wt4.heap.size, 1, none⟩ = some (.int .i64 0) := cell_later hb (by go_simp)
              have jd1 : wt5.frozen? ⟨wt4.heap.size, 1, none⟩ = false := by rw [(bcell hb).2 _ _ (by first | omega | (simp <;> omega))]; go_simp
              have kd2 : wt5.cell? ⟨wt4.heap.size, 2, none⟩ = some (.int .i64 0) := cell_later hb (by go_simp)
              have jd2 : wt5.frozen? ⟨wt4.heap.size, 2, none⟩ = false := by rw [(bcell hb).2 _ _ (by first | omega | (simp <;> omega))]; go_simp
              have kd3 : wt5.cell? ⟨wt4.heap.size, 3, none⟩ = some (.int .i64 0) := cell_later hb (by go_simp)
              have jd3 : wt5.frozen? ⟨wt4.heap.size, 3, none⟩ = false := by rw [(bcell hb).2 _ _ (by first | omega | (simp <;> omega))]; go_simp
              replace zm : w.heap.size < wt5.heap.size := World.block_lt_of_cell? _ _ km0
              have zm_wt5 := zm
              replace zb : w.heap.size + 1 < wt5.heap.size := World.block_lt_of_cell? _ _ kb0
              have zb_wt5 := zb
              replace zr : w.heap.size + 1 + 1 < wt5.heap.size := World.block_lt_of_cell? _ _ kr0
              have zr_wt5 := zr
              replace zx : w1.heap.size < wt5.heap.size := World.block_lt_of_cell? _ _ kx0
              have zx_wt5 := zx
              replace zy : w1.heap.size + 1 < wt5.heap.size := World.block_lt_of_cell? _ _ ky0
              have zy_wt5 := zy
              have zd : wt4.heap.size < wt5.heap.size := World.block_lt_of_cell? _ _ kd0
              have zd_wt5 := zd
              replace hb0 : Below w.heap.size w wt5 := (by repeat (first | with_reducible exact Below.refl _ _ | with_reducible assumption | with_reducible refine Below.setCell ?_ (by first | omega | (simp <;> omega)) _ | with_reducible refine balloc ?_ _ | with_reducible refine Below.drew ?_ | with_reducible refine bstep ?_ (by with_reducible assumption)))
              have hs_wt5 := hb.size; (try simp only [World.size_alloc, World.size_setCell] at hs_wt5)
              clear hb
              (try go_wp2_with fail)
              refine hKK.out _ _ (by first | (go_keep; done) | ((repeat' apply And.intro) <;> go_simp)) (fun hHeld => ?_)
              clear hKK KK
              try simp only [Act.put, List.setIfInBounds_toArray, List.set_cons_zero, List.set_cons_succ]
              refine wpAnyH_take (i := 6) (oi := ⟨some 22, _, _, _, _, _⟩) (v := ?_) rfl (by kernel_rfl) (by kernel_rfl) (by kernel_rfl) (fun _ _ _ h => h) (Or.inl ⟨by rfl, ?_⟩) (by assumption) ?_
              rotate_left
              · intro w hSw; (try dsimp only at hSw); go_simp; try with_reducible rfl
              try simp only [Act.put, List.setIfInBounds_toArray, List.set_cons_zero, List.set_cons_succ]
              refine wpAnyH_ready (rs := [8]) (by kernel_rfl) (by simp) ?_
              refine AllReadyH.cons (o := ⟨none, _, _, _, _, _⟩) rfl (fun KK hKK => ?_) AllReadyH.nil
              go_simp
              (try go_wp2_with fail)
              refine hKK.out _ _ (by first | (go_keep; done) | ((repeat' apply And.intro) <;> go_simp)) (fun hHeld => ?_)
              clear hKK KK
              try simp only [Act.put, List.setIfInBounds_toArray, List.set_cons_zero, List.set_cons_succ]
              refine wpAnyH_done (by kernel_rfl) ?_ _
              (try dsimp only [Exit.then, Met])
              go_wp2_with fail
              go_meet
              refine ⟨_, rfl, by first | omega | (simp; omega), ?_, ?_, ?_, ?_, ?_, ?_, ?_, ?_, ?_, ?_, ?_, ?_, ?_, ?_, ?_, ?_, ?_, ?_, ?_, ?_, ?_, ?_, ?_, ?_, ?_, ?_, ?_, (by repeat (first | with_reducible exact Below.refl _ _ | with_reducible assumption | with_reducible refine Below.setCell ?_ (by first | omega | (simp <;> omega)) _ | with_reducible refine balloc ?_ _ | with_reducible refine Below.drew ?_ | with_reducible refine bstep ?_ (by with_reducible assumption)))⟩
              all_goals first | (with_reducible assumption) | go_simp
          · go_simp
            (try go_wp2_with fail)
            refine hKK.out _ _ (by first | (go_keep; done) | ((repeat' apply And.intro) <;> go_simp)) (fun hHeld => ?_)
            clear hKK KK
            try simp only [Act.put, List.setIfInBounds_toArray, List.set_cons_zero, List.set_cons_succ]
            refine wpAnyH_ready (rs := [3]) (by kernel_rfl) (by simp) ?_
            refine AllReadyH.cons (o := ⟨some 19, _, _, _, _, _⟩) rfl (fun KK hKK => ?_) AllReadyH.nil
            go_simp
            refine Calls.mono (ways_c _) ?_
            rintro e wt4 ⟨rfl, hb⟩
            replace km0 := cell_later hb (cell_al _ km0)
            replace km1 := cell_later hb (cell_al _ km1)
            replace km2 := cell_later hb (cell_al _ km2)
            replace km3 := cell_later hb (cell_al _ km3)
            replace km4 := cell_later hb (cell_al _ km4)
            replace km5 := cell_later hb (cell_al _ km5)
            replace km6 := cell_later hb (cell_al _ km6)
            replace kb0 := cell_later hb (cell_al _ kb0)
            replace kb1 := cell_later hb (cell_al _ kb1)
            replace kb2 := cell_later hb (cell_al _ kb2)
            replace kb3 := cell_later hb (cell_al _ kb3)
            replace jr0 := fro_later hb (cell_al _ kr0) (fro_al jr0)
            replace kr0 := cell_later hb (cell_al _ kr0)
            replace jr1 := fro_later hb (cell_al _ kr1) (fro_al jr1)
            replace kr1 := cell_later hb (cell_al _ kr1)
            replace jr2 := fro_later hb (cell_al _ kr2) (fro_al jr2)
            replace kr2 := cell_later hb (cell_al _ kr2)
            replace jr3 := fro_later hb (cell_al _ kr3) (fro_al jr3)
            replace kr3 := cell_later hb (cell_al _ kr3)
            replace kx0 := cell_later hb (cell_al _ kx0)
            replace kx1 := cell_later hb (cell_al _ kx1)
            replace ky0 := cell_later hb (cell_al _ ky0)
            replace ky1 := cell_later hb (cell_al _ ky1)
            have kd0 : wt4.cell? ⟨wt3.heap.size, 0, none⟩ = some (.int .i64 0) := cell_later hb (by go_simp)
            have jd0 : wt4.frozen? ⟨wt3.heap.size, 0, none⟩ = false := by rw [(bcell hb).2 _ _ (by first | omega | (simp <;> omega))]; go_simp
            have kd1 : wt4.cell? ⟨wt3.heap.size, 1, none⟩ = some (.int .i64 0) := cell_later hb (by go_simp)
            have jd1 : wt4.frozen? ⟨wt3.heap.size, 1, none⟩ = false := by rw [(bcell hb).2 _ _ (by first | omega | (simp <;> omega))]; go_simp
            have kd2 : wt4.cell? ⟨wt3.heap.size, 2, none⟩ = some (.int .i64 0) := cell_later hb (by go_simp)
            have jd2 : wt4.frozen? ⟨wt3.heap.size, 2, none⟩ = false := by rw [(bcell hb).2 _ _ (by first | omega | (simp <;> omega))]; go_simp
            have kd3 : wt4.cell? ⟨wt3.heap.size, 3, none⟩ = some (.int .i64 0) := cell_later hb (by go_simp)
            have jd3 : wt4.frozen? ⟨wt3.heap.size, 3, none⟩ = false := by rw [(bcell hb).2 _ _ (by first | omega | (simp <;> omega))]; go_simp
            replace zm : w.heap.size < wt4.heap.size := World.block_lt_of_cell? _ _ km0
            have zm_wt4 := zm
            replace zb : w.heap.size + 1 < wt4.heap.size := World.block_lt_of_cell? _ _ kb0
            have zb_wt4 := zb
            replace zr : w.heap.size + 1 + 1 < wt4.heap.size := World.block_lt_of_cell? _ _ kr0
            have zr_wt4 := zr
            replace zx : w1.heap.size < wt4.heap.size := World.block_lt_of_cell? _ _ kx0
            have zx_wt4 := zx
            replace zy : w1.heap.size + 1 < wt4.heap.size := World.block_lt_of_cell? _ _ ky0
            have zy_wt4 := zy
            have zd : wt3.heap.size < wt4.heap.size := World.block_lt_of_cell? _ _ kd0
            have zd_wt4 := zd
            replace hb0 : Below w.heap.size w wt4 := (by repeat (first | with_reducible exact Below.refl _ _ | with_reducible assumption | with_reducible refine Below.setCell ?_ (by first | omega | (simp <;> omega)) _ | with_reducible refine balloc ?_ _ | with_reducible refine Below.drew ?_ | with_reducible refine bstep ?_ (by with_reducible assumption)))
            have hs_wt4 := hb.size; (try simp only [World.size_alloc, World.size_setCell] at hs_wt4)
            clear hb
            (try go_wp2_with fail)
            refine hKK.out _ _ (by first | (go_keep; done) | ((repeat' apply And.intro) <;> go_simp)) (fun hHeld => ?_)
            clear hKK KK
            try simp only [Act.put, List.setIfInBounds_toArray, List.set_cons_zero, List.set_cons_succ]
            refine wpAnyH_ready (rs := [5]) (by kernel_rfl) (by simp) ?_
            refine AllReadyH.cons (o := ⟨some 21, _, _, _, _, _⟩) rfl (fun KK hKK => ?_) AllReadyH.nil
            go_simp
            refine Calls.mono (Y1 _) ?_
            rintro e wt5 ⟨rfl, hb⟩
            replace km0 := cell_later hb km0
            replace km1 := cell_later hb km1
            replace km2 := cell_later hb km2
            replace km3 := cell_later hb km3
            replace km4 := cell_later hb km4
            replace km5 := cell_later hb km5
            replace km6 := cell_later hb km6
            replace kb0 := cell_later hb kb0
            replace kb1 := cell_later hb kb1
            replace kb2 := cell_later hb kb2
            replace kb3 := cell_later hb kb3
            replace jr0 := fro_later hb kr0 jr0
            replace kr0 := cell_later hb kr0
            replace jr1 := fro_later hb kr1 jr1
            replace kr1 := cell_later hb kr1
            replace jr2 := fro_later hb kr2 jr2
            replace kr2 := cell_later hb kr2
            replace jr3 := fro_later hb kr3 jr3
            replace kr3 := cell_later hb kr3
            replace kx0 := cell_later hb kx0
            replace kx1 := cell_later hb kx1
            replace ky0 := cell_later hb ky0
            replace ky1 := cell_later hb ky1
            replace jd0 := fro_later hb kd0 jd0
            replace kd0 := cell_later hb kd0
            replace jd1 := fro_later hb kd1 jd1
            replace kd1 := cell_later hb kd1
            replace jd2 := fro_later hb kd2 jd2
            replace kd2 := cell_later hb kd2
            replace jd3 := fro_later hb kd3 jd3
            replace kd3 := cell_later hb kd3
            replace zm : w.heap.size < wt5.heap.size := World.block_lt_of_cell? _ _ km0
            have zm_wt5 := zm
            replace zb : w.heap.size + 1 < wt5.heap.size := World.block_lt_of_cell? _ _ kb0
            have zb_wt5 := zb
            replace zr : w.heap.size + 1 + 1 < wt5.heap.size := World.block_lt_of_cell? _ _ kr0
            have zr_wt5 := zr
            replace zx : w1.heap.size < wt5.heap.size := World.block_lt_of_cell? _ _ kx0
            have zx_wt5 := zx
            replace zy : w1.heap.size + 1 < wt5.heap.size := World.block_lt_of_cell? _ _ ky0
            have zy_wt5 := zy
            replace zd : wt3.heap.size < wt5.heap.size := World.block_lt_of_cell? _ _ kd0
            have zd_wt5 := zd
            replace hb0 : Below w.heap.size w wt5 := (by repeat (first | with_reducible exact Below.refl _ _ | with_reducible assumption | with_reducible refine Below.setCell ?_ (by first | omega | (simp <;> omega)) _ | with_reducible refine balloc ?_ _ | with_reducible refine Below.drew ?_ | with_reducible refine bstep ?_ (by with_reducible assumption)))
            have hs_wt5 : wt4.heap.size ≤ wt5.heap.size := hb.size
            clear hb
            (try go_wp2_with fail)
            refine hKK.out _ _ (by first | (go_keep; done) | ((repeat' apply And.intro) <;> go_simp)) (fun hHeld => ?_)
            clear hKK KK
            try simp only [Act.put, List.setIfInBounds_toArray, List.set_cons_zero, List.set_cons_succ]
            refine wpAnyH_take (i := 6) (oi := ⟨some 22, _, _, _, _, _⟩) (v := ?_) rfl (by kernel_rfl) (by kernel_rfl) (by kernel_rfl) (fun _ _ _ h => h) (Or.inl ⟨by rfl, ?_⟩) (by assumption) ?_
            rotate_left
            · intro w hSw; (try dsimp only at hSw); go_simp; try with_reducible rfl
            try simp only [Act.put, List.setIfInBounds_toArray, List.set_cons_zero, List.set_cons_succ]
            refine wpAnyH_ready (rs := [8]) (by kernel_rfl) (by simp) ?_
            refine AllReadyH.cons (o := ⟨none, _, _, _, _, _⟩) rfl (fun KK hKK => ?_) AllReadyH.nil
            go_simp
            (try go_wp2_with fail)
            refine hKK.out _ _ (by first | (go_keep; done) | ((repeat' apply And.intro) <;> go_simp)) (fun hHeld => ?_)
            clear hKK KK
            try simp only [Act.put, List.setIfInBounds_toArray, List.set_cons_zero, List.set_cons_succ]
            refine wpAnyH_done (by kernel_rfl) ?_ _
            (try dsimp only [Exit.then, Met])
            go_wp2_with fail
            go_meet
            refine ⟨_, rfl, by first | omega | (simp; omega), ?_, ?_, ?_, ?_, ?_, ?_, ?_, ?_, ?_, ?_, ?_, ?_, ?_, ?_, ?_, ?_, ?_, ?_, ?_, ?_, ?_, ?_, ?_, ?_, ?_, ?_, ?_, (by repeat (first | with_reducible exact Below.refl _ _ | with_reducible assumption | with_reducible refine Below.setCell ?_ (by first | omega | (simp <;> omega)) _ | with_reducible refine balloc ?_ _ | with_reducible refine Below.drew ?_ | with_reducible refine bstep ?_ (by with_reducible assumption)))⟩
            all_goals first | (with_reducible assumption) | go_simp
        · go_simp
          (try go_wp2_with fail)
          refine hKK.out _ _ (by first | (go_keep; done) | ((repeat' apply And.intro) <;> go_simp)) (fun hHeld => ?_)
          clear hKK KK
          try simp only [Act.put, List.setIfInBounds_toArray, List.set_cons_zero, List.set_cons_succ]
          refine wpAnyH_ready (rs := [2]) (by kernel_rfl) (by simp) ?_
          refine AllReadyH.cons (o := ⟨some 18, _, _, _, _, _⟩) rfl (fun KK hKK => ?_) AllReadyH.nil
          go_simp
          refine Calls.mono (X1 _) ?_
          rintro e wt3 ⟨rfl, hb⟩
          replace km0 := cell_later hb (cell_al _ km0)
          replace km1 := cell_later hb (cell_al _ km1)
          replace km2 := cell_later hb (cell_al _ km2)
          replace km3 := cell_later hb (cell_al _ km3)
          replace km4 := cell_later hb (cell_al _ km4)
          replace km5 := cell_later hb (cell_al _ km5)
          replace km6 := cell_later hb (cell_al _ km6)
          replace kb0 := cell_later hb (cell_al _ kb0)
          replace kb1 := cell_later hb (cell_al _ kb1)
          replace kb2 := cell_later hb (cell_al _ kb2)
          replace kb3 := cell_later hb (cell_al _ kb3)
          replace jr0 := fro_later hb (cell_al _ kr0) (fro_al jr0)
          replace kr0 := cell_later hb (cell_al _ kr0)
          replace jr1 := fro_later hb (cell_al _ kr1) (fro_al jr1)
          replace kr1 := cell_later hb (cell_al _ kr1)
          replace jr2 := fro_later hb (cell_al _ kr2) (fro_al jr2)
          replace kr2 := cell_later hb (cell_al _ kr2)
          replace jr3 := fro_later hb (cell_al _ kr3) (fro_al jr3)
          replace kr3 := cell_later hb (cell_al _ kr3)
          replace kx0 := cell_later hb (cell_al _ kx0)
          replace kx1 := cell_later hb (cell_al _ kx1)
          replace ky0 := cell_later hb (cell_al _ ky0)
          replace ky1 := cell_later hb (cell_al _ ky1)
          have kd0 : wt3.cell? ⟨wt2.heap.size, 0, none⟩ = some (.int .i64 0) := cell_later hb (by go_simp)
          have jd0 : wt3.frozen? ⟨wt2.heap.size, 0, none⟩ = false := by rw [(bcell hb).2 _ _ (by first | omega | (simp <;> omega))]; go_simp
          have kd1 : wt3.cell? ⟨wt2.heap.size, 1, none⟩ = some (.int .i64 0) := cell_later hb (by go_simp)
          have jd1 : wt3.frozen? ⟨wt2.heap.size, 1, none⟩ = false := by rw [(bcell hb).2 _ _ (by first | omega | (simp <;> omega))]; go_simp
          have kd2 : wt3.cell? ⟨wt2.heap.size, 2, none⟩ = some (.int .i64 0) := cell_later hb (by go_simp)
          have jd2 : wt3.frozen? ⟨wt2.heap.size, 2, none⟩ = false := by rw [(bcell hb).2 _ _ (by first | omega | (simp <;> omega))]; go_simp
          have kd3 : wt3.cell? ⟨wt2.heap.size, 3, none⟩ = some (.int .i64 0) := cell_later hb (by go_simp)
          have jd3 : wt3.frozen? ⟨wt2.heap.size, 3, none⟩ = false := by rw [(bcell hb).2 _ _ (by first | omega | (simp <;> omega))]; go_simp
          replace zm : w.heap.size < wt3.heap.size := World.block_lt_of_cell? _ _ km0
          have zm_wt3 := zm
          replace zb : w.heap.size + 1 < wt3.heap.size := World.block_lt_of_cell? _ _ kb0
          have zb_wt3 := zb
          replace zr : w.heap.size + 1 + 1 < wt3.heap.size := World.block_lt_of_cell? _ _ kr0
          have zr_wt3 := zr
          replace zx : w1.heap.size < wt3.heap.size := World.block_lt_of_cell? _ _ kx0
          have zx_wt3 := zx
          replace zy : w1.heap.size + 1 < wt3.heap.size := World.block_lt_of_cell? _ _ ky0
          have zy_wt3 := zy
          have zd : wt2.heap.size < wt3.heap.size := World.block_lt_of_cell? _ _ kd0
          have zd_wt3 := zd
          replace hb0 : Below w.heap.size w wt3 := (by repeat (first | with_reducible exact Below.refl _ _ | with_reducible assumption | with_reducible refine Below.setCell ?_ (by first | omega | (simp <;> omega)) _ | with_reducible refine balloc ?_ _ | with_reducible refine Below.drew ?_ | with_reducible refine bstep ?_ (by with_reducible assumption)))
          have hs_wt3 := hb.size; (try simp only [World.size_alloc, World.size_setCell] at hs_wt3)
          clear hb
          (try go_wp2_with fail)
          refine hKK.out _ _ (by first | (go_keep; done) | ((repeat' apply And.intro) <;> go_simp)) (fun hHeld => ?_)
          clear hKK KK
          try simp only [Act.put, List.setIfInBounds_toArray, List.set_cons_zero, List.set_cons_succ]
          refine wpAnyH_ready (rs := [3]) (by kernel_rfl) (by simp) ?_
          refine AllReadyH.cons (o := ⟨some 19, _, _, _, _, _⟩) rfl (fun KK hKK => ?_) AllReadyH.nil
          go_simp
          refine Calls.mono (ways_c _) ?_
          rintro e wt4 ⟨rfl, hb⟩
          replace km0 := cell_later hb km0
          replace km1 := cell_later hb km1
          replace km2 := cell_later hb km2
          replace km3 := cell_later hb km3
          replace km4 := cell_later hb km4
          replace km5 := cell_later hb km5
          replace km6 := cell_later hb km6
          replace kb0 := cell_later hb kb0
          replace kb1 := cell_later hb kb1
          replace kb2 := cell_later hb kb2
          replace kb3 := cell_later hb kb3
          replace jr0 := fro_later hb kr0 jr0
          replace kr0 := cell_later hb kr0
          replace jr1 := fro_later hb kr1 jr1
          replace kr1 := cell_later hb kr1
          replace jr2 := fro_later hb kr2 jr2
          replace kr2 := cell_later hb kr2
          replace jr3 := fro_later hb kr3 jr3
          replace kr3 := cell_later hb kr3
          replace kx0 := cell_later hb kx0
          replace kx1 := cell_later hb kx1
          replace ky0 := cell_later hb ky0
          replace ky1 := cell_later hb ky1
          replace jd0 := fro_later hb kd0 jd0
          replace kd0 := cell_later hb kd0
          replace jd1 := fro_later hb kd1 jd1
          replace kd1 := cell_later hb kd1
          replace jd2 := fro_later hb kd2 jd2
          replace kd2 := cell_later hb kd2
          replace jd3 := fro_later hb kd3 jd3
          replace kd3 := cell_later hb kd3
          replace zm : w.heap.size < wt4.heap.size := World.block_lt_of_cell? _ _ km0
          have zm_wt4 := zm
          replace zb : w.heap.size + 1 < wt4.heap.size := World.block_lt_of_cell? _ _ kb0
          have zb_wt4 := zb
          replace zr : w.heap.size + 1 + 1 < wt4.heap.size := World.block_lt_of_cell? _ _ kr0
          have zr_wt4 := zr
          replace zx : w1.heap.size < wt4.heap.size := World.block_lt_of_cell? _ _ kx0
          have zx_wt4 := zx
          replace zy : w1.heap.size + 1 < wt4.heap.size := World.block_lt_of_cell? _ _ ky0
          have zy_wt4 := zy
          replace zd : wt2.heap.size < wt4.heap.size := World.block_lt_of_cell? _ _ kd0
          have zd_wt4 := zd
          replace hb0 : Below w.heap.size w wt4 := (by repeat (first | with_reducible exact Below.refl _ _ | with_reducible assumption | with_reducible refine Below.setCell ?_ (by first | omega | (simp <;> omega)) _ | with_reducible refine balloc ?_ _ | with_reducible refine Below.drew ?_ | with_reducible refine bstep ?_ (by with_reducible assumption)))
          have hs_wt4 : wt3.heap.size ≤ wt4.heap.size := hb.size
          clear hb
          (try go_wp2_with fail)
          refine hKK.out _ _ (by first | (go_keep; done) | ((repeat' apply And.intro) <;> go_simp)) (fun hHeld => ?_)
          clear hKK KK
          try simp only [Act.put, List.setIfInBounds_toArray, List.set_cons_zero, List.set_cons_succ]
          refine wpAnyH_ready (rs := [5]) (by kernel_rfl) (by simp) ?_
          refine AllReadyH.cons (o := ⟨some 21, _, _, _, _, _⟩) rfl (fun KK hKK => ?_) AllReadyH.nil
          go_simp
          refine Calls.mono (Y1 _) ?_
          rintro e wt5 ⟨rfl, hb⟩
          replace km0 := cell_later hb km0
          replace km1 := cell_later hb km1
          replace km2 := cell_later hb km2
          replace km3 := cell_later hb km3
          replace km4 := cell_later hb km4
          replace km5 := cell_later hb km5
          replace km6 := cell_later hb km6
          replace kb0 := cell_later hb kb0
          replace kb1 := cell_later hb kb1
          replace kb2 := cell_later hb kb2
          replace kb3 := cell_later hb kb3
          replace jr0 := fro_later hb kr0 jr0
          replace kr0 := cell_later hb kr0
          replace jr1 := fro_later hb kr1 jr1
          replace kr1 := cell_later hb kr1
          replace jr2 := fro_later hb kr2 jr2
          replace kr2 := cell_later hb kr2
          replace jr3 := fro_later hb kr3 jr3
          replace kr3 := cell_later hb kr3
          replace kx0 := cell_later hb kx0
          replace kx1 := cell_later hb kx1
          replace ky0 := cell_later hb ky0
          replace ky1 := cell_later hb ky1
          replace jd0 := fro_later hb kd0 jd0
          replace kd0 := cell_later hb kd0
          replace jd1 := fro_later hb kd1 jd1
          replace kd1 := cell_later hb kd1
          replace jd2 := fro_later hb kd2 jd2
          replace kd2 := cell_later hb kd2
          replace jd3 := fro_later hb kd3 jd3
          replace kd3 := cell_later hb kd3
          replace zm : w.heap.size < wt5.heap.size := World.block_lt_of_cell? _ _ km0
          have zm_wt5 := zm
          replace zb : w.heap.size + 1 < wt5.heap.size := World.block_lt_of_cell? _ _ kb0
          have zb_wt5 := zb
          replace zr : w.heap.size + 1 + 1 < wt5.heap.size := World.block_lt_of_cell? _ _ kr0
          have zr_wt5 := zr
          replace zx : w1.heap.size < wt5.heap.size := World.block_lt_of_cell? _ _ kx0
          have zx_wt5 := zx
          replace zy : w1.heap.size + 1 < wt5.heap.size := World.block_lt_of_cell? _ _ ky0
          have zy_wt5 := zy
          replace zd : wt2.heap.size < wt5.heap.size := World.block_lt_of_cell? _ _ kd0
          have zd_wt5 := zd
          replace hb0 : Below w.heap.size w wt5 := (by repeat (first | with_reducible exact Below.refl _ _ | with_reducible assumption | with_reducible refine Below.setCell ?_ (by first | omega | (simp <;> omega)) _ | with_reducible refine balloc ?_ _ | with_reducible refine Below.drew ?_ | with_reducible refine bstep ?_ (by with_reducible assumption)))
          have hs_wt5 : wt4.heap.size ≤ wt5.heap.size := hb.size
          clear hb
          (try go_wp2_with fail)
          refine hKK.out _ _ (by first | (go_keep; done) | ((repeat' apply And.intro) <;> go_simp)) (fun hHeld => ?_)
          clear hKK KK
          try simp only [Act.put, List.setIfInBounds_toArray, List.set_cons_zero, List.set_cons_succ]
          refine wpAnyH_take (i := 6) (oi := ⟨some 22, _, _, _, _, _⟩) (v := ?_) rfl (by kernel_rfl) (by kernel_rfl) (by kernel_rfl) (fun _ _ _ h => h) (Or.inl ⟨by rfl, ?_⟩) (by assumption) ?_
          rotate_left
          · intro w hSw; (try dsimp only at hSw); go_simp; try with_reducible rfl
          try simp only [Act.put, List.setIfInBounds_toArray, List.set_cons_zero, List.set_cons_succ]
          refine wpAnyH_ready (rs := [8]) (by kernel_rfl) (by simp) ?_
          refine AllReadyH.cons (o := ⟨none, _, _, _, _, _⟩) rfl (fun KK hKK => ?_) AllReadyH.nil
          go_simp
          (try go_wp2_with fail)
          refine hKK.out _ _ (by first | (go_keep; done) | ((repeat' apply And.intro) <;> go_simp)) (fun hHeld => ?_)
          clear hKK KK
          try simp only [Act.put, List.setIfInBounds_toArray, List.set_cons_zero, List.set_cons_succ]
          refine wpAnyH_done (by kernel_rfl) ?_ _
          (try dsimp only [Exit.then, Met])
          go_wp2_with fail
          go_meet
          refine ⟨_, rfl, by first | omega | (simp; omega), ?_, ?_, ?_, ?_, ?_, ?_, ?_, ?_, ?_, ?_, ?_, ?_, ?_, ?_, ?_, ?_, ?_, ?_, ?_, ?_, ?_, ?_, ?_, ?_, ?_, ?_, ?_, (by repeat (first | with_reducible exact Below.refl _ _ | with_reducible assumption | with_reducible refine Below.setCell ?_ (by first | omega | (simp <;> omega)) _ | with_reducible refine balloc ?_ _ | with_reducible refine Below.drew ?_ | with_reducible refine bstep ?_ (by with_reducible assumption)))⟩
          all_goals first | (with_reducible assumption) | go_simp
      · go_simp
        (try go_wp2_with fail)
        refine hKK.out _ _ (by first | (go_keep; done) | ((repeat' apply And.intro) <;> go_simp)) (fun hHeld => ?_)
        clear hKK KK
        try simp only [Act.put, List.setIfInBounds_toArray, List.set_cons_zero, List.set_cons_succ]
        refine wpAnyH_ready (rs := [0]) (by kernel_rfl) (by simp) ?_
        refine AllReadyH.cons (o := ⟨some 16, _, _, _, _, _⟩) rfl (fun KK hKK => ?_) AllReadyH.nil
        go_simp
        refine Calls.mono (ways_c _) ?_
        rintro e wt2 ⟨rfl, hb⟩
        replace km0 := cell_later hb (cell_al _ (cell_al _ (cell_al _ km0)))
        replace km1 := cell_later hb (cell_al _ (cell_al _ (cell_al _ km1)))
        replace km2 := cell_later hb (cell_al _ (cell_al _ (cell_al _ km2)))
        replace km3 := cell_later hb (cell_al _ (cell_al _ (cell_al _ km3)))
        replace km4 := cell_later hb (cell_al _ (cell_al _ (cell_al _ km4)))
        replace km5 := cell_later hb (cell_al _ (cell_al _ (cell_al _ km5)))
        replace km6 := cell_later hb (cell_al _ (cell_al _ (cell_al _ km6)))
        replace kb0 := cell_later hb (cell_al _ (cell_al _ (cell_al _ kb0)))
        replace kb1 := cell_later hb (cell_al _ (cell_al _ (cell_al _ kb1)))
        replace kb2 := cell_later hb (cell_al _ (cell_al _ (cell_al _ kb2)))
        replace kb3 := cell_later hb (cell_al _ (cell_al _ (cell_al _ kb3)))
        replace jr0 := fro_later hb (cell_al _ (cell_al _ (cell_al _ kr0))) (fro_al (fro_al (fro_al jr0)))
        replace kr0 := cell_later hb (cell_al _ (cell_al _ (cell_al _ kr0)))
        replace jr1 := fro_later hb (cell_al _ (cell_al _ (cell_al _ kr1))) (fro_al (fro_al (fro_al jr1)))
        replace kr1 := cell_later hb (cell_al _ (cell_al _ (cell_al _ kr1)))
        replace jr2 := fro_later hb (cell_al _ (cell_al _ (cell_al _ kr2))) (fro_al (fro_al (fro_al jr2)))
        replace kr2 := cell_later hb (cell_al _ (cell_al _ (cell_al _ kr2)))
        replace jr3 := fro_later hb (cell_al _ (cell_al _ (cell_al _ kr3))) (fro_al (fro_al (fro_al jr3)))
        replace kr3 := cell_later hb (cell_al _ (cell_al _ (cell_al _ kr3)))
        have kx0 : wt2.cell? ⟨w1.heap.size, 0, none⟩ = some (.int .i64 x1) := cell_later hb (by go_simp)
        have kx1 : wt2.cell? ⟨w1.heap.size, 1, none⟩ = some (.int .i64 x2) := cell_later hb (by go_simp)
        have ky0 : wt2.cell? ⟨w1.heap.size + 1, 0, none⟩ = some (.int .i64 y1) := cell_later hb (by go_simp)
        have ky1 : wt2.cell? ⟨w1.heap.size + 1, 1, none⟩ = some (.int .i64 y2) := cell_later hb (by go_simp)
        have kd0 : wt2.cell? ⟨w1.heap.size + 1 + 1, 0, none⟩ = some (.int .i64 0) := cell_later hb (by go_simp)
        have jd0 : wt2.frozen? ⟨w1.heap.size + 1 + 1, 0, none⟩ = false := by rw [(bcell hb).2 _ _ (by first | omega | (simp <;> omega))]; go_simp
        have kd1 : wt2.cell? ⟨w1.heap.size + 1 + 1, 1, none⟩ = some (.int .i64 0) := cell_later hb (by go_simp)
        have jd1 : wt2.frozen? ⟨w1.heap.size + 1 + 1, 1, none⟩ = false := by rw [(bcell hb).2 _ _ (by first | omega | (simp <;> omega))]; go_simp
        have kd2 : wt2.cell? ⟨w1.heap.size + 1 + 1, 2, none⟩ = some (.int .i64 0) := cell_later hb (by go_simp)
        have jd2 : wt2.frozen? ⟨w1.heap.size + 1 + 1, 2, none⟩ = false := by rw [(bcell hb).2 _ _ (by first | omega | (simp <;> omega))]; go_simp
        have kd3 : wt2.cell? ⟨w1.heap.size + 1 + 1, 3, none⟩ = some (.int .i64 0) := cell_later hb (by go_simp)
        have jd3 : wt2.frozen? ⟨w1.heap.size + 1 + 1, 3, none⟩ = false := by rw [(bcell hb).2 _ _ (by first | omega | (simp <;> omega))]; go_simp
        replace zm : w.heap.size < wt2.heap.size := World.block_lt_of_cell? _ _ km0
        have zm_wt2 := zm
        replace zb : w.heap.size + 1 < wt2.heap.size := World.block_lt_of_cell? _ _ kb0
        have zb_wt2 := zb
        replace zr : w.heap.size + 1 + 1 < wt2.heap.size := World.block_lt_of_cell? _ _ kr0
        have zr_wt2 := zr
        have zx : w1.heap.size < wt2.heap.size := World.block_lt_of_cell? _ _ kx0
        have zx_wt2 := zx
        have zy : w1.heap.size + 1 < wt2.heap.size := World.block_lt_of_cell? _ _ ky0
        have zy_wt2 := zy
        have zd : w1.heap.size + 1 + 1 < wt2.heap.size := World.block_lt_of_cell? _ _ kd0
        have zd_wt2 := zd
        replace hb0 : Below w.heap.size w wt2 := (by repeat (first | with_reducible exact Below.refl _ _ | with_reducible assumption | with_reducible refine Below.setCell ?_ (by first | omega | (simp <;> omega)) _ | with_reducible refine balloc ?_ _ | with_reducible refine Below.drew ?_ | with_reducible refine bstep ?_ (by with_reducible assumption)))
        have hs_wt2 := hb.size; (try simp only [World.size_alloc, World.size_setCell] at hs_wt2)
        clear hb
        (try go_wp2_with fail)
        refine hKK.out _ _ (by first | (go_keep; done) | ((repeat' apply And.intro) <;> go_simp)) (fun hHeld => ?_)
        clear hKK KK
        try simp only [Act.put, List.setIfInBounds_toArray, List.set_cons_zero, List.set_cons_succ]
        refine wpAnyH_ready (rs := [2]) (by kernel_rfl) (by simp) ?_
        refine AllReadyH.cons (o := ⟨some 18, _, _, _, _, _⟩) rfl (fun KK hKK => ?_) AllReadyH.nil
        go_simp
        refine Calls.mono (X1 _) ?_
        rintro e wt3 ⟨rfl, hb⟩
        replace km0 := cell_later hb km0
        replace km1 := cell_later hb km1
        replace km2 := cell_later hb km2
        replace km3 := cell_later hb km3
        replace km4 := cell_later hb km4
        replace km5 := cell_later hb km5
        replace km6 := cell_later hb km6
        replace kb0 := cell_later hb kb0
        replace kb1 := cell_later hb kb1
        replace kb2 := cell_later hb kb2
        replace kb3 := cell_later hb kb3
        replace jr0 := fro_later hb kr0 jr0
        replace kr0 := cell_later hb kr0
        replace jr1 := fro_later hb kr1 jr1
        replace kr1 := cell_later hb kr1
        replace jr2 := fro_later hb kr2 jr2
        replace kr2 := cell_later hb kr2
        replace jr3 := fro_later hb kr3 jr3
        replace kr3 := cell_later hb kr3
        replace kx0 := cell_later hb kx0
        replace kx1 := cell_later hb kx1
        replace ky0 := cell_later hb ky0
        replace ky1 := cell_later hb ky1
        replace jd0 := fro_later hb kd0 jd0
        replace kd0 := cell_later hb kd0
        replace jd1 := fro_later hb kd1 jd1
        replace kd1 := cell_later hb kd1
        replace jd2 := fro_later hb kd2 jd2
        replace kd2 := cell_later hb kd2
        replace jd3 := fro_later hb kd3 jd3
        replace kd3 := cell_later hb kd3
        replace zm : w.heap.size < wt3.heap.size := World.block_lt_of_cell? _ _ km0
        have zm_wt3 := zm
        replace zb : w.heap.size + 1 < wt3.heap.size := World.block_lt_of_cell? _ _ kb0
        have zb_wt3 := zb
        replace zr : w.heap.size + 1 + 1 < wt3.heap.size := World.block_lt_of_cell? _ _ kr0
        have zr_wt3 := zr
        replace zx : w1.heap.size < wt3.heap.size := World.block_lt_of_cell? _ _ kx0
        have zx_wt3 := zx
        replace zy : w1.heap.size + 1 < wt3.heap.size := World.block_lt_of_cell? _ _ ky0
        have zy_wt3 := zy
        replace zd : w1.heap.size + 1 + 1 < wt3.heap.size := World.block_lt_of_cell? _ _ kd0
        have zd_wt3 := zd
        replace hb0 : Below w.heap.size w wt3 := (by repeat (first | with_reducible exact Below.refl _ _ | with_reducible assumption | with_reducible refine Below.setCell ?_ (by first | omega | (simp <;> omega)) _ | with_reducible refine balloc ?_ _ | with_reducible refine Below.drew ?_ | with_reducible refine bstep ?_ (by with_reducible assumption)))
        have hs_wt3 : wt2.heap.size ≤ wt3.heap.size := hb.size
        clear hb
        (try go_wp2_with fail)
        refine hKK.out _ _ (by first | (go_keep; done) | ((repeat' apply And.intro) <;> go_simp)) (fun hHeld => ?_)
        clear hKK KK
        try simp only [Act.put, List.setIfInBounds_toArray, List.set_cons_zero, List.set_cons_succ]
        refine wpAnyH_ready (rs := [3]) (by kernel_rfl) (by simp) ?_
        refine AllReadyH.cons (o := ⟨some 19, _, _, _, _, _⟩) rfl (fun KK hKK => ?_) AllReadyH.nil
        go_simp
        refine Calls.mono (ways_c _) ?_
        rintro e wt4 ⟨rfl, hb⟩
        replace km0 := cell_later hb km0
        replace km1 := cell_later hb km1
        replace km2 := cell_later hb km2
        replace km3 := cell_later hb km3
        replace km4 := cell_later hb km4
        replace km5 := cell_later hb km5
        replace km6 := cell_later hb km6
        replace kb0 := cell_later hb kb0
        replace kb1 := cell_later hb kb1
        replace kb2 := cell_later hb kb2
        replace kb3 := cell_later hb kb3
        replace jr0 := fro_later hb kr0 jr0
        replace kr0 := cell_later hb kr0
        replace jr1 := fro_later hb kr1 jr1
        replace kr1 := cell_later hb kr1
        replace jr2 := fro_later hb kr2 jr2
        replace kr2 := cell_later hb kr2
        replace jr3 := fro_later hb kr3 jr3
        replace kr3 := cell_later hb kr3
        replace kx0 := cell_later hb kx0
        replace kx1 := cell_later hb kx1
        replace ky0 := cell_later hb ky0
        replace ky1 := cell_later hb ky1
        replace jd0 := fro_later hb kd0 jd0
        replace kd0 := cell_later hb kd0
        replace jd1 := fro_later hb kd1 jd1
        replace kd1 := cell_later hb kd1
        replace jd2 := fro_later hb kd2 jd2
        replace kd2 := cell_later hb kd2
        replace jd3 := fro_later hb kd3 jd3
        replace kd3 := cell_later hb kd3
        replace zm : w.heap.size < wt4.heap.size := World.block_lt_of_cell? _ _ km0
        have zm_wt4 := zm
        replace zb : w.heap.size + 1 < wt4.heap.size := World.block_lt_of_cell? _ _ kb0
        have zb_wt4 := zb
        replace zr : w.heap.size + 1 + 1 < wt4.heap.size := World.block_lt_of_cell? _ _ kr0
        have zr_wt4 := zr
        replace zx : w1.heap.size < wt4.heap.size := World.block_lt_of_cell? _ _ kx0
        have zx_wt4 := zx
        replace zy : w1.heap.size + 1 < wt4.heap.size := World.block_lt_of_cell? _ _ ky0
        have zy_wt4 := zy
        replace zd : w1.heap.size + 1 + 1 < wt4.heap.size := World.block_lt_of_cell? _ _ kd0
        have zd_wt4 := zd
        replace hb0 : Below w.heap.size w wt4 := (by repeat (first | with_reducible exact Below.refl _ _ | with_reducible assumption | with_reducible refine Below.setCell ?_ (by first | omega | (simp <;> omega)) _ | with_reducible refine balloc ?_ _ | with_reducible refine Below.drew ?_ | with_reducible refine bstep ?_ (by with_reducible assumption)))
        have hs_wt4 : wt3.heap.size ≤ wt4.heap.size := hb.size
        clear hb
        (try go_wp2_with fail)
        refine hKK.out _ _ (by first | (go_keep; done) | ((repeat' apply And.intro) <;> go_simp)) (fun hHeld => ?_)
        clear hKK KK
        try simp only [Act.put, List.setIfInBounds_toArray, List.set_cons_zero, List.set_cons_succ]
        refine wpAnyH_ready (rs := [5]) (by kernel_rfl) (by simp) ?_
        refine AllReadyH.cons (o := ⟨some 21, _, _, _, _, _⟩) rfl (fun KK hKK => ?_) AllReadyH.nil
        go_simp
        refine Calls.mono (Y1 _) ?_
        rintro e wt5 ⟨rfl, hb⟩
        replace km0 := cell_later hb km0
        replace km1 := cell_later hb km1
        replace km2 := cell_later hb km2
        replace km3 := cell_later hb km3
        replace km4 := cell_later hb km4
        replace km5 := cell_later hb km5
        replace km6 := cell_later hb km6
        replace kb0 := cell_later hb kb0
        replace kb1 := cell_later hb kb1
        replace kb2 := cell_later hb kb2
        replace kb3 := cell_later hb kb3
        replace jr0 := fro_later hb kr0 jr0
        replace kr0 := cell_later hb kr0
        replace jr1 := fro_later hb kr1 jr1
        replace kr1 := cell_later hb kr1
        replace jr2 := fro_later hb kr2 jr2
        replace kr2 := cell_later hb kr2
        replace jr3 := fro_later hb kr3 jr3
        replace kr3 := cell_later hb kr3
        replace kx0 := cell_later hb kx0
        replace kx1 := cell_later hb kx1
        replace ky0 := cell_later hb ky0
        replace ky1 := cell_later hb ky1
        replace jd0 := fro_later hb kd0 jd0
        replace kd0 := cell_later hb kd0
        replace jd1 := fro_later hb kd1 jd1
        replace kd1 := cell_later hb kd1
        replace jd2 := fro_later hb kd2 jd2
        replace kd2 := cell_later hb kd2
        replace jd3 := fro_later hb kd3 jd3
        replace kd3 := cell_later hb kd3
        replace zm : w.heap.size < wt5.heap.size := World.block_lt_of_cell? _ _ km0
        have zm_wt5 := zm
        replace zb : w.heap.size + 1 < wt5.heap.size := World.block_lt_of_cell? _ _ kb0
        have zb_wt5 := zb
        replace zr : w.heap.size + 1 + 1 < wt5.heap.size := World.block_lt_of_cell? _ _ kr0
        have zr_wt5 := zr
        replace zx : w1.heap.size < wt5.heap.size := World.block_lt_of_cell? _ _ kx0
        have zx_wt5 := zx
        replace zy : w1.heap.size + 1 < wt5.heap.size := World.block_lt_of_cell? _ _ ky0
        have zy_wt5 := zy
        replace zd : w1.heap.size + 1 + 1 < wt5.heap.size := World.block_lt_of_cell? _ _ kd0
        have zd_wt5 := zd
        replace hb0 : Below w.heap.size w wt5 := (by repeat (first | with_reducible exact Below.refl _ _ | with_reducible assumption | with_reducible refine Below.setCell ?_ (by first | omega | (simp <;> omega)) _ | with_reducible refine balloc ?_ _ | with_reducible refine Below.drew ?_ | with_reducible refine bstep ?_ (by with_reducible assumption)))
        have hs_wt5 : wt4.heap.size ≤ wt5.heap.size := hb.size
        clear hb
        (try go_wp2_with fail)
        refine hKK.out _ _ (by first | (go_keep; done) | ((repeat' apply And.intro) <;> go_simp)) (fun hHeld => ?_)
        clear hKK KK
        try simp only [Act.put, List.setIfInBounds_toArray, List.set_cons_zero, List.set_cons_succ]
        refine wpAnyH_take (i := 6) (oi := ⟨some 22, _, _, _, _, _⟩) (v := ?_) rfl (by kernel_rfl) (by kernel_rfl) (by kernel_rfl) (fun _ _ _ h => h) (Or.inl ⟨by rfl, ?_⟩) (by assumption) ?_
        rotate_left
        · intro w hSw; (try dsimp only at hSw); go_simp; try with_reducible rfl
        try simp only [Act.put, List.setIfInBounds_toArray, List.set_cons_zero, List.set_cons_succ]
        refine wpAnyH_ready (rs := [8]) (by kernel_rfl) (by simp) ?_
        refine AllReadyH.cons (o := ⟨none, _, _, _, _, _⟩) rfl (fun KK hKK => ?_) AllReadyH.nil
        go_simp
        (try go_wp2_with fail)
        refine hKK.out _ _ (by first | (go_keep; done) | ((repeat' apply And.intro) <;> go_simp)) (fun hHeld => ?_)
        clear hKK KK
        try simp only [Act.put, List.setIfInBounds_toArray, List.set_cons_zero, List.set_cons_succ]
        refine wpAnyH_done (by kernel_rfl) ?_ _
        (try dsimp only [Exit.then, Met])
        go_wp2_with fail
        go_meet
        refine ⟨_, rfl, by first | omega | (simp; omega), ?_, ?_, ?_, ?_, ?_, ?_, ?_, ?_, ?_, ?_, ?_, ?_, ?_, ?_, ?_, ?_, ?_, ?_, ?_, ?_, ?_, ?_, ?_, ?_, ?_, ?_, ?_, (by repeat (first | with_reducible exact Below.refl _ _ | with_reducible assumption | with_reducible refine Below.setCell ?_ (by first | omega | (simp <;> omega)) _ | with_reducible refine balloc ?_ _ | with_reducible refine Below.drew ?_ | with_reducible refine bstep ?_ (by with_reducible assumption)))⟩
        all_goals first | (with_reducible assumption) | go_simp
    case rest =>
      obtain ⟨gd, rfl, lgd, kd0, kd1, kd2, kd3, km0, km1, km2, km3, km4, km5, km6, kb0, kb1, kb2, kb3, kr0, jr0, kr1, jr1, kr2, jr2, kr3, jr3, kx0, kx1, ky0, ky1, hb0⟩ := hcut
      have zd : gd < wc.heap.size := World.block_lt_of_cell? _ _ kd0
      have zd_wc := zd
      have zm : w.heap.size < wc.heap.size := World.block_lt_of_cell? _ _ km0
      have zm_wc := zm
      have zb : w.heap.size + 1 < wc.heap.size := World.block_lt_of_cell? _ _ kb0
      have zb_wc := zb
      have zr : w.heap.size + 1 + 1 < wc.heap.size := World.block_lt_of_cell? _ _ kr0
      have zr_wc := zr
      have zx : w1.heap.size < wc.heap.size := World.block_lt_of_cell? _ _ kx0
      have zx_wc := zx
      have zy : w1.heap.size + 1 < wc.heap.size := World.block_lt_of_cell? _ _ ky0
      have zy_wc := zy
      go_wp2_with fail
      refine Calls.mono (Sp.validBox_c a1 a2 a3 a4 _) ?_
      rintro e w2 ⟨rfl, hb⟩
      replace kd0 := cell_later hb kd0
      replace kd1 := cell_later hb kd1
      replace kd2 := cell_later hb kd2
      replace kd3 := cell_later hb kd3
      replace km0 := cell_later hb km0
      replace km1 := cell_later hb km1
      replace km2 := cell_later hb km2
      replace km3 := cell_later hb km3
      replace km4 := cell_later hb km4
      replace km5 := cell_later hb km5
      replace km6 := cell_later hb km6
      replace kb0 := cell_later hb kb0
      replace kb1 := cell_later hb kb1
      replace kb2 := cell_later hb kb2
      replace kb3 := cell_later hb kb3
      replace jr0 := fro_later hb kr0 jr0
      replace kr0 := cell_later hb kr0
      replace jr1 := fro_later hb kr1 jr1
      replace kr1 := cell_later hb kr1
      replace jr2 := fro_later hb kr2 jr2
      replace kr2 := cell_later hb kr2
      replace jr3 := fro_later hb kr3 jr3
      replace kr3 := cell_later hb kr3
      replace kx0 := cell_later hb kx0
      replace kx1 := cell_later hb kx1
      replace ky0 := cell_later hb ky0
      replace ky1 := cell_later hb ky1
      replace zd : gd < w2.heap.size := World.block_lt_of_cell? _ _ kd0
      have zd_w2 := zd
      replace zm : w.heap.size < w2.heap.size := World.block_lt_of_cell? _ _ km0
      have zm_w2 := zm
      replace zb : w.heap.size + 1 < w2.heap.size := World.block_lt_of_cell? _ _ kb0
      have zb_w2 := zb
      replace zr : w.heap.size + 1 + 1 < w2.heap.size := World.block_lt_of_cell? _ _ kr0
      have zr_w2 := zr
      replace zx : w1.heap.size < w2.heap.size := World.block_lt_of_cell? _ _ kx0
      have zx_w2 := zx
      replace zy : w1.heap.size + 1 < w2.heap.size := World.block_lt_of_cell? _ _ ky0
      have zy_w2 := zy
      replace hb0 : Below w.heap.size w w2 := (by repeat (first | with_reducible exact Below.refl _ _ | with_reducible assumption | with_reducible refine Below.setCell ?_ (by first | omega | (simp <;> omega)) _ | with_reducible refine balloc ?_ _ | with_reducible refine Below.drew ?_ | with_reducible refine bstep ?_ (by with_reducible assumption)))
      have hs_w2 : wc.heap.size ≤ w2.heap.size := hb.size
      clear hb
      rw [h1]
      go_wp2
      refine bodyPost_ret ?_ rfl ⟨rfl, (by repeat (first | with_reducible exact Below.refl _ _ | with_reducible assumption | with_reducible refine Below.setCell ?_ (by first | omega | (simp <;> omega)) _ | with_reducible refine balloc ?_ _ | with_reducible refine Below.drew ?_ | with_reducible refine bstep ?_ (by with_reducible assumption)))⟩
      simp [results, Try.results38, go_sem, selI, erv, kr0, kr1, kr2, kr3]


end Go.Proofs.Ytlkjpackjjncaaa.Da
