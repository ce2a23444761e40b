/- DatJ: back. -/
import Derived.Test.YtlkjpackjjncaaaDatG
import Derived.Test.YtlkjpackjjncaaaDatH
import Derived.Test.YtlkjpackjjncaaaDatE
import Derived.Test.YtlkjpackjjncaaaRows
import Derived.WalkKit
import Derived.WalkSpells
import Derived.WalkLawsBesides
import Derived.Lib.Hide
import Derived.Deep.QuietTactic
import Derived.BigQuiet
import Derived.RegionTactic
import Derived.ChangeAlike
import Derived.BigRegion
import Derived.Deep.RegionHeld3
import Derived.Deep.RegionWith
import Derived.Outline
import Derived.Laws.EntriesVeiled
import Derived.Deep.DeepCutAuto
namespace Go.Proofs.Ytlkjpackjjncaaa.Da
open Go.RowKit Sp
set_option linter.unusedSimpArgs false
set_option linter.unusedVariables false

set_option maxRecDepth 20000 in
set_option maxHeartbeats 25600000 in
theorem back_c (m1 m2 m3 m4 m5 m6 m7 b1 b2 b3 b4 : Int) (w : World) (hm1 : -2000000 ≤ m1 ∧ m1 ≤ 2000000) (hm2 : -2000000 ≤ m2 ∧ m2 ≤ 2000000) (hm4 : -2000000 ≤ m4 ∧ m4 ≤ 2000000) (hm5 : -2000000 ≤ m5 ∧ m5 ≤ 2000000) (hm3 : -100000 ≤ m3 ∧ m3 ≤ 100000) (hm6 : -100000 ≤ m6 ∧ m6 ≤ 100000) (hm7 : 0 ≤ m7 ∧ m7 ≤ 1000) (hdt : 250000000000 ≤ m1 * m5 - m2 * m4) (hbx : (-1000000 ≤ b1 ∧ b1 ≤ b2 ∧ b2 ≤ 1000000) ∧ (-1000000 ≤ b3 ∧ b3 ≤ b4 ∧ b4 ≤ 1000000)) : Calls Try.prog 44 #[(.agg #[(.int .i64 m1), (.int .i64 m2), (.int .i64 m3), (.int .i64 m4), (.int .i64 m5), (.int .i64 m6), (.int .i64 m7)]), (.agg #[(.int .i64 b1), (.int .i64 b2), (.int .i64 b3), (.int .i64 b4)])] w (Ret w (.tuple #[.agg #[(.int .i64 (selI (rPl (bX1 m1 m2 m3 m4 m5 m6 m7 b1 b2 b3 b4) (bX2 m1 m2 m3 m4 m5 m6 m7 b1 b2 b3 b4) (bY1 m1 m2 m3 m4 m5 m6 m7 b1 b2 b3 b4) (bY2 m1 m2 m3 m4 m5 m6 m7 b1 b2 b3 b4)) (max (bX1 m1 m2 m3 m4 m5 m6 m7 b1 b2 b3 b4) (-1000000)))), (.int .i64 (selI (rPl (bX1 m1 m2 m3 m4 m5 m6 m7 b1 b2 b3 b4) (bX2 m1 m2 m3 m4 m5 m6 m7 b1 b2 b3 b4) (bY1 m1 m2 m3 m4 m5 m6 m7 b1 b2 b3 b4) (bY2 m1 m2 m3 m4 m5 m6 m7 b1 b2 b3 b4)) (min (bX2 m1 m2 m3 m4 m5 m6 m7 b1 b2 b3 b4) 1000000))), (.int .i64 (selI (rPl (bX1 m1 m2 m3 m4 m5 m6 m7 b1 b2 b3 b4) (bX2 m1 m2 m3 m4 m5 m6 m7 b1 b2 b3 b4) (bY1 m1 m2 m3 m4 m5 m6 m7 b1 b2 b3 b4) (bY2 m1 m2 m3 m4 m5 m6 m7 b1 b2 b3 b4)) (max (bY1 m1 m2 m3 m4 m5 m6 m7 b1 b2 b3 b4) (-1000000)))), (.int .i64 (selI (rPl (bX1 m1 m2 m3 m4 m5 m6 m7 b1 b2 b3 b4) (bX2 m1 m2 m3 m4 m5 m6 m7 b1 b2 b3 b4) (bY1 m1 m2 m3 m4 m5 m6 m7 b1 b2 b3 b4) (bY2 m1 m2 m3 m4 m5 m6 m7 b1 b2 b3 b4)) (min (bY2 m1 m2 m3 m4 m5 m6 m7 b1 b2 b3 b4) 1000000)))], (.int .i64 (erv true (rPl (bX1 m1 m2 m3 m4 m5 m6 m7 b1 b2 b3 b4) (bX2 m1 m2 m3 m4 m5 m6 m7 b1 b2 b3 b4) (bY1 m1 m2 m3 m4 m5 m6 m7 b1 b2 b3 b4) (bY2 m1 m2 m3 m4 m5 m6 m7 b1 b2 b3 b4)) 4))])) := by
  have hu1 : -1200000 ≤ b1 - (m3 + m7) ∧ b1 - (m3 + m7) ≤ 1200000 := by omega
  have hu2 : -1200000 ≤ b2 - (m3 - m7) ∧ b2 - (m3 - m7) ≤ 1200000 := by omega
  have hv1 : -1200000 ≤ b3 - (m6 + m7) ∧ b3 - (m6 + m7) ≤ 1200000 := by omega
  have hv2 : -1200000 ≤ b4 - (m6 - m7) ∧ b4 - (m6 - m7) ≤ 1200000 := by omega
  have O1 := ov_bd0 (a := m5) (b := -m2) (x1 := b1 - (m3 + m7)) (x2 := b2 - (m3 - m7)) (y1 := b3 - (m6 + m7)) (y2 := b4 - (m6 - m7)) hm5 (by omega) (by omega) (by omega) (by omega) (by omega)
  have O2 := ov_bd0 (a := -m4) (b := m1) (x1 := b1 - (m3 + m7)) (x2 := b2 - (m3 - m7)) (y1 := b3 - (m6 + m7)) (y2 := b4 - (m6 - m7)) (by omega) hm1 (by omega) (by omega) (by omega) (by omega)
  have C1 := fun w => both_over m5 (-m2) 0 (-m4) m1 0 (b1 - (m3 + m7)) (b2 - (m3 - m7)) (b3 - (m6 + m7)) (b4 - (m6 - m7)) w hm5 (by omega) (by omega) hm1 (by omega) (by omega) hu1 hu2 hv1 hv2
  have T1 := fun w => turned_c m1 m2 m3 m4 m5 m6 w hm2.1 hm2.2 hm4.1 hm4.2
  have U1 := fun w => unshifted_c m1 m2 m3 m4 m5 m6 m7 b1 b2 b3 b4 w hm3 hm6 hm7 hbx
  have D1 := fun w => det_c m1 m2 m3 m4 m5 m6 w hm1 hm2 hm4 hm5
  unfold bX1 bX2 bY1 bY2 kL kH
  generalize b1 - (m3 + m7) = u1 at *
  generalize b2 - (m3 - m7) = u2 at *
  generalize b3 - (m6 + m7) = u3 at *
  generalize b4 - (m6 - m7) = u4 at *
  generalize oL m5 (-m2) 0 u1 u2 u3 u4 = x1 at *
  generalize oH m5 (-m2) 0 u1 u2 u3 u4 = x2 at *
  generalize oL (-m4) m1 0 u1 u2 u3 u4 = y1 at *
  generalize oH (-m4) m1 0 u1 u2 u3 u4 = y2 at *
  generalize m1 * m5 - m2 * m4 = D at *
  have X1 := fun w => multiple_c x1 x2 1000000 w (by omega) (by omega)
  have Y1 := fun w => multiple_c y1 y2 1000000 w (by omega) (by omega)
  have ex1 : min (x1 * 1000000) (x2 * 1000000) = x1 * 1000000 := by omega
  have ex2 : max (x1 * 1000000) (x2 * 1000000) = x2 * 1000000 := by omega
  have ey1 : min (y1 * 1000000) (y2 * 1000000) = y1 * 1000000 := by omega
  have ey2 : max (y1 * 1000000) (y2 * 1000000) = y2 * 1000000 := by omega
  rw [ex1, ex2] at X1
  rw [ey1, ey2] at Y1
  have X2 := fun w => inward_c (x1 * 1000000) (x2 * 1000000) D w (by omega) (by omega) (by omega) (by omega) (by omega)
  have Y2 := fun w => inward_c (y1 * 1000000) (y2 * 1000000) D w (by omega) (by omega) (by omega) (by omega) (by omega)
  have B1 := upd_bd (n := x1 * 1000000) hdt (by omega) (by omega)
  have B2 := dn_bd (n := x2 * 1000000) hdt rfl (by omega) (by omega)
  have B3 := upd_bd (n := y1 * 1000000) hdt (by omega) (by omega)
  have B4 := dn_bd (n := y2 * 1000000) hdt rfl (by omega) (by omega)
  generalize upd (x1 * 1000000) D = a1 at *
  generalize dn (x2 * 1000000) D = a2 at *
  generalize upd (y1 * 1000000) D = a3 at *
  generalize dn (y2 * 1000000) D = a4 at *
  have P1 := fun w => places_c a1 a2 a3 a4 w B1 B2 B3 B4
  clear O1 O2 B1 B2 B3 B4 ex1 ex2 ey1 ey2 hu1 hu2 hv1 hv2 hdt hbx hm1 hm2 hm3 hm4 hm5 hm6 hm7
  generalize rPl a1 a2 a3 a4 = f at *
  go_enter Try.func44, Try.ntmps44
  go_upto_region 1 with fail
  go_cut [6, 7] (fun s6 s7 wx => ∃ gx gy : Nat, s6 = .pointer (some ⟨gx, 0, none⟩) ∧ s7 = .pointer (some ⟨gy, 0, none⟩) ∧ w.heap.size + 1 + 1 + 1 ≤ gx ∧ w.heap.size + 1 + 1 + 1 ≤ gy ∧ wx.cell? ⟨gx, 0, none⟩ = some (.int .i64 x1) ∧ wx.cell? ⟨gx, 1, none⟩ = some (.int .i64 x2) ∧ wx.cell? ⟨gy, 0, none⟩ = some (.int .i64 y1) ∧ wx.cell? ⟨gy, 1, none⟩ = some (.int .i64 y2) ∧ wx.cell? ⟨w.heap.size, 0, none⟩ = some (.int .i64 m1) ∧ wx.cell? ⟨w.heap.size, 1, none⟩ = some (.int .i64 m2) ∧ wx.cell? ⟨w.heap.size, 2, none⟩ = some (.int .i64 m3) ∧ wx.cell? ⟨w.heap.size, 3, none⟩ = some (.int .i64 m4) ∧ wx.cell? ⟨w.heap.size, 4, none⟩ = some (.int .i64 m5) ∧ wx.cell? ⟨w.heap.size, 5, none⟩ = some (.int .i64 m6) ∧ wx.cell? ⟨w.heap.size, 6, none⟩ = some (.int .i64 m7) ∧ wx.cell? ⟨w.heap.size + 1, 0, none⟩ = some (.int .i64 b1) ∧ wx.cell? ⟨w.heap.size + 1, 1, none⟩ = some (.int .i64 b2) ∧ wx.cell? ⟨w.heap.size + 1, 2, none⟩ = some (.int .i64 b3) ∧ wx.cell? ⟨w.heap.size + 1, 3, none⟩ = some (.int .i64 b4) ∧ wx.cell? ⟨w.heap.size + 1 + 1, 0, none⟩ = some (.int .i64 0) ∧ wx.frozen? ⟨w.heap.size + 1 + 1, 0, none⟩ = false ∧ wx.cell? ⟨w.heap.size + 1 + 1, 1, none⟩ = some (.int .i64 0) ∧ wx.frozen? ⟨w.heap.size + 1 + 1, 1, none⟩ = false ∧ wx.cell? ⟨w.heap.size + 1 + 1, 2, none⟩ = some (.int .i64 0) ∧ wx.frozen? ⟨w.heap.size + 1 + 1, 2, none⟩ = false ∧ wx.cell? ⟨w.heap.size + 1 + 1, 3, none⟩ = some (.int .i64 0) ∧ wx.frozen? ⟨w.heap.size + 1 + 1, 3, none⟩ = false ∧ Below w.heap.size w wx)
  case first =>
    refine wp_region_held_drew (S := fun w' => w'.cell? ⟨w.heap.size, 0, none⟩ = some (.int .i64 m1) ∧ w'.cell? ⟨w.heap.size, 1, none⟩ = some (.int .i64 m2) ∧ w'.cell? ⟨w.heap.size, 2, none⟩ = some (.int .i64 m3) ∧ w'.cell? ⟨w.heap.size, 3, none⟩ = some (.int .i64 m4) ∧ w'.cell? ⟨w.heap.size, 4, none⟩ = some (.int .i64 m5) ∧ w'.cell? ⟨w.heap.size, 5, none⟩ = some (.int .i64 m6) ∧ w'.cell? ⟨w.heap.size, 6, none⟩ = some (.int .i64 m7) ∧ w'.cell? ⟨w.heap.size + 1, 0, none⟩ = some (.int .i64 b1) ∧ w'.cell? ⟨w.heap.size + 1, 1, none⟩ = some (.int .i64 b2) ∧ w'.cell? ⟨w.heap.size + 1, 2, none⟩ = some (.int .i64 b3) ∧ w'.cell? ⟨w.heap.size + 1, 3, none⟩ = some (.int .i64 b4)) (by kernel_rfl) (by first | (go_keep; done) | ((repeat' apply And.intro) <;> go_simp)) (fun hHeld => ?_)
    refine wpAnyH_take (i := 0) (oi := ⟨some 9, _, _, _, _, _⟩) (v := ?_) rfl (by kernel_rfl) (by kernel_rfl) (by kernel_rfl) (fun _ _ _ h => h) (Or.inl ⟨by rfl, ?_⟩) (by assumption) ?_
    rotate_left
    · intro w hSw; (try dsimp only at hSw); go_simp; try with_reducible rfl
    try simp only [Act.put, List.setIfInBounds_toArray, List.set_cons_zero, List.set_cons_succ]
    refine wpAnyH_take (i := 1) (oi := ⟨some 10, _, _, _, _, _⟩) (v := ?_) rfl (by kernel_rfl) (by kernel_rfl) (by kernel_rfl) (fun _ _ _ h => h) (Or.inl ⟨by rfl, ?_⟩) (by assumption) ?_
    rotate_left
    · intro w hSw; (try dsimp only at hSw); go_simp; try with_reducible rfl
    try simp only [Act.put, List.setIfInBounds_toArray, List.set_cons_zero, List.set_cons_succ]
    refine wpAnyH_take (i := 3) (oi := ⟨some 12, _, _, _, _, _⟩) (v := ?_) rfl (by kernel_rfl) (by kernel_rfl) (by kernel_rfl) (fun _ _ _ h => h) (Or.inl ⟨by rfl, ?_⟩) (by assumption) ?_
    rotate_left
    · intro w hSw; (try dsimp only at hSw); go_simp; try with_reducible rfl
    try simp only [Act.put, List.setIfInBounds_toArray, List.set_cons_zero, List.set_cons_succ]
    refine wpAnyH_take (i := 4) (oi := ⟨some 13, _, _, _, _, _⟩) (v := ?_) rfl (by kernel_rfl) (by kernel_rfl) (by kernel_rfl) (fun _ _ _ h => h) (Or.inl ⟨by rfl, ?_⟩) (by assumption) ?_
    rotate_left
    · intro w hSw; (try dsimp only at hSw); go_simp; try with_reducible rfl
    try simp only [Act.put, List.setIfInBounds_toArray, List.set_cons_zero, List.set_cons_succ]
    refine wpAnyH_ready (rs := [2, 10, 11]) (by kernel_rfl) (by simp) ?_
    refine AllReadyH.cons (o := ⟨some 11, _, _, _, _, _⟩) rfl (fun KK hKK => ?_) (AllReadyH.cons (o := ⟨some 6, _, _, _, _, _⟩) rfl (fun KK hKK => ?_) (AllReadyH.cons (o := ⟨some 7, _, _, _, _, _⟩) rfl (fun KK hKK => ?_) AllReadyH.nil))
    ·go_simp
     refine Calls.mono (T1 _) ?_
     rintro e wt1 ⟨rfl, hb⟩
     have km0 : wt1.cell? ⟨w.heap.size, 0, none⟩ = some (.int .i64 m1) := cell_later hb (by go_simp)
     have km1 : wt1.cell? ⟨w.heap.size, 1, none⟩ = some (.int .i64 m2) := cell_later hb (by go_simp)
     have km2 : wt1.cell? ⟨w.heap.size, 2, none⟩ = some (.int .i64 m3) := cell_later hb (by go_simp)
     have km3 : wt1.cell? ⟨w.heap.size, 3, none⟩ = some (.int .i64 m4) := cell_later hb (by go_simp)
     have km4 : wt1.cell? ⟨w.heap.size, 4, none⟩ = some (.int .i64 m5) := cell_later hb (by go_simp)
     have km5 : wt1.cell? ⟨w.heap.size, 5, none⟩ = some (.int .i64 m6) := cell_later hb (by go_simp)
     have km6 : wt1.cell? ⟨w.heap.size, 6, none⟩ = some (.int .i64 m7) := cell_later hb (by go_simp)
     have kb0 : wt1.cell? ⟨w.heap.size + 1, 0, none⟩ = some (.int .i64 b1) := cell_later hb (by go_simp)
     have kb1 : wt1.cell? ⟨w.heap.size + 1, 1, none⟩ = some (.int .i64 b2) := cell_later hb (by go_simp)
     have kb2 : wt1.cell? ⟨w.heap.size + 1, 2, none⟩ = some (.int .i64 b3) := cell_later hb (by go_simp)
     have kb3 : wt1.cell? ⟨w.heap.size + 1, 3, none⟩ = some (.int .i64 b4) := cell_later hb (by go_simp)
     have kr0 : wt1.cell? ⟨w.heap.size + 1 + 1, 0, none⟩ = some (.int .i64 0) := cell_later hb (by go_simp)
     have jr0 : wt1.frozen? ⟨w.heap.size + 1 + 1, 0, none⟩ = false := by rw [(bcell hb).2 _ _ (by first | omega | (simp <;> omega))]; go_simp
     have kr1 : wt1.cell? ⟨w.heap.size + 1 + 1, 1, none⟩ = some (.int .i64 0) := cell_later hb (by go_simp)
     have jr1 : wt1.frozen? ⟨w.heap.size + 1 + 1, 1, none⟩ = false := by rw [(bcell hb).2 _ _ (by first | omega | (simp <;> omega))]; go_simp
     have kr2 : wt1.cell? ⟨w.heap.size + 1 + 1, 2, none⟩ = some (.int .i64 0) := cell_later hb (by go_simp)
     have jr2 : wt1.frozen? ⟨w.heap.size + 1 + 1, 2, none⟩ = false := by rw [(bcell hb).2 _ _ (by first | omega | (simp <;> omega))]; go_simp
     have kr3 : wt1.cell? ⟨w.heap.size + 1 + 1, 3, none⟩ = some (.int .i64 0) := cell_later hb (by go_simp)
     have jr3 : wt1.frozen? ⟨w.heap.size + 1 + 1, 3, none⟩ = false := by rw [(bcell hb).2 _ _ (by first | omega | (simp <;> omega))]; go_simp
     have zm : w.heap.size < wt1.heap.size := World.block_lt_of_cell? _ _ km0
     have zb : w.heap.size + 1 < wt1.heap.size := World.block_lt_of_cell? _ _ kb0
     have zr : w.heap.size + 1 + 1 < wt1.heap.size := World.block_lt_of_cell? _ _ kr0
     have zr_wt1 := zr
     have hb0 : Below w.heap.size w wt1 := (by repeat (first | with_reducible exact Below.refl _ _ | with_reducible assumption | with_reducible refine Below.setCell ?_ (by first | omega | (simp <;> omega)) _ | with_reducible refine balloc ?_ _ | with_reducible refine Below.drew ?_ | with_reducible refine bstep ?_ (by with_reducible assumption)))
     clear hb
     (try go_wp2_with fail)
     refine hKK.out _ _ (by first | (go_keep; done) | ((repeat' apply And.intro) <;> go_simp)) (fun hHeld => ?_)
     clear hKK KK
     try simp only [Act.put, List.setIfInBounds_toArray, List.set_cons_zero, List.set_cons_succ]
     refine wpAnyH_ready (rs := [5, 10, 11]) (by kernel_rfl) (by simp) ?_
     refine AllReadyH.cons (o := ⟨some 14, _, _, _, _, _⟩) rfl (fun KK hKK => ?_) (AllReadyH.cons (o := ⟨some 6, _, _, _, _, _⟩) rfl (fun KK hKK => ?_) (AllReadyH.cons (o := ⟨some 7, _, _, _, _, _⟩) rfl (fun KK hKK => ?_) AllReadyH.nil))
     ·go_simp
      refine Calls.mono (U1 _) ?_
      rintro e wt2 ⟨rfl, hb⟩
      replace km0 := cell_later hb km0
      replace km1 := cell_later hb km1
      replace km2 := cell_later hb km2
      replace km3 := cell_later hb km3
      replace km4 := cell_later hb km4
      replace km5 := cell_later hb km5
      replace km6 := cell_later hb km6
      replace kb0 := cell_later hb kb0
      replace kb1 := cell_later hb kb1
      replace kb2 := cell_later hb kb2
      replace kb3 := cell_later hb kb3
      replace jr0 := fro_later hb kr0 jr0
      replace kr0 := cell_later hb kr0
      replace jr1 := fro_later hb kr1 jr1
      replace kr1 := cell_later hb kr1
      replace jr2 := fro_later hb kr2 jr2
      replace kr2 := cell_later hb kr2
      replace jr3 := fro_later hb kr3 jr3
      replace kr3 := cell_later hb kr3
      replace zm : w.heap.size < wt2.heap.size := World.block_lt_of_cell? _ _ km0
      replace zb : w.heap.size + 1 < wt2.heap.size := World.block_lt_of_cell? _ _ kb0
      replace zr : w.heap.size + 1 + 1 < wt2.heap.size := World.block_lt_of_cell? _ _ kr0
      have zr_wt2 := zr
      replace hb0 : Below w.heap.size w wt2 := (by repeat (first | with_reducible exact Below.refl _ _ | with_reducible assumption | with_reducible refine Below.setCell ?_ (by first | omega | (simp <;> omega)) _ | with_reducible refine balloc ?_ _ | with_reducible refine Below.drew ?_ | with_reducible refine bstep ?_ (by with_reducible assumption)))
      clear hb
      (try go_wp2_with fail)
      refine hKK.out _ _ (by first | (go_keep; done) | ((repeat' apply And.intro) <;> go_simp)) (fun hHeld => ?_)
      clear hKK KK
      try simp only [Act.put, List.setIfInBounds_toArray, List.set_cons_zero, List.set_cons_succ]
      refine wpAnyH_ready (rs := [6, 10, 11]) (by kernel_rfl) (by simp) ?_
      refine AllReadyH.cons (o := ⟨some 15, _, _, _, _, _⟩) rfl (fun KK hKK => ?_) (AllReadyH.cons (o := ⟨some 6, _, _, _, _, _⟩) rfl (fun KK hKK => ?_) (AllReadyH.cons (o := ⟨some 7, _, _, _, _, _⟩) rfl (fun KK hKK => ?_) AllReadyH.nil))
      ·go_simp
       refine Calls.mono (C1 _) ?_
       rintro e wt3 ⟨rfl, hb⟩
       replace km0 := cell_later hb km0
       replace km1 := cell_later hb km1
       replace km2 := cell_later hb km2
       replace km3 := cell_later hb km3
       replace km4 := cell_later hb km4
       replace km5 := cell_later hb km5
       replace km6 := cell_later hb km6
       replace kb0 := cell_later hb kb0
       replace kb1 := cell_later hb kb1
       replace kb2 := cell_later hb kb2
       replace kb3 := cell_later hb kb3
       replace jr0 := fro_later hb kr0 jr0
       replace kr0 := cell_later hb kr0
       replace jr1 := fro_later hb kr1 jr1
       replace kr1 := cell_later hb kr1
       replace jr2 := fro_later hb kr2 jr2
       replace kr2 := cell_later hb kr2
       replace jr3 := fro_later hb kr3 jr3
       replace kr3 := cell_later hb kr3
       replace zm : w.heap.size < wt3.heap.size := World.block_lt_of_cell? _ _ km0
       replace zb : w.heap.size + 1 < wt3.heap.size := World.block_lt_of_cell? _ _ kb0
       replace zr : w.heap.size + 1 + 1 < wt3.heap.size := World.block_lt_of_cell? _ _ kr0
       have zr_wt3 := zr
       replace hb0 : Below w.heap.size w wt3 := (by repeat (first | with_reducible exact Below.refl _ _ | with_reducible assumption | with_reducible refine Below.setCell ?_ (by first | omega | (simp <;> omega)) _ | with_reducible refine balloc ?_ _ | with_reducible refine Below.drew ?_ | with_reducible refine bstep ?_ (by with_reducible assumption)))
       clear hb
       (try go_wp2_with fail)
       refine hKK.out _ _ (by first | (go_keep; done) | ((repeat' apply And.intro) <;> go_simp)) (fun hHeld => ?_)
       clear hKK KK
       try simp only [Act.put, List.setIfInBounds_toArray, List.set_cons_zero, List.set_cons_succ]
       refine wpAnyH_take (i := 7) (oi := ⟨some 8, _, _, _, _, _⟩) (v := ?_) rfl (by kernel_rfl) (by kernel_rfl) (by kernel_rfl) (fun _ _ _ h => h) (Or.inl ⟨by rfl, ?_⟩) (by assumption) ?_
       rotate_left
       · intro w hSw; (try dsimp only at hSw); go_simp; try with_reducible rfl
       try simp only [Act.put, List.setIfInBounds_toArray, List.set_cons_zero, List.set_cons_succ]
       refine wpAnyH_take (i := 8) (oi := ⟨some 16, _, _, _, _, _⟩) (v := ?_) rfl (by kernel_rfl) (by kernel_rfl) (by kernel_rfl) (fun _ _ _ h => h) (Or.inl ⟨by rfl, ?_⟩) (by assumption) ?_
       rotate_left
       · intro w hSw; (try dsimp only at hSw); go_simp; try with_reducible rfl
       try simp only [Act.put, List.setIfInBounds_toArray, List.set_cons_zero, List.set_cons_succ]
       refine wpAnyH_take (i := 9) (oi := ⟨some 17, _, _, _, _, _⟩) (v := ?_) rfl (by kernel_rfl) (by kernel_rfl) (by kernel_rfl) (fun _ _ _ h => h) (Or.inl ⟨by rfl, ?_⟩) (by assumption) ?_
       rotate_left
       · intro w hSw; (try dsimp only at hSw); go_simp; try with_reducible rfl
       try simp only [Act.put, List.setIfInBounds_toArray, List.set_cons_zero, List.set_cons_succ]
       refine wpAnyH_ready (rs := [10, 11]) (by kernel_rfl) (by simp) ?_
       refine AllReadyH.cons (o := ⟨some 6, _, _, _, _, _⟩) rfl (fun KK hKK => ?_) (AllReadyH.cons (o := ⟨some 7, _, _, _, _, _⟩) rfl (fun KK hKK => ?_) AllReadyH.nil)
       ·go_simp
        (try go_wp2_with fail)
        refine hKK.out _ _ (by first | (go_keep; done) | ((repeat' apply And.intro) <;> go_simp)) (fun hHeld => ?_)
        clear hKK KK
        try simp only [Act.put, List.setIfInBounds_toArray, List.set_cons_zero, List.set_cons_succ]
        refine wpAnyH_ready (rs := [11]) (by kernel_rfl) (by simp) ?_
        refine AllReadyH.cons (o := ⟨some 7, _, _, _, _, _⟩) rfl (fun KK hKK => ?_) AllReadyH.nil
        go_simp
        (try go_wp2_with fail)
        refine hKK.out _ _ (by first | (go_keep; done) | ((repeat' apply And.intro) <;> go_simp)) (fun hHeld => ?_)
        clear hKK KK
        try simp only [Act.put, List.setIfInBounds_toArray, List.set_cons_zero, List.set_cons_succ]
        refine wpAnyH_ready (rs := [12]) (by kernel_rfl) (by simp) ?_
        refine AllReadyH.cons (o := ⟨none, _, _, _, _, _⟩) rfl (fun KK hKK => ?_) AllReadyH.nil
        go_simp
        (try go_wp2_with fail)
        refine hKK.out _ _ (by first | (go_keep; done) | ((repeat' apply And.intro) <;> go_simp)) (fun hHeld => ?_)
        clear hKK KK
        try simp only [Act.put, List.setIfInBounds_toArray, List.set_cons_zero, List.set_cons_succ]
        refine wpAnyH_ready (rs := [13]) (by kernel_rfl) (by simp) ?_
        refine AllReadyH.cons (o := ⟨none, _, _, _, _, _⟩) rfl (fun KK hKK => ?_) AllReadyH.nil
        go_simp
        (try go_wp2_with fail)
        refine hKK.out _ _ (by first | (go_keep; done) | ((repeat' apply And.intro) <;> go_simp)) (fun hHeld => ?_)
        clear hKK KK
        try simp only [Act.put, List.setIfInBounds_toArray, List.set_cons_zero, List.set_cons_succ]
        refine wpAnyH_done (by kernel_rfl) ?_ _
        (try dsimp only [Exit.then, Met])
        go_wp2_with fail
        go_meet
        refine ⟨_, _, rfl, rfl, by first | omega | (simp; omega), by first | omega | (simp; omega), ?_, ?_, ?_, ?_, ?_, ?_, ?_, ?_, ?_, ?_, ?_, ?_, ?_, ?_, ?_, ?_, ?_, ?_, ?_, ?_, ?_, ?_, ?_, (by repeat (first | with_reducible exact Below.refl _ _ | with_reducible assumption | with_reducible refine Below.setCell ?_ (by first | omega | (simp <;> omega)) _ | with_reducible refine balloc ?_ _ | with_reducible refine Below.drew ?_ | with_reducible refine bstep ?_ (by with_reducible assumption)))⟩
        all_goals first | (with_reducible assumption) | go_simp
       ·go_simp
        (try go_wp2_with fail)
        refine hKK.out _ _ (by first | (go_keep; done) | ((repeat' apply And.intro) <;> go_simp)) (fun hHeld => ?_)
        clear hKK KK
        try simp only [Act.put, List.setIfInBounds_toArray, List.set_cons_zero, List.set_cons_succ]
        refine wpAnyH_ready (rs := [10]) (by kernel_rfl) (by simp) ?_
        refine AllReadyH.cons (o := ⟨some 6, _, _, _, _, _⟩) rfl (fun KK hKK => ?_) AllReadyH.nil
        go_simp
        (try go_wp2_with fail)
        refine hKK.out _ _ (by first | (go_keep; done) | ((repeat' apply And.intro) <;> go_simp)) (fun hHeld => ?_)
        clear hKK KK
        try simp only [Act.put, List.setIfInBounds_toArray, List.set_cons_zero, List.set_cons_succ]
        refine wpAnyH_ready (rs := [12]) (by kernel_rfl) (by simp) ?_
        refine AllReadyH.cons (o := ⟨none, _, _, _, _, _⟩) rfl (fun KK hKK => ?_) AllReadyH.nil
        go_simp
        (try go_wp2_with fail)
        refine hKK.out _ _ (by first | (go_keep; done) | ((repeat' apply And.intro) <;> go_simp)) (fun hHeld => ?_)
        clear hKK KK
        try simp only [Act.put, List.setIfInBounds_toArray, List.set_cons_zero, List.set_cons_succ]
        refine wpAnyH_ready (rs := [13]) (by kernel_rfl) (by simp) ?_
        refine AllReadyH.cons (o := ⟨none, _, _, _, _, _⟩) rfl (fun KK hKK => ?_) AllReadyH.nil
        go_simp
        (try go_wp2_with fail)
        refine hKK.out _ _ (by first | (go_keep; done) | ((repeat' apply And.intro) <;> go_simp)) (fun hHeld => ?_)
        clear hKK KK
        try simp only [Act.put, List.setIfInBounds_toArray, List.set_cons_zero, List.set_cons_succ]
        refine wpAnyH_done (by kernel_rfl) ?_ _
        (try dsimp only [Exit.then, Met])
        go_wp2_with fail
        go_meet
        refine ⟨_, _, rfl, rfl, by first | omega | (simp; omega), by first | omega | (simp; omega), ?_, ?_, ?_, ?_, ?_, ?_, ?_, ?_, ?_, ?_, ?_, ?_, ?_, ?_, ?_, ?_, ?_, ?_, ?_, ?_, ?_, ?_, ?_, (by repeat (first | with_reducible exact Below.refl _ _ | with_reducible assumption | with_reducible refine Below.setCell ?_ (by first | omega | (simp <;> omega)) _ | with_reducible refine balloc ?_ _ | with_reducible refine Below.drew ?_ | with_reducible refine bstep ?_ (by with_reducible assumption)))⟩
        all_goals first | (with_reducible assumption) | go_simp
      ·go_simp
       (try go_wp2_with fail)
       refine hKK.out _ _ (by first | (go_keep; done) | ((repeat' apply And.intro) <;> go_simp)) (fun hHeld => ?_)
       clear hKK KK
       try simp only [Act.put, List.setIfInBounds_toArray, List.set_cons_zero, List.set_cons_succ]
       refine wpAnyH_ready (rs := [6, 11]) (by kernel_rfl) (by simp) ?_
       refine AllReadyH.cons (o := ⟨some 15, _, _, _, _, _⟩) rfl (fun KK hKK => ?_) (AllReadyH.cons (o := ⟨some 7, _, _, _, _, _⟩) rfl (fun KK hKK => ?_) AllReadyH.nil)
       ·go_simp
        refine Calls.mono (C1 _) ?_
        rintro e wt3 ⟨rfl, hb⟩
        replace km0 := cell_later hb (cell_al _ km0)
        replace km1 := cell_later hb (cell_al _ km1)
        replace km2 := cell_later hb (cell_al _ km2)
        replace km3 := cell_later hb (cell_al _ km3)
        replace km4 := cell_later hb (cell_al _ km4)
        replace km5 := cell_later hb (cell_al _ km5)
        replace km6 := cell_later hb (cell_al _ km6)
        replace kb0 := cell_later hb (cell_al _ kb0)
        replace kb1 := cell_later hb (cell_al _ kb1)
        replace kb2 := cell_later hb (cell_al _ kb2)
        replace kb3 := cell_later hb (cell_al _ kb3)
        replace jr0 := fro_later hb (cell_al _ kr0) (fro_al jr0)
        replace kr0 := cell_later hb (cell_al _ kr0)
        replace jr1 := fro_later hb (cell_al _ kr1) (fro_al jr1)
        replace kr1 := cell_later hb (cell_al _ kr1)
        replace jr2 := fro_later hb (cell_al _ kr2) (fro_al jr2)
        replace kr2 := cell_later hb (cell_al _ kr2)
        replace jr3 := fro_later hb (cell_al _ kr3) (fro_al jr3)
        replace kr3 := cell_later hb (cell_al _ kr3)
        have kx0 : wt3.cell? ⟨wt2.heap.size, 0, none⟩ = some (.int .i64 0) := cell_later hb (by go_simp)
        have jx0 : wt3.frozen? ⟨wt2.heap.size, 0, none⟩ = false := by rw [(bcell hb).2 _ _ (by first | omega | (simp <;> omega))]; go_simp
        have kx1 : wt3.cell? ⟨wt2.heap.size, 1, none⟩ = some (.int .i64 0) := cell_later hb (by go_simp)
        have jx1 : wt3.frozen? ⟨wt2.heap.size, 1, none⟩ = false := by rw [(bcell hb).2 _ _ (by first | omega | (simp <;> omega))]; go_simp
        replace zm : w.heap.size < wt3.heap.size := World.block_lt_of_cell? _ _ km0
        replace zb : w.heap.size + 1 < wt3.heap.size := World.block_lt_of_cell? _ _ kb0
        replace zr : w.heap.size + 1 + 1 < wt3.heap.size := World.block_lt_of_cell? _ _ kr0
        have zr_wt3 := zr
        have zx : wt2.heap.size < wt3.heap.size := World.block_lt_of_cell? _ _ kx0
        have zx_wt3 := zx
        replace hb0 : Below w.heap.size w wt3 := (by repeat (first | with_reducible exact Below.refl _ _ | with_reducible assumption | with_reducible refine Below.setCell ?_ (by first | omega | (simp <;> omega)) _ | with_reducible refine balloc ?_ _ | with_reducible refine Below.drew ?_ | with_reducible refine bstep ?_ (by with_reducible assumption)))
        clear hb
        (try go_wp2_with fail)
        refine hKK.out _ _ (by first | (go_keep; done) | ((repeat' apply And.intro) <;> go_simp)) (fun hHeld => ?_)
        clear hKK KK
        try simp only [Act.put, List.setIfInBounds_toArray, List.set_cons_zero, List.set_cons_succ]
        refine wpAnyH_take (i := 7) (oi := ⟨some 8, _, _, _, _, _⟩) (v := ?_) rfl (by kernel_rfl) (by kernel_rfl) (by kernel_rfl) (fun _ _ _ h => h) (Or.inl ⟨by rfl, ?_⟩) (by assumption) ?_
        rotate_left
        · intro w hSw; (try dsimp only at hSw); go_simp; try with_reducible rfl
        try simp only [Act.put, List.setIfInBounds_toArray, List.set_cons_zero, List.set_cons_succ]
        refine wpAnyH_take (i := 8) (oi := ⟨some 16, _, _, _, _, _⟩) (v := ?_) rfl (by kernel_rfl) (by kernel_rfl) (by kernel_rfl) (fun _ _ _ h => h) (Or.inl ⟨by rfl, ?_⟩) (by assumption) ?_
        rotate_left
        · intro w hSw; (try dsimp only at hSw); go_simp; try with_reducible rfl
        try simp only [Act.put, List.setIfInBounds_toArray, List.set_cons_zero, List.set_cons_succ]
        refine wpAnyH_take (i := 9) (oi := ⟨some 17, _, _, _, _, _⟩) (v := ?_) rfl (by kernel_rfl) (by kernel_rfl) (by kernel_rfl) (fun _ _ _ h => h) (Or.inl ⟨by rfl, ?_⟩) (by assumption) ?_
        rotate_left
        · intro w hSw; (try dsimp only at hSw); go_simp; try with_reducible rfl
        try simp only [Act.put, List.setIfInBounds_toArray, List.set_cons_zero, List.set_cons_succ]
        refine wpAnyH_ready (rs := [11]) (by kernel_rfl) (by simp) ?_
        refine AllReadyH.cons (o := ⟨some 7, _, _, _, _, _⟩) rfl (fun KK hKK => ?_) AllReadyH.nil
        go_simp
        (try go_wp2_with fail)
        refine hKK.out _ _ (by first | (go_keep; done) | ((repeat' apply And.intro) <;> go_simp)) (fun hHeld => ?_)
        clear hKK KK
        try simp only [Act.put, List.setIfInBounds_toArray, List.set_cons_zero, List.set_cons_succ]
        refine wpAnyH_ready (rs := [12]) (by kernel_rfl) (by simp) ?_
        refine AllReadyH.cons (o := ⟨none, _, _, _, _, _⟩) rfl (fun KK hKK => ?_) AllReadyH.nil
        go_simp
        (try go_wp2_with fail)
        refine hKK.out _ _ (by first | (go_keep; done) | ((repeat' apply And.intro) <;> go_simp)) (fun hHeld => ?_)
        clear hKK KK
        try simp only [Act.put, List.setIfInBounds_toArray, List.set_cons_zero, List.set_cons_succ]
        refine wpAnyH_ready (rs := [13]) (by kernel_rfl) (by simp) ?_
        refine AllReadyH.cons (o := ⟨none, _, _, _, _, _⟩) rfl (fun KK hKK => ?_) AllReadyH.nil
        go_simp
        (try go_wp2_with fail)
        refine hKK.out _ _ (by first | (go_keep; done) | ((repeat' apply And.intro) <;> go_simp)) (fun hHeld => ?_)
        clear hKK KK
        try simp only [Act.put, List.setIfInBounds_toArray, List.set_cons_zero, List.set_cons_succ]
        refine wpAnyH_done (by kernel_rfl) ?_ _
        (try dsimp only [Exit.then, Met])
        go_wp2_with fail
        go_meet
        refine ⟨_, _, rfl, rfl, by first | omega | (simp; omega), by first | omega | (simp; omega), ?_, ?_, ?_, ?_, ?_, ?_, ?_, ?_, ?_, ?_, ?_, ?_, ?_, ?_, ?_, ?_, ?_, ?_, ?_, ?_, ?_, ?_, ?_, (by repeat (first | with_reducible exact Below.refl _ _ | with_reducible assumption | with_reducible refine Below.setCell ?_ (by first | omega | (simp <;> omega)) _ | with_reducible refine balloc ?_ _ | with_reducible refine Below.drew ?_ | with_reducible refine bstep ?_ (by with_reducible assumption)))⟩
        all_goals first | (with_reducible assumption) | go_simp
       ·go_simp
        (try go_wp2_with fail)
        refine hKK.out _ _ (by first | (go_keep; done) | ((repeat' apply And.intro) <;> go_simp)) (fun hHeld => ?_)
        clear hKK KK
        try simp only [Act.put, List.setIfInBounds_toArray, List.set_cons_zero, List.set_cons_succ]
        refine wpAnyH_ready (rs := [6]) (by kernel_rfl) (by simp) ?_
        refine AllReadyH.cons (o := ⟨some 15, _, _, _, _, _⟩) rfl (fun KK hKK => ?_) AllReadyH.nil
        go_simp
        refine Calls.mono (C1 _) ?_
        rintro e wt3 ⟨rfl, hb⟩
        replace km0 := cell_later hb (cell_al _ (cell_al _ km0))
        replace km1 := cell_later hb (cell_al _ (cell_al _ km1))
        replace km2 := cell_later hb (cell_al _ (cell_al _ km2))
        replace km3 := cell_later hb (cell_al _ (cell_al _ km3))
        replace km4 := cell_later hb (cell_al _ (cell_al _ km4))
        replace km5 := cell_later hb (cell_al _ (cell_al _ km5))
        replace km6 := cell_later hb (cell_al _ (cell_al _ km6))
        replace kb0 := cell_later hb (cell_al _ (cell_al _ kb0))
        replace kb1 := cell_later hb (cell_al _ (cell_al _ kb1))
        replace kb2 := cell_later hb (cell_al _ (cell_al _ kb2))
        replace kb3 := cell_later hb (cell_al _ (cell_al _ kb3))
        replace jr0 := fro_later hb (cell_al _ (cell_al _ kr0)) (fro_al (fro_al jr0))
        replace kr0 := cell_later hb (cell_al _ (cell_al _ kr0))
        replace jr1 := fro_later hb (cell_al _ (cell_al _ kr1)) (fro_al (fro_al jr1))
        replace kr1 := cell_later hb (cell_al _ (cell_al _ kr1))
        replace jr2 := fro_later hb (cell_al _ (cell_al _ kr2)) (fro_al (fro_al jr2))
        replace kr2 := cell_later hb (cell_al _ (cell_al _ kr2))
        replace jr3 := fro_later hb (cell_al _ (cell_al _ kr3)) (fro_al (fro_al jr3))
        replace kr3 := cell_later hb (cell_al _ (cell_al _ kr3))
        have kx0 : wt3.cell? ⟨wt2.heap.size, 0, none⟩ = some (.int .i64 0) := cell_later hb (by go_simp)
        have jx0 : wt3.frozen? ⟨wt2.heap.size, 0, none⟩ = false := by rw [(bcell hb).2 _ _ (by first | omega | (simp <;> omega))]; go_simp
        have kx1 : wt3.cell? ⟨wt2.heap.size, 1, none⟩ = some (.int .i64 0) := cell_later hb (by go_simp)
        have jx1 : wt3.frozen? ⟨wt2.heap.size, 1, none⟩ = false := by rw [(bcell hb).2 _ _ (by first | omega | (simp <;> omega))]; go_simp
        have ky0 : wt3.cell? ⟨wt2.heap.size + 1, 0, none⟩ = some (.int .i64 0) := cell_later hb (by go_simp)
        have jy0 : wt3.frozen? ⟨wt2.heap.size + 1, 0, none⟩ = false := by rw [(bcell hb).2 _ _ (by first | omega | (simp <;> omega))]; go_simp
        have ky1 : wt3.cell? ⟨wt2.heap.size + 1, 1, none⟩ = some (.int .i64 0) := cell_later hb (by go_simp)
        have jy1 : wt3.frozen? ⟨wt2.heap.size + 1, 1, none⟩ = false := by rw [(bcell hb).2 _ _ (by first | omega | (simp <;> omega))]; go_simp
        replace zm : w.heap.size < wt3.heap.size := World.block_lt_of_cell? _ _ km0
        replace zb : w.heap.size + 1 < wt3.heap.size := World.block_lt_of_cell? _ _ kb0
        replace zr : w.heap.size + 1 + 1 < wt3.heap.size := World.block_lt_of_cell? _ _ kr0
        have zr_wt3 := zr
        have zx : wt2.heap.size < wt3.heap.size := World.block_lt_of_cell? _ _ kx0
        have zx_wt3 := zx
        have zy : wt2.heap.size + 1 < wt3.heap.size := World.block_lt_of_cell? _ _ ky0
        have zy_wt3 := zy
        replace hb0 : Below w.heap.size w wt3 := (by repeat (first | with_reducible exact Below.refl _ _ | with_reducible assumption | with_reducible refine Below.setCell ?_ (by first | omega | (simp <;> omega)) _ | with_reducible refine balloc ?_ _ | with_reducible refine Below.drew ?_ | with_reducible refine bstep ?_ (by with_reducible assumption)))
        clear hb
        (try go_wp2_with fail)
        refine hKK.out _ _ (by first | (go_keep; done) | ((repeat' apply And.intro) <;> go_simp)) (fun hHeld => ?_)
        clear hKK KK
        try simp only [Act.put, List.setIfInBounds_toArray, List.set_cons_zero, List.set_cons_succ]
        refine wpAnyH_take (i := 7) (oi := ⟨some 8, _, _, _, _, _⟩) (v := ?_) rfl (by kernel_rfl) (by kernel_rfl) (by kernel_rfl) (fun _ _ _ h => h) (Or.inl ⟨by rfl, ?_⟩) (by assumption) ?_
        rotate_left
        · intro w hSw; (try dsimp only at hSw); go_simp; try with_reducible rfl
        try simp only [Act.put, List.setIfInBounds_toArray, List.set_cons_zero, List.set_cons_succ]
        refine wpAnyH_take (i := 8) (oi := ⟨some 16, _, _, _, _, _⟩) (v := ?_) rfl (by kernel_rfl) (by kernel_rfl) (by kernel_rfl) (fun _ _ _ h => h) (Or.inl ⟨by rfl, ?_⟩) (by assumption) ?_
        rotate_left
        · intro w hSw; (try dsimp only at hSw); go_simp; try with_reducible rfl
        try simp only [Act.put, List.setIfInBounds_toArray, List.set_cons_zero, List.set_cons_succ]
        refine wpAnyH_take (i := 9) (oi := ⟨some 17, _, _, _, _, _⟩) (v := ?_) rfl (by kernel_rfl) (by kernel_rfl) (by kernel_rfl) (fun _ _ _ h => h) (Or.inl ⟨by rfl, ?_⟩) (by assumption) ?_
        rotate_left
        · intro w hSw; (try dsimp only at hSw); go_simp; try with_reducible rfl
        try simp only [Act.put, List.setIfInBounds_toArray, List.set_cons_zero, List.set_cons_succ]
        refine wpAnyH_ready (rs := [12]) (by kernel_rfl) (by simp) ?_
        refine AllReadyH.cons (o := ⟨none, _, _, _, _, _⟩) rfl (fun KK hKK => ?_) AllReadyH.nil
        go_simp
        (try go_wp2_with fail)
        refine hKK.out _ _ (by first | (go_keep; done) | ((repeat' apply And.intro) <;> go_simp)) (fun hHeld => ?_)
        clear hKK KK
        try simp only [Act.put, List.setIfInBounds_toArray, List.set_cons_zero, List.set_cons_succ]
        refine wpAnyH_ready (rs := [13]) (by kernel_rfl) (by simp) ?_
        refine AllReadyH.cons (o := ⟨none, _, _, _, _, _⟩) rfl (fun KK hKK => ?_) AllReadyH.nil
        go_simp
        (try go_wp2_with fail)
        refine hKK.out _ _ (by first | (go_keep; done) | ((repeat' apply And.intro) <;> go_simp)) (fun hHeld => ?_)
        clear hKK KK
        try simp only [Act.put, List.setIfInBounds_toArray, List.set_cons_zero, List.set_cons_succ]
        refine wpAnyH_done (by kernel_rfl) ?_ _
        (try dsimp only [Exit.then, Met])
        go_wp2_with fail
        go_meet
        refine ⟨_, _, rfl, rfl, by first | omega | (simp; omega), by first | omega | (simp; omega), ?_, ?_, ?_, ?_, ?_, ?_, ?_, ?_, ?_, ?_, ?_, ?_, ?_, ?_, ?_, ?_, ?_, ?_, ?_, ?_, ?_, ?_, ?_, (by repeat (first | with_reducible exact Below.refl _ _ | with_reducible assumption | with_reducible refine Below.setCell ?_ (by first | omega | (simp <;> omega)) _ | with_reducible refine balloc ?_ _ | with_reducible refine Below.drew ?_ | with_reducible refine bstep ?_ (by with_reducible assumption)))⟩
        all_goals first | (with_reducible assumption) | go_simp
      ·go_simp
       (try go_wp2_with fail)
       refine hKK.out _ _ (by first | (go_keep; done) | ((repeat' apply And.intro) <;> go_simp)) (fun hHeld => ?_)
       clear hKK KK
       try simp only [Act.put, List.setIfInBounds_toArray, List.set_cons_zero, List.set_cons_succ]
       refine wpAnyH_ready (rs := [6, 10]) (by kernel_rfl) (by simp) ?_
       refine AllReadyH.cons (o := ⟨some 15, _, _, _, _, _⟩) rfl (fun KK hKK => ?_) (AllReadyH.cons (o := ⟨some 6, _, _, _, _, _⟩) rfl (fun KK hKK => ?_) AllReadyH.nil)
       ·go_simp
        refine Calls.mono (C1 _) ?_
        rintro e wt3 ⟨rfl, hb⟩
        replace km0 := cell_later hb (cell_al _ km0)
        replace km1 := cell_later hb (cell_al _ km1)
        replace km2 := cell_later hb (cell_al _ km2)
        replace km3 := cell_later hb (cell_al _ km3)
        replace km4 := cell_later hb (cell_al _ km4)
        replace km5 := cell_later hb (cell_al _ km5)
        replace km6 := cell_later hb (cell_al _ km6)
        replace kb0 := cell_later hb (cell_al _ kb0)
        replace kb1 := cell_later hb (cell_al _ kb1)
        replace kb2 := cell_later hb (cell_al _ kb2)
        replace kb3 := cell_later hb (cell_al _ kb3)
        replace jr0 := fro_later hb (cell_al _ kr0) (fro_al jr0)
        replace kr0 := cell_later hb (cell_al _ kr0)
        replace jr1 := fro_later hb (cell_al _ kr1) (fro_al jr1)
        replace kr1 := cell_later hb (cell_al _ kr1)
        replace jr2 := fro_later hb (cell_al _ kr2) (fro_al jr2)
        replace kr2 := cell_later hb (cell_al _ kr2)
        replace jr3 := fro_later hb (cell_al _ kr3) (fro_al jr3)
        replace kr3 := cell_later hb (cell_al _ kr3)
        have ky0 : wt3.cell? ⟨wt2.heap.size, 0, none⟩ = some (.int .i64 0) := cell_later hb (by go_simp)
        have jy0 : wt3.frozen? ⟨wt2.heap.size, 0, none⟩ = false := by rw [(bcell hb).2 _ _ (by first | omega | (simp <;> omega))]; go_simp
        have ky1 : wt3.cell? ⟨wt2.heap.size, 1, none⟩ = some (.int .i64 0) := cell_later hb (by go_simp)
        have jy1 : wt3.frozen? ⟨wt2.heap.size, 1, none⟩ = false := by rw [(bcell hb).2 _ _ (by first | omega | (simp <;> omega))]; go_simp
        replace zm : w.heap.size < wt3.heap.size := World.block_lt_of_cell? _ _ km0
        replace zb : w.heap.size + 1 < wt3.heap.size := World.block_lt_of_cell? _ _ kb0
        replace zr : w.heap.size + 1 + 1 < wt3.heap.size := World.block_lt_of_cell? _ _ kr0
        have zr_wt3 := zr
        have zy : wt2.heap.size < wt3.heap.size := World.block_lt_of_cell? _ _ ky0
        have zy_wt3 := zy
        replace hb0 : Below w.heap.size w wt3 := (by repeat (first | with_reducible exact Below.refl _ _ | with_reducible assumption | with_reducible refine Below.setCell ?_ (by first | omega | (simp <;> omega)) _ | with_reducible refine balloc ?_ _ | with_reducible refine Below.drew ?_ | with_reducible refine bstep ?_ (by with_reducible assumption)))
        clear hb
        (try go_wp2_with fail)
        refine hKK.out _ _ (by first | (go_keep; done) | ((repeat' apply And.intro) <;> go_simp)) (fun hHeld => ?_)
        clear hKK KK
        try simp only [Act.put, List.setIfInBounds_toArray, List.set_cons_zero, List.set_cons_succ]
        refine wpAnyH_take (i := 7) (oi := ⟨some 8, _, _, _, _, _⟩) (v := ?_) rfl (by kernel_rfl) (by kernel_rfl) (by kernel_rfl) (fun _ _ _ h => h) (Or.inl ⟨by rfl, ?_⟩) (by assumption) ?_
        rotate_left
        · intro w hSw; (try dsimp only at hSw); go_simp; try with_reducible rfl
        try simp only [Act.put, List.setIfInBounds_toArray, List.set_cons_zero, List.set_cons_succ]
        refine wpAnyH_take (i := 8) (oi := ⟨some 16, _, _, _, _, _⟩) (v := ?_) rfl (by kernel_rfl) (by kernel_rfl) (by kernel_rfl) (fun _ _ _ h => h) (Or.inl ⟨by rfl, ?_⟩) (by assumption) ?_
        rotate_left
        · intro w hSw; (try dsimp only at hSw); go_simp; try with_reducible rfl
        try simp only [Act.put, List.setIfInBounds_toArray, List.set_cons_zero, List.set_cons_succ]
        refine wpAnyH_take (i := 9) (oi := ⟨some 17, _, _, _, _, _⟩) (v := ?_) rfl (by kernel_rfl) (by kernel_rfl) (by kernel_rfl) (fun _ _ _ h => h) (Or.inl ⟨by rfl, ?_⟩) (by assumption) ?_
        rotate_left
        · intro w hSw; (try dsimp only at hSw); go_simp; try with_reducible rfl
        try simp only [Act.put, List.setIfInBounds_toArray, List.set_cons_zero, List.set_cons_succ]
        refine wpAnyH_ready (rs := [10]) (by kernel_rfl) (by simp) ?_
        refine AllReadyH.cons (o := ⟨some 6, _, _, _, _, _⟩) rfl (fun KK hKK => ?_) AllReadyH.nil
        go_simp
        (try go_wp2_with fail)
        refine hKK.out _ _ (by first | (go_keep; done) | ((repeat' apply And.intro) <;> go_simp)) (fun hHeld => ?_)
        clear hKK KK
        try simp only [Act.put, List.setIfInBounds_toArray, List.set_cons_zero, List.set_cons_succ]
        refine wpAnyH_ready (rs := [12]) (by kernel_rfl) (by simp) ?_
        refine AllReadyH.cons (o := ⟨none, _, _, _, _, _⟩) rfl (fun KK hKK => ?_) AllReadyH.nil
        go_simp
        (try go_wp2_with fail)
        refine hKK.out _ _ (by first | (go_keep; done) | ((repeat' apply And.intro) <;> go_simp)) (fun hHeld => ?_)
        clear hKK KK
        try simp only [Act.put, List.setIfInBounds_toArray, List.set_cons_zero, List.set_cons_succ]
        refine wpAnyH_ready (rs := [13]) (by kernel_rfl) (by simp) ?_
        refine AllReadyH.cons (o := ⟨none, _, _, _, _, _⟩) rfl (fun KK hKK => ?_) AllReadyH.nil
        go_simp
        (try go_wp2_with fail)
        refine hKK.out _ _ (by first | (go_keep; done) | ((repeat' apply And.intro) <;> go_simp)) (fun hHeld => ?_)
        clear hKK KK
        try simp only [Act.put, List.setIfInBounds_toArray, List.set_cons_zero, List.set_cons_succ]
        refine wpAnyH_done (by kernel_rfl) ?_ _
        (try dsimp only [Exit.then, Met])
        go_wp2_with fail
        go_meet
        refine ⟨_, _, rfl, rfl, by first | omega | (simp; omega), by first | omega | (simp; omega), ?_, ?_, ?_, ?_, ?_, ?_, ?_, ?_, ?_, ?_, ?_, ?_, ?_, ?_, ?_, ?_, ?_, ?_, ?_, ?_, ?_, ?_, ?_, (by repeat (first | with_reducible exact Below.refl _ _ | with_reducible assumption | with_reducible refine Below.setCell ?_ (by first | omega | (simp <;> omega)) _ | with_reducible refine balloc ?_ _ | with_reducible refine Below.drew ?_ | with_reducible refine bstep ?_ (by with_reducible assumption)))⟩
        all_goals first | (with_reducible assumption) | go_simp
       ·go_simp
        (try go_wp2_with fail)
        refine hKK.out _ _ (by first | (go_keep; done) | ((repeat' apply And.intro) <;> go_simp)) (fun hHeld => ?_)
        clear hKK KK
        try simp only [Act.put, List.setIfInBounds_toArray, List.set_cons_zero, List.set_cons_succ]
        refine wpAnyH_ready (rs := [6]) (by kernel_rfl) (by simp) ?_
        refine AllReadyH.cons (o := ⟨some 15, _, _, _, _, _⟩) rfl (fun KK hKK => ?_) AllReadyH.nil
        go_simp
        refine Calls.mono (C1 _) ?_
        rintro e wt3 ⟨rfl, hb⟩
        replace km0 := cell_later hb (cell_al _ (cell_al _ km0))
        replace km1 := cell_later hb (cell_al _ (cell_al _ km1))
        replace km2 := cell_later hb (cell_al _ (cell_al _ km2))
        replace km3 := cell_later hb (cell_al _ (cell_al _ km3))
        replace km4 := cell_later hb (cell_al _ (cell_al _ km4))
        replace km5 := cell_later hb (cell_al _ (cell_al _ km5))
        replace km6 := cell_later hb (cell_al _ (cell_al _ km6))
        replace kb0 := cell_later hb (cell_al _ (cell_al _ kb0))
        replace kb1 := cell_later hb (cell_al _ (cell_al _ kb1))
        replace kb2 := cell_later hb (cell_al _ (cell_al _ kb2))
        replace kb3 := cell_later hb (cell_al _ (cell_al _ kb3))
        replace jr0 := fro_later hb (cell_al _ (cell_al _ kr0)) (fro_al (fro_al jr0))
        replace kr0 := cell_later hb (cell_al _ (cell_al _ kr0))
        replace jr1 := fro_later hb (cell_al _ (cell_al _ kr1)) (fro_al (fro_al jr1))
        replace kr1 := cell_later hb (cell_al _ (cell_al _ kr1))
        replace jr2 := fro_later hb (cell_al _ (cell_al _ kr2)) (fro_al (fro_al jr2))
        replace kr2 := cell_later hb (cell_al _ (cell_al _ kr2))
        replace jr3 := fro_later hb (cell_al _ (cell_al _ kr3)) (fro_al (fro_al jr3))
        replace kr3 := cell_later hb (cell_al _ (cell_al _ kr3))
        have ky0 : wt3.cell? ⟨wt2.heap.size, 0, none⟩ = some (.int .i64 0) := cell_later hb (by go_simp)
        have jy0 : wt3.frozen? ⟨wt2.heap.size, 0, none⟩ = false := by rw [(bcell hb).2 _ _ (by first | omega | (simp <;> omega))]; go_simp
        have ky1 : wt3.cell? ⟨wt2.heap.size, 1, none⟩ = some (.int .i64 0) := cell_later hb (by go_simp)
        have jy1 : wt3.frozen? ⟨wt2.heap.size, 1, none⟩ = false := by rw [(bcell hb).2 _ _ (by first | omega | (simp <;> omega))]; go_simp
        have kx0 : wt3.cell? ⟨wt2.heap.size + 1, 0, none⟩ = some (.int .i64 0) := cell_later hb (by go_simp)
        have jx0 : wt3.frozen? ⟨wt2.heap.size + 1, 0, none⟩ = false := by rw [(bcell hb).2 _ _ (by first | omega | (simp <;> omega))]; go_simp
        have kx1 : wt3.cell? ⟨wt2.heap.size + 1, 1, none⟩ = some (.int .i64 0) := cell_later hb (by go_simp)
        have jx1 : wt3.frozen? ⟨wt2.heap.size + 1, 1, none⟩ = false := by rw [(bcell hb).2 _ _ (by first | omega | (simp <;> omega))]; go_simp
        replace zm : w.heap.size < wt3.heap.size := World.block_lt_of_cell? _ _ km0
        replace zb : w.heap.size + 1 < wt3.heap.size := World.block_lt_of_cell? _ _ kb0
        replace zr : w.heap.size + 1 + 1 < wt3.heap.size := World.block_lt_of_cell? _ _ kr0
        have zr_wt3 := zr
        have zy : wt2.heap.size < wt3.heap.size := World.block_lt_of_cell? _ _ ky0
        have zy_wt3 := zy
        have zx : wt2.heap.size + 1 < wt3.heap.size := World.block_lt_of_cell? _ _ kx0
        have zx_wt3 := zx
        replace hb0 : Below w.heap.size w wt3 := (by repeat (first | with_reducible exact Below.refl _ _ | with_reducible assumption | with_reducible refine Below.setCell ?_ (by first | omega | (simp <;> omega)) _ | with_reducible refine balloc ?_ _ | with_reducible refine Below.drew ?_ | with_reducible refine bstep ?_ (by with_reducible assumption)))
        clear hb
        (try go_wp2_with fail)
        refine hKK.out _ _ (by first | (go_keep; done) | ((repeat' apply And.intro) <;> go_simp)) (fun hHeld => ?_)
        clear hKK KK
        try simp only [Act.put, List.setIfInBounds_toArray, List.set_cons_zero, List.set_cons_succ]
        refine wpAnyH_take (i := 7) (oi := ⟨some 8, _, _, _, _, _⟩) (v := ?_) rfl (by kernel_rfl) (by kernel_rfl) (by kernel_rfl) (fun _ _ _ h => h) (Or.inl ⟨by rfl, ?_⟩) (by assumption) ?_
        rotate_left
        · intro w hSw; (try dsimp only at hSw); go_simp; try with_reducible rfl
        try simp only [Act.put, List.setIfInBounds_toArray, List.set_cons_zero, List.set_cons_succ]
        refine wpAnyH_take (i := 8) (oi := ⟨some 16, _, _, _, _, _⟩) (v := ?_) rfl (by kernel_rfl) (by kernel_rfl) (by kernel_rfl) (fun _ _ _ h => h) (Or.inl ⟨by rfl, ?_⟩) (by assumption) ?_
        rotate_left
        · intro w hSw; (try dsimp only at hSw); go_simp; try with_reducible rfl
        try simp only [Act.put, List.setIfInBounds_toArray, List.set_cons_zero, List.set_cons_succ]
        refine wpAnyH_take (i := 9) (oi := ⟨some 17, _, _, _, _, _⟩) (v := ?_) rfl (by kernel_rfl) (by kernel_rfl) (by kernel_rfl) (fun _ _ _ h => h) (Or.inl ⟨by rfl, ?_⟩) (by assumption) ?_
        rotate_left
        · intro w hSw; (try dsimp only at hSw); go_simp; try with_reducible rfl
        try simp only [Act.put, List.setIfInBounds_toArray, List.set_cons_zero, List.set_cons_succ]
        refine wpAnyH_ready (rs := [12]) (by kernel_rfl) (by simp) ?_
        refine AllReadyH.cons (o := ⟨none, _, _, _, _, _⟩) rfl (fun KK hKK => ?_) AllReadyH.nil
        go_simp
        (try go_wp2_with fail)
        refine hKK.out _ _ (by first | (go_keep; done) | ((repeat' apply And.intro) <;> go_simp)) (fun hHeld => ?_)
        clear hKK KK
        try simp only [Act.put, List.setIfInBounds_toArray, List.set_cons_zero, List.set_cons_succ]
        refine wpAnyH_ready (rs := [13]) (by kernel_rfl) (by simp) ?_
        refine AllReadyH.cons (o := ⟨none, _, _, _, _, _⟩) rfl (fun KK hKK => ?_) AllReadyH.nil
        go_simp
        (try go_wp2_with fail)
        refine hKK.out _ _ (by first | (go_keep; done) | ((repeat' apply And.intro) <;> go_simp)) (fun hHeld => ?_)
        clear hKK KK
        try simp only [Act.put, List.setIfInBounds_toArray, List.set_cons_zero, List.set_cons_succ]
        refine wpAnyH_done (by kernel_rfl) ?_ _
        (try dsimp only [Exit.then, Met])
        go_wp2_with fail
        go_meet
        refine ⟨_, _, rfl, rfl, by first | omega | (simp; omega), by first | omega | (simp; omega), ?_, ?_, ?_, ?_, ?_, ?_, ?_, ?_, ?_, ?_, ?_, ?_, ?_, ?_, ?_, ?_, ?_, ?_, ?_, ?_, ?_, ?_, ?_, (by repeat (first | with_reducible exact Below.refl _ _ | with_reducible assumption | with_reducible refine Below.setCell ?_ (by first | omega | (simp <;> omega)) _ | with_reducible refine balloc ?_ _ | with_reducible refine Below.drew ?_ | with_reducible refine bstep ?_ (by with_reducible assumption)))⟩
        all_goals first | (with_reducible assumption) | go_simp
     ·go_simp
      (try go_wp2_with fail)
      refine hKK.out _ _ (by first | (go_keep; done) | ((repeat' apply And.intro) <;> go_simp)) (fun hHeld => ?_)
      clear hKK KK
      try simp only [Act.put, List.setIfInBounds_toArray, List.set_cons_zero, List.set_cons_succ]
      refine wpAnyH_ready (rs := [5, 11]) (by kernel_rfl) (by simp) ?_
      refine AllReadyH.cons (o := ⟨some 14, _, _, _, _, _⟩) rfl (fun KK hKK => ?_) (AllReadyH.cons (o := ⟨some 7, _, _, _, _, _⟩) rfl (fun KK hKK => ?_) AllReadyH.nil)
      ·go_simp
       refine Calls.mono (U1 _) ?_
       rintro e wt2 ⟨rfl, hb⟩
       replace km0 := cell_later hb (cell_al _ km0)
       replace km1 := cell_later hb (cell_al _ km1)
       replace km2 := cell_later hb (cell_al _ km2)
       replace km3 := cell_later hb (cell_al _ km3)
       replace km4 := cell_later hb (cell_al _ km4)
       replace km5 := cell_later hb (cell_al _ km5)
       replace km6 := cell_later hb (cell_al _ km6)
       replace kb0 := cell_later hb (cell_al _ kb0)
       replace kb1 := cell_later hb (cell_al _ kb1)
       replace kb2 := cell_later hb (cell_al _ kb2)
       replace kb3 := cell_later hb (cell_al _ kb3)
       replace jr0 := fro_later hb (cell_al _ kr0) (fro_al jr0)
       replace kr0 := cell_later hb (cell_al _ kr0)
       replace jr1 := fro_later hb (cell_al _ kr1) (fro_al jr1)
       replace kr1 := cell_later hb (cell_al _ kr1)
       replace jr2 := fro_later hb (cell_al _ kr2) (fro_al jr2)
       replace kr2 := cell_later hb (cell_al _ kr2)
       replace jr3 := fro_later hb (cell_al _ kr3) (fro_al jr3)
       replace kr3 := cell_later hb (cell_al _ kr3)
       have kx0 : wt2.cell? ⟨wt1.heap.size, 0, none⟩ = some (.int .i64 0) := cell_later hb (by go_simp)
       have jx0 : wt2.frozen? ⟨wt1.heap.size, 0, none⟩ = false := by rw [(bcell hb).2 _ _ (by first | omega | (simp <;> omega))]; go_simp
       have kx1 : wt2.cell? ⟨wt1.heap.size, 1, none⟩ = some (.int .i64 0) := cell_later hb (by go_simp)
       have jx1 : wt2.frozen? ⟨wt1.heap.size, 1, none⟩ = false := by rw [(bcell hb).2 _ _ (by first | omega | (simp <;> omega))]; go_simp
       replace zm : w.heap.size < wt2.heap.size := World.block_lt_of_cell? _ _ km0
       replace zb : w.heap.size + 1 < wt2.heap.size := World.block_lt_of_cell? _ _ kb0
       replace zr : w.heap.size + 1 + 1 < wt2.heap.size := World.block_lt_of_cell? _ _ kr0
       have zr_wt2 := zr
       have zx : wt1.heap.size < wt2.heap.size := World.block_lt_of_cell? _ _ kx0
       have zx_wt2 := zx
       replace hb0 : Below w.heap.size w wt2 := (by repeat (first | with_reducible exact Below.refl _ _ | with_reducible assumption | with_reducible refine Below.setCell ?_ (by first | omega | (simp <;> omega)) _ | with_reducible refine balloc ?_ _ | with_reducible refine Below.drew ?_ | with_reducible refine bstep ?_ (by with_reducible assumption)))
       clear hb
       (try go_wp2_with fail)
       refine hKK.out _ _ (by first | (go_keep; done) | ((repeat' apply And.intro) <;> go_simp)) (fun hHeld => ?_)
       clear hKK KK
       try simp only [Act.put, List.setIfInBounds_toArray, List.set_cons_zero, List.set_cons_succ]
       refine wpAnyH_ready (rs := [6, 11]) (by kernel_rfl) (by simp) ?_
       refine AllReadyH.cons (o := ⟨some 15, _, _, _, _, _⟩) rfl (fun KK hKK => ?_) (AllReadyH.cons (o := ⟨some 7, _, _, _, _, _⟩) rfl (fun KK hKK => ?_) AllReadyH.nil)
       ·go_simp
        refine Calls.mono (C1 _) ?_
        rintro e wt3 ⟨rfl, hb⟩
        replace km0 := cell_later hb km0
        replace km1 := cell_later hb km1
        replace km2 := cell_later hb km2
        replace km3 := cell_later hb km3
        replace km4 := cell_later hb km4
        replace km5 := cell_later hb km5
        replace km6 := cell_later hb km6
        replace kb0 := cell_later hb kb0
        replace kb1 := cell_later hb kb1
        replace kb2 := cell_later hb kb2
        replace kb3 := cell_later hb kb3
        replace jr0 := fro_later hb kr0 jr0
        replace kr0 := cell_later hb kr0
        replace jr1 := fro_later hb kr1 jr1
        replace kr1 := cell_later hb kr1
        replace jr2 := fro_later hb kr2 jr2
        replace kr2 := cell_later hb kr2
        replace jr3 := fro_later hb kr3 jr3
        replace kr3 := cell_later hb kr3
        replace jx0 := fro_later hb kx0 jx0
        replace kx0 := cell_later hb kx0
        replace jx1 := fro_later hb kx1 jx1
        replace kx1 := cell_later hb kx1
        replace zm : w.heap.size < wt3.heap.size := World.block_lt_of_cell? _ _ km0
        replace zb : w.heap.size + 1 < wt3.heap.size := World.block_lt_of_cell? _ _ kb0
        replace zr : w.heap.size + 1 + 1 < wt3.heap.size := World.block_lt_of_cell? _ _ kr0
        have zr_wt3 := zr
        replace zx : wt1.heap.size < wt3.heap.size := World.block_lt_of_cell? _ _ kx0
        have zx_wt3 := zx
        replace hb0 : Below w.heap.size w wt3 := (by repeat (first | with_reducible exact Below.refl _ _ | with_reducible assumption | with_reducible refine Below.setCell ?_ (by first | omega | (simp <;> omega)) _ | with_reducible refine balloc ?_ _ | with_reducible refine Below.drew ?_ | with_reducible refine bstep ?_ (by with_reducible assumption)))
        clear hb
        (try go_wp2_with fail)
        refine hKK.out _ _ (by first | (go_keep; done) | ((repeat' apply And.intro) <;> go_simp)) (fun hHeld => ?_)
        clear hKK KK
        try simp only [Act.put, List.setIfInBounds_toArray, List.set_cons_zero, List.set_cons_succ]
        refine wpAnyH_take (i := 7) (oi := ⟨some 8, _, _, _, _, _⟩) (v := ?_) rfl (by kernel_rfl) (by kernel_rfl) (by kernel_rfl) (fun _ _ _ h => h) (Or.inl ⟨by rfl, ?_⟩) (by assumption) ?_
        rotate_left
        · intro w hSw; (try dsimp only at hSw); go_simp; try with_reducible rfl
        try simp only [Act.put, List.setIfInBounds_toArray, List.set_cons_zero, List.set_cons_succ]
        refine wpAnyH_take (i := 8) (oi := ⟨some 16, _, _, _, _, _⟩) (v := ?_) rfl (by kernel_rfl) (by kernel_rfl) (by kernel_rfl) (fun _ _ _ h => h) (Or.inl ⟨by rfl, ?_⟩) (by assumption) ?_
        rotate_left
        · intro w hSw; (try dsimp only at hSw); go_simp; try with_reducible rfl
        try simp only [Act.put, List.setIfInBounds_toArray, List.set_cons_zero, List.set_cons_succ]
        refine wpAnyH_take (i := 9) (oi := ⟨some 17, _, _, _, _, _⟩) (v := ?_) rfl (by kernel_rfl) (by kernel_rfl) (by kernel_rfl) (fun _ _ _ h => h) (Or.inl ⟨by rfl, ?_⟩) (by assumption) ?_
        rotate_left
        · intro w hSw; (try dsimp only at hSw); go_simp; try with_reducible rfl
        try simp only [Act.put, List.setIfInBounds_toArray, List.set_cons_zero, List.set_cons_succ]
        refine wpAnyH_ready (rs := [11]) (by kernel_rfl) (by simp) ?_
        refine AllReadyH.cons (o := ⟨some 7, _, _, _, _, _⟩) rfl (fun KK hKK => ?_) AllReadyH.nil
        go_simp
        (try go_wp2_with fail)
        refine hKK.out _ _ (by first | (go_keep; done) | ((repeat' apply And.intro) <;> go_simp)) (fun hHeld => ?_)
        clear hKK KK
        try simp only [Act.put, List.setIfInBounds_toArray, List.set_cons_zero, List.set_cons_succ]
        refine wpAnyH_ready (rs := [12]) (by kernel_rfl) (by simp) ?_
        refine AllReadyH.cons (o := ⟨none, _, _, _, _, _⟩) rfl (fun KK hKK => ?_) AllReadyH.nil
        go_simp
        (try go_wp2_with fail)
        refine hKK.out _ _ (by first | (go_keep; done) | ((repeat' apply And.intro) <;> go_simp)) (fun hHeld => ?_)
        clear hKK KK
        try simp only [Act.put, List.setIfInBounds_toArray, List.set_cons_zero, List.set_cons_succ]
        refine wpAnyH_ready (rs := [13]) (by kernel_rfl) (by simp) ?_
        refine AllReadyH.cons (o := ⟨none, _, _, _, _, _⟩) rfl (fun KK hKK => ?_) AllReadyH.nil
        go_simp
        (try go_wp2_with fail)
        refine hKK.out _ _ (by first | (go_keep; done) | ((repeat' apply And.intro) <;> go_simp)) (fun hHeld => ?_)
        clear hKK KK
        try simp only [Act.put, List.setIfInBounds_toArray, List.set_cons_zero, List.set_cons_succ]
        refine wpAnyH_done (by kernel_rfl) ?_ _
        (try dsimp only [Exit.then, Met])
        go_wp2_with fail
        go_meet
        refine ⟨_, _, rfl, rfl, by first | omega | (simp; omega), by first | omega | (simp; omega), ?_, ?_, ?_, ?_, ?_, ?_, ?_, ?_, ?_, ?_, ?_, ?_, ?_, ?_, ?_, ?_, ?_, ?_, ?_, ?_, ?_, ?_, ?_, (by repeat (first | with_reducible exact Below.refl _ _ | with_reducible assumption | with_reducible refine Below.setCell ?_ (by first | omega | (simp <;> omega)) _ | with_reducible refine balloc ?_ _ | with_reducible refine Below.drew ?_ | with_reducible refine bstep ?_ (by with_reducible assumption)))⟩
        all_goals first | (with_reducible assumption) | go_simp
       ·go_simp
        (try go_wp2_with fail)
        refine hKK.out _ _ (by first | (go_keep; done) | ((repeat' apply And.intro) <;> go_simp)) (fun hHeld => ?_)
        clear hKK KK
        try simp only [Act.put, List.setIfInBounds_toArray, List.set_cons_zero, List.set_cons_succ]
        refine wpAnyH_ready (rs := [6]) (by kernel_rfl) (by simp) ?_
        refine AllReadyH.cons (o := ⟨some 15, _, _, _, _, _⟩) rfl (fun KK hKK => ?_) AllReadyH.nil
        go_simp
        refine Calls.mono (C1 _) ?_
        rintro e wt3 ⟨rfl, hb⟩
        replace km0 := cell_later hb (cell_al _ km0)
        replace km1 := cell_later hb (cell_al _ km1)
        replace km2 := cell_later hb (cell_al _ km2)
        replace km3 := cell_later hb (cell_al _ km3)
        replace km4 := cell_later hb (cell_al _ km4)
        replace km5 := cell_later hb (cell_al _ km5)
        replace km6 := cell_later hb (cell_al _ km6)
        replace kb0 := cell_later hb (cell_al _ kb0)
        replace kb1 := cell_later hb (cell_al _ kb1)
        replace kb2 := cell_later hb (cell_al _ kb2)
        replace kb3 := cell_later hb (cell_al _ kb3)
        replace jr0 := fro_later hb (cell_al _ kr0) (fro_al jr0)
        replace kr0 := cell_later hb (cell_al _ kr0)
        replace jr1 := fro_later hb (cell_al _ kr1) (fro_al jr1)
        replace kr1 := cell_later hb (cell_al _ kr1)
        replace jr2 := fro_later hb (cell_al _ kr2) (fro_al jr2)
        replace kr2 := cell_later hb (cell_al _ kr2)
        replace jr3 := fro_later hb (cell_al _ kr3) (fro_al jr3)
        replace kr3 := cell_later hb (cell_al _ kr3)
        replace jx0 := fro_later hb (cell_al _ kx0) (fro_al jx0)
        replace kx0 := cell_later hb (cell_al _ kx0)
        replace jx1 := fro_later hb (cell_al _ kx1) (fro_al jx1)
        replace kx1 := cell_later hb (cell_al _ kx1)
        have ky0 : wt3.cell? ⟨wt2.heap.size, 0, none⟩ = some (.int .i64 0) := cell_later hb (by go_simp)
        have jy0 : wt3.frozen? ⟨wt2.heap.size, 0, none⟩ = false := by rw [(bcell hb).2 _ _ (by first | omega | (simp <;> omega))]; go_simp
        have ky1 : wt3.cell? ⟨wt2.heap.size, 1, none⟩ = some (.int .i64 0) := cell_later hb (by go_simp)
        have jy1 : wt3.frozen? ⟨wt2.heap.size, 1, none⟩ = false := by rw [(bcell hb).2 _ _ (by first | omega | (simp <;> omega))]; go_simp
        replace zm : w.heap.size < wt3.heap.size := World.block_lt_of_cell? _ _ km0
        replace zb : w.heap.size + 1 < wt3.heap.size := World.block_lt_of_cell? _ _ kb0
        replace zr : w.heap.size + 1 + 1 < wt3.heap.size := World.block_lt_of_cell? _ _ kr0
        have zr_wt3 := zr
        replace zx : wt1.heap.size < wt3.heap.size := World.block_lt_of_cell? _ _ kx0
        have zx_wt3 := zx
        have zy : wt2.heap.size < wt3.heap.size := World.block_lt_of_cell? _ _ ky0
        have zy_wt3 := zy
        replace hb0 : Below w.heap.size w wt3 := (by repeat (first | with_reducible exact Below.refl _ _ | with_reducible assumption | with_reducible refine Below.setCell ?_ (by first | omega | (simp <;> omega)) _ | with_reducible refine balloc ?_ _ | with_reducible refine Below.drew ?_ | with_reducible refine bstep ?_ (by with_reducible assumption)))
        clear hb
        (try go_wp2_with fail)
        refine hKK.out _ _ (by first | (go_keep; done) | ((repeat' apply And.intro) <;> go_simp)) (fun hHeld => ?_)
        clear hKK KK
        try simp only [Act.put, List.setIfInBounds_toArray, List.set_cons_zero, List.set_cons_succ]
        refine wpAnyH_take (i := 7) (oi := ⟨some 8, _, _, _, _, _⟩) (v := ?_) rfl (by kernel_rfl) (by kernel_rfl) (by kernel_rfl) (fun _ _ _ h => h) (Or.inl ⟨by rfl, ?_⟩) (by assumption) ?_
        rotate_left
        · intro w hSw; (try dsimp only at hSw); go_simp; try with_reducible rfl
        try simp only [Act.put, List.setIfInBounds_toArray, List.set_cons_zero, List.set_cons_succ]
        refine wpAnyH_take (i := 8) (oi := ⟨some 16, _, _, _, _, _⟩) (v := ?_) rfl (by kernel_rfl) (by kernel_rfl) (by kernel_rfl) (fun _ _ _ h => h) (Or.inl ⟨by rfl, ?_⟩) (by assumption) ?_
        rotate_left
        · intro w hSw; (try dsimp only at hSw); go_simp; try with_reducible rfl
        try simp only [Act.put, List.setIfInBounds_toArray, List.set_cons_zero, List.set_cons_succ]
        refine wpAnyH_take (i := 9) (oi := ⟨some 17, _, _, _, _, _⟩) (v := ?_) rfl (by kernel_rfl) (by kernel_rfl) (by kernel_rfl) (fun _ _ _ h => h) (Or.inl ⟨by rfl, ?_⟩) (by assumption) ?_
        rotate_left
        · intro w hSw; (try dsimp only at hSw); go_simp; try with_reducible rfl
        try simp only [Act.put, List.setIfInBounds_toArray, List.set_cons_zero, List.set_cons_succ]
        refine wpAnyH_ready (rs := [12]) (by kernel_rfl) (by simp) ?_
        refine AllReadyH.cons (o := ⟨none, _, _, _, _, _⟩) rfl (fun KK hKK => ?_) AllReadyH.nil
        go_simp
        (try go_wp2_with fail)
        refine hKK.out _ _ (by first | (go_keep; done) | ((repeat' apply And.intro) <;> go_simp)) (fun hHeld => ?_)
        clear hKK KK
        try simp only [Act.put, List.setIfInBounds_toArray, List.set_cons_zero, List.set_cons_succ]
        refine wpAnyH_ready (rs := [13]) (by kernel_rfl) (by simp) ?_
        refine AllReadyH.cons (o := ⟨none, _, _, _, _, _⟩) rfl (fun KK hKK => ?_) AllReadyH.nil
        go_simp
        (try go_wp2_with fail)
        refine hKK.out _ _ (by first | (go_keep; done) | ((repeat' apply And.intro) <;> go_simp)) (fun hHeld => ?_)
        clear hKK KK
        try simp only [Act.put, List.setIfInBounds_toArray, List.set_cons_zero, List.set_cons_succ]
        refine wpAnyH_done (by kernel_rfl) ?_ _
        (try dsimp only [Exit.then, Met])
        go_wp2_with fail
        go_meet
        refine ⟨_, _, rfl, rfl, by first | omega | (simp; omega), by first | omega | (simp; omega), ?_, ?_, ?_, ?_, ?_, ?_, ?_, ?_, ?_, ?_, ?_, ?_, ?_, ?_, ?_, ?_, ?_, ?_, ?_, ?_, ?_, ?_, ?_, (by repeat (first | with_reducible exact Below.refl _ _ | with_reducible assumption | with_reducible refine Below.setCell ?_ (by first | omega | (simp <;> omega)) _ | with_reducible refine balloc ?_ _ | with_reducible refine Below.drew ?_ | with_reducible refine bstep ?_ (by with_reducible assumption)))⟩
        all_goals first | (with_reducible assumption) | go_simp
      ·go_simp
       (try go_wp2_with fail)
       refine hKK.out _ _ (by first | (go_keep; done) | ((repeat' apply And.intro) <;> go_simp)) (fun hHeld => ?_)
       clear hKK KK
       try simp only [Act.put, List.setIfInBounds_toArray, List.set_cons_zero, List.set_cons_succ]
       refine wpAnyH_ready (rs := [5]) (by kernel_rfl) (by simp) ?_
       refine AllReadyH.cons (o := ⟨some 14, _, _, _, _, _⟩) rfl (fun KK hKK => ?_) AllReadyH.nil
       go_simp
       refine Calls.mono (U1 _) ?_
       rintro e wt2 ⟨rfl, hb⟩
       replace km0 := cell_later hb (cell_al _ (cell_al _ km0))
       replace km1 := cell_later hb (cell_al _ (cell_al _ km1))
       replace km2 := cell_later hb (cell_al _ (cell_al _ km2))
       replace km3 := cell_later hb (cell_al _ (cell_al _ km3))
       replace km4 := cell_later hb (cell_al _ (cell_al _ km4))
       replace km5 := cell_later hb (cell_al _ (cell_al _ km5))
       replace km6 := cell_later hb (cell_al _ (cell_al _ km6))
       replace kb0 := cell_later hb (cell_al _ (cell_al _ kb0))
       replace kb1 := cell_later hb (cell_al _ (cell_al _ kb1))
       replace kb2 := cell_later hb (cell_al _ (cell_al _ kb2))
       replace kb3 := cell_later hb (cell_al _ (cell_al _ kb3))
       replace jr0 := fro_later hb (cell_al _ (cell_al _ kr0)) (fro_al (fro_al jr0))
       replace kr0 := cell_later hb (cell_al _ (cell_al _ kr0))
       replace jr1 := fro_later hb (cell_al _ (cell_al _ kr1)) (fro_al (fro_al jr1))
       replace kr1 := cell_later hb (cell_al _ (cell_al _ kr1))
       replace jr2 := fro_later hb (cell_al _ (cell_al _ kr2)) (fro_al (fro_al jr2))
       replace kr2 := cell_later hb (cell_al _ (cell_al _ kr2))
       replace jr3 := fro_later hb (cell_al _ (cell_al _ kr3)) (fro_al (fro_al jr3))
       replace kr3 := cell_later hb (cell_al _ (cell_al _ kr3))
       have kx0 : wt2.cell? ⟨wt1.heap.size, 0, none⟩ = some (.int .i64 0) := cell_later hb (by go_simp)
       have jx0 : wt2.frozen? ⟨wt1.heap.size, 0, none⟩ = false := by rw [(bcell hb).2 _ _ (by first | omega | (simp <;> omega))]; go_simp
       have kx1 : wt2.cell? ⟨wt1.heap.size, 1, none⟩ = some (.int .i64 0) := cell_later hb (by go_simp)
       have jx1 : wt2.frozen? ⟨wt1.heap.size, 1, none⟩ = false := by rw [(bcell hb).2 _ _ (by first | omega | (simp <;> omega))]; go_simp
       have ky0 : wt2.cell? ⟨wt1.heap.size + 1, 0, none⟩ = some (.int .i64 0) := cell_later hb (by go_simp)
       have jy0 : wt2.frozen? ⟨wt1.heap.size + 1, 0, none⟩ = false := by rw [(bcell hb).2 _ _ (by first | omega | (simp <;> omega))]; go_simp
       have ky1 : wt2.cell? ⟨wt1.heap.size + 1, 1, none⟩ = some (.int .i64 0) := cell_later hb (by go_simp)
       have jy1 : wt2.frozen? ⟨wt1.heap.size + 1, 1, none⟩ = false := by rw [(bcell hb).2 _ _ (by first | omega | (simp <;> omega))]; go_simp
       replace zm : w.heap.size < wt2.heap.size := World.block_lt_of_cell? _ _ km0
       replace zb : w.heap.size + 1 < wt2.heap.size := World.block_lt_of_cell? _ _ kb0
       replace zr : w.heap.size + 1 + 1 < wt2.heap.size := World.block_lt_of_cell? _ _ kr0
       have zr_wt2 := zr
       have zx : wt1.heap.size < wt2.heap.size := World.block_lt_of_cell? _ _ kx0
       have zx_wt2 := zx
       have zy : wt1.heap.size + 1 < wt2.heap.size := World.block_lt_of_cell? _ _ ky0
       have zy_wt2 := zy
       replace hb0 : Below w.heap.size w wt2 := (by repeat (first | with_reducible exact Below.refl _ _ | with_reducible assumption | with_reducible refine Below.setCell ?_ (by first | omega | (simp <;> omega)) _ | with_reducible refine balloc ?_ _ | with_reducible refine Below.drew ?_ | with_reducible refine bstep ?_ (by with_reducible assumption)))
       clear hb
       (try go_wp2_with fail)
       refine hKK.out _ _ (by first | (go_keep; done) | ((repeat' apply And.intro) <;> go_simp)) (fun hHeld => ?_)
       clear hKK KK
       try simp only [Act.put, List.setIfInBounds_toArray, List.set_cons_zero, List.set_cons_succ]
       refine wpAnyH_ready (rs := [6]) (by kernel_rfl) (by simp) ?_
       refine AllReadyH.cons (o := ⟨some 15, _, _, _, _, _⟩) rfl (fun KK hKK => ?_) AllReadyH.nil
       go_simp
       refine Calls.mono (C1 _) ?_
       rintro e wt3 ⟨rfl, hb⟩
       replace km0 := cell_later hb km0
       replace km1 := cell_later hb km1
       replace km2 := cell_later hb km2
       replace km3 := cell_later hb km3
       replace km4 := cell_later hb km4
       replace km5 := cell_later hb km5
       replace km6 := cell_later hb km6
       replace kb0 := cell_later hb kb0
       replace kb1 := cell_later hb kb1
       replace kb2 := cell_later hb kb2
       replace kb3 := cell_later hb kb3
       replace jr0 := fro_later hb kr0 jr0
       replace kr0 := cell_later hb kr0
       replace jr1 := fro_later hb kr1 jr1
       replace kr1 := cell_later hb kr1
       replace jr2 := fro_later hb kr2 jr2
       replace kr2 := cell_later hb kr2
       replace jr3 := fro_later hb kr3 jr3
       replace kr3 := cell_later hb kr3
       replace jx0 := fro_later hb kx0 jx0
       replace kx0 := cell_later hb kx0
       replace jx1 := fro_later hb kx1 jx1
       replace kx1 := cell_later hb kx1
       replace jy0 := fro_later hb ky0 jy0
       replace ky0 := cell_later hb ky0
       replace jy1 := fro_later hb ky1 jy1
       replace ky1 := cell_later hb ky1
       replace zm : w.heap.size < wt3.heap.size := World.block_lt_of_cell? _ _ km0
       replace zb : w.heap.size + 1 < wt3.heap.size := World.block_lt_of_cell? _ _ kb0
       replace zr : w.heap.size + 1 + 1 < wt3.heap.size := World.block_lt_of_cell? _ _ kr0
       have zr_wt3 := zr
       replace zx : wt1.heap.size < wt3.heap.size := World.block_lt_of_cell? _ _ kx0
       have zx_wt3 := zx
       replace zy : wt1.heap.size + 1 < wt3.heap.size := World.block_lt_of_cell? _ _ ky0
       have zy_wt3 := zy
       replace hb0 : Below w.heap.size w wt3 := (by repeat (first | with_reducible exact Below.refl _ _ | with_reducible assumption | with_reducible refine Below.setCell ?_ (by first | omega | (simp <;> omega)) _ | with_reducible refine balloc ?_ _ | with_reducible refine Below.drew ?_ | with_reducible refine bstep ?_ (by with_reducible assumption)))
       clear hb
       (try go_wp2_with fail)
       refine hKK.out _ _ (by first | (go_keep; done) | ((repeat' apply And.intro) <;> go_simp)) (fun hHeld => ?_)
       clear hKK KK
       try simp only [Act.put, List.setIfInBounds_toArray, List.set_cons_zero, List.set_cons_succ]
       refine wpAnyH_take (i := 7) (oi := ⟨some 8, _, _, _, _, _⟩) (v := ?_) rfl (by kernel_rfl) (by kernel_rfl) (by kernel_rfl) (fun _ _ _ h => h) (Or.inl ⟨by rfl, ?_⟩) (by assumption) ?_
       rotate_left
       · intro w hSw; (try dsimp only at hSw); go_simp; try with_reducible rfl
       try simp only [Act.put, List.setIfInBounds_toArray, List.set_cons_zero, List.set_cons_succ]
       refine wpAnyH_take (i := 8) (oi := ⟨some 16, _, _, _, _, _⟩) (v := ?_) rfl (by kernel_rfl) (by kernel_rfl) (by kernel_rfl) (fun _ _ _ h => h) (Or.inl ⟨by rfl, ?_⟩) (by assumption) ?_
       rotate_left
       · intro w hSw; (try dsimp only at hSw); go_simp; try with_reducible rfl
       try simp only [Act.put, List.setIfInBounds_toArray, List.set_cons_zero, List.set_cons_succ]
       refine wpAnyH_take (i := 9) (oi := ⟨some 17, _, _, _, _, _⟩) (v := ?_) rfl (by kernel_rfl) (by kernel_rfl) (by kernel_rfl) (fun _ _ _ h => h) (Or.inl ⟨by rfl, ?_⟩) (by assumption) ?_
       rotate_left
       · intro w hSw; (try dsimp only at hSw); go_simp; try with_reducible rfl
       try simp only [Act.put, List.setIfInBounds_toArray, List.set_cons_zero, List.set_cons_succ]
       refine wpAnyH_ready (rs := [12]) (by kernel_rfl) (by simp) ?_
       refine AllReadyH.cons (o := ⟨none, _, _, _, _, _⟩) rfl (fun KK hKK => ?_) AllReadyH.nil
       go_simp
       (try go_wp2_with fail)
       refine hKK.out _ _ (by first | (go_keep; done) | ((repeat' apply And.intro) <;> go_simp)) (fun hHeld => ?_)
       clear hKK KK
       try simp only [Act.put, List.setIfInBounds_toArray, List.set_cons_zero, List.set_cons_succ]
       refine wpAnyH_ready (rs := [13]) (by kernel_rfl) (by simp) ?_
       refine AllReadyH.cons (o := ⟨none, _, _, _, _, _⟩) rfl (fun KK hKK => ?_) AllReadyH.nil
       go_simp
       (try go_wp2_with fail)
       refine hKK.out _ _ (by first | (go_keep; done) | ((repeat' apply And.intro) <;> go_simp)) (fun hHeld => ?_)
       clear hKK KK
       try simp only [Act.put, List.setIfInBounds_toArray, List.set_cons_zero, List.set_cons_succ]
       refine wpAnyH_done (by kernel_rfl) ?_ _
       (try dsimp only [Exit.then, Met])
       go_wp2_with fail
       go_meet
       refine ⟨_, _, rfl, rfl, by first | omega | (simp; omega), by first | omega | (simp; omega), ?_, ?_, ?_, ?_, ?_, ?_, ?_, ?_, ?_, ?_, ?_, ?_, ?_, ?_, ?_, ?_, ?_, ?_, ?_, ?_, ?_, ?_, ?_, (by repeat (first | with_reducible exact Below.refl _ _ | with_reducible assumption | with_reducible refine Below.setCell ?_ (by first | omega | (simp <;> omega)) _ | with_reducible refine balloc ?_ _ | with_reducible refine Below.drew ?_ | with_reducible refine bstep ?_ (by with_reducible assumption)))⟩
       all_goals first | (with_reducible assumption) | go_simp
     ·go_simp
      (try go_wp2_with fail)
      refine hKK.out _ _ (by first | (go_keep; done) | ((repeat' apply And.intro) <;> go_simp)) (fun hHeld => ?_)
      clear hKK KK
      try simp only [Act.put, List.setIfInBounds_toArray, List.set_cons_zero, List.set_cons_succ]
      refine wpAnyH_ready (rs := [5, 10]) (by kernel_rfl) (by simp) ?_
      refine AllReadyH.cons (o := ⟨some 14, _, _, _, _, _⟩) rfl (fun KK hKK => ?_) (AllReadyH.cons (o := ⟨some 6, _, _, _, _, _⟩) rfl (fun KK hKK => ?_) AllReadyH.nil)
      ·go_simp
       refine Calls.mono (U1 _) ?_
       rintro e wt2 ⟨rfl, hb⟩
       replace km0 := cell_later hb (cell_al _ km0)
       replace km1 := cell_later hb (cell_al _ km1)
       replace km2 := cell_later hb (cell_al _ km2)
       replace km3 := cell_later hb (cell_al _ km3)
       replace km4 := cell_later hb (cell_al _ km4)
       replace km5 := cell_later hb (cell_al _ km5)
       replace km6 := cell_later hb (cell_al _ km6)
       replace kb0 := cell_later hb (cell_al _ kb0)
       replace kb1 := cell_later hb (cell_al _ kb1)
       replace kb2 := cell_later hb (cell_al _ kb2)
       replace kb3 := cell_later hb (cell_al _ kb3)
       replace jr0 := fro_later hb (cell_al _ kr0) (fro_al jr0)
       replace kr0 := cell_later hb (cell_al _ kr0)
       replace jr1 := fro_later hb (cell_al _ kr1) (fro_al jr1)
       replace kr1 := cell_later hb (cell_al _ kr1)
       replace jr2 := fro_later hb (cell_al _ kr2) (fro_al jr2)
       replace kr2 := cell_later hb (cell_al _ kr2)
       replace jr3 := fro_later hb (cell_al _ kr3) (fro_al jr3)
       replace kr3 := cell_later hb (cell_al _ kr3)
       have ky0 : wt2.cell? ⟨wt1.heap.size, 0, none⟩ = some (.int .i64 0) := cell_later hb (by go_simp)
       have jy0 : wt2.frozen? ⟨wt1.heap.size, 0, none⟩ = false := by rw [(bcell hb).2 _ _ (by first | omega | (simp <;> omega))]; go_simp
       have ky1 : wt2.cell? ⟨wt1.heap.size, 1, none⟩ = some (.int .i64 0) := cell_later hb (by go_simp)
       have jy1 : wt2.frozen? ⟨wt1.heap.size, 1, none⟩ = false := by rw [(bcell hb).2 _ _ (by first | omega | (simp <;> omega))]; go_simp
       replace zm : w.heap.size < wt2.heap.size := World.block_lt_of_cell? _ _ km0
       replace zb : w.heap.size + 1 < wt2.heap.size := World.block_lt_of_cell? _ _ kb0
       replace zr : w.heap.size + 1 + 1 < wt2.heap.size := World.block_lt_of_cell? _ _ kr0
       have zr_wt2 := zr
       have zy : wt1.heap.size < wt2.heap.size := World.block_lt_of_cell? _ _ ky0
       have zy_wt2 := zy
       replace hb0 : Below w.heap.size w wt2 := (by repeat (first | with_reducible exact Below.refl _ _ | with_reducible assumption | with_reducible refine Below.setCell ?_ (by first | omega | (simp <;> omega)) _ | with_reducible refine balloc ?_ _ | with_reducible refine Below.drew ?_ | with_reducible refine bstep ?_ (by with_reducible assumption)))
       clear hb
       (try go_wp2_with fail)
       refine hKK.out _ _ (by first | (go_keep; done) | ((repeat' apply And.intro) <;> go_simp)) (fun hHeld => ?_)
       clear hKK KK
       try simp only [Act.put, List.setIfInBounds_toArray, List.set_cons_zero, List.set_cons_succ]
       refine wpAnyH_ready (rs := [6, 10]) (by kernel_rfl) (by simp) ?_
       refine AllReadyH.cons (o := ⟨some 15, _, _, _, _, _⟩) rfl (fun KK hKK => ?_) (AllReadyH.cons (o := ⟨some 6, _, _, _, _, _⟩) rfl (fun KK hKK => ?_) AllReadyH.nil)
       ·go_simp
        refine Calls.mono (C1 _) ?_
        rintro e wt3 ⟨rfl, hb⟩
        replace km0 := cell_later hb km0
        replace km1 := cell_later hb km1
        replace km2 := cell_later hb km2
        replace km3 := cell_later hb km3
        replace km4 := cell_later hb km4
        replace km5 := cell_later hb km5
        replace km6 := cell_later hb km6
        replace kb0 := cell_later hb kb0
        replace kb1 := cell_later hb kb1
        replace kb2 := cell_later hb kb2
        replace kb3 := cell_later hb kb3
        replace jr0 := fro_later hb kr0 jr0
        replace kr0 := cell_later hb kr0
        replace jr1 := fro_later hb kr1 jr1
        replace kr1 := cell_later hb kr1
        replace jr2 := fro_later hb kr2 jr2
        replace kr2 := cell_later hb kr2
        replace jr3 := fro_later hb kr3 jr3
        replace kr3 := cell_later hb kr3
        replace jy0 := fro_later hb ky0 jy0
        replace ky0 := cell_later hb ky0
        replace jy1 := fro_later hb ky1 jy1
        replace ky1 := cell_later hb ky1
        replace zm : w.heap.size < wt3.heap.size := World.block_lt_of_cell? _ _ km0
        replace zb : w.heap.size + 1 < wt3.heap.size := World.block_lt_of_cell? _ _ kb0
        replace zr : w.heap.size + 1 + 1 < wt3.heap.size := World.block_lt_of_cell? _ _ kr0
        have zr_wt3 := zr
        replace zy : wt1.heap.size < wt3.heap.size := World.block_lt_of_cell? _ _ ky0
        have zy_wt3 := zy
        replace hb0 : Below w.heap.size w wt3 := (by repeat (first | with_reducible exact Below.refl _ _ | with_reducible assumption | with_reducible refine Below.setCell ?_ (by first | omega | (simp <;> omega)) _ | with_reducible refine balloc ?_ _ | with_reducible refine Below.drew ?_ | with_reducible refine bstep ?_ (by with_reducible assumption)))
        clear hb
        (try go_wp2_with fail)
        refine hKK.out _ _ (by first | (go_keep; done) | ((repeat' apply And.intro) <;> go_simp)) (fun hHeld => ?_)
        clear hKK KK
        try simp only [Act.put, List.setIfInBounds_toArray, List.set_cons_zero, List.set_cons_succ]
        refine wpAnyH_take (i := 7) (oi := ⟨some 8, _, _, _, _, _⟩) (v := ?_) rfl (by kernel_rfl) (by kernel_rfl) (by kernel_rfl) (fun _ _ _ h => h) (Or.inl ⟨by rfl, ?_⟩) (by assumption) ?_
        rotate_left
        · intro w hSw; (try dsimp only at hSw); go_simp; try with_reducible rfl
        try simp only [Act.put, List.setIfInBounds_toArray, List.set_cons_zero, List.set_cons_succ]
        refine wpAnyH_take (i := 8) (oi := ⟨some 16, _, _, _, _, _⟩) (v := ?_) rfl (by kernel_rfl) (by kernel_rfl) (by kernel_rfl) (fun _ _ _ h => h) (Or.inl ⟨by rfl, ?_⟩) (by assumption) ?_
        rotate_left
        · intro w hSw; (try dsimp only at hSw); go_simp; try with_reducible rfl
        try simp only [Act.put, List.setIfInBounds_toArray, List.set_cons_zero, List.set_cons_succ]
        refine wpAnyH_take (i := 9) (oi := ⟨some 17, _, _, _, _, _⟩) (v := ?_) rfl (by kernel_rfl) (by kernel_rfl) (by kernel_rfl) (fun _ _ _ h => h) (Or.inl ⟨by rfl, ?_⟩) (by assumption) ?_
        rotate_left
        · intro w hSw; (try dsimp only at hSw); go_simp; try with_reducible rfl
        try simp only [Act.put, List.setIfInBounds_toArray, List.set_cons_zero, List.set_cons_succ]
        refine wpAnyH_ready (rs := [10]) (by kernel_rfl) (by simp) ?_
        refine AllReadyH.cons (o := ⟨some 6, _, _, _, _, _⟩) rfl (fun KK hKK => ?_) AllReadyH.nil
        go_simp
        (try go_wp2_with fail)
        refine hKK.out _ _ (by first | (go_keep; done) | ((repeat' apply And.intro) <;> go_simp)) (fun hHeld => ?_)
        clear hKK KK
        try simp only [Act.put, List.setIfInBounds_toArray, List.set_cons_zero, List.set_cons_succ]
        refine wpAnyH_ready (rs := [12]) (by kernel_rfl) (by simp) ?_
        refine AllReadyH.cons (o := ⟨none, _, _, _, _, _⟩) rfl (fun KK hKK => ?_) AllReadyH.nil
        go_simp
        (try go_wp2_with fail)
        refine hKK.out _ _ (by first | (go_keep; done) | ((repeat' apply And.intro) <;> go_simp)) (fun hHeld => ?_)
        clear hKK KK
        try simp only [Act.put, List.setIfInBounds_toArray, List.set_cons_zero, List.set_cons_succ]
        refine wpAnyH_ready (rs := [13]) (by kernel_rfl) (by simp) ?_
        refine AllReadyH.cons (o := ⟨none, _, _, _, _, _⟩) rfl (fun KK hKK => ?_) AllReadyH.nil
        go_simp
        (try go_wp2_with fail)
        refine hKK.out _ _ (by first | (go_keep; done) | ((repeat' apply And.intro) <;> go_simp)) (fun hHeld => ?_)
        clear hKK KK
        try simp only [Act.put, List.setIfInBounds_toArray, List.set_cons_zero, List.set_cons_succ]
        refine wpAnyH_done (by kernel_rfl) ?_ _
        (try dsimp only [Exit.then, Met])
        go_wp2_with fail
        go_meet
        refine ⟨_, _, rfl, rfl, by first | omega | (simp; omega), by first | omega | (simp; omega), ?_, ?_, ?_, ?_, ?_, ?_, ?_, ?_, ?_, ?_, ?_, ?_, ?_, ?_, ?_, ?_, ?_, ?_, ?_, ?_, ?_, ?_, ?_, (by repeat (first | with_reducible exact Below.refl _ _ | with_reducible assumption | with_reducible refine Below.setCell ?_ (by first | omega | (simp <;> omega)) _ | with_reducible refine balloc ?_ _ | with_reducible refine Below.drew ?_ | with_reducible refine bstep ?_ (by with_reducible assumption)))⟩
        all_goals first | (with_reducible assumption) | go_simp
       ·go_simp
        (try go_wp2_with fail)
        refine hKK.out _ _ (by first | (go_keep; done) | ((repeat' apply And.intro) <;> go_simp)) (fun hHeld => ?_)
        clear hKK KK
        try simp only [Act.put, List.setIfInBounds_toArray, List.set_cons_zero, List.set_cons_succ]
        refine wpAnyH_ready (rs := [6]) (by kernel_rfl) (by simp) ?_
        refine AllReadyH.cons (o := ⟨some 15, _, _, _, _, _⟩) rfl (fun KK hKK => ?_) AllReadyH.nil
        go_simp
        refine Calls.mono (C1 _) ?_
        rintro e wt3 ⟨rfl, hb⟩
        replace km0 := cell_later hb (cell_al _ km0)
        replace km1 := cell_later hb (cell_al _ km1)
        replace km2 := cell_later hb (cell_al _ km2)
        replace km3 := cell_later hb (cell_al _ km3)
        replace km4 := cell_later hb (cell_al _ km4)
        replace km5 := cell_later hb (cell_al _ km5)
        replace km6 := cell_later hb (cell_al _ km6)
        replace kb0 := cell_later hb (cell_al _ kb0)
        replace kb1 := cell_later hb (cell_al _ kb1)
        replace kb2 := cell_later hb (cell_al _ kb2)
        replace kb3 := cell_later hb (cell_al _ kb3)
        replace jr0 := fro_later hb (cell_al _ kr0) (fro_al jr0)
        replace kr0 := cell_later hb (cell_al _ kr0)
        replace jr1 := fro_later hb (cell_al _ kr1) (fro_al jr1)
        replace kr1 := cell_later hb (cell_al _ kr1)
        replace jr2 := fro_later hb (cell_al _ kr2) (fro_al jr2)
        replace kr2 := cell_later hb (cell_al _ kr2)
        replace jr3 := fro_later hb (cell_al _ kr3) (fro_al jr3)
        replace kr3 := cell_later hb (cell_al _ kr3)
        replace jy0 := fro_later hb (cell_al _ ky0) (fro_al jy0)
        replace ky0 := cell_later hb (cell_al _ ky0)
        replace jy1 := fro_later hb (cell_al _ ky1) (fro_al jy1)
        replace ky1 := cell_later hb (cell_al _ ky1)
        have kx0 : wt3.cell? ⟨wt2.heap.size, 0, none⟩ = some (.int .i64 0) := cell_later hb (by go_simp)
        have jx0 : wt3.frozen? ⟨wt2.heap.size, 0, none⟩ = false := by rw [(bcell hb).2 _ _ (by first | omega | (simp <;> omega))]; go_simp
        have kx1 : wt3.cell? ⟨wt2.heap.size, 1, none⟩ = some (.int .i64 0) := cell_later hb (by go_simp)
        have jx1 : wt3.frozen? ⟨wt2.heap.size, 1, none⟩ = false := by rw [(bcell hb).2 _ _ (by first | omega | (simp <;> omega))]; go_simp
        replace zm : w.heap.size < wt3.heap.size := World.block_lt_of_cell? _ _ km0
        replace zb : w.heap.size + 1 < wt3.heap.size := World.block_lt_of_cell? _ _ kb0
        replace zr : w.heap.size + 1 + 1 < wt3.heap.size := World.block_lt_of_cell? _ _ kr0
        have zr_wt3 := zr
        replace zy : wt1.heap.size < wt3.heap.size := World.block_lt_of_cell? _ _ ky0
        have zy_wt3 := zy
        have zx : wt2.heap.size < wt3.heap.size := World.block_lt_of_cell? _ _ kx0
        have zx_wt3 := zx
        replace hb0 : Below w.heap.size w wt3 := (by repeat (first | with_reducible exact Below.refl _ _ | with_reducible assumption | with_reducible refine Below.setCell ?_ (by first | omega | (simp <;> omega)) _ | with_reducible refine balloc ?_ _ | with_reducible refine Below.drew ?_ | with_reducible refine bstep ?_ (by with_reducible assumption)))
        clear hb
        (try go_wp2_with fail)
        refine hKK.out _ _ (by first | (go_keep; done) | ((repeat' apply And.intro) <;> go_simp)) (fun hHeld => ?_)
        clear hKK KK
        try simp only [Act.put, List.setIfInBounds_toArray, List.set_cons_zero, List.set_cons_succ]
        refine wpAnyH_take (i := 7) (oi := ⟨some 8, _, _, _, _, _⟩) (v := ?_) rfl (by kernel_rfl) (by kernel_rfl) (by kernel_rfl) (fun _ _ _ h => h) (Or.inl ⟨by rfl, ?_⟩) (by assumption) ?_
        rotate_left
        · intro w hSw; (try dsimp only at hSw); go_simp; try with_reducible rfl
        try simp only [Act.put, List.setIfInBounds_toArray, List.set_cons_zero, List.set_cons_succ]
        refine wpAnyH_take (i := 8) (oi := ⟨some 16, _, _, _, _, _⟩) (v := ?_) rfl (by kernel_rfl) (by kernel_rfl) (by kernel_rfl) (fun _ _ _ h => h) (Or.inl ⟨by rfl, ?_⟩) (by assumption) ?_
        rotate_left
        · intro w hSw; (try dsimp only at hSw); go_simp; try with_reducible rfl
        try simp only [Act.put, List.setIfInBounds_toArray, List.set_cons_zero, List.set_cons_succ]
        refine wpAnyH_take (i := 9) (oi := ⟨some 17, _, _, _, _, _⟩) (v := ?_) rfl (by kernel_rfl) (by kernel_rfl) (by kernel_rfl) (fun _ _ _ h => h) (Or.inl ⟨by rfl, ?_⟩) (by assumption) ?_
        rotate_left
        · intro w hSw; (try dsimp only at hSw); go_simp; try with_reducible rfl
        try simp only [Act.put, List.setIfInBounds_toArray, List.set_cons_zero, List.set_cons_succ]
        refine wpAnyH_ready (rs := [12]) (by kernel_rfl) (by simp) ?_
        refine AllReadyH.cons (o := ⟨none, _, _, _, _, _⟩) rfl (fun KK hKK => ?_) AllReadyH.nil
        go_simp
        (try go_wp2_with fail)
        refine hKK.out _ _ (by first | (go_keep; done) | ((repeat' apply And.intro) <;> go_simp)) (fun hHeld => ?_)
        clear hKK KK
        try simp only [Act.put, List.setIfInBounds_toArray, List.set_cons_zero, List.set_cons_succ]
        refine wpAnyH_ready (rs := [13]) (by kernel_rfl) (by simp) ?_
        refine AllReadyH.cons (o := ⟨none, _, _, _, _, _⟩) rfl (fun KK hKK => ?_) AllReadyH.nil
        go_simp
        (try go_wp2_with fail)
        refine hKK.out _ _ (by first | (go_keep; done) | ((repeat' apply And.intro) <;> go_simp)) (fun hHeld => ?_)
        clear hKK KK
        try simp only [Act.put, List.setIfInBounds_toArray, List.set_cons_zero, List.set_cons_succ]
        refine wpAnyH_done (by kernel_rfl) ?_ _
        (try dsimp only [Exit.then, Met])
        go_wp2_with fail
        go_meet
        refine ⟨_, _, rfl, rfl, by first | omega | (simp; omega), by first | omega | (simp; omega), ?_, ?_, ?_, ?_, ?_, ?_, ?_, ?_, ?_, ?_, ?_, ?_, ?_, ?_, ?_, ?_, ?_, ?_, ?_, ?_, ?_, ?_, ?_, (by repeat (first | with_reducible exact Below.refl _ _ | with_reducible assumption | with_reducible refine Below.setCell ?_ (by first | omega | (simp <;> omega)) _ | with_reducible refine balloc ?_ _ | with_reducible refine Below.drew ?_ | with_reducible refine bstep ?_ (by with_reducible assumption)))⟩
        all_goals first | (with_reducible assumption) | go_simp
      ·go_simp
       (try go_wp2_with fail)
       refine hKK.out _ _ (by first | (go_keep; done) | ((repeat' apply And.intro) <;> go_simp)) (fun hHeld => ?_)
       clear hKK KK
       try simp only [Act.put, List.setIfInBounds_toArray, List.set_cons_zero, List.set_cons_succ]
       refine wpAnyH_ready (rs := [5]) (by kernel_rfl) (by simp) ?_
       refine AllReadyH.cons (o := ⟨some 14, _, _, _, _, _⟩) rfl (fun KK hKK => ?_) AllReadyH.nil
       go_simp
       refine Calls.mono (U1 _) ?_
       rintro e wt2 ⟨rfl, hb⟩
       replace km0 := cell_later hb (cell_al _ (cell_al _ km0))
       replace km1 := cell_later hb (cell_al _ (cell_al _ km1))
       replace km2 := cell_later hb (cell_al _ (cell_al _ km2))
       replace km3 := cell_later hb (cell_al _ (cell_al _ km3))
       replace km4 := cell_later hb (cell_al _ (cell_al _ km4))
       replace km5 := cell_later hb (cell_al _ (cell_al _ km5))
       replace km6 := cell_later hb (cell_al _ (cell_al _ km6))
       replace kb0 := cell_later hb (cell_al _ (cell_al _ kb0))
       replace kb1 := cell_later hb (cell_al _ (cell_al _ kb1))
       replace kb2 := cell_later hb (cell_al _ (cell_al _ kb2))
       replace kb3 := cell_later hb (cell_al _ (cell_al _ kb3))
       replace jr0 := fro_later hb (cell_al _ (cell_al _ kr0)) (fro_al (fro_al jr0))
       replace kr0 := cell_later hb (cell_al _ (cell_al _ kr0))
       replace jr1 := fro_later hb (cell_al _ (cell_al _ kr1)) (fro_al (fro_al jr1))
       replace kr1 := cell_later hb (cell_al _ (cell_al _ kr1))
       replace jr2 := fro_later hb (cell_al _ (cell_al _ kr2)) (fro_al (fro_al jr2))
       replace kr2 := cell_later hb (cell_al _ (cell_al _ kr2))
       replace jr3 := fro_later hb (cell_al _ (cell_al _ kr3)) (fro_al (fro_al jr3))
       replace kr3 := cell_later hb (cell_al _ (cell_al _ kr3))
       have ky0 : wt2.cell? ⟨wt1.heap.size, 0, none⟩ = some (.int .i64 0) := cell_later hb (by go_simp)
       have jy0 : wt2.frozen? ⟨wt1.heap.size, 0, none⟩ = false := by rw [(bcell hb).2 _ _ (by first | omega | (simp <;> omega))]; go_simp
       have ky1 : wt2.cell? ⟨wt1.heap.size, 1, none⟩ = some (.int .i64 0) := cell_later hb (by go_simp)
       have jy1 : wt2.frozen? ⟨wt1.heap.size, 1, none⟩ = false := by rw [(bcell hb).2 _ _ (by first | omega | (simp <;> omega))]; go_simp
       have kx0 : wt2.cell? ⟨wt1.heap.size + 1, 0, none⟩ = some (.int .i64 0) := cell_later hb (by go_simp)
       have jx0 : wt2.frozen? ⟨wt1.heap.size + 1, 0, none⟩ = false := by rw [(bcell hb).2 _ _ (by first | omega | (simp <;> omega))]; go_simp
       have kx1 : wt2.cell? ⟨wt1.heap.size + 1, 1, none⟩ = some (.int .i64 0) := cell_later hb (by go_simp)
       have jx1 : wt2.frozen? ⟨wt1.heap.size + 1, 1, none⟩ = false := by rw [(bcell hb).2 _ _ (by first | omega | (simp <;> omega))]; go_simp
       replace zm : w.heap.size < wt2.heap.size := World.block_lt_of_cell? _ _ km0
       replace zb : w.heap.size + 1 < wt2.heap.size := World.block_lt_of_cell? _ _ kb0
       replace zr : w.heap.size + 1 + 1 < wt2.heap.size := World.block_lt_of_cell? _ _ kr0
       have zr_wt2 := zr
       have zy : wt1.heap.size < wt2.heap.size := World.block_lt_of_cell? _ _ ky0
       have zy_wt2 := zy
       have zx : wt1.heap.size + 1 < wt2.heap.size := World.block_lt_of_cell? _ _ kx0
       have zx_wt2 := zx
       replace hb0 : Below w.heap.size w wt2 := (by repeat (first | with_reducible exact Below.refl _ _ | with_reducible assumption | with_reducible refine Below.setCell ?_ (by first | omega | (simp <;> omega)) _ | with_reducible refine balloc ?_ _ | with_reducible refine Below.drew ?_ | with_reducible refine bstep ?_ (by with_reducible assumption)))
       clear hb
       (try go_wp2_with fail)
       refine hKK.out _ _ (by first | (go_keep; done) | ((repeat' apply And.intro) <;> go_simp)) (fun hHeld => ?_)
       clear hKK KK
       try simp only [Act.put, List.setIfInBounds_toArray, List.set_cons_zero, List.set_cons_succ]
       refine wpAnyH_ready (rs := [6]) (by kernel_rfl) (by simp) ?_
       refine AllReadyH.cons (o := ⟨some 15, _, _, _, _, _⟩) rfl (fun KK hKK => ?_) AllReadyH.nil
       go_simp
       refine Calls.mono (C1 _) ?_
       rintro e wt3 ⟨rfl, hb⟩
       replace km0 := cell_later hb km0
       replace km1 := cell_later hb km1
       replace km2 := cell_later hb km2
       replace km3 := cell_later hb km3
       replace km4 := cell_later hb km4
       replace km5 := cell_later hb km5
       replace km6 := cell_later hb km6
       replace kb0 := cell_later hb kb0
       replace kb1 := cell_later hb kb1
       replace kb2 := cell_later hb kb2
       replace kb3 := cell_later hb kb3
       replace jr0 := fro_later hb kr0 jr0
       replace kr0 := cell_later hb kr0
       replace jr1 := fro_later hb kr1 jr1
       replace kr1 := cell_later hb kr1
       replace jr2 := fro_later hb kr2 jr2
       replace kr2 := cell_later hb kr2
       replace jr3 := fro_later hb kr3 jr3
       replace kr3 := cell_later hb kr3
       replace jy0 := fro_later hb ky0 jy0
       replace ky0 := cell_later hb ky0
       replace jy1 := fro_later hb ky1 jy1
       replace ky1 := cell_later hb ky1
       replace jx0 := fro_later hb kx0 jx0
       replace kx0 := cell_later hb kx0
       replace jx1 := fro_later hb kx1 jx1
       replace kx1 := cell_later hb kx1
       replace zm : w.heap.size < wt3.heap.size := World.block_lt_of_cell? _ _ km0
       replace zb : w.heap.size + 1 < wt3.heap.size := World.block_lt_of_cell? _ _ kb0
       replace zr : w.heap.size + 1 + 1 < wt3.heap.size := World.block_lt_of_cell? _ _ kr0
       have zr_wt3 := zr
       replace zy : wt1.heap.size < wt3.heap.size := World.block_lt_of_cell? _ _ ky0
       have zy_wt3 := zy
       replace zx : wt1.heap.size + 1 < wt3.heap.size := World.block_lt_of_cell? _ _ kx0
       have zx_wt3 := zx
       replace hb0 : Below w.heap.size w wt3 := (by repeat (first | with_reducible exact Below.refl _ _ | with_reducible assumption | with_reducible refine Below.setCell ?_ (by first | omega | (simp <;> omega)) _ | with_reducible refine balloc ?_ _ | with_reducible refine Below.drew ?_ | with_reducible refine bstep ?_ (by with_reducible assumption)))
       clear hb
       (try go_wp2_with fail)
       refine hKK.out _ _ (by first | (go_keep; done) | ((repeat' apply And.intro) <;> go_simp)) (fun hHeld => ?_)
       clear hKK KK
       try simp only [Act.put, List.setIfInBounds_toArray, List.set_cons_zero, List.set_cons_succ]
       refine wpAnyH_take (i := 7) (oi := ⟨some 8, _, _, _, _, _⟩) (v := ?_) rfl (by kernel_rfl) (by kernel_rfl) (by kernel_rfl) (fun _ _ _ h => h) (Or.inl ⟨by rfl, ?_⟩) (by assumption) ?_
       rotate_left
       · intro w hSw; (try dsimp only at hSw); go_simp; try with_reducible rfl
       try simp only [Act.put, List.setIfInBounds_toArray, List.set_cons_zero, List.set_cons_succ]
       refine wpAnyH_take (i := 8) (oi := ⟨some 16, _, _, _, _, _⟩) (v := ?_) rfl (by kernel_rfl) (by kernel_rfl) (by kernel_rfl) (fun _ _ _ h => h) (Or.inl ⟨by rfl, ?_⟩) (by assumption) ?_
       rotate_left
       · intro w hSw; (try dsimp only at hSw); go_simp; try with_reducible rfl
       try simp only [Act.put, List.setIfInBounds_toArray, List.set_cons_zero, List.set_cons_succ]
       refine wpAnyH_take (i := 9) (oi := ⟨some 17, _, _, _, _, _⟩) (v := ?_) rfl (by kernel_rfl) (by kernel_rfl) (by kernel_rfl) (fun _ _ _ h => h) (Or.inl ⟨by rfl, ?_⟩) (by assumption) ?_
       rotate_left
       · intro w hSw; (try dsimp only at hSw); go_simp; try with_reducible rfl
       try simp only [Act.put, List.setIfInBounds_toArray, List.set_cons_zero, List.set_cons_succ]
       refine wpAnyH_ready (rs := [12]) (by kernel_rfl) (by simp) ?_
       refine AllReadyH.cons (o := ⟨none, _, _, _, _, _⟩) rfl (fun KK hKK => ?_) AllReadyH.nil
       go_simp
       (try go_wp2_with fail)
       refine hKK.out _ _ (by first | (go_keep; done) | ((repeat' apply And.intro) <;> go_simp)) (fun hHeld => ?_)
       clear hKK KK
       try simp only [Act.put, List.setIfInBounds_toArray, List.set_cons_zero, List.set_cons_succ]
       refine wpAnyH_ready (rs := [13]) (by kernel_rfl) (by simp) ?_
       refine AllReadyH.cons (o := ⟨none, _, _, _, _, _⟩) rfl (fun KK hKK => ?_) AllReadyH.nil
       go_simp
       (try go_wp2_with fail)
       refine hKK.out _ _ (by first | (go_keep; done) | ((repeat' apply And.intro) <;> go_simp)) (fun hHeld => ?_)
       clear hKK KK
       try simp only [Act.put, List.setIfInBounds_toArray, List.set_cons_zero, List.set_cons_succ]
       refine wpAnyH_done (by kernel_rfl) ?_ _
       (try dsimp only [Exit.then, Met])
       go_wp2_with fail
       go_meet
       refine ⟨_, _, rfl, rfl, by first | omega | (simp; omega), by first | omega | (simp; omega), ?_, ?_, ?_, ?_, ?_, ?_, ?_, ?_, ?_, ?_, ?_, ?_, ?_, ?_, ?_, ?_, ?_, ?_, ?_, ?_, ?_, ?_, ?_, (by repeat (first | with_reducible exact Below.refl _ _ | with_reducible assumption | with_reducible refine Below.setCell ?_ (by first | omega | (simp <;> omega)) _ | with_reducible refine balloc ?_ _ | with_reducible refine Below.drew ?_ | with_reducible refine bstep ?_ (by with_reducible assumption)))⟩
       all_goals first | (with_reducible assumption) | go_simp
    ·go_simp
     (try go_wp2_with fail)
     refine hKK.out _ _ (by first | (go_keep; done) | ((repeat' apply And.intro) <;> go_simp)) (fun hHeld => ?_)
     clear hKK KK
     try simp only [Act.put, List.setIfInBounds_toArray, List.set_cons_zero, List.set_cons_succ]
     refine wpAnyH_ready (rs := [2, 11]) (by kernel_rfl) (by simp) ?_
     refine AllReadyH.cons (o := ⟨some 11, _, _, _, _, _⟩) rfl (fun KK hKK => ?_) (AllReadyH.cons (o := ⟨some 7, _, _, _, _, _⟩) rfl (fun KK hKK => ?_) AllReadyH.nil)
     ·go_simp
      refine Calls.mono (T1 _) ?_
      rintro e wt1 ⟨rfl, hb⟩
      have km0 : wt1.cell? ⟨w.heap.size, 0, none⟩ = some (.int .i64 m1) := cell_later hb (by go_simp)
      have km1 : wt1.cell? ⟨w.heap.size, 1, none⟩ = some (.int .i64 m2) := cell_later hb (by go_simp)
      have km2 : wt1.cell? ⟨w.heap.size, 2, none⟩ = some (.int .i64 m3) := cell_later hb (by go_simp)
      have km3 : wt1.cell? ⟨w.heap.size, 3, none⟩ = some (.int .i64 m4) := cell_later hb (by go_simp)
      have km4 : wt1.cell? ⟨w.heap.size, 4, none⟩ = some (.int .i64 m5) := cell_later hb (by go_simp)
      have km5 : wt1.cell? ⟨w.heap.size, 5, none⟩ = some (.int .i64 m6) := cell_later hb (by go_simp)
      have km6 : wt1.cell? ⟨w.heap.size, 6, none⟩ = some (.int .i64 m7) := cell_later hb (by go_simp)
      have kb0 : wt1.cell? ⟨w.heap.size + 1, 0, none⟩ = some (.int .i64 b1) := cell_later hb (by go_simp)
      have kb1 : wt1.cell? ⟨w.heap.size + 1, 1, none⟩ = some (.int .i64 b2) := cell_later hb (by go_simp)
      have kb2 : wt1.cell? ⟨w.heap.size + 1, 2, none⟩ = some (.int .i64 b3) := cell_later hb (by go_simp)
      have kb3 : wt1.cell? ⟨w.heap.size + 1, 3, none⟩ = some (.int .i64 b4) := cell_later hb (by go_simp)
      have kr0 : wt1.cell? ⟨w.heap.size + 1 + 1, 0, none⟩ = some (.int .i64 0) := cell_later hb (by go_simp)
      have jr0 : wt1.frozen? ⟨w.heap.size + 1 + 1, 0, none⟩ = false := by rw [(bcell hb).2 _ _ (by first | omega | (simp <;> omega))]; go_simp
      have kr1 : wt1.cell? ⟨w.heap.size + 1 + 1, 1, none⟩ = some (.int .i64 0) := cell_later hb (by go_simp)
      have jr1 : wt1.frozen? ⟨w.heap.size + 1 + 1, 1, none⟩ = false := by rw [(bcell hb).2 _ _ (by first | omega | (simp <;> omega))]; go_simp
      have kr2 : wt1.cell? ⟨w.heap.size + 1 + 1, 2, none⟩ = some (.int .i64 0) := cell_later hb (by go_simp)
      have jr2 : wt1.frozen? ⟨w.heap.size + 1 + 1, 2, none⟩ = false := by rw [(bcell hb).2 _ _ (by first | omega | (simp <;> omega))]; go_simp
      have kr3 : wt1.cell? ⟨w.heap.size + 1 + 1, 3, none⟩ = some (.int .i64 0) := cell_later hb (by go_simp)
      have jr3 : wt1.frozen? ⟨w.heap.size + 1 + 1, 3, none⟩ = false := by rw [(bcell hb).2 _ _ (by first | omega | (simp <;> omega))]; go_simp
      have kx0 : wt1.cell? ⟨w.heap.size + 1 + 1 + 1, 0, none⟩ = some (.int .i64 0) := cell_later hb (by go_simp)
      have jx0 : wt1.frozen? ⟨w.heap.size + 1 + 1 + 1, 0, none⟩ = false := by rw [(bcell hb).2 _ _ (by first | omega | (simp <;> omega))]; go_simp
      have kx1 : wt1.cell? ⟨w.heap.size + 1 + 1 + 1, 1, none⟩ = some (.int .i64 0) := cell_later hb (by go_simp)
      have jx1 : wt1.frozen? ⟨w.heap.size + 1 + 1 + 1, 1, none⟩ = false := by rw [(bcell hb).2 _ _ (by first | omega | (simp <;> omega))]; go_simp
      have zm : w.heap.size < wt1.heap.size := World.block_lt_of_cell? _ _ km0
      have zb : w.heap.size + 1 < wt1.heap.size := World.block_lt_of_cell? _ _ kb0
      have zr : w.heap.size + 1 + 1 < wt1.heap.size := World.block_lt_of_cell? _ _ kr0
      have zr_wt1 := zr
      have zx : w.heap.size + 1 + 1 + 1 < wt1.heap.size := World.block_lt_of_cell? _ _ kx0
      have zx_wt1 := zx
      have hb0 : Below w.heap.size w wt1 := (by repeat (first | with_reducible exact Below.refl _ _ | with_reducible assumption | with_reducible refine Below.setCell ?_ (by first | omega | (simp <;> omega)) _ | with_reducible refine balloc ?_ _ | with_reducible refine Below.drew ?_ | with_reducible refine bstep ?_ (by with_reducible assumption)))
      clear hb
      (try go_wp2_with fail)
      refine hKK.out _ _ (by first | (go_keep; done) | ((repeat' apply And.intro) <;> go_simp)) (fun hHeld => ?_)
      clear hKK KK
      try simp only [Act.put, List.setIfInBounds_toArray, List.set_cons_zero, List.set_cons_succ]
      refine wpAnyH_ready (rs := [5, 11]) (by kernel_rfl) (by simp) ?_
      refine AllReadyH.cons (o := ⟨some 14, _, _, _, _, _⟩) rfl (fun KK hKK => ?_) (AllReadyH.cons (o := ⟨some 7, _, _, _, _, _⟩) rfl (fun KK hKK => ?_) AllReadyH.nil)
      ·go_simp
       refine Calls.mono (U1 _) ?_
       rintro e wt2 ⟨rfl, hb⟩
       replace km0 := cell_later hb km0
       replace km1 := cell_later hb km1
       replace km2 := cell_later hb km2
       replace km3 := cell_later hb km3
       replace km4 := cell_later hb km4
       replace km5 := cell_later hb km5
       replace km6 := cell_later hb km6
       replace kb0 := cell_later hb kb0
       replace kb1 := cell_later hb kb1
       replace kb2 := cell_later hb kb2
       replace kb3 := cell_later hb kb3
       replace jr0 := fro_later hb kr0 jr0
       replace kr0 := cell_later hb kr0
       replace jr1 := fro_later hb kr1 jr1
       replace kr1 := cell_later hb kr1
       replace jr2 := fro_later hb kr2 jr2
       replace kr2 := cell_later hb kr2
       replace jr3 := fro_later hb kr3 jr3
       replace kr3 := cell_later hb kr3
       replace jx0 := fro_later hb kx0 jx0
       replace kx0 := cell_later hb kx0
       replace jx1 := fro_later hb kx1 jx1
       replace kx1 := cell_later hb kx1
       replace zm : w.heap.size < wt2.heap.size := World.block_lt_of_cell? _ _ km0
       replace zb : w.heap.size + 1 < wt2.heap.size := World.block_lt_of_cell? _ _ kb0
       replace zr : w.heap.size + 1 + 1 < wt2.heap.size := World.block_lt_of_cell? _ _ kr0
       have zr_wt2 := zr
       replace zx : w.heap.size + 1 + 1 + 1 < wt2.heap.size := World.block_lt_of_cell? _ _ kx0
       have zx_wt2 := zx
       replace hb0 : Below w.heap.size w wt2 := (by repeat (first | with_reducible exact Below.refl _ _ | with_reducible assumption | with_reducible refine Below.setCell ?_ (by first | omega | (simp <;> omega)) _ | with_reducible refine balloc ?_ _ | with_reducible refine Below.drew ?_ | with_reducible refine bstep ?_ (by with_reducible assumption)))
       clear hb
       (try go_wp2_with fail)
       refine hKK.out _ _ (by first | (go_keep; done) | ((repeat' apply And.intro) <;> go_simp)) (fun hHeld => ?_)
       clear hKK KK
       try simp only [Act.put, List.setIfInBounds_toArray, List.set_cons_zero, List.set_cons_succ]
       refine wpAnyH_ready (rs := [6, 11]) (by kernel_rfl) (by simp) ?_
       refine AllReadyH.cons (o := ⟨some 15, _, _, _, _, _⟩) rfl (fun KK hKK => ?_) (AllReadyH.cons (o := ⟨some 7, _, _, _, _, _⟩) rfl (fun KK hKK => ?_) AllReadyH.nil)
       ·go_simp
        refine Calls.mono (C1 _) ?_
        rintro e wt3 ⟨rfl, hb⟩
        replace km0 := cell_later hb km0
        replace km1 := cell_later hb km1
        replace km2 := cell_later hb km2
        replace km3 := cell_later hb km3
        replace km4 := cell_later hb km4
        replace km5 := cell_later hb km5
        replace km6 := cell_later hb km6
        replace kb0 := cell_later hb kb0
        replace kb1 := cell_later hb kb1
        replace kb2 := cell_later hb kb2
        replace kb3 := cell_later hb kb3
        replace jr0 := fro_later hb kr0 jr0
        replace kr0 := cell_later hb kr0
        replace jr1 := fro_later hb kr1 jr1
        replace kr1 := cell_later hb kr1
        replace jr2 := fro_later hb kr2 jr2
        replace kr2 := cell_later hb kr2
        replace jr3 := fro_later hb kr3 jr3
        replace kr3 := cell_later hb kr3
        replace jx0 := fro_later hb kx0 jx0
        replace kx0 := cell_later hb kx0
        replace jx1 := fro_later hb kx1 jx1
        replace kx1 := cell_later hb kx1
        replace zm : w.heap.size < wt3.heap.size := World.block_lt_of_cell? _ _ km0
        replace zb : w.heap.size + 1 < wt3.heap.size := World.block_lt_of_cell? _ _ kb0
        replace zr : w.heap.size + 1 + 1 < wt3.heap.size := World.block_lt_of_cell? _ _ kr0
        have zr_wt3 := zr
        replace zx : w.heap.size + 1 + 1 + 1 < wt3.heap.size := World.block_lt_of_cell? _ _ kx0
        have zx_wt3 := zx
        replace hb0 : Below w.heap.size w wt3 := (by repeat (first | with_reducible exact Below.refl _ _ | with_reducible assumption | with_reducible refine Below.setCell ?_ (by first | omega | (simp <;> omega)) _ | with_reducible refine balloc ?_ _ | with_reducible refine Below.drew ?_ | with_reducible refine bstep ?_ (by with_reducible assumption)))
        clear hb
        (try go_wp2_with fail)
        refine hKK.out _ _ (by first | (go_keep; done) | ((repeat' apply And.intro) <;> go_simp)) (fun hHeld => ?_)
        clear hKK KK
        try simp only [Act.put, List.setIfInBounds_toArray, List.set_cons_zero, List.set_cons_succ]
        refine wpAnyH_take (i := 7) (oi := ⟨some 8, _, _, _, _, _⟩) (v := ?_) rfl (by kernel_rfl) (by kernel_rfl) (by kernel_rfl) (fun _ _ _ h => h) (Or.inl ⟨by rfl, ?_⟩) (by assumption) ?_
        rotate_left
        · intro w hSw; (try dsimp only at hSw); go_simp; try with_reducible rfl
        try simp only [Act.put, List.setIfInBounds_toArray, List.set_cons_zero, List.set_cons_succ]
        refine wpAnyH_take (i := 8) (oi := ⟨some 16, _, _, _, _, _⟩) (v := ?_) rfl (by kernel_rfl) (by kernel_rfl) (by kernel_rfl) (fun _ _ _ h => h) (Or.inl ⟨by rfl, ?_⟩) (by assumption) ?_
        rotate_left
        · intro w hSw; (try dsimp only at hSw); go_simp; try with_reducible rfl
        try simp only [Act.put, List.setIfInBounds_toArray, List.set_cons_zero, List.set_cons_succ]
        refine wpAnyH_take (i := 9) (oi := ⟨some 17, _, _, _, _, _⟩) (v := ?_) rfl (by kernel_rfl) (by kernel_rfl) (by kernel_rfl) (fun _ _ _ h => h) (Or.inl ⟨by rfl, ?_⟩) (by assumption) ?_
        rotate_left
        · intro w hSw; (try dsimp only at hSw); go_simp; try with_reducible rfl
        try simp only [Act.put, List.setIfInBounds_toArray, List.set_cons_zero, List.set_cons_succ]
        refine wpAnyH_ready (rs := [11]) (by kernel_rfl) (by simp) ?_
        refine AllReadyH.cons (o := ⟨some 7, _, _, _, _, _⟩) rfl (fun KK hKK => ?_) AllReadyH.nil
        go_simp
        (try go_wp2_with fail)
        refine hKK.out _ _ (by first | (go_keep; done) | ((repeat' apply And.intro) <;> go_simp)) (fun hHeld => ?_)
        clear hKK KK
        try simp only [Act.put, List.setIfInBounds_toArray, List.set_cons_zero, List.set_cons_succ]
        refine wpAnyH_ready (rs := [12]) (by kernel_rfl) (by simp) ?_
        refine AllReadyH.cons (o := ⟨none, _, _, _, _, _⟩) rfl (fun KK hKK => ?_) AllReadyH.nil
        go_simp
        (try go_wp2_with fail)
        refine hKK.out _ _ (by first | (go_keep; done) | ((repeat' apply And.intro) <;> go_simp)) (fun hHeld => ?_)
        clear hKK KK
        try simp only [Act.put, List.setIfInBounds_toArray, List.set_cons_zero, List.set_cons_succ]
        refine wpAnyH_ready (rs := [13]) (by kernel_rfl) (by simp) ?_
        refine AllReadyH.cons (o := ⟨none, _, _, _, _, _⟩) rfl (fun KK hKK => ?_) AllReadyH.nil
        go_simp
        (try go_wp2_with fail)
        refine hKK.out _ _ (by first | (go_keep; done) | ((repeat' apply And.intro) <;> go_simp)) (fun hHeld => ?_)
        clear hKK KK
        try simp only [Act.put, List.setIfInBounds_toArray, List.set_cons_zero, List.set_cons_succ]
        refine wpAnyH_done (by kernel_rfl) ?_ _
        (try dsimp only [Exit.then, Met])
        go_wp2_with fail
        go_meet
        refine ⟨_, _, rfl, rfl, by first | omega | (simp; omega), by first | omega | (simp; omega), ?_, ?_, ?_, ?_, ?_, ?_, ?_, ?_, ?_, ?_, ?_, ?_, ?_, ?_, ?_, ?_, ?_, ?_, ?_, ?_, ?_, ?_, ?_, (by repeat (first | with_reducible exact Below.refl _ _ | with_reducible assumption | with_reducible refine Below.setCell ?_ (by first | omega | (simp <;> omega)) _ | with_reducible refine balloc ?_ _ | with_reducible refine Below.drew ?_ | with_reducible refine bstep ?_ (by with_reducible assumption)))⟩
        all_goals first | (with_reducible assumption) | go_simp
       ·go_simp
        (try go_wp2_with fail)
        refine hKK.out _ _ (by first | (go_keep; done) | ((repeat' apply And.intro) <;> go_simp)) (fun hHeld => ?_)
        clear hKK KK
        try simp only [Act.put, List.setIfInBounds_toArray, List.set_cons_zero, List.set_cons_succ]
        refine wpAnyH_ready (rs := [6]) (by kernel_rfl) (by simp) ?_
        refine AllReadyH.cons (o := ⟨some 15, _, _, _, _, _⟩) rfl (fun KK hKK => ?_) AllReadyH.nil
        go_simp
        refine Calls.mono (C1 _) ?_
        rintro e wt3 ⟨rfl, hb⟩
        replace km0 := cell_later hb (cell_al _ km0)
        replace km1 := cell_later hb (cell_al _ km1)
        replace km2 := cell_later hb (cell_al _ km2)
        replace km3 := cell_later hb (cell_al _ km3)
        replace km4 := cell_later hb (cell_al _ km4)
        replace km5 := cell_later hb (cell_al _ km5)
        replace km6 := cell_later hb (cell_al _ km6)
        replace kb0 := cell_later hb (cell_al _ kb0)
        replace kb1 := cell_later hb (cell_al _ kb1)
        replace kb2 := cell_later hb (cell_al _ kb2)
        replace kb3 := cell_later hb (cell_al _ kb3)
        replace jr0 := fro_later hb (cell_al _ kr0) (fro_al jr0)
        replace kr0 := cell_later hb (cell_al _ kr0)
        replace jr1 := fro_later hb (cell_al _ kr1) (fro_al jr1)
        replace kr1 := cell_later hb (cell_al _ kr1)
        replace jr2 := fro_later hb (cell_al _ kr2) (fro_al jr2)
        replace kr2 := cell_later hb (cell_al _ kr2)
        replace jr3 := fro_later hb (cell_al _ kr3) (fro_al jr3)
        replace kr3 := cell_later hb (cell_al _ kr3)
        replace jx0 := fro_later hb (cell_al _ kx0) (fro_al jx0)
        replace kx0 := cell_later hb (cell_al _ kx0)
        replace jx1 := fro_later hb (cell_al _ kx1) (fro_al jx1)
        replace kx1 := cell_later hb (cell_al _ kx1)
        have ky0 : wt3.cell? ⟨wt2.heap.size, 0, none⟩ = some (.int .i64 0) := cell_later hb (by go_simp)
        have jy0 : wt3.frozen? ⟨wt2.heap.size, 0, none⟩ = false := by rw [(bcell hb).2 _ _ (by first | omega | (simp <;> omega))]; go_simp
        have ky1 : wt3.cell? ⟨wt2.heap.size, 1, none⟩ = some (.int .i64 0) := cell_later hb (by go_simp)
        have jy1 : wt3.frozen? ⟨wt2.heap.size, 1, none⟩ = false := by rw [(bcell hb).2 _ _ (by first | omega | (simp <;> omega))]; go_simp
        replace zm : w.heap.size < wt3.heap.size := World.block_lt_of_cell? _ _ km0
        replace zb : w.heap.size + 1 < wt3.heap.size := World.block_lt_of_cell? _ _ kb0
        replace zr : w.heap.size + 1 + 1 < wt3.heap.size := World.block_lt_of_cell? _ _ kr0
        have zr_wt3 := zr
        replace zx : w.heap.size + 1 + 1 + 1 < wt3.heap.size := World.block_lt_of_cell? _ _ kx0
        have zx_wt3 := zx
        have zy : wt2.heap.size < wt3.heap.size := World.block_lt_of_cell? _ _ ky0
        have zy_wt3 := zy
        replace hb0 : Below w.heap.size w wt3 := (by repeat (first | with_reducible exact Below.refl _ _ | with_reducible assumption | with_reducible refine Below.setCell ?_ (by first | omega | (simp <;> omega)) _ | with_reducible refine balloc ?_ _ | with_reducible refine Below.drew ?_ | with_reducible refine bstep ?_ (by with_reducible assumption)))
        clear hb
        (try go_wp2_with fail)
        refine hKK.out _ _ (by first | (go_keep; done) | ((repeat' apply And.intro) <;> go_simp)) (fun hHeld => ?_)
        clear hKK KK
        try simp only [Act.put, List.setIfInBounds_toArray, List.set_cons_zero, List.set_cons_succ]
        refine wpAnyH_take (i := 7) (oi := ⟨some 8, _, _, _, _, _⟩) (v := ?_) rfl (by kernel_rfl) (by kernel_rfl) (by kernel_rfl) (fun _ _ _ h => h) (Or.inl ⟨by rfl, ?_⟩) (by assumption) ?_
        rotate_left
        · intro w hSw; (try dsimp only at hSw); go_simp; try with_reducible rfl
        try simp only [Act.put, List.setIfInBounds_toArray, List.set_cons_zero, List.set_cons_succ]
        refine wpAnyH_take (i := 8) (oi := ⟨some 16, _, _, _, _, _⟩) (v := ?_) rfl (by kernel_rfl) (by kernel_rfl) (by kernel_rfl) (fun _ _ _ h => h) (Or.inl ⟨by rfl, ?_⟩) (by assumption) ?_
        rotate_left
        · intro w hSw; (try dsimp only at hSw); go_simp; try with_reducible rfl
        try simp only [Act.put, List.setIfInBounds_toArray, List.set_cons_zero, List.set_cons_succ]
        refine wpAnyH_take (i := 9) (oi := ⟨some 17, _, _, _, _, _⟩) (v := ?_) rfl (by kernel_rfl) (by kernel_rfl) (by kernel_rfl) (fun _ _ _ h => h) (Or.inl ⟨by rfl, ?_⟩) (by assumption) ?_
        rotate_left
        · intro w hSw; (try dsimp only at hSw); go_simp; try with_reducible rfl
        try simp only [Act.put, List.setIfInBounds_toArray, List.set_cons_zero, List.set_cons_succ]
        refine wpAnyH_ready (rs := [12]) (by kernel_rfl) (by simp) ?_
        refine AllReadyH.cons (o := ⟨none, _, _, _, _, _⟩) rfl (fun KK hKK => ?_) AllReadyH.nil
        go_simp
        (try go_wp2_with fail)
        refine hKK.out _ _ (by first | (go_keep; done) | ((repeat' apply And.intro) <;> go_simp)) (fun hHeld => ?_)
        clear hKK KK
        try simp only [Act.put, List.setIfInBounds_toArray, List.set_cons_zero, List.set_cons_succ]
        refine wpAnyH_ready (rs := [13]) (by kernel_rfl) (by simp) ?_
        refine AllReadyH.cons (o := ⟨none, _, _, _, _, _⟩) rfl (fun KK hKK => ?_) AllReadyH.nil
        go_simp
        (try go_wp2_with fail)
        refine hKK.out _ _ (by first | (go_keep; done) | ((repeat' apply And.intro) <;> go_simp)) (fun hHeld => ?_)
        clear hKK KK
        try simp only [Act.put, List.setIfInBounds_toArray, List.set_cons_zero, List.set_cons_succ]
        refine wpAnyH_done (by kernel_rfl) ?_ _
        (try dsimp only [Exit.then, Met])
        go_wp2_with fail
        go_meet
        refine ⟨_, _, rfl, rfl, by first | omega | (simp; omega), by first | omega | (simp; omega), ?_, ?_, ?_, ?_, ?_, ?_, ?_, ?_, ?_, ?_, ?_, ?_, ?_, ?_, ?_, ?_, ?_, ?_, ?_, ?_, ?_, ?_, ?_, (by repeat (first | with_reducible exact Below.refl _ _ | with_reducible assumption | with_reducible refine Below.setCell ?_ (by first | omega | (simp <;> omega)) _ | with_reducible refine balloc ?_ _ | with_reducible refine Below.drew ?_ | with_reducible refine bstep ?_ (by with_reducible assumption)))⟩
        all_goals first | (with_reducible assumption) | go_simp
      ·go_simp
       (try go_wp2_with fail)
       refine hKK.out _ _ (by first | (go_keep; done) | ((repeat' apply And.intro) <;> go_simp)) (fun hHeld => ?_)
       clear hKK KK
       try simp only [Act.put, List.setIfInBounds_toArray, List.set_cons_zero, List.set_cons_succ]
       refine wpAnyH_ready (rs := [5]) (by kernel_rfl) (by simp) ?_
       refine AllReadyH.cons (o := ⟨some 14, _, _, _, _, _⟩) rfl (fun KK hKK => ?_) AllReadyH.nil
       go_simp
       refine Calls.mono (U1 _) ?_
       rintro e wt2 ⟨rfl, hb⟩
       replace km0 := cell_later hb (cell_al _ km0)
       replace km1 := cell_later hb (cell_al _ km1)
       replace km2 := cell_later hb (cell_al _ km2)
       replace km3 := cell_later hb (cell_al _ km3)
       replace km4 := cell_later hb (cell_al _ km4)
       replace km5 := cell_later hb (cell_al _ km5)
       replace km6 := cell_later hb (cell_al _ km6)
       replace kb0 := cell_later hb (cell_al _ kb0)
       replace kb1 := cell_later hb (cell_al _ kb1)
       replace kb2 := cell_later hb (cell_al _ kb2)
       replace kb3 := cell_later hb (cell_al _ kb3)
       replace jr0 := fro_later hb (cell_al _ kr0) (fro_al jr0)
       replace kr0 := cell_later hb (cell_al _ kr0)
       replace jr1 := fro_later hb (cell_al _ kr1) (fro_al jr1)
       replace kr1 := cell_later hb (cell_al _ kr1)
       replace jr2 := fro_later hb (cell_al _ kr2) (fro_al jr2)
       replace kr2 := cell_later hb (cell_al _ kr2)
       replace jr3 := fro_later hb (cell_al _ kr3) (fro_al jr3)
       replace kr3 := cell_later hb (cell_al _ kr3)
       replace jx0 := fro_later hb (cell_al _ kx0) (fro_al jx0)
       replace kx0 := cell_later hb (cell_al _ kx0)
       replace jx1 := fro_later hb (cell_al _ kx1) (fro_al jx1)
       replace kx1 := cell_later hb (cell_al _ kx1)
       have ky0 : wt2.cell? ⟨wt1.heap.size, 0, none⟩ = some (.int .i64 0) := cell_later hb (by go_simp)
       have jy0 : wt2.frozen? ⟨wt1.heap.size, 0, none⟩ = false := by rw [(bcell hb).2 _ _ (by first | omega | (simp <;> omega))]; go_simp
       have ky1 : wt2.cell? ⟨wt1.heap.size, 1, none⟩ = some (.int .i64 0) := cell_later hb (by go_simp)
       have jy1 : wt2.frozen? ⟨wt1.heap.size, 1, none⟩ = false := by rw [(bcell hb).2 _ _ (by first | omega | (simp <;> omega))]; go_simp
       replace zm : w.heap.size < wt2.heap.size := World.block_lt_of_cell? _ _ km0
       replace zb : w.heap.size + 1 < wt2.heap.size := World.block_lt_of_cell? _ _ kb0
       replace zr : w.heap.size + 1 + 1 < wt2.heap.size := World.block_lt_of_cell? _ _ kr0
       have zr_wt2 := zr
       replace zx : w.heap.size + 1 + 1 + 1 < wt2.heap.size := World.block_lt_of_cell? _ _ kx0
       have zx_wt2 := zx
       have zy : wt1.heap.size < wt2.heap.size := World.block_lt_of_cell? _ _ ky0
       have zy_wt2 := zy
       replace hb0 : Below w.heap.size w wt2 := (by repeat (first | with_reducible exact Below.refl _ _ | with_reducible assumption | with_reducible refine Below.setCell ?_ (by first | omega | (simp <;> omega)) _ | with_reducible refine balloc ?_ _ | with_reducible refine Below.drew ?_ | with_reducible refine bstep ?_ (by with_reducible assumption)))
       clear hb
       (try go_wp2_with fail)
       refine hKK.out _ _ (by first | (go_keep; done) | ((repeat' apply And.intro) <;> go_simp)) (fun hHeld => ?_)
       clear hKK KK
       try simp only [Act.put, List.setIfInBounds_toArray, List.set_cons_zero, List.set_cons_succ]
       refine wpAnyH_ready (rs := [6]) (by kernel_rfl) (by simp) ?_
       refine AllReadyH.cons (o := ⟨some 15, _, _, _, _, _⟩) rfl (fun KK hKK => ?_) AllReadyH.nil
       go_simp
       refine Calls.mono (C1 _) ?_
       rintro e wt3 ⟨rfl, hb⟩
       replace km0 := cell_later hb km0
       replace km1 := cell_later hb km1
       replace km2 := cell_later hb km2
       replace km3 := cell_later hb km3
       replace km4 := cell_later hb km4
       replace km5 := cell_later hb km5
       replace km6 := cell_later hb km6
       replace kb0 := cell_later hb kb0
       replace kb1 := cell_later hb kb1
       replace kb2 := cell_later hb kb2
       replace kb3 := cell_later hb kb3
       replace jr0 := fro_later hb kr0 jr0
       replace kr0 := cell_later hb kr0
       replace jr1 := fro_later hb kr1 jr1
       replace kr1 := cell_later hb kr1
       replace jr2 := fro_later hb kr2 jr2
       replace kr2 := cell_later hb kr2
       replace jr3 := fro_later hb kr3 jr3
       replace kr3 := cell_later hb kr3
       replace jx0 := fro_later hb kx0 jx0
       replace kx0 := cell_later hb kx0
       replace jx1 := fro_later hb kx1 jx1
       replace kx1 := cell_later hb kx1
       replace jy0 := fro_later hb ky0 jy0
       replace ky0 := cell_later hb ky0
       replace jy1 := fro_later hb ky1 jy1
       replace ky1 := cell_later hb ky1
       replace zm : w.heap.size < wt3.heap.size := World.block_lt_of_cell? _ _ km0
       replace zb : w.heap.size + 1 < wt3.heap.size := World.block_lt_of_cell? _ _ kb0
       replace zr : w.heap.size + 1 + 1 < wt3.heap.size := World.block_lt_of_cell? _ _ kr0
       have zr_wt3 := zr
       replace zx : w.heap.size + 1 + 1 + 1 < wt3.heap.size := World.block_lt_of_cell? _ _ kx0
       have zx_wt3 := zx
       replace zy : wt1.heap.size < wt3.heap.size := World.block_lt_of_cell? _ _ ky0
       have zy_wt3 := zy
       replace hb0 : Below w.heap.size w wt3 := (by repeat (first | with_reducible exact Below.refl _ _ | with_reducible assumption | with_reducible refine Below.setCell ?_ (by first | omega | (simp <;> omega)) _ | with_reducible refine balloc ?_ _ | with_reducible refine Below.drew ?_ | with_reducible refine bstep ?_ (by with_reducible assumption)))
       clear hb
       (try go_wp2_with fail)
       refine hKK.out _ _ (by first | (go_keep; done) | ((repeat' apply And.intro) <;> go_simp)) (fun hHeld => ?_)
       clear hKK KK
       try simp only [Act.put, List.setIfInBounds_toArray, List.set_cons_zero, List.set_cons_succ]
       refine wpAnyH_take (i := 7) (oi := ⟨some 8, _, _, _, _, _⟩) (v := ?_) rfl (by kernel_rfl) (by kernel_rfl) (by kernel_rfl) (fun _ _ _ h => h) (Or.inl ⟨by rfl, ?_⟩) (by assumption) ?_
       rotate_left
       · intro w hSw; (try dsimp only at hSw); go_simp; try with_reducible rfl
       try simp only [Act.put, List.setIfInBounds_toArray, List.set_cons_zero, List.set_cons_succ]
       refine wpAnyH_take (i := 8) (oi := ⟨some 16, _, _, _, _, _⟩) (v := ?_) rfl (by kernel_rfl) (by kernel_rfl) (by kernel_rfl) (fun _ _ _ h => h) (Or.inl ⟨by rfl, ?_⟩) (by assumption) ?_
       rotate_left
       · intro w hSw; (try dsimp only at hSw); go_simp; try with_reducible rfl
       try simp only [Act.put, List.setIfInBounds_toArray, List.set_cons_zero, List.set_cons_succ]
       refine wpAnyH_take (i := 9) (oi := ⟨some 17, _, _, _, _, _⟩) (v := ?_) rfl (by kernel_rfl) (by kernel_rfl) (by kernel_rfl) (fun _ _ _ h => h) (Or.inl ⟨by rfl, ?_⟩) (by assumption) ?_
       rotate_left
       · intro w hSw; (try dsimp only at hSw); go_simp; try with_reducible rfl
       try simp only [Act.put, List.setIfInBounds_toArray, List.set_cons_zero, List.set_cons_succ]
       refine wpAnyH_ready (rs := [12]) (by kernel_rfl) (by simp) ?_
       refine AllReadyH.cons (o := ⟨none, _, _, _, _, _⟩) rfl (fun KK hKK => ?_) AllReadyH.nil
       go_simp
       (try go_wp2_with fail)
       refine hKK.out _ _ (by first | (go_keep; done) | ((repeat' apply And.intro) <;> go_simp)) (fun hHeld => ?_)
       clear hKK KK
       try simp only [Act.put, List.setIfInBounds_toArray, List.set_cons_zero, List.set_cons_succ]
       refine wpAnyH_ready (rs := [13]) (by kernel_rfl) (by simp) ?_
       refine AllReadyH.cons (o := ⟨none, _, _, _, _, _⟩) rfl (fun KK hKK => ?_) AllReadyH.nil
       go_simp
       (try go_wp2_with fail)
       refine hKK.out _ _ (by first | (go_keep; done) | ((repeat' apply And.intro) <;> go_simp)) (fun hHeld => ?_)
       clear hKK KK
       try simp only [Act.put, List.setIfInBounds_toArray, List.set_cons_zero, List.set_cons_succ]
       refine wpAnyH_done (by kernel_rfl) ?_ _
       (try dsimp only [Exit.then, Met])
       go_wp2_with fail
       go_meet
       refine ⟨_, _, rfl, rfl, by first | omega | (simp; omega), by first | omega | (simp; omega), ?_, ?_, ?_, ?_, ?_, ?_, ?_, ?_, ?_, ?_, ?_, ?_, ?_, ?_, ?_, ?_, ?_, ?_, ?_, ?_, ?_, ?_, ?_, (by repeat (first | with_reducible exact Below.refl _ _ | with_reducible assumption | with_reducible refine Below.setCell ?_ (by first | omega | (simp <;> omega)) _ | with_reducible refine balloc ?_ _ | with_reducible refine Below.drew ?_ | with_reducible refine bstep ?_ (by with_reducible assumption)))⟩
       all_goals first | (with_reducible assumption) | go_simp
     ·go_simp
      (try go_wp2_with fail)
      refine hKK.out _ _ (by first | (go_keep; done) | ((repeat' apply And.intro) <;> go_simp)) (fun hHeld => ?_)
      clear hKK KK
      try simp only [Act.put, List.setIfInBounds_toArray, List.set_cons_zero, List.set_cons_succ]
      refine wpAnyH_ready (rs := [2]) (by kernel_rfl) (by simp) ?_
      refine AllReadyH.cons (o := ⟨some 11, _, _, _, _, _⟩) rfl (fun KK hKK => ?_) AllReadyH.nil
      go_simp
      refine Calls.mono (T1 _) ?_
      rintro e wt1 ⟨rfl, hb⟩
      have km0 : wt1.cell? ⟨w.heap.size, 0, none⟩ = some (.int .i64 m1) := cell_later hb (by go_simp)
      have km1 : wt1.cell? ⟨w.heap.size, 1, none⟩ = some (.int .i64 m2) := cell_later hb (by go_simp)
      have km2 : wt1.cell? ⟨w.heap.size, 2, none⟩ = some (.int .i64 m3) := cell_later hb (by go_simp)
      have km3 : wt1.cell? ⟨w.heap.size, 3, none⟩ = some (.int .i64 m4) := cell_later hb (by go_simp)
      have km4 : wt1.cell? ⟨w.heap.size, 4, none⟩ = some (.int .i64 m5) := cell_later hb (by go_simp)
      have km5 : wt1.cell? ⟨w.heap.size, 5, none⟩ = some (.int .i64 m6) := cell_later hb (by go_simp)
      have km6 : wt1.cell? ⟨w.heap.size, 6, none⟩ = some (.int .i64 m7) := cell_later hb (by go_simp)
      have kb0 : wt1.cell? ⟨w.heap.size + 1, 0, none⟩ = some (.int .i64 b1) := cell_later hb (by go_simp)
      have kb1 : wt1.cell? ⟨w.heap.size + 1, 1, none⟩ = some (.int .i64 b2) := cell_later hb (by go_simp)
      have kb2 : wt1.cell? ⟨w.heap.size + 1, 2, none⟩ = some (.int .i64 b3) := cell_later hb (by go_simp)
      have kb3 : wt1.cell? ⟨w.heap.size + 1, 3, none⟩ = some (.int .i64 b4) := cell_later hb (by go_simp)
      have kr0 : wt1.cell? ⟨w.heap.size + 1 + 1, 0, none⟩ = some (.int .i64 0) := cell_later hb (by go_simp)
      have jr0 : wt1.frozen? ⟨w.heap.size + 1 + 1, 0, none⟩ = false := by rw [(bcell hb).2 _ _ (by first | omega | (simp <;> omega))]; go_simp
      have kr1 : wt1.cell? ⟨w.heap.size + 1 + 1, 1, none⟩ = some (.int .i64 0) := cell_later hb (by go_simp)
      have jr1 : wt1.frozen? ⟨w.heap.size + 1 + 1, 1, none⟩ = false := by rw [(bcell hb).2 _ _ (by first | omega | (simp <;> omega))]; go_simp
      have kr2 : wt1.cell? ⟨w.heap.size + 1 + 1, 2, none⟩ = some (.int .i64 0) := cell_later hb (by go_simp)
      have jr2 : wt1.frozen? ⟨w.heap.size + 1 + 1, 2, none⟩ = false := by rw [(bcell hb).2 _ _ (by first | omega | (simp <;> omega))]; go_simp
      have kr3 : wt1.cell? ⟨w.heap.size + 1 + 1, 3, none⟩ = some (.int .i64 0) := cell_later hb (by go_simp)
      have jr3 : wt1.frozen? ⟨w.heap.size + 1 + 1, 3, none⟩ = false := by rw [(bcell hb).2 _ _ (by first | omega | (simp <;> omega))]; go_simp
      have kx0 : wt1.cell? ⟨w.heap.size + 1 + 1 + 1, 0, none⟩ = some (.int .i64 0) := cell_later hb (by go_simp)
      have jx0 : wt1.frozen? ⟨w.heap.size + 1 + 1 + 1, 0, none⟩ = false := by rw [(bcell hb).2 _ _ (by first | omega | (simp <;> omega))]; go_simp
      have kx1 : wt1.cell? ⟨w.heap.size + 1 + 1 + 1, 1, none⟩ = some (.int .i64 0) := cell_later hb (by go_simp)
      have jx1 : wt1.frozen? ⟨w.heap.size + 1 + 1 + 1, 1, none⟩ = false := by rw [(bcell hb).2 _ _ (by first | omega | (simp <;> omega))]; go_simp
      have ky0 : wt1.cell? ⟨w.heap.size + 1 + 1 + 1 + 1, 0, none⟩ = some (.int .i64 0) := cell_later hb (by go_simp)
      have jy0 : wt1.frozen? ⟨w.heap.size + 1 + 1 + 1 + 1, 0, none⟩ = false := by rw [(bcell hb).2 _ _ (by first | omega | (simp <;> omega))]; go_simp
      have ky1 : wt1.cell? ⟨w.heap.size + 1 + 1 + 1 + 1, 1, none⟩ = some (.int .i64 0) := cell_later hb (by go_simp)
      have jy1 : wt1.frozen? ⟨w.heap.size + 1 + 1 + 1 + 1, 1, none⟩ = false := by rw [(bcell hb).2 _ _ (by first | omega | (simp <;> omega))]; go_simp
      have zm : w.heap.size < wt1.heap.size := World.block_lt_of_cell? _ _ km0
      have zb : w.heap.size + 1 < wt1.heap.size := World.block_lt_of_cell? _ _ kb0
      have zr : w.heap.size + 1 + 1 < wt1.heap.size := World.block_lt_of_cell? _ _ kr0
      have zr_wt1 := zr
      have zx : w.heap.size + 1 + 1 + 1 < wt1.heap.size := World.block_lt_of_cell? _ _ kx0
      have zx_wt1 := zx
      have zy : w.heap.size + 1 + 1 + 1 + 1 < wt1.heap.size := World.block_lt_of_cell? _ _ ky0
      have zy_wt1 := zy
      have hb0 : Below w.heap.size w wt1 := (by repeat (first | with_reducible exact Below.refl _ _ | with_reducible assumption | with_reducible refine Below.setCell ?_ (by first | omega | (simp <;> omega)) _ | with_reducible refine balloc ?_ _ | with_reducible refine Below.drew ?_ | with_reducible refine bstep ?_ (by with_reducible assumption)))
      clear hb
      (try go_wp2_with fail)
      refine hKK.out _ _ (by first | (go_keep; done) | ((repeat' apply And.intro) <;> go_simp)) (fun hHeld => ?_)
      clear hKK KK
      try simp only [Act.put, List.setIfInBounds_toArray, List.set_cons_zero, List.set_cons_succ]
      refine wpAnyH_ready (rs := [5]) (by kernel_rfl) (by simp) ?_
      refine AllReadyH.cons (o := ⟨some 14, _, _, _, _, _⟩) rfl (fun KK hKK => ?_) AllReadyH.nil
      go_simp
      refine Calls.mono (U1 _) ?_
      rintro e wt2 ⟨rfl, hb⟩
      replace km0 := cell_later hb km0
      replace km1 := cell_later hb km1
      replace km2 := cell_later hb km2
      replace km3 := cell_later hb km3
      replace km4 := cell_later hb km4
      replace km5 := cell_later hb km5
      replace km6 := cell_later hb km6
      replace kb0 := cell_later hb kb0
      replace kb1 := cell_later hb kb1
      replace kb2 := cell_later hb kb2
      replace kb3 := cell_later hb kb3
      replace jr0 := fro_later hb kr0 jr0
      replace kr0 := cell_later hb kr0
      replace jr1 := fro_later hb kr1 jr1
      replace kr1 := cell_later hb kr1
      replace jr2 := fro_later hb kr2 jr2
      replace kr2 := cell_later hb kr2
      replace jr3 := fro_later hb kr3 jr3
      replace kr3 := cell_later hb kr3
      replace jx0 := fro_later hb kx0 jx0
      replace kx0 := cell_later hb kx0
      replace jx1 := fro_later hb kx1 jx1
      replace kx1 := cell_later hb kx1
      replace jy0 := fro_later hb ky0 jy0
      replace ky0 := cell_later hb ky0
      replace jy1 := fro_later hb ky1 jy1
      replace ky1 := cell_later hb ky1
      replace zm : w.heap.size < wt2.heap.size := World.block_lt_of_cell? _ _ km0
      replace zb : w.heap.size + 1 < wt2.heap.size := World.block_lt_of_cell? _ _ kb0
      replace zr : w.heap.size + 1 + 1 < wt2.heap.size := World.block_lt_of_cell? _ _ kr0
      have zr_wt2 := zr
      replace zx : w.heap.size + 1 + 1 + 1 < wt2.heap.size := World.block_lt_of_cell? _ _ kx0
      have zx_wt2 := zx
      replace zy : w.heap.size + 1 + 1 + 1 + 1 < wt2.heap.size := World.block_lt_of_cell? _ _ ky0
      have zy_wt2 := zy
      replace hb0 : Below w.heap.size w wt2 := (by repeat (first | with_reducible exact Below.refl _ _ | with_reducible assumption | with_reducible refine Below.setCell ?_ (by first | omega | (simp <;> omega)) _ | with_reducible refine balloc ?_ _ | with_reducible refine Below.drew ?_ | with_reducible refine bstep ?_ (by with_reducible assumption)))
      clear hb
      (try go_wp2_with fail)
      refine hKK.out _ _ (by first | (go_keep; done) | ((repeat' apply And.intro) <;> go_simp)) (fun hHeld => ?_)
      clear hKK KK
      try simp only [Act.put, List.setIfInBounds_toArray, List.set_cons_zero, List.set_cons_succ]
      refine wpAnyH_ready (rs := [6]) (by kernel_rfl) (by simp) ?_
      refine AllReadyH.cons (o := ⟨some 15, _, _, _, _, _⟩) rfl (fun KK hKK => ?_) AllReadyH.nil
      go_simp
      refine Calls.mono (C1 _) ?_
      rintro e wt3 ⟨rfl, hb⟩
      replace km0 := cell_later hb km0
      replace km1 := cell_later hb km1
      replace km2 := cell_later hb km2
      replace km3 := cell_later hb km3
      replace km4 := cell_later hb km4
      replace km5 := cell_later hb km5
      replace km6 := cell_later hb km6
      replace kb0 := cell_later hb kb0
      replace kb1 := cell_later hb kb1
      replace kb2 := cell_later hb kb2
      replace kb3 := cell_later hb kb3
      replace jr0 := fro_later hb kr0 jr0
      replace kr0 := cell_later hb kr0
      replace jr1 := fro_later hb kr1 jr1
      replace kr1 := cell_later hb kr1
      replace jr2 := fro_later hb kr2 jr2
      replace kr2 := cell_later hb kr2
      replace jr3 := fro_later hb kr3 jr3
      replace kr3 := cell_later hb kr3
      replace jx0 := fro_later hb kx0 jx0
      replace kx0 := cell_later hb kx0
      replace jx1 := fro_later hb kx1 jx1
      replace kx1 := cell_later hb kx1
      replace jy0 := fro_later hb ky0 jy0
      replace ky0 := cell_later hb ky0
      replace jy1 := fro_later hb ky1 jy1
      replace ky1 := cell_later hb ky1
      replace zm : w.heap.size < wt3.heap.size := World.block_lt_of_cell? _ _ km0
      replace zb : w.heap.size + 1 < wt3.heap.size := World.block_lt_of_cell? _ _ kb0
      replace zr : w.heap.size + 1 + 1 < wt3.heap.size := World.block_lt_of_cell? _ _ kr0
      have zr_wt3 := zr
      replace zx : w.heap.size + 1 + 1 + 1 < wt3.heap.size := World.block_lt_of_cell? _ _ kx0
      have zx_wt3 := zx
      replace zy : w.heap.size + 1 + 1 + 1 + 1 < wt3.heap.size := World.block_lt_of_cell? _ _ ky0
      have zy_wt3 := zy
      replace hb0 : Below w.heap.size w wt3 := (by repeat (first | with_reducible exact Below.refl _ _ | with_reducible assumption | with_reducible refine Below.setCell ?_ (by first | omega | (simp <;> omega)) _ | with_reducible refine balloc ?_ _ | with_reducible refine Below.drew ?_ | with_reducible refine bstep ?_ (by with_reducible assumption)))
      clear hb
      (try go_wp2_with fail)
      refine hKK.out _ _ (by first | (go_keep; done) | ((repeat' apply And.intro) <;> go_simp)) (fun hHeld => ?_)
      clear hKK KK
      try simp only [Act.put, List.setIfInBounds_toArray, List.set_cons_zero, List.set_cons_succ]
      refine wpAnyH_take (i := 7) (oi := ⟨some 8, _, _, _, _, _⟩) (v := ?_) rfl (by kernel_rfl) (by kernel_rfl) (by kernel_rfl) (fun _ _ _ h => h) (Or.inl ⟨by rfl, ?_⟩) (by assumption) ?_
      rotate_left
      · intro w hSw; (try dsimp only at hSw); go_simp; try with_reducible rfl
      try simp only [Act.put, List.setIfInBounds_toArray, List.set_cons_zero, List.set_cons_succ]
      refine wpAnyH_take (i := 8) (oi := ⟨some 16, _, _, _, _, _⟩) (v := ?_) rfl (by kernel_rfl) (by kernel_rfl) (by kernel_rfl) (fun _ _ _ h => h) (Or.inl ⟨by rfl, ?_⟩) (by assumption) ?_
      rotate_left
      · intro w hSw; (try dsimp only at hSw); go_simp; try with_reducible rfl
      try simp only [Act.put, List.setIfInBounds_toArray, List.set_cons_zero, List.set_cons_succ]
      refine wpAnyH_take (i := 9) (oi := ⟨some 17, _, _, _, _, _⟩) (v := ?_) rfl (by kernel_rfl) (by kernel_rfl) (by kernel_rfl) (fun _ _ _ h => h) (Or.inl ⟨by rfl, ?_⟩) (by assumption) ?_
      rotate_left
      · intro w hSw; (try dsimp only at hSw); go_simp; try with_reducible rfl
      try simp only [Act.put, List.setIfInBounds_toArray, List.set_cons_zero, List.set_cons_succ]
      refine wpAnyH_ready (rs := [12]) (by kernel_rfl) (by simp) ?_
      refine AllReadyH.cons (o := ⟨none, _, _, _, _, _⟩) rfl (fun KK hKK => ?_) AllReadyH.nil
      go_simp
      (try go_wp2_with fail)
      refine hKK.out _ _ (by first | (go_keep; done) | ((repeat' apply And.intro) <;> go_simp)) (fun hHeld => ?_)
      clear hKK KK
      try simp only [Act.put, List.setIfInBounds_toArray, List.set_cons_zero, List.set_cons_succ]
      refine wpAnyH_ready (rs := [13]) (by kernel_rfl) (by simp) ?_
      refine AllReadyH.cons (o := ⟨none, _, _, _, _, _⟩) rfl (fun KK hKK => ?_) AllReadyH.nil
      go_simp
      (try go_wp2_with fail)
      refine hKK.out _ _ (by first | (go_keep; done) | ((repeat' apply And.intro) <;> go_simp)) (fun hHeld => ?_)
      clear hKK KK
      try simp only [Act.put, List.setIfInBounds_toArray, List.set_cons_zero, List.set_cons_succ]
      refine wpAnyH_done (by kernel_rfl) ?_ _
      (try dsimp only [Exit.then, Met])
      go_wp2_with fail
      go_meet
      refine ⟨_, _, rfl, rfl, by first | omega | (simp; omega), by first | omega | (simp; omega), ?_, ?_, ?_, ?_, ?_, ?_, ?_, ?_, ?_, ?_, ?_, ?_, ?_, ?_, ?_, ?_, ?_, ?_, ?_, ?_, ?_, ?_, ?_, (by repeat (first | with_reducible exact Below.refl _ _ | with_reducible assumption | with_reducible refine Below.setCell ?_ (by first | omega | (simp <;> omega)) _ | with_reducible refine balloc ?_ _ | with_reducible refine Below.drew ?_ | with_reducible refine bstep ?_ (by with_reducible assumption)))⟩
      all_goals first | (with_reducible assumption) | go_simp
    ·go_simp
     (try go_wp2_with fail)
     refine hKK.out _ _ (by first | (go_keep; done) | ((repeat' apply And.intro) <;> go_simp)) (fun hHeld => ?_)
     clear hKK KK
     try simp only [Act.put, List.setIfInBounds_toArray, List.set_cons_zero, List.set_cons_succ]
     refine wpAnyH_ready (rs := [2, 10]) (by kernel_rfl) (by simp) ?_
     refine AllReadyH.cons (o := ⟨some 11, _, _, _, _, _⟩) rfl (fun KK hKK => ?_) (AllReadyH.cons (o := ⟨some 6, _, _, _, _, _⟩) rfl (fun KK hKK => ?_) AllReadyH.nil)
     ·go_simp
      refine Calls.mono (T1 _) ?_
      rintro e wt1 ⟨rfl, hb⟩
      have km0 : wt1.cell? ⟨w.heap.size, 0, none⟩ = some (.int .i64 m1) := cell_later hb (by go_simp)
      have km1 : wt1.cell? ⟨w.heap.size, 1, none⟩ = some (.int .i64 m2) := cell_later hb (by go_simp)
      have km2 : wt1.cell? ⟨w.heap.size, 2, none⟩ = some (.int .i64 m3) := cell_later hb (by go_simp)
      have km3 : wt1.cell? ⟨w.heap.size, 3, none⟩ = some (.int .i64 m4) := cell_later hb (by go_simp)
      have km4 : wt1.cell? ⟨w.heap.size, 4, none⟩ = some (.int .i64 m5) := cell_later hb (by go_simp)
      have km5 : wt1.cell? ⟨w.heap.size, 5, none⟩ = some (.int .i64 m6) := cell_later hb (by go_simp)
      have km6 : wt1.cell? ⟨w.heap.size, 6, none⟩ = some (.int .i64 m7) := cell_later hb (by go_simp)
      have kb0 : wt1.cell? ⟨w.heap.size + 1, 0, none⟩ = some (.int .i64 b1) := cell_later hb (by go_simp)
      have kb1 : wt1.cell? ⟨w.heap.size + 1, 1, none⟩ = some (.int .i64 b2) := cell_later hb (by go_simp)
      have kb2 : wt1.cell? ⟨w.heap.size + 1, 2, none⟩ = some (.int .i64 b3) := cell_later hb (by go_simp)
      have kb3 : wt1.cell? ⟨w.heap.size + 1, 3, none⟩ = some (.int .i64 b4) := cell_later hb (by go_simp)
      have kr0 : wt1.cell? ⟨w.heap.size + 1 + 1, 0, none⟩ = some (.int .i64 0) := cell_later hb (by go_simp)
      have jr0 : wt1.frozen? ⟨w.heap.size + 1 + 1, 0, none⟩ = false := by rw [(bcell hb).2 _ _ (by first | omega | (simp <;> omega))]; go_simp
      have kr1 : wt1.cell? ⟨w.heap.size + 1 + 1, 1, none⟩ = some (.int .i64 0) := cell_later hb (by go_simp)
      have jr1 : wt1.frozen? ⟨w.heap.size + 1 + 1, 1, none⟩ = false := by rw [(bcell hb).2 _ _ (by first | omega | (simp <;> omega))]; go_simp
      have kr2 : wt1.cell? ⟨w.heap.size + 1 + 1, 2, none⟩ = some (.int .i64 0) := cell_later hb (by go_simp)
      have jr2 : wt1.frozen? ⟨w.heap.size + 1 + 1, 2, none⟩ = false := by rw [(bcell hb).2 _ _ (by first | omega | (simp <;> omega))]; go_simp
      have kr3 : wt1.cell? ⟨w.heap.size + 1 + 1, 3, none⟩ = some (.int .i64 0) := cell_later hb (by go_simp)
      have jr3 : wt1.frozen? ⟨w.heap.size + 1 + 1, 3, none⟩ = false := by rw [(bcell hb).2 _ _ (by first | omega | (simp <;> omega))]; go_simp
      have ky0 : wt1.cell? ⟨w.heap.size + 1 + 1 + 1, 0, none⟩ = some (.int .i64 0) := cell_later hb (by go_simp)
      have jy0 : wt1.frozen? ⟨w.heap.size + 1 + 1 + 1, 0, none⟩ = false := by rw [(bcell hb).2 _ _ (by first | omega | (simp <;> omega))]; go_simp
      have ky1 : wt1.cell? ⟨w.heap.size + 1 + 1 + 1, 1, none⟩ = some (.int .i64 0) := cell_later hb (by go_simp)
      have jy1 : wt1.frozen? ⟨w.heap.size + 1 + 1 + 1, 1, none⟩ = false := by rw [(bcell hb).2 _ _ (by first | omega | (simp <;> omega))]; go_simp
      have zm : w.heap.size < wt1.heap.size := World.block_lt_of_cell? _ _ km0
      have zb : w.heap.size + 1 < wt1.heap.size := World.block_lt_of_cell? _ _ kb0
      have zr : w.heap.size + 1 + 1 < wt1.heap.size := World.block_lt_of_cell? _ _ kr0
      have zr_wt1 := zr
      have zy : w.heap.size + 1 + 1 + 1 < wt1.heap.size := World.block_lt_of_cell? _ _ ky0
      have zy_wt1 := zy
      have hb0 : Below w.heap.size w wt1 := (by repeat (first | with_reducible exact Below.refl _ _ | with_reducible assumption | with_reducible refine Below.setCell ?_ (by first | omega | (simp <;> omega)) _ | with_reducible refine balloc ?_ _ | with_reducible refine Below.drew ?_ | with_reducible refine bstep ?_ (by with_reducible assumption)))
      clear hb
      (try go_wp2_with fail)
      refine hKK.out _ _ (by first | (go_keep; done) | ((repeat' apply And.intro) <;> go_simp)) (fun hHeld => ?_)
      clear hKK KK
      try simp only [Act.put, List.setIfInBounds_toArray, List.set_cons_zero, List.set_cons_succ]
      refine wpAnyH_ready (rs := [5, 10]) (by kernel_rfl) (by simp) ?_
      refine AllReadyH.cons (o := ⟨some 14, _, _, _, _, _⟩) rfl (fun KK hKK => ?_) (AllReadyH.cons (o := ⟨some 6, _, _, _, _, _⟩) rfl (fun KK hKK => ?_) AllReadyH.nil)
      ·go_simp
       refine Calls.mono (U1 _) ?_
       rintro e wt2 ⟨rfl, hb⟩
       replace km0 := cell_later hb km0
       replace km1 := cell_later hb km1
       replace km2 := cell_later hb km2
       replace km3 := cell_later hb km3
       replace km4 := cell_later hb km4
       replace km5 := cell_later hb km5
       replace km6 := cell_later hb km6
       replace kb0 := cell_later hb kb0
       replace kb1 := cell_later hb kb1
       replace kb2 := cell_later hb kb2
       replace kb3 := cell_later hb kb3
       replace jr0 := fro_later hb kr0 jr0
       replace kr0 := cell_later hb kr0
       replace jr1 := fro_later hb kr1 jr1
       replace kr1 := cell_later hb kr1
       replace jr2 := fro_later hb kr2 jr2
       replace kr2 := cell_later hb kr2
       replace jr3 := fro_later hb kr3 jr3
       replace kr3 := cell_later hb kr3
       replace jy0 := fro_later hb ky0 jy0
       replace ky0 := cell_later hb ky0
       replace jy1 := fro_later hb ky1 jy1
       replace ky1 := cell_later hb ky1
       replace zm : w.heap.size < wt2.heap.size := World.block_lt_of_cell? _ _ km0
       replace zb : w.heap.size + 1 < wt2.heap.size := World.block_lt_of_cell? _ _ kb0
       replace zr : w.heap.size + 1 + 1 < wt2.heap.size := World.block_lt_of_cell? _ _ kr0
       have zr_wt2 := zr
       replace zy : w.heap.size + 1 + 1 + 1 < wt2.heap.size := World.block_lt_of_cell? _ _ ky0
       have zy_wt2 := zy
       replace hb0 : Below w.heap.size w wt2 := (by repeat (first | with_reducible exact Below.refl _ _ | with_reducible assumption | with_reducible refine Below.setCell ?_ (by first | omega | (simp <;> omega)) _ | with_reducible refine balloc ?_ _ | with_reducible refine Below.drew ?_ | with_reducible refine bstep ?_ (by with_reducible assumption)))
       clear hb
       (try go_wp2_with fail)
       refine hKK.out _ _ (by first | (go_keep; done) | ((repeat' apply And.intro) <;> go_simp)) (fun hHeld => ?_)
       clear hKK KK
       try simp only [Act.put, List.setIfInBounds_toArray, List.set_cons_zero, List.set_cons_succ]
       refine wpAnyH_ready (rs := [6, 10]) (by kernel_rfl) (by simp) ?_
       refine AllReadyH.cons (o := ⟨some 15, _, _, _, _, _⟩) rfl (fun KK hKK => ?_) (AllReadyH.cons (o := ⟨some 6, _, _, _, _, _⟩) rfl (fun KK hKK => ?_) AllReadyH.nil)
       ·go_simp
        refine Calls.mono (C1 _) ?_
        rintro e wt3 ⟨rfl, hb⟩
        replace km0 := cell_later hb km0
        replace km1 := cell_later hb km1
        replace km2 := cell_later hb km2
        replace km3 := cell_later hb km3
        replace km4 := cell_later hb km4
        replace km5 := cell_later hb km5
        replace km6 := cell_later hb km6
        replace kb0 := cell_later hb kb0
        replace kb1 := cell_later hb kb1
        replace kb2 := cell_later hb kb2
        replace kb3 := cell_later hb kb3
        replace jr0 := fro_later hb kr0 jr0
        replace kr0 := cell_later hb kr0
        replace jr1 := fro_later hb kr1 jr1
        replace kr1 := cell_later hb kr1
        replace jr2 := fro_later hb kr2 jr2
        replace kr2 := cell_later hb kr2
        replace jr3 := fro_later hb kr3 jr3
        replace kr3 := cell_later hb kr3
        replace jy0 := fro_later hb ky0 jy0
        replace ky0 := cell_later hb ky0
        replace jy1 := fro_later hb ky1 jy1
        replace ky1 := cell_later hb ky1
        replace zm : w.heap.size < wt3.heap.size := World.block_lt_of_cell? _ _ km0
        replace zb : w.heap.size + 1 < wt3.heap.size := World.block_lt_of_cell? _ _ kb0
        replace zr : w.heap.size + 1 + 1 < wt3.heap.size := World.block_lt_of_cell? _ _ kr0
        have zr_wt3 := zr
        replace zy : w.heap.size + 1 + 1 + 1 < wt3.heap.size := World.block_lt_of_cell? _ _ ky0
        have zy_wt3 := zy
        replace hb0 : Below w.heap.size w wt3 := (by repeat (first | with_reducible exact Below.refl _ _ | with_reducible assumption | with_reducible refine Below.setCell ?_ (by first | omega | (simp <;> omega)) _ | with_reducible refine balloc ?_ _ | with_reducible refine Below.drew ?_ | with_reducible refine bstep ?_ (by with_reducible assumption)))
        clear hb
        (try go_wp2_with fail)
        refine hKK.out _ _ (by first | (go_keep; done) | ((repeat' apply And.intro) <;> go_simp)) (fun hHeld => ?_)
        clear hKK KK
        try simp only [Act.put, List.setIfInBounds_toArray, List.set_cons_zero, List.set_cons_succ]
        refine wpAnyH_take (i := 7) (oi := ⟨some 8, _, _, _, _, _⟩) (v := ?_) rfl (by kernel_rfl) (by kernel_rfl) (by kernel_rfl) (fun _ _ _ h => h) (Or.inl ⟨by rfl, ?_⟩) (by assumption) ?_
        rotate_left
        · intro w hSw; (try dsimp only at hSw); go_simp; try with_reducible rfl
        try simp only [Act.put, List.setIfInBounds_toArray, List.set_cons_zero, List.set_cons_succ]
        refine wpAnyH_take (i := 8) (oi := ⟨some 16, _, _, _, _, _⟩) (v := ?_) rfl (by kernel_rfl) (by kernel_rfl) (by kernel_rfl) (fun _ _ _ h => h) (Or.inl ⟨by rfl, ?_⟩) (by assumption) ?_
        rotate_left
        · intro w hSw; (try dsimp only at hSw); go_simp; try with_reducible rfl
        try simp only [Act.put, List.setIfInBounds_toArray, List.set_cons_zero, List.set_cons_succ]
        refine wpAnyH_take (i := 9) (oi := ⟨some 17, _, _, _, _, _⟩) (v := ?_) rfl (by kernel_rfl) (by kernel_rfl) (by kernel_rfl) (fun _ _ _ h => h) (Or.inl ⟨by rfl, ?_⟩) (by assumption) ?_
        rotate_left
        · intro w hSw; (try dsimp only at hSw); go_simp; try with_reducible rfl
        try simp only [Act.put, List.setIfInBounds_toArray, List.set_cons_zero, List.set_cons_succ]
        refine wpAnyH_ready (rs := [10]) (by kernel_rfl) (by simp) ?_
        refine AllReadyH.cons (o := ⟨some 6, _, _, _, _, _⟩) rfl (fun KK hKK => ?_) AllReadyH.nil
        go_simp
        (try go_wp2_with fail)
        refine hKK.out _ _ (by first | (go_keep; done) | ((repeat' apply And.intro) <;> go_simp)) (fun hHeld => ?_)
        clear hKK KK
        try simp only [Act.put, List.setIfInBounds_toArray, List.set_cons_zero, List.set_cons_succ]
        refine wpAnyH_ready (rs := [12]) (by kernel_rfl) (by simp) ?_
        refine AllReadyH.cons (o := ⟨none, _, _, _, _, _⟩) rfl (fun KK hKK => ?_) AllReadyH.nil
        go_simp
        (try go_wp2_with fail)
        refine hKK.out _ _ (by first | (go_keep; done) | ((repeat' apply And.intro) <;> go_simp)) (fun hHeld => ?_)
        clear hKK KK
        try simp only [Act.put, List.setIfInBounds_toArray, List.set_cons_zero, List.set_cons_succ]
        refine wpAnyH_ready (rs := [13]) (by kernel_rfl) (by simp) ?_
        refine AllReadyH.cons (o := ⟨none, _, _, _, _, _⟩) rfl (fun KK hKK => ?_) AllReadyH.nil
        go_simp
        (try go_wp2_with fail)
        refine hKK.out _ _ (by first | (go_keep; done) | ((repeat' apply And.intro) <;> go_simp)) (fun hHeld => ?_)
        clear hKK KK
        try simp only [Act.put, List.setIfInBounds_toArray, List.set_cons_zero, List.set_cons_succ]
        refine wpAnyH_done (by kernel_rfl) ?_ _
        (try dsimp only [Exit.then, Met])
        go_wp2_with fail
        go_meet
        refine ⟨_, _, rfl, rfl, by first | omega | (simp; omega), by first | omega | (simp; omega), ?_, ?_, ?_, ?_, ?_, ?_, ?_, ?_, ?_, ?_, ?_, ?_, ?_, ?_, ?_, ?_, ?_, ?_, ?_, ?_, ?_, ?_, ?_, (by repeat (first | with_reducible exact Below.refl _ _ | with_reducible assumption | with_reducible refine Below.setCell ?_ (by first | omega | (simp <;> omega)) _ | with_reducible refine balloc ?_ _ | with_reducible refine Below.drew ?_ | with_reducible refine bstep ?_ (by with_reducible assumption)))⟩
        all_goals first | (with_reducible assumption) | go_simp
       ·go_simp
        (try go_wp2_with fail)
        refine hKK.out _ _ (by first | (go_keep; done) | ((repeat' apply And.intro) <;> go_simp)) (fun hHeld => ?_)
        clear hKK KK
        try simp only [Act.put, List.setIfInBounds_toArray, List.set_cons_zero, List.set_cons_succ]
        refine wpAnyH_ready (rs := [6]) (by kernel_rfl) (by simp) ?_
        refine AllReadyH.cons (o := ⟨some 15, _, _, _, _, _⟩) rfl (fun KK hKK => ?_) AllReadyH.nil
        go_simp
        refine Calls.mono (C1 _) ?_
        rintro e wt3 ⟨rfl, hb⟩
        replace km0 := cell_later hb (cell_al _ km0)
        replace km1 := cell_later hb (cell_al _ km1)
        replace km2 := cell_later hb (cell_al _ km2)
        replace km3 := cell_later hb (cell_al _ km3)
        replace km4 := cell_later hb (cell_al _ km4)
        replace km5 := cell_later hb (cell_al _ km5)
        replace km6 := cell_later hb (cell_al _ km6)
        replace kb0 := cell_later hb (cell_al _ kb0)
        replace kb1 := cell_later hb (cell_al _ kb1)
        replace kb2 := cell_later hb (cell_al _ kb2)
        replace kb3 := cell_later hb (cell_al _ kb3)
        replace jr0 := fro_later hb (cell_al _ kr0) (fro_al jr0)
        replace kr0 := cell_later hb (cell_al _ kr0)
        replace jr1 := fro_later hb (cell_al _ kr1) (fro_al jr1)
        replace kr1 := cell_later hb (cell_al _ kr1)
        replace jr2 := fro_later hb (cell_al _ kr2) (fro_al jr2)
        replace kr2 := cell_later hb (cell_al _ kr2)
        replace jr3 := fro_later hb (cell_al _ kr3) (fro_al jr3)
        replace kr3 := cell_later hb (cell_al _ kr3)
        replace jy0 := fro_later hb (cell_al _ ky0) (fro_al jy0)
        replace ky0 := cell_later hb (cell_al _ ky0)
        replace jy1 := fro_later hb (cell_al _ ky1) (fro_al jy1)
        replace ky1 := cell_later hb (cell_al _ ky1)
        have kx0 : wt3.cell? ⟨wt2.heap.size, 0, none⟩ = some (.int .i64 0) := cell_later hb (by go_simp)
        have jx0 : wt3.frozen? ⟨wt2.heap.size, 0, none⟩ = false := by rw [(bcell hb).2 _ _ (by first | omega | (simp <;> omega))]; go_simp
        have kx1 : wt3.cell? ⟨wt2.heap.size, 1, none⟩ = some (.int .i64 0) := cell_later hb (by go_simp)
        have jx1 : wt3.frozen? ⟨wt2.heap.size, 1, none⟩ = false := by rw [(bcell hb).2 _ _ (by first | omega | (simp <;> omega))]; go_simp
        replace zm : w.heap.size < wt3.heap.size := World.block_lt_of_cell? _ _ km0
        replace zb : w.heap.size + 1 < wt3.heap.size := World.block_lt_of_cell? _ _ kb0
        replace zr : w.heap.size + 1 + 1 < wt3.heap.size := World.block_lt_of_cell? _ _ kr0
        have zr_wt3 := zr
        replace zy : w.heap.size + 1 + 1 + 1 < wt3.heap.size := World.block_lt_of_cell? _ _ ky0
        have zy_wt3 := zy
        have zx : wt2.heap.size < wt3.heap.size := World.block_lt_of_cell? _ _ kx0
        have zx_wt3 := zx
        replace hb0 : Below w.heap.size w wt3 := (by repeat (first | with_reducible exact Below.refl _ _ | with_reducible assumption | with_reducible refine Below.setCell ?_ (by first | omega | (simp <;> omega)) _ | with_reducible refine balloc ?_ _ | with_reducible refine Below.drew ?_ | with_reducible refine bstep ?_ (by with_reducible assumption)))
        clear hb
        (try go_wp2_with fail)
        refine hKK.out _ _ (by first | (go_keep; done) | ((repeat' apply And.intro) <;> go_simp)) (fun hHeld => ?_)
        clear hKK KK
        try simp only [Act.put, List.setIfInBounds_toArray, List.set_cons_zero, List.set_cons_succ]
        refine wpAnyH_take (i := 7) (oi := ⟨some 8, _, _, _, _, _⟩) (v := ?_) rfl (by kernel_rfl) (by kernel_rfl) (by kernel_rfl) (fun _ _ _ h => h) (Or.inl ⟨by rfl, ?_⟩) (by assumption) ?_
        rotate_left
        · intro w hSw; (try dsimp only at hSw); go_simp; try with_reducible rfl
        try simp only [Act.put, List.setIfInBounds_toArray, List.set_cons_zero, List.set_cons_succ]
        refine wpAnyH_take (i := 8) (oi := ⟨some 16, _, _, _, _, _⟩) (v := ?_) rfl (by kernel_rfl) (by kernel_rfl) (by kernel_rfl) (fun _ _ _ h => h) (Or.inl ⟨by rfl, ?_⟩) (by assumption) ?_
        rotate_left
        · intro w hSw; (try dsimp only at hSw); go_simp; try with_reducible rfl
        try simp only [Act.put, List.setIfInBounds_toArray, List.set_cons_zero, List.set_cons_succ]
        refine wpAnyH_take (i := 9) (oi := ⟨some 17, _, _, _, _, _⟩) (v := ?_) rfl (by kernel_rfl) (by kernel_rfl) (by kernel_rfl) (fun _ _ _ h => h) (Or.inl ⟨by rfl, ?_⟩) (by assumption) ?_
        rotate_left
        · intro w hSw; (try dsimp only at hSw); go_simp; try with_reducible rfl
        try simp only [Act.put, List.setIfInBounds_toArray, List.set_cons_zero, List.set_cons_succ]
        refine wpAnyH_ready (rs := [12]) (by kernel_rfl) (by simp) ?_
        refine AllReadyH.cons (o := ⟨none, _, _, _, _, _⟩) rfl (fun KK hKK => ?_) AllReadyH.nil
        go_simp
        (try go_wp2_with fail)
        refine hKK.out _ _ (by first | (go_keep; done) | ((repeat' apply And.intro) <;> go_simp)) (fun hHeld => ?_)
        clear hKK KK
        try simp only [Act.put, List.setIfInBounds_toArray, List.set_cons_zero, List.set_cons_succ]
        refine wpAnyH_ready (rs := [13]) (by kernel_rfl) (by simp) ?_
        refine AllReadyH.cons (o := ⟨none, _, _, _, _, _⟩) rfl (fun KK hKK => ?_) AllReadyH.nil
        go_simp
        (try go_wp2_with fail)
        refine hKK.out _ _ (by first | (go_keep; done) | ((repeat' apply And.intro) <;> go_simp)) (fun hHeld => ?_)
        clear hKK KK
        try simp only [Act.put, List.setIfInBounds_toArray, List.set_cons_zero, List.set_cons_succ]
        refine wpAnyH_done (by kernel_rfl) ?_ _
        (try dsimp only [Exit.then, Met])
        go_wp2_with fail
        go_meet
        refine ⟨_, _, rfl, rfl, by first | omega | (simp; omega), by first | omega | (simp; omega), ?_, ?_, ?_, ?_, ?_, ?_, ?_, ?_, ?_, ?_, ?_, ?_, ?_, ?_, ?_, ?_, ?_, ?_, ?_, ?_, ?_, ?_, ?_, (by repeat (first | with_reducible exact Below.refl _ _ | with_reducible assumption | with_reducible refine Below.setCell ?_ (by first | omega | (simp <;> omega)) _ | with_reducible refine balloc ?_ _ | with_reducible refine Below.drew ?_ | with_reducible refine bstep ?_ (by with_reducible assumption)))⟩
        all_goals first | (with_reducible assumption) | go_simp
      ·go_simp
       (try go_wp2_with fail)
       refine hKK.out _ _ (by first | (go_keep; done) | ((repeat' apply And.intro) <;> go_simp)) (fun hHeld => ?_)
       clear hKK KK
       try simp only [Act.put, List.setIfInBounds_toArray, List.set_cons_zero, List.set_cons_succ]
       refine wpAnyH_ready (rs := [5]) (by kernel_rfl) (by simp) ?_
       refine AllReadyH.cons (o := ⟨some 14, _, _, _, _, _⟩) rfl (fun KK hKK => ?_) AllReadyH.nil
       go_simp
       refine Calls.mono (U1 _) ?_
       rintro e wt2 ⟨rfl, hb⟩
       replace km0 := cell_later hb (cell_al _ km0)
       replace km1 := cell_later hb (cell_al _ km1)
       replace km2 := cell_later hb (cell_al _ km2)
       replace km3 := cell_later hb (cell_al _ km3)
       replace km4 := cell_later hb (cell_al _ km4)
       replace km5 := cell_later hb (cell_al _ km5)
       replace km6 := cell_later hb (cell_al _ km6)
       replace kb0 := cell_later hb (cell_al _ kb0)
       replace kb1 := cell_later hb (cell_al _ kb1)
       replace kb2 := cell_later hb (cell_al _ kb2)
       replace kb3 := cell_later hb (cell_al _ kb3)
       replace jr0 := fro_later hb (cell_al _ kr0) (fro_al jr0)
       replace kr0 := cell_later hb (cell_al _ kr0)
       replace jr1 := fro_later hb (cell_al _ kr1) (fro_al jr1)
       replace kr1 := cell_later hb (cell_al _ kr1)
       replace jr2 := fro_later hb (cell_al _ kr2) (fro_al jr2)
       replace kr2 := cell_later hb (cell_al _ kr2)
       replace jr3 := fro_later hb (cell_al _ kr3) (fro_al jr3)
       replace kr3 := cell_later hb (cell_al _ kr3)
       replace jy0 := fro_later hb (cell_al _ ky0) (fro_al jy0)
       replace ky0 := cell_later hb (cell_al _ ky0)
       replace jy1 := fro_later hb (cell_al _ ky1) (fro_al jy1)
       replace ky1 := cell_later hb (cell_al _ ky1)
       have kx0 : wt2.cell? ⟨wt1.heap.size, 0, none⟩ = some (.int .i64 0) := cell_later hb (by go_simp)
       have jx0 : wt2.frozen? ⟨wt1.heap.size, 0, none⟩ = false := by rw [(bcell hb).2 _ _ (by first | omega | (simp <;> omega))]; go_simp
       have kx1 : wt2.cell? ⟨wt1.heap.size, 1, none⟩ = some (.int .i64 0) := cell_later hb (by go_simp)
       have jx1 : wt2.frozen? ⟨wt1.heap.size, 1, none⟩ = false := by rw [(bcell hb).2 _ _ (by first | omega | (simp <;> omega))]; go_simp
       replace zm : w.heap.size < wt2.heap.size := World.block_lt_of_cell? _ _ km0
       replace zb : w.heap.size + 1 < wt2.heap.size := World.block_lt_of_cell? _ _ kb0
       replace zr : w.heap.size + 1 + 1 < wt2.heap.size := World.block_lt_of_cell? _ _ kr0
       have zr_wt2 := zr
       replace zy : w.heap.size + 1 + 1 + 1 < wt2.heap.size := World.block_lt_of_cell? _ _ ky0
       have zy_wt2 := zy
       have zx : wt1.heap.size < wt2.heap.size := World.block_lt_of_cell? _ _ kx0
       have zx_wt2 := zx
       replace hb0 : Below w.heap.size w wt2 := (by repeat (first | with_reducible exact Below.refl _ _ | with_reducible assumption | with_reducible refine Below.setCell ?_ (by first | omega | (simp <;> omega)) _ | with_reducible refine balloc ?_ _ | with_reducible refine Below.drew ?_ | with_reducible refine bstep ?_ (by with_reducible assumption)))
       clear hb
       (try go_wp2_with fail)
       refine hKK.out _ _ (by first | (go_keep; done) | ((repeat' apply And.intro) <;> go_simp)) (fun hHeld => ?_)
       clear hKK KK
       try simp only [Act.put, List.setIfInBounds_toArray, List.set_cons_zero, List.set_cons_succ]
       refine wpAnyH_ready (rs := [6]) (by kernel_rfl) (by simp) ?_
       refine AllReadyH.cons (o := ⟨some 15, _, _, _, _, _⟩) rfl (fun KK hKK => ?_) AllReadyH.nil
       go_simp
       refine Calls.mono (C1 _) ?_
       rintro e wt3 ⟨rfl, hb⟩
       replace km0 := cell_later hb km0
       replace km1 := cell_later hb km1
       replace km2 := cell_later hb km2
       replace km3 := cell_later hb km3
       replace km4 := cell_later hb km4
       replace km5 := cell_later hb km5
       replace km6 := cell_later hb km6
       replace kb0 := cell_later hb kb0
       replace kb1 := cell_later hb kb1
       replace kb2 := cell_later hb kb2
       replace kb3 := cell_later hb kb3
       replace jr0 := fro_later hb kr0 jr0
       replace kr0 := cell_later hb kr0
       replace jr1 := fro_later hb kr1 jr1
       replace kr1 := cell_later hb kr1
       replace jr2 := fro_later hb kr2 jr2
       replace kr2 := cell_later hb kr2
       replace jr3 := fro_later hb kr3 jr3
       replace kr3 := cell_later hb kr3
       replace jy0 := fro_later hb ky0 jy0
       replace ky0 := cell_later hb ky0
       replace jy1 := fro_later hb ky1 jy1
       replace ky1 := cell_later hb ky1
       replace jx0 := fro_later hb kx0 jx0
       replace kx0 := cell_later hb kx0
       replace jx1 := fro_later hb kx1 jx1
       replace kx1 := cell_later hb kx1
       replace zm : w.heap.size < wt3.heap.size := World.block_lt_of_cell? _ _ km0
       replace zb : w.heap.size + 1 < wt3.heap.size := World.block_lt_of_cell? _ _ kb0
       replace zr : w.heap.size + 1 + 1 < wt3.heap.size := World.block_lt_of_cell? _ _ kr0
       have zr_wt3 := zr
       replace zy : w.heap.size + 1 + 1 + 1 < wt3.heap.size := World.block_lt_of_cell? _ _ ky0
       have zy_wt3 := zy
       replace zx : wt1.heap.size < wt3.heap.size := World.block_lt_of_cell? _ _ kx0
       have zx_wt3 := zx
       replace hb0 : Below w.heap.size w wt3 := (by repeat (first | with_reducible exact Below.refl _ _ | with_reducible assumption | with_reducible refine Below.setCell ?_ (by first | omega | (simp <;> omega)) _ | with_reducible refine balloc ?_ _ | with_reducible refine Below.drew ?_ | with_reducible refine bstep ?_ (by with_reducible assumption)))
       clear hb
       (try go_wp2_with fail)
       refine hKK.out _ _ (by first | (go_keep; done) | ((repeat' apply And.intro) <;> go_simp)) (fun hHeld => ?_)
       clear hKK KK
       try simp only [Act.put, List.setIfInBounds_toArray, List.set_cons_zero, List.set_cons_succ]
       refine wpAnyH_take (i := 7) (oi := ⟨some 8, _, _, _, _, _⟩) (v := ?_) rfl (by kernel_rfl) (by kernel_rfl) (by kernel_rfl) (fun _ _ _ h => h) (Or.inl ⟨by rfl, ?_⟩) (by assumption) ?_
       rotate_left
       · intro w hSw; (try dsimp only at hSw); go_simp; try with_reducible rfl
       try simp only [Act.put, List.setIfInBounds_toArray, List.set_cons_zero, List.set_cons_succ]
       refine wpAnyH_take (i := 8) (oi := ⟨some 16, _, _, _, _, _⟩) (v := ?_) rfl (by kernel_rfl) (by kernel_rfl) (by kernel_rfl) (fun _ _ _ h => h) (Or.inl ⟨by rfl, ?_⟩) (by assumption) ?_
       rotate_left
       · intro w hSw; (try dsimp only at hSw); go_simp; try with_reducible rfl
       try simp only [Act.put, List.setIfInBounds_toArray, List.set_cons_zero, List.set_cons_succ]
       refine wpAnyH_take (i := 9) (oi := ⟨some 17, _, _, _, _, _⟩) (v := ?_) rfl (by kernel_rfl) (by kernel_rfl) (by kernel_rfl) (fun _ _ _ h => h) (Or.inl ⟨by rfl, ?_⟩) (by assumption) ?_
       rotate_left
       · intro w hSw; (try dsimp only at hSw); go_simp; try with_reducible rfl
       try simp only [Act.put, List.setIfInBounds_toArray, List.set_cons_zero, List.set_cons_succ]
       refine wpAnyH_ready (rs := [12]) (by kernel_rfl) (by simp) ?_
       refine AllReadyH.cons (o := ⟨none, _, _, _, _, _⟩) rfl (fun KK hKK => ?_) AllReadyH.nil
       go_simp
       (try go_wp2_with fail)
       refine hKK.out _ _ (by first | (go_keep; done) | ((repeat' apply And.intro) <;> go_simp)) (fun hHeld => ?_)
       clear hKK KK
       try simp only [Act.put, List.setIfInBounds_toArray, List.set_cons_zero, List.set_cons_succ]
       refine wpAnyH_ready (rs := [13]) (by kernel_rfl) (by simp) ?_
       refine AllReadyH.cons (o := ⟨none, _, _, _, _, _⟩) rfl (fun KK hKK => ?_) AllReadyH.nil
       go_simp
       (try go_wp2_with fail)
       refine hKK.out _ _ (by first | (go_keep; done) | ((repeat' apply And.intro) <;> go_simp)) (fun hHeld => ?_)
       clear hKK KK
       try simp only [Act.put, List.setIfInBounds_toArray, List.set_cons_zero, List.set_cons_succ]
       refine wpAnyH_done (by kernel_rfl) ?_ _
       (try dsimp only [Exit.then, Met])
       go_wp2_with fail
       go_meet
       refine ⟨_, _, rfl, rfl, by first | omega | (simp; omega), by first | omega | (simp; omega), ?_, ?_, ?_, ?_, ?_, ?_, ?_, ?_, ?_, ?_, ?_, ?_, ?_, ?_, ?_, ?_, ?_, ?_, ?_, ?_, ?_, ?_, ?_, (by repeat (first | with_reducible exact Below.refl _ _ | with_reducible assumption | with_reducible refine Below.setCell ?_ (by first | omega | (simp <;> omega)) _ | with_reducible refine balloc ?_ _ | with_reducible refine Below.drew ?_ | with_reducible refine bstep ?_ (by with_reducible assumption)))⟩
       all_goals first | (with_reducible assumption) | go_simp
     ·go_simp
      (try go_wp2_with fail)
      refine hKK.out _ _ (by first | (go_keep; done) | ((repeat' apply And.intro) <;> go_simp)) (fun hHeld => ?_)
      clear hKK KK
      try simp only [Act.put, List.setIfInBounds_toArray, List.set_cons_zero, List.set_cons_succ]
      refine wpAnyH_ready (rs := [2]) (by kernel_rfl) (by simp) ?_
      refine AllReadyH.cons (o := ⟨some 11, _, _, _, _, _⟩) rfl (fun KK hKK => ?_) AllReadyH.nil
      go_simp
      refine Calls.mono (T1 _) ?_
      rintro e wt1 ⟨rfl, hb⟩
      have km0 : wt1.cell? ⟨w.heap.size, 0, none⟩ = some (.int .i64 m1) := cell_later hb (by go_simp)
      have km1 : wt1.cell? ⟨w.heap.size, 1, none⟩ = some (.int .i64 m2) := cell_later hb (by go_simp)
      have km2 : wt1.cell? ⟨w.heap.size, 2, none⟩ = some (.int .i64 m3) := cell_later hb (by go_simp)
      have km3 : wt1.cell? ⟨w.heap.size, 3, none⟩ = some (.int .i64 m4) := cell_later hb (by go_simp)
      have km4 : wt1.cell? ⟨w.heap.size, 4, none⟩ = some (.int .i64 m5) := cell_later hb (by go_simp)
      have km5 : wt1.cell? ⟨w.heap.size, 5, none⟩ = some (.int .i64 m6) := cell_later hb (by go_simp)
      have km6 : wt1.cell? ⟨w.heap.size, 6, none⟩ = some (.int .i64 m7) := cell_later hb (by go_simp)
      have kb0 : wt1.cell? ⟨w.heap.size + 1, 0, none⟩ = some (.int .i64 b1) := cell_later hb (by go_simp)
      have kb1 : wt1.cell? ⟨w.heap.size + 1, 1, none⟩ = some (.int .i64 b2) := cell_later hb (by go_simp)
      have kb2 : wt1.cell? ⟨w.heap.size + 1, 2, none⟩ = some (.int .i64 b3) := cell_later hb (by go_simp)
      have kb3 : wt1.cell? ⟨w.heap.size + 1, 3, none⟩ = some (.int .i64 b4) := cell_later hb (by go_simp)
      have kr0 : wt1.cell? ⟨w.heap.size + 1 + 1, 0, none⟩ = some (.int .i64 0) := cell_later hb (by go_simp)
      have jr0 : wt1.frozen? ⟨w.heap.size + 1 + 1, 0, none⟩ = false := by rw [(bcell hb).2 _ _ (by first | omega | (simp <;> omega))]; go_simp
      have kr1 : wt1.cell? ⟨w.heap.size + 1 + 1, 1, none⟩ = some (.int .i64 0) := cell_later hb (by go_simp)
      have jr1 : wt1.frozen? ⟨w.heap.size + 1 + 1, 1, none⟩ = false := by rw [(bcell hb).2 _ _ (by first | omega | (simp <;> omega))]; go_simp
      have kr2 : wt1.cell? ⟨w.heap.size + 1 + 1, 2, none⟩ = some (.int .i64 0) := cell_later hb (by go_simp)
      have jr2 : wt1.frozen? ⟨w.heap.size + 1 + 1, 2, none⟩ = false := by rw [(bcell hb).2 _ _ (by first | omega | (simp <;> omega))]; go_simp
      have kr3 : wt1.cell? ⟨w.heap.size + 1 + 1, 3, none⟩ = some (.int .i64 0) := cell_later hb (by go_simp)
      have jr3 : wt1.frozen? ⟨w.heap.size + 1 + 1, 3, none⟩ = false := by rw [(bcell hb).2 _ _ (by first | omega | (simp <;> omega))]; go_simp
      have ky0 : wt1.cell? ⟨w.heap.size + 1 + 1 + 1, 0, none⟩ = some (.int .i64 0) := cell_later hb (by go_simp)
      have jy0 : wt1.frozen? ⟨w.heap.size + 1 + 1 + 1, 0, none⟩ = false := by rw [(bcell hb).2 _ _ (by first | omega | (simp <;> omega))]; go_simp
      have ky1 : wt1.cell? ⟨w.heap.size + 1 + 1 + 1, 1, none⟩ = some (.int .i64 0) := cell_later hb (by go_simp)
      have jy1 : wt1.frozen? ⟨w.heap.size + 1 + 1 + 1, 1, none⟩ = false := by rw [(bcell hb).2 _ _ (by first | omega | (simp <;> omega))]; go_simp
      have kx0 : wt1.cell? ⟨w.heap.size + 1 + 1 + 1 + 1, 0, none⟩ = some (.int .i64 0) := cell_later hb (by go_simp)
      have jx0 : wt1.frozen? ⟨w.heap.size + 1 + 1 + 1 + 1, 0, none⟩ = false := by rw [(bcell hb).2 _ _ (by first | omega | (simp <;> omega))]; go_simp
      have kx1 : wt1.cell? ⟨w.heap.size + 1 + 1 + 1 + 1, 1, none⟩ = some (.int .i64 0) := cell_later hb (by go_simp)
      have jx1 : wt1.frozen? ⟨w.heap.size + 1 + 1 + 1 + 1, 1, none⟩ = false := by rw [(bcell hb).2 _ _ (by first | omega | (simp <;> omega))]; go_simp
      have zm : w.heap.size < wt1.heap.size := World.block_lt_of_cell? _ _ km0
      have zb : w.heap.size + 1 < wt1.heap.size := World.block_lt_of_cell? _ _ kb0
      have zr : w.heap.size + 1 + 1 < wt1.heap.size := World.block_lt_of_cell? _ _ kr0
      have zr_wt1 := zr
      have zy : w.heap.size + 1 + 1 + 1 < wt1.heap.size := World.block_lt_of_cell? _ _ ky0
      have zy_wt1 := zy
      have zx : w.heap.size + 1 + 1 + 1 + 1 < wt1.heap.size := World.block_lt_of_cell? _ _ kx0
      have zx_wt1 := zx
      have hb0 : Below w.heap.size w wt1 := (by repeat (first | with_reducible exact Below.refl _ _ | with_reducible assumption | with_reducible refine Below.setCell ?_ (by first | omega | (simp <;> omega)) _ | with_reducible refine balloc ?_ _ | with_reducible refine Below.drew ?_ | with_reducible refine bstep ?_ (by with_reducible assumption)))
      clear hb
      (try go_wp2_with fail)
      refine hKK.out _ _ (by first | (go_keep; done) | ((repeat' apply And.intro) <;> go_simp)) (fun hHeld => ?_)
      clear hKK KK
      try simp only [Act.put, List.setIfInBounds_toArray, List.set_cons_zero, List.set_cons_succ]
      refine wpAnyH_ready (rs := [5]) (by kernel_rfl) (by simp) ?_
      refine AllReadyH.cons (o := ⟨some 14, _, _, _, _, _⟩) rfl (fun KK hKK => ?_) AllReadyH.nil
      go_simp
      refine Calls.mono (U1 _) ?_
      rintro e wt2 ⟨rfl, hb⟩
      replace km0 := cell_later hb km0
      replace km1 := cell_later hb km1
      replace km2 := cell_later hb km2
      replace km3 := cell_later hb km3
      replace km4 := cell_later hb km4
      replace km5 := cell_later hb km5
      replace km6 := cell_later hb km6
      replace kb0 := cell_later hb kb0
      replace kb1 := cell_later hb kb1
      replace kb2 := cell_later hb kb2
      replace kb3 := cell_later hb kb3
      replace jr0 := fro_later hb kr0 jr0
      replace kr0 := cell_later hb kr0
      replace jr1 := fro_later hb kr1 jr1
      replace kr1 := cell_later hb kr1
      replace jr2 := fro_later hb kr2 jr2
      replace kr2 := cell_later hb kr2
      replace jr3 := fro_later hb kr3 jr3
      replace kr3 := cell_later hb kr3
      replace jy0 := fro_later hb ky0 jy0
      replace ky0 := cell_later hb ky0
      replace jy1 := fro_later hb ky1 jy1
      replace ky1 := cell_later hb ky1
      replace jx0 := fro_later hb kx0 jx0
      replace kx0 := cell_later hb kx0
      replace jx1 := fro_later hb kx1 jx1
      replace kx1 := cell_later hb kx1
      replace zm : w.heap.size < wt2.heap.size := World.block_lt_of_cell? _ _ km0
      replace zb : w.heap.size + 1 < wt2.heap.size := World.block_lt_of_cell? _ _ kb0
      replace zr : w.heap.size + 1 + 1 < wt2.heap.size := World.block_lt_of_cell? _ _ kr0
      have zr_wt2 := zr
      replace zy : w.heap.size + 1 + 1 + 1 < wt2.heap.size := World.block_lt_of_cell? _ _ ky0
      have zy_wt2 := zy
      replace zx : w.heap.size + 1 + 1 + 1 + 1 < wt2.heap.size := World.block_lt_of_cell? _ _ kx0
      have zx_wt2 := zx
      replace hb0 : Below w.heap.size w wt2 := (by repeat (first | with_reducible exact Below.refl _ _ | with_reducible assumption | with_reducible refine Below.setCell ?_ (by first | omega | (simp <;> omega)) _ | with_reducible refine balloc ?_ _ | with_reducible refine Below.drew ?_ | with_reducible refine bstep ?_ (by with_reducible assumption)))
      clear hb
      (try go_wp2_with fail)
      refine hKK.out _ _ (by first | (go_keep; done) | ((repeat' apply And.intro) <;> go_simp)) (fun hHeld => ?_)
      clear hKK KK
      try simp only [Act.put, List.setIfInBounds_toArray, List.set_cons_zero, List.set_cons_succ]
      refine wpAnyH_ready (rs := [6]) (by kernel_rfl) (by simp) ?_
      refine AllReadyH.cons (o := ⟨some 15, _, _, _, _, _⟩) rfl (fun KK hKK => ?_) AllReadyH.nil
      go_simp
      refine Calls.mono (C1 _) ?_
      rintro e wt3 ⟨rfl, hb⟩
      replace km0 := cell_later hb km0
      replace km1 := cell_later hb km1
      replace km2 := cell_later hb km2
      replace km3 := cell_later hb km3
      replace km4 := cell_later hb km4
      replace km5 := cell_later hb km5
      replace km6 := cell_later hb km6
      replace kb0 := cell_later hb kb0
      replace kb1 := cell_later hb kb1
      replace kb2 := cell_later hb kb2
      replace kb3 := cell_later hb kb3
      replace jr0 := fro_later hb kr0 jr0
      replace kr0 := cell_later hb kr0
      replace jr1 := fro_later hb kr1 jr1
      replace kr1 := cell_later hb kr1
      replace jr2 := fro_later hb kr2 jr2
      replace kr2 := cell_later hb kr2
      replace jr3 := fro_later hb kr3 jr3
      replace kr3 := cell_later hb kr3
      replace jy0 := fro_later hb ky0 jy0
      replace ky0 := cell_later hb ky0
      replace jy1 := fro_later hb ky1 jy1
      replace ky1 := cell_later hb ky1
      replace jx0 := fro_later hb kx0 jx0
      replace kx0 := cell_later hb kx0
      replace jx1 := fro_later hb kx1 jx1
      replace kx1 := cell_later hb kx1
      replace zm : w.heap.size < wt3.heap.size := World.block_lt_of_cell? _ _ km0
      replace zb : w.heap.size + 1 < wt3.heap.size := World.block_lt_of_cell? _ _ kb0
      replace zr : w.heap.size + 1 + 1 < wt3.heap.size := World.block_lt_of_cell? _ _ kr0
      have zr_wt3 := zr
      replace zy : w.heap.size + 1 + 1 + 1 < wt3.heap.size := World.block_lt_of_cell? _ _ ky0
      have zy_wt3 := zy
      replace zx : w.heap.size + 1 + 1 + 1 + 1 < wt3.heap.size := World.block_lt_of_cell? _ _ kx0
      have zx_wt3 := zx
      replace hb0 : Below w.heap.size w wt3 := (by repeat (first | with_reducible exact Below.refl _ _ | with_reducible assumption | with_reducible refine Below.setCell ?_ (by first | omega | (simp <;> omega)) _ | with_reducible refine balloc ?_ _ | with_reducible refine Below.drew ?_ | with_reducible refine bstep ?_ (by with_reducible assumption)))
      clear hb
      (try go_wp2_with fail)
      refine hKK.out _ _ (by first | (go_keep; done) | ((repeat' apply And.intro) <;> go_simp)) (fun hHeld => ?_)
      clear hKK KK
      try simp only [Act.put, List.setIfInBounds_toArray, List.set_cons_zero, List.set_cons_succ]
      refine wpAnyH_take (i := 7) (oi := ⟨some 8, _, _, _, _, _⟩) (v := ?_) rfl (by kernel_rfl) (by kernel_rfl) (by kernel_rfl) (fun _ _ _ h => h) (Or.inl ⟨by rfl, ?_⟩) (by assumption) ?_
      rotate_left
      · intro w hSw; (try dsimp only at hSw); go_simp; try with_reducible rfl
      try simp only [Act.put, List.setIfInBounds_toArray, List.set_cons_zero, List.set_cons_succ]
      refine wpAnyH_take (i := 8) (oi := ⟨some 16, _, _, _, _, _⟩) (v := ?_) rfl (by kernel_rfl) (by kernel_rfl) (by kernel_rfl) (fun _ _ _ h => h) (Or.inl ⟨by rfl, ?_⟩) (by assumption) ?_
      rotate_left
      · intro w hSw; (try dsimp only at hSw); go_simp; try with_reducible rfl
      try simp only [Act.put, List.setIfInBounds_toArray, List.set_cons_zero, List.set_cons_succ]
      refine wpAnyH_take (i := 9) (oi := ⟨some 17, _, _, _, _, _⟩) (v := ?_) rfl (by kernel_rfl) (by kernel_rfl) (by kernel_rfl) (fun _ _ _ h => h) (Or.inl ⟨by rfl, ?_⟩) (by assumption) ?_
      rotate_left
      · intro w hSw; (try dsimp only at hSw); go_simp; try with_reducible rfl
      try simp only [Act.put, List.setIfInBounds_toArray, List.set_cons_zero, List.set_cons_succ]
      refine wpAnyH_ready (rs := [12]) (by kernel_rfl) (by simp) ?_
      refine AllReadyH.cons (o := ⟨none, _, _, _, _, _⟩) rfl (fun KK hKK => ?_) AllReadyH.nil
      go_simp
      (try go_wp2_with fail)
      refine hKK.out _ _ (by first | (go_keep; done) | ((repeat' apply And.intro) <;> go_simp)) (fun hHeld => ?_)
      clear hKK KK
      try simp only [Act.put, List.setIfInBounds_toArray, List.set_cons_zero, List.set_cons_succ]
      refine wpAnyH_ready (rs := [13]) (by kernel_rfl) (by simp) ?_
      refine AllReadyH.cons (o := ⟨none, _, _, _, _, _⟩) rfl (fun KK hKK => ?_) AllReadyH.nil
      go_simp
      (try go_wp2_with fail)
      refine hKK.out _ _ (by first | (go_keep; done) | ((repeat' apply And.intro) <;> go_simp)) (fun hHeld => ?_)
      clear hKK KK
      try simp only [Act.put, List.setIfInBounds_toArray, List.set_cons_zero, List.set_cons_succ]
      refine wpAnyH_done (by kernel_rfl) ?_ _
      (try dsimp only [Exit.then, Met])
      go_wp2_with fail
      go_meet
      refine ⟨_, _, rfl, rfl, by first | omega | (simp; omega), by first | omega | (simp; omega), ?_, ?_, ?_, ?_, ?_, ?_, ?_, ?_, ?_, ?_, ?_, ?_, ?_, ?_, ?_, ?_, ?_, ?_, ?_, ?_, ?_, ?_, ?_, (by repeat (first | with_reducible exact Below.refl _ _ | with_reducible assumption | with_reducible refine Below.setCell ?_ (by first | omega | (simp <;> omega)) _ | with_reducible refine balloc ?_ _ | with_reducible refine Below.drew ?_ | with_reducible refine bstep ?_ (by with_reducible assumption)))⟩
      all_goals first | (with_reducible assumption) | go_simp
  case rest =>
    obtain ⟨gx, gy, rfl, rfl, lgx, lgy, kx0, kx1, ky0, ky1, km0, km1, km2, km3, km4, km5, km6, kb0, kb1, kb2, kb3, kr0, jr0, kr1, jr1, kr2, jr2, kr3, jr3, hb0⟩ := hcut
    have zx : gx < wc.heap.size := World.block_lt_of_cell? _ _ kx0
    have zx_wc := zx
    have zy : gy < wc.heap.size := World.block_lt_of_cell? _ _ ky0
    have zy_wc := zy
    have zm : w.heap.size < wc.heap.size := World.block_lt_of_cell? _ _ km0
    have zm_wc := zm
    have zb : w.heap.size + 1 < wc.heap.size := World.block_lt_of_cell? _ _ kb0
    have zb_wc := zb
    have zr : w.heap.size + 1 + 1 < wc.heap.size := World.block_lt_of_cell? _ _ kr0
    have zr_wc := zr
    go_wp2_with fail
    refine wp_region_held_drew (S := fun w' => w'.cell? ⟨gx, 0, none⟩ = some (.int .i64 x1) ∧ w'.cell? ⟨gx, 1, none⟩ = some (.int .i64 x2) ∧ w'.cell? ⟨gy, 0, none⟩ = some (.int .i64 y1) ∧ w'.cell? ⟨gy, 1, none⟩ = some (.int .i64 y2) ∧ w'.cell? ⟨w.heap.size, 0, none⟩ = some (.int .i64 m1) ∧ w'.cell? ⟨w.heap.size, 1, none⟩ = some (.int .i64 m2) ∧ w'.cell? ⟨w.heap.size, 2, none⟩ = some (.int .i64 m3) ∧ w'.cell? ⟨w.heap.size, 3, none⟩ = some (.int .i64 m4) ∧ w'.cell? ⟨w.heap.size, 4, none⟩ = some (.int .i64 m5) ∧ w'.cell? ⟨w.heap.size, 5, none⟩ = some (.int .i64 m6) ∧ w'.cell? ⟨w.heap.size, 6, none⟩ = some (.int .i64 m7)) (by kernel_rfl) (by first | (go_keep; done) | ((repeat' apply And.intro) <;> go_simp)) (fun hHeld => ?_)
    refine wpAnyH_take (i := 1) (oi := ⟨some 19, _, _, _, _, _⟩) (v := ?_) rfl (by kernel_rfl) (by kernel_rfl) (by kernel_rfl) (fun _ _ _ h => h) (Or.inl ⟨by rfl, ?_⟩) (by assumption) ?_
    rotate_left
    · intro w hSw; (try dsimp only at hSw); go_simp; try with_reducible rfl
    try simp only [Act.put, List.setIfInBounds_toArray, List.set_cons_zero, List.set_cons_succ]
    refine wpAnyH_take (i := 3) (oi := ⟨some 21, _, _, _, _, _⟩) (v := ?_) rfl (by kernel_rfl) (by kernel_rfl) (by kernel_rfl) (fun _ _ _ h => h) (Or.inl ⟨by rfl, ?_⟩) (by assumption) ?_
    rotate_left
    · intro w hSw; (try dsimp only at hSw); go_simp; try with_reducible rfl
    try simp only [Act.put, List.setIfInBounds_toArray, List.set_cons_zero, List.set_cons_succ]
    refine wpAnyH_take (i := 4) (oi := ⟨some 22, _, _, _, _, _⟩) (v := ?_) rfl (by kernel_rfl) (by kernel_rfl) (by kernel_rfl) (fun _ _ _ h => h) (Or.inl ⟨by rfl, ?_⟩) (by assumption) ?_
    rotate_left
    · intro w hSw; (try dsimp only at hSw); go_simp; try with_reducible rfl
    try simp only [Act.put, List.setIfInBounds_toArray, List.set_cons_zero, List.set_cons_succ]
    refine wpAnyH_take (i := 8) (oi := ⟨some 26, _, _, _, _, _⟩) (v := ?_) rfl (by kernel_rfl) (by kernel_rfl) (by kernel_rfl) (fun _ _ _ h => h) (Or.inl ⟨by rfl, ?_⟩) (by assumption) ?_
    rotate_left
    · intro w hSw; (try dsimp only at hSw); go_simp; try with_reducible rfl
    try simp only [Act.put, List.setIfInBounds_toArray, List.set_cons_zero, List.set_cons_succ]
    refine wpAnyH_take (i := 10) (oi := ⟨some 28, _, _, _, _, _⟩) (v := ?_) rfl (by kernel_rfl) (by kernel_rfl) (by kernel_rfl) (fun _ _ _ h => h) (Or.inl ⟨by rfl, ?_⟩) (by assumption) ?_
    rotate_left
    · intro w hSw; (try dsimp only at hSw); go_simp; try with_reducible rfl
    try simp only [Act.put, List.setIfInBounds_toArray, List.set_cons_zero, List.set_cons_succ]
    refine wpAnyH_take (i := 11) (oi := ⟨some 29, _, _, _, _, _⟩) (v := ?_) rfl (by kernel_rfl) (by kernel_rfl) (by kernel_rfl) (fun _ _ _ h => h) (Or.inl ⟨by rfl, ?_⟩) (by assumption) ?_
    rotate_left
    · intro w hSw; (try dsimp only at hSw); go_simp; try with_reducible rfl
    try simp only [Act.put, List.setIfInBounds_toArray, List.set_cons_zero, List.set_cons_succ]
    refine wpAnyH_ready (rs := [0]) (by kernel_rfl) (by simp) ?_
    refine AllReadyH.cons (o := ⟨some 18, _, _, _, _, _⟩) rfl (fun KK hKK => ?_) AllReadyH.nil
    go_simp
    refine Calls.mono (ways_c _) ?_
    rintro e wt1 ⟨rfl, hb⟩
    replace kx0 := cell_later hb kx0
    replace kx1 := cell_later hb kx1
    replace ky0 := cell_later hb ky0
    replace ky1 := cell_later hb ky1
    replace km0 := cell_later hb km0
    replace km1 := cell_later hb km1
    replace km2 := cell_later hb km2
    replace km3 := cell_later hb km3
    replace km4 := cell_later hb km4
    replace km5 := cell_later hb km5
    replace km6 := cell_later hb km6
    replace kb0 := cell_later hb kb0
    replace kb1 := cell_later hb kb1
    replace kb2 := cell_later hb kb2
    replace kb3 := cell_later hb kb3
    replace jr0 := fro_later hb kr0 jr0
    replace kr0 := cell_later hb kr0
    replace jr1 := fro_later hb kr1 jr1
    replace kr1 := cell_later hb kr1
    replace jr2 := fro_later hb kr2 jr2
    replace kr2 := cell_later hb kr2
    replace jr3 := fro_later hb kr3 jr3
    replace kr3 := cell_later hb kr3
    replace zx : gx < wt1.heap.size := World.block_lt_of_cell? _ _ kx0
    replace zy : gy < wt1.heap.size := World.block_lt_of_cell? _ _ ky0
    replace zm : w.heap.size < wt1.heap.size := World.block_lt_of_cell? _ _ km0
    replace zb : w.heap.size + 1 < wt1.heap.size := World.block_lt_of_cell? _ _ kb0
    replace zr : w.heap.size + 1 + 1 < wt1.heap.size := World.block_lt_of_cell? _ _ kr0
    have zr_wt1 := zr
    replace hb0 : Below w.heap.size w wt1 := (by repeat (first | with_reducible exact Below.refl _ _ | with_reducible assumption | with_reducible refine Below.setCell ?_ (by first | omega | (simp <;> omega)) _ | with_reducible refine balloc ?_ _ | with_reducible refine Below.drew ?_ | with_reducible refine bstep ?_ (by with_reducible assumption)))
    clear hb
    (try go_wp2_with fail)
    refine hKK.out _ _ (by first | (go_keep; done) | ((repeat' apply And.intro) <;> go_simp)) (fun hHeld => ?_)
    clear hKK KK
    try simp only [Act.put, List.setIfInBounds_toArray, List.set_cons_zero, List.set_cons_succ]
    refine wpAnyH_ready (rs := [2]) (by kernel_rfl) (by simp) ?_
    refine AllReadyH.cons (o := ⟨some 20, _, _, _, _, _⟩) rfl (fun KK hKK => ?_) AllReadyH.nil
    go_simp
    refine Calls.mono (X1 _) ?_
    rintro e wt2 ⟨rfl, hb⟩
    replace kx0 := cell_later hb kx0
    replace kx1 := cell_later hb kx1
    replace ky0 := cell_later hb ky0
    replace ky1 := cell_later hb ky1
    replace km0 := cell_later hb km0
    replace km1 := cell_later hb km1
    replace km2 := cell_later hb km2
    replace km3 := cell_later hb km3
    replace km4 := cell_later hb km4
    replace km5 := cell_later hb km5
    replace km6 := cell_later hb km6
    replace kb0 := cell_later hb kb0
    replace kb1 := cell_later hb kb1
    replace kb2 := cell_later hb kb2
    replace kb3 := cell_later hb kb3
    replace jr0 := fro_later hb kr0 jr0
    replace kr0 := cell_later hb kr0
    replace jr1 := fro_later hb kr1 jr1
    replace kr1 := cell_later hb kr1
    replace jr2 := fro_later hb kr2 jr2
    replace kr2 := cell_later hb kr2
    replace jr3 := fro_later hb kr3 jr3
    replace kr3 := cell_later hb kr3
    replace zx : gx < wt2.heap.size := World.block_lt_of_cell? _ _ kx0
    replace zy : gy < wt2.heap.size := World.block_lt_of_cell? _ _ ky0
    replace zm : w.heap.size < wt2.heap.size := World.block_lt_of_cell? _ _ km0
    replace zb : w.heap.size + 1 < wt2.heap.size := World.block_lt_of_cell? _ _ kb0
    replace zr : w.heap.size + 1 + 1 < wt2.heap.size := World.block_lt_of_cell? _ _ kr0
    have zr_wt2 := zr
    replace hb0 : Below w.heap.size w wt2 := (by repeat (first | with_reducible exact Below.refl _ _ | with_reducible assumption | with_reducible refine Below.setCell ?_ (by first | omega | (simp <;> omega)) _ | with_reducible refine balloc ?_ _ | with_reducible refine Below.drew ?_ | with_reducible refine bstep ?_ (by with_reducible assumption)))
    clear hb
    (try go_wp2_with fail)
    refine hKK.out _ _ (by first | (go_keep; done) | ((repeat' apply And.intro) <;> go_simp)) (fun hHeld => ?_)
    clear hKK KK
    try simp only [Act.put, List.setIfInBounds_toArray, List.set_cons_zero, List.set_cons_succ]
    refine wpAnyH_ready (rs := [5]) (by kernel_rfl) (by simp) ?_
    refine AllReadyH.cons (o := ⟨some 23, _, _, _, _, _⟩) rfl (fun KK hKK => ?_) AllReadyH.nil
    go_simp
    refine Calls.mono (D1 _) ?_
    rintro e wt3 ⟨rfl, hb⟩
    replace kx0 := cell_later hb kx0
    replace kx1 := cell_later hb kx1
    replace ky0 := cell_later hb ky0
    replace ky1 := cell_later hb ky1
    replace km0 := cell_later hb km0
    replace km1 := cell_later hb km1
    replace km2 := cell_later hb km2
    replace km3 := cell_later hb km3
    replace km4 := cell_later hb km4
    replace km5 := cell_later hb km5
    replace km6 := cell_later hb km6
    replace kb0 := cell_later hb kb0
    replace kb1 := cell_later hb kb1
    replace kb2 := cell_later hb kb2
    replace kb3 := cell_later hb kb3
    replace jr0 := fro_later hb kr0 jr0
    replace kr0 := cell_later hb kr0
    replace jr1 := fro_later hb kr1 jr1
    replace kr1 := cell_later hb kr1
    replace jr2 := fro_later hb kr2 jr2
    replace kr2 := cell_later hb kr2
    replace jr3 := fro_later hb kr3 jr3
    replace kr3 := cell_later hb kr3
    replace zx : gx < wt3.heap.size := World.block_lt_of_cell? _ _ kx0
    replace zy : gy < wt3.heap.size := World.block_lt_of_cell? _ _ ky0
    replace zm : w.heap.size < wt3.heap.size := World.block_lt_of_cell? _ _ km0
    replace zb : w.heap.size + 1 < wt3.heap.size := World.block_lt_of_cell? _ _ kb0
    replace zr : w.heap.size + 1 + 1 < wt3.heap.size := World.block_lt_of_cell? _ _ kr0
    have zr_wt3 := zr
    replace hb0 : Below w.heap.size w wt3 := (by repeat (first | with_reducible exact Below.refl _ _ | with_reducible assumption | with_reducible refine Below.setCell ?_ (by first | omega | (simp <;> omega)) _ | with_reducible refine balloc ?_ _ | with_reducible refine Below.drew ?_ | with_reducible refine bstep ?_ (by with_reducible assumption)))
    clear hb
    (try go_wp2_with fail)
    refine hKK.out _ _ (by first | (go_keep; done) | ((repeat' apply And.intro) <;> go_simp)) (fun hHeld => ?_)
    clear hKK KK
    try simp only [Act.put, List.setIfInBounds_toArray, List.set_cons_zero, List.set_cons_succ]
    refine wpAnyH_ready (rs := [6]) (by kernel_rfl) (by simp) ?_
    refine AllReadyH.cons (o := ⟨some 24, _, _, _, _, _⟩) rfl (fun KK hKK => ?_) AllReadyH.nil
    go_simp
    refine Calls.mono (X2 _) ?_
    rintro e wt4 ⟨rfl, hb⟩
    replace kx0 := cell_later hb kx0
    replace kx1 := cell_later hb kx1
    replace ky0 := cell_later hb ky0
    replace ky1 := cell_later hb ky1
    replace km0 := cell_later hb km0
    replace km1 := cell_later hb km1
    replace km2 := cell_later hb km2
    replace km3 := cell_later hb km3
    replace km4 := cell_later hb km4
    replace km5 := cell_later hb km5
    replace km6 := cell_later hb km6
    replace kb0 := cell_later hb kb0
    replace kb1 := cell_later hb kb1
    replace kb2 := cell_later hb kb2
    replace kb3 := cell_later hb kb3
    replace jr0 := fro_later hb kr0 jr0
    replace kr0 := cell_later hb kr0
    replace jr1 := fro_later hb kr1 jr1
    replace kr1 := cell_later hb kr1
    replace jr2 := fro_later hb kr2 jr2
    replace kr2 := cell_later hb kr2
    replace jr3 := fro_later hb kr3 jr3
    replace kr3 := cell_later hb kr3
    replace zx : gx < wt4.heap.size := World.block_lt_of_cell? _ _ kx0
    replace zy : gy < wt4.heap.size := World.block_lt_of_cell? _ _ ky0
    replace zm : w.heap.size < wt4.heap.size := World.block_lt_of_cell? _ _ km0
    replace zb : w.heap.size + 1 < wt4.heap.size := World.block_lt_of_cell? _ _ kb0
    replace zr : w.heap.size + 1 + 1 < wt4.heap.size := World.block_lt_of_cell? _ _ kr0
    have zr_wt4 := zr
    replace hb0 : Below w.heap.size w wt4 := (by repeat (first | with_reducible exact Below.refl _ _ | with_reducible assumption | with_reducible refine Below.setCell ?_ (by first | omega | (simp <;> omega)) _ | with_reducible refine balloc ?_ _ | with_reducible refine Below.drew ?_ | with_reducible refine bstep ?_ (by with_reducible assumption)))
    clear hb
    (try go_wp2_with fail)
    refine hKK.out _ _ (by first | (go_keep; done) | ((repeat' apply And.intro) <;> go_simp)) (fun hHeld => ?_)
    clear hKK KK
    try simp only [Act.put, List.setIfInBounds_toArray, List.set_cons_zero, List.set_cons_succ]
    refine wpAnyH_ready (rs := [7]) (by kernel_rfl) (by simp) ?_
    refine AllReadyH.cons (o := ⟨some 25, _, _, _, _, _⟩) rfl (fun KK hKK => ?_) AllReadyH.nil
    go_simp
    refine Calls.mono (ways_c _) ?_
    rintro e wt5 ⟨rfl, hb⟩
    replace kx0 := cell_later hb kx0
    replace kx1 := cell_later hb kx1
    replace ky0 := cell_later hb ky0
    replace ky1 := cell_later hb ky1
    replace km0 := cell_later hb km0
    replace km1 := cell_later hb km1
    replace km2 := cell_later hb km2
    replace km3 := cell_later hb km3
    replace km4 := cell_later hb km4
    replace km5 := cell_later hb km5
    replace km6 := cell_later hb km6
    replace kb0 := cell_later hb kb0
    replace kb1 := cell_later hb kb1
    replace kb2 := cell_later hb kb2
    replace kb3 := cell_later hb kb3
    replace jr0 := fro_later hb kr0 jr0
    replace kr0 := cell_later hb kr0
    replace jr1 := fro_later hb kr1 jr1
    replace kr1 := cell_later hb kr1
    replace jr2 := fro_later hb kr2 jr2
    replace kr2 := cell_later hb kr2
    replace jr3 := fro_later hb kr3 jr3
    replace kr3 := cell_later hb kr3
    replace zx : gx < wt5.heap.size := World.block_lt_of_cell? _ _ kx0
    replace zy : gy < wt5.heap.size := World.block_lt_of_cell? _ _ ky0
    replace zm : w.heap.size < wt5.heap.size := World.block_lt_of_cell? _ _ km0
    replace zb : w.heap.size + 1 < wt5.heap.size := World.block_lt_of_cell? _ _ kb0
    replace zr : w.heap.size + 1 + 1 < wt5.heap.size := World.block_lt_of_cell? _ _ kr0
    have zr_wt5 := zr
    replace hb0 : Below w.heap.size w wt5 := (by repeat (first | with_reducible exact Below.refl _ _ | with_reducible assumption | with_reducible refine Below.setCell ?_ (by first | omega | (simp <;> omega)) _ | with_reducible refine balloc ?_ _ | with_reducible refine Below.drew ?_ | with_reducible refine bstep ?_ (by with_reducible assumption)))
    clear hb
    (try go_wp2_with fail)
    refine hKK.out _ _ (by first | (go_keep; done) | ((repeat' apply And.intro) <;> go_simp)) (fun hHeld => ?_)
    clear hKK KK
    try simp only [Act.put, List.setIfInBounds_toArray, List.set_cons_zero, List.set_cons_succ]
    refine wpAnyH_ready (rs := [9]) (by kernel_rfl) (by simp) ?_
    refine AllReadyH.cons (o := ⟨some 27, _, _, _, _, _⟩) rfl (fun KK hKK => ?_) AllReadyH.nil
    go_simp
    refine Calls.mono (Y1 _) ?_
    rintro e wt6 ⟨rfl, hb⟩
    replace kx0 := cell_later hb kx0
    replace kx1 := cell_later hb kx1
    replace ky0 := cell_later hb ky0
    replace ky1 := cell_later hb ky1
    replace km0 := cell_later hb km0
    replace km1 := cell_later hb km1
    replace km2 := cell_later hb km2
    replace km3 := cell_later hb km3
    replace km4 := cell_later hb km4
    replace km5 := cell_later hb km5
    replace km6 := cell_later hb km6
    replace kb0 := cell_later hb kb0
    replace kb1 := cell_later hb kb1
    replace kb2 := cell_later hb kb2
    replace kb3 := cell_later hb kb3
    replace jr0 := fro_later hb kr0 jr0
    replace kr0 := cell_later hb kr0
    replace jr1 := fro_later hb kr1 jr1
    replace kr1 := cell_later hb kr1
    replace jr2 := fro_later hb kr2 jr2
    replace kr2 := cell_later hb kr2
    replace jr3 := fro_later hb kr3 jr3
    replace kr3 := cell_later hb kr3
    replace zx : gx < wt6.heap.size := World.block_lt_of_cell? _ _ kx0
    replace zy : gy < wt6.heap.size := World.block_lt_of_cell? _ _ ky0
    replace zm : w.heap.size < wt6.heap.size := World.block_lt_of_cell? _ _ km0
    replace zb : w.heap.size + 1 < wt6.heap.size := World.block_lt_of_cell? _ _ kb0
    replace zr : w.heap.size + 1 + 1 < wt6.heap.size := World.block_lt_of_cell? _ _ kr0
    have zr_wt6 := zr
    replace hb0 : Below w.heap.size w wt6 := (by repeat (first | with_reducible exact Below.refl _ _ | with_reducible assumption | with_reducible refine Below.setCell ?_ (by first | omega | (simp <;> omega)) _ | with_reducible refine balloc ?_ _ | with_reducible refine Below.drew ?_ | with_reducible refine bstep ?_ (by with_reducible assumption)))
    clear hb
    (try go_wp2_with fail)
    refine hKK.out _ _ (by first | (go_keep; done) | ((repeat' apply And.intro) <;> go_simp)) (fun hHeld => ?_)
    clear hKK KK
    try simp only [Act.put, List.setIfInBounds_toArray, List.set_cons_zero, List.set_cons_succ]
    refine wpAnyH_ready (rs := [12]) (by kernel_rfl) (by simp) ?_
    refine AllReadyH.cons (o := ⟨some 30, _, _, _, _, _⟩) rfl (fun KK hKK => ?_) AllReadyH.nil
    go_simp
    refine Calls.mono (D1 _) ?_
    rintro e wt7 ⟨rfl, hb⟩
    replace kx0 := cell_later hb kx0
    replace kx1 := cell_later hb kx1
    replace ky0 := cell_later hb ky0
    replace ky1 := cell_later hb ky1
    replace km0 := cell_later hb km0
    replace km1 := cell_later hb km1
    replace km2 := cell_later hb km2
    replace km3 := cell_later hb km3
    replace km4 := cell_later hb km4
    replace km5 := cell_later hb km5
    replace km6 := cell_later hb km6
    replace kb0 := cell_later hb kb0
    replace kb1 := cell_later hb kb1
    replace kb2 := cell_later hb kb2
    replace kb3 := cell_later hb kb3
    replace jr0 := fro_later hb kr0 jr0
    replace kr0 := cell_later hb kr0
    replace jr1 := fro_later hb kr1 jr1
    replace kr1 := cell_later hb kr1
    replace jr2 := fro_later hb kr2 jr2
    replace kr2 := cell_later hb kr2
    replace jr3 := fro_later hb kr3 jr3
    replace kr3 := cell_later hb kr3
    replace zx : gx < wt7.heap.size := World.block_lt_of_cell? _ _ kx0
    replace zy : gy < wt7.heap.size := World.block_lt_of_cell? _ _ ky0
    replace zm : w.heap.size < wt7.heap.size := World.block_lt_of_cell? _ _ km0
    replace zb : w.heap.size + 1 < wt7.heap.size := World.block_lt_of_cell? _ _ kb0
    replace zr : w.heap.size + 1 + 1 < wt7.heap.size := World.block_lt_of_cell? _ _ kr0
    have zr_wt7 := zr
    replace hb0 : Below w.heap.size w wt7 := (by repeat (first | with_reducible exact Below.refl _ _ | with_reducible assumption | with_reducible refine Below.setCell ?_ (by first | omega | (simp <;> omega)) _ | with_reducible refine balloc ?_ _ | with_reducible refine Below.drew ?_ | with_reducible refine bstep ?_ (by with_reducible assumption)))
    clear hb
    (try go_wp2_with fail)
    refine hKK.out _ _ (by first | (go_keep; done) | ((repeat' apply And.intro) <;> go_simp)) (fun hHeld => ?_)
    clear hKK KK
    try simp only [Act.put, List.setIfInBounds_toArray, List.set_cons_zero, List.set_cons_succ]
    refine wpAnyH_ready (rs := [13]) (by kernel_rfl) (by simp) ?_
    refine AllReadyH.cons (o := ⟨some 31, _, _, _, _, _⟩) rfl (fun KK hKK => ?_) AllReadyH.nil
    go_simp
    refine Calls.mono (Y2 _) ?_
    rintro e wt8 ⟨rfl, hb⟩
    replace kx0 := cell_later hb kx0
    replace kx1 := cell_later hb kx1
    replace ky0 := cell_later hb ky0
    replace ky1 := cell_later hb ky1
    replace km0 := cell_later hb km0
    replace km1 := cell_later hb km1
    replace km2 := cell_later hb km2
    replace km3 := cell_later hb km3
    replace km4 := cell_later hb km4
    replace km5 := cell_later hb km5
    replace km6 := cell_later hb km6
    replace kb0 := cell_later hb kb0
    replace kb1 := cell_later hb kb1
    replace kb2 := cell_later hb kb2
    replace kb3 := cell_later hb kb3
    replace jr0 := fro_later hb kr0 jr0
    replace kr0 := cell_later hb kr0
    replace jr1 := fro_later hb kr1 jr1
    replace kr1 := cell_later hb kr1
    replace jr2 := fro_later hb kr2 jr2
    replace kr2 := cell_later hb kr2
    replace jr3 := fro_later hb kr3 jr3
    replace kr3 := cell_later hb kr3
    replace zx : gx < wt8.heap.size := World.block_lt_of_cell? _ _ kx0
    replace zy : gy < wt8.heap.size := World.block_lt_of_cell? _ _ ky0
    replace zm : w.heap.size < wt8.heap.size := World.block_lt_of_cell? _ _ km0
    replace zb : w.heap.size + 1 < wt8.heap.size := World.block_lt_of_cell? _ _ kb0
    replace zr : w.heap.size + 1 + 1 < wt8.heap.size := World.block_lt_of_cell? _ _ kr0
    have zr_wt8 := zr
    replace hb0 : Below w.heap.size w wt8 := (by repeat (first | with_reducible exact Below.refl _ _ | with_reducible assumption | with_reducible refine Below.setCell ?_ (by first | omega | (simp <;> omega)) _ | with_reducible refine balloc ?_ _ | with_reducible refine Below.drew ?_ | with_reducible refine bstep ?_ (by with_reducible assumption)))
    clear hb
    (try go_wp2_with fail)
    refine hKK.out _ _ (by first | (go_keep; done) | ((repeat' apply And.intro) <;> go_simp)) (fun hHeld => ?_)
    clear hKK KK
    try simp only [Act.put, List.setIfInBounds_toArray, List.set_cons_zero, List.set_cons_succ]
    refine wpAnyH_ready (rs := [14]) (by kernel_rfl) (by simp) ?_
    refine AllReadyH.cons (o := ⟨some 32, _, _, _, _, _⟩) rfl (fun KK hKK => ?_) AllReadyH.nil
    go_simp
    refine Calls.mono (P1 _) ?_
    rintro e wt9 ⟨rfl, hb⟩
    replace kx0 := cell_later hb kx0
    replace kx1 := cell_later hb kx1
    replace ky0 := cell_later hb ky0
    replace ky1 := cell_later hb ky1
    replace km0 := cell_later hb km0
    replace km1 := cell_later hb km1
    replace km2 := cell_later hb km2
    replace km3 := cell_later hb km3
    replace km4 := cell_later hb km4
    replace km5 := cell_later hb km5
    replace km6 := cell_later hb km6
    replace kb0 := cell_later hb kb0
    replace kb1 := cell_later hb kb1
    replace kb2 := cell_later hb kb2
    replace kb3 := cell_later hb kb3
    replace jr0 := fro_later hb kr0 jr0
    replace kr0 := cell_later hb kr0
    replace jr1 := fro_later hb kr1 jr1
    replace kr1 := cell_later hb kr1
    replace jr2 := fro_later hb kr2 jr2
    replace kr2 := cell_later hb kr2
    replace jr3 := fro_later hb kr3 jr3
    replace kr3 := cell_later hb kr3
    replace zx : gx < wt9.heap.size := World.block_lt_of_cell? _ _ kx0
    replace zy : gy < wt9.heap.size := World.block_lt_of_cell? _ _ ky0
    replace zm : w.heap.size < wt9.heap.size := World.block_lt_of_cell? _ _ km0
    replace zb : w.heap.size + 1 < wt9.heap.size := World.block_lt_of_cell? _ _ kb0
    replace zr : w.heap.size + 1 + 1 < wt9.heap.size := World.block_lt_of_cell? _ _ kr0
    have zr_wt9 := zr
    replace hb0 : Below w.heap.size w wt9 := (by repeat (first | with_reducible exact Below.refl _ _ | with_reducible assumption | with_reducible refine Below.setCell ?_ (by first | omega | (simp <;> omega)) _ | with_reducible refine balloc ?_ _ | with_reducible refine Below.drew ?_ | with_reducible refine bstep ?_ (by with_reducible assumption)))
    clear hb
    (try go_wp2_with fail)
    refine hKK.out _ _ (by first | (go_keep; done) | ((repeat' apply And.intro) <;> go_simp)) (fun hHeld => ?_)
    clear hKK KK
    try simp only [Act.put, List.setIfInBounds_toArray, List.set_cons_zero, List.set_cons_succ]
    refine wpAnyH_take (i := 15) (oi := ⟨some 33, _, _, _, _, _⟩) (v := ?_) rfl (by kernel_rfl) (by kernel_rfl) (by kernel_rfl) (fun _ _ _ h => h) (Or.inl ⟨by rfl, ?_⟩) (by assumption) ?_
    rotate_left
    · intro w hSw; (try dsimp only at hSw); go_simp; try with_reducible rfl
    try simp only [Act.put, List.setIfInBounds_toArray, List.set_cons_zero, List.set_cons_succ]
    refine wpAnyH_take (i := 16) (oi := ⟨some 34, _, _, _, _, _⟩) (v := ?_) rfl (by kernel_rfl) (by kernel_rfl) (by kernel_rfl) (fun _ _ _ h => h) (Or.inl ⟨by rfl, ?_⟩) (by assumption) ?_
    rotate_left
    · intro w hSw; (try dsimp only at hSw); go_simp; try with_reducible rfl
    try simp only [Act.put, List.setIfInBounds_toArray, List.set_cons_zero, List.set_cons_succ]
    refine wpAnyH_ready (rs := [17]) (by kernel_rfl) (by simp) ?_
    refine AllReadyH.cons (o := ⟨none, _, _, _, _, _⟩) rfl (fun KK hKK => ?_) AllReadyH.nil
    go_simp
    (try go_wp2_with fail)
    refine hKK.out _ _ (by first | (go_keep; done) | ((repeat' apply And.intro) <;> go_simp)) (fun hHeld => ?_)
    clear hKK KK
    try simp only [Act.put, List.setIfInBounds_toArray, List.set_cons_zero, List.set_cons_succ]
    refine wpAnyH_take (i := 18) (oi := ⟨some 5, _, _, _, _, _⟩) (v := ?_) rfl (by kernel_rfl) (by kernel_rfl) (by kernel_rfl) (fun _ _ _ h => h) (Or.inl ⟨by rfl, ?_⟩) (by assumption) ?_
    rotate_left
    · intro w hSw; (try dsimp only at hSw); go_simp; try with_reducible rfl
    try simp only [Act.put, List.setIfInBounds_toArray, List.set_cons_zero, List.set_cons_succ]
    refine wpAnyH_done (by kernel_rfl) ?_ _
    (try dsimp only [Exit.then, Met])
    go_wp2
    refine bodyPost_ret ?_ rfl ⟨rfl, (by repeat (first | with_reducible exact Below.refl _ _ | with_reducible assumption | with_reducible refine Below.setCell ?_ (by first | omega | (simp <;> omega)) _ | with_reducible refine balloc ?_ _ | with_reducible refine Below.drew ?_ | with_reducible refine bstep ?_ (by with_reducible assumption)))⟩
    simp [results, Try.results44, go_sem, kr0, kr1, kr2, kr3]


end Go.Proofs.Ytlkjpackjjncaaa.Da
