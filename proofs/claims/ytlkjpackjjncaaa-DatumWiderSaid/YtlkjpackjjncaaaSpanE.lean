/- SpanE: package span, boxes. -/
import Derived.Test.YtlkjpackjjncaaaSpanD
import Derived.Test.YtlkjpackjjncaaaRows
import Derived.WalkKit
import Derived.WalkSpells
import Derived.WalkLawsBesides
import Derived.Lib.Hide
import Derived.Deep.QuietTactic
import Derived.BigQuiet
import Derived.RegionTactic
import Derived.ChangeAlike
import Derived.BigRegion
import Derived.Deep.RegionHeld3
import Derived.Deep.RegionWith
import Derived.Outline
import Derived.Deep.DeepCutAuto
namespace Go.Proofs.Ytlkjpackjjncaaa.Sp
open Go.RowKit
set_option linter.unusedSimpArgs false
set_option linter.unusedVariables false

set_option maxHeartbeats 800000 in
theorem grow_c (s1 s2 n : Int) (g : Nat) (w : World) (hg : w.cell? ⟨g, 0, none⟩ = some (.int .i64 n)) (hgs : g < w.heap.size) (h1 : -1000000 ≤ s1 ∧ s1 ≤ 1000000) (h2 : -1000000 ≤ s2 ∧ s2 ≤ 1000000) (h3 : 0 ≤ n ∧ n ≤ 3000000) :
    Calls Try.prog 76 #[(.agg #[.int .i64 s1, .int .i64 s2]), .pointer (some ⟨g, 0, none⟩)] w (Ret w (.agg #[(.int .i64 (s1 - n)), (.int .i64 (s2 + n))])) := by
  go_enter Try.func76, Try.ntmps76
  go_wp2
  refine bodyPost_ret ?_ rfl ⟨rfl, (by repeat (first | exact Below.refl _ _ | assumption | refine bstep ?_ (by assumption) | refine Below.drew ?_ | refine balloc ?_ _ | refine Below.setCell ?_ (by first | omega | (simp <;> omega)) _))⟩
  simp [results, Try.results76, go_sem]

set_option maxHeartbeats 3200000 in
theorem GrowBox_c (b1 b2 b3 b4 n : Int) (w : World)  : Calls Try.prog 58 #[(.agg #[(.int .i64 b1), (.int .i64 b2), (.int .i64 b3), (.int .i64 b4)]), (.int .i64 n)] w (Ret w (.tuple #[.agg #[(.int .i64 (selI ((vGrowBox b1 b2 b3 b4 n) && (rGrowBox b1 b2 b3 b4 n)) (b1 - n))), (.int .i64 (selI ((vGrowBox b1 b2 b3 b4 n) && (rGrowBox b1 b2 b3 b4 n)) (b2 + n))), (.int .i64 (selI ((vGrowBox b1 b2 b3 b4 n) && (rGrowBox b1 b2 b3 b4 n)) (b3 - n))), (.int .i64 (selI ((vGrowBox b1 b2 b3 b4 n) && (rGrowBox b1 b2 b3 b4 n)) (b4 + n)))], (.int .i64 (erv (vGrowBox b1 b2 b3 b4 n) (rGrowBox b1 b2 b3 b4 n) 3))])) := by
  rcases Bool.eq_false_or_eq_true (vB b1 b2 b3 b4) with h1 | h1
  ·
    have u1 := vB_iff.1 h1
    by_cases h2 : 0 ≤ n ∧ n ≤ 3000000
    ·
      rcases Bool.eq_false_or_eq_true (vB (b1 - n) (b2 + n) (b3 - n) (b4 + n)) with h3 | h3
      all_goals
        go_enter Try.func58, Try.ntmps58
        go_wp2_with fail
        refine Calls.mono (validBox_c _ _ _ _ _) ?_
        rintro e w1 ⟨rfl, hb⟩
        have kb0 : w1.cell? ⟨w.heap.size, 0, none⟩ = some (.int .i64 b1) := cell_later hb (by go_simp)
        have kb1 : w1.cell? ⟨w.heap.size, 1, none⟩ = some (.int .i64 b2) := cell_later hb (by go_simp)
        have kb2 : w1.cell? ⟨w.heap.size, 2, none⟩ = some (.int .i64 b3) := cell_later hb (by go_simp)
        have kb3 : w1.cell? ⟨w.heap.size, 3, none⟩ = some (.int .i64 b4) := cell_later hb (by go_simp)
        have kn0 : w1.cell? ⟨w.heap.size + 1, 0, none⟩ = some (.int .i64 n) := cell_later hb (by go_simp)
        have kr0 : w1.cell? ⟨w.heap.size + 1 + 1, 0, none⟩ = some (.int .i64 0) := cell_later hb (by go_simp)
        have jr0 : w1.frozen? ⟨w.heap.size + 1 + 1, 0, none⟩ = false := by rw [(bcell hb).2 _ _ (by first | omega | (simp <;> omega))]; go_simp
        have kr1 : w1.cell? ⟨w.heap.size + 1 + 1, 1, none⟩ = some (.int .i64 0) := cell_later hb (by go_simp)
        have jr1 : w1.frozen? ⟨w.heap.size + 1 + 1, 1, none⟩ = false := by rw [(bcell hb).2 _ _ (by first | omega | (simp <;> omega))]; go_simp
        have kr2 : w1.cell? ⟨w.heap.size + 1 + 1, 2, none⟩ = some (.int .i64 0) := cell_later hb (by go_simp)
        have jr2 : w1.frozen? ⟨w.heap.size + 1 + 1, 2, none⟩ = false := by rw [(bcell hb).2 _ _ (by first | omega | (simp <;> omega))]; go_simp
        have kr3 : w1.cell? ⟨w.heap.size + 1 + 1, 3, none⟩ = some (.int .i64 0) := cell_later hb (by go_simp)
        have jr3 : w1.frozen? ⟨w.heap.size + 1 + 1, 3, none⟩ = false := by rw [(bcell hb).2 _ _ (by first | omega | (simp <;> omega))]; go_simp
        have zb : w.heap.size < w1.heap.size := World.block_lt_of_cell? _ _ kb0
        have zn : w.heap.size + 1 < w1.heap.size := World.block_lt_of_cell? _ _ kn0
        have zr : w.heap.size + 1 + 1 < w1.heap.size := World.block_lt_of_cell? _ _ kr0
        have hb0 : Below w.heap.size w w1 := (by repeat (first | exact Below.refl _ _ | assumption | refine bstep ?_ (by assumption) | refine Below.drew ?_ | refine balloc ?_ _ | refine Below.setCell ?_ (by first | omega | (simp <;> omega)) _))
        clear hb
        go_upto_region 4 with fail
        go_cut [7] (fun sx wx => ∃ gm : Nat, sx = .pointer (some ⟨gm, 0, none⟩) ∧ wx.cell? ⟨gm, 0, none⟩ = some (.int .i64 (b1 - n)) ∧ wx.cell? ⟨gm, 1, none⟩ = some (.int .i64 (b2 + n)) ∧ wx.cell? ⟨gm, 2, none⟩ = some (.int .i64 (b3 - n)) ∧ wx.cell? ⟨gm, 3, none⟩ = some (.int .i64 (b4 + n)) ∧ wx.cell? ⟨w.heap.size, 0, none⟩ = some (.int .i64 b1) ∧ wx.cell? ⟨w.heap.size, 1, none⟩ = some (.int .i64 b2) ∧ wx.cell? ⟨w.heap.size, 2, none⟩ = some (.int .i64 b3) ∧ wx.cell? ⟨w.heap.size, 3, none⟩ = some (.int .i64 b4) ∧ wx.cell? ⟨w.heap.size + 1, 0, none⟩ = some (.int .i64 n) ∧ wx.cell? ⟨w.heap.size + 1 + 1, 0, none⟩ = some (.int .i64 0) ∧ wx.frozen? ⟨w.heap.size + 1 + 1, 0, none⟩ = false ∧ wx.cell? ⟨w.heap.size + 1 + 1, 1, none⟩ = some (.int .i64 0) ∧ wx.frozen? ⟨w.heap.size + 1 + 1, 1, none⟩ = false ∧ wx.cell? ⟨w.heap.size + 1 + 1, 2, none⟩ = some (.int .i64 0) ∧ wx.frozen? ⟨w.heap.size + 1 + 1, 2, none⟩ = false ∧ wx.cell? ⟨w.heap.size + 1 + 1, 3, none⟩ = some (.int .i64 0) ∧ wx.frozen? ⟨w.heap.size + 1 + 1, 3, none⟩ = false ∧ Below w.heap.size w wx)
        case first =>
          go_region_held3 (fun w' => w'.cell? ⟨w.heap.size, 0, none⟩ = some (.int .i64 b1) ∧ w'.cell? ⟨w.heap.size, 1, none⟩ = some (.int .i64 b2) ∧ w'.cell? ⟨w.heap.size, 2, none⟩ = some (.int .i64 b3) ∧ w'.cell? ⟨w.heap.size, 3, none⟩ = some (.int .i64 b4) ∧ w'.cell? ⟨w.heap.size + 1, 0, none⟩ = some (.int .i64 n)) (first | (go_keep; done) | ((repeat' apply And.intro) <;> go_simp)) (first | (go_at_call 76; refine Calls.mono (grow_c _ _ n (w.heap.size + 1) _ ?_ ?_ ?_ ?_ ?_) ?_; (first | (with_reducible assumption) | go_simp); (first | omega | (simp <;> omega)); omega; omega; omega; rintro e wr ⟨rfl, hb⟩; have kb0 : wr.cell? ⟨w.heap.size, 0, none⟩ = some (.int .i64 b1) := cell_later hb (by first | (with_reducible assumption) | go_simp); have kb1 : wr.cell? ⟨w.heap.size, 1, none⟩ = some (.int .i64 b2) := cell_later hb (by first | (with_reducible assumption) | go_simp); have kb2 : wr.cell? ⟨w.heap.size, 2, none⟩ = some (.int .i64 b3) := cell_later hb (by first | (with_reducible assumption) | go_simp); have kb3 : wr.cell? ⟨w.heap.size, 3, none⟩ = some (.int .i64 b4) := cell_later hb (by first | (with_reducible assumption) | go_simp); have zb : w.heap.size < wr.heap.size := World.block_lt_of_cell? _ _ kb0; have kn0 : wr.cell? ⟨w.heap.size + 1, 0, none⟩ = some (.int .i64 n) := cell_later hb (by first | (with_reducible assumption) | go_simp); have zn : w.heap.size + 1 < wr.heap.size := World.block_lt_of_cell? _ _ kn0; have kr0 : wr.cell? ⟨w.heap.size + 1 + 1, 0, none⟩ = some (.int .i64 0) := cell_later hb (by first | (with_reducible assumption) | go_simp); have jr0 : wr.frozen? ⟨w.heap.size + 1 + 1, 0, none⟩ = false := (by rw [(bcell hb).2 _ _ (by first | omega | (simp <;> omega))]; first | (with_reducible assumption) | go_simp); have kr1 : wr.cell? ⟨w.heap.size + 1 + 1, 1, none⟩ = some (.int .i64 0) := cell_later hb (by first | (with_reducible assumption) | go_simp); have jr1 : wr.frozen? ⟨w.heap.size + 1 + 1, 1, none⟩ = false := (by rw [(bcell hb).2 _ _ (by first | omega | (simp <;> omega))]; first | (with_reducible assumption) | go_simp); have kr2 : wr.cell? ⟨w.heap.size + 1 + 1, 2, none⟩ = some (.int .i64 0) := cell_later hb (by first | (with_reducible assumption) | go_simp); have jr2 : wr.frozen? ⟨w.heap.size + 1 + 1, 2, none⟩ = false := (by rw [(bcell hb).2 _ _ (by first | omega | (simp <;> omega))]; first | (with_reducible assumption) | go_simp); have kr3 : wr.cell? ⟨w.heap.size + 1 + 1, 3, none⟩ = some (.int .i64 0) := cell_later hb (by first | (with_reducible assumption) | go_simp); have jr3 : wr.frozen? ⟨w.heap.size + 1 + 1, 3, none⟩ = false := (by rw [(bcell hb).2 _ _ (by first | omega | (simp <;> omega))]; first | (with_reducible assumption) | go_simp); have zr : w.heap.size + 1 + 1 < wr.heap.size := World.block_lt_of_cell? _ _ kr0; have hcr := (bcell hb).1; have hfr := (bcell hb).2; have hsr := hb.size; (try simp at hsr); (try have zq : w1.heap.size < wr.heap.size := (by omega))))
          all_goals
            go_wp2_with fail
            go_meet
            refine ⟨_, rfl, ?_, ?_, ?_, ?_, ?_, ?_, ?_, ?_, ?_, ?_, ?_, ?_, ?_, ?_, ?_, ?_, ?_, (by repeat (first | exact Below.refl _ _ | assumption | refine bstep ?_ (by assumption) | refine Below.drew ?_ | refine balloc ?_ _ | refine Below.setCell ?_ (by first | omega | (simp <;> omega)) _))⟩
            all_goals first | (with_reducible assumption) | go_simp
        case rest =>
          obtain ⟨gm, rfl, km0, km1, km2, km3, kb0, kb1, kb2, kb3, kn0, kr0, jr0, kr1, jr1, kr2, jr2, kr3, jr3, hb0⟩ := hcut
          have zm : gm < wc.heap.size := World.block_lt_of_cell? _ _ km0
          have zb : w.heap.size < wc.heap.size := World.block_lt_of_cell? _ _ kb0
          have zn : w.heap.size + 1 < wc.heap.size := World.block_lt_of_cell? _ _ kn0
          have zr : w.heap.size + 1 + 1 < wc.heap.size := World.block_lt_of_cell? _ _ kr0
          go_wp2_with fail
          refine Calls.mono (validBox_c _ _ _ _ _) ?_
          rintro e w2 ⟨rfl, hb⟩
          replace km0 : w2.cell? ⟨gm, 0, none⟩ = some (.int .i64 (b1 - n)) := cell_later hb (by first | (with_reducible exact km0) | (with_reducible exact cell_al _ km0) | (with_reducible exact cell_al _ (cell_al _ km0)) | go_simp)
          replace km1 : w2.cell? ⟨gm, 1, none⟩ = some (.int .i64 (b2 + n)) := cell_later hb (by first | (with_reducible exact km1) | (with_reducible exact cell_al _ km1) | (with_reducible exact cell_al _ (cell_al _ km1)) | go_simp)
          replace km2 : w2.cell? ⟨gm, 2, none⟩ = some (.int .i64 (b3 - n)) := cell_later hb (by first | (with_reducible exact km2) | (with_reducible exact cell_al _ km2) | (with_reducible exact cell_al _ (cell_al _ km2)) | go_simp)
          replace km3 : w2.cell? ⟨gm, 3, none⟩ = some (.int .i64 (b4 + n)) := cell_later hb (by first | (with_reducible exact km3) | (with_reducible exact cell_al _ km3) | (with_reducible exact cell_al _ (cell_al _ km3)) | go_simp)
          replace kb0 : w2.cell? ⟨w.heap.size, 0, none⟩ = some (.int .i64 b1) := cell_later hb (by first | (with_reducible exact kb0) | (with_reducible exact cell_al _ kb0) | (with_reducible exact cell_al _ (cell_al _ kb0)) | go_simp)
          replace kb1 : w2.cell? ⟨w.heap.size, 1, none⟩ = some (.int .i64 b2) := cell_later hb (by first | (with_reducible exact kb1) | (with_reducible exact cell_al _ kb1) | (with_reducible exact cell_al _ (cell_al _ kb1)) | go_simp)
          replace kb2 : w2.cell? ⟨w.heap.size, 2, none⟩ = some (.int .i64 b3) := cell_later hb (by first | (with_reducible exact kb2) | (with_reducible exact cell_al _ kb2) | (with_reducible exact cell_al _ (cell_al _ kb2)) | go_simp)
          replace kb3 : w2.cell? ⟨w.heap.size, 3, none⟩ = some (.int .i64 b4) := cell_later hb (by first | (with_reducible exact kb3) | (with_reducible exact cell_al _ kb3) | (with_reducible exact cell_al _ (cell_al _ kb3)) | go_simp)
          replace kn0 : w2.cell? ⟨w.heap.size + 1, 0, none⟩ = some (.int .i64 n) := cell_later hb (by first | (with_reducible exact kn0) | (with_reducible exact cell_al _ kn0) | (with_reducible exact cell_al _ (cell_al _ kn0)) | go_simp)
          replace kr0 : w2.cell? ⟨w.heap.size + 1 + 1, 0, none⟩ = some (.int .i64 0) := cell_later hb (by first | (with_reducible exact kr0) | (with_reducible exact cell_al _ kr0) | (with_reducible exact cell_al _ (cell_al _ kr0)) | go_simp)
          replace jr0 : w2.frozen? ⟨w.heap.size + 1 + 1, 0, none⟩ = false := by rw [(bcell hb).2 _ _ (by first | omega | (simp <;> omega))]; first | (with_reducible exact jr0) | go_simp
          replace kr1 : w2.cell? ⟨w.heap.size + 1 + 1, 1, none⟩ = some (.int .i64 0) := cell_later hb (by first | (with_reducible exact kr1) | (with_reducible exact cell_al _ kr1) | (with_reducible exact cell_al _ (cell_al _ kr1)) | go_simp)
          replace jr1 : w2.frozen? ⟨w.heap.size + 1 + 1, 1, none⟩ = false := by rw [(bcell hb).2 _ _ (by first | omega | (simp <;> omega))]; first | (with_reducible exact jr1) | go_simp
          replace kr2 : w2.cell? ⟨w.heap.size + 1 + 1, 2, none⟩ = some (.int .i64 0) := cell_later hb (by first | (with_reducible exact kr2) | (with_reducible exact cell_al _ kr2) | (with_reducible exact cell_al _ (cell_al _ kr2)) | go_simp)
          replace jr2 : w2.frozen? ⟨w.heap.size + 1 + 1, 2, none⟩ = false := by rw [(bcell hb).2 _ _ (by first | omega | (simp <;> omega))]; first | (with_reducible exact jr2) | go_simp
          replace kr3 : w2.cell? ⟨w.heap.size + 1 + 1, 3, none⟩ = some (.int .i64 0) := cell_later hb (by first | (with_reducible exact kr3) | (with_reducible exact cell_al _ kr3) | (with_reducible exact cell_al _ (cell_al _ kr3)) | go_simp)
          replace jr3 : w2.frozen? ⟨w.heap.size + 1 + 1, 3, none⟩ = false := by rw [(bcell hb).2 _ _ (by first | omega | (simp <;> omega))]; first | (with_reducible exact jr3) | go_simp
          replace zm : gm < w2.heap.size := World.block_lt_of_cell? _ _ km0
          replace zb : w.heap.size < w2.heap.size := World.block_lt_of_cell? _ _ kb0
          replace zn : w.heap.size + 1 < w2.heap.size := World.block_lt_of_cell? _ _ kn0
          replace zr : w.heap.size + 1 + 1 < w2.heap.size := World.block_lt_of_cell? _ _ kr0
          replace hb0 : Below w.heap.size w w2 := (by repeat (first | exact Below.refl _ _ | assumption | refine bstep ?_ (by assumption) | refine Below.drew ?_ | refine balloc ?_ _ | refine Below.setCell ?_ (by first | omega | (simp <;> omega)) _))
          clear hb
          rw [h3]
          go_wp2
          refine bodyPost_ret ?_ rfl ⟨rfl, (by repeat (first | exact Below.refl _ _ | assumption | refine bstep ?_ (by assumption) | refine Below.drew ?_ | refine balloc ?_ _ | refine Below.setCell ?_ (by first | omega | (simp <;> omega)) _))⟩
          simp [results, Try.results58, go_sem, vGrowBox, rGrowBox, selI, erv, h1, h2, h3, kr0, kr1, kr2, kr3]
    ·
      go_enter Try.func58, Try.ntmps58
      go_wp2_with fail
      refine Calls.mono (validBox_c _ _ _ _ _) ?_
      rintro e w1 ⟨rfl, hb⟩
      have kb0 : w1.cell? ⟨w.heap.size, 0, none⟩ = some (.int .i64 b1) := cell_later hb (by go_simp)
      have kb1 : w1.cell? ⟨w.heap.size, 1, none⟩ = some (.int .i64 b2) := cell_later hb (by go_simp)
      have kb2 : w1.cell? ⟨w.heap.size, 2, none⟩ = some (.int .i64 b3) := cell_later hb (by go_simp)
      have kb3 : w1.cell? ⟨w.heap.size, 3, none⟩ = some (.int .i64 b4) := cell_later hb (by go_simp)
      have kn0 : w1.cell? ⟨w.heap.size + 1, 0, none⟩ = some (.int .i64 n) := cell_later hb (by go_simp)
      have kr0 : w1.cell? ⟨w.heap.size + 1 + 1, 0, none⟩ = some (.int .i64 0) := cell_later hb (by go_simp)
      have jr0 : w1.frozen? ⟨w.heap.size + 1 + 1, 0, none⟩ = false := by rw [(bcell hb).2 _ _ (by first | omega | (simp <;> omega))]; go_simp
      have kr1 : w1.cell? ⟨w.heap.size + 1 + 1, 1, none⟩ = some (.int .i64 0) := cell_later hb (by go_simp)
      have jr1 : w1.frozen? ⟨w.heap.size + 1 + 1, 1, none⟩ = false := by rw [(bcell hb).2 _ _ (by first | omega | (simp <;> omega))]; go_simp
      have kr2 : w1.cell? ⟨w.heap.size + 1 + 1, 2, none⟩ = some (.int .i64 0) := cell_later hb (by go_simp)
      have jr2 : w1.frozen? ⟨w.heap.size + 1 + 1, 2, none⟩ = false := by rw [(bcell hb).2 _ _ (by first | omega | (simp <;> omega))]; go_simp
      have kr3 : w1.cell? ⟨w.heap.size + 1 + 1, 3, none⟩ = some (.int .i64 0) := cell_later hb (by go_simp)
      have jr3 : w1.frozen? ⟨w.heap.size + 1 + 1, 3, none⟩ = false := by rw [(bcell hb).2 _ _ (by first | omega | (simp <;> omega))]; go_simp
      have zb : w.heap.size < w1.heap.size := World.block_lt_of_cell? _ _ kb0
      have zn : w.heap.size + 1 < w1.heap.size := World.block_lt_of_cell? _ _ kn0
      have zr : w.heap.size + 1 + 1 < w1.heap.size := World.block_lt_of_cell? _ _ kr0
      have hb0 : Below w.heap.size w w1 := (by repeat (first | exact Below.refl _ _ | assumption | refine bstep ?_ (by assumption) | refine Below.drew ?_ | refine balloc ?_ _ | refine Below.setCell ?_ (by first | omega | (simp <;> omega)) _))
      clear hb
      rw [h1]
      have h3 : (decide (0 ≤ n) && decide (n ≤ 3000000)) = false := by rw [Bool.eq_false_iff]; simpa using h2
      go_wp2
      all_goals first | (exfalso; omega) | skip
      all_goals
        refine bodyPost_ret ?_ rfl ⟨rfl, (by repeat (first | exact Below.refl _ _ | assumption | refine bstep ?_ (by assumption) | refine Below.drew ?_ | refine balloc ?_ _ | refine Below.setCell ?_ (by first | omega | (simp <;> omega)) _))⟩
        simp [results, Try.results58, go_sem, vGrowBox, rGrowBox, selI, erv, h1, h3, kr0, kr1, kr2, kr3]
  ·
    go_enter Try.func58, Try.ntmps58
    go_wp2_with fail
    refine Calls.mono (validBox_c _ _ _ _ _) ?_
    rintro e w1 ⟨rfl, hb⟩
    have kb0 : w1.cell? ⟨w.heap.size, 0, none⟩ = some (.int .i64 b1) := cell_later hb (by go_simp)
    have kb1 : w1.cell? ⟨w.heap.size, 1, none⟩ = some (.int .i64 b2) := cell_later hb (by go_simp)
    have kb2 : w1.cell? ⟨w.heap.size, 2, none⟩ = some (.int .i64 b3) := cell_later hb (by go_simp)
    have kb3 : w1.cell? ⟨w.heap.size, 3, none⟩ = some (.int .i64 b4) := cell_later hb (by go_simp)
    have kn0 : w1.cell? ⟨w.heap.size + 1, 0, none⟩ = some (.int .i64 n) := cell_later hb (by go_simp)
    have kr0 : w1.cell? ⟨w.heap.size + 1 + 1, 0, none⟩ = some (.int .i64 0) := cell_later hb (by go_simp)
    have jr0 : w1.frozen? ⟨w.heap.size + 1 + 1, 0, none⟩ = false := by rw [(bcell hb).2 _ _ (by first | omega | (simp <;> omega))]; go_simp
    have kr1 : w1.cell? ⟨w.heap.size + 1 + 1, 1, none⟩ = some (.int .i64 0) := cell_later hb (by go_simp)
    have jr1 : w1.frozen? ⟨w.heap.size + 1 + 1, 1, none⟩ = false := by rw [(bcell hb).2 _ _ (by first | omega | (simp <;> omega))]; go_simp
    have kr2 : w1.cell? ⟨w.heap.size + 1 + 1, 2, none⟩ = some (.int .i64 0) := cell_later hb (by go_simp)
    have jr2 : w1.frozen? ⟨w.heap.size + 1 + 1, 2, none⟩ = false := by rw [(bcell hb).2 _ _ (by first | omega | (simp <;> omega))]; go_simp
    have kr3 : w1.cell? ⟨w.heap.size + 1 + 1, 3, none⟩ = some (.int .i64 0) := cell_later hb (by go_simp)
    have jr3 : w1.frozen? ⟨w.heap.size + 1 + 1, 3, none⟩ = false := by rw [(bcell hb).2 _ _ (by first | omega | (simp <;> omega))]; go_simp
    have zb : w.heap.size < w1.heap.size := World.block_lt_of_cell? _ _ kb0
    have zn : w.heap.size + 1 < w1.heap.size := World.block_lt_of_cell? _ _ kn0
    have zr : w.heap.size + 1 + 1 < w1.heap.size := World.block_lt_of_cell? _ _ kr0
    have hb0 : Below w.heap.size w w1 := (by repeat (first | exact Below.refl _ _ | assumption | refine bstep ?_ (by assumption) | refine Below.drew ?_ | refine balloc ?_ _ | refine Below.setCell ?_ (by first | omega | (simp <;> omega)) _))
    clear hb
    rw [h1]
    go_wp2
    refine bodyPost_ret ?_ rfl ⟨rfl, (by repeat (first | exact Below.refl _ _ | assumption | refine bstep ?_ (by assumption) | refine Below.drew ?_ | refine balloc ?_ _ | refine Below.setCell ?_ (by first | omega | (simp <;> omega)) _))⟩
    simp [results, Try.results58, go_sem, vGrowBox, rGrowBox, selI, erv, h1, kr0, kr1, kr2, kr3]


end Go.Proofs.Ytlkjpackjjncaaa.Sp
