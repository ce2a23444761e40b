/- LawGrown: the law SpanGrown. -/
import Derived.Test.YtendnhmobhicmaaHeadA
import Derived.Test.YtendnhmobhicmaaRows
import Derived.WalkKit
import Derived.WalkSpells
import Derived.WalkLawsBesides
import Derived.Lib.Hide
import Derived.Deep.QuietTactic
import Derived.BigQuiet
import Derived.RegionTactic
import Derived.ChangeAlike
import Derived.BigRegion
import Derived.Deep.RegionHeld3
import Derived.Deep.RegionWith
import Derived.Outline
import Derived.Deep.DeepCutAuto
namespace Go.Proofs.Ytendnhmobhicmaa
open Go.RowKit
set_option linter.unusedSimpArgs false
set_option linter.unusedVariables false

set_option maxRecDepth 100000 in
set_option maxHeartbeats 12800000 in
theorem grown_law (b1 b2 b3 b4 p1 p2 m n : Int) (w : World)  : Calls Try.prog 10 #[(.agg #[(.int .i64 b1), (.int .i64 b2), (.int .i64 b3), (.int .i64 b4)]), (.agg #[(.int .i64 p1), (.int .i64 p2)]), (.int .i64 m), (.int .i64 n)] w (Ret w (.bool true)) := by
  have C1 := fun w => GrowBox_c b1 b2 b3 b4 n w
  rcases Bool.eq_false_or_eq_true (vB b1 b2 b3 b4) with h1 | h1
  ·
    by_cases h2 : 0 ≤ n ∧ n ≤ 3000000
    ·
      have vg : vGrowBox b1 b2 b3 b4 n = true := by unfold vGrowBox; simp [h1, h2]
      rcases Bool.eq_false_or_eq_true (vB (b1 - n) (b2 + n) (b3 - n) (b4 + n)) with h3 | h3
      ·
        have rg : rGrowBox b1 b2 b3 b4 n = true := h3
        simp only [vg, rg, selI, selB, erv, cond_true, cond_false, Bool.and_true, Bool.and_false, Bool.true_and, Bool.false_and] at C1
        clear vg rg
        have i1 := vB_iff.1 h1
        have i3 := vB_iff.1 h3
        obtain ⟨g1, e1⟩ : ∃ q, b1 - n = q := ⟨_, rfl⟩
        obtain ⟨g2, e2⟩ : ∃ q, b2 + n = q := ⟨_, rfl⟩
        obtain ⟨g3, e3⟩ : ∃ q, b3 - n = q := ⟨_, rfl⟩
        obtain ⟨g4, e4⟩ : ∃ q, b4 + n = q := ⟨_, rfl⟩
        rw [e1, e2, e3, e4] at C1 h3 i3
        have C2 := fun w => InBox_c p1 p2 g1 g2 g3 g4 w
        have C3 := fun w => GrowBox_c g1 g2 g3 g4 m w
        have C4 := fun w => GrowBox_c b1 b2 b3 b4 (m + n) w
        rcases Bool.eq_false_or_eq_true (vB p1 p1 p2 p2) with h0 | h0
        ·
          have v2 : vInBox p1 p2 g1 g2 g3 g4 = true := by unfold vInBox; rw [h0, h3]; rfl
          simp only [v2, selI, selB, erv, cond_true, cond_false, Bool.and_true, Bool.and_false, Bool.true_and, Bool.false_and] at C2
          clear v2
          have i0 := vB_iff.1 h0
          obtain ⟨I, hI⟩ : ∃ q, (wI p1 p1 g1 g2 && wI p2 p2 g3 g4) = q := ⟨_, rfl⟩
          rw [hI] at C2
          have xI : I = true ↔ (g1 ≤ p1 ∧ p1 ≤ g2) ∧ (g3 ≤ p2 ∧ p2 ≤ g4) := by rw [← hI, Bool.and_eq_true, wI_iff, wI_iff]
          clear hI
          obtain ⟨x, hx⟩ : ∃ q, q = min (max p1 b1) b2 := ⟨_, rfl⟩
          obtain ⟨y, hy⟩ : ∃ q, q = min (max p2 b3) b4 := ⟨_, rfl⟩
          have hx2 := Lib.hid hx
          have hy2 := Lib.hid hy
          have xI2 : I = true ↔ (x - p1 ≤ n ∧ p1 - x ≤ n) ∧ (y - p2 ≤ n ∧ p2 - y ≤ n) := by rw [xI, hx, hy]; omega
          have hxb : b1 ≤ x ∧ x ≤ b2 := by rw [hx]; omega
          have hyb : b3 ≤ y ∧ y ≤ b4 := by rw [hy]; omega
          have xI3 := Lib.hid xI2
          clear xI xI2 hx hy
          go_enter Try.func10, Try.ntmps10
          go_wp2_with fail
          refine Calls.mono (head_c _) ?_
          rintro e w1 ⟨rfl, hb⟩
          have kb0 : w1.cell? ⟨w.heap.size, 0, none⟩ = some (.int .i64 b1) := cell_later hb (by go_simp)
          have kb1 : w1.cell? ⟨w.heap.size, 1, none⟩ = some (.int .i64 b2) := cell_later hb (by go_simp)
          have kb2 : w1.cell? ⟨w.heap.size, 2, none⟩ = some (.int .i64 b3) := cell_later hb (by go_simp)
          have kb3 : w1.cell? ⟨w.heap.size, 3, none⟩ = some (.int .i64 b4) := cell_later hb (by go_simp)
          have kp0 : w1.cell? ⟨w.heap.size + 1, 0, none⟩ = some (.int .i64 p1) := cell_later hb (by go_simp)
          have kp1 : w1.cell? ⟨w.heap.size + 1, 1, none⟩ = some (.int .i64 p2) := cell_later hb (by go_simp)
          have zb : w.heap.size < w1.heap.size := World.block_lt_of_cell? _ _ kb0
          have zp : w.heap.size + 1 < w1.heap.size := World.block_lt_of_cell? _ _ kp0
          have hb0 : Below w.heap.size w w1 := (by repeat (first | exact Below.refl _ _ | assumption | refine bstep ?_ (by assumption) | refine Below.drew ?_ | refine balloc ?_ _ | refine Below.setCell ?_ (by first | omega | (simp <;> omega)) _))
          clear hb
          go_wp2_with fail
          refine Calls.mono (C1 _) ?_
          rintro e w2 ⟨rfl, hb⟩
          replace kb0 : w2.cell? ⟨w.heap.size, 0, none⟩ = some (.int .i64 b1) := cell_later hb (by first | (with_reducible exact kb0) | (with_reducible exact cell_al _ kb0) | (with_reducible exact cell_al _ (cell_al _ kb0)) | go_simp)
          replace kb1 : w2.cell? ⟨w.heap.size, 1, none⟩ = some (.int .i64 b2) := cell_later hb (by first | (with_reducible exact kb1) | (with_reducible exact cell_al _ kb1) | (with_reducible exact cell_al _ (cell_al _ kb1)) | go_simp)
          replace kb2 : w2.cell? ⟨w.heap.size, 2, none⟩ = some (.int .i64 b3) := cell_later hb (by first | (with_reducible exact kb2) | (with_reducible exact cell_al _ kb2) | (with_reducible exact cell_al _ (cell_al _ kb2)) | go_simp)
          replace kb3 : w2.cell? ⟨w.heap.size, 3, none⟩ = some (.int .i64 b4) := cell_later hb (by first | (with_reducible exact kb3) | (with_reducible exact cell_al _ kb3) | (with_reducible exact cell_al _ (cell_al _ kb3)) | go_simp)
          replace kp0 : w2.cell? ⟨w.heap.size + 1, 0, none⟩ = some (.int .i64 p1) := cell_later hb (by first | (with_reducible exact kp0) | (with_reducible exact cell_al _ kp0) | (with_reducible exact cell_al _ (cell_al _ kp0)) | go_simp)
          replace kp1 : w2.cell? ⟨w.heap.size + 1, 1, none⟩ = some (.int .i64 p2) := cell_later hb (by first | (with_reducible exact kp1) | (with_reducible exact cell_al _ kp1) | (with_reducible exact cell_al _ (cell_al _ kp1)) | go_simp)
          replace zb : w.heap.size < w2.heap.size := World.block_lt_of_cell? _ _ kb0
          replace zp : w.heap.size + 1 < w2.heap.size := World.block_lt_of_cell? _ _ kp0
          replace hb0 : Below w.heap.size w w2 := (by repeat (first | exact Below.refl _ _ | assumption | refine bstep ?_ (by assumption) | refine Below.drew ?_ | refine balloc ?_ _ | refine Below.setCell ?_ (by first | omega | (simp <;> omega)) _))
          clear hb
          go_wp2_with fail
          refine Calls.mono (C2 _) ?_
          rintro e w3 ⟨rfl, hb⟩
          replace kb0 : w3.cell? ⟨w.heap.size, 0, none⟩ = some (.int .i64 b1) := cell_later hb (by first | (with_reducible exact kb0) | (with_reducible exact cell_al _ kb0) | (with_reducible exact cell_al _ (cell_al _ kb0)) | go_simp)
          replace kb1 : w3.cell? ⟨w.heap.size, 1, none⟩ = some (.int .i64 b2) := cell_later hb (by first | (with_reducible exact kb1) | (with_reducible exact cell_al _ kb1) | (with_reducible exact cell_al _ (cell_al _ kb1)) | go_simp)
          replace kb2 : w3.cell? ⟨w.heap.size, 2, none⟩ = some (.int .i64 b3) := cell_later hb (by first | (with_reducible exact kb2) | (with_reducible exact cell_al _ kb2) | (with_reducible exact cell_al _ (cell_al _ kb2)) | go_simp)
          replace kb3 : w3.cell? ⟨w.heap.size, 3, none⟩ = some (.int .i64 b4) := cell_later hb (by first | (with_reducible exact kb3) | (with_reducible exact cell_al _ kb3) | (with_reducible exact cell_al _ (cell_al _ kb3)) | go_simp)
          replace kp0 : w3.cell? ⟨w.heap.size + 1, 0, none⟩ = some (.int .i64 p1) := cell_later hb (by first | (with_reducible exact kp0) | (with_reducible exact cell_al _ kp0) | (with_reducible exact cell_al _ (cell_al _ kp0)) | go_simp)
          replace kp1 : w3.cell? ⟨w.heap.size + 1, 1, none⟩ = some (.int .i64 p2) := cell_later hb (by first | (with_reducible exact kp1) | (with_reducible exact cell_al _ kp1) | (with_reducible exact cell_al _ (cell_al _ kp1)) | go_simp)
          have kg0 : w3.cell? ⟨w2.heap.size, 0, none⟩ = some (.int .i64 g1) := cell_later hb (by go_simp)
          have kg1 : w3.cell? ⟨w2.heap.size, 1, none⟩ = some (.int .i64 g2) := cell_later hb (by go_simp)
          have kg2 : w3.cell? ⟨w2.heap.size, 2, none⟩ = some (.int .i64 g3) := cell_later hb (by go_simp)
          have kg3 : w3.cell? ⟨w2.heap.size, 3, none⟩ = some (.int .i64 g4) := cell_later hb (by go_simp)
          replace zb : w.heap.size < w3.heap.size := World.block_lt_of_cell? _ _ kb0
          replace zp : w.heap.size + 1 < w3.heap.size := World.block_lt_of_cell? _ _ kp0
          have zg : w2.heap.size < w3.heap.size := World.block_lt_of_cell? _ _ kg0
          replace hb0 : Below w.heap.size w w3 := (by repeat (first | exact Below.refl _ _ | assumption | refine bstep ?_ (by assumption) | refine Below.drew ?_ | refine balloc ?_ _ | refine Below.setCell ?_ (by first | omega | (simp <;> omega)) _))
          clear hb
          go_upto_region 7 with fail
          go_cut [14] (fun s14 wx => s14 = (.int .i64 x) ∧ wx.cell? ⟨w.heap.size, 0, none⟩ = some (.int .i64 b1) ∧ wx.cell? ⟨w.heap.size, 1, none⟩ = some (.int .i64 b2) ∧ wx.cell? ⟨w.heap.size, 2, none⟩ = some (.int .i64 b3) ∧ wx.cell? ⟨w.heap.size, 3, none⟩ = some (.int .i64 b4) ∧ wx.cell? ⟨w.heap.size + 1, 0, none⟩ = some (.int .i64 p1) ∧ wx.cell? ⟨w.heap.size + 1, 1, none⟩ = some (.int .i64 p2) ∧ wx.cell? ⟨w2.heap.size, 0, none⟩ = some (.int .i64 g1) ∧ wx.cell? ⟨w2.heap.size, 1, none⟩ = some (.int .i64 g2) ∧ wx.cell? ⟨w2.heap.size, 2, none⟩ = some (.int .i64 g3) ∧ wx.cell? ⟨w2.heap.size, 3, none⟩ = some (.int .i64 g4) ∧ Below w.heap.size w wx)
          case first =>
            go_wp2_with fail
            all_goals
              go_meet
              refine ⟨?_, ?_, ?_, ?_, ?_, ?_, ?_, ?_, ?_, ?_, ?_, (by repeat (first | exact Below.refl _ _ | assumption | refine bstep ?_ (by assumption) | refine Below.drew ?_ | refine balloc ?_ _ | refine Below.setCell ?_ (by first | omega | (simp <;> omega)) _))⟩
              all_goals first | (with_reducible assumption) | (go_simp; done) | rfl | (refine congrArg (Value.int .i64) ?_; have hq := hx2.out; omega)
          case rest =>
            obtain ⟨rfl, kb0, kb1, kb2, kb3, kp0, kp1, kg0, kg1, kg2, kg3, hb0⟩ := hcut
            have zb : w.heap.size < wc.heap.size := World.block_lt_of_cell? _ _ kb0
            have zp : w.heap.size + 1 < wc.heap.size := World.block_lt_of_cell? _ _ kp0
            have zg : w2.heap.size < wc.heap.size := World.block_lt_of_cell? _ _ kg0
            go_upto_region 8 with fail
            go_cut [15] (fun s15 wx => s15 = (.int .i64 y) ∧ wx.cell? ⟨w.heap.size, 0, none⟩ = some (.int .i64 b1) ∧ wx.cell? ⟨w.heap.size, 1, none⟩ = some (.int .i64 b2) ∧ wx.cell? ⟨w.heap.size, 2, none⟩ = some (.int .i64 b3) ∧ wx.cell? ⟨w.heap.size, 3, none⟩ = some (.int .i64 b4) ∧ wx.cell? ⟨w.heap.size + 1, 0, none⟩ = some (.int .i64 p1) ∧ wx.cell? ⟨w.heap.size + 1, 1, none⟩ = some (.int .i64 p2) ∧ wx.cell? ⟨w2.heap.size, 0, none⟩ = some (.int .i64 g1) ∧ wx.cell? ⟨w2.heap.size, 1, none⟩ = some (.int .i64 g2) ∧ wx.cell? ⟨w2.heap.size, 2, none⟩ = some (.int .i64 g3) ∧ wx.cell? ⟨w2.heap.size, 3, none⟩ = some (.int .i64 g4) ∧ Below w.heap.size w wx)
            case first =>
              go_wp2_with fail
              all_goals
                go_meet
                refine ⟨?_, ?_, ?_, ?_, ?_, ?_, ?_, ?_, ?_, ?_, ?_, (by repeat (first | exact Below.refl _ _ | assumption | refine bstep ?_ (by assumption) | refine Below.drew ?_ | refine balloc ?_ _ | refine Below.setCell ?_ (by first | omega | (simp <;> omega)) _))⟩
                all_goals first | (with_reducible assumption) | (go_simp; done) | rfl | (refine congrArg (Value.int .i64) ?_; have hq := hy2.out; omega)
            case rest =>
              obtain ⟨rfl, kb0, kb1, kb2, kb3, kp0, kp1, kg0, kg1, kg2, kg3, hb0⟩ := hcut
              have zb : w.heap.size < wc.heap.size := World.block_lt_of_cell? _ _ kb0
              have zp : w.heap.size + 1 < wc.heap.size := World.block_lt_of_cell? _ _ kp0
              have zg : w2.heap.size < wc.heap.size := World.block_lt_of_cell? _ _ kg0
              go_upto_region 9 with fail
              go_cut [9] (fun s9 wx => s9 = .bool true ∧ wx.cell? ⟨w.heap.size, 0, none⟩ = some (.int .i64 b1) ∧ wx.cell? ⟨w.heap.size, 1, none⟩ = some (.int .i64 b2) ∧ wx.cell? ⟨w.heap.size, 2, none⟩ = some (.int .i64 b3) ∧ wx.cell? ⟨w.heap.size, 3, none⟩ = some (.int .i64 b4) ∧ wx.cell? ⟨w.heap.size + 1, 0, none⟩ = some (.int .i64 p1) ∧ wx.cell? ⟨w.heap.size + 1, 1, none⟩ = some (.int .i64 p2) ∧ wx.cell? ⟨w2.heap.size, 0, none⟩ = some (.int .i64 g1) ∧ wx.cell? ⟨w2.heap.size, 1, none⟩ = some (.int .i64 g2) ∧ wx.cell? ⟨w2.heap.size, 2, none⟩ = some (.int .i64 g3) ∧ wx.cell? ⟨w2.heap.size, 3, none⟩ = some (.int .i64 g4) ∧ Below w.heap.size w wx)
              case first =>
                have xI4 := xI3.out
                clear C1 C2 C3 C4
                cases I
                all_goals simp only [true_iff, iff_true, Bool.false_eq_true, false_iff] at xI4
                all_goals
                all_goals
                  go_wp2_with fail
                  all_goals
                    go_meet
                    refine ⟨?_, ?_, ?_, ?_, ?_, ?_, ?_, ?_, ?_, ?_, ?_, (by repeat (first | exact Below.refl _ _ | assumption | refine bstep ?_ (by assumption) | refine Below.drew ?_ | refine balloc ?_ _ | refine Below.setCell ?_ (by first | omega | (simp <;> omega)) _))⟩
                    all_goals first | (with_reducible assumption) | (go_simp; done) | rfl | (refine congrArg Value.bool ?_; simp; omega) | (refine congrArg Value.bool ?_; simp <;> omega) | (exfalso; omega)
              case rest =>
                obtain ⟨rfl, kb0, kb1, kb2, kb3, kp0, kp1, kg0, kg1, kg2, kg3, hb0⟩ := hcut
                have zb : w.heap.size < wc.heap.size := World.block_lt_of_cell? _ _ kb0
                have zp : w.heap.size + 1 < wc.heap.size := World.block_lt_of_cell? _ _ kp0
                have zg : w2.heap.size < wc.heap.size := World.block_lt_of_cell? _ _ kg0
                by_cases h5 : 0 ≤ m ∧ m ≤ 3000000
                ·
                  have v5 : vGrowBox g1 g2 g3 g4 m = true := by unfold vGrowBox; simp [h3, h5]
                  rcases Bool.eq_false_or_eq_true (vB (g1 - m) (g2 + m) (g3 - m) (g4 + m)) with h6 | h6
                  ·
                    have r5 : rGrowBox g1 g2 g3 g4 m = true := h6
                    simp only [v5, r5, selI, selB, erv, cond_true, cond_false, Bool.and_true, Bool.and_false, Bool.true_and, Bool.false_and] at C3
                    have i6 := vB_iff.1 h6
                    have v6 : vGrowBox b1 b2 b3 b4 (m + n) = true := by unfold vGrowBox; rw [h1, Bool.true_and, Bool.and_eq_true, decide_eq_true_eq, decide_eq_true_eq]; omega
                    have a1 : b1 - (m + n) = g1 - m := by omega
                    have a2 : b2 + (m + n) = g2 + m := by omega
                    have a3 : b3 - (m + n) = g3 - m := by omega
                    have a4 : b4 + (m + n) = g4 + m := by omega
                    have r6 : rGrowBox b1 b2 b3 b4 (m + n) = true := by unfold rGrowBox; rw [a1, a2, a3, a4]; exact h6
                    simp only [v6, r6, selI, selB, erv, cond_true, cond_false, Bool.and_true, Bool.and_false, Bool.true_and, Bool.false_and] at C4
                    rw [a1, a2, a3, a4] at C4
                    clear v5 r5 v6 r6 a1 a2 a3 a4
                    have a5 : IntKind.i64.wrap (m + n) = m + n := IntWalk.i64_in _ (by omega)
                    generalize g1 - m = z1 at C3 C4
                    generalize g2 + m = z2 at C3 C4
                    generalize g3 - m = z3 at C3 C4
                    generalize g4 + m = z4 at C3 C4
                    clear e1 e2 e3 e4
                    go_wp2_with fail
                    refine Calls.mono (C3 _) ?_
                    rintro e w4 ⟨rfl, hb⟩
                    replace kb0 : w4.cell? ⟨w.heap.size, 0, none⟩ = some (.int .i64 b1) := cell_later hb (by first | (with_reducible exact kb0) | (with_reducible exact cell_al _ kb0) | (with_reducible exact cell_al _ (cell_al _ kb0)) | go_simp)
                    replace kb1 : w4.cell? ⟨w.heap.size, 1, none⟩ = some (.int .i64 b2) := cell_later hb (by first | (with_reducible exact kb1) | (with_reducible exact cell_al _ kb1) | (with_reducible exact cell_al _ (cell_al _ kb1)) | go_simp)
                    replace kb2 : w4.cell? ⟨w.heap.size, 2, none⟩ = some (.int .i64 b3) := cell_later hb (by first | (with_reducible exact kb2) | (with_reducible exact cell_al _ kb2) | (with_reducible exact cell_al _ (cell_al _ kb2)) | go_simp)
                    replace kb3 : w4.cell? ⟨w.heap.size, 3, none⟩ = some (.int .i64 b4) := cell_later hb (by first | (with_reducible exact kb3) | (with_reducible exact cell_al _ kb3) | (with_reducible exact cell_al _ (cell_al _ kb3)) | go_simp)
                    replace kp0 : w4.cell? ⟨w.heap.size + 1, 0, none⟩ = some (.int .i64 p1) := cell_later hb (by first | (with_reducible exact kp0) | (with_reducible exact cell_al _ kp0) | (with_reducible exact cell_al _ (cell_al _ kp0)) | go_simp)
                    replace kp1 : w4.cell? ⟨w.heap.size + 1, 1, none⟩ = some (.int .i64 p2) := cell_later hb (by first | (with_reducible exact kp1) | (with_reducible exact cell_al _ kp1) | (with_reducible exact cell_al _ (cell_al _ kp1)) | go_simp)
                    replace kg0 : w4.cell? ⟨w2.heap.size, 0, none⟩ = some (.int .i64 g1) := cell_later hb (by first | (with_reducible exact kg0) | (with_reducible exact cell_al _ kg0) | (with_reducible exact cell_al _ (cell_al _ kg0)) | go_simp)
                    replace kg1 : w4.cell? ⟨w2.heap.size, 1, none⟩ = some (.int .i64 g2) := cell_later hb (by first | (with_reducible exact kg1) | (with_reducible exact cell_al _ kg1) | (with_reducible exact cell_al _ (cell_al _ kg1)) | go_simp)
                    replace kg2 : w4.cell? ⟨w2.heap.size, 2, none⟩ = some (.int .i64 g3) := cell_later hb (by first | (with_reducible exact kg2) | (with_reducible exact cell_al _ kg2) | (with_reducible exact cell_al _ (cell_al _ kg2)) | go_simp)
                    replace kg3 : w4.cell? ⟨w2.heap.size, 3, none⟩ = some (.int .i64 g4) := cell_later hb (by first | (with_reducible exact kg3) | (with_reducible exact cell_al _ kg3) | (with_reducible exact cell_al _ (cell_al _ kg3)) | go_simp)
                    replace zb : w.heap.size < w4.heap.size := World.block_lt_of_cell? _ _ kb0
                    replace zp : w.heap.size + 1 < w4.heap.size := World.block_lt_of_cell? _ _ kp0
                    replace zg : w2.heap.size < w4.heap.size := World.block_lt_of_cell? _ _ kg0
                    replace hb0 : Below w.heap.size w w4 := (by repeat (first | exact Below.refl _ _ | assumption | refine bstep ?_ (by assumption) | refine Below.drew ?_ | refine balloc ?_ _ | refine Below.setCell ?_ (by first | omega | (simp <;> omega)) _))
                    clear hb
                    go_wp2_with fail
                    refine Calls.mono (C4 _) ?_
                    rintro e w5 ⟨rfl, hb⟩
                    replace kb0 : w5.cell? ⟨w.heap.size, 0, none⟩ = some (.int .i64 b1) := cell_later hb (by first | (with_reducible exact kb0) | (with_reducible exact cell_al _ kb0) | (with_reducible exact cell_al _ (cell_al _ kb0)) | go_simp)
                    replace kb1 : w5.cell? ⟨w.heap.size, 1, none⟩ = some (.int .i64 b2) := cell_later hb (by first | (with_reducible exact kb1) | (with_reducible exact cell_al _ kb1) | (with_reducible exact cell_al _ (cell_al _ kb1)) | go_simp)
                    replace kb2 : w5.cell? ⟨w.heap.size, 2, none⟩ = some (.int .i64 b3) := cell_later hb (by first | (with_reducible exact kb2) | (with_reducible exact cell_al _ kb2) | (with_reducible exact cell_al _ (cell_al _ kb2)) | go_simp)
                    replace kb3 : w5.cell? ⟨w.heap.size, 3, none⟩ = some (.int .i64 b4) := cell_later hb (by first | (with_reducible exact kb3) | (with_reducible exact cell_al _ kb3) | (with_reducible exact cell_al _ (cell_al _ kb3)) | go_simp)
                    replace kp0 : w5.cell? ⟨w.heap.size + 1, 0, none⟩ = some (.int .i64 p1) := cell_later hb (by first | (with_reducible exact kp0) | (with_reducible exact cell_al _ kp0) | (with_reducible exact cell_al _ (cell_al _ kp0)) | go_simp)
                    replace kp1 : w5.cell? ⟨w.heap.size + 1, 1, none⟩ = some (.int .i64 p2) := cell_later hb (by first | (with_reducible exact kp1) | (with_reducible exact cell_al _ kp1) | (with_reducible exact cell_al _ (cell_al _ kp1)) | go_simp)
                    replace kg0 : w5.cell? ⟨w2.heap.size, 0, none⟩ = some (.int .i64 g1) := cell_later hb (by first | (with_reducible exact kg0) | (with_reducible exact cell_al _ kg0) | (with_reducible exact cell_al _ (cell_al _ kg0)) | go_simp)
                    replace kg1 : w5.cell? ⟨w2.heap.size, 1, none⟩ = some (.int .i64 g2) := cell_later hb (by first | (with_reducible exact kg1) | (with_reducible exact cell_al _ kg1) | (with_reducible exact cell_al _ (cell_al _ kg1)) | go_simp)
                    replace kg2 : w5.cell? ⟨w2.heap.size, 2, none⟩ = some (.int .i64 g3) := cell_later hb (by first | (with_reducible exact kg2) | (with_reducible exact cell_al _ kg2) | (with_reducible exact cell_al _ (cell_al _ kg2)) | go_simp)
                    replace kg3 : w5.cell? ⟨w2.heap.size, 3, none⟩ = some (.int .i64 g4) := cell_later hb (by first | (with_reducible exact kg3) | (with_reducible exact cell_al _ kg3) | (with_reducible exact cell_al _ (cell_al _ kg3)) | go_simp)
                    have kt0 : w5.cell? ⟨w4.heap.size, 0, none⟩ = some (.int .i64 z1) := cell_later hb (by go_simp)
                    have kt1 : w5.cell? ⟨w4.heap.size, 1, none⟩ = some (.int .i64 z2) := cell_later hb (by go_simp)
                    have kt2 : w5.cell? ⟨w4.heap.size, 2, none⟩ = some (.int .i64 z3) := cell_later hb (by go_simp)
                    have kt3 : w5.cell? ⟨w4.heap.size, 3, none⟩ = some (.int .i64 z4) := cell_later hb (by go_simp)
                    replace zb : w.heap.size < w5.heap.size := World.block_lt_of_cell? _ _ kb0
                    replace zp : w.heap.size + 1 < w5.heap.size := World.block_lt_of_cell? _ _ kp0
                    replace zg : w2.heap.size < w5.heap.size := World.block_lt_of_cell? _ _ kg0
                    have zt : w4.heap.size < w5.heap.size := World.block_lt_of_cell? _ _ kt0
                    replace hb0 : Below w.heap.size w w5 := (by repeat (first | exact Below.refl _ _ | assumption | refine bstep ?_ (by assumption) | refine Below.drew ?_ | refine balloc ?_ _ | refine Below.setCell ?_ (by first | omega | (simp <;> omega)) _))
                    clear hb
                    go_wp2
                    all_goals first | (exfalso; omega) | (go_ret; refine ret_bool ?_ (by repeat (first | exact Below.refl _ _ | assumption | refine bstep ?_ (by assumption) | refine Below.drew ?_ | refine balloc ?_ _ | refine Below.setCell ?_ (by first | omega | (simp <;> omega)) _)); first | (simp; done) | (simp <;> omega))
                  ·
                    have r5 : rGrowBox g1 g2 g3 g4 m = false := h6
                    simp only [v5, r5, selI, selB, erv, cond_true, cond_false, Bool.and_true, Bool.and_false, Bool.true_and, Bool.false_and] at C3
                    clear v5 r5 e1 e2 e3 e4
                    go_wp2_with fail
                    refine Calls.mono (C3 _) ?_
                    rintro e w4 ⟨rfl, hb⟩
                    replace kb0 : w4.cell? ⟨w.heap.size, 0, none⟩ = some (.int .i64 b1) := cell_later hb (by first | (with_reducible exact kb0) | (with_reducible exact cell_al _ kb0) | (with_reducible exact cell_al _ (cell_al _ kb0)) | go_simp)
                    replace kb1 : w4.cell? ⟨w.heap.size, 1, none⟩ = some (.int .i64 b2) := cell_later hb (by first | (with_reducible exact kb1) | (with_reducible exact cell_al _ kb1) | (with_reducible exact cell_al _ (cell_al _ kb1)) | go_simp)
                    replace kb2 : w4.cell? ⟨w.heap.size, 2, none⟩ = some (.int .i64 b3) := cell_later hb (by first | (with_reducible exact kb2) | (with_reducible exact cell_al _ kb2) | (with_reducible exact cell_al _ (cell_al _ kb2)) | go_simp)
                    replace kb3 : w4.cell? ⟨w.heap.size, 3, none⟩ = some (.int .i64 b4) := cell_later hb (by first | (with_reducible exact kb3) | (with_reducible exact cell_al _ kb3) | (with_reducible exact cell_al _ (cell_al _ kb3)) | go_simp)
                    replace kp0 : w4.cell? ⟨w.heap.size + 1, 0, none⟩ = some (.int .i64 p1) := cell_later hb (by first | (with_reducible exact kp0) | (with_reducible exact cell_al _ kp0) | (with_reducible exact cell_al _ (cell_al _ kp0)) | go_simp)
                    replace kp1 : w4.cell? ⟨w.heap.size + 1, 1, none⟩ = some (.int .i64 p2) := cell_later hb (by first | (with_reducible exact kp1) | (with_reducible exact cell_al _ kp1) | (with_reducible exact cell_al _ (cell_al _ kp1)) | go_simp)
                    replace kg0 : w4.cell? ⟨w2.heap.size, 0, none⟩ = some (.int .i64 g1) := cell_later hb (by first | (with_reducible exact kg0) | (with_reducible exact cell_al _ kg0) | (with_reducible exact cell_al _ (cell_al _ kg0)) | go_simp)
                    replace kg1 : w4.cell? ⟨w2.heap.size, 1, none⟩ = some (.int .i64 g2) := cell_later hb (by first | (with_reducible exact kg1) | (with_reducible exact cell_al _ kg1) | (with_reducible exact cell_al _ (cell_al _ kg1)) | go_simp)
                    replace kg2 : w4.cell? ⟨w2.heap.size, 2, none⟩ = some (.int .i64 g3) := cell_later hb (by first | (with_reducible exact kg2) | (with_reducible exact cell_al _ kg2) | (with_reducible exact cell_al _ (cell_al _ kg2)) | go_simp)
                    replace kg3 : w4.cell? ⟨w2.heap.size, 3, none⟩ = some (.int .i64 g4) := cell_later hb (by first | (with_reducible exact kg3) | (with_reducible exact cell_al _ kg3) | (with_reducible exact cell_al _ (cell_al _ kg3)) | go_simp)
                    replace zb : w.heap.size < w4.heap.size := World.block_lt_of_cell? _ _ kb0
                    replace zp : w.heap.size + 1 < w4.heap.size := World.block_lt_of_cell? _ _ kp0
                    replace zg : w2.heap.size < w4.heap.size := World.block_lt_of_cell? _ _ kg0
                    replace hb0 : Below w.heap.size w w4 := (by repeat (first | exact Below.refl _ _ | assumption | refine bstep ?_ (by assumption) | refine Below.drew ?_ | refine balloc ?_ _ | refine Below.setCell ?_ (by first | omega | (simp <;> omega)) _))
                    clear hb
                    go_wp2
                    all_goals first | (exfalso; omega) | (go_ret; refine ret_bool ?_ (by repeat (first | exact Below.refl _ _ | assumption | refine bstep ?_ (by assumption) | refine Below.drew ?_ | refine balloc ?_ _ | refine Below.setCell ?_ (by first | omega | (simp <;> omega)) _)); first | (simp; done) | (simp <;> omega))
                ·
                  have v5 : vGrowBox g1 g2 g3 g4 m = false := by unfold vGrowBox; rw [h3, Bool.true_and, Bool.eq_false_iff, Ne, Bool.and_eq_true, decide_eq_true_eq, decide_eq_true_eq]; exact h5
                  simp only [v5, selI, selB, erv, cond_true, cond_false, Bool.and_true, Bool.and_false, Bool.true_and, Bool.false_and] at C3
                  clear v5 e1 e2 e3 e4
                  go_wp2_with fail
                  refine Calls.mono (C3 _) ?_
                  rintro e w4 ⟨rfl, hb⟩
                  replace kb0 : w4.cell? ⟨w.heap.size, 0, none⟩ = some (.int .i64 b1) := cell_later hb (by first | (with_reducible exact kb0) | (with_reducible exact cell_al _ kb0) | (with_reducible exact cell_al _ (cell_al _ kb0)) | go_simp)
                  replace kb1 : w4.cell? ⟨w.heap.size, 1, none⟩ = some (.int .i64 b2) := cell_later hb (by first | (with_reducible exact kb1) | (with_reducible exact cell_al _ kb1) | (with_reducible exact cell_al _ (cell_al _ kb1)) | go_simp)
                  replace kb2 : w4.cell? ⟨w.heap.size, 2, none⟩ = some (.int .i64 b3) := cell_later hb (by first | (with_reducible exact kb2) | (with_reducible exact cell_al _ kb2) | (with_reducible exact cell_al _ (cell_al _ kb2)) | go_simp)
                  replace kb3 : w4.cell? ⟨w.heap.size, 3, none⟩ = some (.int .i64 b4) := cell_later hb (by first | (with_reducible exact kb3) | (with_reducible exact cell_al _ kb3) | (with_reducible exact cell_al _ (cell_al _ kb3)) | go_simp)
                  replace kp0 : w4.cell? ⟨w.heap.size + 1, 0, none⟩ = some (.int .i64 p1) := cell_later hb (by first | (with_reducible exact kp0) | (with_reducible exact cell_al _ kp0) | (with_reducible exact cell_al _ (cell_al _ kp0)) | go_simp)
                  replace kp1 : w4.cell? ⟨w.heap.size + 1, 1, none⟩ = some (.int .i64 p2) := cell_later hb (by first | (with_reducible exact kp1) | (with_reducible exact cell_al _ kp1) | (with_reducible exact cell_al _ (cell_al _ kp1)) | go_simp)
                  replace kg0 : w4.cell? ⟨w2.heap.size, 0, none⟩ = some (.int .i64 g1) := cell_later hb (by first | (with_reducible exact kg0) | (with_reducible exact cell_al _ kg0) | (with_reducible exact cell_al _ (cell_al _ kg0)) | go_simp)
                  replace kg1 : w4.cell? ⟨w2.heap.size, 1, none⟩ = some (.int .i64 g2) := cell_later hb (by first | (with_reducible exact kg1) | (with_reducible exact cell_al _ kg1) | (with_reducible exact cell_al _ (cell_al _ kg1)) | go_simp)
                  replace kg2 : w4.cell? ⟨w2.heap.size, 2, none⟩ = some (.int .i64 g3) := cell_later hb (by first | (with_reducible exact kg2) | (with_reducible exact cell_al _ kg2) | (with_reducible exact cell_al _ (cell_al _ kg2)) | go_simp)
                  replace kg3 : w4.cell? ⟨w2.heap.size, 3, none⟩ = some (.int .i64 g4) := cell_later hb (by first | (with_reducible exact kg3) | (with_reducible exact cell_al _ kg3) | (with_reducible exact cell_al _ (cell_al _ kg3)) | go_simp)
                  replace zb : w.heap.size < w4.heap.size := World.block_lt_of_cell? _ _ kb0
                  replace zp : w.heap.size + 1 < w4.heap.size := World.block_lt_of_cell? _ _ kp0
                  replace zg : w2.heap.size < w4.heap.size := World.block_lt_of_cell? _ _ kg0
                  replace hb0 : Below w.heap.size w w4 := (by repeat (first | exact Below.refl _ _ | assumption | refine bstep ?_ (by assumption) | refine Below.drew ?_ | refine balloc ?_ _ | refine Below.setCell ?_ (by first | omega | (simp <;> omega)) _))
                  clear hb
                  go_wp2
                  all_goals first | (exfalso; omega) | (go_ret; refine ret_bool ?_ (by repeat (first | exact Below.refl _ _ | assumption | refine bstep ?_ (by assumption) | refine Below.drew ?_ | refine balloc ?_ _ | refine Below.setCell ?_ (by first | omega | (simp <;> omega)) _)); first | (simp; done) | (simp <;> omega))
        ·
          have v2 : vInBox p1 p2 g1 g2 g3 g4 = false := by unfold vInBox; rw [h0]; rfl
          simp only [v2, selI, selB, erv, cond_true, cond_false, Bool.and_true, Bool.and_false, Bool.true_and, Bool.false_and] at C2
          clear v2
          go_enter Try.func10, Try.ntmps10
          go_wp2_with fail
          refine Calls.mono (head_c _) ?_
          rintro e w1 ⟨rfl, hb⟩
          have kb0 : w1.cell? ⟨w.heap.size, 0, none⟩ = some (.int .i64 b1) := cell_later hb (by go_simp)
          have kb1 : w1.cell? ⟨w.heap.size, 1, none⟩ = some (.int .i64 b2) := cell_later hb (by go_simp)
          have kb2 : w1.cell? ⟨w.heap.size, 2, none⟩ = some (.int .i64 b3) := cell_later hb (by go_simp)
          have kb3 : w1.cell? ⟨w.heap.size, 3, none⟩ = some (.int .i64 b4) := cell_later hb (by go_simp)
          have kp0 : w1.cell? ⟨w.heap.size + 1, 0, none⟩ = some (.int .i64 p1) := cell_later hb (by go_simp)
          have kp1 : w1.cell? ⟨w.heap.size + 1, 1, none⟩ = some (.int .i64 p2) := cell_later hb (by go_simp)
          have zb : w.heap.size < w1.heap.size := World.block_lt_of_cell? _ _ kb0
          have zp : w.heap.size + 1 < w1.heap.size := World.block_lt_of_cell? _ _ kp0
          have hb0 : Below w.heap.size w w1 := (by repeat (first | exact Below.refl _ _ | assumption | refine bstep ?_ (by assumption) | refine Below.drew ?_ | refine balloc ?_ _ | refine Below.setCell ?_ (by first | omega | (simp <;> omega)) _))
          clear hb
          go_wp2_with fail
          refine Calls.mono (C1 _) ?_
          rintro e w2 ⟨rfl, hb⟩
          replace kb0 : w2.cell? ⟨w.heap.size, 0, none⟩ = some (.int .i64 b1) := cell_later hb (by first | (with_reducible exact kb0) | (with_reducible exact cell_al _ kb0) | (with_reducible exact cell_al _ (cell_al _ kb0)) | go_simp)
          replace kb1 : w2.cell? ⟨w.heap.size, 1, none⟩ = some (.int .i64 b2) := cell_later hb (by first | (with_reducible exact kb1) | (with_reducible exact cell_al _ kb1) | (with_reducible exact cell_al _ (cell_al _ kb1)) | go_simp)
          replace kb2 : w2.cell? ⟨w.heap.size, 2, none⟩ = some (.int .i64 b3) := cell_later hb (by first | (with_reducible exact kb2) | (with_reducible exact cell_al _ kb2) | (with_reducible exact cell_al _ (cell_al _ kb2)) | go_simp)
          replace kb3 : w2.cell? ⟨w.heap.size, 3, none⟩ = some (.int .i64 b4) := cell_later hb (by first | (with_reducible exact kb3) | (with_reducible exact cell_al _ kb3) | (with_reducible exact cell_al _ (cell_al _ kb3)) | go_simp)
          replace kp0 : w2.cell? ⟨w.heap.size + 1, 0, none⟩ = some (.int .i64 p1) := cell_later hb (by first | (with_reducible exact kp0) | (with_reducible exact cell_al _ kp0) | (with_reducible exact cell_al _ (cell_al _ kp0)) | go_simp)
          replace kp1 : w2.cell? ⟨w.heap.size + 1, 1, none⟩ = some (.int .i64 p2) := cell_later hb (by first | (with_reducible exact kp1) | (with_reducible exact cell_al _ kp1) | (with_reducible exact cell_al _ (cell_al _ kp1)) | go_simp)
          replace zb : w.heap.size < w2.heap.size := World.block_lt_of_cell? _ _ kb0
          replace zp : w.heap.size + 1 < w2.heap.size := World.block_lt_of_cell? _ _ kp0
          replace hb0 : Below w.heap.size w w2 := (by repeat (first | exact Below.refl _ _ | assumption | refine bstep ?_ (by assumption) | refine Below.drew ?_ | refine balloc ?_ _ | refine Below.setCell ?_ (by first | omega | (simp <;> omega)) _))
          clear hb
          go_wp2_with fail
          refine Calls.mono (C2 _) ?_
          rintro e w3 ⟨rfl, hb⟩
          replace kb0 : w3.cell? ⟨w.heap.size, 0, none⟩ = some (.int .i64 b1) := cell_later hb (by first | (with_reducible exact kb0) | (with_reducible exact cell_al _ kb0) | (with_reducible exact cell_al _ (cell_al _ kb0)) | go_simp)
          replace kb1 : w3.cell? ⟨w.heap.size, 1, none⟩ = some (.int .i64 b2) := cell_later hb (by first | (with_reducible exact kb1) | (with_reducible exact cell_al _ kb1) | (with_reducible exact cell_al _ (cell_al _ kb1)) | go_simp)
          replace kb2 : w3.cell? ⟨w.heap.size, 2, none⟩ = some (.int .i64 b3) := cell_later hb (by first | (with_reducible exact kb2) | (with_reducible exact cell_al _ kb2) | (with_reducible exact cell_al _ (cell_al _ kb2)) | go_simp)
          replace kb3 : w3.cell? ⟨w.heap.size, 3, none⟩ = some (.int .i64 b4) := cell_later hb (by first | (with_reducible exact kb3) | (with_reducible exact cell_al _ kb3) | (with_reducible exact cell_al _ (cell_al _ kb3)) | go_simp)
          replace kp0 : w3.cell? ⟨w.heap.size + 1, 0, none⟩ = some (.int .i64 p1) := cell_later hb (by first | (with_reducible exact kp0) | (with_reducible exact cell_al _ kp0) | (with_reducible exact cell_al _ (cell_al _ kp0)) | go_simp)
          replace kp1 : w3.cell? ⟨w.heap.size + 1, 1, none⟩ = some (.int .i64 p2) := cell_later hb (by first | (with_reducible exact kp1) | (with_reducible exact cell_al _ kp1) | (with_reducible exact cell_al _ (cell_al _ kp1)) | go_simp)
          have kg0 : w3.cell? ⟨w2.heap.size, 0, none⟩ = some (.int .i64 g1) := cell_later hb (by go_simp)
          have kg1 : w3.cell? ⟨w2.heap.size, 1, none⟩ = some (.int .i64 g2) := cell_later hb (by go_simp)
          have kg2 : w3.cell? ⟨w2.heap.size, 2, none⟩ = some (.int .i64 g3) := cell_later hb (by go_simp)
          have kg3 : w3.cell? ⟨w2.heap.size, 3, none⟩ = some (.int .i64 g4) := cell_later hb (by go_simp)
          replace zb : w.heap.size < w3.heap.size := World.block_lt_of_cell? _ _ kb0
          replace zp : w.heap.size + 1 < w3.heap.size := World.block_lt_of_cell? _ _ kp0
          have zg : w2.heap.size < w3.heap.size := World.block_lt_of_cell? _ _ kg0
          replace hb0 : Below w.heap.size w w3 := (by repeat (first | exact Below.refl _ _ | assumption | refine bstep ?_ (by assumption) | refine Below.drew ?_ | refine balloc ?_ _ | refine Below.setCell ?_ (by first | omega | (simp <;> omega)) _))
          clear hb
          by_cases h5 : 0 ≤ m ∧ m ≤ 3000000
          ·
            have v5 : vGrowBox g1 g2 g3 g4 m = true := by unfold vGrowBox; simp [h3, h5]
            rcases Bool.eq_false_or_eq_true (vB (g1 - m) (g2 + m) (g3 - m) (g4 + m)) with h6 | h6
            ·
              have r5 : rGrowBox g1 g2 g3 g4 m = true := h6
              simp only [v5, r5, selI, selB, erv, cond_true, cond_false, Bool.and_true, Bool.and_false, Bool.true_and, Bool.false_and] at C3
              have i6 := vB_iff.1 h6
              have v6 : vGrowBox b1 b2 b3 b4 (m + n) = true := by unfold vGrowBox; rw [h1, Bool.true_and, Bool.and_eq_true, decide_eq_true_eq, decide_eq_true_eq]; omega
              have a1 : b1 - (m + n) = g1 - m := by omega
              have a2 : b2 + (m + n) = g2 + m := by omega
              have a3 : b3 - (m + n) = g3 - m := by omega
              have a4 : b4 + (m + n) = g4 + m := by omega
              have r6 : rGrowBox b1 b2 b3 b4 (m + n) = true := by unfold rGrowBox; rw [a1, a2, a3, a4]; exact h6
              simp only [v6, r6, selI, selB, erv, cond_true, cond_false, Bool.and_true, Bool.and_false, Bool.true_and, Bool.false_and] at C4
              rw [a1, a2, a3, a4] at C4
              clear v5 r5 v6 r6 a1 a2 a3 a4
              have a5 : IntKind.i64.wrap (m + n) = m + n := IntWalk.i64_in _ (by omega)
              generalize g1 - m = z1 at C3 C4
              generalize g2 + m = z2 at C3 C4
              generalize g3 - m = z3 at C3 C4
              generalize g4 + m = z4 at C3 C4
              clear e1 e2 e3 e4
              go_wp2_with fail
              refine Calls.mono (C3 _) ?_
              rintro e w4 ⟨rfl, hb⟩
              replace kb0 : w4.cell? ⟨w.heap.size, 0, none⟩ = some (.int .i64 b1) := cell_later hb (by first | (with_reducible exact kb0) | (with_reducible exact cell_al _ kb0) | (with_reducible exact cell_al _ (cell_al _ kb0)) | go_simp)
              replace kb1 : w4.cell? ⟨w.heap.size, 1, none⟩ = some (.int .i64 b2) := cell_later hb (by first | (with_reducible exact kb1) | (with_reducible exact cell_al _ kb1) | (with_reducible exact cell_al _ (cell_al _ kb1)) | go_simp)
              replace kb2 : w4.cell? ⟨w.heap.size, 2, none⟩ = some (.int .i64 b3) := cell_later hb (by first | (with_reducible exact kb2) | (with_reducible exact cell_al _ kb2) | (with_reducible exact cell_al _ (cell_al _ kb2)) | go_simp)
              replace kb3 : w4.cell? ⟨w.heap.size, 3, none⟩ = some (.int .i64 b4) := cell_later hb (by first | (with_reducible exact kb3) | (with_reducible exact cell_al _ kb3) | (with_reducible exact cell_al _ (cell_al _ kb3)) | go_simp)
              replace kp0 : w4.cell? ⟨w.heap.size + 1, 0, none⟩ = some (.int .i64 p1) := cell_later hb (by first | (with_reducible exact kp0) | (with_reducible exact cell_al _ kp0) | (with_reducible exact cell_al _ (cell_al _ kp0)) | go_simp)
              replace kp1 : w4.cell? ⟨w.heap.size + 1, 1, none⟩ = some (.int .i64 p2) := cell_later hb (by first | (with_reducible exact kp1) | (with_reducible exact cell_al _ kp1) | (with_reducible exact cell_al _ (cell_al _ kp1)) | go_simp)
              replace kg0 : w4.cell? ⟨w2.heap.size, 0, none⟩ = some (.int .i64 g1) := cell_later hb (by first | (with_reducible exact kg0) | (with_reducible exact cell_al _ kg0) | (with_reducible exact cell_al _ (cell_al _ kg0)) | go_simp)
              replace kg1 : w4.cell? ⟨w2.heap.size, 1, none⟩ = some (.int .i64 g2) := cell_later hb (by first | (with_reducible exact kg1) | (with_reducible exact cell_al _ kg1) | (with_reducible exact cell_al _ (cell_al _ kg1)) | go_simp)
              replace kg2 : w4.cell? ⟨w2.heap.size, 2, none⟩ = some (.int .i64 g3) := cell_later hb (by first | (with_reducible exact kg2) | (with_reducible exact cell_al _ kg2) | (with_reducible exact cell_al _ (cell_al _ kg2)) | go_simp)
              replace kg3 : w4.cell? ⟨w2.heap.size, 3, none⟩ = some (.int .i64 g4) := cell_later hb (by first | (with_reducible exact kg3) | (with_reducible exact cell_al _ kg3) | (with_reducible exact cell_al _ (cell_al _ kg3)) | go_simp)
              replace zb : w.heap.size < w4.heap.size := World.block_lt_of_cell? _ _ kb0
              replace zp : w.heap.size + 1 < w4.heap.size := World.block_lt_of_cell? _ _ kp0
              replace zg : w2.heap.size < w4.heap.size := World.block_lt_of_cell? _ _ kg0
              replace hb0 : Below w.heap.size w w4 := (by repeat (first | exact Below.refl _ _ | assumption | refine bstep ?_ (by assumption) | refine Below.drew ?_ | refine balloc ?_ _ | refine Below.setCell ?_ (by first | omega | (simp <;> omega)) _))
              clear hb
              go_wp2_with fail
              refine Calls.mono (C4 _) ?_
              rintro e w5 ⟨rfl, hb⟩
              replace kb0 : w5.cell? ⟨w.heap.size, 0, none⟩ = some (.int .i64 b1) := cell_later hb (by first | (with_reducible exact kb0) | (with_reducible exact cell_al _ kb0) | (with_reducible exact cell_al _ (cell_al _ kb0)) | go_simp)
              replace kb1 : w5.cell? ⟨w.heap.size, 1, none⟩ = some (.int .i64 b2) := cell_later hb (by first | (with_reducible exact kb1) | (with_reducible exact cell_al _ kb1) | (with_reducible exact cell_al _ (cell_al _ kb1)) | go_simp)
              replace kb2 : w5.cell? ⟨w.heap.size, 2, none⟩ = some (.int .i64 b3) := cell_later hb (by first | (with_reducible exact kb2) | (with_reducible exact cell_al _ kb2) | (with_reducible exact cell_al _ (cell_al _ kb2)) | go_simp)
              replace kb3 : w5.cell? ⟨w.heap.size, 3, none⟩ = some (.int .i64 b4) := cell_later hb (by first | (with_reducible exact kb3) | (with_reducible exact cell_al _ kb3) | (with_reducible exact cell_al _ (cell_al _ kb3)) | go_simp)
              replace kp0 : w5.cell? ⟨w.heap.size + 1, 0, none⟩ = some (.int .i64 p1) := cell_later hb (by first | (with_reducible exact kp0) | (with_reducible exact cell_al _ kp0) | (with_reducible exact cell_al _ (cell_al _ kp0)) | go_simp)
              replace kp1 : w5.cell? ⟨w.heap.size + 1, 1, none⟩ = some (.int .i64 p2) := cell_later hb (by first | (with_reducible exact kp1) | (with_reducible exact cell_al _ kp1) | (with_reducible exact cell_al _ (cell_al _ kp1)) | go_simp)
              replace kg0 : w5.cell? ⟨w2.heap.size, 0, none⟩ = some (.int .i64 g1) := cell_later hb (by first | (with_reducible exact kg0) | (with_reducible exact cell_al _ kg0) | (with_reducible exact cell_al _ (cell_al _ kg0)) | go_simp)
              replace kg1 : w5.cell? ⟨w2.heap.size, 1, none⟩ = some (.int .i64 g2) := cell_later hb (by first | (with_reducible exact kg1) | (with_reducible exact cell_al _ kg1) | (with_reducible exact cell_al _ (cell_al _ kg1)) | go_simp)
              replace kg2 : w5.cell? ⟨w2.heap.size, 2, none⟩ = some (.int .i64 g3) := cell_later hb (by first | (with_reducible exact kg2) | (with_reducible exact cell_al _ kg2) | (with_reducible exact cell_al _ (cell_al _ kg2)) | go_simp)
              replace kg3 : w5.cell? ⟨w2.heap.size, 3, none⟩ = some (.int .i64 g4) := cell_later hb (by first | (with_reducible exact kg3) | (with_reducible exact cell_al _ kg3) | (with_reducible exact cell_al _ (cell_al _ kg3)) | go_simp)
              have kt0 : w5.cell? ⟨w4.heap.size, 0, none⟩ = some (.int .i64 z1) := cell_later hb (by go_simp)
              have kt1 : w5.cell? ⟨w4.heap.size, 1, none⟩ = some (.int .i64 z2) := cell_later hb (by go_simp)
              have kt2 : w5.cell? ⟨w4.heap.size, 2, none⟩ = some (.int .i64 z3) := cell_later hb (by go_simp)
              have kt3 : w5.cell? ⟨w4.heap.size, 3, none⟩ = some (.int .i64 z4) := cell_later hb (by go_simp)
              replace zb : w.heap.size < w5.heap.size := World.block_lt_of_cell? _ _ kb0
              replace zp : w.heap.size + 1 < w5.heap.size := World.block_lt_of_cell? _ _ kp0
              replace zg : w2.heap.size < w5.heap.size := World.block_lt_of_cell? _ _ kg0
              have zt : w4.heap.size < w5.heap.size := World.block_lt_of_cell? _ _ kt0
              replace hb0 : Below w.heap.size w w5 := (by repeat (first | exact Below.refl _ _ | assumption | refine bstep ?_ (by assumption) | refine Below.drew ?_ | refine balloc ?_ _ | refine Below.setCell ?_ (by first | omega | (simp <;> omega)) _))
              clear hb
              go_wp2
              all_goals first | (exfalso; omega) | (go_ret; refine ret_bool ?_ (by repeat (first | exact Below.refl _ _ | assumption | refine bstep ?_ (by assumption) | refine Below.drew ?_ | refine balloc ?_ _ | refine Below.setCell ?_ (by first | omega | (simp <;> omega)) _)); first | (simp; done) | (simp <;> omega))
            ·
              have r5 : rGrowBox g1 g2 g3 g4 m = false := h6
              simp only [v5, r5, selI, selB, erv, cond_true, cond_false, Bool.and_true, Bool.and_false, Bool.true_and, Bool.false_and] at C3
              clear v5 r5 e1 e2 e3 e4
              go_wp2_with fail
              refine Calls.mono (C3 _) ?_
              rintro e w4 ⟨rfl, hb⟩
              replace kb0 : w4.cell? ⟨w.heap.size, 0, none⟩ = some (.int .i64 b1) := cell_later hb (by first | (with_reducible exact kb0) | (with_reducible exact cell_al _ kb0) | (with_reducible exact cell_al _ (cell_al _ kb0)) | go_simp)
              replace kb1 : w4.cell? ⟨w.heap.size, 1, none⟩ = some (.int .i64 b2) := cell_later hb (by first | (with_reducible exact kb1) | (with_reducible exact cell_al _ kb1) | (with_reducible exact cell_al _ (cell_al _ kb1)) | go_simp)
              replace kb2 : w4.cell? ⟨w.heap.size, 2, none⟩ = some (.int .i64 b3) := cell_later hb (by first | (with_reducible exact kb2) | (with_reducible exact cell_al _ kb2) | (with_reducible exact cell_al _ (cell_al _ kb2)) | go_simp)
              replace kb3 : w4.cell? ⟨w.heap.size, 3, none⟩ = some (.int .i64 b4) := cell_later hb (by first | (with_reducible exact kb3) | (with_reducible exact cell_al _ kb3) | (with_reducible exact cell_al _ (cell_al _ kb3)) | go_simp)
              replace kp0 : w4.cell? ⟨w.heap.size + 1, 0, none⟩ = some (.int .i64 p1) := cell_later hb (by first | (with_reducible exact kp0) | (with_reducible exact cell_al _ kp0) | (with_reducible exact cell_al _ (cell_al _ kp0)) | go_simp)
              replace kp1 : w4.cell? ⟨w.heap.size + 1, 1, none⟩ = some (.int .i64 p2) := cell_later hb (by first | (with_reducible exact kp1) | (with_reducible exact cell_al _ kp1) | (with_reducible exact cell_al _ (cell_al _ kp1)) | go_simp)
              replace kg0 : w4.cell? ⟨w2.heap.size, 0, none⟩ = some (.int .i64 g1) := cell_later hb (by first | (with_reducible exact kg0) | (with_reducible exact cell_al _ kg0) | (with_reducible exact cell_al _ (cell_al _ kg0)) | go_simp)
              replace kg1 : w4.cell? ⟨w2.heap.size, 1, none⟩ = some (.int .i64 g2) := cell_later hb (by first | (with_reducible exact kg1) | (with_reducible exact cell_al _ kg1) | (with_reducible exact cell_al _ (cell_al _ kg1)) | go_simp)
              replace kg2 : w4.cell? ⟨w2.heap.size, 2, none⟩ = some (.int .i64 g3) := cell_later hb (by first | (with_reducible exact kg2) | (with_reducible exact cell_al _ kg2) | (with_reducible exact cell_al _ (cell_al _ kg2)) | go_simp)
              replace kg3 : w4.cell? ⟨w2.heap.size, 3, none⟩ = some (.int .i64 g4) := cell_later hb (by first | (with_reducible exact kg3) | (with_reducible exact cell_al _ kg3) | (with_reducible exact cell_al _ (cell_al _ kg3)) | go_simp)
              replace zb : w.heap.size < w4.heap.size := World.block_lt_of_cell? _ _ kb0
              replace zp : w.heap.size + 1 < w4.heap.size := World.block_lt_of_cell? _ _ kp0
              replace zg : w2.heap.size < w4.heap.size := World.block_lt_of_cell? _ _ kg0
              replace hb0 : Below w.heap.size w w4 := (by repeat (first | exact Below.refl _ _ | assumption | refine bstep ?_ (by assumption) | refine Below.drew ?_ | refine balloc ?_ _ | refine Below.setCell ?_ (by first | omega | (simp <;> omega)) _))
              clear hb
              go_wp2
              all_goals first | (exfalso; omega) | (go_ret; refine ret_bool ?_ (by repeat (first | exact Below.refl _ _ | assumption | refine bstep ?_ (by assumption) | refine Below.drew ?_ | refine balloc ?_ _ | refine Below.setCell ?_ (by first | omega | (simp <;> omega)) _)); first | (simp; done) | (simp <;> omega))
          ·
            have v5 : vGrowBox g1 g2 g3 g4 m = false := by unfold vGrowBox; rw [h3, Bool.true_and, Bool.eq_false_iff, Ne, Bool.and_eq_true, decide_eq_true_eq, decide_eq_true_eq]; exact h5
            simp only [v5, selI, selB, erv, cond_true, cond_false, Bool.and_true, Bool.and_false, Bool.true_and, Bool.false_and] at C3
            clear v5 e1 e2 e3 e4
            go_wp2_with fail
            refine Calls.mono (C3 _) ?_
            rintro e w4 ⟨rfl, hb⟩
            replace kb0 : w4.cell? ⟨w.heap.size, 0, none⟩ = some (.int .i64 b1) := cell_later hb (by first | (with_reducible exact kb0) | (with_reducible exact cell_al _ kb0) | (with_reducible exact cell_al _ (cell_al _ kb0)) | go_simp)
            replace kb1 : w4.cell? ⟨w.heap.size, 1, none⟩ = some (.int .i64 b2) := cell_later hb (by first | (with_reducible exact kb1) | (with_reducible exact cell_al _ kb1) | (with_reducible exact cell_al _ (cell_al _ kb1)) | go_simp)
            replace kb2 : w4.cell? ⟨w.heap.size, 2, none⟩ = some (.int .i64 b3) := cell_later hb (by first | (with_reducible exact kb2) | (with_reducible exact cell_al _ kb2) | (with_reducible exact cell_al _ (cell_al _ kb2)) | go_simp)
            replace kb3 : w4.cell? ⟨w.heap.size, 3, none⟩ = some (.int .i64 b4) := cell_later hb (by first | (with_reducible exact kb3) | (with_reducible exact cell_al _ kb3) | (with_reducible exact cell_al _ (cell_al _ kb3)) | go_simp)
            replace kp0 : w4.cell? ⟨w.heap.size + 1, 0, none⟩ = some (.int .i64 p1) := cell_later hb (by first | (with_reducible exact kp0) | (with_reducible exact cell_al _ kp0) | (with_reducible exact cell_al _ (cell_al _ kp0)) | go_simp)
            replace kp1 : w4.cell? ⟨w.heap.size + 1, 1, none⟩ = some (.int .i64 p2) := cell_later hb (by first | (with_reducible exact kp1) | (with_reducible exact cell_al _ kp1) | (with_reducible exact cell_al _ (cell_al _ kp1)) | go_simp)
            replace kg0 : w4.cell? ⟨w2.heap.size, 0, none⟩ = some (.int .i64 g1) := cell_later hb (by first | (with_reducible exact kg0) | (with_reducible exact cell_al _ kg0) | (with_reducible exact cell_al _ (cell_al _ kg0)) | go_simp)
            replace kg1 : w4.cell? ⟨w2.heap.size, 1, none⟩ = some (.int .i64 g2) := cell_later hb (by first | (with_reducible exact kg1) | (with_reducible exact cell_al _ kg1) | (with_reducible exact cell_al _ (cell_al _ kg1)) | go_simp)
            replace kg2 : w4.cell? ⟨w2.heap.size, 2, none⟩ = some (.int .i64 g3) := cell_later hb (by first | (with_reducible exact kg2) | (with_reducible exact cell_al _ kg2) | (with_reducible exact cell_al _ (cell_al _ kg2)) | go_simp)
            replace kg3 : w4.cell? ⟨w2.heap.size, 3, none⟩ = some (.int .i64 g4) := cell_later hb (by first | (with_reducible exact kg3) | (with_reducible exact cell_al _ kg3) | (with_reducible exact cell_al _ (cell_al _ kg3)) | go_simp)
            replace zb : w.heap.size < w4.heap.size := World.block_lt_of_cell? _ _ kb0
            replace zp : w.heap.size + 1 < w4.heap.size := World.block_lt_of_cell? _ _ kp0
            replace zg : w2.heap.size < w4.heap.size := World.block_lt_of_cell? _ _ kg0
            replace hb0 : Below w.heap.size w w4 := (by repeat (first | exact Below.refl _ _ | assumption | refine bstep ?_ (by assumption) | refine Below.drew ?_ | refine balloc ?_ _ | refine Below.setCell ?_ (by first | omega | (simp <;> omega)) _))
            clear hb
            go_wp2
            all_goals first | (exfalso; omega) | (go_ret; refine ret_bool ?_ (by repeat (first | exact Below.refl _ _ | assumption | refine bstep ?_ (by assumption) | refine Below.drew ?_ | refine balloc ?_ _ | refine Below.setCell ?_ (by first | omega | (simp <;> omega)) _)); first | (simp; done) | (simp <;> omega))
      ·
        have rg : rGrowBox b1 b2 b3 b4 n = false := h3
        simp only [vg, rg, selI, selB, erv, cond_true, cond_false, Bool.and_true, Bool.and_false, Bool.true_and, Bool.false_and] at C1
        go_enter Try.func10, Try.ntmps10
        go_wp2_with fail
        refine Calls.mono (head_c _) ?_
        rintro e w1 ⟨rfl, hb⟩
        have kb0 : w1.cell? ⟨w.heap.size, 0, none⟩ = some (.int .i64 b1) := cell_later hb (by go_simp)
        have kb1 : w1.cell? ⟨w.heap.size, 1, none⟩ = some (.int .i64 b2) := cell_later hb (by go_simp)
        have kb2 : w1.cell? ⟨w.heap.size, 2, none⟩ = some (.int .i64 b3) := cell_later hb (by go_simp)
        have kb3 : w1.cell? ⟨w.heap.size, 3, none⟩ = some (.int .i64 b4) := cell_later hb (by go_simp)
        have kp0 : w1.cell? ⟨w.heap.size + 1, 0, none⟩ = some (.int .i64 p1) := cell_later hb (by go_simp)
        have kp1 : w1.cell? ⟨w.heap.size + 1, 1, none⟩ = some (.int .i64 p2) := cell_later hb (by go_simp)
        have zb : w.heap.size < w1.heap.size := World.block_lt_of_cell? _ _ kb0
        have zp : w.heap.size + 1 < w1.heap.size := World.block_lt_of_cell? _ _ kp0
        have hb0 : Below w.heap.size w w1 := (by repeat (first | exact Below.refl _ _ | assumption | refine bstep ?_ (by assumption) | refine Below.drew ?_ | refine balloc ?_ _ | refine Below.setCell ?_ (by first | omega | (simp <;> omega)) _))
        clear hb
        go_wp2_with fail
        refine Calls.mono (C1 _) ?_
        rintro e w2 ⟨rfl, hb⟩
        replace kb0 : w2.cell? ⟨w.heap.size, 0, none⟩ = some (.int .i64 b1) := cell_later hb (by first | (with_reducible exact kb0) | (with_reducible exact cell_al _ kb0) | (with_reducible exact cell_al _ (cell_al _ kb0)) | go_simp)
        replace kb1 : w2.cell? ⟨w.heap.size, 1, none⟩ = some (.int .i64 b2) := cell_later hb (by first | (with_reducible exact kb1) | (with_reducible exact cell_al _ kb1) | (with_reducible exact cell_al _ (cell_al _ kb1)) | go_simp)
        replace kb2 : w2.cell? ⟨w.heap.size, 2, none⟩ = some (.int .i64 b3) := cell_later hb (by first | (with_reducible exact kb2) | (with_reducible exact cell_al _ kb2) | (with_reducible exact cell_al _ (cell_al _ kb2)) | go_simp)
        replace kb3 : w2.cell? ⟨w.heap.size, 3, none⟩ = some (.int .i64 b4) := cell_later hb (by first | (with_reducible exact kb3) | (with_reducible exact cell_al _ kb3) | (with_reducible exact cell_al _ (cell_al _ kb3)) | go_simp)
        replace kp0 : w2.cell? ⟨w.heap.size + 1, 0, none⟩ = some (.int .i64 p1) := cell_later hb (by first | (with_reducible exact kp0) | (with_reducible exact cell_al _ kp0) | (with_reducible exact cell_al _ (cell_al _ kp0)) | go_simp)
        replace kp1 : w2.cell? ⟨w.heap.size + 1, 1, none⟩ = some (.int .i64 p2) := cell_later hb (by first | (with_reducible exact kp1) | (with_reducible exact cell_al _ kp1) | (with_reducible exact cell_al _ (cell_al _ kp1)) | go_simp)
        replace zb : w.heap.size < w2.heap.size := World.block_lt_of_cell? _ _ kb0
        replace zp : w.heap.size + 1 < w2.heap.size := World.block_lt_of_cell? _ _ kp0
        replace hb0 : Below w.heap.size w w2 := (by repeat (first | exact Below.refl _ _ | assumption | refine bstep ?_ (by assumption) | refine Below.drew ?_ | refine balloc ?_ _ | refine Below.setCell ?_ (by first | omega | (simp <;> omega)) _))
        clear hb
        go_wp2
        all_goals first | (exfalso; omega) | (go_ret; refine ret_bool ?_ (by repeat (first | exact Below.refl _ _ | assumption | refine bstep ?_ (by assumption) | refine Below.drew ?_ | refine balloc ?_ _ | refine Below.setCell ?_ (by first | omega | (simp <;> omega)) _)); first | (simp; done) | (simp <;> omega))
    ·
      have vg : vGrowBox b1 b2 b3 b4 n = false := by unfold vGrowBox; rw [h1, Bool.true_and, Bool.eq_false_iff, Ne, Bool.and_eq_true, decide_eq_true_eq, decide_eq_true_eq]; exact h2
      simp only [vg, selI, selB, erv, cond_true, cond_false, Bool.and_true, Bool.and_false, Bool.true_and, Bool.false_and] at C1
      go_enter Try.func10, Try.ntmps10
      go_wp2_with fail
      refine Calls.mono (head_c _) ?_
      rintro e w1 ⟨rfl, hb⟩
      have kb0 : w1.cell? ⟨w.heap.size, 0, none⟩ = some (.int .i64 b1) := cell_later hb (by go_simp)
      have kb1 : w1.cell? ⟨w.heap.size, 1, none⟩ = some (.int .i64 b2) := cell_later hb (by go_simp)
      have kb2 : w1.cell? ⟨w.heap.size, 2, none⟩ = some (.int .i64 b3) := cell_later hb (by go_simp)
      have kb3 : w1.cell? ⟨w.heap.size, 3, none⟩ = some (.int .i64 b4) := cell_later hb (by go_simp)
      have kp0 : w1.cell? ⟨w.heap.size + 1, 0, none⟩ = some (.int .i64 p1) := cell_later hb (by go_simp)
      have kp1 : w1.cell? ⟨w.heap.size + 1, 1, none⟩ = some (.int .i64 p2) := cell_later hb (by go_simp)
      have zb : w.heap.size < w1.heap.size := World.block_lt_of_cell? _ _ kb0
      have zp : w.heap.size + 1 < w1.heap.size := World.block_lt_of_cell? _ _ kp0
      have hb0 : Below w.heap.size w w1 := (by repeat (first | exact Below.refl _ _ | assumption | refine bstep ?_ (by assumption) | refine Below.drew ?_ | refine balloc ?_ _ | refine Below.setCell ?_ (by first | omega | (simp <;> omega)) _))
      clear hb
      go_wp2_with fail
      refine Calls.mono (C1 _) ?_
      rintro e w2 ⟨rfl, hb⟩
      replace kb0 : w2.cell? ⟨w.heap.size, 0, none⟩ = some (.int .i64 b1) := cell_later hb (by first | (with_reducible exact kb0) | (with_reducible exact cell_al _ kb0) | (with_reducible exact cell_al _ (cell_al _ kb0)) | go_simp)
      replace kb1 : w2.cell? ⟨w.heap.size, 1, none⟩ = some (.int .i64 b2) := cell_later hb (by first | (with_reducible exact kb1) | (with_reducible exact cell_al _ kb1) | (with_reducible exact cell_al _ (cell_al _ kb1)) | go_simp)
      replace kb2 : w2.cell? ⟨w.heap.size, 2, none⟩ = some (.int .i64 b3) := cell_later hb (by first | (with_reducible exact kb2) | (with_reducible exact cell_al _ kb2) | (with_reducible exact cell_al _ (cell_al _ kb2)) | go_simp)
      replace kb3 : w2.cell? ⟨w.heap.size, 3, none⟩ = some (.int .i64 b4) := cell_later hb (by first | (with_reducible exact kb3) | (with_reducible exact cell_al _ kb3) | (with_reducible exact cell_al _ (cell_al _ kb3)) | go_simp)
      replace kp0 : w2.cell? ⟨w.heap.size + 1, 0, none⟩ = some (.int .i64 p1) := cell_later hb (by first | (with_reducible exact kp0) | (with_reducible exact cell_al _ kp0) | (with_reducible exact cell_al _ (cell_al _ kp0)) | go_simp)
      replace kp1 : w2.cell? ⟨w.heap.size + 1, 1, none⟩ = some (.int .i64 p2) := cell_later hb (by first | (with_reducible exact kp1) | (with_reducible exact cell_al _ kp1) | (with_reducible exact cell_al _ (cell_al _ kp1)) | go_simp)
      replace zb : w.heap.size < w2.heap.size := World.block_lt_of_cell? _ _ kb0
      replace zp : w.heap.size + 1 < w2.heap.size := World.block_lt_of_cell? _ _ kp0
      replace hb0 : Below w.heap.size w w2 := (by repeat (first | exact Below.refl _ _ | assumption | refine bstep ?_ (by assumption) | refine Below.drew ?_ | refine balloc ?_ _ | refine Below.setCell ?_ (by first | omega | (simp <;> omega)) _))
      clear hb
      go_wp2
      all_goals first | (exfalso; omega) | (go_ret; refine ret_bool ?_ (by repeat (first | exact Below.refl _ _ | assumption | refine bstep ?_ (by assumption) | refine Below.drew ?_ | refine balloc ?_ _ | refine Below.setCell ?_ (by first | omega | (simp <;> omega)) _)); first | (simp; done) | (simp <;> omega))
  ·
    have vg : vGrowBox b1 b2 b3 b4 n = false := by unfold vGrowBox; simp [h1]
    simp only [vg, selI, selB, erv, cond_true, cond_false, Bool.and_true, Bool.and_false, Bool.true_and, Bool.false_and] at C1
    go_enter Try.func10, Try.ntmps10
    go_wp2_with fail
    refine Calls.mono (head_c _) ?_
    rintro e w1 ⟨rfl, hb⟩
    have kb0 : w1.cell? ⟨w.heap.size, 0, none⟩ = some (.int .i64 b1) := cell_later hb (by go_simp)
    have kb1 : w1.cell? ⟨w.heap.size, 1, none⟩ = some (.int .i64 b2) := cell_later hb (by go_simp)
    have kb2 : w1.cell? ⟨w.heap.size, 2, none⟩ = some (.int .i64 b3) := cell_later hb (by go_simp)
    have kb3 : w1.cell? ⟨w.heap.size, 3, none⟩ = some (.int .i64 b4) := cell_later hb (by go_simp)
    have kp0 : w1.cell? ⟨w.heap.size + 1, 0, none⟩ = some (.int .i64 p1) := cell_later hb (by go_simp)
    have kp1 : w1.cell? ⟨w.heap.size + 1, 1, none⟩ = some (.int .i64 p2) := cell_later hb (by go_simp)
    have zb : w.heap.size < w1.heap.size := World.block_lt_of_cell? _ _ kb0
    have zp : w.heap.size + 1 < w1.heap.size := World.block_lt_of_cell? _ _ kp0
    have hb0 : Below w.heap.size w w1 := (by repeat (first | exact Below.refl _ _ | assumption | refine bstep ?_ (by assumption) | refine Below.drew ?_ | refine balloc ?_ _ | refine Below.setCell ?_ (by first | omega | (simp <;> omega)) _))
    clear hb
    go_wp2_with fail
    refine Calls.mono (C1 _) ?_
    rintro e w2 ⟨rfl, hb⟩
    replace kb0 : w2.cell? ⟨w.heap.size, 0, none⟩ = some (.int .i64 b1) := cell_later hb (by first | (with_reducible exact kb0) | (with_reducible exact cell_al _ kb0) | (with_reducible exact cell_al _ (cell_al _ kb0)) | go_simp)
    replace kb1 : w2.cell? ⟨w.heap.size, 1, none⟩ = some (.int .i64 b2) := cell_later hb (by first | (with_reducible exact kb1) | (with_reducible exact cell_al _ kb1) | (with_reducible exact cell_al _ (cell_al _ kb1)) | go_simp)
    replace kb2 : w2.cell? ⟨w.heap.size, 2, none⟩ = some (.int .i64 b3) := cell_later hb (by first | (with_reducible exact kb2) | (with_reducible exact cell_al _ kb2) | (with_reducible exact cell_al _ (cell_al _ kb2)) | go_simp)
    replace kb3 : w2.cell? ⟨w.heap.size, 3, none⟩ = some (.int .i64 b4) := cell_later hb (by first | (with_reducible exact kb3) | (with_reducible exact cell_al _ kb3) | (with_reducible exact cell_al _ (cell_al _ kb3)) | go_simp)
    replace kp0 : w2.cell? ⟨w.heap.size + 1, 0, none⟩ = some (.int .i64 p1) := cell_later hb (by first | (with_reducible exact kp0) | (with_reducible exact cell_al _ kp0) | (with_reducible exact cell_al _ (cell_al _ kp0)) | go_simp)
    replace kp1 : w2.cell? ⟨w.heap.size + 1, 1, none⟩ = some (.int .i64 p2) := cell_later hb (by first | (with_reducible exact kp1) | (with_reducible exact cell_al _ kp1) | (with_reducible exact cell_al _ (cell_al _ kp1)) | go_simp)
    replace zb : w.heap.size < w2.heap.size := World.block_lt_of_cell? _ _ kb0
    replace zp : w.heap.size + 1 < w2.heap.size := World.block_lt_of_cell? _ _ kp0
    replace hb0 : Below w.heap.size w w2 := (by repeat (first | exact Below.refl _ _ | assumption | refine bstep ?_ (by assumption) | refine Below.drew ?_ | refine balloc ?_ _ | refine Below.setCell ?_ (by first | omega | (simp <;> omega)) _))
    clear hb
    go_wp2
    all_goals first | (exfalso; omega) | (go_ret; refine ret_bool ?_ (by repeat (first | exact Below.refl _ _ | assumption | refine bstep ?_ (by assumption) | refine Below.drew ?_ | refine balloc ?_ _ | refine Below.setCell ?_ (by first | omega | (simp <;> omega)) _)); first | (simp; done) | (simp <;> omega))


end Go.Proofs.Ytendnhmobhicmaa
