/- L4Boxes: the law DatumBoxes. -/
import Derived.Test.YtlkjpackjjncaaaDatY
import Derived.Test.YtlkjpackjjncaaaRows
import Derived.WalkKit
import Derived.WalkSpells
import Derived.WalkLawsBesides
import Derived.Lib.Hide
import Derived.Deep.QuietTactic
import Derived.BigQuiet
import Derived.RegionTactic
import Derived.ChangeAlike
import Derived.BigRegion
import Derived.Deep.RegionHeld3
import Derived.Deep.RegionWith
import Derived.Outline
import Derived.Laws.EntriesVeiled
import Derived.Deep.DeepCutAuto
namespace Go.Proofs.Ytlkjpackjjncaaa.Da
open Go.RowKit Sp
set_option linter.unusedSimpArgs false
set_option linter.unusedVariables false

theorem apply_carry (m1 m2 m3 m4 m5 m6 m7 p1 p2 : Int) : ∃ x1 x2 x3 x4 f : Int, (∀ w, Calls Try.prog 16 #[.agg #[(.int .i64 m1), (.int .i64 m2), (.int .i64 m3), (.int .i64 m4), (.int .i64 m5), (.int .i64 m6), (.int .i64 m7)], (.agg #[.int .i64 p1, .int .i64 p2])] w (Ret w (.tuple #[.agg #[(.int .i64 x1), (.int .i64 x2), (.int .i64 x3), (.int .i64 x4)], (.int .i64 f)]))) ∧ (∀ w, Calls Try.prog 18 #[.agg #[(.int .i64 m1), (.int .i64 m2), (.int .i64 m3), (.int .i64 m4), (.int .i64 m5), (.int .i64 m6), (.int .i64 m7)], .agg #[(.int .i64 p1), (.int .i64 p1), (.int .i64 p2), (.int .i64 p2)]] w (Ret w (.tuple #[.agg #[(.int .i64 x1), (.int .i64 x2), (.int .i64 x3), (.int .i64 x4)], (.int .i64 f)]))) := by
  have A := fun w => Apply_c m1 m2 m3 m4 m5 m6 m7 p1 p2 w
  have C := fun w => Carry_c m1 m2 m3 m4 m5 m6 m7 p1 p1 p2 p2 w
  rw [vb_one] at C
  exact ⟨_, _, _, _, _, A, C⟩
theorem boxes_carry {m1 m2 m3 m4 m5 m6 m7 b1 b2 b3 b4 c1 c2 c3 c4 : Int} (hw : wiB b1 b2 b3 b4 c1 c2 c3 c4 = true) :
    ∃ x1 x2 x3 x4 f y1 y2 y3 y4 g : Int, ((f ≠ 0) ∨ (f = 0 ∧ g ≠ 0) ∨ (f = 0 ∧ g = 0 ∧ wiB x1 x2 x3 x4 y1 y2 y3 y4 = true)) ∧ (∀ w, Calls Try.prog 18 #[.agg #[(.int .i64 m1), (.int .i64 m2), (.int .i64 m3), (.int .i64 m4), (.int .i64 m5), (.int .i64 m6), (.int .i64 m7)], .agg #[(.int .i64 b1), (.int .i64 b2), (.int .i64 b3), (.int .i64 b4)]] w (Ret w (.tuple #[.agg #[(.int .i64 x1), (.int .i64 x2), (.int .i64 x3), (.int .i64 x4)], (.int .i64 f)]))) ∧ (∀ w, Calls Try.prog 18 #[.agg #[(.int .i64 m1), (.int .i64 m2), (.int .i64 m3), (.int .i64 m4), (.int .i64 m5), (.int .i64 m6), (.int .i64 m7)], .agg #[(.int .i64 c1), (.int .i64 c2), (.int .i64 c3), (.int .i64 c4)]] w (Ret w (.tuple #[.agg #[(.int .i64 y1), (.int .i64 y2), (.int .i64 y3), (.int .i64 y4)], (.int .i64 g)]))) := by
  have A := fun w => Carry_c m1 m2 m3 m4 m5 m6 m7 b1 b2 b3 b4 w
  have C := fun w => Carry_c m1 m2 m3 m4 m5 m6 m7 c1 c2 c3 c4 w
  rcases Bool.eq_false_or_eq_true (dV m1 m2 m3 m4 m5 m6 m7 && vB b1 b2 b3 b4) with v | v
  · rcases Bool.eq_false_or_eq_true (rCarry m1 m2 m3 m4 m5 m6 m7 b1 b2 b3 b4) with r | r
    · rcases Bool.eq_false_or_eq_true (dV m1 m2 m3 m4 m5 m6 m7 && vB c1 c2 c3 c4) with v2 | v2
      · rcases Bool.eq_false_or_eq_true (rCarry m1 m2 m3 m4 m5 m6 m7 c1 c2 c3 c4) with r2 | r2
        · simp only [v, r, v2, r2, selI, selB, erv, cond_true, cond_false, Bool.and_true, Bool.and_false, Bool.true_and, Bool.false_and] at A C
          refine ⟨_, _, _, _, _, _, _, _, _, _, Or.inr (Or.inr ⟨rfl, rfl, ?_⟩), A, C⟩
          rw [Bool.and_eq_true] at v
          have vb := vB_iff.1 v.2
          rw [wiB_iff] at hw ⊢
          have k1 := c_in (a := m1) (b := m2) (c := m3) (r := m7) hw.1 hw.2.1 hw.2.2.1 hw.2.2.2 vb.1.2.1 vb.2.2.1
          have k2 := c_in (a := m4) (b := m5) (c := m6) (r := m7) hw.1 hw.2.1 hw.2.2.1 hw.2.2.2 vb.1.2.1 vb.2.2.1
          exact ⟨k1.1, k1.2, k2.1, k2.2⟩
        · simp only [v, r, v2, r2, selI, selB, erv, cond_true, cond_false, Bool.and_true, Bool.and_false, Bool.true_and, Bool.false_and] at A C
          exact ⟨_, _, _, _, _, _, _, _, _, _, Or.inr (Or.inl ⟨rfl, by omega⟩), A, C⟩
      · simp only [v, r, v2, selI, selB, erv, cond_true, cond_false, Bool.and_true, Bool.and_false, Bool.true_and, Bool.false_and] at A C
        exact ⟨_, _, _, _, _, _, _, _, _, _, Or.inr (Or.inl ⟨rfl, by omega⟩), A, C⟩
    · simp only [v, r, selI, selB, erv, cond_true, cond_false, Bool.and_true, Bool.and_false, Bool.true_and, Bool.false_and] at A
      exact ⟨_, _, _, _, _, _, _, _, _, _, Or.inl (by omega), A, C⟩
  · simp only [v, selI, selB, erv, cond_true, cond_false, Bool.and_true, Bool.and_false, Bool.true_and, Bool.false_and] at A
    exact ⟨_, _, _, _, _, _, _, _, _, _, Or.inl (by omega), A, C⟩
theorem boxes_back {m1 m2 m3 m4 m5 m6 m7 b1 b2 b3 b4 c1 c2 c3 c4 : Int} (hw : wiB b1 b2 b3 b4 c1 c2 c3 c4 = true) :
    ∃ x1 x2 x3 x4 f y1 y2 y3 y4 g : Int, ((f ≠ 0) ∨ (f = 0 ∧ g ≠ 0) ∨ (f = 0 ∧ g = 0 ∧ wiB x1 x2 x3 x4 y1 y2 y3 y4 = true)) ∧ (∀ w, Calls Try.prog 20 #[.agg #[(.int .i64 m1), (.int .i64 m2), (.int .i64 m3), (.int .i64 m4), (.int .i64 m5), (.int .i64 m6), (.int .i64 m7)], .agg #[(.int .i64 b1), (.int .i64 b2), (.int .i64 b3), (.int .i64 b4)]] w (Ret w (.tuple #[.agg #[(.int .i64 x1), (.int .i64 x2), (.int .i64 x3), (.int .i64 x4)], (.int .i64 f)]))) ∧ (∀ w, Calls Try.prog 20 #[.agg #[(.int .i64 m1), (.int .i64 m2), (.int .i64 m3), (.int .i64 m4), (.int .i64 m5), (.int .i64 m6), (.int .i64 m7)], .agg #[(.int .i64 c1), (.int .i64 c2), (.int .i64 c3), (.int .i64 c4)]] w (Ret w (.tuple #[.agg #[(.int .i64 y1), (.int .i64 y2), (.int .i64 y3), (.int .i64 y4)], (.int .i64 g)]))) := by
  have A := fun w => Back_c m1 m2 m3 m4 m5 m6 m7 b1 b2 b3 b4 w
  have C := fun w => Back_c m1 m2 m3 m4 m5 m6 m7 c1 c2 c3 c4 w
  rcases Bool.eq_false_or_eq_true (dV m1 m2 m3 m4 m5 m6 m7 && vB b1 b2 b3 b4) with v | v
  · rcases Bool.eq_false_or_eq_true (rPl (bX1 m1 m2 m3 m4 m5 m6 m7 b1 b2 b3 b4) (bX2 m1 m2 m3 m4 m5 m6 m7 b1 b2 b3 b4) (bY1 m1 m2 m3 m4 m5 m6 m7 b1 b2 b3 b4) (bY2 m1 m2 m3 m4 m5 m6 m7 b1 b2 b3 b4)) with r | r
    · rcases Bool.eq_false_or_eq_true (dV m1 m2 m3 m4 m5 m6 m7 && vB c1 c2 c3 c4) with v2 | v2
      · rcases Bool.eq_false_or_eq_true (rPl (bX1 m1 m2 m3 m4 m5 m6 m7 c1 c2 c3 c4) (bX2 m1 m2 m3 m4 m5 m6 m7 c1 c2 c3 c4) (bY1 m1 m2 m3 m4 m5 m6 m7 c1 c2 c3 c4) (bY2 m1 m2 m3 m4 m5 m6 m7 c1 c2 c3 c4)) with r2 | r2
        · simp only [v, r, v2, r2, selI, selB, erv, cond_true, cond_false, Bool.and_true, Bool.and_false, Bool.true_and, Bool.false_and] at A C
          refine ⟨_, _, _, _, _, _, _, _, _, _, Or.inr (Or.inr ⟨rfl, rfl, ?_⟩), A, C⟩
          rw [Bool.and_eq_true] at v
          have vb := vB_iff.1 v.2
          have g := rg_of v.1
          have g7 := g.h7
          have hd : 0 < m1 * m5 - m2 * m4 := Int.lt_of_lt_of_le (by omega) g.hd
          rw [wiB_iff] at hw ⊢
          have k1 := k_in (a := m5) (b := -m2) hd (show c1 - (m3 + m7) ≤ b1 - (m3 + m7) by omega) (show b2 - (m3 - m7) ≤ c2 - (m3 - m7) by omega) (show c3 - (m6 + m7) ≤ b3 - (m6 + m7) by omega) (show b4 - (m6 - m7) ≤ c4 - (m6 - m7) by omega) (by omega) (by omega)
          have k2 := k_in (a := -m4) (b := m1) hd (show c1 - (m3 + m7) ≤ b1 - (m3 + m7) by omega) (show b2 - (m3 - m7) ≤ c2 - (m3 - m7) by omega) (show c3 - (m6 + m7) ≤ b3 - (m6 + m7) by omega) (show b4 - (m6 - m7) ≤ c4 - (m6 - m7) by omega) (by omega) (by omega)
          unfold bX1 bX2 bY1 bY2
          omega
        · simp only [v, r, v2, r2, selI, selB, erv, cond_true, cond_false, Bool.and_true, Bool.and_false, Bool.true_and, Bool.false_and] at A C
          exact ⟨_, _, _, _, _, _, _, _, _, _, Or.inr (Or.inl ⟨rfl, by omega⟩), A, C⟩
      · simp only [v, r, v2, selI, selB, erv, cond_true, cond_false, Bool.and_true, Bool.and_false, Bool.true_and, Bool.false_and] at A C
        exact ⟨_, _, _, _, _, _, _, _, _, _, Or.inr (Or.inl ⟨rfl, by omega⟩), A, C⟩
    · simp only [v, r, selI, selB, erv, cond_true, cond_false, Bool.and_true, Bool.and_false, Bool.true_and, Bool.false_and] at A
      exact ⟨_, _, _, _, _, _, _, _, _, _, Or.inl (by omega), A, C⟩
  · simp only [v, selI, selB, erv, cond_true, cond_false, Bool.and_true, Bool.and_false, Bool.true_and, Bool.false_and] at A
    exact ⟨_, _, _, _, _, _, _, _, _, _, Or.inl (by omega), A, C⟩

set_option maxRecDepth 100000 in
set_option maxHeartbeats 25600000 in
theorem boxes_law (m1 m2 m3 m4 m5 m6 m7 p1 p2 b1 b2 b3 b4 c1 c2 c3 c4 : Int) (w : World)  : Calls Try.prog 5 #[(.agg #[(.int .i64 m1), (.int .i64 m2), (.int .i64 m3), (.int .i64 m4), (.int .i64 m5), (.int .i64 m6), (.int .i64 m7)]), (.agg #[(.int .i64 p1), (.int .i64 p2)]), (.agg #[(.int .i64 b1), (.int .i64 b2), (.int .i64 b3), (.int .i64 b4)]), (.agg #[(.int .i64 c1), (.int .i64 c2), (.int .i64 c3), (.int .i64 c4)])] w (Ret w (.bool true)) := by
  obtain ⟨a1, a2, a3, a4, e0, A, C⟩ := apply_carry m1 m2 m3 m4 m5 m6 m7 p1 p2
  have W0 := fun w => win_c b1 b2 b3 b4 c1 c2 c3 c4 w
  have hC := fun h => boxes_carry (m1 := m1) (m2 := m2) (m3 := m3) (m4 := m4) (m5 := m5) (m6 := m6) (m7 := m7) (b1 := b1) (b2 := b2) (b3 := b3) (b4 := b4) (c1 := c1) (c2 := c2) (c3 := c3) (c4 := c4) h
  have hB := fun h => boxes_back (m1 := m1) (m2 := m2) (m3 := m3) (m4 := m4) (m5 := m5) (m6 := m6) (m7 := m7) (b1 := b1) (b2 := b2) (b3 := b3) (b4 := b4) (c1 := c1) (c2 := c2) (c3 := c3) (c4 := c4) h
  generalize wiB b1 b2 b3 b4 c1 c2 c3 c4 = iw at *
  go_enter Try.func5, Try.ntmps5
  go_wp2_with fail
  refine Calls.mono (head_c _) ?_
  rintro e w1 ⟨rfl, hb⟩
  have km0 : w1.cell? ⟨w.heap.size, 0, none⟩ = some (.int .i64 m1) := cell_later hb (by go_simp)
  have km1 : w1.cell? ⟨w.heap.size, 1, none⟩ = some (.int .i64 m2) := cell_later hb (by go_simp)
  have km2 : w1.cell? ⟨w.heap.size, 2, none⟩ = some (.int .i64 m3) := cell_later hb (by go_simp)
  have km3 : w1.cell? ⟨w.heap.size, 3, none⟩ = some (.int .i64 m4) := cell_later hb (by go_simp)
  have km4 : w1.cell? ⟨w.heap.size, 4, none⟩ = some (.int .i64 m5) := cell_later hb (by go_simp)
  have km5 : w1.cell? ⟨w.heap.size, 5, none⟩ = some (.int .i64 m6) := cell_later hb (by go_simp)
  have km6 : w1.cell? ⟨w.heap.size, 6, none⟩ = some (.int .i64 m7) := cell_later hb (by go_simp)
  have kp0 : w1.cell? ⟨w.heap.size + 1, 0, none⟩ = some (.int .i64 p1) := cell_later hb (by go_simp)
  have kp1 : w1.cell? ⟨w.heap.size + 1, 1, none⟩ = some (.int .i64 p2) := cell_later hb (by go_simp)
  have kb0 : w1.cell? ⟨w.heap.size + 1 + 1, 0, none⟩ = some (.int .i64 b1) := cell_later hb (by go_simp)
  have kb1 : w1.cell? ⟨w.heap.size + 1 + 1, 1, none⟩ = some (.int .i64 b2) := cell_later hb (by go_simp)
  have kb2 : w1.cell? ⟨w.heap.size + 1 + 1, 2, none⟩ = some (.int .i64 b3) := cell_later hb (by go_simp)
  have kb3 : w1.cell? ⟨w.heap.size + 1 + 1, 3, none⟩ = some (.int .i64 b4) := cell_later hb (by go_simp)
  have kc0 : w1.cell? ⟨w.heap.size + 1 + 1 + 1, 0, none⟩ = some (.int .i64 c1) := cell_later hb (by go_simp)
  have kc1 : w1.cell? ⟨w.heap.size + 1 + 1 + 1, 1, none⟩ = some (.int .i64 c2) := cell_later hb (by go_simp)
  have kc2 : w1.cell? ⟨w.heap.size + 1 + 1 + 1, 2, none⟩ = some (.int .i64 c3) := cell_later hb (by go_simp)
  have kc3 : w1.cell? ⟨w.heap.size + 1 + 1 + 1, 3, none⟩ = some (.int .i64 c4) := cell_later hb (by go_simp)
  have zm : w.heap.size < w1.heap.size := World.block_lt_of_cell? _ _ km0
  have zm_w1 := zm
  have zp : w.heap.size + 1 < w1.heap.size := World.block_lt_of_cell? _ _ kp0
  have zp_w1 := zp
  have zb : w.heap.size + 1 + 1 < w1.heap.size := World.block_lt_of_cell? _ _ kb0
  have zb_w1 := zb
  have zc : w.heap.size + 1 + 1 + 1 < w1.heap.size := World.block_lt_of_cell? _ _ kc0
  have zc_w1 := zc
  have hb0 : Below w.heap.size w w1 := (by repeat (first | with_reducible exact Below.refl _ _ | with_reducible assumption | with_reducible refine Below.setCell ?_ (by first | omega | (simp <;> omega)) _ | with_reducible refine balloc ?_ _ | with_reducible refine Below.drew ?_ | with_reducible refine bstep ?_ (by with_reducible assumption)))
  have hs_w1 := hb.size; (try simp only [World.size_alloc, World.size_setCell] at hs_w1)
  clear hb
  go_wp2_with fail
  refine Calls.mono (A _) ?_
  rintro e w2 ⟨rfl, hb⟩
  replace km0 := cell_later hb km0
  replace km1 := cell_later hb km1
  replace km2 := cell_later hb km2
  replace km3 := cell_later hb km3
  replace km4 := cell_later hb km4
  replace km5 := cell_later hb km5
  replace km6 := cell_later hb km6
  replace kp0 := cell_later hb kp0
  replace kp1 := cell_later hb kp1
  replace kb0 := cell_later hb kb0
  replace kb1 := cell_later hb kb1
  replace kb2 := cell_later hb kb2
  replace kb3 := cell_later hb kb3
  replace kc0 := cell_later hb kc0
  replace kc1 := cell_later hb kc1
  replace kc2 := cell_later hb kc2
  replace kc3 := cell_later hb kc3
  replace zm : w.heap.size < w2.heap.size := World.block_lt_of_cell? _ _ km0
  have zm_w2 := zm
  replace zp : w.heap.size + 1 < w2.heap.size := World.block_lt_of_cell? _ _ kp0
  have zp_w2 := zp
  replace zb : w.heap.size + 1 + 1 < w2.heap.size := World.block_lt_of_cell? _ _ kb0
  have zb_w2 := zb
  replace zc : w.heap.size + 1 + 1 + 1 < w2.heap.size := World.block_lt_of_cell? _ _ kc0
  have zc_w2 := zc
  replace hb0 : Below w.heap.size w w2 := (by repeat (first | with_reducible exact Below.refl _ _ | with_reducible assumption | with_reducible refine Below.setCell ?_ (by first | omega | (simp <;> omega)) _ | with_reducible refine balloc ?_ _ | with_reducible refine Below.drew ?_ | with_reducible refine bstep ?_ (by with_reducible assumption)))
  have hs_w2 : w1.heap.size ≤ w2.heap.size := hb.size
  clear hb
  go_upto_region 3 with fail
  go_cut [12, 13] (fun s12 s13 wx => ∃ gy : Nat, s12 = .pointer (some ⟨gy, 0, none⟩) ∧ s13 = (.int .i64 e0) ∧ w2.heap.size + 1 ≤ gy ∧ wx.cell? ⟨gy, 0, none⟩ = some (.int .i64 a1) ∧ wx.frozen? ⟨gy, 0, none⟩ = false ∧ wx.cell? ⟨gy, 1, none⟩ = some (.int .i64 a2) ∧ wx.frozen? ⟨gy, 1, none⟩ = false ∧ wx.cell? ⟨gy, 2, none⟩ = some (.int .i64 a3) ∧ wx.frozen? ⟨gy, 2, none⟩ = false ∧ wx.cell? ⟨gy, 3, none⟩ = some (.int .i64 a4) ∧ wx.frozen? ⟨gy, 3, none⟩ = false ∧ wx.cell? ⟨w.heap.size, 0, none⟩ = some (.int .i64 m1) ∧ wx.cell? ⟨w.heap.size, 1, none⟩ = some (.int .i64 m2) ∧ wx.cell? ⟨w.heap.size, 2, none⟩ = some (.int .i64 m3) ∧ wx.cell? ⟨w.heap.size, 3, none⟩ = some (.int .i64 m4) ∧ wx.cell? ⟨w.heap.size, 4, none⟩ = some (.int .i64 m5) ∧ wx.cell? ⟨w.heap.size, 5, none⟩ = some (.int .i64 m6) ∧ wx.cell? ⟨w.heap.size, 6, none⟩ = some (.int .i64 m7) ∧ wx.cell? ⟨w.heap.size + 1, 0, none⟩ = some (.int .i64 p1) ∧ wx.cell? ⟨w.heap.size + 1, 1, none⟩ = some (.int .i64 p2) ∧ wx.cell? ⟨w.heap.size + 1 + 1, 0, none⟩ = some (.int .i64 b1) ∧ wx.cell? ⟨w.heap.size + 1 + 1, 1, none⟩ = some (.int .i64 b2) ∧ wx.cell? ⟨w.heap.size + 1 + 1, 2, none⟩ = some (.int .i64 b3) ∧ wx.cell? ⟨w.heap.size + 1 + 1, 3, none⟩ = some (.int .i64 b4) ∧ wx.cell? ⟨w.heap.size + 1 + 1 + 1, 0, none⟩ = some (.int .i64 c1) ∧ wx.cell? ⟨w.heap.size + 1 + 1 + 1, 1, none⟩ = some (.int .i64 c2) ∧ wx.cell? ⟨w.heap.size + 1 + 1 + 1, 2, none⟩ = some (.int .i64 c3) ∧ wx.cell? ⟨w.heap.size + 1 + 1 + 1, 3, none⟩ = some (.int .i64 c4) ∧ wx.cell? ⟨w2.heap.size, 0, none⟩ = some (.int .i64 a1) ∧ wx.frozen? ⟨w2.heap.size, 0, none⟩ = false ∧ wx.cell? ⟨w2.heap.size, 1, none⟩ = some (.int .i64 a2) ∧ wx.frozen? ⟨w2.heap.size, 1, none⟩ = false ∧ wx.cell? ⟨w2.heap.size, 2, none⟩ = some (.int .i64 a3) ∧ wx.frozen? ⟨w2.heap.size, 2, none⟩ = false ∧ wx.cell? ⟨w2.heap.size, 3, none⟩ = some (.int .i64 a4) ∧ wx.frozen? ⟨w2.heap.size, 3, none⟩ = false ∧ Below w.heap.size w wx)
  case first =>
    refine wp_region_held_drew (S := fun w' => w'.cell? ⟨w.heap.size, 0, none⟩ = some (.int .i64 m1) ∧ w'.cell? ⟨w.heap.size, 1, none⟩ = some (.int .i64 m2) ∧ w'.cell? ⟨w.heap.size, 2, none⟩ = some (.int .i64 m3) ∧ w'.cell? ⟨w.heap.size, 3, none⟩ = some (.int .i64 m4) ∧ w'.cell? ⟨w.heap.size, 4, none⟩ = some (.int .i64 m5) ∧ w'.cell? ⟨w.heap.size, 5, none⟩ = some (.int .i64 m6) ∧ w'.cell? ⟨w.heap.size, 6, none⟩ = some (.int .i64 m7) ∧ w'.cell? ⟨w.heap.size + 1, 0, none⟩ = some (.int .i64 p1) ∧ w'.cell? ⟨w.heap.size + 1, 1, none⟩ = some (.int .i64 p2)) (by kernel_rfl) (by first | (go_keep; done) | ((repeat' apply And.intro) <;> go_simp)) (fun hHeld => ?_)
    refine wpAnyH_take (i := 0) (oi := ⟨some 22, _, _, _, _, _⟩) (v := ?_) rfl (by kernel_rfl) (by kernel_rfl) (by kernel_rfl) (fun _ _ _ h => h) (Or.inl ⟨by rfl, ?_⟩) (by assumption) ?_
    rotate_left
    · intro w hSw; (try dsimp only at hSw); go_simp; try with_reducible rfl
    try simp only [Act.put, List.setIfInBounds_toArray, List.set_cons_zero, List.set_cons_succ]
    refine wpAnyH_take (i := 1) (oi := ⟨some 23, _, _, _, _, _⟩) (v := ?_) rfl (by kernel_rfl) (by kernel_rfl) (by kernel_rfl) (fun _ _ _ h => h) (Or.inl ⟨by rfl, ?_⟩) (by assumption) ?_
    rotate_left
    · intro w hSw; (try dsimp only at hSw); go_simp; try with_reducible rfl
    try simp only [Act.put, List.setIfInBounds_toArray, List.set_cons_zero, List.set_cons_succ]
    refine wpAnyH_take (i := 2) (oi := ⟨some 24, _, _, _, _, _⟩) (v := ?_) rfl (by kernel_rfl) (by kernel_rfl) (by kernel_rfl) (fun _ _ _ h => h) (Or.inl ⟨by rfl, ?_⟩) (by assumption) ?_
    rotate_left
    · intro w hSw; (try dsimp only at hSw); go_simp; try with_reducible rfl
    try simp only [Act.put, List.setIfInBounds_toArray, List.set_cons_zero, List.set_cons_succ]
    refine wpAnyH_take (i := 3) (oi := ⟨some 25, _, _, _, _, _⟩) (v := ?_) rfl (by kernel_rfl) (by kernel_rfl) (by kernel_rfl) (fun _ _ _ h => h) (Or.inl ⟨by rfl, ?_⟩) (by assumption) ?_
    rotate_left
    · intro w hSw; (try dsimp only at hSw); go_simp; try with_reducible rfl
    try simp only [Act.put, List.setIfInBounds_toArray, List.set_cons_zero, List.set_cons_succ]
    refine wpAnyH_take (i := 4) (oi := ⟨some 26, _, _, _, _, _⟩) (v := ?_) rfl (by kernel_rfl) (by kernel_rfl) (by kernel_rfl) (fun _ _ _ h => h) (Or.inl ⟨by rfl, ?_⟩) (by assumption) ?_
    rotate_left
    · intro w hSw; (try dsimp only at hSw); go_simp; try with_reducible rfl
    try simp only [Act.put, List.setIfInBounds_toArray, List.set_cons_zero, List.set_cons_succ]
    refine wpAnyH_take (i := 5) (oi := ⟨some 27, _, _, _, _, _⟩) (v := ?_) rfl (by kernel_rfl) (by kernel_rfl) (by kernel_rfl) (fun _ _ _ h => h) (Or.inl ⟨by rfl, ?_⟩) (by assumption) ?_
    rotate_left
    · intro w hSw; (try dsimp only at hSw); go_simp; try with_reducible rfl
    try simp only [Act.put, List.setIfInBounds_toArray, List.set_cons_zero, List.set_cons_succ]
    refine wpAnyH_take (i := 6) (oi := ⟨some 28, _, _, _, _, _⟩) (v := ?_) rfl (by kernel_rfl) (by kernel_rfl) (by kernel_rfl) (fun _ _ _ h => h) (Or.inl ⟨by rfl, ?_⟩) (by assumption) ?_
    rotate_left
    · intro w hSw; (try dsimp only at hSw); go_simp; try with_reducible rfl
    try simp only [Act.put, List.setIfInBounds_toArray, List.set_cons_zero, List.set_cons_succ]
    refine wpAnyH_take (i := 7) (oi := ⟨some 29, _, _, _, _, _⟩) (v := ?_) rfl (by kernel_rfl) (by kernel_rfl) (by kernel_rfl) (fun _ _ _ h => h) (Or.inl ⟨by rfl, ?_⟩) (by assumption) ?_
    rotate_left
    · intro w hSw; (try dsimp only at hSw); go_simp; try with_reducible rfl
    try simp only [Act.put, List.setIfInBounds_toArray, List.set_cons_zero, List.set_cons_succ]
    refine wpAnyH_take (i := 8) (oi := ⟨some 30, _, _, _, _, _⟩) (v := ?_) rfl (by kernel_rfl) (by kernel_rfl) (by kernel_rfl) (fun _ _ _ h => h) (Or.inl ⟨by rfl, ?_⟩) (by assumption) ?_
    rotate_left
    · intro w hSw; (try dsimp only at hSw); go_simp; try with_reducible rfl
    try simp only [Act.put, List.setIfInBounds_toArray, List.set_cons_zero, List.set_cons_succ]
    refine wpAnyH_ready (rs := [9, 14]) (by kernel_rfl) (by simp) ?_
    refine AllReadyH.cons (o := ⟨some 31, _, _, _, _, _⟩) rfl (fun KK hKK => ?_) (AllReadyH.cons (o := ⟨some 12, _, _, _, _, _⟩) rfl (fun KK hKK => ?_) AllReadyH.nil)
    · go_simp
      refine Calls.mono (box_c p1 p1 p2 p2 _) ?_
      rintro e wt3 ⟨rfl, hb⟩
      replace km0 := cell_later hb (cell_al _ km0)
      replace km1 := cell_later hb (cell_al _ km1)
      replace km2 := cell_later hb (cell_al _ km2)
      replace km3 := cell_later hb (cell_al _ km3)
      replace km4 := cell_later hb (cell_al _ km4)
      replace km5 := cell_later hb (cell_al _ km5)
      replace km6 := cell_later hb (cell_al _ km6)
      replace kp0 := cell_later hb (cell_al _ kp0)
      replace kp1 := cell_later hb (cell_al _ kp1)
      replace kb0 := cell_later hb (cell_al _ kb0)
      replace kb1 := cell_later hb (cell_al _ kb1)
      replace kb2 := cell_later hb (cell_al _ kb2)
      replace kb3 := cell_later hb (cell_al _ kb3)
      replace kc0 := cell_later hb (cell_al _ kc0)
      replace kc1 := cell_later hb (cell_al _ kc1)
      replace kc2 := cell_later hb (cell_al _ kc2)
      replace kc3 := cell_later hb (cell_al _ kc3)
      have kx0 : wt3.cell? ⟨w2.heap.size, 0, none⟩ = some (.int .i64 a1) := cell_later hb (by go_simp)
      have jx0 : wt3.frozen? ⟨w2.heap.size, 0, none⟩ = false := by rw [(bcell hb).2 _ _ (by first | omega | (simp <;> omega))]; go_simp
      have kx1 : wt3.cell? ⟨w2.heap.size, 1, none⟩ = some (.int .i64 a2) := cell_later hb (by go_simp)
      have jx1 : wt3.frozen? ⟨w2.heap.size, 1, none⟩ = false := by rw [(bcell hb).2 _ _ (by first | omega | (simp <;> omega))]; go_simp
      have kx2 : wt3.cell? ⟨w2.heap.size, 2, none⟩ = some (.int .i64 a3) := cell_later hb (by go_simp)
      have jx2 : wt3.frozen? ⟨w2.heap.size, 2, none⟩ = false := by rw [(bcell hb).2 _ _ (by first | omega | (simp <;> omega))]; go_simp
      have kx3 : wt3.cell? ⟨w2.heap.size, 3, none⟩ = some (.int .i64 a4) := cell_later hb (by go_simp)
      have jx3 : wt3.frozen? ⟨w2.heap.size, 3, none⟩ = false := by rw [(bcell hb).2 _ _ (by first | omega | (simp <;> omega))]; go_simp
      replace zm : w.heap.size < wt3.heap.size := World.block_lt_of_cell? _ _ km0
      have zm_wt3 := zm
      replace zp : w.heap.size + 1 < wt3.heap.size := World.block_lt_of_cell? _ _ kp0
      have zp_wt3 := zp
      replace zb : w.heap.size + 1 + 1 < wt3.heap.size := World.block_lt_of_cell? _ _ kb0
      have zb_wt3 := zb
      replace zc : w.heap.size + 1 + 1 + 1 < wt3.heap.size := World.block_lt_of_cell? _ _ kc0
      have zc_wt3 := zc
      have zx : w2.heap.size < wt3.heap.size := World.block_lt_of_cell? _ _ kx0
      have zx_wt3 := zx
      replace hb0 : Below w.heap.size w wt3 := (by repeat (first | with_reducible exact Below.refl _ _ | with_reducible assumption | with_reducible refine Below.setCell ?_ (by first | omega | (simp <;> omega)) _ | with_reducible refine balloc ?_ _ | with_reducible refine Below.drew ?_ | with_reducible refine bstep ?_ (by with_reducible assumption)))
      have hs_wt3 := hb.size; (try simp only [World.size_alloc, World.size_setCell] at hs_wt3)
      clear hb
      (try go_wp2_with fail)
      refine hKK.out _ _ (by first | (go_keep; done) | ((repeat' apply And.intro) <;> go_simp)) (fun hHeld => ?_)
      clear hKK KK
      try simp only [Act.put, List.setIfInBounds_toArray, List.set_cons_zero, List.set_cons_succ]
      refine wpAnyH_ready (rs := [10, 14]) (by kernel_rfl) (by simp) ?_
      refine AllReadyH.cons (o := ⟨some 32, _, _, _, _, _⟩) rfl (fun KK hKK => ?_) (AllReadyH.cons (o := ⟨some 12, _, _, _, _, _⟩) rfl (fun KK hKK => ?_) AllReadyH.nil)
      · go_simp
        refine Calls.mono (C _) ?_
        rintro e wt4 ⟨rfl, hb⟩
        replace km0 := cell_later hb km0
        replace km1 := cell_later hb km1
        replace km2 := cell_later hb km2
        replace km3 := cell_later hb km3
        replace km4 := cell_later hb km4
        replace km5 := cell_later hb km5
        replace km6 := cell_later hb km6
        replace kp0 := cell_later hb kp0
        replace kp1 := cell_later hb kp1
        replace kb0 := cell_later hb kb0
        replace kb1 := cell_later hb kb1
        replace kb2 := cell_later hb kb2
        replace kb3 := cell_later hb kb3
        replace kc0 := cell_later hb kc0
        replace kc1 := cell_later hb kc1
        replace kc2 := cell_later hb kc2
        replace kc3 := cell_later hb kc3
        replace jx0 := fro_later hb kx0 jx0
        replace kx0 := cell_later hb kx0
        replace jx1 := fro_later hb kx1 jx1
        replace kx1 := cell_later hb kx1
        replace jx2 := fro_later hb kx2 jx2
        replace kx2 := cell_later hb kx2
        replace jx3 := fro_later hb kx3 jx3
        replace kx3 := cell_later hb kx3
        replace zm : w.heap.size < wt4.heap.size := World.block_lt_of_cell? _ _ km0
        have zm_wt4 := zm
        replace zp : w.heap.size + 1 < wt4.heap.size := World.block_lt_of_cell? _ _ kp0
        have zp_wt4 := zp
        replace zb : w.heap.size + 1 + 1 < wt4.heap.size := World.block_lt_of_cell? _ _ kb0
        have zb_wt4 := zb
        replace zc : w.heap.size + 1 + 1 + 1 < wt4.heap.size := World.block_lt_of_cell? _ _ kc0
        have zc_wt4 := zc
        replace zx : w2.heap.size < wt4.heap.size := World.block_lt_of_cell? _ _ kx0
        have zx_wt4 := zx
        replace hb0 : Below w.heap.size w wt4 := (by repeat (first | with_reducible exact Below.refl _ _ | with_reducible assumption | with_reducible refine Below.setCell ?_ (by first | omega | (simp <;> omega)) _ | with_reducible refine balloc ?_ _ | with_reducible refine Below.drew ?_ | with_reducible refine bstep ?_ (by with_reducible assumption)))
        have hs_wt4 : wt3.heap.size ≤ wt4.heap.size := hb.size
        clear hb
        (try go_wp2_with fail)
        refine hKK.out _ _ (by first | (go_keep; done) | ((repeat' apply And.intro) <;> go_simp)) (fun hHeld => ?_)
        clear hKK KK
        try simp only [Act.put, List.setIfInBounds_toArray, List.set_cons_zero, List.set_cons_succ]
        refine wpAnyH_take (i := 11) (oi := ⟨some 21, _, _, _, _, _⟩) (v := ?_) rfl (by kernel_rfl) (by kernel_rfl) (by kernel_rfl) (fun _ _ _ h => h) (Or.inl ⟨by rfl, ?_⟩) (by assumption) ?_
        rotate_left
        · intro w hSw; (try dsimp only at hSw); go_simp; try with_reducible rfl
        try simp only [Act.put, List.setIfInBounds_toArray, List.set_cons_zero, List.set_cons_succ]
        refine wpAnyH_take (i := 12) (oi := ⟨some 33, _, _, _, _, _⟩) (v := ?_) rfl (by kernel_rfl) (by kernel_rfl) (by kernel_rfl) (fun _ _ _ h => h) (Or.inl ⟨by rfl, ?_⟩) (by assumption) ?_
        rotate_left
        · intro w hSw; (try dsimp only at hSw); go_simp; try with_reducible rfl
        try simp only [Act.put, List.setIfInBounds_toArray, List.set_cons_zero, List.set_cons_succ]
        refine wpAnyH_take (i := 13) (oi := ⟨some 34, _, _, _, _, _⟩) (v := ?_) rfl (by kernel_rfl) (by kernel_rfl) (by kernel_rfl) (fun _ _ _ h => h) (Or.inl ⟨by rfl, ?_⟩) (by assumption) ?_
        rotate_left
        · intro w hSw; (try dsimp only at hSw); go_simp; try with_reducible rfl
        try simp only [Act.put, List.setIfInBounds_toArray, List.set_cons_zero, List.set_cons_succ]
        refine wpAnyH_ready (rs := [14]) (by kernel_rfl) (by simp) ?_
        refine AllReadyH.cons (o := ⟨some 12, _, _, _, _, _⟩) rfl (fun KK hKK => ?_) AllReadyH.nil
        go_simp
        (try go_wp2_with fail)
        refine hKK.out _ _ (by first | (go_keep; done) | ((repeat' apply And.intro) <;> go_simp)) (fun hHeld => ?_)
        clear hKK KK
        try simp only [Act.put, List.setIfInBounds_toArray, List.set_cons_zero, List.set_cons_succ]
        refine wpAnyH_ready (rs := [15]) (by kernel_rfl) (by simp) ?_
        refine AllReadyH.cons (o := ⟨none, _, _, _, _, _⟩) rfl (fun KK hKK => ?_) AllReadyH.nil
        go_simp
        (try go_wp2_with fail)
        refine hKK.out _ _ (by first | (go_keep; done) | ((repeat' apply And.intro) <;> go_simp)) (fun hHeld => ?_)
        clear hKK KK
        try simp only [Act.put, List.setIfInBounds_toArray, List.set_cons_zero, List.set_cons_succ]
        refine wpAnyH_take (i := 16) (oi := ⟨some 13, _, _, _, _, _⟩) (v := ?_) rfl (by kernel_rfl) (by kernel_rfl) (by kernel_rfl) (fun _ _ _ h => h) (Or.inl ⟨by rfl, ?_⟩) (by assumption) ?_
        rotate_left
        · intro w hSw; (try dsimp only at hSw); go_simp; try with_reducible rfl
        try simp only [Act.put, List.setIfInBounds_toArray, List.set_cons_zero, List.set_cons_succ]
        refine wpAnyH_done (by kernel_rfl) ?_ _
        (try dsimp only [Exit.then, Met])
        go_wp2_with fail
        go_meet
        refine ⟨_, rfl, rfl, by first | omega | (simp; omega), ?_, ?_, ?_, ?_, ?_, ?_, ?_, ?_, ?_, ?_, ?_, ?_, ?_, ?_, ?_, ?_, ?_, ?_, ?_, ?_, ?_, ?_, ?_, ?_, ?_, ?_, ?_, ?_, ?_, ?_, ?_, ?_, ?_, (by repeat (first | with_reducible exact Below.refl _ _ | with_reducible assumption | with_reducible refine Below.setCell ?_ (by first | omega | (simp <;> omega)) _ | with_reducible refine balloc ?_ _ | with_reducible refine Below.drew ?_ | with_reducible refine bstep ?_ (by with_reducible assumption)))⟩
        all_goals first | (with_reducible assumption) | go_simp
      · go_simp
        (try go_wp2_with fail)
        refine hKK.out _ _ (by first | (go_keep; done) | ((repeat' apply And.intro) <;> go_simp)) (fun hHeld => ?_)
        clear hKK KK
        try simp only [Act.put, List.setIfInBounds_toArray, List.set_cons_zero, List.set_cons_succ]
        refine wpAnyH_ready (rs := [10]) (by kernel_rfl) (by simp) ?_
        refine AllReadyH.cons (o := ⟨some 32, _, _, _, _, _⟩) rfl (fun KK hKK => ?_) AllReadyH.nil
        go_simp
        refine Calls.mono (C _) ?_
        rintro e wt4 ⟨rfl, hb⟩
        replace km0 := cell_later hb (cell_al _ km0)
        replace km1 := cell_later hb (cell_al _ km1)
        replace km2 := cell_later hb (cell_al _ km2)
        replace km3 := cell_later hb (cell_al _ km3)
        replace km4 := cell_later hb (cell_al _ km4)
        replace km5 := cell_later hb (cell_al _ km5)
        replace km6 := cell_later hb (cell_al _ km6)
        replace kp0 := cell_later hb (cell_al _ kp0)
        replace kp1 := cell_later hb (cell_al _ kp1)
        replace kb0 := cell_later hb (cell_al _ kb0)
        replace kb1 := cell_later hb (cell_al _ kb1)
        replace kb2 := cell_later hb (cell_al _ kb2)
        replace kb3 := cell_later hb (cell_al _ kb3)
        replace kc0 := cell_later hb (cell_al _ kc0)
        replace kc1 := cell_later hb (cell_al _ kc1)
        replace kc2 := cell_later hb (cell_al _ kc2)
        replace kc3 := cell_later hb (cell_al _ kc3)
        replace jx0 := fro_later hb (cell_al _ kx0) (fro_al jx0)
        replace kx0 := cell_later hb (cell_al _ kx0)
        replace jx1 := fro_later hb (cell_al _ kx1) (fro_al jx1)
        replace kx1 := cell_later hb (cell_al _ kx1)
        replace jx2 := fro_later hb (cell_al _ kx2) (fro_al jx2)
        replace kx2 := cell_later hb (cell_al _ kx2)
        replace jx3 := fro_later hb (cell_al _ kx3) (fro_al jx3)
        replace kx3 := cell_later hb (cell_al _ kx3)
        have ky0 : wt4.cell? ⟨wt3.heap.size, 0, none⟩ = some (.int .i64 0) := cell_later hb (by go_simp)
        have jy0 : wt4.frozen? ⟨wt3.heap.size, 0, none⟩ = false := by rw [(bcell hb).2 _ _ (by first | omega | (simp <;> omega))]; go_simp
        have ky1 : wt4.cell? ⟨wt3.heap.size, 1, none⟩ = some (.int .i64 0) := cell_later hb (by go_simp)
        have jy1 : wt4.frozen? ⟨wt3.heap.size, 1, none⟩ = false := by rw [(bcell hb).2 _ _ (by first | omega | (simp <;> omega))]; go_simp
        have ky2 : wt4.cell? ⟨wt3.heap.size, 2, none⟩ = some (.int .i64 0) := cell_later hb (by go_simp)
        have jy2 : wt4.frozen? ⟨wt3.heap.size, 2, none⟩ = false := by rw [(bcell hb).2 _ _ (by first | omega | (simp <;> omega))]; go_simp
        have ky3 : wt4.cell? ⟨wt3.heap.size, 3, none⟩ = some (.int .i64 0) := cell_later hb (by go_simp)
        have jy3 : wt4.frozen? ⟨wt3.heap.size, 3, none⟩ = false := by rw [(bcell hb).2 _ _ (by first | omega | (simp <;> omega))]; go_simp
        replace zm : w.heap.size < wt4.heap.size := World.block_lt_of_cell? _ _ km0
        have zm_wt4 := zm
        replace zp : w.heap.size + 1 < wt4.heap.size := World.block_lt_of_cell? _ _ kp0
        have zp_wt4 := zp
        replace zb : w.heap.size + 1 + 1 < wt4.heap.size := World.block_lt_of_cell? _ _ kb0
        have zb_wt4 := zb
        replace zc : w.heap.size + 1 + 1 + 1 < wt4.heap.size := World.block_lt_of_cell? _ _ kc0
        have zc_wt4 := zc
        replace zx : w2.heap.size < wt4.heap.size := World.block_lt_of_cell? _ _ kx0
        have zx_wt4 := zx
        have zy : wt3.heap.size < wt4.heap.size := World.block_lt_of_cell? _ _ ky0
        have zy_wt4 := zy
        replace hb0 : Below w.heap.size w wt4 := (by repeat (first | with_reducible exact Below.refl _ _ | with_reducible assumption | with_reducible refine Below.setCell ?_ (by first | omega | (simp <;> omega)) _ | with_reducible refine balloc ?_ _ | with_reducible refine Below.drew ?_ | with_reducible refine bstep ?_ (by with_reducible assumption)))
        have hs_wt4 := hb.size; (try simp only [World.size_alloc, World.size_setCell] at hs_wt4)
        clear hb
        (try go_wp2_with fail)
        refine hKK.out _ _ (by first | (go_keep; done) | ((repeat' apply And.intro) <;> go_simp)) (fun hHeld => ?_)
        clear hKK KK
        try simp only [Act.put, List.setIfInBounds_toArray, List.set_cons_zero, List.set_cons_succ]
        refine wpAnyH_take (i := 11) (oi := ⟨some 21, _, _, _, _, _⟩) (v := ?_) rfl (by kernel_rfl) (by kernel_rfl) (by kernel_rfl) (fun _ _ _ h => h) (Or.inl ⟨by rfl, ?_⟩) (by assumption) ?_
        rotate_left
        · intro w hSw; (try dsimp only at hSw); go_simp; try with_reducible rfl
        try simp only [Act.put, List.setIfInBounds_toArray, List.set_cons_zero, List.set_cons_succ]
        refine wpAnyH_take (i := 12) (oi := ⟨some 33, _, _, _, _, _⟩) (v := ?_) rfl (by kernel_rfl) (by kernel_rfl) (by kernel_rfl) (fun _ _ _ h => h) (Or.inl ⟨by rfl, ?_⟩) (by assumption) ?_
        rotate_left
        · intro w hSw; (try dsimp only at hSw); go_simp; try with_reducible rfl
        try simp only [Act.put, List.setIfInBounds_toArray, List.set_cons_zero, List.set_cons_succ]
        refine wpAnyH_take (i := 13) (oi := ⟨some 34, _, _, _, _, _⟩) (v := ?_) rfl (by kernel_rfl) (by kernel_rfl) (by kernel_rfl) (fun _ _ _ h => h) (Or.inl ⟨by rfl, ?_⟩) (by assumption) ?_
        rotate_left
        · intro w hSw; (try dsimp only at hSw); go_simp; try with_reducible rfl
        try simp only [Act.put, List.setIfInBounds_toArray, List.set_cons_zero, List.set_cons_succ]
        refine wpAnyH_ready (rs := [15]) (by kernel_rfl) (by simp) ?_
        refine AllReadyH.cons (o := ⟨none, _, _, _, _, _⟩) rfl (fun KK hKK => ?_) AllReadyH.nil
        go_simp
        (try go_wp2_with fail)
        refine hKK.out _ _ (by first | (go_keep; done) | ((repeat' apply And.intro) <;> go_simp)) (fun hHeld => ?_)
        clear hKK KK
        try simp only [Act.put, List.setIfInBounds_toArray, List.set_cons_zero, List.set_cons_succ]
        refine wpAnyH_take (i := 16) (oi := ⟨some 13, _, _, _, _, _⟩) (v := ?_) rfl (by kernel_rfl) (by kernel_rfl) (by kernel_rfl) (fun _ _ _ h => h) (Or.inl ⟨by rfl, ?_⟩) (by assumption) ?_
        rotate_left
        · intro w hSw; (try dsimp only at hSw); go_simp; try with_reducible rfl
        try simp only [Act.put, List.setIfInBounds_toArray, List.set_cons_zero, List.set_cons_succ]
        refine wpAnyH_done (by kernel_rfl) ?_ _
        (try dsimp only [Exit.then, Met])
        go_wp2_with fail
        go_meet
        refine ⟨_, rfl, rfl, by first | omega | (simp; omega), ?_, ?_, ?_, ?_, ?_, ?_, ?_, ?_, ?_, ?_, ?_, ?_, ?_, ?_, ?_, ?_, ?_, ?_, ?_, ?_, ?_, ?_, ?_, ?_, ?_, ?_, ?_, ?_, ?_, ?_, ?_, ?_, ?_, (by repeat (first | with_reducible exact Below.refl _ _ | with_reducible assumption | with_reducible refine Below.setCell ?_ (by first | omega | (simp <;> omega)) _ | with_reducible refine balloc ?_ _ | with_reducible refine Below.drew ?_ | with_reducible refine bstep ?_ (by with_reducible assumption)))⟩
        all_goals first | (with_reducible assumption) | go_simp
    · go_simp
      (try go_wp2_with fail)
      refine hKK.out _ _ (by first | (go_keep; done) | ((repeat' apply And.intro) <;> go_simp)) (fun hHeld => ?_)
      clear hKK KK
      try simp only [Act.put, List.setIfInBounds_toArray, List.set_cons_zero, List.set_cons_succ]
      refine wpAnyH_ready (rs := [9]) (by kernel_rfl) (by simp) ?_
      refine AllReadyH.cons (o := ⟨some 31, _, _, _, _, _⟩) rfl (fun KK hKK => ?_) AllReadyH.nil
      go_simp
      refine Calls.mono (box_c p1 p1 p2 p2 _) ?_
      rintro e wt3 ⟨rfl, hb⟩
      replace km0 := cell_later hb (cell_al _ (cell_al _ km0))
      replace km1 := cell_later hb (cell_al _ (cell_al _ km1))
      replace km2 := cell_later hb (cell_al _ (cell_al _ km2))
      replace km3 := cell_later hb (cell_al _ (cell_al _ km3))
      replace km4 := cell_later hb (cell_al _ (cell_al _ km4))
      replace km5 := cell_later hb (cell_al _ (cell_al _ km5))
      replace km6 := cell_later hb (cell_al _ (cell_al _ km6))
      replace kp0 := cell_later hb (cell_al _ (cell_al _ kp0))
      replace kp1 := cell_later hb (cell_al _ (cell_al _ kp1))
      replace kb0 := cell_later hb (cell_al _ (cell_al _ kb0))
      replace kb1 := cell_later hb (cell_al _ (cell_al _ kb1))
      replace kb2 := cell_later hb (cell_al _ (cell_al _ kb2))
      replace kb3 := cell_later hb (cell_al _ (cell_al _ kb3))
      replace kc0 := cell_later hb (cell_al _ (cell_al _ kc0))
      replace kc1 := cell_later hb (cell_al _ (cell_al _ kc1))
      replace kc2 := cell_later hb (cell_al _ (cell_al _ kc2))
      replace kc3 := cell_later hb (cell_al _ (cell_al _ kc3))
      have kx0 : wt3.cell? ⟨w2.heap.size, 0, none⟩ = some (.int .i64 a1) := cell_later hb (by go_simp)
      have jx0 : wt3.frozen? ⟨w2.heap.size, 0, none⟩ = false := by rw [(bcell hb).2 _ _ (by first | omega | (simp <;> omega))]; go_simp
      have kx1 : wt3.cell? ⟨w2.heap.size, 1, none⟩ = some (.int .i64 a2) := cell_later hb (by go_simp)
      have jx1 : wt3.frozen? ⟨w2.heap.size, 1, none⟩ = false := by rw [(bcell hb).2 _ _ (by first | omega | (simp <;> omega))]; go_simp
      have kx2 : wt3.cell? ⟨w2.heap.size, 2, none⟩ = some (.int .i64 a3) := cell_later hb (by go_simp)
      have jx2 : wt3.frozen? ⟨w2.heap.size, 2, none⟩ = false := by rw [(bcell hb).2 _ _ (by first | omega | (simp <;> omega))]; go_simp
      have kx3 : wt3.cell? ⟨w2.heap.size, 3, none⟩ = some (.int .i64 a4) := cell_later hb (by go_simp)
      have jx3 : wt3.frozen? ⟨w2.heap.size, 3, none⟩ = false := by rw [(bcell hb).2 _ _ (by first | omega | (simp <;> omega))]; go_simp
      have ky0 : wt3.cell? ⟨w2.heap.size + 1, 0, none⟩ = some (.int .i64 0) := cell_later hb (by go_simp)
      have jy0 : wt3.frozen? ⟨w2.heap.size + 1, 0, none⟩ = false := by rw [(bcell hb).2 _ _ (by first | omega | (simp <;> omega))]; go_simp
      have ky1 : wt3.cell? ⟨w2.heap.size + 1, 1, none⟩ = some (.int .i64 0) := cell_later hb (by go_simp)
      have jy1 : wt3.frozen? ⟨w2.heap.size + 1, 1, none⟩ = false := by rw [(bcell hb).2 _ _ (by first | omega | (simp <;> omega))]; go_simp
      have ky2 : wt3.cell? ⟨w2.heap.size + 1, 2, none⟩ = some (.int .i64 0) := cell_later hb (by go_simp)
      have jy2 : wt3.frozen? ⟨w2.heap.size + 1, 2, none⟩ = false := by rw [(bcell hb).2 _ _ (by first | omega | (simp <;> omega))]; go_simp
      have ky3 : wt3.cell? ⟨w2.heap.size + 1, 3, none⟩ = some (.int .i64 0) := cell_later hb (by go_simp)
      have jy3 : wt3.frozen? ⟨w2.heap.size + 1, 3, none⟩ = false := by rw [(bcell hb).2 _ _ (by first | omega | (simp <;> omega))]; go_simp
      replace zm : w.heap.size < wt3.heap.size := World.block_lt_of_cell? _ _ km0
      have zm_wt3 := zm
      replace zp : w.heap.size + 1 < wt3.heap.size := World.block_lt_of_cell? _ _ kp0
      have zp_wt3 := zp
      replace zb : w.heap.size + 1 + 1 < wt3.heap.size := World.block_lt_of_cell? _ _ kb0
      have zb_wt3 := zb
      replace zc : w.heap.size + 1 + 1 + 1 < wt3.heap.size := World.block_lt_of_cell? _ _ kc0
      have zc_wt3 := zc
      have zx : w2.heap.size < wt3.heap.size := World.block_lt_of_cell? _ _ kx0
      have zx_wt3 := zx
      have zy : w2.heap.size + 1 < wt3.heap.size := World.block_lt_of_cell? _ _ ky0
      have zy_wt3 := zy
      replace hb0 : Below w.heap.size w wt3 := (by repeat (first | with_reducible exact Below.refl _ _ | with_reducible assumption | with_reducible refine Below.setCell ?_ (by first | omega | (simp <;> omega)) _ | with_reducible refine balloc ?_ _ | with_reducible refine Below.drew ?_ | with_reducible refine bstep ?_ (by with_reducible assumption)))
      have hs_wt3 := hb.size; (try simp only [World.size_alloc, World.size_setCell] at hs_wt3)
      clear hb
      (try go_wp2_with fail)
      refine hKK.out _ _ (by first | (go_keep; done) | ((repeat' apply And.intro) <;> go_simp)) (fun hHeld => ?_)
      clear hKK KK
      try simp only [Act.put, List.setIfInBounds_toArray, List.set_cons_zero, List.set_cons_succ]
      refine wpAnyH_ready (rs := [10]) (by kernel_rfl) (by simp) ?_
      refine AllReadyH.cons (o := ⟨some 32, _, _, _, _, _⟩) rfl (fun KK hKK => ?_) AllReadyH.nil
      go_simp
      refine Calls.mono (C _) ?_
      rintro e wt4 ⟨rfl, hb⟩
      replace km0 := cell_later hb km0
      replace km1 := cell_later hb km1
      replace km2 := cell_later hb km2
      replace km3 := cell_later hb km3
      replace km4 := cell_later hb km4
      replace km5 := cell_later hb km5
      replace km6 := cell_later hb km6
      replace kp0 := cell_later hb kp0
      replace kp1 := cell_later hb kp1
      replace kb0 := cell_later hb kb0
      replace kb1 := cell_later hb kb1
      replace kb2 := cell_later hb kb2
      replace kb3 := cell_later hb kb3
      replace kc0 := cell_later hb kc0
      replace kc1 := cell_later hb kc1
      replace kc2 := cell_later hb kc2
      replace kc3 := cell_later hb kc3
      replace jx0 := fro_later hb kx0 jx0
      replace kx0 := cell_later hb kx0
      replace jx1 := fro_later hb kx1 jx1
      replace kx1 := cell_later hb kx1
      replace jx2 := fro_later hb kx2 jx2
      replace kx2 := cell_later hb kx2
      replace jx3 := fro_later hb kx3 jx3
      replace kx3 := cell_later hb kx3
      replace jy0 := fro_later hb ky0 jy0
      replace ky0 := cell_later hb ky0
      replace jy1 := fro_later hb ky1 jy1
      replace ky1 := cell_later hb ky1
      replace jy2 := fro_later hb ky2 jy2
      replace ky2 := cell_later hb ky2
      replace jy3 := fro_later hb ky3 jy3
      replace ky3 := cell_later hb ky3
      replace zm : w.heap.size < wt4.heap.size := World.block_lt_of_cell? _ _ km0
      have zm_wt4 := zm
      replace zp : w.heap.size + 1 < wt4.heap.size := World.block_lt_of_cell? _ _ kp0
      have zp_wt4 := zp
      replace zb : w.heap.size + 1 + 1 < wt4.heap.size := World.block_lt_of_cell? _ _ kb0
      have zb_wt4 := zb
      replace zc : w.heap.size + 1 + 1 + 1 < wt4.heap.size := World.block_lt_of_cell? _ _ kc0
      have zc_wt4 := zc
      replace zx : w2.heap.size < wt4.heap.size := World.block_lt_of_cell? _ _ kx0
      have zx_wt4 := zx
      replace zy : w2.heap.size + 1 < wt4.heap.size := World.block_lt_of_cell? _ _ ky0
      have zy_wt4 := zy
      replace hb0 : Below w.heap.size w wt4 := (by repeat (first | with_reducible exact Below.refl _ _ | with_reducible assumption | with_reducible refine Below.setCell ?_ (by first | omega | (simp <;> omega)) _ | with_reducible refine balloc ?_ _ | with_reducible refine Below.drew ?_ | with_reducible refine bstep ?_ (by with_reducible assumption)))
      have hs_wt4 : wt3.heap.size ≤ wt4.heap.size := hb.size
      clear hb
      (try go_wp2_with fail)
      refine hKK.out _ _ (by first | (go_keep; done) | ((repeat' apply And.intro) <;> go_simp)) (fun hHeld => ?_)
      clear hKK KK
      try simp only [Act.put, List.setIfInBounds_toArray, List.set_cons_zero, List.set_cons_succ]
      refine wpAnyH_take (i := 11) (oi := ⟨some 21, _, _, _, _, _⟩) (v := ?_) rfl (by kernel_rfl) (by kernel_rfl) (by kernel_rfl) (fun _ _ _ h => h) (Or.inl ⟨by rfl, ?_⟩) (by assumption) ?_
      rotate_left
      · intro w hSw; (try dsimp only at hSw); go_simp; try with_reducible rfl
      try simp only [Act.put, List.setIfInBounds_toArray, List.set_cons_zero, List.set_cons_succ]
      refine wpAnyH_take (i := 12) (oi := ⟨some 33, _, _, _, _, _⟩) (v := ?_) rfl (by kernel_rfl) (by kernel_rfl) (by kernel_rfl) (fun _ _ _ h => h) (Or.inl ⟨by rfl, ?_⟩) (by assumption) ?_
      rotate_left
      · intro w hSw; (try dsimp only at hSw); go_simp; try with_reducible rfl
      try simp only [Act.put, List.setIfInBounds_toArray, List.set_cons_zero, List.set_cons_succ]
      refine wpAnyH_take (i := 13) (oi := ⟨some 34, _, _, _, _, _⟩) (v := ?_) rfl (by kernel_rfl) (by kernel_rfl) (by kernel_rfl) (fun _ _ _ h => h) (Or.inl ⟨by rfl, ?_⟩) (by assumption) ?_
      rotate_left
      · intro w hSw; (try dsimp only at hSw); go_simp; try with_reducible rfl
      try simp only [Act.put, List.setIfInBounds_toArray, List.set_cons_zero, List.set_cons_succ]
      refine wpAnyH_ready (rs := [15]) (by kernel_rfl) (by simp) ?_
      refine AllReadyH.cons (o := ⟨none, _, _, _, _, _⟩) rfl (fun KK hKK => ?_) AllReadyH.nil
      go_simp
      (try go_wp2_with fail)
      refine hKK.out _ _ (by first | (go_keep; done) | ((repeat' apply And.intro) <;> go_simp)) (fun hHeld => ?_)
      clear hKK KK
      try simp only [Act.put, List.setIfInBounds_toArray, List.set_cons_zero, List.set_cons_succ]
      refine wpAnyH_take (i := 16) (oi := ⟨some 13, _, _, _, _, _⟩) (v := ?_) rfl (by kernel_rfl) (by kernel_rfl) (by kernel_rfl) (fun _ _ _ h => h) (Or.inl ⟨by rfl, ?_⟩) (by assumption) ?_
      rotate_left
      · intro w hSw; (try dsimp only at hSw); go_simp; try with_reducible rfl
      try simp only [Act.put, List.setIfInBounds_toArray, List.set_cons_zero, List.set_cons_succ]
      refine wpAnyH_done (by kernel_rfl) ?_ _
      (try dsimp only [Exit.then, Met])
      go_wp2_with fail
      go_meet
      refine ⟨_, rfl, rfl, by first | omega | (simp; omega), ?_, ?_, ?_, ?_, ?_, ?_, ?_, ?_, ?_, ?_, ?_, ?_, ?_, ?_, ?_, ?_, ?_, ?_, ?_, ?_, ?_, ?_, ?_, ?_, ?_, ?_, ?_, ?_, ?_, ?_, ?_, ?_, ?_, (by repeat (first | with_reducible exact Below.refl _ _ | with_reducible assumption | with_reducible refine Below.setCell ?_ (by first | omega | (simp <;> omega)) _ | with_reducible refine balloc ?_ _ | with_reducible refine Below.drew ?_ | with_reducible refine bstep ?_ (by with_reducible assumption)))⟩
      all_goals first | (with_reducible assumption) | go_simp
  case rest =>
    obtain ⟨gy, rfl, rfl, lgy, ky0, jy0, ky1, jy1, ky2, jy2, ky3, jy3, km0, km1, km2, km3, km4, km5, km6, kp0, kp1, kb0, kb1, kb2, kb3, kc0, kc1, kc2, kc3, kx0, jx0, kx1, jx1, kx2, jx2, kx3, jx3, hb0⟩ := hcut
    have zy : gy < wc.heap.size := World.block_lt_of_cell? _ _ ky0
    have zy_wc := zy
    have zm : w.heap.size < wc.heap.size := World.block_lt_of_cell? _ _ km0
    have zm_wc := zm
    have zp : w.heap.size + 1 < wc.heap.size := World.block_lt_of_cell? _ _ kp0
    have zp_wc := zp
    have zb : w.heap.size + 1 + 1 < wc.heap.size := World.block_lt_of_cell? _ _ kb0
    have zb_wc := zb
    have zc : w.heap.size + 1 + 1 + 1 < wc.heap.size := World.block_lt_of_cell? _ _ kc0
    have zc_wc := zc
    have zx : w2.heap.size < wc.heap.size := World.block_lt_of_cell? _ _ kx0
    have zx_wc := zx
    go_wp2_with fail
    refine Calls.mono (W0 _) ?_
    rintro e w3 ⟨rfl, hb⟩
    replace jy0 := fro_later hb ky0 jy0
    replace ky0 := cell_later hb ky0
    replace jy1 := fro_later hb ky1 jy1
    replace ky1 := cell_later hb ky1
    replace jy2 := fro_later hb ky2 jy2
    replace ky2 := cell_later hb ky2
    replace jy3 := fro_later hb ky3 jy3
    replace ky3 := cell_later hb ky3
    replace km0 := cell_later hb km0
    replace km1 := cell_later hb km1
    replace km2 := cell_later hb km2
    replace km3 := cell_later hb km3
    replace km4 := cell_later hb km4
    replace km5 := cell_later hb km5
    replace km6 := cell_later hb km6
    replace kp0 := cell_later hb kp0
    replace kp1 := cell_later hb kp1
    replace kb0 := cell_later hb kb0
    replace kb1 := cell_later hb kb1
    replace kb2 := cell_later hb kb2
    replace kb3 := cell_later hb kb3
    replace kc0 := cell_later hb kc0
    replace kc1 := cell_later hb kc1
    replace kc2 := cell_later hb kc2
    replace kc3 := cell_later hb kc3
    replace jx0 := fro_later hb kx0 jx0
    replace kx0 := cell_later hb kx0
    replace jx1 := fro_later hb kx1 jx1
    replace kx1 := cell_later hb kx1
    replace jx2 := fro_later hb kx2 jx2
    replace kx2 := cell_later hb kx2
    replace jx3 := fro_later hb kx3 jx3
    replace kx3 := cell_later hb kx3
    replace zy : gy < w3.heap.size := World.block_lt_of_cell? _ _ ky0
    have zy_w3 := zy
    replace zm : w.heap.size < w3.heap.size := World.block_lt_of_cell? _ _ km0
    have zm_w3 := zm
    replace zp : w.heap.size + 1 < w3.heap.size := World.block_lt_of_cell? _ _ kp0
    have zp_w3 := zp
    replace zb : w.heap.size + 1 + 1 < w3.heap.size := World.block_lt_of_cell? _ _ kb0
    have zb_w3 := zb
    replace zc : w.heap.size + 1 + 1 + 1 < w3.heap.size := World.block_lt_of_cell? _ _ kc0
    have zc_w3 := zc
    replace zx : w2.heap.size < w3.heap.size := World.block_lt_of_cell? _ _ kx0
    have zx_w3 := zx
    replace hb0 : Below w.heap.size w w3 := (by repeat (first | with_reducible exact Below.refl _ _ | with_reducible assumption | with_reducible refine Below.setCell ?_ (by first | omega | (simp <;> omega)) _ | with_reducible refine balloc ?_ _ | with_reducible refine Below.drew ?_ | with_reducible refine bstep ?_ (by with_reducible assumption)))
    have hs_w3 : wc.heap.size ≤ w3.heap.size := hb.size
    clear hb
    cases iw
    · go_wp2
      all_goals first | (exfalso; omega) | (go_ret; refine ret_bool ?_ (by repeat (first | with_reducible exact Below.refl _ _ | with_reducible assumption | with_reducible refine Below.setCell ?_ (by first | omega | (simp <;> omega)) _ | with_reducible refine balloc ?_ _ | with_reducible refine Below.drew ?_ | with_reducible refine bstep ?_ (by with_reducible assumption))); first | (simp; done) | (simp <;> omega) | (simp [*]; done))
    · obtain ⟨s1, s2, s3, s4, f1, t1, t2, t3, t4, g1, hg1, S, T⟩ := hC (by first | rfl | trivial)
      go_wp2_with fail
      refine Calls.mono (S _) ?_
      rintro e w4 ⟨rfl, hb⟩
      replace jy0 := fro_later hb ky0 jy0
      replace ky0 := cell_later hb ky0
      replace jy1 := fro_later hb ky1 jy1
      replace ky1 := cell_later hb ky1
      replace jy2 := fro_later hb ky2 jy2
      replace ky2 := cell_later hb ky2
      replace jy3 := fro_later hb ky3 jy3
      replace ky3 := cell_later hb ky3
      replace km0 := cell_later hb km0
      replace km1 := cell_later hb km1
      replace km2 := cell_later hb km2
      replace km3 := cell_later hb km3
      replace km4 := cell_later hb km4
      replace km5 := cell_later hb km5
      replace km6 := cell_later hb km6
      replace kp0 := cell_later hb kp0
      replace kp1 := cell_later hb kp1
      replace kb0 := cell_later hb kb0
      replace kb1 := cell_later hb kb1
      replace kb2 := cell_later hb kb2
      replace kb3 := cell_later hb kb3
      replace kc0 := cell_later hb kc0
      replace kc1 := cell_later hb kc1
      replace kc2 := cell_later hb kc2
      replace kc3 := cell_later hb kc3
      replace jx0 := fro_later hb kx0 jx0
      replace kx0 := cell_later hb kx0
      replace jx1 := fro_later hb kx1 jx1
      replace kx1 := cell_later hb kx1
      replace jx2 := fro_later hb kx2 jx2
      replace kx2 := cell_later hb kx2
      replace jx3 := fro_later hb kx3 jx3
      replace kx3 := cell_later hb kx3
      replace zy : gy < w4.heap.size := World.block_lt_of_cell? _ _ ky0
      have zy_w4 := zy
      replace zm : w.heap.size < w4.heap.size := World.block_lt_of_cell? _ _ km0
      have zm_w4 := zm
      replace zp : w.heap.size + 1 < w4.heap.size := World.block_lt_of_cell? _ _ kp0
      have zp_w4 := zp
      replace zb : w.heap.size + 1 + 1 < w4.heap.size := World.block_lt_of_cell? _ _ kb0
      have zb_w4 := zb
      replace zc : w.heap.size + 1 + 1 + 1 < w4.heap.size := World.block_lt_of_cell? _ _ kc0
      have zc_w4 := zc
      replace zx : w2.heap.size < w4.heap.size := World.block_lt_of_cell? _ _ kx0
      have zx_w4 := zx
      replace hb0 : Below w.heap.size w w4 := (by repeat (first | with_reducible exact Below.refl _ _ | with_reducible assumption | with_reducible refine Below.setCell ?_ (by first | omega | (simp <;> omega)) _ | with_reducible refine balloc ?_ _ | with_reducible refine Below.drew ?_ | with_reducible refine bstep ?_ (by with_reducible assumption)))
      have hs_w4 : w3.heap.size ≤ w4.heap.size := hb.size
      clear hb
      go_wp2_with fail
      refine Calls.mono (T _) ?_
      rintro e w5 ⟨rfl, hb⟩
      replace ky0 : w5.cell? ⟨gy, 0, none⟩ = some (.int .i64 a1) := cell_later hb (by first | with_reducible exact ky0 | go_simp)
      replace jy0 : w5.frozen? ⟨gy, 0, none⟩ = false := by rw [(bcell hb).2 _ _ (by first | omega | (simp <;> omega))]; first | (with_reducible exact jy0) | go_simp
      replace ky1 : w5.cell? ⟨gy, 1, none⟩ = some (.int .i64 a2) := cell_later hb (by first | with_reducible exact ky1 | go_simp)
      replace jy1 : w5.frozen? ⟨gy, 1, none⟩ = false := by rw [(bcell hb).2 _ _ (by first | omega | (simp <;> omega))]; first | (with_reducible exact jy1) | go_simp
      replace ky2 : w5.cell? ⟨gy, 2, none⟩ = some (.int .i64 a3) := cell_later hb (by first | with_reducible exact ky2 | go_simp)
      replace jy2 : w5.frozen? ⟨gy, 2, none⟩ = false := by rw [(bcell hb).2 _ _ (by first | omega | (simp <;> omega))]; first | (with_reducible exact jy2) | go_simp
      replace ky3 : w5.cell? ⟨gy, 3, none⟩ = some (.int .i64 a4) := cell_later hb (by first | with_reducible exact ky3 | go_simp)
      replace jy3 : w5.frozen? ⟨gy, 3, none⟩ = false := by rw [(bcell hb).2 _ _ (by first | omega | (simp <;> omega))]; first | (with_reducible exact jy3) | go_simp
      replace km0 : w5.cell? ⟨w.heap.size, 0, none⟩ = some (.int .i64 m1) := cell_later hb (by first | with_reducible exact km0 | go_simp)
      replace km1 : w5.cell? ⟨w.heap.size, 1, none⟩ = some (.int .i64 m2) := cell_later hb (by first | with_reducible exact km1 | go_simp)
      replace km2 : w5.cell? ⟨w.heap.size, 2, none⟩ = some (.int .i64 m3) := cell_later hb (by first | with_reducible exact km2 | go_simp)
      replace km3 : w5.cell? ⟨w.heap.size, 3, none⟩ = some (.int .i64 m4) := cell_later hb (by first | with_reducible exact km3 | go_simp)
      replace km4 : w5.cell? ⟨w.heap.size, 4, none⟩ = some (.int .i64 m5) := cell_later hb (by first | with_reducible exact km4 | go_simp)
      replace km5 : w5.cell? ⟨w.heap.size, 5, none⟩ = some (.int .i64 m6) := cell_later hb (by first | with_reducible exact km5 | go_simp)
      replace km6 : w5.cell? ⟨w.heap.size, 6, none⟩ = some (.int .i64 m7) := cell_later hb (by first | with_reducible exact km6 | go_simp)
      replace kp0 : w5.cell? ⟨w.heap.size + 1, 0, none⟩ = some (.int .i64 p1) := cell_later hb (by first | with_reducible exact kp0 | go_simp)
      replace kp1 : w5.cell? ⟨w.heap.size + 1, 1, none⟩ = some (.int .i64 p2) := cell_later hb (by first | with_reducible exact kp1 | go_simp)
      replace kb0 : w5.cell? ⟨w.heap.size + 1 + 1, 0, none⟩ = some (.int .i64 b1) := cell_later hb (by first | with_reducible exact kb0 | go_simp)
      replace kb1 : w5.cell? ⟨w.heap.size + 1 + 1, 1, none⟩ = some (.int .i64 b2) := cell_later hb (by first | with_reducible exact kb1 | go_simp)
      replace kb2 : w5.cell? ⟨w.heap.size + 1 + 1, 2, none⟩ = some (.int .i64 b3) := cell_later hb (by first | with_reducible exact kb2 | go_simp)
      replace kb3 : w5.cell? ⟨w.heap.size + 1 + 1, 3, none⟩ = some (.int .i64 b4) := cell_later hb (by first | with_reducible exact kb3 | go_simp)
      replace kc0 : w5.cell? ⟨w.heap.size + 1 + 1 + 1, 0, none⟩ = some (.int .i64 c1) := cell_later hb (by first | with_reducible exact kc0 | go_simp)
      replace kc1 : w5.cell? ⟨w.heap.size + 1 + 1 + 1, 1, none⟩ = some (.int .i64 c2) := cell_later hb (by first | with_reducible exact kc1 | go_simp)
      replace kc2 : w5.cell? ⟨w.heap.size + 1 + 1 + 1, 2, none⟩ = some (.int .i64 c3) := cell_later hb (by first | with_reducible exact kc2 | go_simp)
      replace kc3 : w5.cell? ⟨w.heap.size + 1 + 1 + 1, 3, none⟩ = some (.int .i64 c4) := cell_later hb (by first | with_reducible exact kc3 | go_simp)
      replace kx0 : w5.cell? ⟨w2.heap.size, 0, none⟩ = some (.int .i64 s1) := cell_later hb (by first | with_reducible exact kx0 | go_simp)
      replace jx0 : w5.frozen? ⟨w2.heap.size, 0, none⟩ = false := by rw [(bcell hb).2 _ _ (by first | omega | (simp <;> omega))]; first | (with_reducible exact jx0) | go_simp
      replace kx1 : w5.cell? ⟨w2.heap.size, 1, none⟩ = some (.int .i64 s2) := cell_later hb (by first | with_reducible exact kx1 | go_simp)
      replace jx1 : w5.frozen? ⟨w2.heap.size, 1, none⟩ = false := by rw [(bcell hb).2 _ _ (by first | omega | (simp <;> omega))]; first | (with_reducible exact jx1) | go_simp
      replace kx2 : w5.cell? ⟨w2.heap.size, 2, none⟩ = some (.int .i64 s3) := cell_later hb (by first | with_reducible exact kx2 | go_simp)
      replace jx2 : w5.frozen? ⟨w2.heap.size, 2, none⟩ = false := by rw [(bcell hb).2 _ _ (by first | omega | (simp <;> omega))]; first | (with_reducible exact jx2) | go_simp
      replace kx3 : w5.cell? ⟨w2.heap.size, 3, none⟩ = some (.int .i64 s4) := cell_later hb (by first | with_reducible exact kx3 | go_simp)
      replace jx3 : w5.frozen? ⟨w2.heap.size, 3, none⟩ = false := by rw [(bcell hb).2 _ _ (by first | omega | (simp <;> omega))]; first | (with_reducible exact jx3) | go_simp
      replace zy : gy < w5.heap.size := World.block_lt_of_cell? _ _ ky0
      have zy_w5 := zy
      replace zm : w.heap.size < w5.heap.size := World.block_lt_of_cell? _ _ km0
      have zm_w5 := zm
      replace zp : w.heap.size + 1 < w5.heap.size := World.block_lt_of_cell? _ _ kp0
      have zp_w5 := zp
      replace zb : w.heap.size + 1 + 1 < w5.heap.size := World.block_lt_of_cell? _ _ kb0
      have zb_w5 := zb
      replace zc : w.heap.size + 1 + 1 + 1 < w5.heap.size := World.block_lt_of_cell? _ _ kc0
      have zc_w5 := zc
      replace zx : w2.heap.size < w5.heap.size := World.block_lt_of_cell? _ _ kx0
      have zx_w5 := zx
      replace hb0 : Below w.heap.size w w5 := (by repeat (first | with_reducible exact Below.refl _ _ | with_reducible assumption | with_reducible refine Below.setCell ?_ (by first | omega | (simp <;> omega)) _ | with_reducible refine balloc ?_ _ | with_reducible refine Below.drew ?_ | with_reducible refine bstep ?_ (by with_reducible assumption)))
      have hs_w5 := hb.size; (try simp only [World.size_alloc, World.size_setCell] at hs_w5)
      clear hb
      have V := fun w => win_c s1 s2 s3 s4 t1 t2 t3 t4 w
      rcases hg1 with u1 | ⟨u1, u2⟩ | ⟨u1, u2, u3⟩
      · obtain ⟨j1, j2, j3, j4, f2, l1, l2, l3, l4, g2, hg2, S, T⟩ := hB (by first | rfl | trivial)
        go_wp2_with fail
        refine Calls.mono (S _) ?_
        rintro e w6 ⟨rfl, hb⟩
        replace ky0 : w6.cell? ⟨gy, 0, none⟩ = some (.int .i64 t1) := cell_later hb (by first | with_reducible exact ky0 | go_simp)
        replace jy0 : w6.frozen? ⟨gy, 0, none⟩ = false := by rw [(bcell hb).2 _ _ (by first | omega | (simp <;> omega))]; first | (with_reducible exact jy0) | go_simp
        replace ky1 : w6.cell? ⟨gy, 1, none⟩ = some (.int .i64 t2) := cell_later hb (by first | with_reducible exact ky1 | go_simp)
        replace jy1 : w6.frozen? ⟨gy, 1, none⟩ = false := by rw [(bcell hb).2 _ _ (by first | omega | (simp <;> omega))]; first | (with_reducible exact jy1) | go_simp
        replace ky2 : w6.cell? ⟨gy, 2, none⟩ = some (.int .i64 t3) := cell_later hb (by first | with_reducible exact ky2 | go_simp)
        replace jy2 : w6.frozen? ⟨gy, 2, none⟩ = false := by rw [(bcell hb).2 _ _ (by first | omega | (simp <;> omega))]; first | (with_reducible exact jy2) | go_simp
        replace ky3 : w6.cell? ⟨gy, 3, none⟩ = some (.int .i64 t4) := cell_later hb (by first | with_reducible exact ky3 | go_simp)
        replace jy3 : w6.frozen? ⟨gy, 3, none⟩ = false := by rw [(bcell hb).2 _ _ (by first | omega | (simp <;> omega))]; first | (with_reducible exact jy3) | go_simp
        replace km0 : w6.cell? ⟨w.heap.size, 0, none⟩ = some (.int .i64 m1) := cell_later hb (by first | with_reducible exact km0 | go_simp)
        replace km1 : w6.cell? ⟨w.heap.size, 1, none⟩ = some (.int .i64 m2) := cell_later hb (by first | with_reducible exact km1 | go_simp)
        replace km2 : w6.cell? ⟨w.heap.size, 2, none⟩ = some (.int .i64 m3) := cell_later hb (by first | with_reducible exact km2 | go_simp)
        replace km3 : w6.cell? ⟨w.heap.size, 3, none⟩ = some (.int .i64 m4) := cell_later hb (by first | with_reducible exact km3 | go_simp)
        replace km4 : w6.cell? ⟨w.heap.size, 4, none⟩ = some (.int .i64 m5) := cell_later hb (by first | with_reducible exact km4 | go_simp)
        replace km5 : w6.cell? ⟨w.heap.size, 5, none⟩ = some (.int .i64 m6) := cell_later hb (by first | with_reducible exact km5 | go_simp)
        replace km6 : w6.cell? ⟨w.heap.size, 6, none⟩ = some (.int .i64 m7) := cell_later hb (by first | with_reducible exact km6 | go_simp)
        replace kp0 : w6.cell? ⟨w.heap.size + 1, 0, none⟩ = some (.int .i64 p1) := cell_later hb (by first | with_reducible exact kp0 | go_simp)
        replace kp1 : w6.cell? ⟨w.heap.size + 1, 1, none⟩ = some (.int .i64 p2) := cell_later hb (by first | with_reducible exact kp1 | go_simp)
        replace kb0 : w6.cell? ⟨w.heap.size + 1 + 1, 0, none⟩ = some (.int .i64 b1) := cell_later hb (by first | with_reducible exact kb0 | go_simp)
        replace kb1 : w6.cell? ⟨w.heap.size + 1 + 1, 1, none⟩ = some (.int .i64 b2) := cell_later hb (by first | with_reducible exact kb1 | go_simp)
        replace kb2 : w6.cell? ⟨w.heap.size + 1 + 1, 2, none⟩ = some (.int .i64 b3) := cell_later hb (by first | with_reducible exact kb2 | go_simp)
        replace kb3 : w6.cell? ⟨w.heap.size + 1 + 1, 3, none⟩ = some (.int .i64 b4) := cell_later hb (by first | with_reducible exact kb3 | go_simp)
        replace kc0 : w6.cell? ⟨w.heap.size + 1 + 1 + 1, 0, none⟩ = some (.int .i64 c1) := cell_later hb (by first | with_reducible exact kc0 | go_simp)
        replace kc1 : w6.cell? ⟨w.heap.size + 1 + 1 + 1, 1, none⟩ = some (.int .i64 c2) := cell_later hb (by first | with_reducible exact kc1 | go_simp)
        replace kc2 : w6.cell? ⟨w.heap.size + 1 + 1 + 1, 2, none⟩ = some (.int .i64 c3) := cell_later hb (by first | with_reducible exact kc2 | go_simp)
        replace kc3 : w6.cell? ⟨w.heap.size + 1 + 1 + 1, 3, none⟩ = some (.int .i64 c4) := cell_later hb (by first | with_reducible exact kc3 | go_simp)
        replace kx0 : w6.cell? ⟨w2.heap.size, 0, none⟩ = some (.int .i64 s1) := cell_later hb (by first | with_reducible exact kx0 | go_simp)
        replace jx0 : w6.frozen? ⟨w2.heap.size, 0, none⟩ = false := by rw [(bcell hb).2 _ _ (by first | omega | (simp <;> omega))]; first | (with_reducible exact jx0) | go_simp
        replace kx1 : w6.cell? ⟨w2.heap.size, 1, none⟩ = some (.int .i64 s2) := cell_later hb (by first | with_reducible exact kx1 | go_simp)
        replace jx1 : w6.frozen? ⟨w2.heap.size, 1, none⟩ = false := by rw [(bcell hb).2 _ _ (by first | omega | (simp <;> omega))]; first | (with_reducible exact jx1) | go_simp
        replace kx2 : w6.cell? ⟨w2.heap.size, 2, none⟩ = some (.int .i64 s3) := cell_later hb (by first | with_reducible exact kx2 | go_simp)
        replace jx2 : w6.frozen? ⟨w2.heap.size, 2, none⟩ = false := by rw [(bcell hb).2 _ _ (by first | omega | (simp <;> omega))]; first | (with_reducible exact jx2) | go_simp
        replace kx3 : w6.cell? ⟨w2.heap.size, 3, none⟩ = some (.int .i64 s4) := cell_later hb (by first | with_reducible exact kx3 | go_simp)
        replace jx3 : w6.frozen? ⟨w2.heap.size, 3, none⟩ = false := by rw [(bcell hb).2 _ _ (by first | omega | (simp <;> omega))]; first | (with_reducible exact jx3) | go_simp
        replace zy : gy < w6.heap.size := World.block_lt_of_cell? _ _ ky0
        have zy_w6 := zy
        replace zm : w.heap.size < w6.heap.size := World.block_lt_of_cell? _ _ km0
        have zm_w6 := zm
        replace zp : w.heap.size + 1 < w6.heap.size := World.block_lt_of_cell? _ _ kp0
        have zp_w6 := zp
        replace zb : w.heap.size + 1 + 1 < w6.heap.size := World.block_lt_of_cell? _ _ kb0
        have zb_w6 := zb
        replace zc : w.heap.size + 1 + 1 + 1 < w6.heap.size := World.block_lt_of_cell? _ _ kc0
        have zc_w6 := zc
        replace zx : w2.heap.size < w6.heap.size := World.block_lt_of_cell? _ _ kx0
        have zx_w6 := zx
        replace hb0 : Below w.heap.size w w6 := (by repeat (first | with_reducible exact Below.refl _ _ | with_reducible assumption | with_reducible refine Below.setCell ?_ (by first | omega | (simp <;> omega)) _ | with_reducible refine balloc ?_ _ | with_reducible refine Below.drew ?_ | with_reducible refine bstep ?_ (by with_reducible assumption)))
        have hs_w6 := hb.size; (try simp only [World.size_alloc, World.size_setCell] at hs_w6)
        clear hb
        go_wp2_with fail
        refine Calls.mono (T _) ?_
        rintro e w7 ⟨rfl, hb⟩
        replace ky0 : w7.cell? ⟨gy, 0, none⟩ = some (.int .i64 t1) := cell_later hb (by first | with_reducible exact ky0 | go_simp)
        replace jy0 : w7.frozen? ⟨gy, 0, none⟩ = false := by rw [(bcell hb).2 _ _ (by first | omega | (simp <;> omega))]; first | (with_reducible exact jy0) | go_simp
        replace ky1 : w7.cell? ⟨gy, 1, none⟩ = some (.int .i64 t2) := cell_later hb (by first | with_reducible exact ky1 | go_simp)
        replace jy1 : w7.frozen? ⟨gy, 1, none⟩ = false := by rw [(bcell hb).2 _ _ (by first | omega | (simp <;> omega))]; first | (with_reducible exact jy1) | go_simp
        replace ky2 : w7.cell? ⟨gy, 2, none⟩ = some (.int .i64 t3) := cell_later hb (by first | with_reducible exact ky2 | go_simp)
        replace jy2 : w7.frozen? ⟨gy, 2, none⟩ = false := by rw [(bcell hb).2 _ _ (by first | omega | (simp <;> omega))]; first | (with_reducible exact jy2) | go_simp
        replace ky3 : w7.cell? ⟨gy, 3, none⟩ = some (.int .i64 t4) := cell_later hb (by first | with_reducible exact ky3 | go_simp)
        replace jy3 : w7.frozen? ⟨gy, 3, none⟩ = false := by rw [(bcell hb).2 _ _ (by first | omega | (simp <;> omega))]; first | (with_reducible exact jy3) | go_simp
        replace km0 : w7.cell? ⟨w.heap.size, 0, none⟩ = some (.int .i64 m1) := cell_later hb (by first | with_reducible exact km0 | go_simp)
        replace km1 : w7.cell? ⟨w.heap.size, 1, none⟩ = some (.int .i64 m2) := cell_later hb (by first | with_reducible exact km1 | go_simp)
        replace km2 : w7.cell? ⟨w.heap.size, 2, none⟩ = some (.int .i64 m3) := cell_later hb (by first | with_reducible exact km2 | go_simp)
        replace km3 : w7.cell? ⟨w.heap.size, 3, none⟩ = some (.int .i64 m4) := cell_later hb (by first | with_reducible exact km3 | go_simp)
        replace km4 : w7.cell? ⟨w.heap.size, 4, none⟩ = some (.int .i64 m5) := cell_later hb (by first | with_reducible exact km4 | go_simp)
        replace km5 : w7.cell? ⟨w.heap.size, 5, none⟩ = some (.int .i64 m6) := cell_later hb (by first | with_reducible exact km5 | go_simp)
        replace km6 : w7.cell? ⟨w.heap.size, 6, none⟩ = some (.int .i64 m7) := cell_later hb (by first | with_reducible exact km6 | go_simp)
        replace kp0 : w7.cell? ⟨w.heap.size + 1, 0, none⟩ = some (.int .i64 p1) := cell_later hb (by first | with_reducible exact kp0 | go_simp)
        replace kp1 : w7.cell? ⟨w.heap.size + 1, 1, none⟩ = some (.int .i64 p2) := cell_later hb (by first | with_reducible exact kp1 | go_simp)
        replace kb0 : w7.cell? ⟨w.heap.size + 1 + 1, 0, none⟩ = some (.int .i64 b1) := cell_later hb (by first | with_reducible exact kb0 | go_simp)
        replace kb1 : w7.cell? ⟨w.heap.size + 1 + 1, 1, none⟩ = some (.int .i64 b2) := cell_later hb (by first | with_reducible exact kb1 | go_simp)
        replace kb2 : w7.cell? ⟨w.heap.size + 1 + 1, 2, none⟩ = some (.int .i64 b3) := cell_later hb (by first | with_reducible exact kb2 | go_simp)
        replace kb3 : w7.cell? ⟨w.heap.size + 1 + 1, 3, none⟩ = some (.int .i64 b4) := cell_later hb (by first | with_reducible exact kb3 | go_simp)
        replace kc0 : w7.cell? ⟨w.heap.size + 1 + 1 + 1, 0, none⟩ = some (.int .i64 c1) := cell_later hb (by first | with_reducible exact kc0 | go_simp)
        replace kc1 : w7.cell? ⟨w.heap.size + 1 + 1 + 1, 1, none⟩ = some (.int .i64 c2) := cell_later hb (by first | with_reducible exact kc1 | go_simp)
        replace kc2 : w7.cell? ⟨w.heap.size + 1 + 1 + 1, 2, none⟩ = some (.int .i64 c3) := cell_later hb (by first | with_reducible exact kc2 | go_simp)
        replace kc3 : w7.cell? ⟨w.heap.size + 1 + 1 + 1, 3, none⟩ = some (.int .i64 c4) := cell_later hb (by first | with_reducible exact kc3 | go_simp)
        replace kx0 : w7.cell? ⟨w2.heap.size, 0, none⟩ = some (.int .i64 j1) := cell_later hb (by first | with_reducible exact kx0 | go_simp)
        replace jx0 : w7.frozen? ⟨w2.heap.size, 0, none⟩ = false := by rw [(bcell hb).2 _ _ (by first | omega | (simp <;> omega))]; first | (with_reducible exact jx0) | go_simp
        replace kx1 : w7.cell? ⟨w2.heap.size, 1, none⟩ = some (.int .i64 j2) := cell_later hb (by first | with_reducible exact kx1 | go_simp)
        replace jx1 : w7.frozen? ⟨w2.heap.size, 1, none⟩ = false := by rw [(bcell hb).2 _ _ (by first | omega | (simp <;> omega))]; first | (with_reducible exact jx1) | go_simp
        replace kx2 : w7.cell? ⟨w2.heap.size, 2, none⟩ = some (.int .i64 j3) := cell_later hb (by first | with_reducible exact kx2 | go_simp)
        replace jx2 : w7.frozen? ⟨w2.heap.size, 2, none⟩ = false := by rw [(bcell hb).2 _ _ (by first | omega | (simp <;> omega))]; first | (with_reducible exact jx2) | go_simp
        replace kx3 : w7.cell? ⟨w2.heap.size, 3, none⟩ = some (.int .i64 j4) := cell_later hb (by first | with_reducible exact kx3 | go_simp)
        replace jx3 : w7.frozen? ⟨w2.heap.size, 3, none⟩ = false := by rw [(bcell hb).2 _ _ (by first | omega | (simp <;> omega))]; first | (with_reducible exact jx3) | go_simp
        replace zy : gy < w7.heap.size := World.block_lt_of_cell? _ _ ky0
        have zy_w7 := zy
        replace zm : w.heap.size < w7.heap.size := World.block_lt_of_cell? _ _ km0
        have zm_w7 := zm
        replace zp : w.heap.size + 1 < w7.heap.size := World.block_lt_of_cell? _ _ kp0
        have zp_w7 := zp
        replace zb : w.heap.size + 1 + 1 < w7.heap.size := World.block_lt_of_cell? _ _ kb0
        have zb_w7 := zb
        replace zc : w.heap.size + 1 + 1 + 1 < w7.heap.size := World.block_lt_of_cell? _ _ kc0
        have zc_w7 := zc
        replace zx : w2.heap.size < w7.heap.size := World.block_lt_of_cell? _ _ kx0
        have zx_w7 := zx
        replace hb0 : Below w.heap.size w w7 := (by repeat (first | with_reducible exact Below.refl _ _ | with_reducible assumption | with_reducible refine Below.setCell ?_ (by first | omega | (simp <;> omega)) _ | with_reducible refine balloc ?_ _ | with_reducible refine Below.drew ?_ | with_reducible refine bstep ?_ (by with_reducible assumption)))
        have hs_w7 := hb.size; (try simp only [World.size_alloc, World.size_setCell] at hs_w7)
        clear hb
        have V := fun w => win_c j1 j2 j3 j4 l1 l2 l3 l4 w
        rcases hg2 with u1 | ⟨u1, u2⟩ | ⟨u1, u2, u3⟩
        · go_wp2
          all_goals first | (exfalso; omega) | (go_ret; refine ret_bool ?_ (by repeat (first | with_reducible exact Below.refl _ _ | with_reducible assumption | with_reducible refine Below.setCell ?_ (by first | omega | (simp <;> omega)) _ | with_reducible refine balloc ?_ _ | with_reducible refine Below.drew ?_ | with_reducible refine bstep ?_ (by with_reducible assumption))); first | (simp; done) | (simp <;> omega) | (simp [*]; done))
        · subst u1
          go_wp2
          all_goals first | (exfalso; omega) | (go_ret; refine ret_bool ?_ (by repeat (first | with_reducible exact Below.refl _ _ | with_reducible assumption | with_reducible refine Below.setCell ?_ (by first | omega | (simp <;> omega)) _ | with_reducible refine balloc ?_ _ | with_reducible refine Below.drew ?_ | with_reducible refine bstep ?_ (by with_reducible assumption))); first | (simp; done) | (simp <;> omega) | (simp [*]; done))
        · subst u1
          subst u2
          rw [u3] at V
          go_wp2_with fail
          refine Calls.mono (V _) ?_
          rintro e w8 ⟨rfl, hb⟩
          replace ky0 : w8.cell? ⟨gy, 0, none⟩ = some (.int .i64 l1) := cell_later hb (by first | with_reducible exact ky0 | go_simp)
          replace jy0 : w8.frozen? ⟨gy, 0, none⟩ = false := by rw [(bcell hb).2 _ _ (by first | omega | (simp <;> omega))]; first | (with_reducible exact jy0) | go_simp
          replace ky1 : w8.cell? ⟨gy, 1, none⟩ = some (.int .i64 l2) := cell_later hb (by first | with_reducible exact ky1 | go_simp)
          replace jy1 : w8.frozen? ⟨gy, 1, none⟩ = false := by rw [(bcell hb).2 _ _ (by first | omega | (simp <;> omega))]; first | (with_reducible exact jy1) | go_simp
          replace ky2 : w8.cell? ⟨gy, 2, none⟩ = some (.int .i64 l3) := cell_later hb (by first | with_reducible exact ky2 | go_simp)
          replace jy2 : w8.frozen? ⟨gy, 2, none⟩ = false := by rw [(bcell hb).2 _ _ (by first | omega | (simp <;> omega))]; first | (with_reducible exact jy2) | go_simp
          replace ky3 : w8.cell? ⟨gy, 3, none⟩ = some (.int .i64 l4) := cell_later hb (by first | with_reducible exact ky3 | go_simp)
          replace jy3 : w8.frozen? ⟨gy, 3, none⟩ = false := by rw [(bcell hb).2 _ _ (by first | omega | (simp <;> omega))]; first | (with_reducible exact jy3) | go_simp
          replace km0 : w8.cell? ⟨w.heap.size, 0, none⟩ = some (.int .i64 m1) := cell_later hb (by first | with_reducible exact km0 | go_simp)
          replace km1 : w8.cell? ⟨w.heap.size, 1, none⟩ = some (.int .i64 m2) := cell_later hb (by first | with_reducible exact km1 | go_simp)
          replace km2 : w8.cell? ⟨w.heap.size, 2, none⟩ = some (.int .i64 m3) := cell_later hb (by first | with_reducible exact km2 | go_simp)
          replace km3 : w8.cell? ⟨w.heap.size, 3, none⟩ = some (.int .i64 m4) := cell_later hb (by first | with_reducible exact km3 | go_simp)
          replace km4 : w8.cell? ⟨w.heap.size, 4, none⟩ = some (.int .i64 m5) := cell_later hb (by first | with_reducible exact km4 | go_simp)
          replace km5 : w8.cell? ⟨w.heap.size, 5, none⟩ = some (.int .i64 m6) := cell_later hb (by first | with_reducible exact km5 | go_simp)
          replace km6 : w8.cell? ⟨w.heap.size, 6, none⟩ = some (.int .i64 m7) := cell_later hb (by first | with_reducible exact km6 | go_simp)
          replace kp0 : w8.cell? ⟨w.heap.size + 1, 0, none⟩ = some (.int .i64 p1) := cell_later hb (by first | with_reducible exact kp0 | go_simp)
          replace kp1 : w8.cell? ⟨w.heap.size + 1, 1, none⟩ = some (.int .i64 p2) := cell_later hb (by first | with_reducible exact kp1 | go_simp)
          replace kb0 : w8.cell? ⟨w.heap.size + 1 + 1, 0, none⟩ = some (.int .i64 b1) := cell_later hb (by first | with_reducible exact kb0 | go_simp)
          replace kb1 : w8.cell? ⟨w.heap.size + 1 + 1, 1, none⟩ = some (.int .i64 b2) := cell_later hb (by first | with_reducible exact kb1 | go_simp)
          replace kb2 : w8.cell? ⟨w.heap.size + 1 + 1, 2, none⟩ = some (.int .i64 b3) := cell_later hb (by first | with_reducible exact kb2 | go_simp)
          replace kb3 : w8.cell? ⟨w.heap.size + 1 + 1, 3, none⟩ = some (.int .i64 b4) := cell_later hb (by first | with_reducible exact kb3 | go_simp)
          replace kc0 : w8.cell? ⟨w.heap.size + 1 + 1 + 1, 0, none⟩ = some (.int .i64 c1) := cell_later hb (by first | with_reducible exact kc0 | go_simp)
          replace kc1 : w8.cell? ⟨w.heap.size + 1 + 1 + 1, 1, none⟩ = some (.int .i64 c2) := cell_later hb (by first | with_reducible exact kc1 | go_simp)
          replace kc2 : w8.cell? ⟨w.heap.size + 1 + 1 + 1, 2, none⟩ = some (.int .i64 c3) := cell_later hb (by first | with_reducible exact kc2 | go_simp)
          replace kc3 : w8.cell? ⟨w.heap.size + 1 + 1 + 1, 3, none⟩ = some (.int .i64 c4) := cell_later hb (by first | with_reducible exact kc3 | go_simp)
          replace kx0 : w8.cell? ⟨w2.heap.size, 0, none⟩ = some (.int .i64 j1) := cell_later hb (by first | with_reducible exact kx0 | go_simp)
          replace jx0 : w8.frozen? ⟨w2.heap.size, 0, none⟩ = false := by rw [(bcell hb).2 _ _ (by first | omega | (simp <;> omega))]; first | (with_reducible exact jx0) | go_simp
          replace kx1 : w8.cell? ⟨w2.heap.size, 1, none⟩ = some (.int .i64 j2) := cell_later hb (by first | with_reducible exact kx1 | go_simp)
          replace jx1 : w8.frozen? ⟨w2.heap.size, 1, none⟩ = false := by rw [(bcell hb).2 _ _ (by first | omega | (simp <;> omega))]; first | (with_reducible exact jx1) | go_simp
          replace kx2 : w8.cell? ⟨w2.heap.size, 2, none⟩ = some (.int .i64 j3) := cell_later hb (by first | with_reducible exact kx2 | go_simp)
          replace jx2 : w8.frozen? ⟨w2.heap.size, 2, none⟩ = false := by rw [(bcell hb).2 _ _ (by first | omega | (simp <;> omega))]; first | (with_reducible exact jx2) | go_simp
          replace kx3 : w8.cell? ⟨w2.heap.size, 3, none⟩ = some (.int .i64 j4) := cell_later hb (by first | with_reducible exact kx3 | go_simp)
          replace jx3 : w8.frozen? ⟨w2.heap.size, 3, none⟩ = false := by rw [(bcell hb).2 _ _ (by first | omega | (simp <;> omega))]; first | (with_reducible exact jx3) | go_simp
          replace zy : gy < w8.heap.size := World.block_lt_of_cell? _ _ ky0
          have zy_w8 := zy
          replace zm : w.heap.size < w8.heap.size := World.block_lt_of_cell? _ _ km0
          have zm_w8 := zm
          replace zp : w.heap.size + 1 < w8.heap.size := World.block_lt_of_cell? _ _ kp0
          have zp_w8 := zp
          replace zb : w.heap.size + 1 + 1 < w8.heap.size := World.block_lt_of_cell? _ _ kb0
          have zb_w8 := zb
          replace zc : w.heap.size + 1 + 1 + 1 < w8.heap.size := World.block_lt_of_cell? _ _ kc0
          have zc_w8 := zc
          replace zx : w2.heap.size < w8.heap.size := World.block_lt_of_cell? _ _ kx0
          have zx_w8 := zx
          replace hb0 : Below w.heap.size w w8 := (by repeat (first | with_reducible exact Below.refl _ _ | with_reducible assumption | with_reducible refine Below.setCell ?_ (by first | omega | (simp <;> omega)) _ | with_reducible refine balloc ?_ _ | with_reducible refine Below.drew ?_ | with_reducible refine bstep ?_ (by with_reducible assumption)))
          have hs_w8 := hb.size; (try simp only [World.size_alloc, World.size_setCell] at hs_w8)
          clear hb
          go_wp2
          all_goals first | (exfalso; omega) | (go_ret; refine ret_bool ?_ (by repeat (first | with_reducible exact Below.refl _ _ | with_reducible assumption | with_reducible refine Below.setCell ?_ (by first | omega | (simp <;> omega)) _ | with_reducible refine balloc ?_ _ | with_reducible refine Below.drew ?_ | with_reducible refine bstep ?_ (by with_reducible assumption))); first | (simp; done) | (simp <;> omega) | (simp [*]; done))
      · subst u1
        obtain ⟨j1, j2, j3, j4, f2, l1, l2, l3, l4, g2, hg2, S, T⟩ := hB (by first | rfl | trivial)
        go_wp2_with fail
        refine Calls.mono (S _) ?_
        rintro e w6 ⟨rfl, hb⟩
        replace ky0 : w6.cell? ⟨gy, 0, none⟩ = some (.int .i64 t1) := cell_later hb (by first | with_reducible exact ky0 | go_simp)
        replace jy0 : w6.frozen? ⟨gy, 0, none⟩ = false := by rw [(bcell hb).2 _ _ (by first | omega | (simp <;> omega))]; first | (with_reducible exact jy0) | go_simp
        replace ky1 : w6.cell? ⟨gy, 1, none⟩ = some (.int .i64 t2) := cell_later hb (by first | with_reducible exact ky1 | go_simp)
        replace jy1 : w6.frozen? ⟨gy, 1, none⟩ = false := by rw [(bcell hb).2 _ _ (by first | omega | (simp <;> omega))]; first | (with_reducible exact jy1) | go_simp
        replace ky2 : w6.cell? ⟨gy, 2, none⟩ = some (.int .i64 t3) := cell_later hb (by first | with_reducible exact ky2 | go_simp)
        replace jy2 : w6.frozen? ⟨gy, 2, none⟩ = false := by rw [(bcell hb).2 _ _ (by first | omega | (simp <;> omega))]; first | (with_reducible exact jy2) | go_simp
        replace ky3 : w6.cell? ⟨gy, 3, none⟩ = some (.int .i64 t4) := cell_later hb (by first | with_reducible exact ky3 | go_simp)
        replace jy3 : w6.frozen? ⟨gy, 3, none⟩ = false := by rw [(bcell hb).2 _ _ (by first | omega | (simp <;> omega))]; first | (with_reducible exact jy3) | go_simp
        replace km0 : w6.cell? ⟨w.heap.size, 0, none⟩ = some (.int .i64 m1) := cell_later hb (by first | with_reducible exact km0 | go_simp)
        replace km1 : w6.cell? ⟨w.heap.size, 1, none⟩ = some (.int .i64 m2) := cell_later hb (by first | with_reducible exact km1 | go_simp)
        replace km2 : w6.cell? ⟨w.heap.size, 2, none⟩ = some (.int .i64 m3) := cell_later hb (by first | with_reducible exact km2 | go_simp)
        replace km3 : w6.cell? ⟨w.heap.size, 3, none⟩ = some (.int .i64 m4) := cell_later hb (by first | with_reducible exact km3 | go_simp)
        replace km4 : w6.cell? ⟨w.heap.size, 4, none⟩ = some (.int .i64 m5) := cell_later hb (by first | with_reducible exact km4 | go_simp)
        replace km5 : w6.cell? ⟨w.heap.size, 5, none⟩ = some (.int .i64 m6) := cell_later hb (by first | with_reducible exact km5 | go_simp)
        replace km6 : w6.cell? ⟨w.heap.size, 6, none⟩ = some (.int .i64 m7) := cell_later hb (by first | with_reducible exact km6 | go_simp)
        replace kp0 : w6.cell? ⟨w.heap.size + 1, 0, none⟩ = some (.int .i64 p1) := cell_later hb (by first | with_reducible exact kp0 | go_simp)
        replace kp1 : w6.cell? ⟨w.heap.size + 1, 1, none⟩ = some (.int .i64 p2) := cell_later hb (by first | with_reducible exact kp1 | go_simp)
        replace kb0 : w6.cell? ⟨w.heap.size + 1 + 1, 0, none⟩ = some (.int .i64 b1) := cell_later hb (by first | with_reducible exact kb0 | go_simp)
        replace kb1 : w6.cell? ⟨w.heap.size + 1 + 1, 1, none⟩ = some (.int .i64 b2) := cell_later hb (by first | with_reducible exact kb1 | go_simp)
        replace kb2 : w6.cell? ⟨w.heap.size + 1 + 1, 2, none⟩ = some (.int .i64 b3) := cell_later hb (by first | with_reducible exact kb2 | go_simp)
        replace kb3 : w6.cell? ⟨w.heap.size + 1 + 1, 3, none⟩ = some (.int .i64 b4) := cell_later hb (by first | with_reducible exact kb3 | go_simp)
        replace kc0 : w6.cell? ⟨w.heap.size + 1 + 1 + 1, 0, none⟩ = some (.int .i64 c1) := cell_later hb (by first | with_reducible exact kc0 | go_simp)
        replace kc1 : w6.cell? ⟨w.heap.size + 1 + 1 + 1, 1, none⟩ = some (.int .i64 c2) := cell_later hb (by first | with_reducible exact kc1 | go_simp)
        replace kc2 : w6.cell? ⟨w.heap.size + 1 + 1 + 1, 2, none⟩ = some (.int .i64 c3) := cell_later hb (by first | with_reducible exact kc2 | go_simp)
        replace kc3 : w6.cell? ⟨w.heap.size + 1 + 1 + 1, 3, none⟩ = some (.int .i64 c4) := cell_later hb (by first | with_reducible exact kc3 | go_simp)
        replace kx0 : w6.cell? ⟨w2.heap.size, 0, none⟩ = some (.int .i64 s1) := cell_later hb (by first | with_reducible exact kx0 | go_simp)
        replace jx0 : w6.frozen? ⟨w2.heap.size, 0, none⟩ = false := by rw [(bcell hb).2 _ _ (by first | omega | (simp <;> omega))]; first | (with_reducible exact jx0) | go_simp
        replace kx1 : w6.cell? ⟨w2.heap.size, 1, none⟩ = some (.int .i64 s2) := cell_later hb (by first | with_reducible exact kx1 | go_simp)
        replace jx1 : w6.frozen? ⟨w2.heap.size, 1, none⟩ = false := by rw [(bcell hb).2 _ _ (by first | omega | (simp <;> omega))]; first | (with_reducible exact jx1) | go_simp
        replace kx2 : w6.cell? ⟨w2.heap.size, 2, none⟩ = some (.int .i64 s3) := cell_later hb (by first | with_reducible exact kx2 | go_simp)
        replace jx2 : w6.frozen? ⟨w2.heap.size, 2, none⟩ = false := by rw [(bcell hb).2 _ _ (by first | omega | (simp <;> omega))]; first | (with_reducible exact jx2) | go_simp
        replace kx3 : w6.cell? ⟨w2.heap.size, 3, none⟩ = some (.int .i64 s4) := cell_later hb (by first | with_reducible exact kx3 | go_simp)
        replace jx3 : w6.frozen? ⟨w2.heap.size, 3, none⟩ = false := by rw [(bcell hb).2 _ _ (by first | omega | (simp <;> omega))]; first | (with_reducible exact jx3) | go_simp
        replace zy : gy < w6.heap.size := World.block_lt_of_cell? _ _ ky0
        have zy_w6 := zy
        replace zm : w.heap.size < w6.heap.size := World.block_lt_of_cell? _ _ km0
        have zm_w6 := zm
        replace zp : w.heap.size + 1 < w6.heap.size := World.block_lt_of_cell? _ _ kp0
        have zp_w6 := zp
        replace zb : w.heap.size + 1 + 1 < w6.heap.size := World.block_lt_of_cell? _ _ kb0
        have zb_w6 := zb
        replace zc : w.heap.size + 1 + 1 + 1 < w6.heap.size := World.block_lt_of_cell? _ _ kc0
        have zc_w6 := zc
        replace zx : w2.heap.size < w6.heap.size := World.block_lt_of_cell? _ _ kx0
        have zx_w6 := zx
        replace hb0 : Below w.heap.size w w6 := (by repeat (first | with_reducible exact Below.refl _ _ | with_reducible assumption | with_reducible refine Below.setCell ?_ (by first | omega | (simp <;> omega)) _ | with_reducible refine balloc ?_ _ | with_reducible refine Below.drew ?_ | with_reducible refine bstep ?_ (by with_reducible assumption)))
        have hs_w6 := hb.size; (try simp only [World.size_alloc, World.size_setCell] at hs_w6)
        clear hb
        go_wp2_with fail
        refine Calls.mono (T _) ?_
        rintro e w7 ⟨rfl, hb⟩
        replace ky0 : w7.cell? ⟨gy, 0, none⟩ = some (.int .i64 t1) := cell_later hb (by first | with_reducible exact ky0 | go_simp)
        replace jy0 : w7.frozen? ⟨gy, 0, none⟩ = false := by rw [(bcell hb).2 _ _ (by first | omega | (simp <;> omega))]; first | (with_reducible exact jy0) | go_simp
        replace ky1 : w7.cell? ⟨gy, 1, none⟩ = some (.int .i64 t2) := cell_later hb (by first | with_reducible exact ky1 | go_simp)
        replace jy1 : w7.frozen? ⟨gy, 1, none⟩ = false := by rw [(bcell hb).2 _ _ (by first | omega | (simp <;> omega))]; first | (with_reducible exact jy1) | go_simp
        replace ky2 : w7.cell? ⟨gy, 2, none⟩ = some (.int .i64 t3) := cell_later hb (by first | with_reducible exact ky2 | go_simp)
        replace jy2 : w7.frozen? ⟨gy, 2, none⟩ = false := by rw [(bcell hb).2 _ _ (by first | omega | (simp <;> omega))]; first | (with_reducible exact jy2) | go_simp
        replace ky3 : w7.cell? ⟨gy, 3, none⟩ = some (.int .i64 t4) := cell_later hb (by first | with_reducible exact ky3 | go_simp)
        replace jy3 : w7.frozen? ⟨gy, 3, none⟩ = false := by rw [(bcell hb).2 _ _ (by first | omega | (simp <;> omega))]; first | (with_reducible exact jy3) | go_simp
        replace km0 : w7.cell? ⟨w.heap.size, 0, none⟩ = some (.int .i64 m1) := cell_later hb (by first | with_reducible exact km0 | go_simp)
        replace km1 : w7.cell? ⟨w.heap.size, 1, none⟩ = some (.int .i64 m2) := cell_later hb (by first | with_reducible exact km1 | go_simp)
        replace km2 : w7.cell? ⟨w.heap.size, 2, none⟩ = some (.int .i64 m3) := cell_later hb (by first | with_reducible exact km2 | go_simp)
        replace km3 : w7.cell? ⟨w.heap.size, 3, none⟩ = some (.int .i64 m4) := cell_later hb (by first | with_reducible exact km3 | go_simp)
        replace km4 : w7.cell? ⟨w.heap.size, 4, none⟩ = some (.int .i64 m5) := cell_later hb (by first | with_reducible exact km4 | go_simp)
        replace km5 : w7.cell? ⟨w.heap.size, 5, none⟩ = some (.int .i64 m6) := cell_later hb (by first | with_reducible exact km5 | go_simp)
        replace km6 : w7.cell? ⟨w.heap.size, 6, none⟩ = some (.int .i64 m7) := cell_later hb (by first | with_reducible exact km6 | go_simp)
        replace kp0 : w7.cell? ⟨w.heap.size + 1, 0, none⟩ = some (.int .i64 p1) := cell_later hb (by first | with_reducible exact kp0 | go_simp)
        replace kp1 : w7.cell? ⟨w.heap.size + 1, 1, none⟩ = some (.int .i64 p2) := cell_later hb (by first | with_reducible exact kp1 | go_simp)
        replace kb0 : w7.cell? ⟨w.heap.size + 1 + 1, 0, none⟩ = some (.int .i64 b1) := cell_later hb (by first | with_reducible exact kb0 | go_simp)
        replace kb1 : w7.cell? ⟨w.heap.size + 1 + 1, 1, none⟩ = some (.int .i64 b2) := cell_later hb (by first | with_reducible exact kb1 | go_simp)
        replace kb2 : w7.cell? ⟨w.heap.size + 1 + 1, 2, none⟩ = some (.int .i64 b3) := cell_later hb (by first | with_reducible exact kb2 | go_simp)
        replace kb3 : w7.cell? ⟨w.heap.size + 1 + 1, 3, none⟩ = some (.int .i64 b4) := cell_later hb (by first | with_reducible exact kb3 | go_simp)
        replace kc0 : w7.cell? ⟨w.heap.size + 1 + 1 + 1, 0, none⟩ = some (.int .i64 c1) := cell_later hb (by first | with_reducible exact kc0 | go_simp)
        replace kc1 : w7.cell? ⟨w.heap.size + 1 + 1 + 1, 1, none⟩ = some (.int .i64 c2) := cell_later hb (by first | with_reducible exact kc1 | go_simp)
        replace kc2 : w7.cell? ⟨w.heap.size + 1 + 1 + 1, 2, none⟩ = some (.int .i64 c3) := cell_later hb (by first | with_reducible exact kc2 | go_simp)
        replace kc3 : w7.cell? ⟨w.heap.size + 1 + 1 + 1, 3, none⟩ = some (.int .i64 c4) := cell_later hb (by first | with_reducible exact kc3 | go_simp)
        replace kx0 : w7.cell? ⟨w2.heap.size, 0, none⟩ = some (.int .i64 j1) := cell_later hb (by first | with_reducible exact kx0 | go_simp)
        replace jx0 : w7.frozen? ⟨w2.heap.size, 0, none⟩ = false := by rw [(bcell hb).2 _ _ (by first | omega | (simp <;> omega))]; first | (with_reducible exact jx0) | go_simp
        replace kx1 : w7.cell? ⟨w2.heap.size, 1, none⟩ = some (.int .i64 j2) := cell_later hb (by first | with_reducible exact kx1 | go_simp)
        replace jx1 : w7.frozen? ⟨w2.heap.size, 1, none⟩ = false := by rw [(bcell hb).2 _ _ (by first | omega | (simp <;> omega))]; first | (with_reducible exact jx1) | go_simp
        replace kx2 : w7.cell? ⟨w2.heap.size, 2, none⟩ = some (.int .i64 j3) := cell_later hb (by first | with_reducible exact kx2 | go_simp)
        replace jx2 : w7.frozen? ⟨w2.heap.size, 2, none⟩ = false := by rw [(bcell hb).2 _ _ (by first | omega | (simp <;> omega))]; first | (with_reducible exact jx2) | go_simp
        replace kx3 : w7.cell? ⟨w2.heap.size, 3, none⟩ = some (.int .i64 j4) := cell_later hb (by first | with_reducible exact kx3 | go_simp)
        replace jx3 : w7.frozen? ⟨w2.heap.size, 3, none⟩ = false := by rw [(bcell hb).2 _ _ (by first | omega | (simp <;> omega))]; first | (with_reducible exact jx3) | go_simp
        replace zy : gy < w7.heap.size := World.block_lt_of_cell? _ _ ky0
        have zy_w7 := zy
        replace zm : w.heap.size < w7.heap.size := World.block_lt_of_cell? _ _ km0
        have zm_w7 := zm
        replace zp : w.heap.size + 1 < w7.heap.size := World.block_lt_of_cell? _ _ kp0
        have zp_w7 := zp
        replace zb : w.heap.size + 1 + 1 < w7.heap.size := World.block_lt_of_cell? _ _ kb0
        have zb_w7 := zb
        replace zc : w.heap.size + 1 + 1 + 1 < w7.heap.size := World.block_lt_of_cell? _ _ kc0
        have zc_w7 := zc
        replace zx : w2.heap.size < w7.heap.size := World.block_lt_of_cell? _ _ kx0
        have zx_w7 := zx
        replace hb0 : Below w.heap.size w w7 := (by repeat (first | with_reducible exact Below.refl _ _ | with_reducible assumption | with_reducible refine Below.setCell ?_ (by first | omega | (simp <;> omega)) _ | with_reducible refine balloc ?_ _ | with_reducible refine Below.drew ?_ | with_reducible refine bstep ?_ (by with_reducible assumption)))
        have hs_w7 := hb.size; (try simp only [World.size_alloc, World.size_setCell] at hs_w7)
        clear hb
        have V := fun w => win_c j1 j2 j3 j4 l1 l2 l3 l4 w
        rcases hg2 with u1 | ⟨u1, u2⟩ | ⟨u1, u2, u3⟩
        · go_wp2
          all_goals first | (exfalso; omega) | (go_ret; refine ret_bool ?_ (by repeat (first | with_reducible exact Below.refl _ _ | with_reducible assumption | with_reducible refine Below.setCell ?_ (by first | omega | (simp <;> omega)) _ | with_reducible refine balloc ?_ _ | with_reducible refine Below.drew ?_ | with_reducible refine bstep ?_ (by with_reducible assumption))); first | (simp; done) | (simp <;> omega) | (simp [*]; done))
        · subst u1
          go_wp2
          all_goals first | (exfalso; omega) | (go_ret; refine ret_bool ?_ (by repeat (first | with_reducible exact Below.refl _ _ | with_reducible assumption | with_reducible refine Below.setCell ?_ (by first | omega | (simp <;> omega)) _ | with_reducible refine balloc ?_ _ | with_reducible refine Below.drew ?_ | with_reducible refine bstep ?_ (by with_reducible assumption))); first | (simp; done) | (simp <;> omega) | (simp [*]; done))
        · subst u1
          subst u2
          rw [u3] at V
          go_wp2_with fail
          refine Calls.mono (V _) ?_
          rintro e w8 ⟨rfl, hb⟩
          replace ky0 : w8.cell? ⟨gy, 0, none⟩ = some (.int .i64 l1) := cell_later hb (by first | with_reducible exact ky0 | go_simp)
          replace jy0 : w8.frozen? ⟨gy, 0, none⟩ = false := by rw [(bcell hb).2 _ _ (by first | omega | (simp <;> omega))]; first | (with_reducible exact jy0) | go_simp
          replace ky1 : w8.cell? ⟨gy, 1, none⟩ = some (.int .i64 l2) := cell_later hb (by first | with_reducible exact ky1 | go_simp)
          replace jy1 : w8.frozen? ⟨gy, 1, none⟩ = false := by rw [(bcell hb).2 _ _ (by first | omega | (simp <;> omega))]; first | (with_reducible exact jy1) | go_simp
          replace ky2 : w8.cell? ⟨gy, 2, none⟩ = some (.int .i64 l3) := cell_later hb (by first | with_reducible exact ky2 | go_simp)
          replace jy2 : w8.frozen? ⟨gy, 2, none⟩ = false := by rw [(bcell hb).2 _ _ (by first | omega | (simp <;> omega))]; first | (with_reducible exact jy2) | go_simp
          replace ky3 : w8.cell? ⟨gy, 3, none⟩ = some (.int .i64 l4) := cell_later hb (by first | with_reducible exact ky3 | go_simp)
          replace jy3 : w8.frozen? ⟨gy, 3, none⟩ = false := by rw [(bcell hb).2 _ _ (by first | omega | (simp <;> omega))]; first | (with_reducible exact jy3) | go_simp
          replace km0 : w8.cell? ⟨w.heap.size, 0, none⟩ = some (.int .i64 m1) := cell_later hb (by first | with_reducible exact km0 | go_simp)
          replace km1 : w8.cell? ⟨w.heap.size, 1, none⟩ = some (.int .i64 m2) := cell_later hb (by first | with_reducible exact km1 | go_simp)
          replace km2 : w8.cell? ⟨w.heap.size, 2, none⟩ = some (.int .i64 m3) := cell_later hb (by first | with_reducible exact km2 | go_simp)
          replace km3 : w8.cell? ⟨w.heap.size, 3, none⟩ = some (.int .i64 m4) := cell_later hb (by first | with_reducible exact km3 | go_simp)
          replace km4 : w8.cell? ⟨w.heap.size, 4, none⟩ = some (.int .i64 m5) := cell_later hb (by first | with_reducible exact km4 | go_simp)
          replace km5 : w8.cell? ⟨w.heap.size, 5, none⟩ = some (.int .i64 m6) := cell_later hb (by first | with_reducible exact km5 | go_simp)
          replace km6 : w8.cell? ⟨w.heap.size, 6, none⟩ = some (.int .i64 m7) := cell_later hb (by first | with_reducible exact km6 | go_simp)
          replace kp0 : w8.cell? ⟨w.heap.size + 1, 0, none⟩ = some (.int .i64 p1) := cell_later hb (by first | with_reducible exact kp0 | go_simp)
          replace kp1 : w8.cell? ⟨w.heap.size + 1, 1, none⟩ = some (.int .i64 p2) := cell_later hb (by first | with_reducible exact kp1 | go_simp)
          replace kb0 : w8.cell? ⟨w.heap.size + 1 + 1, 0, none⟩ = some (.int .i64 b1) := cell_later hb (by first | with_reducible exact kb0 | go_simp)
          replace kb1 : w8.cell? ⟨w.heap.size + 1 + 1, 1, none⟩ = some (.int .i64 b2) := cell_later hb (by first | with_reducible exact kb1 | go_simp)
          replace kb2 : w8.cell? ⟨w.heap.size + 1 + 1, 2, none⟩ = some (.int .i64 b3) := cell_later hb (by first | with_reducible exact kb2 | go_simp)
          replace kb3 : w8.cell? ⟨w.heap.size + 1 + 1, 3, none⟩ = some (.int .i64 b4) := cell_later hb (by first | with_reducible exact kb3 | go_simp)
          replace kc0 : w8.cell? ⟨w.heap.size + 1 + 1 + 1, 0, none⟩ = some (.int .i64 c1) := cell_later hb (by first | with_reducible exact kc0 | go_simp)
          replace kc1 : w8.cell? ⟨w.heap.size + 1 + 1 + 1, 1, none⟩ = some (.int .i64 c2) := cell_later hb (by first | with_reducible exact kc1 | go_simp)
          replace kc2 : w8.cell? ⟨w.heap.size + 1 + 1 + 1, 2, none⟩ = some (.int .i64 c3) := cell_later hb (by first | with_reducible exact kc2 | go_simp)
          replace kc3 : w8.cell? ⟨w.heap.size + 1 + 1 + 1, 3, none⟩ = some (.int .i64 c4) := cell_later hb (by first | with_reducible exact kc3 | go_simp)
          replace kx0 : w8.cell? ⟨w2.heap.size, 0, none⟩ = some (.int .i64 j1) := cell_later hb (by first | with_reducible exact kx0 | go_simp)
          replace jx0 : w8.frozen? ⟨w2.heap.size, 0, none⟩ = false := by rw [(bcell hb).2 _ _ (by first | omega | (simp <;> omega))]; first | (with_reducible exact jx0) | go_simp
          replace kx1 : w8.cell? ⟨w2.heap.size, 1, none⟩ = some (.int .i64 j2) := cell_later hb (by first | with_reducible exact kx1 | go_simp)
          replace jx1 : w8.frozen? ⟨w2.heap.size, 1, none⟩ = false := by rw [(bcell hb).2 _ _ (by first | omega | (simp <;> omega))]; first | (with_reducible exact jx1) | go_simp
          replace kx2 : w8.cell? ⟨w2.heap.size, 2, none⟩ = some (.int .i64 j3) := cell_later hb (by first | with_reducible exact kx2 | go_simp)
          replace jx2 : w8.frozen? ⟨w2.heap.size, 2, none⟩ = false := by rw [(bcell hb).2 _ _ (by first | omega | (simp <;> omega))]; first | (with_reducible exact jx2) | go_simp
          replace kx3 : w8.cell? ⟨w2.heap.size, 3, none⟩ = some (.int .i64 j4) := cell_later hb (by first | with_reducible exact kx3 | go_simp)
          replace jx3 : w8.frozen? ⟨w2.heap.size, 3, none⟩ = false := by rw [(bcell hb).2 _ _ (by first | omega | (simp <;> omega))]; first | (with_reducible exact jx3) | go_simp
          replace zy : gy < w8.heap.size := World.block_lt_of_cell? _ _ ky0
          have zy_w8 := zy
          replace zm : w.heap.size < w8.heap.size := World.block_lt_of_cell? _ _ km0
          have zm_w8 := zm
          replace zp : w.heap.size + 1 < w8.heap.size := World.block_lt_of_cell? _ _ kp0
          have zp_w8 := zp
          replace zb : w.heap.size + 1 + 1 < w8.heap.size := World.block_lt_of_cell? _ _ kb0
          have zb_w8 := zb
          replace zc : w.heap.size + 1 + 1 + 1 < w8.heap.size := World.block_lt_of_cell? _ _ kc0
          have zc_w8 := zc
          replace zx : w2.heap.size < w8.heap.size := World.block_lt_of_cell? _ _ kx0
          have zx_w8 := zx
          replace hb0 : Below w.heap.size w w8 := (by repeat (first | with_reducible exact Below.refl _ _ | with_reducible assumption | with_reducible refine Below.setCell ?_ (by first | omega | (simp <;> omega)) _ | with_reducible refine balloc ?_ _ | with_reducible refine Below.drew ?_ | with_reducible refine bstep ?_ (by with_reducible assumption)))
          have hs_w8 := hb.size; (try simp only [World.size_alloc, World.size_setCell] at hs_w8)
          clear hb
          go_wp2
          all_goals first | (exfalso; omega) | (go_ret; refine ret_bool ?_ (by repeat (first | with_reducible exact Below.refl _ _ | with_reducible assumption | with_reducible refine Below.setCell ?_ (by first | omega | (simp <;> omega)) _ | with_reducible refine balloc ?_ _ | with_reducible refine Below.drew ?_ | with_reducible refine bstep ?_ (by with_reducible assumption))); first | (simp; done) | (simp <;> omega) | (simp [*]; done))
      · subst u1
        subst u2
        rw [u3] at V
        go_wp2_with fail
        refine Calls.mono (V _) ?_
        rintro e w6 ⟨rfl, hb⟩
        replace ky0 : w6.cell? ⟨gy, 0, none⟩ = some (.int .i64 t1) := cell_later hb (by first | with_reducible exact ky0 | go_simp)
        replace jy0 : w6.frozen? ⟨gy, 0, none⟩ = false := by rw [(bcell hb).2 _ _ (by first | omega | (simp <;> omega))]; first | (with_reducible exact jy0) | go_simp
        replace ky1 : w6.cell? ⟨gy, 1, none⟩ = some (.int .i64 t2) := cell_later hb (by first | with_reducible exact ky1 | go_simp)
        replace jy1 : w6.frozen? ⟨gy, 1, none⟩ = false := by rw [(bcell hb).2 _ _ (by first | omega | (simp <;> omega))]; first | (with_reducible exact jy1) | go_simp
        replace ky2 : w6.cell? ⟨gy, 2, none⟩ = some (.int .i64 t3) := cell_later hb (by first | with_reducible exact ky2 | go_simp)
        replace jy2 : w6.frozen? ⟨gy, 2, none⟩ = false := by rw [(bcell hb).2 _ _ (by first | omega | (simp <;> omega))]; first | (with_reducible exact jy2) | go_simp
        replace ky3 : w6.cell? ⟨gy, 3, none⟩ = some (.int .i64 t4) := cell_later hb (by first | with_reducible exact ky3 | go_simp)
        replace jy3 : w6.frozen? ⟨gy, 3, none⟩ = false := by rw [(bcell hb).2 _ _ (by first | omega | (simp <;> omega))]; first | (with_reducible exact jy3) | go_simp
        replace km0 : w6.cell? ⟨w.heap.size, 0, none⟩ = some (.int .i64 m1) := cell_later hb (by first | with_reducible exact km0 | go_simp)
        replace km1 : w6.cell? ⟨w.heap.size, 1, none⟩ = some (.int .i64 m2) := cell_later hb (by first | with_reducible exact km1 | go_simp)
        replace km2 : w6.cell? ⟨w.heap.size, 2, none⟩ = some (.int .i64 m3) := cell_later hb (by first | with_reducible exact km2 | go_simp)
        replace km3 : w6.cell? ⟨w.heap.size, 3, none⟩ = some (.int .i64 m4) := cell_later hb (by first | with_reducible exact km3 | go_simp)
        replace km4 : w6.cell? ⟨w.heap.size, 4, none⟩ = some (.int .i64 m5) := cell_later hb (by first | with_reducible exact km4 | go_simp)
        replace km5 : w6.cell? ⟨w.heap.size, 5, none⟩ = some (.int .i64 m6) := cell_later hb (by first | with_reducible exact km5 | go_simp)
        replace km6 : w6.cell? ⟨w.heap.size, 6, none⟩ = some (.int .i64 m7) := cell_later hb (by first | with_reducible exact km6 | go_simp)
        replace kp0 : w6.cell? ⟨w.heap.size + 1, 0, none⟩ = some (.int .i64 p1) := cell_later hb (by first | with_reducible exact kp0 | go_simp)
        replace kp1 : w6.cell? ⟨w.heap.size + 1, 1, none⟩ = some (.int .i64 p2) := cell_later hb (by first | with_reducible exact kp1 | go_simp)
        replace kb0 : w6.cell? ⟨w.heap.size + 1 + 1, 0, none⟩ = some (.int .i64 b1) := cell_later hb (by first | with_reducible exact kb0 | go_simp)
        replace kb1 : w6.cell? ⟨w.heap.size + 1 + 1, 1, none⟩ = some (.int .i64 b2) := cell_later hb (by first | with_reducible exact kb1 | go_simp)
        replace kb2 : w6.cell? ⟨w.heap.size + 1 + 1, 2, none⟩ = some (.int .i64 b3) := cell_later hb (by first | with_reducible exact kb2 | go_simp)
        replace kb3 : w6.cell? ⟨w.heap.size + 1 + 1, 3, none⟩ = some (.int .i64 b4) := cell_later hb (by first | with_reducible exact kb3 | go_simp)
        replace kc0 : w6.cell? ⟨w.heap.size + 1 + 1 + 1, 0, none⟩ = some (.int .i64 c1) := cell_later hb (by first | with_reducible exact kc0 | go_simp)
        replace kc1 : w6.cell? ⟨w.heap.size + 1 + 1 + 1, 1, none⟩ = some (.int .i64 c2) := cell_later hb (by first | with_reducible exact kc1 | go_simp)
        replace kc2 : w6.cell? ⟨w.heap.size + 1 + 1 + 1, 2, none⟩ = some (.int .i64 c3) := cell_later hb (by first | with_reducible exact kc2 | go_simp)
        replace kc3 : w6.cell? ⟨w.heap.size + 1 + 1 + 1, 3, none⟩ = some (.int .i64 c4) := cell_later hb (by first | with_reducible exact kc3 | go_simp)
        replace kx0 : w6.cell? ⟨w2.heap.size, 0, none⟩ = some (.int .i64 s1) := cell_later hb (by first | with_reducible exact kx0 | go_simp)
        replace jx0 : w6.frozen? ⟨w2.heap.size, 0, none⟩ = false := by rw [(bcell hb).2 _ _ (by first | omega | (simp <;> omega))]; first | (with_reducible exact jx0) | go_simp
        replace kx1 : w6.cell? ⟨w2.heap.size, 1, none⟩ = some (.int .i64 s2) := cell_later hb (by first | with_reducible exact kx1 | go_simp)
        replace jx1 : w6.frozen? ⟨w2.heap.size, 1, none⟩ = false := by rw [(bcell hb).2 _ _ (by first | omega | (simp <;> omega))]; first | (with_reducible exact jx1) | go_simp
        replace kx2 : w6.cell? ⟨w2.heap.size, 2, none⟩ = some (.int .i64 s3) := cell_later hb (by first | with_reducible exact kx2 | go_simp)
        replace jx2 : w6.frozen? ⟨w2.heap.size, 2, none⟩ = false := by rw [(bcell hb).2 _ _ (by first | omega | (simp <;> omega))]; first | (with_reducible exact jx2) | go_simp
        replace kx3 : w6.cell? ⟨w2.heap.size, 3, none⟩ = some (.int .i64 s4) := cell_later hb (by first | with_reducible exact kx3 | go_simp)
        replace jx3 : w6.frozen? ⟨w2.heap.size, 3, none⟩ = false := by rw [(bcell hb).2 _ _ (by first | omega | (simp <;> omega))]; first | (with_reducible exact jx3) | go_simp
        replace zy : gy < w6.heap.size := World.block_lt_of_cell? _ _ ky0
        have zy_w6 := zy
        replace zm : w.heap.size < w6.heap.size := World.block_lt_of_cell? _ _ km0
        have zm_w6 := zm
        replace zp : w.heap.size + 1 < w6.heap.size := World.block_lt_of_cell? _ _ kp0
        have zp_w6 := zp
        replace zb : w.heap.size + 1 + 1 < w6.heap.size := World.block_lt_of_cell? _ _ kb0
        have zb_w6 := zb
        replace zc : w.heap.size + 1 + 1 + 1 < w6.heap.size := World.block_lt_of_cell? _ _ kc0
        have zc_w6 := zc
        replace zx : w2.heap.size < w6.heap.size := World.block_lt_of_cell? _ _ kx0
        have zx_w6 := zx
        replace hb0 : Below w.heap.size w w6 := (by repeat (first | with_reducible exact Below.refl _ _ | with_reducible assumption | with_reducible refine Below.setCell ?_ (by first | omega | (simp <;> omega)) _ | with_reducible refine balloc ?_ _ | with_reducible refine Below.drew ?_ | with_reducible refine bstep ?_ (by with_reducible assumption)))
        have hs_w6 := hb.size; (try simp only [World.size_alloc, World.size_setCell] at hs_w6)
        clear hb
        obtain ⟨j1, j2, j3, j4, f2, l1, l2, l3, l4, g2, hg2, S, T⟩ := hB (by first | rfl | trivial)
        go_wp2_with fail
        refine Calls.mono (S _) ?_
        rintro e w7 ⟨rfl, hb⟩
        replace jy0 := fro_later hb ky0 jy0
        replace ky0 := cell_later hb ky0
        replace jy1 := fro_later hb ky1 jy1
        replace ky1 := cell_later hb ky1
        replace jy2 := fro_later hb ky2 jy2
        replace ky2 := cell_later hb ky2
        replace jy3 := fro_later hb ky3 jy3
        replace ky3 := cell_later hb ky3
        replace km0 := cell_later hb km0
        replace km1 := cell_later hb km1
        replace km2 := cell_later hb km2
        replace km3 := cell_later hb km3
        replace km4 := cell_later hb km4
        replace km5 := cell_later hb km5
        replace km6 := cell_later hb km6
        replace kp0 := cell_later hb kp0
        replace kp1 := cell_later hb kp1
        replace kb0 := cell_later hb kb0
        replace kb1 := cell_later hb kb1
        replace kb2 := cell_later hb kb2
        replace kb3 := cell_later hb kb3
        replace kc0 := cell_later hb kc0
        replace kc1 := cell_later hb kc1
        replace kc2 := cell_later hb kc2
        replace kc3 := cell_later hb kc3
        replace jx0 := fro_later hb kx0 jx0
        replace kx0 := cell_later hb kx0
        replace jx1 := fro_later hb kx1 jx1
        replace kx1 := cell_later hb kx1
        replace jx2 := fro_later hb kx2 jx2
        replace kx2 := cell_later hb kx2
        replace jx3 := fro_later hb kx3 jx3
        replace kx3 := cell_later hb kx3
        replace zy : gy < w7.heap.size := World.block_lt_of_cell? _ _ ky0
        have zy_w7 := zy
        replace zm : w.heap.size < w7.heap.size := World.block_lt_of_cell? _ _ km0
        have zm_w7 := zm
        replace zp : w.heap.size + 1 < w7.heap.size := World.block_lt_of_cell? _ _ kp0
        have zp_w7 := zp
        replace zb : w.heap.size + 1 + 1 < w7.heap.size := World.block_lt_of_cell? _ _ kb0
        have zb_w7 := zb
        replace zc : w.heap.size + 1 + 1 + 1 < w7.heap.size := World.block_lt_of_cell? _ _ kc0
        have zc_w7 := zc
        replace zx : w2.heap.size < w7.heap.size := World.block_lt_of_cell? _ _ kx0
        have zx_w7 := zx
        replace hb0 : Below w.heap.size w w7 := (by repeat (first | with_reducible exact Below.refl _ _ | with_reducible assumption | with_reducible refine Below.setCell ?_ (by first | omega | (simp <;> omega)) _ | with_reducible refine balloc ?_ _ | with_reducible refine Below.drew ?_ | with_reducible refine bstep ?_ (by with_reducible assumption)))
        have hs_w7 : w6.heap.size ≤ w7.heap.size := hb.size
        clear hb
        go_wp2_with fail
        refine Calls.mono (T _) ?_
        rintro e w8 ⟨rfl, hb⟩
        replace ky0 : w8.cell? ⟨gy, 0, none⟩ = some (.int .i64 t1) := cell_later hb (by first | with_reducible exact ky0 | go_simp)
        replace jy0 : w8.frozen? ⟨gy, 0, none⟩ = false := by rw [(bcell hb).2 _ _ (by first | omega | (simp <;> omega))]; first | (with_reducible exact jy0) | go_simp
        replace ky1 : w8.cell? ⟨gy, 1, none⟩ = some (.int .i64 t2) := cell_later hb (by first | with_reducible exact ky1 | go_simp)
        replace jy1 : w8.frozen? ⟨gy, 1, none⟩ = false := by rw [(bcell hb).2 _ _ (by first | omega | (simp <;> omega))]; first | (with_reducible exact jy1) | go_simp
        replace ky2 : w8.cell? ⟨gy, 2, none⟩ = some (.int .i64 t3) := cell_later hb (by first | with_reducible exact ky2 | go_simp)
        replace jy2 : w8.frozen? ⟨gy, 2, none⟩ = false := by rw [(bcell hb).2 _ _ (by first | omega | (simp <;> omega))]; first | (with_reducible exact jy2) | go_simp
        replace ky3 : w8.cell? ⟨gy, 3, none⟩ = some (.int .i64 t4) := cell_later hb (by first | with_reducible exact ky3 | go_simp)
        replace jy3 : w8.frozen? ⟨gy, 3, none⟩ = false := by rw [(bcell hb).2 _ _ (by first | omega | (simp <;> omega))]; first | (with_reducible exact jy3) | go_simp
        replace km0 : w8.cell? ⟨w.heap.size, 0, none⟩ = some (.int .i64 m1) := cell_later hb (by first | with_reducible exact km0 | go_simp)
        replace km1 : w8.cell? ⟨w.heap.size, 1, none⟩ = some (.int .i64 m2) := cell_later hb (by first | with_reducible exact km1 | go_simp)
        replace km2 : w8.cell? ⟨w.heap.size, 2, none⟩ = some (.int .i64 m3) := cell_later hb (by first | with_reducible exact km2 | go_simp)
        replace km3 : w8.cell? ⟨w.heap.size, 3, none⟩ = some (.int .i64 m4) := cell_later hb (by first | with_reducible exact km3 | go_simp)
        replace km4 : w8.cell? ⟨w.heap.size, 4, none⟩ = some (.int .i64 m5) := cell_later hb (by first | with_reducible exact km4 | go_simp)
        replace km5 : w8.cell? ⟨w.heap.size, 5, none⟩ = some (.int .i64 m6) := cell_later hb (by first | with_reducible exact km5 | go_simp)
        replace km6 : w8.cell? ⟨w.heap.size, 6, none⟩ = some (.int .i64 m7) := cell_later hb (by first | with_reducible exact km6 | go_simp)
        replace kp0 : w8.cell? ⟨w.heap.size + 1, 0, none⟩ = some (.int .i64 p1) := cell_later hb (by first | with_reducible exact kp0 | go_simp)
        replace kp1 : w8.cell? ⟨w.heap.size + 1, 1, none⟩ = some (.int .i64 p2) := cell_later hb (by first | with_reducible exact kp1 | go_simp)
        replace kb0 : w8.cell? ⟨w.heap.size + 1 + 1, 0, none⟩ = some (.int .i64 b1) := cell_later hb (by first | with_reducible exact kb0 | go_simp)
        replace kb1 : w8.cell? ⟨w.heap.size + 1 + 1, 1, none⟩ = some (.int .i64 b2) := cell_later hb (by first | with_reducible exact kb1 | go_simp)
        replace kb2 : w8.cell? ⟨w.heap.size + 1 + 1, 2, none⟩ = some (.int .i64 b3) := cell_later hb (by first | with_reducible exact kb2 | go_simp)
        replace kb3 : w8.cell? ⟨w.heap.size + 1 + 1, 3, none⟩ = some (.int .i64 b4) := cell_later hb (by first | with_reducible exact kb3 | go_simp)
        replace kc0 : w8.cell? ⟨w.heap.size + 1 + 1 + 1, 0, none⟩ = some (.int .i64 c1) := cell_later hb (by first | with_reducible exact kc0 | go_simp)
        replace kc1 : w8.cell? ⟨w.heap.size + 1 + 1 + 1, 1, none⟩ = some (.int .i64 c2) := cell_later hb (by first | with_reducible exact kc1 | go_simp)
        replace kc2 : w8.cell? ⟨w.heap.size + 1 + 1 + 1, 2, none⟩ = some (.int .i64 c3) := cell_later hb (by first | with_reducible exact kc2 | go_simp)
        replace kc3 : w8.cell? ⟨w.heap.size + 1 + 1 + 1, 3, none⟩ = some (.int .i64 c4) := cell_later hb (by first | with_reducible exact kc3 | go_simp)
        replace kx0 : w8.cell? ⟨w2.heap.size, 0, none⟩ = some (.int .i64 j1) := cell_later hb (by first | with_reducible exact kx0 | go_simp)
        replace jx0 : w8.frozen? ⟨w2.heap.size, 0, none⟩ = false := by rw [(bcell hb).2 _ _ (by first | omega | (simp <;> omega))]; first | (with_reducible exact jx0) | go_simp
        replace kx1 : w8.cell? ⟨w2.heap.size, 1, none⟩ = some (.int .i64 j2) := cell_later hb (by first | with_reducible exact kx1 | go_simp)
        replace jx1 : w8.frozen? ⟨w2.heap.size, 1, none⟩ = false := by rw [(bcell hb).2 _ _ (by first | omega | (simp <;> omega))]; first | (with_reducible exact jx1) | go_simp
        replace kx2 : w8.cell? ⟨w2.heap.size, 2, none⟩ = some (.int .i64 j3) := cell_later hb (by first | with_reducible exact kx2 | go_simp)
        replace jx2 : w8.frozen? ⟨w2.heap.size, 2, none⟩ = false := by rw [(bcell hb).2 _ _ (by first | omega | (simp <;> omega))]; first | (with_reducible exact jx2) | go_simp
        replace kx3 : w8.cell? ⟨w2.heap.size, 3, none⟩ = some (.int .i64 j4) := cell_later hb (by first | with_reducible exact kx3 | go_simp)
        replace jx3 : w8.frozen? ⟨w2.heap.size, 3, none⟩ = false := by rw [(bcell hb).2 _ _ (by first | omega | (simp <;> omega))]; first | (with_reducible exact jx3) | go_simp
        replace zy : gy < w8.heap.size := World.block_lt_of_cell? _ _ ky0
        have zy_w8 := zy
        replace zm : w.heap.size < w8.heap.size := World.block_lt_of_cell? _ _ km0
        have zm_w8 := zm
        replace zp : w.heap.size + 1 < w8.heap.size := World.block_lt_of_cell? _ _ kp0
        have zp_w8 := zp
        replace zb : w.heap.size + 1 + 1 < w8.heap.size := World.block_lt_of_cell? _ _ kb0
        have zb_w8 := zb
        replace zc : w.heap.size + 1 + 1 + 1 < w8.heap.size := World.block_lt_of_cell? _ _ kc0
        have zc_w8 := zc
        replace zx : w2.heap.size < w8.heap.size := World.block_lt_of_cell? _ _ kx0
        have zx_w8 := zx
        replace hb0 : Below w.heap.size w w8 := (by repeat (first | with_reducible exact Below.refl _ _ | with_reducible assumption | with_reducible refine Below.setCell ?_ (by first | omega | (simp <;> omega)) _ | with_reducible refine balloc ?_ _ | with_reducible refine Below.drew ?_ | with_reducible refine bstep ?_ (by with_reducible assumption)))
        have hs_w8 := hb.size; (try simp only [World.size_alloc, World.size_setCell] at hs_w8)
        clear hb
        have V := fun w => win_c j1 j2 j3 j4 l1 l2 l3 l4 w
        rcases hg2 with u1 | ⟨u1, u2⟩ | ⟨u1, u2, u3⟩
        · go_wp2
          all_goals first | (exfalso; omega) | (go_ret; refine ret_bool ?_ (by repeat (first | with_reducible exact Below.refl _ _ | with_reducible assumption | with_reducible refine Below.setCell ?_ (by first | omega | (simp <;> omega)) _ | with_reducible refine balloc ?_ _ | with_reducible refine Below.drew ?_ | with_reducible refine bstep ?_ (by with_reducible assumption))); first | (simp; done) | (simp <;> omega) | (simp [*]; done))
        · subst u1
          go_wp2
          all_goals first | (exfalso; omega) | (go_ret; refine ret_bool ?_ (by repeat (first | with_reducible exact Below.refl _ _ | with_reducible assumption | with_reducible refine Below.setCell ?_ (by first | omega | (simp <;> omega)) _ | with_reducible refine balloc ?_ _ | with_reducible refine Below.drew ?_ | with_reducible refine bstep ?_ (by with_reducible assumption))); first | (simp; done) | (simp <;> omega) | (simp [*]; done))
        · subst u1
          subst u2
          rw [u3] at V
          go_wp2_with fail
          refine Calls.mono (V _) ?_
          rintro e w9 ⟨rfl, hb⟩
          replace ky0 : w9.cell? ⟨gy, 0, none⟩ = some (.int .i64 l1) := cell_later hb (by first | with_reducible exact ky0 | go_simp)
          replace jy0 : w9.frozen? ⟨gy, 0, none⟩ = false := by rw [(bcell hb).2 _ _ (by first | omega | (simp <;> omega))]; first | (with_reducible exact jy0) | go_simp
          replace ky1 : w9.cell? ⟨gy, 1, none⟩ = some (.int .i64 l2) := cell_later hb (by first | with_reducible exact ky1 | go_simp)
          replace jy1 : w9.frozen? ⟨gy, 1, none⟩ = false := by rw [(bcell hb).2 _ _ (by first | omega | (simp <;> omega))]; first | (with_reducible exact jy1) | go_simp
          replace ky2 : w9.cell? ⟨gy, 2, none⟩ = some (.int .i64 l3) := cell_later hb (by first | with_reducible exact ky2 | go_simp)
          replace jy2 : w9.frozen? ⟨gy, 2, none⟩ = false := by rw [(bcell hb).2 _ _ (by first | omega | (simp <;> omega))]; first | (with_reducible exact jy2) | go_simp
          replace ky3 : w9.cell? ⟨gy, 3, none⟩ = some (.int .i64 l4) := cell_later hb (by first | with_reducible exact ky3 | go_simp)
          replace jy3 : w9.frozen? ⟨gy, 3, none⟩ = false := by rw [(bcell hb).2 _ _ (by first | omega | (simp <;> omega))]; first | (with_reducible exact jy3) | go_simp
          replace km0 : w9.cell? ⟨w.heap.size, 0, none⟩ = some (.int .i64 m1) := cell_later hb (by first | with_reducible exact km0 | go_simp)
          replace km1 : w9.cell? ⟨w.heap.size, 1, none⟩ = some (.int .i64 m2) := cell_later hb (by first | with_reducible exact km1 | go_simp)
          replace km2 : w9.cell? ⟨w.heap.size, 2, none⟩ = some (.int .i64 m3) := cell_later hb (by first | with_reducible exact km2 | go_simp)
          replace km3 : w9.cell? ⟨w.heap.size, 3, none⟩ = some (.int .i64 m4) := cell_later hb (by first | with_reducible exact km3 | go_simp)
          replace km4 : w9.cell? ⟨w.heap.size, 4, none⟩ = some (.int .i64 m5) := cell_later hb (by first | with_reducible exact km4 | go_simp)
          replace km5 : w9.cell? ⟨w.heap.size, 5, none⟩ = some (.int .i64 m6) := cell_later hb (by first | with_reducible exact km5 | go_simp)
          replace km6 : w9.cell? ⟨w.heap.size, 6, none⟩ = some (.int .i64 m7) := cell_later hb (by first | with_reducible exact km6 | go_simp)
          replace kp0 : w9.cell? ⟨w.heap.size + 1, 0, none⟩ = some (.int .i64 p1) := cell_later hb (by first | with_reducible exact kp0 | go_simp)
          replace kp1 : w9.cell? ⟨w.heap.size + 1, 1, none⟩ = some (.int .i64 p2) := cell_later hb (by first | with_reducible exact kp1 | go_simp)
          replace kb0 : w9.cell? ⟨w.heap.size + 1 + 1, 0, none⟩ = some (.int .i64 b1) := cell_later hb (by first | with_reducible exact kb0 | go_simp)
          replace kb1 : w9.cell? ⟨w.heap.size + 1 + 1, 1, none⟩ = some (.int .i64 b2) := cell_later hb (by first | with_reducible exact kb1 | go_simp)
          replace kb2 : w9.cell? ⟨w.heap.size + 1 + 1, 2, none⟩ = some (.int .i64 b3) := cell_later hb (by first | with_reducible exact kb2 | go_simp)
          replace kb3 : w9.cell? ⟨w.heap.size + 1 + 1, 3, none⟩ = some (.int .i64 b4) := cell_later hb (by first | with_reducible exact kb3 | go_simp)
          replace kc0 : w9.cell? ⟨w.heap.size + 1 + 1 + 1, 0, none⟩ = some (.int .i64 c1) := cell_later hb (by first | with_reducible exact kc0 | go_simp)
          replace kc1 : w9.cell? ⟨w.heap.size + 1 + 1 + 1, 1, none⟩ = some (.int .i64 c2) := cell_later hb (by first | with_reducible exact kc1 | go_simp)
          replace kc2 : w9.cell? ⟨w.heap.size + 1 + 1 + 1, 2, none⟩ = some (.int .i64 c3) := cell_later hb (by first | with_reducible exact kc2 | go_simp)
          replace kc3 : w9.cell? ⟨w.heap.size + 1 + 1 + 1, 3, none⟩ = some (.int .i64 c4) := cell_later hb (by first | with_reducible exact kc3 | go_simp)
          replace kx0 : w9.cell? ⟨w2.heap.size, 0, none⟩ = some (.int .i64 j1) := cell_later hb (by first | with_reducible exact kx0 | go_simp)
          replace jx0 : w9.frozen? ⟨w2.heap.size, 0, none⟩ = false := by rw [(bcell hb).2 _ _ (by first | omega | (simp <;> omega))]; first | (with_reducible exact jx0) | go_simp
          replace kx1 : w9.cell? ⟨w2.heap.size, 1, none⟩ = some (.int .i64 j2) := cell_later hb (by first | with_reducible exact kx1 | go_simp)
          replace jx1 : w9.frozen? ⟨w2.heap.size, 1, none⟩ = false := by rw [(bcell hb).2 _ _ (by first | omega | (simp <;> omega))]; first | (with_reducible exact jx1) | go_simp
          replace kx2 : w9.cell? ⟨w2.heap.size, 2, none⟩ = some (.int .i64 j3) := cell_later hb (by first | with_reducible exact kx2 | go_simp)
          replace jx2 : w9.frozen? ⟨w2.heap.size, 2, none⟩ = false := by rw [(bcell hb).2 _ _ (by first | omega | (simp <;> omega))]; first | (with_reducible exact jx2) | go_simp
          replace kx3 : w9.cell? ⟨w2.heap.size, 3, none⟩ = some (.int .i64 j4) := cell_later hb (by first | with_reducible exact kx3 | go_simp)
          replace jx3 : w9.frozen? ⟨w2.heap.size, 3, none⟩ = false := by rw [(bcell hb).2 _ _ (by first | omega | (simp <;> omega))]; first | (with_reducible exact jx3) | go_simp
          replace zy : gy < w9.heap.size := World.block_lt_of_cell? _ _ ky0
          have zy_w9 := zy
          replace zm : w.heap.size < w9.heap.size := World.block_lt_of_cell? _ _ km0
          have zm_w9 := zm
          replace zp : w.heap.size + 1 < w9.heap.size := World.block_lt_of_cell? _ _ kp0
          have zp_w9 := zp
          replace zb : w.heap.size + 1 + 1 < w9.heap.size := World.block_lt_of_cell? _ _ kb0
          have zb_w9 := zb
          replace zc : w.heap.size + 1 + 1 + 1 < w9.heap.size := World.block_lt_of_cell? _ _ kc0
          have zc_w9 := zc
          replace zx : w2.heap.size < w9.heap.size := World.block_lt_of_cell? _ _ kx0
          have zx_w9 := zx
          replace hb0 : Below w.heap.size w w9 := (by repeat (first | with_reducible exact Below.refl _ _ | with_reducible assumption | with_reducible refine Below.setCell ?_ (by first | omega | (simp <;> omega)) _ | with_reducible refine balloc ?_ _ | with_reducible refine Below.drew ?_ | with_reducible refine bstep ?_ (by with_reducible assumption)))
          have hs_w9 := hb.size; (try simp only [World.size_alloc, World.size_setCell] at hs_w9)
          clear hb
          go_wp2
          all_goals first | (exfalso; omega) | (go_ret; refine ret_bool ?_ (by repeat (first | with_reducible exact Below.refl _ _ | with_reducible assumption | with_reducible refine Below.setCell ?_ (by first | omega | (simp <;> omega)) _ | with_reducible refine balloc ?_ _ | with_reducible refine Below.drew ?_ | with_reducible refine bstep ?_ (by with_reducible assumption))); first | (simp; done) | (simp <;> omega) | (simp [*]; done))


end Go.Proofs.Ytlkjpackjjncaaa.Da
