/- LawBoxes: the law SpanBoxes. -/
import Derived.Test.YtendnhmobhicmaaHeadA
import Derived.Test.YtendnhmobhicmaaRows
import Derived.WalkKit
import Derived.WalkSpells
import Derived.WalkLawsBesides
import Derived.Lib.Hide
import Derived.Deep.QuietTactic
import Derived.BigQuiet
import Derived.RegionTactic
import Derived.ChangeAlike
import Derived.BigRegion
import Derived.Deep.RegionHeld3
import Derived.Deep.RegionWith
import Derived.Outline
import Derived.Deep.DeepCutAuto
namespace Go.Proofs.Ytendnhmobhicmaa
open Go.RowKit
set_option linter.unusedSimpArgs false
set_option linter.unusedVariables false

set_option maxRecDepth 100000 in
set_option maxHeartbeats 12800000 in
theorem boxes_law (a1 a2 a3 a4 b1 b2 b3 b4 p1 p2 : Int) (w : World)  : Calls Try.prog 9 #[(.agg #[(.int .i64 a1), (.int .i64 a2), (.int .i64 a3), (.int .i64 a4)]), (.agg #[(.int .i64 b1), (.int .i64 b2), (.int .i64 b3), (.int .i64 b4)]), (.agg #[(.int .i64 p1), (.int .i64 p2)])] w (Ret w (.bool true)) := by
  have C1 := fun w => InBox_c p1 p2 a1 a2 a3 a4 w
  have C2 := fun w => InBox_c p1 p2 b1 b2 b3 b4 w
  have C3 := fun w => MeetBox_c a1 a2 a3 a4 b1 b2 b3 b4 w
  have C4 := fun w => JoinBox_c a1 a2 a3 a4 b1 b2 b3 b4 w
  have C5 := fun w => WithinBox_c a1 a2 a3 a4 b1 b2 b3 b4 w
  rcases Bool.eq_false_or_eq_true (vB p1 p1 p2 p2) with h0 | h0
  ·
    rcases Bool.eq_false_or_eq_true (vB a1 a2 a3 a4) with h1 | h1
    ·
      rcases Bool.eq_false_or_eq_true (vB b1 b2 b3 b4) with h2 | h2
      ·
        have vi1 : vInBox p1 p2 a1 a2 a3 a4 = true := by unfold vInBox; rw [h0, h1]; rfl
        have vi2 : vInBox p1 p2 b1 b2 b3 b4 = true := by unfold vInBox; rw [h0, h2]; rfl
        have v3 : vMeetBox a1 a2 a3 a4 b1 b2 b3 b4 = true := by unfold vMeetBox; rw [h1, h2]; rfl
        have v4 : vJoinBox a1 a2 a3 a4 b1 b2 b3 b4 = true := by unfold vJoinBox; rw [h1, h2]; rfl
        have v5 : vWithinBox a1 a2 a3 a4 b1 b2 b3 b4 = true := by unfold vWithinBox; rw [h1, h2]; rfl
        have i0 := vB_iff.1 h0
        have i1 := vB_iff.1 h1
        have i2 := vB_iff.1 h2
        obtain ⟨X, hX⟩ : ∃ q, (wI p1 p1 a1 a2 && wI p2 p2 a3 a4) = q := ⟨_, rfl⟩
        obtain ⟨Y, hY⟩ : ∃ q, (wI p1 p1 b1 b2 && wI p2 p2 b3 b4) = q := ⟨_, rfl⟩
        obtain ⟨Z, hZ⟩ : ∃ q, (wI a1 a2 b1 b2 && wI a3 a4 b3 b4) = q := ⟨_, rfl⟩
        obtain ⟨j1, hj1⟩ : ∃ q, min a1 b1 = q := ⟨_, rfl⟩
        obtain ⟨j2, hj2⟩ : ∃ q, max a2 b2 = q := ⟨_, rfl⟩
        obtain ⟨j3, hj3⟩ : ∃ q, min a3 b3 = q := ⟨_, rfl⟩
        obtain ⟨j4, hj4⟩ : ∃ q, max a4 b4 = q := ⟨_, rfl⟩
        obtain ⟨m1, hm1⟩ : ∃ q, max a1 b1 = q := ⟨_, rfl⟩
        obtain ⟨m2, hm2⟩ : ∃ q, min a2 b2 = q := ⟨_, rfl⟩
        obtain ⟨m3, hm3⟩ : ∃ q, max a3 b3 = q := ⟨_, rfl⟩
        obtain ⟨m4, hm4⟩ : ∃ q, min a4 b4 = q := ⟨_, rfl⟩
        simp only [vi1, selI, selB, erv, cond_true, cond_false, Bool.and_true, Bool.and_false, Bool.true_and, Bool.false_and] at C1
        rw [hX] at C1
        simp only [vi2, selI, selB, erv, cond_true, cond_false, Bool.and_true, Bool.and_false, Bool.true_and, Bool.false_and] at C2
        rw [hY] at C2
        simp only [v4, selI, selB, erv, cond_true, cond_false, Bool.and_true, Bool.and_false, Bool.true_and, Bool.false_and] at C4
        rw [hj1, hj2, hj3, hj4] at C4
        simp only [v5, selI, selB, erv, cond_true, cond_false, Bool.and_true, Bool.and_false, Bool.true_and, Bool.false_and] at C5
        rw [hZ] at C5
        have h6 : vB j1 j2 j3 j4 = true := by rw [vB_iff]; omega
        have v6 : vInBox p1 p2 j1 j2 j3 j4 = true := by unfold vInBox; rw [h0, h6]; rfl
        obtain ⟨J, hJ⟩ : ∃ q, (wI p1 p1 j1 j2 && wI p2 p2 j3 j4) = q := ⟨_, rfl⟩
        have C6 := fun w => InBox_c p1 p2 j1 j2 j3 j4 w
        simp only [v6, selI, selB, erv, cond_true, cond_false, Bool.and_true, Bool.and_false, Bool.true_and, Bool.false_and] at C6
        rw [hJ] at C6
        have xX : X = true ↔ (a1 ≤ p1 ∧ p1 ≤ a2) ∧ (a3 ≤ p2 ∧ p2 ≤ a4) := by rw [← hX, Bool.and_eq_true, wI_iff, wI_iff]
        have xY : Y = true ↔ (b1 ≤ p1 ∧ p1 ≤ b2) ∧ (b3 ≤ p2 ∧ p2 ≤ b4) := by rw [← hY, Bool.and_eq_true, wI_iff, wI_iff]
        have xZ : Z = true ↔ (b1 ≤ a1 ∧ a2 ≤ b2) ∧ (b3 ≤ a3 ∧ a4 ≤ b4) := by rw [← hZ, Bool.and_eq_true, wI_iff, wI_iff]
        have xJ : J = true ↔ (j1 ≤ p1 ∧ p1 ≤ j2) ∧ (j3 ≤ p2 ∧ p2 ≤ j4) := by rw [← hJ, Bool.and_eq_true, wI_iff, wI_iff]
        have kJ : (!X && !Y || J) = true := by
          have q1 : X = true → J = true := by rw [xX, xJ]; omega
          have q2 : Y = true → J = true := by rw [xY, xJ]; omega
          clear C1 C2 C3 C4 C5 C6 xX xY xZ xJ hX hY hZ hJ
          cases X <;> cases Y <;> cases J <;> first | rfl | (exfalso; simp at q1 q2)
        have kZ : (!Z || !X || Y) = true := by
          have q1 : Z = true → X = true → Y = true := by rw [xX, xY, xZ]; omega
          clear C1 C2 C3 C4 C5 C6 xX xY xZ xJ hX hY hZ hJ
          cases X <;> cases Y <;> cases Z <;> first | rfl | (exfalso; simp at q1)
        clear vi1 vi2 v4 v5 v6 hZ hJ xZ xJ
        rcases Bool.eq_false_or_eq_true (rM a1 a2 b1 b2 && rM a3 a4 b3 b4) with hr | hr
        ·
          have q3 : rMeetBox a1 a2 a3 a4 b1 b2 b3 b4 = true := hr
          simp only [v3, q3, selI, selB, erv, cond_true, cond_false, Bool.and_true, Bool.and_false, Bool.true_and, Bool.false_and] at C3
          rw [hm1, hm2, hm3, hm4] at C3
          rw [Bool.and_eq_true, rM_iff, rM_iff, hm1, hm2, hm3, hm4] at hr
          have h7 : vB m1 m2 m3 m4 = true := by rw [vB_iff]; omega
          have v7 : vInBox p1 p2 m1 m2 m3 m4 = true := by unfold vInBox; rw [h0, h7]; rfl
          obtain ⟨K, hK⟩ : ∃ q, (wI p1 p1 m1 m2 && wI p2 p2 m3 m4) = q := ⟨_, rfl⟩
          have C7 := fun w => InBox_c p1 p2 m1 m2 m3 m4 w
          simp only [v7, selI, selB, erv, cond_true, cond_false, Bool.and_true, Bool.and_false, Bool.true_and, Bool.false_and] at C7
          rw [hK] at C7
          have kK : K = (X && Y) := by rw [← hK, Bool.eq_iff_iff, Bool.and_eq_true, Bool.and_eq_true, wI_iff, wI_iff, xX, xY]; omega
          clear v7 hK
          clear v3 q3 xX xY hX hY hr i0 i1 i2 hj1 hj2 hj3 hj4 hm1 hm2 hm3 hm4
          go_enter Try.func9, Try.ntmps9
          go_wp2_with fail
          refine Calls.mono (head_c _) ?_
          rintro e w1 ⟨rfl, hb⟩
          have ka0 : w1.cell? ⟨w.heap.size, 0, none⟩ = some (.int .i64 a1) := cell_later hb (by go_simp)
          have ka1 : w1.cell? ⟨w.heap.size, 1, none⟩ = some (.int .i64 a2) := cell_later hb (by go_simp)
          have ka2 : w1.cell? ⟨w.heap.size, 2, none⟩ = some (.int .i64 a3) := cell_later hb (by go_simp)
          have ka3 : w1.cell? ⟨w.heap.size, 3, none⟩ = some (.int .i64 a4) := cell_later hb (by go_simp)
          have kb0 : w1.cell? ⟨w.heap.size + 1, 0, none⟩ = some (.int .i64 b1) := cell_later hb (by go_simp)
          have kb1 : w1.cell? ⟨w.heap.size + 1, 1, none⟩ = some (.int .i64 b2) := cell_later hb (by go_simp)
          have kb2 : w1.cell? ⟨w.heap.size + 1, 2, none⟩ = some (.int .i64 b3) := cell_later hb (by go_simp)
          have kb3 : w1.cell? ⟨w.heap.size + 1, 3, none⟩ = some (.int .i64 b4) := cell_later hb (by go_simp)
          have kp0 : w1.cell? ⟨w.heap.size + 1 + 1, 0, none⟩ = some (.int .i64 p1) := cell_later hb (by go_simp)
          have kp1 : w1.cell? ⟨w.heap.size + 1 + 1, 1, none⟩ = some (.int .i64 p2) := cell_later hb (by go_simp)
          have za : w.heap.size < w1.heap.size := World.block_lt_of_cell? _ _ ka0
          have zb : w.heap.size + 1 < w1.heap.size := World.block_lt_of_cell? _ _ kb0
          have zp : w.heap.size + 1 + 1 < w1.heap.size := World.block_lt_of_cell? _ _ kp0
          have hb0 : Below w.heap.size w w1 := (by repeat (first | exact Below.refl _ _ | assumption | refine bstep ?_ (by assumption) | refine Below.drew ?_ | refine balloc ?_ _ | refine Below.setCell ?_ (by first | omega | (simp <;> omega)) _))
          clear hb
          go_wp2_with fail
          refine Calls.mono (C1 _) ?_
          rintro e w2 ⟨rfl, hb⟩
          replace ka0 : w2.cell? ⟨w.heap.size, 0, none⟩ = some (.int .i64 a1) := cell_later hb (by first | (with_reducible exact ka0) | (with_reducible exact cell_al _ ka0) | (with_reducible exact cell_al _ (cell_al _ ka0)) | go_simp)
          replace ka1 : w2.cell? ⟨w.heap.size, 1, none⟩ = some (.int .i64 a2) := cell_later hb (by first | (with_reducible exact ka1) | (with_reducible exact cell_al _ ka1) | (with_reducible exact cell_al _ (cell_al _ ka1)) | go_simp)
          replace ka2 : w2.cell? ⟨w.heap.size, 2, none⟩ = some (.int .i64 a3) := cell_later hb (by first | (with_reducible exact ka2) | (with_reducible exact cell_al _ ka2) | (with_reducible exact cell_al _ (cell_al _ ka2)) | go_simp)
          replace ka3 : w2.cell? ⟨w.heap.size, 3, none⟩ = some (.int .i64 a4) := cell_later hb (by first | (with_reducible exact ka3) | (with_reducible exact cell_al _ ka3) | (with_reducible exact cell_al _ (cell_al _ ka3)) | go_simp)
          replace kb0 : w2.cell? ⟨w.heap.size + 1, 0, none⟩ = some (.int .i64 b1) := cell_later hb (by first | (with_reducible exact kb0) | (with_reducible exact cell_al _ kb0) | (with_reducible exact cell_al _ (cell_al _ kb0)) | go_simp)
          replace kb1 : w2.cell? ⟨w.heap.size + 1, 1, none⟩ = some (.int .i64 b2) := cell_later hb (by first | (with_reducible exact kb1) | (with_reducible exact cell_al _ kb1) | (with_reducible exact cell_al _ (cell_al _ kb1)) | go_simp)
          replace kb2 : w2.cell? ⟨w.heap.size + 1, 2, none⟩ = some (.int .i64 b3) := cell_later hb (by first | (with_reducible exact kb2) | (with_reducible exact cell_al _ kb2) | (with_reducible exact cell_al _ (cell_al _ kb2)) | go_simp)
          replace kb3 : w2.cell? ⟨w.heap.size + 1, 3, none⟩ = some (.int .i64 b4) := cell_later hb (by first | (with_reducible exact kb3) | (with_reducible exact cell_al _ kb3) | (with_reducible exact cell_al _ (cell_al _ kb3)) | go_simp)
          replace kp0 : w2.cell? ⟨w.heap.size + 1 + 1, 0, none⟩ = some (.int .i64 p1) := cell_later hb (by first | (with_reducible exact kp0) | (with_reducible exact cell_al _ kp0) | (with_reducible exact cell_al _ (cell_al _ kp0)) | go_simp)
          replace kp1 : w2.cell? ⟨w.heap.size + 1 + 1, 1, none⟩ = some (.int .i64 p2) := cell_later hb (by first | (with_reducible exact kp1) | (with_reducible exact cell_al _ kp1) | (with_reducible exact cell_al _ (cell_al _ kp1)) | go_simp)
          replace za : w.heap.size < w2.heap.size := World.block_lt_of_cell? _ _ ka0
          replace zb : w.heap.size + 1 < w2.heap.size := World.block_lt_of_cell? _ _ kb0
          replace zp : w.heap.size + 1 + 1 < w2.heap.size := World.block_lt_of_cell? _ _ kp0
          replace hb0 : Below w.heap.size w w2 := (by repeat (first | exact Below.refl _ _ | assumption | refine bstep ?_ (by assumption) | refine Below.drew ?_ | refine balloc ?_ _ | refine Below.setCell ?_ (by first | omega | (simp <;> omega)) _))
          clear hb
          go_wp2_with fail
          refine Calls.mono (C2 _) ?_
          rintro e w3 ⟨rfl, hb⟩
          replace ka0 : w3.cell? ⟨w.heap.size, 0, none⟩ = some (.int .i64 a1) := cell_later hb (by first | (with_reducible exact ka0) | (with_reducible exact cell_al _ ka0) | (with_reducible exact cell_al _ (cell_al _ ka0)) | go_simp)
          replace ka1 : w3.cell? ⟨w.heap.size, 1, none⟩ = some (.int .i64 a2) := cell_later hb (by first | (with_reducible exact ka1) | (with_reducible exact cell_al _ ka1) | (with_reducible exact cell_al _ (cell_al _ ka1)) | go_simp)
          replace ka2 : w3.cell? ⟨w.heap.size, 2, none⟩ = some (.int .i64 a3) := cell_later hb (by first | (with_reducible exact ka2) | (with_reducible exact cell_al _ ka2) | (with_reducible exact cell_al _ (cell_al _ ka2)) | go_simp)
          replace ka3 : w3.cell? ⟨w.heap.size, 3, none⟩ = some (.int .i64 a4) := cell_later hb (by first | (with_reducible exact ka3) | (with_reducible exact cell_al _ ka3) | (with_reducible exact cell_al _ (cell_al _ ka3)) | go_simp)
          replace kb0 : w3.cell? ⟨w.heap.size + 1, 0, none⟩ = some (.int .i64 b1) := cell_later hb (by first | (with_reducible exact kb0) | (with_reducible exact cell_al _ kb0) | (with_reducible exact cell_al _ (cell_al _ kb0)) | go_simp)
          replace kb1 : w3.cell? ⟨w.heap.size + 1, 1, none⟩ = some (.int .i64 b2) := cell_later hb (by first | (with_reducible exact kb1) | (with_reducible exact cell_al _ kb1) | (with_reducible exact cell_al _ (cell_al _ kb1)) | go_simp)
          replace kb2 : w3.cell? ⟨w.heap.size + 1, 2, none⟩ = some (.int .i64 b3) := cell_later hb (by first | (with_reducible exact kb2) | (with_reducible exact cell_al _ kb2) | (with_reducible exact cell_al _ (cell_al _ kb2)) | go_simp)
          replace kb3 : w3.cell? ⟨w.heap.size + 1, 3, none⟩ = some (.int .i64 b4) := cell_later hb (by first | (with_reducible exact kb3) | (with_reducible exact cell_al _ kb3) | (with_reducible exact cell_al _ (cell_al _ kb3)) | go_simp)
          replace kp0 : w3.cell? ⟨w.heap.size + 1 + 1, 0, none⟩ = some (.int .i64 p1) := cell_later hb (by first | (with_reducible exact kp0) | (with_reducible exact cell_al _ kp0) | (with_reducible exact cell_al _ (cell_al _ kp0)) | go_simp)
          replace kp1 : w3.cell? ⟨w.heap.size + 1 + 1, 1, none⟩ = some (.int .i64 p2) := cell_later hb (by first | (with_reducible exact kp1) | (with_reducible exact cell_al _ kp1) | (with_reducible exact cell_al _ (cell_al _ kp1)) | go_simp)
          replace za : w.heap.size < w3.heap.size := World.block_lt_of_cell? _ _ ka0
          replace zb : w.heap.size + 1 < w3.heap.size := World.block_lt_of_cell? _ _ kb0
          replace zp : w.heap.size + 1 + 1 < w3.heap.size := World.block_lt_of_cell? _ _ kp0
          replace hb0 : Below w.heap.size w w3 := (by repeat (first | exact Below.refl _ _ | assumption | refine bstep ?_ (by assumption) | refine Below.drew ?_ | refine balloc ?_ _ | refine Below.setCell ?_ (by first | omega | (simp <;> omega)) _))
          clear hb
          go_wp2_with fail
          refine Calls.mono (C3 _) ?_
          rintro e w4 ⟨rfl, hb⟩
          replace ka0 : w4.cell? ⟨w.heap.size, 0, none⟩ = some (.int .i64 a1) := cell_later hb (by first | (with_reducible exact ka0) | (with_reducible exact cell_al _ ka0) | (with_reducible exact cell_al _ (cell_al _ ka0)) | go_simp)
          replace ka1 : w4.cell? ⟨w.heap.size, 1, none⟩ = some (.int .i64 a2) := cell_later hb (by first | (with_reducible exact ka1) | (with_reducible exact cell_al _ ka1) | (with_reducible exact cell_al _ (cell_al _ ka1)) | go_simp)
          replace ka2 : w4.cell? ⟨w.heap.size, 2, none⟩ = some (.int .i64 a3) := cell_later hb (by first | (with_reducible exact ka2) | (with_reducible exact cell_al _ ka2) | (with_reducible exact cell_al _ (cell_al _ ka2)) | go_simp)
          replace ka3 : w4.cell? ⟨w.heap.size, 3, none⟩ = some (.int .i64 a4) := cell_later hb (by first | (with_reducible exact ka3) | (with_reducible exact cell_al _ ka3) | (with_reducible exact cell_al _ (cell_al _ ka3)) | go_simp)
          replace kb0 : w4.cell? ⟨w.heap.size + 1, 0, none⟩ = some (.int .i64 b1) := cell_later hb (by first | (with_reducible exact kb0) | (with_reducible exact cell_al _ kb0) | (with_reducible exact cell_al _ (cell_al _ kb0)) | go_simp)
          replace kb1 : w4.cell? ⟨w.heap.size + 1, 1, none⟩ = some (.int .i64 b2) := cell_later hb (by first | (with_reducible exact kb1) | (with_reducible exact cell_al _ kb1) | (with_reducible exact cell_al _ (cell_al _ kb1)) | go_simp)
          replace kb2 : w4.cell? ⟨w.heap.size + 1, 2, none⟩ = some (.int .i64 b3) := cell_later hb (by first | (with_reducible exact kb2) | (with_reducible exact cell_al _ kb2) | (with_reducible exact cell_al _ (cell_al _ kb2)) | go_simp)
          replace kb3 : w4.cell? ⟨w.heap.size + 1, 3, none⟩ = some (.int .i64 b4) := cell_later hb (by first | (with_reducible exact kb3) | (with_reducible exact cell_al _ kb3) | (with_reducible exact cell_al _ (cell_al _ kb3)) | go_simp)
          replace kp0 : w4.cell? ⟨w.heap.size + 1 + 1, 0, none⟩ = some (.int .i64 p1) := cell_later hb (by first | (with_reducible exact kp0) | (with_reducible exact cell_al _ kp0) | (with_reducible exact cell_al _ (cell_al _ kp0)) | go_simp)
          replace kp1 : w4.cell? ⟨w.heap.size + 1 + 1, 1, none⟩ = some (.int .i64 p2) := cell_later hb (by first | (with_reducible exact kp1) | (with_reducible exact cell_al _ kp1) | (with_reducible exact cell_al _ (cell_al _ kp1)) | go_simp)
          replace za : w.heap.size < w4.heap.size := World.block_lt_of_cell? _ _ ka0
          replace zb : w.heap.size + 1 < w4.heap.size := World.block_lt_of_cell? _ _ kb0
          replace zp : w.heap.size + 1 + 1 < w4.heap.size := World.block_lt_of_cell? _ _ kp0
          replace hb0 : Below w.heap.size w w4 := (by repeat (first | exact Below.refl _ _ | assumption | refine bstep ?_ (by assumption) | refine Below.drew ?_ | refine balloc ?_ _ | refine Below.setCell ?_ (by first | omega | (simp <;> omega)) _))
          clear hb
          go_wp2_with fail
          refine Calls.mono (C4 _) ?_
          rintro e w5 ⟨rfl, hb⟩
          replace ka0 : w5.cell? ⟨w.heap.size, 0, none⟩ = some (.int .i64 a1) := cell_later hb (by first | (with_reducible exact ka0) | (with_reducible exact cell_al _ ka0) | (with_reducible exact cell_al _ (cell_al _ ka0)) | go_simp)
          replace ka1 : w5.cell? ⟨w.heap.size, 1, none⟩ = some (.int .i64 a2) := cell_later hb (by first | (with_reducible exact ka1) | (with_reducible exact cell_al _ ka1) | (with_reducible exact cell_al _ (cell_al _ ka1)) | go_simp)
          replace ka2 : w5.cell? ⟨w.heap.size, 2, none⟩ = some (.int .i64 a3) := cell_later hb (by first | (with_reducible exact ka2) | (with_reducible exact cell_al _ ka2) | (with_reducible exact cell_al _ (cell_al _ ka2)) | go_simp)
          replace ka3 : w5.cell? ⟨w.heap.size, 3, none⟩ = some (.int .i64 a4) := cell_later hb (by first | (with_reducible exact ka3) | (with_reducible exact cell_al _ ka3) | (with_reducible exact cell_al _ (cell_al _ ka3)) | go_simp)
          replace kb0 : w5.cell? ⟨w.heap.size + 1, 0, none⟩ = some (.int .i64 b1) := cell_later hb (by first | (with_reducible exact kb0) | (with_reducible exact cell_al _ kb0) | (with_reducible exact cell_al _ (cell_al _ kb0)) | go_simp)
          replace kb1 : w5.cell? ⟨w.heap.size + 1, 1, none⟩ = some (.int .i64 b2) := cell_later hb (by first | (with_reducible exact kb1) | (with_reducible exact cell_al _ kb1) | (with_reducible exact cell_al _ (cell_al _ kb1)) | go_simp)
          replace kb2 : w5.cell? ⟨w.heap.size + 1, 2, none⟩ = some (.int .i64 b3) := cell_later hb (by first | (with_reducible exact kb2) | (with_reducible exact cell_al _ kb2) | (with_reducible exact cell_al _ (cell_al _ kb2)) | go_simp)
          replace kb3 : w5.cell? ⟨w.heap.size + 1, 3, none⟩ = some (.int .i64 b4) := cell_later hb (by first | (with_reducible exact kb3) | (with_reducible exact cell_al _ kb3) | (with_reducible exact cell_al _ (cell_al _ kb3)) | go_simp)
          replace kp0 : w5.cell? ⟨w.heap.size + 1 + 1, 0, none⟩ = some (.int .i64 p1) := cell_later hb (by first | (with_reducible exact kp0) | (with_reducible exact cell_al _ kp0) | (with_reducible exact cell_al _ (cell_al _ kp0)) | go_simp)
          replace kp1 : w5.cell? ⟨w.heap.size + 1 + 1, 1, none⟩ = some (.int .i64 p2) := cell_later hb (by first | (with_reducible exact kp1) | (with_reducible exact cell_al _ kp1) | (with_reducible exact cell_al _ (cell_al _ kp1)) | go_simp)
          have km0 : w5.cell? ⟨w4.heap.size, 0, none⟩ = some (.int .i64 m1) := cell_later hb (by go_simp)
          have km1 : w5.cell? ⟨w4.heap.size, 1, none⟩ = some (.int .i64 m2) := cell_later hb (by go_simp)
          have km2 : w5.cell? ⟨w4.heap.size, 2, none⟩ = some (.int .i64 m3) := cell_later hb (by go_simp)
          have km3 : w5.cell? ⟨w4.heap.size, 3, none⟩ = some (.int .i64 m4) := cell_later hb (by go_simp)
          replace za : w.heap.size < w5.heap.size := World.block_lt_of_cell? _ _ ka0
          replace zb : w.heap.size + 1 < w5.heap.size := World.block_lt_of_cell? _ _ kb0
          replace zp : w.heap.size + 1 + 1 < w5.heap.size := World.block_lt_of_cell? _ _ kp0
          have zm : w4.heap.size < w5.heap.size := World.block_lt_of_cell? _ _ km0
          replace hb0 : Below w.heap.size w w5 := (by repeat (first | exact Below.refl _ _ | assumption | refine bstep ?_ (by assumption) | refine Below.drew ?_ | refine balloc ?_ _ | refine Below.setCell ?_ (by first | omega | (simp <;> omega)) _))
          clear hb
          go_wp2_with fail
          refine Calls.mono (C5 _) ?_
          rintro e w6 ⟨rfl, hb⟩
          replace ka0 : w6.cell? ⟨w.heap.size, 0, none⟩ = some (.int .i64 a1) := cell_later hb (by first | (with_reducible exact ka0) | (with_reducible exact cell_al _ ka0) | (with_reducible exact cell_al _ (cell_al _ ka0)) | go_simp)
          replace ka1 : w6.cell? ⟨w.heap.size, 1, none⟩ = some (.int .i64 a2) := cell_later hb (by first | (with_reducible exact ka1) | (with_reducible exact cell_al _ ka1) | (with_reducible exact cell_al _ (cell_al _ ka1)) | go_simp)
          replace ka2 : w6.cell? ⟨w.heap.size, 2, none⟩ = some (.int .i64 a3) := cell_later hb (by first | (with_reducible exact ka2) | (with_reducible exact cell_al _ ka2) | (with_reducible exact cell_al _ (cell_al _ ka2)) | go_simp)
          replace ka3 : w6.cell? ⟨w.heap.size, 3, none⟩ = some (.int .i64 a4) := cell_later hb (by first | (with_reducible exact ka3) | (with_reducible exact cell_al _ ka3) | (with_reducible exact cell_al _ (cell_al _ ka3)) | go_simp)
          replace kb0 : w6.cell? ⟨w.heap.size + 1, 0, none⟩ = some (.int .i64 b1) := cell_later hb (by first | (with_reducible exact kb0) | (with_reducible exact cell_al _ kb0) | (with_reducible exact cell_al _ (cell_al _ kb0)) | go_simp)
          replace kb1 : w6.cell? ⟨w.heap.size + 1, 1, none⟩ = some (.int .i64 b2) := cell_later hb (by first | (with_reducible exact kb1) | (with_reducible exact cell_al _ kb1) | (with_reducible exact cell_al _ (cell_al _ kb1)) | go_simp)
          replace kb2 : w6.cell? ⟨w.heap.size + 1, 2, none⟩ = some (.int .i64 b3) := cell_later hb (by first | (with_reducible exact kb2) | (with_reducible exact cell_al _ kb2) | (with_reducible exact cell_al _ (cell_al _ kb2)) | go_simp)
          replace kb3 : w6.cell? ⟨w.heap.size + 1, 3, none⟩ = some (.int .i64 b4) := cell_later hb (by first | (with_reducible exact kb3) | (with_reducible exact cell_al _ kb3) | (with_reducible exact cell_al _ (cell_al _ kb3)) | go_simp)
          replace kp0 : w6.cell? ⟨w.heap.size + 1 + 1, 0, none⟩ = some (.int .i64 p1) := cell_later hb (by first | (with_reducible exact kp0) | (with_reducible exact cell_al _ kp0) | (with_reducible exact cell_al _ (cell_al _ kp0)) | go_simp)
          replace kp1 : w6.cell? ⟨w.heap.size + 1 + 1, 1, none⟩ = some (.int .i64 p2) := cell_later hb (by first | (with_reducible exact kp1) | (with_reducible exact cell_al _ kp1) | (with_reducible exact cell_al _ (cell_al _ kp1)) | go_simp)
          replace km0 : w6.cell? ⟨w4.heap.size, 0, none⟩ = some (.int .i64 m1) := cell_later hb (by first | (with_reducible exact km0) | (with_reducible exact cell_al _ km0) | (with_reducible exact cell_al _ (cell_al _ km0)) | go_simp)
          replace km1 : w6.cell? ⟨w4.heap.size, 1, none⟩ = some (.int .i64 m2) := cell_later hb (by first | (with_reducible exact km1) | (with_reducible exact cell_al _ km1) | (with_reducible exact cell_al _ (cell_al _ km1)) | go_simp)
          replace km2 : w6.cell? ⟨w4.heap.size, 2, none⟩ = some (.int .i64 m3) := cell_later hb (by first | (with_reducible exact km2) | (with_reducible exact cell_al _ km2) | (with_reducible exact cell_al _ (cell_al _ km2)) | go_simp)
          replace km3 : w6.cell? ⟨w4.heap.size, 3, none⟩ = some (.int .i64 m4) := cell_later hb (by first | (with_reducible exact km3) | (with_reducible exact cell_al _ km3) | (with_reducible exact cell_al _ (cell_al _ km3)) | go_simp)
          have kj0 : w6.cell? ⟨w5.heap.size, 0, none⟩ = some (.int .i64 j1) := cell_later hb (by go_simp)
          have kj1 : w6.cell? ⟨w5.heap.size, 1, none⟩ = some (.int .i64 j2) := cell_later hb (by go_simp)
          have kj2 : w6.cell? ⟨w5.heap.size, 2, none⟩ = some (.int .i64 j3) := cell_later hb (by go_simp)
          have kj3 : w6.cell? ⟨w5.heap.size, 3, none⟩ = some (.int .i64 j4) := cell_later hb (by go_simp)
          replace za : w.heap.size < w6.heap.size := World.block_lt_of_cell? _ _ ka0
          replace zb : w.heap.size + 1 < w6.heap.size := World.block_lt_of_cell? _ _ kb0
          replace zp : w.heap.size + 1 + 1 < w6.heap.size := World.block_lt_of_cell? _ _ kp0
          replace zm : w4.heap.size < w6.heap.size := World.block_lt_of_cell? _ _ km0
          have zj : w5.heap.size < w6.heap.size := World.block_lt_of_cell? _ _ kj0
          replace hb0 : Below w.heap.size w w6 := (by repeat (first | exact Below.refl _ _ | assumption | refine bstep ?_ (by assumption) | refine Below.drew ?_ | refine balloc ?_ _ | refine Below.setCell ?_ (by first | omega | (simp <;> omega)) _))
          clear hb
          go_wp2_with fail
          refine Calls.mono (C6 _) ?_
          rintro e w7 ⟨rfl, hb⟩
          replace ka0 : w7.cell? ⟨w.heap.size, 0, none⟩ = some (.int .i64 a1) := cell_later hb (by first | (with_reducible exact ka0) | (with_reducible exact cell_al _ ka0) | (with_reducible exact cell_al _ (cell_al _ ka0)) | go_simp)
          replace ka1 : w7.cell? ⟨w.heap.size, 1, none⟩ = some (.int .i64 a2) := cell_later hb (by first | (with_reducible exact ka1) | (with_reducible exact cell_al _ ka1) | (with_reducible exact cell_al _ (cell_al _ ka1)) | go_simp)
          replace ka2 : w7.cell? ⟨w.heap.size, 2, none⟩ = some (.int .i64 a3) := cell_later hb (by first | (with_reducible exact ka2) | (with_reducible exact cell_al _ ka2) | (with_reducible exact cell_al _ (cell_al _ ka2)) | go_simp)
          replace ka3 : w7.cell? ⟨w.heap.size, 3, none⟩ = some (.int .i64 a4) := cell_later hb (by first | (with_reducible exact ka3) | (with_reducible exact cell_al _ ka3) | (with_reducible exact cell_al _ (cell_al _ ka3)) | go_simp)
          replace kb0 : w7.cell? ⟨w.heap.size + 1, 0, none⟩ = some (.int .i64 b1) := cell_later hb (by first | (with_reducible exact kb0) | (with_reducible exact cell_al _ kb0) | (with_reducible exact cell_al _ (cell_al _ kb0)) | go_simp)
          replace kb1 : w7.cell? ⟨w.heap.size + 1, 1, none⟩ = some (.int .i64 b2) := cell_later hb (by first | (with_reducible exact kb1) | (with_reducible exact cell_al _ kb1) | (with_reducible exact cell_al _ (cell_al _ kb1)) | go_simp)
          replace kb2 : w7.cell? ⟨w.heap.size + 1, 2, none⟩ = some (.int .i64 b3) := cell_later hb (by first | (with_reducible exact kb2) | (with_reducible exact cell_al _ kb2) | (with_reducible exact cell_al _ (cell_al _ kb2)) | go_simp)
          replace kb3 : w7.cell? ⟨w.heap.size + 1, 3, none⟩ = some (.int .i64 b4) := cell_later hb (by first | (with_reducible exact kb3) | (with_reducible exact cell_al _ kb3) | (with_reducible exact cell_al _ (cell_al _ kb3)) | go_simp)
          replace kp0 : w7.cell? ⟨w.heap.size + 1 + 1, 0, none⟩ = some (.int .i64 p1) := cell_later hb (by first | (with_reducible exact kp0) | (with_reducible exact cell_al _ kp0) | (with_reducible exact cell_al _ (cell_al _ kp0)) | go_simp)
          replace kp1 : w7.cell? ⟨w.heap.size + 1 + 1, 1, none⟩ = some (.int .i64 p2) := cell_later hb (by first | (with_reducible exact kp1) | (with_reducible exact cell_al _ kp1) | (with_reducible exact cell_al _ (cell_al _ kp1)) | go_simp)
          replace km0 : w7.cell? ⟨w4.heap.size, 0, none⟩ = some (.int .i64 m1) := cell_later hb (by first | (with_reducible exact km0) | (with_reducible exact cell_al _ km0) | (with_reducible exact cell_al _ (cell_al _ km0)) | go_simp)
          replace km1 : w7.cell? ⟨w4.heap.size, 1, none⟩ = some (.int .i64 m2) := cell_later hb (by first | (with_reducible exact km1) | (with_reducible exact cell_al _ km1) | (with_reducible exact cell_al _ (cell_al _ km1)) | go_simp)
          replace km2 : w7.cell? ⟨w4.heap.size, 2, none⟩ = some (.int .i64 m3) := cell_later hb (by first | (with_reducible exact km2) | (with_reducible exact cell_al _ km2) | (with_reducible exact cell_al _ (cell_al _ km2)) | go_simp)
          replace km3 : w7.cell? ⟨w4.heap.size, 3, none⟩ = some (.int .i64 m4) := cell_later hb (by first | (with_reducible exact km3) | (with_reducible exact cell_al _ km3) | (with_reducible exact cell_al _ (cell_al _ km3)) | go_simp)
          replace kj0 : w7.cell? ⟨w5.heap.size, 0, none⟩ = some (.int .i64 j1) := cell_later hb (by first | (with_reducible exact kj0) | (with_reducible exact cell_al _ kj0) | (with_reducible exact cell_al _ (cell_al _ kj0)) | go_simp)
          replace kj1 : w7.cell? ⟨w5.heap.size, 1, none⟩ = some (.int .i64 j2) := cell_later hb (by first | (with_reducible exact kj1) | (with_reducible exact cell_al _ kj1) | (with_reducible exact cell_al _ (cell_al _ kj1)) | go_simp)
          replace kj2 : w7.cell? ⟨w5.heap.size, 2, none⟩ = some (.int .i64 j3) := cell_later hb (by first | (with_reducible exact kj2) | (with_reducible exact cell_al _ kj2) | (with_reducible exact cell_al _ (cell_al _ kj2)) | go_simp)
          replace kj3 : w7.cell? ⟨w5.heap.size, 3, none⟩ = some (.int .i64 j4) := cell_later hb (by first | (with_reducible exact kj3) | (with_reducible exact cell_al _ kj3) | (with_reducible exact cell_al _ (cell_al _ kj3)) | go_simp)
          replace za : w.heap.size < w7.heap.size := World.block_lt_of_cell? _ _ ka0
          replace zb : w.heap.size + 1 < w7.heap.size := World.block_lt_of_cell? _ _ kb0
          replace zp : w.heap.size + 1 + 1 < w7.heap.size := World.block_lt_of_cell? _ _ kp0
          replace zm : w4.heap.size < w7.heap.size := World.block_lt_of_cell? _ _ km0
          replace zj : w5.heap.size < w7.heap.size := World.block_lt_of_cell? _ _ kj0
          replace hb0 : Below w.heap.size w w7 := (by repeat (first | exact Below.refl _ _ | assumption | refine bstep ?_ (by assumption) | refine Below.drew ?_ | refine balloc ?_ _ | refine Below.setCell ?_ (by first | omega | (simp <;> omega)) _))
          clear hb
          clear C1 C2 C3 C4 C5 C6
          cases X <;> cases Y <;> cases Z <;> cases J
          all_goals first | (exact absurd kJ (by decide)) | (exact absurd kZ (by decide)) | (exact absurd kK (by decide)) | skip
          all_goals
            simp only [Bool.and_true, Bool.and_false, Bool.true_and, Bool.false_and] at kK
            subst kK
            go_wp2_with fail
            refine Calls.mono (C7 _) ?_
            rintro e w8 ⟨rfl, hb⟩
            replace ka0 : w8.cell? ⟨w.heap.size, 0, none⟩ = some (.int .i64 a1) := cell_later hb (by first | (with_reducible exact ka0) | (with_reducible exact cell_al _ ka0) | (with_reducible exact cell_al _ (cell_al _ ka0)) | go_simp)
            replace ka1 : w8.cell? ⟨w.heap.size, 1, none⟩ = some (.int .i64 a2) := cell_later hb (by first | (with_reducible exact ka1) | (with_reducible exact cell_al _ ka1) | (with_reducible exact cell_al _ (cell_al _ ka1)) | go_simp)
            replace ka2 : w8.cell? ⟨w.heap.size, 2, none⟩ = some (.int .i64 a3) := cell_later hb (by first | (with_reducible exact ka2) | (with_reducible exact cell_al _ ka2) | (with_reducible exact cell_al _ (cell_al _ ka2)) | go_simp)
            replace ka3 : w8.cell? ⟨w.heap.size, 3, none⟩ = some (.int .i64 a4) := cell_later hb (by first | (with_reducible exact ka3) | (with_reducible exact cell_al _ ka3) | (with_reducible exact cell_al _ (cell_al _ ka3)) | go_simp)
            replace kb0 : w8.cell? ⟨w.heap.size + 1, 0, none⟩ = some (.int .i64 b1) := cell_later hb (by first | (with_reducible exact kb0) | (with_reducible exact cell_al _ kb0) | (with_reducible exact cell_al _ (cell_al _ kb0)) | go_simp)
            replace kb1 : w8.cell? ⟨w.heap.size + 1, 1, none⟩ = some (.int .i64 b2) := cell_later hb (by first | (with_reducible exact kb1) | (with_reducible exact cell_al _ kb1) | (with_reducible exact cell_al _ (cell_al _ kb1)) | go_simp)
            replace kb2 : w8.cell? ⟨w.heap.size + 1, 2, none⟩ = some (.int .i64 b3) := cell_later hb (by first | (with_reducible exact kb2) | (with_reducible exact cell_al _ kb2) | (with_reducible exact cell_al _ (cell_al _ kb2)) | go_simp)
            replace kb3 : w8.cell? ⟨w.heap.size + 1, 3, none⟩ = some (.int .i64 b4) := cell_later hb (by first | (with_reducible exact kb3) | (with_reducible exact cell_al _ kb3) | (with_reducible exact cell_al _ (cell_al _ kb3)) | go_simp)
            replace kp0 : w8.cell? ⟨w.heap.size + 1 + 1, 0, none⟩ = some (.int .i64 p1) := cell_later hb (by first | (with_reducible exact kp0) | (with_reducible exact cell_al _ kp0) | (with_reducible exact cell_al _ (cell_al _ kp0)) | go_simp)
            replace kp1 : w8.cell? ⟨w.heap.size + 1 + 1, 1, none⟩ = some (.int .i64 p2) := cell_later hb (by first | (with_reducible exact kp1) | (with_reducible exact cell_al _ kp1) | (with_reducible exact cell_al _ (cell_al _ kp1)) | go_simp)
            replace km0 : w8.cell? ⟨w4.heap.size, 0, none⟩ = some (.int .i64 m1) := cell_later hb (by first | (with_reducible exact km0) | (with_reducible exact cell_al _ km0) | (with_reducible exact cell_al _ (cell_al _ km0)) | go_simp)
            replace km1 : w8.cell? ⟨w4.heap.size, 1, none⟩ = some (.int .i64 m2) := cell_later hb (by first | (with_reducible exact km1) | (with_reducible exact cell_al _ km1) | (with_reducible exact cell_al _ (cell_al _ km1)) | go_simp)
            replace km2 : w8.cell? ⟨w4.heap.size, 2, none⟩ = some (.int .i64 m3) := cell_later hb (by first | (with_reducible exact km2) | (with_reducible exact cell_al _ km2) | (with_reducible exact cell_al _ (cell_al _ km2)) | go_simp)
            replace km3 : w8.cell? ⟨w4.heap.size, 3, none⟩ = some (.int .i64 m4) := cell_later hb (by first | (with_reducible exact km3) | (with_reducible exact cell_al _ km3) | (with_reducible exact cell_al _ (cell_al _ km3)) | go_simp)
            replace kj0 : w8.cell? ⟨w5.heap.size, 0, none⟩ = some (.int .i64 j1) := cell_later hb (by first | (with_reducible exact kj0) | (with_reducible exact cell_al _ kj0) | (with_reducible exact cell_al _ (cell_al _ kj0)) | go_simp)
            replace kj1 : w8.cell? ⟨w5.heap.size, 1, none⟩ = some (.int .i64 j2) := cell_later hb (by first | (with_reducible exact kj1) | (with_reducible exact cell_al _ kj1) | (with_reducible exact cell_al _ (cell_al _ kj1)) | go_simp)
            replace kj2 : w8.cell? ⟨w5.heap.size, 2, none⟩ = some (.int .i64 j3) := cell_later hb (by first | (with_reducible exact kj2) | (with_reducible exact cell_al _ kj2) | (with_reducible exact cell_al _ (cell_al _ kj2)) | go_simp)
            replace kj3 : w8.cell? ⟨w5.heap.size, 3, none⟩ = some (.int .i64 j4) := cell_later hb (by first | (with_reducible exact kj3) | (with_reducible exact cell_al _ kj3) | (with_reducible exact cell_al _ (cell_al _ kj3)) | go_simp)
            replace za : w.heap.size < w8.heap.size := World.block_lt_of_cell? _ _ ka0
            replace zb : w.heap.size + 1 < w8.heap.size := World.block_lt_of_cell? _ _ kb0
            replace zp : w.heap.size + 1 + 1 < w8.heap.size := World.block_lt_of_cell? _ _ kp0
            replace zm : w4.heap.size < w8.heap.size := World.block_lt_of_cell? _ _ km0
            replace zj : w5.heap.size < w8.heap.size := World.block_lt_of_cell? _ _ kj0
            replace hb0 : Below w.heap.size w w8 := (by repeat (first | exact Below.refl _ _ | assumption | refine bstep ?_ (by assumption) | refine Below.drew ?_ | refine balloc ?_ _ | refine Below.setCell ?_ (by first | omega | (simp <;> omega)) _))
            clear hb
            go_wp2
            all_goals first | (exfalso; omega) | (go_ret; refine ret_bool ?_ (by repeat (first | exact Below.refl _ _ | assumption | refine bstep ?_ (by assumption) | refine Below.drew ?_ | refine balloc ?_ _ | refine Below.setCell ?_ (by first | omega | (simp <;> omega)) _)); first | (simp; done) | (simp <;> omega))
        ·
          have q3 : rMeetBox a1 a2 a3 a4 b1 b2 b3 b4 = false := hr
          simp only [v3, q3, selI, selB, erv, cond_true, cond_false, Bool.and_true, Bool.and_false, Bool.true_and, Bool.false_and] at C3
          rw [Bool.eq_false_iff, Ne, Bool.and_eq_true, rM_iff, rM_iff, hm1, hm2, hm3, hm4] at hr
          have kK : (X && Y) = false := by rw [Bool.eq_false_iff, Ne, Bool.and_eq_true, xX, xY]; omega
          clear v3 q3 xX xY hX hY hr i0 i1 i2 hj1 hj2 hj3 hj4 hm1 hm2 hm3 hm4
          go_enter Try.func9, Try.ntmps9
          go_wp2_with fail
          refine Calls.mono (head_c _) ?_
          rintro e w1 ⟨rfl, hb⟩
          have ka0 : w1.cell? ⟨w.heap.size, 0, none⟩ = some (.int .i64 a1) := cell_later hb (by go_simp)
          have ka1 : w1.cell? ⟨w.heap.size, 1, none⟩ = some (.int .i64 a2) := cell_later hb (by go_simp)
          have ka2 : w1.cell? ⟨w.heap.size, 2, none⟩ = some (.int .i64 a3) := cell_later hb (by go_simp)
          have ka3 : w1.cell? ⟨w.heap.size, 3, none⟩ = some (.int .i64 a4) := cell_later hb (by go_simp)
          have kb0 : w1.cell? ⟨w.heap.size + 1, 0, none⟩ = some (.int .i64 b1) := cell_later hb (by go_simp)
          have kb1 : w1.cell? ⟨w.heap.size + 1, 1, none⟩ = some (.int .i64 b2) := cell_later hb (by go_simp)
          have kb2 : w1.cell? ⟨w.heap.size + 1, 2, none⟩ = some (.int .i64 b3) := cell_later hb (by go_simp)
          have kb3 : w1.cell? ⟨w.heap.size + 1, 3, none⟩ = some (.int .i64 b4) := cell_later hb (by go_simp)
          have kp0 : w1.cell? ⟨w.heap.size + 1 + 1, 0, none⟩ = some (.int .i64 p1) := cell_later hb (by go_simp)
          have kp1 : w1.cell? ⟨w.heap.size + 1 + 1, 1, none⟩ = some (.int .i64 p2) := cell_later hb (by go_simp)
          have za : w.heap.size < w1.heap.size := World.block_lt_of_cell? _ _ ka0
          have zb : w.heap.size + 1 < w1.heap.size := World.block_lt_of_cell? _ _ kb0
          have zp : w.heap.size + 1 + 1 < w1.heap.size := World.block_lt_of_cell? _ _ kp0
          have hb0 : Below w.heap.size w w1 := (by repeat (first | exact Below.refl _ _ | assumption | refine bstep ?_ (by assumption) | refine Below.drew ?_ | refine balloc ?_ _ | refine Below.setCell ?_ (by first | omega | (simp <;> omega)) _))
          clear hb
          go_wp2_with fail
          refine Calls.mono (C1 _) ?_
          rintro e w2 ⟨rfl, hb⟩
          replace ka0 : w2.cell? ⟨w.heap.size, 0, none⟩ = some (.int .i64 a1) := cell_later hb (by first | (with_reducible exact ka0) | (with_reducible exact cell_al _ ka0) | (with_reducible exact cell_al _ (cell_al _ ka0)) | go_simp)
          replace ka1 : w2.cell? ⟨w.heap.size, 1, none⟩ = some (.int .i64 a2) := cell_later hb (by first | (with_reducible exact ka1) | (with_reducible exact cell_al _ ka1) | (with_reducible exact cell_al _ (cell_al _ ka1)) | go_simp)
          replace ka2 : w2.cell? ⟨w.heap.size, 2, none⟩ = some (.int .i64 a3) := cell_later hb (by first | (with_reducible exact ka2) | (with_reducible exact cell_al _ ka2) | (with_reducible exact cell_al _ (cell_al _ ka2)) | go_simp)
          replace ka3 : w2.cell? ⟨w.heap.size, 3, none⟩ = some (.int .i64 a4) := cell_later hb (by first | (with_reducible exact ka3) | (with_reducible exact cell_al _ ka3) | (with_reducible exact cell_al _ (cell_al _ ka3)) | go_simp)
          replace kb0 : w2.cell? ⟨w.heap.size + 1, 0, none⟩ = some (.int .i64 b1) := cell_later hb (by first | (with_reducible exact kb0) | (with_reducible exact cell_al _ kb0) | (with_reducible exact cell_al _ (cell_al _ kb0)) | go_simp)
          replace kb1 : w2.cell? ⟨w.heap.size + 1, 1, none⟩ = some (.int .i64 b2) := cell_later hb (by first | (with_reducible exact kb1) | (with_reducible exact cell_al _ kb1) | (with_reducible exact cell_al _ (cell_al _ kb1)) | go_simp)
          replace kb2 : w2.cell? ⟨w.heap.size + 1, 2, none⟩ = some (.int .i64 b3) := cell_later hb (by first | (with_reducible exact kb2) | (with_reducible exact cell_al _ kb2) | (with_reducible exact cell_al _ (cell_al _ kb2)) | go_simp)
          replace kb3 : w2.cell? ⟨w.heap.size + 1, 3, none⟩ = some (.int .i64 b4) := cell_later hb (by first | (with_reducible exact kb3) | (with_reducible exact cell_al _ kb3) | (with_reducible exact cell_al _ (cell_al _ kb3)) | go_simp)
          replace kp0 : w2.cell? ⟨w.heap.size + 1 + 1, 0, none⟩ = some (.int .i64 p1) := cell_later hb (by first | (with_reducible exact kp0) | (with_reducible exact cell_al _ kp0) | (with_reducible exact cell_al _ (cell_al _ kp0)) | go_simp)
          replace kp1 : w2.cell? ⟨w.heap.size + 1 + 1, 1, none⟩ = some (.int .i64 p2) := cell_later hb (by first | (with_reducible exact kp1) | (with_reducible exact cell_al _ kp1) | (with_reducible exact cell_al _ (cell_al _ kp1)) | go_simp)
          replace za : w.heap.size < w2.heap.size := World.block_lt_of_cell? _ _ ka0
          replace zb : w.heap.size + 1 < w2.heap.size := World.block_lt_of_cell? _ _ kb0
          replace zp : w.heap.size + 1 + 1 < w2.heap.size := World.block_lt_of_cell? _ _ kp0
          replace hb0 : Below w.heap.size w w2 := (by repeat (first | exact Below.refl _ _ | assumption | refine bstep ?_ (by assumption) | refine Below.drew ?_ | refine balloc ?_ _ | refine Below.setCell ?_ (by first | omega | (simp <;> omega)) _))
          clear hb
          go_wp2_with fail
          refine Calls.mono (C2 _) ?_
          rintro e w3 ⟨rfl, hb⟩
          replace ka0 : w3.cell? ⟨w.heap.size, 0, none⟩ = some (.int .i64 a1) := cell_later hb (by first | (with_reducible exact ka0) | (with_reducible exact cell_al _ ka0) | (with_reducible exact cell_al _ (cell_al _ ka0)) | go_simp)
          replace ka1 : w3.cell? ⟨w.heap.size, 1, none⟩ = some (.int .i64 a2) := cell_later hb (by first | (with_reducible exact ka1) | (with_reducible exact cell_al _ ka1) | (with_reducible exact cell_al _ (cell_al _ ka1)) | go_simp)
          replace ka2 : w3.cell? ⟨w.heap.size, 2, none⟩ = some (.int .i64 a3) := cell_later hb (by first | (with_reducible exact ka2) | (with_reducible exact cell_al _ ka2) | (with_reducible exact cell_al _ (cell_al _ ka2)) | go_simp)
          replace ka3 : w3.cell? ⟨w.heap.size, 3, none⟩ = some (.int .i64 a4) := cell_later hb (by first | (with_reducible exact ka3) | (with_reducible exact cell_al _ ka3) | (with_reducible exact cell_al _ (cell_al _ ka3)) | go_simp)
          replace kb0 : w3.cell? ⟨w.heap.size + 1, 0, none⟩ = some (.int .i64 b1) := cell_later hb (by first | (with_reducible exact kb0) | (with_reducible exact cell_al _ kb0) | (with_reducible exact cell_al _ (cell_al _ kb0)) | go_simp)
          replace kb1 : w3.cell? ⟨w.heap.size + 1, 1, none⟩ = some (.int .i64 b2) := cell_later hb (by first | (with_reducible exact kb1) | (with_reducible exact cell_al _ kb1) | (with_reducible exact cell_al _ (cell_al _ kb1)) | go_simp)
          replace kb2 : w3.cell? ⟨w.heap.size + 1, 2, none⟩ = some (.int .i64 b3) := cell_later hb (by first | (with_reducible exact kb2) | (with_reducible exact cell_al _ kb2) | (with_reducible exact cell_al _ (cell_al _ kb2)) | go_simp)
          replace kb3 : w3.cell? ⟨w.heap.size + 1, 3, none⟩ = some (.int .i64 b4) := cell_later hb (by first | (with_reducible exact kb3) | (with_reducible exact cell_al _ kb3) | (with_reducible exact cell_al _ (cell_al _ kb3)) | go_simp)
          replace kp0 : w3.cell? ⟨w.heap.size + 1 + 1, 0, none⟩ = some (.int .i64 p1) := cell_later hb (by first | (with_reducible exact kp0) | (with_reducible exact cell_al _ kp0) | (with_reducible exact cell_al _ (cell_al _ kp0)) | go_simp)
          replace kp1 : w3.cell? ⟨w.heap.size + 1 + 1, 1, none⟩ = some (.int .i64 p2) := cell_later hb (by first | (with_reducible exact kp1) | (with_reducible exact cell_al _ kp1) | (with_reducible exact cell_al _ (cell_al _ kp1)) | go_simp)
          replace za : w.heap.size < w3.heap.size := World.block_lt_of_cell? _ _ ka0
          replace zb : w.heap.size + 1 < w3.heap.size := World.block_lt_of_cell? _ _ kb0
          replace zp : w.heap.size + 1 + 1 < w3.heap.size := World.block_lt_of_cell? _ _ kp0
          replace hb0 : Below w.heap.size w w3 := (by repeat (first | exact Below.refl _ _ | assumption | refine bstep ?_ (by assumption) | refine Below.drew ?_ | refine balloc ?_ _ | refine Below.setCell ?_ (by first | omega | (simp <;> omega)) _))
          clear hb
          go_wp2_with fail
          refine Calls.mono (C3 _) ?_
          rintro e w4 ⟨rfl, hb⟩
          replace ka0 : w4.cell? ⟨w.heap.size, 0, none⟩ = some (.int .i64 a1) := cell_later hb (by first | (with_reducible exact ka0) | (with_reducible exact cell_al _ ka0) | (with_reducible exact cell_al _ (cell_al _ ka0)) | go_simp)
          replace ka1 : w4.cell? ⟨w.heap.size, 1, none⟩ = some (.int .i64 a2) := cell_later hb (by first | (with_reducible exact ka1) | (with_reducible exact cell_al _ ka1) | (with_reducible exact cell_al _ (cell_al _ ka1)) | go_simp)
          replace ka2 : w4.cell? ⟨w.heap.size, 2, none⟩ = some (.int .i64 a3) := cell_later hb (by first | (with_reducible exact ka2) | (with_reducible exact cell_al _ ka2) | (with_reducible exact cell_al _ (cell_al _ ka2)) | go_simp)
          replace ka3 : w4.cell? ⟨w.heap.size, 3, none⟩ = some (.int .i64 a4) := cell_later hb (by first | (with_reducible exact ka3) | (with_reducible exact cell_al _ ka3) | (with_reducible exact cell_al _ (cell_al _ ka3)) | go_simp)
          replace kb0 : w4.cell? ⟨w.heap.size + 1, 0, none⟩ = some (.int .i64 b1) := cell_later hb (by first | (with_reducible exact kb0) | (with_reducible exact cell_al _ kb0) | (with_reducible exact cell_al _ (cell_al _ kb0)) | go_simp)
          replace kb1 : w4.cell? ⟨w.heap.size + 1, 1, none⟩ = some (.int .i64 b2) := cell_later hb (by first | (with_reducible exact kb1) | (with_reducible exact cell_al _ kb1) | (with_reducible exact cell_al _ (cell_al _ kb1)) | go_simp)
          replace kb2 : w4.cell? ⟨w.heap.size + 1, 2, none⟩ = some (.int .i64 b3) := cell_later hb (by first | (with_reducible exact kb2) | (with_reducible exact cell_al _ kb2) | (with_reducible exact cell_al _ (cell_al _ kb2)) | go_simp)
          replace kb3 : w4.cell? ⟨w.heap.size + 1, 3, none⟩ = some (.int .i64 b4) := cell_later hb (by first | (with_reducible exact kb3) | (with_reducible exact cell_al _ kb3) | (with_reducible exact cell_al _ (cell_al _ kb3)) | go_simp)
          replace kp0 : w4.cell? ⟨w.heap.size + 1 + 1, 0, none⟩ = some (.int .i64 p1) := cell_later hb (by first | (with_reducible exact kp0) | (with_reducible exact cell_al _ kp0) | (with_reducible exact cell_al _ (cell_al _ kp0)) | go_simp)
          replace kp1 : w4.cell? ⟨w.heap.size + 1 + 1, 1, none⟩ = some (.int .i64 p2) := cell_later hb (by first | (with_reducible exact kp1) | (with_reducible exact cell_al _ kp1) | (with_reducible exact cell_al _ (cell_al _ kp1)) | go_simp)
          replace za : w.heap.size < w4.heap.size := World.block_lt_of_cell? _ _ ka0
          replace zb : w.heap.size + 1 < w4.heap.size := World.block_lt_of_cell? _ _ kb0
          replace zp : w.heap.size + 1 + 1 < w4.heap.size := World.block_lt_of_cell? _ _ kp0
          replace hb0 : Below w.heap.size w w4 := (by repeat (first | exact Below.refl _ _ | assumption | refine bstep ?_ (by assumption) | refine Below.drew ?_ | refine balloc ?_ _ | refine Below.setCell ?_ (by first | omega | (simp <;> omega)) _))
          clear hb
          go_wp2_with fail
          refine Calls.mono (C4 _) ?_
          rintro e w5 ⟨rfl, hb⟩
          replace ka0 : w5.cell? ⟨w.heap.size, 0, none⟩ = some (.int .i64 a1) := cell_later hb (by first | (with_reducible exact ka0) | (with_reducible exact cell_al _ ka0) | (with_reducible exact cell_al _ (cell_al _ ka0)) | go_simp)
          replace ka1 : w5.cell? ⟨w.heap.size, 1, none⟩ = some (.int .i64 a2) := cell_later hb (by first | (with_reducible exact ka1) | (with_reducible exact cell_al _ ka1) | (with_reducible exact cell_al _ (cell_al _ ka1)) | go_simp)
          replace ka2 : w5.cell? ⟨w.heap.size, 2, none⟩ = some (.int .i64 a3) := cell_later hb (by first | (with_reducible exact ka2) | (with_reducible exact cell_al _ ka2) | (with_reducible exact cell_al _ (cell_al _ ka2)) | go_simp)
          replace ka3 : w5.cell? ⟨w.heap.size, 3, none⟩ = some (.int .i64 a4) := cell_later hb (by first | (with_reducible exact ka3) | (with_reducible exact cell_al _ ka3) | (with_reducible exact cell_al _ (cell_al _ ka3)) | go_simp)
          replace kb0 : w5.cell? ⟨w.heap.size + 1, 0, none⟩ = some (.int .i64 b1) := cell_later hb (by first | (with_reducible exact kb0) | (with_reducible exact cell_al _ kb0) | (with_reducible exact cell_al _ (cell_al _ kb0)) | go_simp)
          replace kb1 : w5.cell? ⟨w.heap.size + 1, 1, none⟩ = some (.int .i64 b2) := cell_later hb (by first | (with_reducible exact kb1) | (with_reducible exact cell_al _ kb1) | (with_reducible exact cell_al _ (cell_al _ kb1)) | go_simp)
          replace kb2 : w5.cell? ⟨w.heap.size + 1, 2, none⟩ = some (.int .i64 b3) := cell_later hb (by first | (with_reducible exact kb2) | (with_reducible exact cell_al _ kb2) | (with_reducible exact cell_al _ (cell_al _ kb2)) | go_simp)
          replace kb3 : w5.cell? ⟨w.heap.size + 1, 3, none⟩ = some (.int .i64 b4) := cell_later hb (by first | (with_reducible exact kb3) | (with_reducible exact cell_al _ kb3) | (with_reducible exact cell_al _ (cell_al _ kb3)) | go_simp)
          replace kp0 : w5.cell? ⟨w.heap.size + 1 + 1, 0, none⟩ = some (.int .i64 p1) := cell_later hb (by first | (with_reducible exact kp0) | (with_reducible exact cell_al _ kp0) | (with_reducible exact cell_al _ (cell_al _ kp0)) | go_simp)
          replace kp1 : w5.cell? ⟨w.heap.size + 1 + 1, 1, none⟩ = some (.int .i64 p2) := cell_later hb (by first | (with_reducible exact kp1) | (with_reducible exact cell_al _ kp1) | (with_reducible exact cell_al _ (cell_al _ kp1)) | go_simp)
          have km0 : w5.cell? ⟨w4.heap.size, 0, none⟩ = some (.int .i64 0) := cell_later hb (by go_simp)
          have km1 : w5.cell? ⟨w4.heap.size, 1, none⟩ = some (.int .i64 0) := cell_later hb (by go_simp)
          have km2 : w5.cell? ⟨w4.heap.size, 2, none⟩ = some (.int .i64 0) := cell_later hb (by go_simp)
          have km3 : w5.cell? ⟨w4.heap.size, 3, none⟩ = some (.int .i64 0) := cell_later hb (by go_simp)
          replace za : w.heap.size < w5.heap.size := World.block_lt_of_cell? _ _ ka0
          replace zb : w.heap.size + 1 < w5.heap.size := World.block_lt_of_cell? _ _ kb0
          replace zp : w.heap.size + 1 + 1 < w5.heap.size := World.block_lt_of_cell? _ _ kp0
          have zm : w4.heap.size < w5.heap.size := World.block_lt_of_cell? _ _ km0
          replace hb0 : Below w.heap.size w w5 := (by repeat (first | exact Below.refl _ _ | assumption | refine bstep ?_ (by assumption) | refine Below.drew ?_ | refine balloc ?_ _ | refine Below.setCell ?_ (by first | omega | (simp <;> omega)) _))
          clear hb
          go_wp2_with fail
          refine Calls.mono (C5 _) ?_
          rintro e w6 ⟨rfl, hb⟩
          replace ka0 : w6.cell? ⟨w.heap.size, 0, none⟩ = some (.int .i64 a1) := cell_later hb (by first | (with_reducible exact ka0) | (with_reducible exact cell_al _ ka0) | (with_reducible exact cell_al _ (cell_al _ ka0)) | go_simp)
          replace ka1 : w6.cell? ⟨w.heap.size, 1, none⟩ = some (.int .i64 a2) := cell_later hb (by first | (with_reducible exact ka1) | (with_reducible exact cell_al _ ka1) | (with_reducible exact cell_al _ (cell_al _ ka1)) | go_simp)
          replace ka2 : w6.cell? ⟨w.heap.size, 2, none⟩ = some (.int .i64 a3) := cell_later hb (by first | (with_reducible exact ka2) | (with_reducible exact cell_al _ ka2) | (with_reducible exact cell_al _ (cell_al _ ka2)) | go_simp)
          replace ka3 : w6.cell? ⟨w.heap.size, 3, none⟩ = some (.int .i64 a4) := cell_later hb (by first | (with_reducible exact ka3) | (with_reducible exact cell_al _ ka3) | (with_reducible exact cell_al _ (cell_al _ ka3)) | go_simp)
          replace kb0 : w6.cell? ⟨w.heap.size + 1, 0, none⟩ = some (.int .i64 b1) := cell_later hb (by first | (with_reducible exact kb0) | (with_reducible exact cell_al _ kb0) | (with_reducible exact cell_al _ (cell_al _ kb0)) | go_simp)
          replace kb1 : w6.cell? ⟨w.heap.size + 1, 1, none⟩ = some (.int .i64 b2) := cell_later hb (by first | (with_reducible exact kb1) | (with_reducible exact cell_al _ kb1) | (with_reducible exact cell_al _ (cell_al _ kb1)) | go_simp)
          replace kb2 : w6.cell? ⟨w.heap.size + 1, 2, none⟩ = some (.int .i64 b3) := cell_later hb (by first | (with_reducible exact kb2) | (with_reducible exact cell_al _ kb2) | (with_reducible exact cell_al _ (cell_al _ kb2)) | go_simp)
          replace kb3 : w6.cell? ⟨w.heap.size + 1, 3, none⟩ = some (.int .i64 b4) := cell_later hb (by first | (with_reducible exact kb3) | (with_reducible exact cell_al _ kb3) | (with_reducible exact cell_al _ (cell_al _ kb3)) | go_simp)
          replace kp0 : w6.cell? ⟨w.heap.size + 1 + 1, 0, none⟩ = some (.int .i64 p1) := cell_later hb (by first | (with_reducible exact kp0) | (with_reducible exact cell_al _ kp0) | (with_reducible exact cell_al _ (cell_al _ kp0)) | go_simp)
          replace kp1 : w6.cell? ⟨w.heap.size + 1 + 1, 1, none⟩ = some (.int .i64 p2) := cell_later hb (by first | (with_reducible exact kp1) | (with_reducible exact cell_al _ kp1) | (with_reducible exact cell_al _ (cell_al _ kp1)) | go_simp)
          replace km0 : w6.cell? ⟨w4.heap.size, 0, none⟩ = some (.int .i64 0) := cell_later hb (by first | (with_reducible exact km0) | (with_reducible exact cell_al _ km0) | (with_reducible exact cell_al _ (cell_al _ km0)) | go_simp)
          replace km1 : w6.cell? ⟨w4.heap.size, 1, none⟩ = some (.int .i64 0) := cell_later hb (by first | (with_reducible exact km1) | (with_reducible exact cell_al _ km1) | (with_reducible exact cell_al _ (cell_al _ km1)) | go_simp)
          replace km2 : w6.cell? ⟨w4.heap.size, 2, none⟩ = some (.int .i64 0) := cell_later hb (by first | (with_reducible exact km2) | (with_reducible exact cell_al _ km2) | (with_reducible exact cell_al _ (cell_al _ km2)) | go_simp)
          replace km3 : w6.cell? ⟨w4.heap.size, 3, none⟩ = some (.int .i64 0) := cell_later hb (by first | (with_reducible exact km3) | (with_reducible exact cell_al _ km3) | (with_reducible exact cell_al _ (cell_al _ km3)) | go_simp)
          have kj0 : w6.cell? ⟨w5.heap.size, 0, none⟩ = some (.int .i64 j1) := cell_later hb (by go_simp)
          have kj1 : w6.cell? ⟨w5.heap.size, 1, none⟩ = some (.int .i64 j2) := cell_later hb (by go_simp)
          have kj2 : w6.cell? ⟨w5.heap.size, 2, none⟩ = some (.int .i64 j3) := cell_later hb (by go_simp)
          have kj3 : w6.cell? ⟨w5.heap.size, 3, none⟩ = some (.int .i64 j4) := cell_later hb (by go_simp)
          replace za : w.heap.size < w6.heap.size := World.block_lt_of_cell? _ _ ka0
          replace zb : w.heap.size + 1 < w6.heap.size := World.block_lt_of_cell? _ _ kb0
          replace zp : w.heap.size + 1 + 1 < w6.heap.size := World.block_lt_of_cell? _ _ kp0
          replace zm : w4.heap.size < w6.heap.size := World.block_lt_of_cell? _ _ km0
          have zj : w5.heap.size < w6.heap.size := World.block_lt_of_cell? _ _ kj0
          replace hb0 : Below w.heap.size w w6 := (by repeat (first | exact Below.refl _ _ | assumption | refine bstep ?_ (by assumption) | refine Below.drew ?_ | refine balloc ?_ _ | refine Below.setCell ?_ (by first | omega | (simp <;> omega)) _))
          clear hb
          go_wp2_with fail
          refine Calls.mono (C6 _) ?_
          rintro e w7 ⟨rfl, hb⟩
          replace ka0 : w7.cell? ⟨w.heap.size, 0, none⟩ = some (.int .i64 a1) := cell_later hb (by first | (with_reducible exact ka0) | (with_reducible exact cell_al _ ka0) | (with_reducible exact cell_al _ (cell_al _ ka0)) | go_simp)
          replace ka1 : w7.cell? ⟨w.heap.size, 1, none⟩ = some (.int .i64 a2) := cell_later hb (by first | (with_reducible exact ka1) | (with_reducible exact cell_al _ ka1) | (with_reducible exact cell_al _ (cell_al _ ka1)) | go_simp)
          replace ka2 : w7.cell? ⟨w.heap.size, 2, none⟩ = some (.int .i64 a3) := cell_later hb (by first | (with_reducible exact ka2) | (with_reducible exact cell_al _ ka2) | (with_reducible exact cell_al _ (cell_al _ ka2)) | go_simp)
          replace ka3 : w7.cell? ⟨w.heap.size, 3, none⟩ = some (.int .i64 a4) := cell_later hb (by first | (with_reducible exact ka3) | (with_reducible exact cell_al _ ka3) | (with_reducible exact cell_al _ (cell_al _ ka3)) | go_simp)
          replace kb0 : w7.cell? ⟨w.heap.size + 1, 0, none⟩ = some (.int .i64 b1) := cell_later hb (by first | (with_reducible exact kb0) | (with_reducible exact cell_al _ kb0) | (with_reducible exact cell_al _ (cell_al _ kb0)) | go_simp)
          replace kb1 : w7.cell? ⟨w.heap.size + 1, 1, none⟩ = some (.int .i64 b2) := cell_later hb (by first | (with_reducible exact kb1) | (with_reducible exact cell_al _ kb1) | (with_reducible exact cell_al _ (cell_al _ kb1)) | go_simp)
          replace kb2 : w7.cell? ⟨w.heap.size + 1, 2, none⟩ = some (.int .i64 b3) := cell_later hb (by first | (with_reducible exact kb2) | (with_reducible exact cell_al _ kb2) | (with_reducible exact cell_al _ (cell_al _ kb2)) | go_simp)
          replace kb3 : w7.cell? ⟨w.heap.size + 1, 3, none⟩ = some (.int .i64 b4) := cell_later hb (by first | (with_reducible exact kb3) | (with_reducible exact cell_al _ kb3) | (with_reducible exact cell_al _ (cell_al _ kb3)) | go_simp)
          replace kp0 : w7.cell? ⟨w.heap.size + 1 + 1, 0, none⟩ = some (.int .i64 p1) := cell_later hb (by first | (with_reducible exact kp0) | (with_reducible exact cell_al _ kp0) | (with_reducible exact cell_al _ (cell_al _ kp0)) | go_simp)
          replace kp1 : w7.cell? ⟨w.heap.size + 1 + 1, 1, none⟩ = some (.int .i64 p2) := cell_later hb (by first | (with_reducible exact kp1) | (with_reducible exact cell_al _ kp1) | (with_reducible exact cell_al _ (cell_al _ kp1)) | go_simp)
          replace km0 : w7.cell? ⟨w4.heap.size, 0, none⟩ = some (.int .i64 0) := cell_later hb (by first | (with_reducible exact km0) | (with_reducible exact cell_al _ km0) | (with_reducible exact cell_al _ (cell_al _ km0)) | go_simp)
          replace km1 : w7.cell? ⟨w4.heap.size, 1, none⟩ = some (.int .i64 0) := cell_later hb (by first | (with_reducible exact km1) | (with_reducible exact cell_al _ km1) | (with_reducible exact cell_al _ (cell_al _ km1)) | go_simp)
          replace km2 : w7.cell? ⟨w4.heap.size, 2, none⟩ = some (.int .i64 0) := cell_later hb (by first | (with_reducible exact km2) | (with_reducible exact cell_al _ km2) | (with_reducible exact cell_al _ (cell_al _ km2)) | go_simp)
          replace km3 : w7.cell? ⟨w4.heap.size, 3, none⟩ = some (.int .i64 0) := cell_later hb (by first | (with_reducible exact km3) | (with_reducible exact cell_al _ km3) | (with_reducible exact cell_al _ (cell_al _ km3)) | go_simp)
          replace kj0 : w7.cell? ⟨w5.heap.size, 0, none⟩ = some (.int .i64 j1) := cell_later hb (by first | (with_reducible exact kj0) | (with_reducible exact cell_al _ kj0) | (with_reducible exact cell_al _ (cell_al _ kj0)) | go_simp)
          replace kj1 : w7.cell? ⟨w5.heap.size, 1, none⟩ = some (.int .i64 j2) := cell_later hb (by first | (with_reducible exact kj1) | (with_reducible exact cell_al _ kj1) | (with_reducible exact cell_al _ (cell_al _ kj1)) | go_simp)
          replace kj2 : w7.cell? ⟨w5.heap.size, 2, none⟩ = some (.int .i64 j3) := cell_later hb (by first | (with_reducible exact kj2) | (with_reducible exact cell_al _ kj2) | (with_reducible exact cell_al _ (cell_al _ kj2)) | go_simp)
          replace kj3 : w7.cell? ⟨w5.heap.size, 3, none⟩ = some (.int .i64 j4) := cell_later hb (by first | (with_reducible exact kj3) | (with_reducible exact cell_al _ kj3) | (with_reducible exact cell_al _ (cell_al _ kj3)) | go_simp)
          replace za : w.heap.size < w7.heap.size := World.block_lt_of_cell? _ _ ka0
          replace zb : w.heap.size + 1 < w7.heap.size := World.block_lt_of_cell? _ _ kb0
          replace zp : w.heap.size + 1 + 1 < w7.heap.size := World.block_lt_of_cell? _ _ kp0
          replace zm : w4.heap.size < w7.heap.size := World.block_lt_of_cell? _ _ km0
          replace zj : w5.heap.size < w7.heap.size := World.block_lt_of_cell? _ _ kj0
          replace hb0 : Below w.heap.size w w7 := (by repeat (first | exact Below.refl _ _ | assumption | refine bstep ?_ (by assumption) | refine Below.drew ?_ | refine balloc ?_ _ | refine Below.setCell ?_ (by first | omega | (simp <;> omega)) _))
          clear hb
          clear C1 C2 C3 C4 C5 C6
          cases X <;> cases Y <;> cases Z <;> cases J
          all_goals first | (exact absurd kJ (by decide)) | (exact absurd kZ (by decide)) | (exact absurd kK (by decide)) | skip
          all_goals
            go_wp2
            all_goals first | (exfalso; omega) | (go_ret; refine ret_bool ?_ (by repeat (first | exact Below.refl _ _ | assumption | refine bstep ?_ (by assumption) | refine Below.drew ?_ | refine balloc ?_ _ | refine Below.setCell ?_ (by first | omega | (simp <;> omega)) _)); first | (simp; done) | (simp <;> omega))
      ·
        have vi1 : vInBox p1 p2 a1 a2 a3 a4 = true := by unfold vInBox; simp [h0, h1]
        have vi2 : vInBox p1 p2 b1 b2 b3 b4 = false := by unfold vInBox; simp [h0, h2]
        simp only [vi2, selI, selB, erv, cond_true, cond_false, Bool.and_true, Bool.and_false, Bool.true_and, Bool.false_and] at C2
        clear vi2
        simp only [vi1, selI, selB, erv, cond_true, cond_false, Bool.and_true, Bool.and_false, Bool.true_and, Bool.false_and] at C1
        clear vi1
        go_enter Try.func9, Try.ntmps9
        go_wp2_with fail
        refine Calls.mono (head_c _) ?_
        rintro e w1 ⟨rfl, hb⟩
        have ka0 : w1.cell? ⟨w.heap.size, 0, none⟩ = some (.int .i64 a1) := cell_later hb (by go_simp)
        have ka1 : w1.cell? ⟨w.heap.size, 1, none⟩ = some (.int .i64 a2) := cell_later hb (by go_simp)
        have ka2 : w1.cell? ⟨w.heap.size, 2, none⟩ = some (.int .i64 a3) := cell_later hb (by go_simp)
        have ka3 : w1.cell? ⟨w.heap.size, 3, none⟩ = some (.int .i64 a4) := cell_later hb (by go_simp)
        have kb0 : w1.cell? ⟨w.heap.size + 1, 0, none⟩ = some (.int .i64 b1) := cell_later hb (by go_simp)
        have kb1 : w1.cell? ⟨w.heap.size + 1, 1, none⟩ = some (.int .i64 b2) := cell_later hb (by go_simp)
        have kb2 : w1.cell? ⟨w.heap.size + 1, 2, none⟩ = some (.int .i64 b3) := cell_later hb (by go_simp)
        have kb3 : w1.cell? ⟨w.heap.size + 1, 3, none⟩ = some (.int .i64 b4) := cell_later hb (by go_simp)
        have kp0 : w1.cell? ⟨w.heap.size + 1 + 1, 0, none⟩ = some (.int .i64 p1) := cell_later hb (by go_simp)
        have kp1 : w1.cell? ⟨w.heap.size + 1 + 1, 1, none⟩ = some (.int .i64 p2) := cell_later hb (by go_simp)
        have za : w.heap.size < w1.heap.size := World.block_lt_of_cell? _ _ ka0
        have zb : w.heap.size + 1 < w1.heap.size := World.block_lt_of_cell? _ _ kb0
        have zp : w.heap.size + 1 + 1 < w1.heap.size := World.block_lt_of_cell? _ _ kp0
        have hb0 : Below w.heap.size w w1 := (by repeat (first | exact Below.refl _ _ | assumption | refine bstep ?_ (by assumption) | refine Below.drew ?_ | refine balloc ?_ _ | refine Below.setCell ?_ (by first | omega | (simp <;> omega)) _))
        clear hb
        go_wp2_with fail
        refine Calls.mono (C1 _) ?_
        rintro e w2 ⟨rfl, hb⟩
        replace ka0 : w2.cell? ⟨w.heap.size, 0, none⟩ = some (.int .i64 a1) := cell_later hb (by first | (with_reducible exact ka0) | (with_reducible exact cell_al _ ka0) | (with_reducible exact cell_al _ (cell_al _ ka0)) | go_simp)
        replace ka1 : w2.cell? ⟨w.heap.size, 1, none⟩ = some (.int .i64 a2) := cell_later hb (by first | (with_reducible exact ka1) | (with_reducible exact cell_al _ ka1) | (with_reducible exact cell_al _ (cell_al _ ka1)) | go_simp)
        replace ka2 : w2.cell? ⟨w.heap.size, 2, none⟩ = some (.int .i64 a3) := cell_later hb (by first | (with_reducible exact ka2) | (with_reducible exact cell_al _ ka2) | (with_reducible exact cell_al _ (cell_al _ ka2)) | go_simp)
        replace ka3 : w2.cell? ⟨w.heap.size, 3, none⟩ = some (.int .i64 a4) := cell_later hb (by first | (with_reducible exact ka3) | (with_reducible exact cell_al _ ka3) | (with_reducible exact cell_al _ (cell_al _ ka3)) | go_simp)
        replace kb0 : w2.cell? ⟨w.heap.size + 1, 0, none⟩ = some (.int .i64 b1) := cell_later hb (by first | (with_reducible exact kb0) | (with_reducible exact cell_al _ kb0) | (with_reducible exact cell_al _ (cell_al _ kb0)) | go_simp)
        replace kb1 : w2.cell? ⟨w.heap.size + 1, 1, none⟩ = some (.int .i64 b2) := cell_later hb (by first | (with_reducible exact kb1) | (with_reducible exact cell_al _ kb1) | (with_reducible exact cell_al _ (cell_al _ kb1)) | go_simp)
        replace kb2 : w2.cell? ⟨w.heap.size + 1, 2, none⟩ = some (.int .i64 b3) := cell_later hb (by first | (with_reducible exact kb2) | (with_reducible exact cell_al _ kb2) | (with_reducible exact cell_al _ (cell_al _ kb2)) | go_simp)
        replace kb3 : w2.cell? ⟨w.heap.size + 1, 3, none⟩ = some (.int .i64 b4) := cell_later hb (by first | (with_reducible exact kb3) | (with_reducible exact cell_al _ kb3) | (with_reducible exact cell_al _ (cell_al _ kb3)) | go_simp)
        replace kp0 : w2.cell? ⟨w.heap.size + 1 + 1, 0, none⟩ = some (.int .i64 p1) := cell_later hb (by first | (with_reducible exact kp0) | (with_reducible exact cell_al _ kp0) | (with_reducible exact cell_al _ (cell_al _ kp0)) | go_simp)
        replace kp1 : w2.cell? ⟨w.heap.size + 1 + 1, 1, none⟩ = some (.int .i64 p2) := cell_later hb (by first | (with_reducible exact kp1) | (with_reducible exact cell_al _ kp1) | (with_reducible exact cell_al _ (cell_al _ kp1)) | go_simp)
        replace za : w.heap.size < w2.heap.size := World.block_lt_of_cell? _ _ ka0
        replace zb : w.heap.size + 1 < w2.heap.size := World.block_lt_of_cell? _ _ kb0
        replace zp : w.heap.size + 1 + 1 < w2.heap.size := World.block_lt_of_cell? _ _ kp0
        replace hb0 : Below w.heap.size w w2 := (by repeat (first | exact Below.refl _ _ | assumption | refine bstep ?_ (by assumption) | refine Below.drew ?_ | refine balloc ?_ _ | refine Below.setCell ?_ (by first | omega | (simp <;> omega)) _))
        clear hb
        go_wp2_with fail
        refine Calls.mono (C2 _) ?_
        rintro e w3 ⟨rfl, hb⟩
        replace ka0 : w3.cell? ⟨w.heap.size, 0, none⟩ = some (.int .i64 a1) := cell_later hb (by first | (with_reducible exact ka0) | (with_reducible exact cell_al _ ka0) | (with_reducible exact cell_al _ (cell_al _ ka0)) | go_simp)
        replace ka1 : w3.cell? ⟨w.heap.size, 1, none⟩ = some (.int .i64 a2) := cell_later hb (by first | (with_reducible exact ka1) | (with_reducible exact cell_al _ ka1) | (with_reducible exact cell_al _ (cell_al _ ka1)) | go_simp)
        replace ka2 : w3.cell? ⟨w.heap.size, 2, none⟩ = some (.int .i64 a3) := cell_later hb (by first | (with_reducible exact ka2) | (with_reducible exact cell_al _ ka2) | (with_reducible exact cell_al _ (cell_al _ ka2)) | go_simp)
        replace ka3 : w3.cell? ⟨w.heap.size, 3, none⟩ = some (.int .i64 a4) := cell_later hb (by first | (with_reducible exact ka3) | (with_reducible exact cell_al _ ka3) | (with_reducible exact cell_al _ (cell_al _ ka3)) | go_simp)
        replace kb0 : w3.cell? ⟨w.heap.size + 1, 0, none⟩ = some (.int .i64 b1) := cell_later hb (by first | (with_reducible exact kb0) | (with_reducible exact cell_al _ kb0) | (with_reducible exact cell_al _ (cell_al _ kb0)) | go_simp)
        replace kb1 : w3.cell? ⟨w.heap.size + 1, 1, none⟩ = some (.int .i64 b2) := cell_later hb (by first | (with_reducible exact kb1) | (with_reducible exact cell_al _ kb1) | (with_reducible exact cell_al _ (cell_al _ kb1)) | go_simp)
        replace kb2 : w3.cell? ⟨w.heap.size + 1, 2, none⟩ = some (.int .i64 b3) := cell_later hb (by first | (with_reducible exact kb2) | (with_reducible exact cell_al _ kb2) | (with_reducible exact cell_al _ (cell_al _ kb2)) | go_simp)
        replace kb3 : w3.cell? ⟨w.heap.size + 1, 3, none⟩ = some (.int .i64 b4) := cell_later hb (by first | (with_reducible exact kb3) | (with_reducible exact cell_al _ kb3) | (with_reducible exact cell_al _ (cell_al _ kb3)) | go_simp)
        replace kp0 : w3.cell? ⟨w.heap.size + 1 + 1, 0, none⟩ = some (.int .i64 p1) := cell_later hb (by first | (with_reducible exact kp0) | (with_reducible exact cell_al _ kp0) | (with_reducible exact cell_al _ (cell_al _ kp0)) | go_simp)
        replace kp1 : w3.cell? ⟨w.heap.size + 1 + 1, 1, none⟩ = some (.int .i64 p2) := cell_later hb (by first | (with_reducible exact kp1) | (with_reducible exact cell_al _ kp1) | (with_reducible exact cell_al _ (cell_al _ kp1)) | go_simp)
        replace za : w.heap.size < w3.heap.size := World.block_lt_of_cell? _ _ ka0
        replace zb : w.heap.size + 1 < w3.heap.size := World.block_lt_of_cell? _ _ kb0
        replace zp : w.heap.size + 1 + 1 < w3.heap.size := World.block_lt_of_cell? _ _ kp0
        replace hb0 : Below w.heap.size w w3 := (by repeat (first | exact Below.refl _ _ | assumption | refine bstep ?_ (by assumption) | refine Below.drew ?_ | refine balloc ?_ _ | refine Below.setCell ?_ (by first | omega | (simp <;> omega)) _))
        clear hb
        go_wp2_with (first | (go_at_call 28; refine Calls.mono (MeetBox_c _ _ _ _ _ _ _ _ _) ?_; rintro e wx ⟨rfl, hbx⟩; have hcx := (bcell hbx).1; have hsx := hbx.size; have yx : w.heap.size < wx.heap.size := (by omega); have yy : w.heap.size + 1 < wx.heap.size := (by omega)) | (go_at_call 30; refine Calls.mono (JoinBox_c _ _ _ _ _ _ _ _ _) ?_; rintro e wy ⟨rfl, hby⟩; have hcy := (bcell hby).1; have hsy := hby.size; simp at hsy; have yy1 : w.heap.size < wy.heap.size := (by omega); have yy2 : w.heap.size + 1 < wy.heap.size := (by omega)) | (go_at_call 36; refine Calls.mono (WithinBox_c _ _ _ _ _ _ _ _ _) ?_; rintro e wz ⟨rfl, hbz⟩))
        all_goals first | (exfalso; omega) | (go_ret; refine ret_bool ?_ (by repeat (first | exact Below.refl _ _ | assumption | refine bstep ?_ (by assumption) | refine Below.drew ?_ | refine balloc ?_ _ | refine Below.setCell ?_ (by first | omega | (simp <;> omega)) _)); first | (simp; done) | (simp <;> omega))
    ·
      have vi1 : vInBox p1 p2 a1 a2 a3 a4 = false := by unfold vInBox; simp [h0, h1]
      simp only [vi1, selI, selB, erv, cond_true, cond_false, Bool.and_true, Bool.and_false, Bool.true_and, Bool.false_and] at C1
      clear vi1
      go_enter Try.func9, Try.ntmps9
      go_wp2_with fail
      refine Calls.mono (head_c _) ?_
      rintro e w1 ⟨rfl, hb⟩
      have ka0 : w1.cell? ⟨w.heap.size, 0, none⟩ = some (.int .i64 a1) := cell_later hb (by go_simp)
      have ka1 : w1.cell? ⟨w.heap.size, 1, none⟩ = some (.int .i64 a2) := cell_later hb (by go_simp)
      have ka2 : w1.cell? ⟨w.heap.size, 2, none⟩ = some (.int .i64 a3) := cell_later hb (by go_simp)
      have ka3 : w1.cell? ⟨w.heap.size, 3, none⟩ = some (.int .i64 a4) := cell_later hb (by go_simp)
      have kb0 : w1.cell? ⟨w.heap.size + 1, 0, none⟩ = some (.int .i64 b1) := cell_later hb (by go_simp)
      have kb1 : w1.cell? ⟨w.heap.size + 1, 1, none⟩ = some (.int .i64 b2) := cell_later hb (by go_simp)
      have kb2 : w1.cell? ⟨w.heap.size + 1, 2, none⟩ = some (.int .i64 b3) := cell_later hb (by go_simp)
      have kb3 : w1.cell? ⟨w.heap.size + 1, 3, none⟩ = some (.int .i64 b4) := cell_later hb (by go_simp)
      have kp0 : w1.cell? ⟨w.heap.size + 1 + 1, 0, none⟩ = some (.int .i64 p1) := cell_later hb (by go_simp)
      have kp1 : w1.cell? ⟨w.heap.size + 1 + 1, 1, none⟩ = some (.int .i64 p2) := cell_later hb (by go_simp)
      have za : w.heap.size < w1.heap.size := World.block_lt_of_cell? _ _ ka0
      have zb : w.heap.size + 1 < w1.heap.size := World.block_lt_of_cell? _ _ kb0
      have zp : w.heap.size + 1 + 1 < w1.heap.size := World.block_lt_of_cell? _ _ kp0
      have hb0 : Below w.heap.size w w1 := (by repeat (first | exact Below.refl _ _ | assumption | refine bstep ?_ (by assumption) | refine Below.drew ?_ | refine balloc ?_ _ | refine Below.setCell ?_ (by first | omega | (simp <;> omega)) _))
      clear hb
      go_wp2_with fail
      refine Calls.mono (C1 _) ?_
      rintro e w2 ⟨rfl, hb⟩
      replace ka0 : w2.cell? ⟨w.heap.size, 0, none⟩ = some (.int .i64 a1) := cell_later hb (by first | (with_reducible exact ka0) | (with_reducible exact cell_al _ ka0) | (with_reducible exact cell_al _ (cell_al _ ka0)) | go_simp)
      replace ka1 : w2.cell? ⟨w.heap.size, 1, none⟩ = some (.int .i64 a2) := cell_later hb (by first | (with_reducible exact ka1) | (with_reducible exact cell_al _ ka1) | (with_reducible exact cell_al _ (cell_al _ ka1)) | go_simp)
      replace ka2 : w2.cell? ⟨w.heap.size, 2, none⟩ = some (.int .i64 a3) := cell_later hb (by first | (with_reducible exact ka2) | (with_reducible exact cell_al _ ka2) | (with_reducible exact cell_al _ (cell_al _ ka2)) | go_simp)
      replace ka3 : w2.cell? ⟨w.heap.size, 3, none⟩ = some (.int .i64 a4) := cell_later hb (by first | (with_reducible exact ka3) | (with_reducible exact cell_al _ ka3) | (with_reducible exact cell_al _ (cell_al _ ka3)) | go_simp)
      replace kb0 : w2.cell? ⟨w.heap.size + 1, 0, none⟩ = some (.int .i64 b1) := cell_later hb (by first | (with_reducible exact kb0) | (with_reducible exact cell_al _ kb0) | (with_reducible exact cell_al _ (cell_al _ kb0)) | go_simp)
      replace kb1 : w2.cell? ⟨w.heap.size + 1, 1, none⟩ = some (.int .i64 b2) := cell_later hb (by first | (with_reducible exact kb1) | (with_reducible exact cell_al _ kb1) | (with_reducible exact cell_al _ (cell_al _ kb1)) | go_simp)
      replace kb2 : w2.cell? ⟨w.heap.size + 1, 2, none⟩ = some (.int .i64 b3) := cell_later hb (by first | (with_reducible exact kb2) | (with_reducible exact cell_al _ kb2) | (with_reducible exact cell_al _ (cell_al _ kb2)) | go_simp)
      replace kb3 : w2.cell? ⟨w.heap.size + 1, 3, none⟩ = some (.int .i64 b4) := cell_later hb (by first | (with_reducible exact kb3) | (with_reducible exact cell_al _ kb3) | (with_reducible exact cell_al _ (cell_al _ kb3)) | go_simp)
      replace kp0 : w2.cell? ⟨w.heap.size + 1 + 1, 0, none⟩ = some (.int .i64 p1) := cell_later hb (by first | (with_reducible exact kp0) | (with_reducible exact cell_al _ kp0) | (with_reducible exact cell_al _ (cell_al _ kp0)) | go_simp)
      replace kp1 : w2.cell? ⟨w.heap.size + 1 + 1, 1, none⟩ = some (.int .i64 p2) := cell_later hb (by first | (with_reducible exact kp1) | (with_reducible exact cell_al _ kp1) | (with_reducible exact cell_al _ (cell_al _ kp1)) | go_simp)
      replace za : w.heap.size < w2.heap.size := World.block_lt_of_cell? _ _ ka0
      replace zb : w.heap.size + 1 < w2.heap.size := World.block_lt_of_cell? _ _ kb0
      replace zp : w.heap.size + 1 + 1 < w2.heap.size := World.block_lt_of_cell? _ _ kp0
      replace hb0 : Below w.heap.size w w2 := (by repeat (first | exact Below.refl _ _ | assumption | refine bstep ?_ (by assumption) | refine Below.drew ?_ | refine balloc ?_ _ | refine Below.setCell ?_ (by first | omega | (simp <;> omega)) _))
      clear hb
      go_wp2_with fail
      refine Calls.mono (C2 _) ?_
      rintro e w3 ⟨rfl, hb⟩
      replace ka0 : w3.cell? ⟨w.heap.size, 0, none⟩ = some (.int .i64 a1) := cell_later hb (by first | (with_reducible exact ka0) | (with_reducible exact cell_al _ ka0) | (with_reducible exact cell_al _ (cell_al _ ka0)) | go_simp)
      replace ka1 : w3.cell? ⟨w.heap.size, 1, none⟩ = some (.int .i64 a2) := cell_later hb (by first | (with_reducible exact ka1) | (with_reducible exact cell_al _ ka1) | (with_reducible exact cell_al _ (cell_al _ ka1)) | go_simp)
      replace ka2 : w3.cell? ⟨w.heap.size, 2, none⟩ = some (.int .i64 a3) := cell_later hb (by first | (with_reducible exact ka2) | (with_reducible exact cell_al _ ka2) | (with_reducible exact cell_al _ (cell_al _ ka2)) | go_simp)
      replace ka3 : w3.cell? ⟨w.heap.size, 3, none⟩ = some (.int .i64 a4) := cell_later hb (by first | (with_reducible exact ka3) | (with_reducible exact cell_al _ ka3) | (with_reducible exact cell_al _ (cell_al _ ka3)) | go_simp)
      replace kb0 : w3.cell? ⟨w.heap.size + 1, 0, none⟩ = some (.int .i64 b1) := cell_later hb (by first | (with_reducible exact kb0) | (with_reducible exact cell_al _ kb0) | (with_reducible exact cell_al _ (cell_al _ kb0)) | go_simp)
      replace kb1 : w3.cell? ⟨w.heap.size + 1, 1, none⟩ = some (.int .i64 b2) := cell_later hb (by first | (with_reducible exact kb1) | (with_reducible exact cell_al _ kb1) | (with_reducible exact cell_al _ (cell_al _ kb1)) | go_simp)
      replace kb2 : w3.cell? ⟨w.heap.size + 1, 2, none⟩ = some (.int .i64 b3) := cell_later hb (by first | (with_reducible exact kb2) | (with_reducible exact cell_al _ kb2) | (with_reducible exact cell_al _ (cell_al _ kb2)) | go_simp)
      replace kb3 : w3.cell? ⟨w.heap.size + 1, 3, none⟩ = some (.int .i64 b4) := cell_later hb (by first | (with_reducible exact kb3) | (with_reducible exact cell_al _ kb3) | (with_reducible exact cell_al _ (cell_al _ kb3)) | go_simp)
      replace kp0 : w3.cell? ⟨w.heap.size + 1 + 1, 0, none⟩ = some (.int .i64 p1) := cell_later hb (by first | (with_reducible exact kp0) | (with_reducible exact cell_al _ kp0) | (with_reducible exact cell_al _ (cell_al _ kp0)) | go_simp)
      replace kp1 : w3.cell? ⟨w.heap.size + 1 + 1, 1, none⟩ = some (.int .i64 p2) := cell_later hb (by first | (with_reducible exact kp1) | (with_reducible exact cell_al _ kp1) | (with_reducible exact cell_al _ (cell_al _ kp1)) | go_simp)
      replace za : w.heap.size < w3.heap.size := World.block_lt_of_cell? _ _ ka0
      replace zb : w.heap.size + 1 < w3.heap.size := World.block_lt_of_cell? _ _ kb0
      replace zp : w.heap.size + 1 + 1 < w3.heap.size := World.block_lt_of_cell? _ _ kp0
      replace hb0 : Below w.heap.size w w3 := (by repeat (first | exact Below.refl _ _ | assumption | refine bstep ?_ (by assumption) | refine Below.drew ?_ | refine balloc ?_ _ | refine Below.setCell ?_ (by first | omega | (simp <;> omega)) _))
      clear hb
      go_wp2_with (first | (go_at_call 28; refine Calls.mono (MeetBox_c _ _ _ _ _ _ _ _ _) ?_; rintro e wx ⟨rfl, hbx⟩; have hcx := (bcell hbx).1; have hsx := hbx.size; have yx : w.heap.size < wx.heap.size := (by omega); have yy : w.heap.size + 1 < wx.heap.size := (by omega)) | (go_at_call 30; refine Calls.mono (JoinBox_c _ _ _ _ _ _ _ _ _) ?_; rintro e wy ⟨rfl, hby⟩; have hcy := (bcell hby).1; have hsy := hby.size; simp at hsy; have yy1 : w.heap.size < wy.heap.size := (by omega); have yy2 : w.heap.size + 1 < wy.heap.size := (by omega)) | (go_at_call 36; refine Calls.mono (WithinBox_c _ _ _ _ _ _ _ _ _) ?_; rintro e wz ⟨rfl, hbz⟩))
      all_goals first | (exfalso; omega) | (go_ret; refine ret_bool ?_ (by repeat (first | exact Below.refl _ _ | assumption | refine bstep ?_ (by assumption) | refine Below.drew ?_ | refine balloc ?_ _ | refine Below.setCell ?_ (by first | omega | (simp <;> omega)) _)); first | (simp; done) | (simp <;> omega))
  ·
    have vi1 : vInBox p1 p2 a1 a2 a3 a4 = false := by unfold vInBox; simp [h0]
    have vi2 : vInBox p1 p2 b1 b2 b3 b4 = false := by unfold vInBox; simp [h0]
    simp only [vi2, selI, selB, erv, cond_true, cond_false, Bool.and_true, Bool.and_false, Bool.true_and, Bool.false_and] at C2
    clear vi2
    simp only [vi1, selI, selB, erv, cond_true, cond_false, Bool.and_true, Bool.and_false, Bool.true_and, Bool.false_and] at C1
    clear vi1
    go_enter Try.func9, Try.ntmps9
    go_wp2_with fail
    refine Calls.mono (head_c _) ?_
    rintro e w1 ⟨rfl, hb⟩
    have ka0 : w1.cell? ⟨w.heap.size, 0, none⟩ = some (.int .i64 a1) := cell_later hb (by go_simp)
    have ka1 : w1.cell? ⟨w.heap.size, 1, none⟩ = some (.int .i64 a2) := cell_later hb (by go_simp)
    have ka2 : w1.cell? ⟨w.heap.size, 2, none⟩ = some (.int .i64 a3) := cell_later hb (by go_simp)
    have ka3 : w1.cell? ⟨w.heap.size, 3, none⟩ = some (.int .i64 a4) := cell_later hb (by go_simp)
    have kb0 : w1.cell? ⟨w.heap.size + 1, 0, none⟩ = some (.int .i64 b1) := cell_later hb (by go_simp)
    have kb1 : w1.cell? ⟨w.heap.size + 1, 1, none⟩ = some (.int .i64 b2) := cell_later hb (by go_simp)
    have kb2 : w1.cell? ⟨w.heap.size + 1, 2, none⟩ = some (.int .i64 b3) := cell_later hb (by go_simp)
    have kb3 : w1.cell? ⟨w.heap.size + 1, 3, none⟩ = some (.int .i64 b4) := cell_later hb (by go_simp)
    have kp0 : w1.cell? ⟨w.heap.size + 1 + 1, 0, none⟩ = some (.int .i64 p1) := cell_later hb (by go_simp)
    have kp1 : w1.cell? ⟨w.heap.size + 1 + 1, 1, none⟩ = some (.int .i64 p2) := cell_later hb (by go_simp)
    have za : w.heap.size < w1.heap.size := World.block_lt_of_cell? _ _ ka0
    have zb : w.heap.size + 1 < w1.heap.size := World.block_lt_of_cell? _ _ kb0
    have zp : w.heap.size + 1 + 1 < w1.heap.size := World.block_lt_of_cell? _ _ kp0
    have hb0 : Below w.heap.size w w1 := (by repeat (first | exact Below.refl _ _ | assumption | refine bstep ?_ (by assumption) | refine Below.drew ?_ | refine balloc ?_ _ | refine Below.setCell ?_ (by first | omega | (simp <;> omega)) _))
    clear hb
    go_wp2_with fail
    refine Calls.mono (C1 _) ?_
    rintro e w2 ⟨rfl, hb⟩
    replace ka0 : w2.cell? ⟨w.heap.size, 0, none⟩ = some (.int .i64 a1) := cell_later hb (by first | (with_reducible exact ka0) | (with_reducible exact cell_al _ ka0) | (with_reducible exact cell_al _ (cell_al _ ka0)) | go_simp)
    replace ka1 : w2.cell? ⟨w.heap.size, 1, none⟩ = some (.int .i64 a2) := cell_later hb (by first | (with_reducible exact ka1) | (with_reducible exact cell_al _ ka1) | (with_reducible exact cell_al _ (cell_al _ ka1)) | go_simp)
    replace ka2 : w2.cell? ⟨w.heap.size, 2, none⟩ = some (.int .i64 a3) := cell_later hb (by first | (with_reducible exact ka2) | (with_reducible exact cell_al _ ka2) | (with_reducible exact cell_al _ (cell_al _ ka2)) | go_simp)
    replace ka3 : w2.cell? ⟨w.heap.size, 3, none⟩ = some (.int .i64 a4) := cell_later hb (by first | (with_reducible exact ka3) | (with_reducible exact cell_al _ ka3) | (with_reducible exact cell_al _ (cell_al _ ka3)) | go_simp)
    replace kb0 : w2.cell? ⟨w.heap.size + 1, 0, none⟩ = some (.int .i64 b1) := cell_later hb (by first | (with_reducible exact kb0) | (with_reducible exact cell_al _ kb0) | (with_reducible exact cell_al _ (cell_al _ kb0)) | go_simp)
    replace kb1 : w2.cell? ⟨w.heap.size + 1, 1, none⟩ = some (.int .i64 b2) := cell_later hb (by first | (with_reducible exact kb1) | (with_reducible exact cell_al _ kb1) | (with_reducible exact cell_al _ (cell_al _ kb1)) | go_simp)
    replace kb2 : w2.cell? ⟨w.heap.size + 1, 2, none⟩ = some (.int .i64 b3) := cell_later hb (by first | (with_reducible exact kb2) | (with_reducible exact cell_al _ kb2) | (with_reducible exact cell_al _ (cell_al _ kb2)) | go_simp)
    replace kb3 : w2.cell? ⟨w.heap.size + 1, 3, none⟩ = some (.int .i64 b4) := cell_later hb (by first | (with_reducible exact kb3) | (with_reducible exact cell_al _ kb3) | (with_reducible exact cell_al _ (cell_al _ kb3)) | go_simp)
    replace kp0 : w2.cell? ⟨w.heap.size + 1 + 1, 0, none⟩ = some (.int .i64 p1) := cell_later hb (by first | (with_reducible exact kp0) | (with_reducible exact cell_al _ kp0) | (with_reducible exact cell_al _ (cell_al _ kp0)) | go_simp)
    replace kp1 : w2.cell? ⟨w.heap.size + 1 + 1, 1, none⟩ = some (.int .i64 p2) := cell_later hb (by first | (with_reducible exact kp1) | (with_reducible exact cell_al _ kp1) | (with_reducible exact cell_al _ (cell_al _ kp1)) | go_simp)
    replace za : w.heap.size < w2.heap.size := World.block_lt_of_cell? _ _ ka0
    replace zb : w.heap.size + 1 < w2.heap.size := World.block_lt_of_cell? _ _ kb0
    replace zp : w.heap.size + 1 + 1 < w2.heap.size := World.block_lt_of_cell? _ _ kp0
    replace hb0 : Below w.heap.size w w2 := (by repeat (first | exact Below.refl _ _ | assumption | refine bstep ?_ (by assumption) | refine Below.drew ?_ | refine balloc ?_ _ | refine Below.setCell ?_ (by first | omega | (simp <;> omega)) _))
    clear hb
    go_wp2_with fail
    refine Calls.mono (C2 _) ?_
    rintro e w3 ⟨rfl, hb⟩
    replace ka0 : w3.cell? ⟨w.heap.size, 0, none⟩ = some (.int .i64 a1) := cell_later hb (by first | (with_reducible exact ka0) | (with_reducible exact cell_al _ ka0) | (with_reducible exact cell_al _ (cell_al _ ka0)) | go_simp)
    replace ka1 : w3.cell? ⟨w.heap.size, 1, none⟩ = some (.int .i64 a2) := cell_later hb (by first | (with_reducible exact ka1) | (with_reducible exact cell_al _ ka1) | (with_reducible exact cell_al _ (cell_al _ ka1)) | go_simp)
    replace ka2 : w3.cell? ⟨w.heap.size, 2, none⟩ = some (.int .i64 a3) := cell_later hb (by first | (with_reducible exact ka2) | (with_reducible exact cell_al _ ka2) | (with_reducible exact cell_al _ (cell_al _ ka2)) | go_simp)
    replace ka3 : w3.cell? ⟨w.heap.size, 3, none⟩ = some (.int .i64 a4) := cell_later hb (by first | (with_reducible exact ka3) | (with_reducible exact cell_al _ ka3) | (with_reducible exact cell_al _ (cell_al _ ka3)) | go_simp)
    replace kb0 : w3.cell? ⟨w.heap.size + 1, 0, none⟩ = some (.int .i64 b1) := cell_later hb (by first | (with_reducible exact kb0) | (with_reducible exact cell_al _ kb0) | (with_reducible exact cell_al _ (cell_al _ kb0)) | go_simp)
    replace kb1 : w3.cell? ⟨w.heap.size + 1, 1, none⟩ = some (.int .i64 b2) := cell_later hb (by first | (with_reducible exact kb1) | (with_reducible exact cell_al _ kb1) | (with_reducible exact cell_al _ (cell_al _ kb1)) | go_simp)
    replace kb2 : w3.cell? ⟨w.heap.size + 1, 2, none⟩ = some (.int .i64 b3) := cell_later hb (by first | (with_reducible exact kb2) | (with_reducible exact cell_al _ kb2) | (with_reducible exact cell_al _ (cell_al _ kb2)) | go_simp)
    replace kb3 : w3.cell? ⟨w.heap.size + 1, 3, none⟩ = some (.int .i64 b4) := cell_later hb (by first | (with_reducible exact kb3) | (with_reducible exact cell_al _ kb3) | (with_reducible exact cell_al _ (cell_al _ kb3)) | go_simp)
    replace kp0 : w3.cell? ⟨w.heap.size + 1 + 1, 0, none⟩ = some (.int .i64 p1) := cell_later hb (by first | (with_reducible exact kp0) | (with_reducible exact cell_al _ kp0) | (with_reducible exact cell_al _ (cell_al _ kp0)) | go_simp)
    replace kp1 : w3.cell? ⟨w.heap.size + 1 + 1, 1, none⟩ = some (.int .i64 p2) := cell_later hb (by first | (with_reducible exact kp1) | (with_reducible exact cell_al _ kp1) | (with_reducible exact cell_al _ (cell_al _ kp1)) | go_simp)
    replace za : w.heap.size < w3.heap.size := World.block_lt_of_cell? _ _ ka0
    replace zb : w.heap.size + 1 < w3.heap.size := World.block_lt_of_cell? _ _ kb0
    replace zp : w.heap.size + 1 + 1 < w3.heap.size := World.block_lt_of_cell? _ _ kp0
    replace hb0 : Below w.heap.size w w3 := (by repeat (first | exact Below.refl _ _ | assumption | refine bstep ?_ (by assumption) | refine Below.drew ?_ | refine balloc ?_ _ | refine Below.setCell ?_ (by first | omega | (simp <;> omega)) _))
    clear hb
    go_wp2_with (first | (go_at_call 28; refine Calls.mono (MeetBox_c _ _ _ _ _ _ _ _ _) ?_; rintro e wx ⟨rfl, hbx⟩; have hcx := (bcell hbx).1; have hsx := hbx.size; have yx : w.heap.size < wx.heap.size := (by omega); have yy : w.heap.size + 1 < wx.heap.size := (by omega)) | (go_at_call 30; refine Calls.mono (JoinBox_c _ _ _ _ _ _ _ _ _) ?_; rintro e wy ⟨rfl, hby⟩; have hcy := (bcell hby).1; have hsy := hby.size; simp at hsy; have yy1 : w.heap.size < wy.heap.size := (by omega); have yy2 : w.heap.size + 1 < wy.heap.size := (by omega)) | (go_at_call 36; refine Calls.mono (WithinBox_c _ _ _ _ _ _ _ _ _) ?_; rintro e wz ⟨rfl, hbz⟩))
    all_goals first | (exfalso; omega) | (go_ret; refine ret_bool ?_ (by repeat (first | exact Below.refl _ _ | assumption | refine bstep ?_ (by assumption) | refine Below.drew ?_ | refine balloc ?_ _ | refine Below.setCell ?_ (by first | omega | (simp <;> omega)) _)); first | (simp; done) | (simp <;> omega))


end Go.Proofs.Ytendnhmobhicmaa
