/- LawOrderA: the law SpanOrder, the spans are not one. -/
import Derived.Test.YtendnhmobhicmaaHeadA
import Derived.Test.YtendnhmobhicmaaRows
import Derived.WalkKit
import Derived.WalkSpells
import Derived.WalkLawsBesides
import Derived.Lib.Hide
import Derived.Deep.QuietTactic
import Derived.BigQuiet
import Derived.RegionTactic
import Derived.ChangeAlike
import Derived.BigRegion
import Derived.Deep.RegionHeld3
import Derived.Deep.RegionWith
import Derived.Outline
import Derived.Deep.DeepCutAuto
namespace Go.Proofs.Ytendnhmobhicmaa
open Go.RowKit
set_option linter.unusedSimpArgs false
set_option linter.unusedVariables false

theorem dn_mono {a b d : Int} (hd : 0 < d) (h : a ≤ b) : dn a d ≤ dn b d := Int.ediv_le_ediv hd h
theorem upd_mono {a b d : Int} (hd : 0 < d) (h : a ≤ b) : upd a d ≤ upd b d := by
  have := dn_mono (a := -b) (b := -a) hd (by omega)
  rw [upd_neg, upd_neg]
  omega
theorem between_mul2 {a b x n : Int} (h1 : a ≤ x) (h2 : x ≤ b) : min (a * n) (b * n) ≤ x * n ∧ x * n ≤ max (a * n) (b * n) := by
  rcases Int.le_total 0 n with h | h
  · have e1 := Int.mul_le_mul_of_nonneg_right h1 h
    have e2 := Int.mul_le_mul_of_nonneg_right h2 h
    omega
  · have e1 := Int.mul_le_mul_of_nonpos_right h1 h
    have e2 := Int.mul_le_mul_of_nonpos_right h2 h
    omega
set_option maxRecDepth 100000 in
set_option maxHeartbeats 12800000 in
theorem order_a (s1 s2 t1 t2 u1 u2 n d : Int) (w : World) (hne : ¬ s1 = t1) : Calls Try.prog 8 #[(.agg #[.int .i64 s1, .int .i64 s2]), (.agg #[.int .i64 t1, .int .i64 t2]), (.agg #[.int .i64 u1, .int .i64 u2]), (.int .i64 n), (.int .i64 d)] w (Ret w (.bool true)) := by
  have C2 := fun w => Within_c t1 t2 u1 u2 w
  have C3 := fun w => Within_c s1 s2 u1 u2 w
  rcases Bool.eq_false_or_eq_true (vE 1000000000000 s1 s2 && vE 1000000000000 t1 t2) with hv | hv
  ·
    have hv0 := hv
    rw [Bool.and_eq_true] at hv
    obtain ⟨h1, h2⟩ := hv
    have i1 := vE_iff.1 h1
    have i2 := vE_iff.1 h2
    have v1 : vWithin s1 s2 t1 t2 = true := hv0
    have v4 : vWithin t1 t2 s1 s2 = true := by unfold vWithin; simp [h1, h2]
    obtain ⟨A, hA⟩ : ∃ q, wI s1 s2 t1 t2 = q := ⟨_, rfl⟩
    obtain ⟨D, hD⟩ : ∃ q, wI t1 t2 s1 s2 = q := ⟨_, rfl⟩
    obtain ⟨B, hB⟩ : ∃ q, wI t1 t2 u1 u2 = q := ⟨_, rfl⟩
    obtain ⟨E, hE⟩ : ∃ q, wI s1 s2 u1 u2 = q := ⟨_, rfl⟩
    have C1 := fun w => Within_c s1 s2 t1 t2 w
    simp only [v1, selI, selB, erv, cond_true, cond_false, Bool.and_true, Bool.and_false, Bool.true_and, Bool.false_and] at C1
    rw [hA] at C1
    have C4 := fun w => Within_c t1 t2 s1 s2 w
    simp only [v4, selI, selB, erv, cond_true, cond_false, Bool.and_true, Bool.and_false, Bool.true_and, Bool.false_and] at C4
    rw [hD] at C4
    clear v1 v4
    have kAD : (A && D) = false := by rw [Bool.eq_false_iff, Ne, ← hA, ← hD, Bool.and_eq_true, wI_iff, wI_iff]; omega
    have kAB : (!A || (!B || E)) = true := by
      have key2 : wI s1 s2 t1 t2 = true → wI t1 t2 u1 u2 = true → wI s1 s2 u1 u2 = true := by simp only [wI_iff]; omega
      rw [hA, hB, hE] at key2
      clear hA hB hE hD kAD
      cases A <;> cases B <;> cases E <;> first | rfl | (exfalso; simp at key2)
    rcases Bool.eq_false_or_eq_true (vE 1000000000000 u1 u2) with h3 | h3
    ·
      have v2 : vWithin t1 t2 u1 u2 = true := by unfold vWithin; rw [h2, h3]; rfl
      have v3 : vWithin s1 s2 u1 u2 = true := by unfold vWithin; rw [h1, h3]; rfl
      simp only [v2, selI, selB, erv, cond_true, cond_false, Bool.and_true, Bool.and_false, Bool.true_and, Bool.false_and] at C2
      simp only [v3, selI, selB, erv, cond_true, cond_false, Bool.and_true, Bool.and_false, Bool.true_and, Bool.false_and] at C3
      rw [hB] at C2
      rw [hE] at C3
      clear v2 v3
      go_enter Try.func8, Try.ntmps8
      go_wp2_with fail
      refine Calls.mono (head_c _) ?_
      rintro e w1 ⟨rfl, hb⟩
      have ks0 : w1.cell? ⟨w.heap.size, 0, none⟩ = some (.int .i64 s1) := cell_later hb (by go_simp)
      have ks1 : w1.cell? ⟨w.heap.size, 1, none⟩ = some (.int .i64 s2) := cell_later hb (by go_simp)
      have kt0 : w1.cell? ⟨w.heap.size + 1, 0, none⟩ = some (.int .i64 t1) := cell_later hb (by go_simp)
      have kt1 : w1.cell? ⟨w.heap.size + 1, 1, none⟩ = some (.int .i64 t2) := cell_later hb (by go_simp)
      have ku0 : w1.cell? ⟨w.heap.size + 1 + 1, 0, none⟩ = some (.int .i64 u1) := cell_later hb (by go_simp)
      have ku1 : w1.cell? ⟨w.heap.size + 1 + 1, 1, none⟩ = some (.int .i64 u2) := cell_later hb (by go_simp)
      have zs : w.heap.size < w1.heap.size := World.block_lt_of_cell? _ _ ks0
      have zt : w.heap.size + 1 < w1.heap.size := World.block_lt_of_cell? _ _ kt0
      have zu : w.heap.size + 1 + 1 < w1.heap.size := World.block_lt_of_cell? _ _ ku0
      have hb0 : Below w.heap.size w w1 := (by repeat (first | exact Below.refl _ _ | assumption | refine bstep ?_ (by assumption) | refine Below.drew ?_ | refine balloc ?_ _ | refine Below.setCell ?_ (by first | omega | (simp <;> omega)) _))
      clear hb
      go_wp2_with fail
      refine Calls.mono (C1 _) ?_
      rintro e w2 ⟨rfl, hb⟩
      replace ks0 : w2.cell? ⟨w.heap.size, 0, none⟩ = some (.int .i64 s1) := cell_later hb (by first | (with_reducible exact ks0) | (with_reducible exact cell_al _ ks0) | (with_reducible exact cell_al _ (cell_al _ ks0)) | go_simp)
      replace ks1 : w2.cell? ⟨w.heap.size, 1, none⟩ = some (.int .i64 s2) := cell_later hb (by first | (with_reducible exact ks1) | (with_reducible exact cell_al _ ks1) | (with_reducible exact cell_al _ (cell_al _ ks1)) | go_simp)
      replace kt0 : w2.cell? ⟨w.heap.size + 1, 0, none⟩ = some (.int .i64 t1) := cell_later hb (by first | (with_reducible exact kt0) | (with_reducible exact cell_al _ kt0) | (with_reducible exact cell_al _ (cell_al _ kt0)) | go_simp)
      replace kt1 : w2.cell? ⟨w.heap.size + 1, 1, none⟩ = some (.int .i64 t2) := cell_later hb (by first | (with_reducible exact kt1) | (with_reducible exact cell_al _ kt1) | (with_reducible exact cell_al _ (cell_al _ kt1)) | go_simp)
      replace ku0 : w2.cell? ⟨w.heap.size + 1 + 1, 0, none⟩ = some (.int .i64 u1) := cell_later hb (by first | (with_reducible exact ku0) | (with_reducible exact cell_al _ ku0) | (with_reducible exact cell_al _ (cell_al _ ku0)) | go_simp)
      replace ku1 : w2.cell? ⟨w.heap.size + 1 + 1, 1, none⟩ = some (.int .i64 u2) := cell_later hb (by first | (with_reducible exact ku1) | (with_reducible exact cell_al _ ku1) | (with_reducible exact cell_al _ (cell_al _ ku1)) | go_simp)
      replace zs : w.heap.size < w2.heap.size := World.block_lt_of_cell? _ _ ks0
      replace zt : w.heap.size + 1 < w2.heap.size := World.block_lt_of_cell? _ _ kt0
      replace zu : w.heap.size + 1 + 1 < w2.heap.size := World.block_lt_of_cell? _ _ ku0
      replace hb0 : Below w.heap.size w w2 := (by repeat (first | exact Below.refl _ _ | assumption | refine bstep ?_ (by assumption) | refine Below.drew ?_ | refine balloc ?_ _ | refine Below.setCell ?_ (by first | omega | (simp <;> omega)) _))
      clear hb
      go_wp2_with fail
      refine Calls.mono (C2 _) ?_
      rintro e w3 ⟨rfl, hb⟩
      replace ks0 : w3.cell? ⟨w.heap.size, 0, none⟩ = some (.int .i64 s1) := cell_later hb (by first | (with_reducible exact ks0) | (with_reducible exact cell_al _ ks0) | (with_reducible exact cell_al _ (cell_al _ ks0)) | go_simp)
      replace ks1 : w3.cell? ⟨w.heap.size, 1, none⟩ = some (.int .i64 s2) := cell_later hb (by first | (with_reducible exact ks1) | (with_reducible exact cell_al _ ks1) | (with_reducible exact cell_al _ (cell_al _ ks1)) | go_simp)
      replace kt0 : w3.cell? ⟨w.heap.size + 1, 0, none⟩ = some (.int .i64 t1) := cell_later hb (by first | (with_reducible exact kt0) | (with_reducible exact cell_al _ kt0) | (with_reducible exact cell_al _ (cell_al _ kt0)) | go_simp)
      replace kt1 : w3.cell? ⟨w.heap.size + 1, 1, none⟩ = some (.int .i64 t2) := cell_later hb (by first | (with_reducible exact kt1) | (with_reducible exact cell_al _ kt1) | (with_reducible exact cell_al _ (cell_al _ kt1)) | go_simp)
      replace ku0 : w3.cell? ⟨w.heap.size + 1 + 1, 0, none⟩ = some (.int .i64 u1) := cell_later hb (by first | (with_reducible exact ku0) | (with_reducible exact cell_al _ ku0) | (with_reducible exact cell_al _ (cell_al _ ku0)) | go_simp)
      replace ku1 : w3.cell? ⟨w.heap.size + 1 + 1, 1, none⟩ = some (.int .i64 u2) := cell_later hb (by first | (with_reducible exact ku1) | (with_reducible exact cell_al _ ku1) | (with_reducible exact cell_al _ (cell_al _ ku1)) | go_simp)
      replace zs : w.heap.size < w3.heap.size := World.block_lt_of_cell? _ _ ks0
      replace zt : w.heap.size + 1 < w3.heap.size := World.block_lt_of_cell? _ _ kt0
      replace zu : w.heap.size + 1 + 1 < w3.heap.size := World.block_lt_of_cell? _ _ ku0
      replace hb0 : Below w.heap.size w w3 := (by repeat (first | exact Below.refl _ _ | assumption | refine bstep ?_ (by assumption) | refine Below.drew ?_ | refine balloc ?_ _ | refine Below.setCell ?_ (by first | omega | (simp <;> omega)) _))
      clear hb
      go_wp2_with fail
      refine Calls.mono (C3 _) ?_
      rintro e w4 ⟨rfl, hb⟩
      replace ks0 : w4.cell? ⟨w.heap.size, 0, none⟩ = some (.int .i64 s1) := cell_later hb (by first | (with_reducible exact ks0) | (with_reducible exact cell_al _ ks0) | (with_reducible exact cell_al _ (cell_al _ ks0)) | go_simp)
      replace ks1 : w4.cell? ⟨w.heap.size, 1, none⟩ = some (.int .i64 s2) := cell_later hb (by first | (with_reducible exact ks1) | (with_reducible exact cell_al _ ks1) | (with_reducible exact cell_al _ (cell_al _ ks1)) | go_simp)
      replace kt0 : w4.cell? ⟨w.heap.size + 1, 0, none⟩ = some (.int .i64 t1) := cell_later hb (by first | (with_reducible exact kt0) | (with_reducible exact cell_al _ kt0) | (with_reducible exact cell_al _ (cell_al _ kt0)) | go_simp)
      replace kt1 : w4.cell? ⟨w.heap.size + 1, 1, none⟩ = some (.int .i64 t2) := cell_later hb (by first | (with_reducible exact kt1) | (with_reducible exact cell_al _ kt1) | (with_reducible exact cell_al _ (cell_al _ kt1)) | go_simp)
      replace ku0 : w4.cell? ⟨w.heap.size + 1 + 1, 0, none⟩ = some (.int .i64 u1) := cell_later hb (by first | (with_reducible exact ku0) | (with_reducible exact cell_al _ ku0) | (with_reducible exact cell_al _ (cell_al _ ku0)) | go_simp)
      replace ku1 : w4.cell? ⟨w.heap.size + 1 + 1, 1, none⟩ = some (.int .i64 u2) := cell_later hb (by first | (with_reducible exact ku1) | (with_reducible exact cell_al _ ku1) | (with_reducible exact cell_al _ (cell_al _ ku1)) | go_simp)
      replace zs : w.heap.size < w4.heap.size := World.block_lt_of_cell? _ _ ks0
      replace zt : w.heap.size + 1 < w4.heap.size := World.block_lt_of_cell? _ _ kt0
      replace zu : w.heap.size + 1 + 1 < w4.heap.size := World.block_lt_of_cell? _ _ ku0
      replace hb0 : Below w.heap.size w w4 := (by repeat (first | exact Below.refl _ _ | assumption | refine bstep ?_ (by assumption) | refine Below.drew ?_ | refine balloc ?_ _ | refine Below.setCell ?_ (by first | omega | (simp <;> omega)) _))
      clear hb
      go_wp2_with fail
      refine Calls.mono (C4 _) ?_
      rintro e w5 ⟨rfl, hb⟩
      replace ks0 : w5.cell? ⟨w.heap.size, 0, none⟩ = some (.int .i64 s1) := cell_later hb (by first | (with_reducible exact ks0) | (with_reducible exact cell_al _ ks0) | (with_reducible exact cell_al _ (cell_al _ ks0)) | go_simp)
      replace ks1 : w5.cell? ⟨w.heap.size, 1, none⟩ = some (.int .i64 s2) := cell_later hb (by first | (with_reducible exact ks1) | (with_reducible exact cell_al _ ks1) | (with_reducible exact cell_al _ (cell_al _ ks1)) | go_simp)
      replace kt0 : w5.cell? ⟨w.heap.size + 1, 0, none⟩ = some (.int .i64 t1) := cell_later hb (by first | (with_reducible exact kt0) | (with_reducible exact cell_al _ kt0) | (with_reducible exact cell_al _ (cell_al _ kt0)) | go_simp)
      replace kt1 : w5.cell? ⟨w.heap.size + 1, 1, none⟩ = some (.int .i64 t2) := cell_later hb (by first | (with_reducible exact kt1) | (with_reducible exact cell_al _ kt1) | (with_reducible exact cell_al _ (cell_al _ kt1)) | go_simp)
      replace ku0 : w5.cell? ⟨w.heap.size + 1 + 1, 0, none⟩ = some (.int .i64 u1) := cell_later hb (by first | (with_reducible exact ku0) | (with_reducible exact cell_al _ ku0) | (with_reducible exact cell_al _ (cell_al _ ku0)) | go_simp)
      replace ku1 : w5.cell? ⟨w.heap.size + 1 + 1, 1, none⟩ = some (.int .i64 u2) := cell_later hb (by first | (with_reducible exact ku1) | (with_reducible exact cell_al _ ku1) | (with_reducible exact cell_al _ (cell_al _ ku1)) | go_simp)
      replace zs : w.heap.size < w5.heap.size := World.block_lt_of_cell? _ _ ks0
      replace zt : w.heap.size + 1 < w5.heap.size := World.block_lt_of_cell? _ _ kt0
      replace zu : w.heap.size + 1 + 1 < w5.heap.size := World.block_lt_of_cell? _ _ ku0
      replace hb0 : Below w.heap.size w w5 := (by repeat (first | exact Below.refl _ _ | assumption | refine bstep ?_ (by assumption) | refine Below.drew ?_ | refine balloc ?_ _ | refine Below.setCell ?_ (by first | omega | (simp <;> omega)) _))
      clear hb
      go_upto_region 8 with fail
      go_cut [11] (fun s11 wx => s11 = .bool true ∧ wx.cell? ⟨w.heap.size, 0, none⟩ = some (.int .i64 s1) ∧ wx.cell? ⟨w.heap.size, 1, none⟩ = some (.int .i64 s2) ∧ wx.cell? ⟨w.heap.size + 1, 0, none⟩ = some (.int .i64 t1) ∧ wx.cell? ⟨w.heap.size + 1, 1, none⟩ = some (.int .i64 t2) ∧ wx.cell? ⟨w.heap.size + 1 + 1, 0, none⟩ = some (.int .i64 u1) ∧ wx.cell? ⟨w.heap.size + 1 + 1, 1, none⟩ = some (.int .i64 u2) ∧ Below w.heap.size w wx)
      case first =>
        clear C1 C2 C3 C4 hA hB hE hD kAB
        cases A <;> cases D
        all_goals first | (exact absurd kAD (by decide)) | skip
        all_goals
          go_wp2_with fail
          all_goals
            go_meet
            refine ⟨?_, ?_, ?_, ?_, ?_, ?_, ?_, (by repeat (first | exact Below.refl _ _ | assumption | refine bstep ?_ (by assumption) | refine Below.drew ?_ | refine balloc ?_ _ | refine Below.setCell ?_ (by first | omega | (simp <;> omega)) _))⟩
            all_goals first | (with_reducible assumption) | (go_simp; done) | rfl | (refine congrArg Value.bool ?_; rw [Bool.eq_iff_iff]; rfl)
      case rest =>
        obtain ⟨rfl, ks0, ks1, kt0, kt1, ku0, ku1, hb0⟩ := hcut
        have zs : w.heap.size < wc.heap.size := World.block_lt_of_cell? _ _ ks0
        have zt : w.heap.size + 1 < wc.heap.size := World.block_lt_of_cell? _ _ kt0
        have zu : w.heap.size + 1 + 1 < wc.heap.size := World.block_lt_of_cell? _ _ ku0
        go_upto_region 10 with fail
        go_cut [11] (fun s11 wx => s11 = .bool true ∧ wx.cell? ⟨w.heap.size, 0, none⟩ = some (.int .i64 s1) ∧ wx.cell? ⟨w.heap.size, 1, none⟩ = some (.int .i64 s2) ∧ wx.cell? ⟨w.heap.size + 1, 0, none⟩ = some (.int .i64 t1) ∧ wx.cell? ⟨w.heap.size + 1, 1, none⟩ = some (.int .i64 t2) ∧ wx.cell? ⟨w.heap.size + 1 + 1, 0, none⟩ = some (.int .i64 u1) ∧ wx.cell? ⟨w.heap.size + 1 + 1, 1, none⟩ = some (.int .i64 u2) ∧ Below w.heap.size w wx)
        case first =>
          clear C1 C2 C3 C4 hA hB hE hD kAD
          cases A <;> cases B <;> cases E
          all_goals first | (exact absurd kAB (by decide)) | skip
          all_goals
            go_wp2_with fail
            all_goals
              go_meet
              refine ⟨?_, ?_, ?_, ?_, ?_, ?_, ?_, (by repeat (first | exact Below.refl _ _ | assumption | refine bstep ?_ (by assumption) | refine Below.drew ?_ | refine balloc ?_ _ | refine Below.setCell ?_ (by first | omega | (simp <;> omega)) _))⟩
              all_goals first | (with_reducible assumption) | (go_simp; done) | rfl | (refine congrArg Value.bool ?_; rw [Bool.eq_iff_iff]; rfl)
        case rest =>
          obtain ⟨rfl, ks0, ks1, kt0, kt1, ku0, ku1, hb0⟩ := hcut
          have zs : w.heap.size < wc.heap.size := World.block_lt_of_cell? _ _ ks0
          have zt : w.heap.size + 1 < wc.heap.size := World.block_lt_of_cell? _ _ kt0
          have zu : w.heap.size + 1 + 1 < wc.heap.size := World.block_lt_of_cell? _ _ ku0
          rcases Bool.eq_false_or_eq_true (kS n d) with hk | hk
          ·
            rcases Bool.eq_false_or_eq_true (rScale s1 s2 n d) with r1 | r1
            ·
              rcases Bool.eq_false_or_eq_true (rScale t1 t2 n d) with r2 | r2
              ·
                have vss : vScale s1 s2 n d = true := by unfold vScale; rw [h1, hk]; rfl
                have C5 := fun w => Scale_c s1 s2 n d w
                simp only [vss, r1, selI, selB, erv, cond_true, cond_false, Bool.and_true, Bool.and_false, Bool.true_and, Bool.false_and] at C5
                clear vss
                have vst : vScale t1 t2 n d = true := by unfold vScale; rw [h2, hk]; rfl
                have C6 := fun w => Scale_c t1 t2 n d w
                simp only [vst, r2, selI, selB, erv, cond_true, cond_false, Bool.and_true, Bool.and_false, Bool.true_and, Bool.false_and] at C6
                clear vst
                have kk := kS_iff.1 hk
                have g1 : vE 1000000000000 (dn (min (s1 * n) (s2 * n)) d) (upd (max (s1 * n) (s2 * n)) d) = true := r1
                have g2 : vE 1000000000000 (dn (min (t1 * n) (t2 * n)) d) (upd (max (t1 * n) (t2 * n)) d) = true := r2
                cases A
                ·
                  go_wp2_with fail
                  refine Calls.mono (C5 _) ?_
                  rintro e w6 ⟨rfl, hb⟩
                  replace ks0 : w6.cell? ⟨w.heap.size, 0, none⟩ = some (.int .i64 s1) := cell_later hb (by first | (with_reducible exact ks0) | (with_reducible exact cell_al _ ks0) | (with_reducible exact cell_al _ (cell_al _ ks0)) | go_simp)
                  replace ks1 : w6.cell? ⟨w.heap.size, 1, none⟩ = some (.int .i64 s2) := cell_later hb (by first | (with_reducible exact ks1) | (with_reducible exact cell_al _ ks1) | (with_reducible exact cell_al _ (cell_al _ ks1)) | go_simp)
                  replace kt0 : w6.cell? ⟨w.heap.size + 1, 0, none⟩ = some (.int .i64 t1) := cell_later hb (by first | (with_reducible exact kt0) | (with_reducible exact cell_al _ kt0) | (with_reducible exact cell_al _ (cell_al _ kt0)) | go_simp)
                  replace kt1 : w6.cell? ⟨w.heap.size + 1, 1, none⟩ = some (.int .i64 t2) := cell_later hb (by first | (with_reducible exact kt1) | (with_reducible exact cell_al _ kt1) | (with_reducible exact cell_al _ (cell_al _ kt1)) | go_simp)
                  replace ku0 : w6.cell? ⟨w.heap.size + 1 + 1, 0, none⟩ = some (.int .i64 u1) := cell_later hb (by first | (with_reducible exact ku0) | (with_reducible exact cell_al _ ku0) | (with_reducible exact cell_al _ (cell_al _ ku0)) | go_simp)
                  replace ku1 : w6.cell? ⟨w.heap.size + 1 + 1, 1, none⟩ = some (.int .i64 u2) := cell_later hb (by first | (with_reducible exact ku1) | (with_reducible exact cell_al _ ku1) | (with_reducible exact cell_al _ (cell_al _ ku1)) | go_simp)
                  replace zs : w.heap.size < w6.heap.size := World.block_lt_of_cell? _ _ ks0
                  replace zt : w.heap.size + 1 < w6.heap.size := World.block_lt_of_cell? _ _ kt0
                  replace zu : w.heap.size + 1 + 1 < w6.heap.size := World.block_lt_of_cell? _ _ ku0
                  replace hb0 : Below w.heap.size w w6 := (by repeat (first | exact Below.refl _ _ | assumption | refine bstep ?_ (by assumption) | refine Below.drew ?_ | refine balloc ?_ _ | refine Below.setCell ?_ (by first | omega | (simp <;> omega)) _))
                  clear hb
                  go_wp2_with fail
                  refine Calls.mono (C6 _) ?_
                  rintro e w7 ⟨rfl, hb⟩
                  replace ks0 : w7.cell? ⟨w.heap.size, 0, none⟩ = some (.int .i64 s1) := cell_later hb (by first | (with_reducible exact ks0) | (with_reducible exact cell_al _ ks0) | (with_reducible exact cell_al _ (cell_al _ ks0)) | go_simp)
                  replace ks1 : w7.cell? ⟨w.heap.size, 1, none⟩ = some (.int .i64 s2) := cell_later hb (by first | (with_reducible exact ks1) | (with_reducible exact cell_al _ ks1) | (with_reducible exact cell_al _ (cell_al _ ks1)) | go_simp)
                  replace kt0 : w7.cell? ⟨w.heap.size + 1, 0, none⟩ = some (.int .i64 t1) := cell_later hb (by first | (with_reducible exact kt0) | (with_reducible exact cell_al _ kt0) | (with_reducible exact cell_al _ (cell_al _ kt0)) | go_simp)
                  replace kt1 : w7.cell? ⟨w.heap.size + 1, 1, none⟩ = some (.int .i64 t2) := cell_later hb (by first | (with_reducible exact kt1) | (with_reducible exact cell_al _ kt1) | (with_reducible exact cell_al _ (cell_al _ kt1)) | go_simp)
                  replace ku0 : w7.cell? ⟨w.heap.size + 1 + 1, 0, none⟩ = some (.int .i64 u1) := cell_later hb (by first | (with_reducible exact ku0) | (with_reducible exact cell_al _ ku0) | (with_reducible exact cell_al _ (cell_al _ ku0)) | go_simp)
                  replace ku1 : w7.cell? ⟨w.heap.size + 1 + 1, 1, none⟩ = some (.int .i64 u2) := cell_later hb (by first | (with_reducible exact ku1) | (with_reducible exact cell_al _ ku1) | (with_reducible exact cell_al _ (cell_al _ ku1)) | go_simp)
                  have kx0 : w7.cell? ⟨w6.heap.size, 0, none⟩ = some (.int .i64 (dn (min (s1 * n) (s2 * n)) d)) := cell_later hb (by go_simp)
                  have kx1 : w7.cell? ⟨w6.heap.size, 1, none⟩ = some (.int .i64 (upd (max (s1 * n) (s2 * n)) d)) := cell_later hb (by go_simp)
                  replace zs : w.heap.size < w7.heap.size := World.block_lt_of_cell? _ _ ks0
                  replace zt : w.heap.size + 1 < w7.heap.size := World.block_lt_of_cell? _ _ kt0
                  replace zu : w.heap.size + 1 + 1 < w7.heap.size := World.block_lt_of_cell? _ _ ku0
                  have zx : w6.heap.size < w7.heap.size := World.block_lt_of_cell? _ _ kx0
                  replace hb0 : Below w.heap.size w w7 := (by repeat (first | exact Below.refl _ _ | assumption | refine bstep ?_ (by assumption) | refine Below.drew ?_ | refine balloc ?_ _ | refine Below.setCell ?_ (by first | omega | (simp <;> omega)) _))
                  clear hb
                  go_wp2
                  all_goals first | (exfalso; omega) | (go_ret; refine ret_bool ?_ (by repeat (first | exact Below.refl _ _ | assumption | refine bstep ?_ (by assumption) | refine Below.drew ?_ | refine balloc ?_ _ | refine Below.setCell ?_ (by first | omega | (simp <;> omega)) _)); first | (simp; done) | (simp <;> omega))
                ·
                  have ha2 := wI_iff.1 hA
                  have f1 := between_mul2 (n := n) (a := t1) (b := t2) (x := s1) (by omega) (by omega)
                  have f2 := between_mul2 (n := n) (a := t1) (b := t2) (x := s2) (by omega) (by omega)
                  have f3 := dn_mono (a := min (t1 * n) (t2 * n)) (b := min (s1 * n) (s2 * n)) (d := d) (by omega) (by omega)
                  have f4 := upd_mono (a := max (s1 * n) (s2 * n)) (b := max (t1 * n) (t2 * n)) (d := d) (by omega) (by omega)
                  clear f1 f2 ha2 kk r1 r2
                  generalize dn (min (s1 * n) (s2 * n)) d = X1 at *
                  generalize upd (max (s1 * n) (s2 * n)) d = X2 at *
                  generalize dn (min (t1 * n) (t2 * n)) d = Y1 at *
                  generalize upd (max (t1 * n) (t2 * n)) d = Y2 at *
                  have v7 : vWithin X1 X2 Y1 Y2 = true := by unfold vWithin; rw [g1, g2]; rfl
                  have w7 : wI X1 X2 Y1 Y2 = true := by rw [wI_iff]; omega
                  have C7 := fun w => Within_c X1 X2 Y1 Y2 w
                  simp only [v7, w7, selI, selB, erv, cond_true, cond_false, Bool.and_true, Bool.and_false, Bool.true_and, Bool.false_and] at C7
                  clear v7 w7
                  go_wp2_with fail
                  refine Calls.mono (C5 _) ?_
                  rintro e w6 ⟨rfl, hb⟩
                  replace ks0 : w6.cell? ⟨w.heap.size, 0, none⟩ = some (.int .i64 s1) := cell_later hb (by first | (with_reducible exact ks0) | (with_reducible exact cell_al _ ks0) | (with_reducible exact cell_al _ (cell_al _ ks0)) | go_simp)
                  replace ks1 : w6.cell? ⟨w.heap.size, 1, none⟩ = some (.int .i64 s2) := cell_later hb (by first | (with_reducible exact ks1) | (with_reducible exact cell_al _ ks1) | (with_reducible exact cell_al _ (cell_al _ ks1)) | go_simp)
                  replace kt0 : w6.cell? ⟨w.heap.size + 1, 0, none⟩ = some (.int .i64 t1) := cell_later hb (by first | (with_reducible exact kt0) | (with_reducible exact cell_al _ kt0) | (with_reducible exact cell_al _ (cell_al _ kt0)) | go_simp)
                  replace kt1 : w6.cell? ⟨w.heap.size + 1, 1, none⟩ = some (.int .i64 t2) := cell_later hb (by first | (with_reducible exact kt1) | (with_reducible exact cell_al _ kt1) | (with_reducible exact cell_al _ (cell_al _ kt1)) | go_simp)
                  replace ku0 : w6.cell? ⟨w.heap.size + 1 + 1, 0, none⟩ = some (.int .i64 u1) := cell_later hb (by first | (with_reducible exact ku0) | (with_reducible exact cell_al _ ku0) | (with_reducible exact cell_al _ (cell_al _ ku0)) | go_simp)
                  replace ku1 : w6.cell? ⟨w.heap.size + 1 + 1, 1, none⟩ = some (.int .i64 u2) := cell_later hb (by first | (with_reducible exact ku1) | (with_reducible exact cell_al _ ku1) | (with_reducible exact cell_al _ (cell_al _ ku1)) | go_simp)
                  replace zs : w.heap.size < w6.heap.size := World.block_lt_of_cell? _ _ ks0
                  replace zt : w.heap.size + 1 < w6.heap.size := World.block_lt_of_cell? _ _ kt0
                  replace zu : w.heap.size + 1 + 1 < w6.heap.size := World.block_lt_of_cell? _ _ ku0
                  replace hb0 : Below w.heap.size w w6 := (by repeat (first | exact Below.refl _ _ | assumption | refine bstep ?_ (by assumption) | refine Below.drew ?_ | refine balloc ?_ _ | refine Below.setCell ?_ (by first | omega | (simp <;> omega)) _))
                  clear hb
                  go_wp2_with fail
                  refine Calls.mono (C6 _) ?_
                  rintro e w7 ⟨rfl, hb⟩
                  replace ks0 : w7.cell? ⟨w.heap.size, 0, none⟩ = some (.int .i64 s1) := cell_later hb (by first | (with_reducible exact ks0) | (with_reducible exact cell_al _ ks0) | (with_reducible exact cell_al _ (cell_al _ ks0)) | go_simp)
                  replace ks1 : w7.cell? ⟨w.heap.size, 1, none⟩ = some (.int .i64 s2) := cell_later hb (by first | (with_reducible exact ks1) | (with_reducible exact cell_al _ ks1) | (with_reducible exact cell_al _ (cell_al _ ks1)) | go_simp)
                  replace kt0 : w7.cell? ⟨w.heap.size + 1, 0, none⟩ = some (.int .i64 t1) := cell_later hb (by first | (with_reducible exact kt0) | (with_reducible exact cell_al _ kt0) | (with_reducible exact cell_al _ (cell_al _ kt0)) | go_simp)
                  replace kt1 : w7.cell? ⟨w.heap.size + 1, 1, none⟩ = some (.int .i64 t2) := cell_later hb (by first | (with_reducible exact kt1) | (with_reducible exact cell_al _ kt1) | (with_reducible exact cell_al _ (cell_al _ kt1)) | go_simp)
                  replace ku0 : w7.cell? ⟨w.heap.size + 1 + 1, 0, none⟩ = some (.int .i64 u1) := cell_later hb (by first | (with_reducible exact ku0) | (with_reducible exact cell_al _ ku0) | (with_reducible exact cell_al _ (cell_al _ ku0)) | go_simp)
                  replace ku1 : w7.cell? ⟨w.heap.size + 1 + 1, 1, none⟩ = some (.int .i64 u2) := cell_later hb (by first | (with_reducible exact ku1) | (with_reducible exact cell_al _ ku1) | (with_reducible exact cell_al _ (cell_al _ ku1)) | go_simp)
                  have kx0 : w7.cell? ⟨w6.heap.size, 0, none⟩ = some (.int .i64 X1) := cell_later hb (by go_simp)
                  have kx1 : w7.cell? ⟨w6.heap.size, 1, none⟩ = some (.int .i64 X2) := cell_later hb (by go_simp)
                  replace zs : w.heap.size < w7.heap.size := World.block_lt_of_cell? _ _ ks0
                  replace zt : w.heap.size + 1 < w7.heap.size := World.block_lt_of_cell? _ _ kt0
                  replace zu : w.heap.size + 1 + 1 < w7.heap.size := World.block_lt_of_cell? _ _ ku0
                  have zx : w6.heap.size < w7.heap.size := World.block_lt_of_cell? _ _ kx0
                  replace hb0 : Below w.heap.size w w7 := (by repeat (first | exact Below.refl _ _ | assumption | refine bstep ?_ (by assumption) | refine Below.drew ?_ | refine balloc ?_ _ | refine Below.setCell ?_ (by first | omega | (simp <;> omega)) _))
                  clear hb
                  go_wp2_with fail
                  refine Calls.mono (C7 _) ?_
                  rintro e w8 ⟨rfl, hb⟩
                  replace ks0 : w8.cell? ⟨w.heap.size, 0, none⟩ = some (.int .i64 s1) := cell_later hb (by first | (with_reducible exact ks0) | (with_reducible exact cell_al _ ks0) | (with_reducible exact cell_al _ (cell_al _ ks0)) | go_simp)
                  replace ks1 : w8.cell? ⟨w.heap.size, 1, none⟩ = some (.int .i64 s2) := cell_later hb (by first | (with_reducible exact ks1) | (with_reducible exact cell_al _ ks1) | (with_reducible exact cell_al _ (cell_al _ ks1)) | go_simp)
                  replace kt0 : w8.cell? ⟨w.heap.size + 1, 0, none⟩ = some (.int .i64 t1) := cell_later hb (by first | (with_reducible exact kt0) | (with_reducible exact cell_al _ kt0) | (with_reducible exact cell_al _ (cell_al _ kt0)) | go_simp)
                  replace kt1 : w8.cell? ⟨w.heap.size + 1, 1, none⟩ = some (.int .i64 t2) := cell_later hb (by first | (with_reducible exact kt1) | (with_reducible exact cell_al _ kt1) | (with_reducible exact cell_al _ (cell_al _ kt1)) | go_simp)
                  replace ku0 : w8.cell? ⟨w.heap.size + 1 + 1, 0, none⟩ = some (.int .i64 u1) := cell_later hb (by first | (with_reducible exact ku0) | (with_reducible exact cell_al _ ku0) | (with_reducible exact cell_al _ (cell_al _ ku0)) | go_simp)
                  replace ku1 : w8.cell? ⟨w.heap.size + 1 + 1, 1, none⟩ = some (.int .i64 u2) := cell_later hb (by first | (with_reducible exact ku1) | (with_reducible exact cell_al _ ku1) | (with_reducible exact cell_al _ (cell_al _ ku1)) | go_simp)
                  replace kx0 : w8.cell? ⟨w6.heap.size, 0, none⟩ = some (.int .i64 X1) := cell_later hb (by first | (with_reducible exact kx0) | (with_reducible exact cell_al _ kx0) | (with_reducible exact cell_al _ (cell_al _ kx0)) | go_simp)
                  replace kx1 : w8.cell? ⟨w6.heap.size, 1, none⟩ = some (.int .i64 X2) := cell_later hb (by first | (with_reducible exact kx1) | (with_reducible exact cell_al _ kx1) | (with_reducible exact cell_al _ (cell_al _ kx1)) | go_simp)
                  have ky0 : w8.cell? ⟨w7.heap.size, 0, none⟩ = some (.int .i64 Y1) := cell_later hb (by go_simp)
                  have ky1 : w8.cell? ⟨w7.heap.size, 1, none⟩ = some (.int .i64 Y2) := cell_later hb (by go_simp)
                  replace zs : w.heap.size < w8.heap.size := World.block_lt_of_cell? _ _ ks0
                  replace zt : w.heap.size + 1 < w8.heap.size := World.block_lt_of_cell? _ _ kt0
                  replace zu : w.heap.size + 1 + 1 < w8.heap.size := World.block_lt_of_cell? _ _ ku0
                  replace zx : w6.heap.size < w8.heap.size := World.block_lt_of_cell? _ _ kx0
                  have zy : w7.heap.size < w8.heap.size := World.block_lt_of_cell? _ _ ky0
                  replace hb0 : Below w.heap.size w w8 := (by repeat (first | exact Below.refl _ _ | assumption | refine bstep ?_ (by assumption) | refine Below.drew ?_ | refine balloc ?_ _ | refine Below.setCell ?_ (by first | omega | (simp <;> omega)) _))
                  clear hb
                  go_wp2
                  all_goals first | (exfalso; omega) | (go_ret; refine ret_bool ?_ (by repeat (first | exact Below.refl _ _ | assumption | refine bstep ?_ (by assumption) | refine Below.drew ?_ | refine balloc ?_ _ | refine Below.setCell ?_ (by first | omega | (simp <;> omega)) _)); first | (simp; done) | (simp <;> omega))
              ·
                have vss : vScale s1 s2 n d = true := by unfold vScale; rw [h1, hk]; rfl
                have C5 := fun w => Scale_c s1 s2 n d w
                simp only [vss, r1, selI, selB, erv, cond_true, cond_false, Bool.and_true, Bool.and_false, Bool.true_and, Bool.false_and] at C5
                clear vss
                have vst : vScale t1 t2 n d = true := by unfold vScale; rw [h2, hk]; rfl
                have C6 := fun w => Scale_c t1 t2 n d w
                simp only [vst, r2, selI, selB, erv, cond_true, cond_false, Bool.and_true, Bool.and_false, Bool.true_and, Bool.false_and] at C6
                clear vst
                go_wp2_with fail
                refine Calls.mono (C5 _) ?_
                rintro e w6 ⟨rfl, hb⟩
                replace ks0 : w6.cell? ⟨w.heap.size, 0, none⟩ = some (.int .i64 s1) := cell_later hb (by first | (with_reducible exact ks0) | (with_reducible exact cell_al _ ks0) | (with_reducible exact cell_al _ (cell_al _ ks0)) | go_simp)
                replace ks1 : w6.cell? ⟨w.heap.size, 1, none⟩ = some (.int .i64 s2) := cell_later hb (by first | (with_reducible exact ks1) | (with_reducible exact cell_al _ ks1) | (with_reducible exact cell_al _ (cell_al _ ks1)) | go_simp)
                replace kt0 : w6.cell? ⟨w.heap.size + 1, 0, none⟩ = some (.int .i64 t1) := cell_later hb (by first | (with_reducible exact kt0) | (with_reducible exact cell_al _ kt0) | (with_reducible exact cell_al _ (cell_al _ kt0)) | go_simp)
                replace kt1 : w6.cell? ⟨w.heap.size + 1, 1, none⟩ = some (.int .i64 t2) := cell_later hb (by first | (with_reducible exact kt1) | (with_reducible exact cell_al _ kt1) | (with_reducible exact cell_al _ (cell_al _ kt1)) | go_simp)
                replace ku0 : w6.cell? ⟨w.heap.size + 1 + 1, 0, none⟩ = some (.int .i64 u1) := cell_later hb (by first | (with_reducible exact ku0) | (with_reducible exact cell_al _ ku0) | (with_reducible exact cell_al _ (cell_al _ ku0)) | go_simp)
                replace ku1 : w6.cell? ⟨w.heap.size + 1 + 1, 1, none⟩ = some (.int .i64 u2) := cell_later hb (by first | (with_reducible exact ku1) | (with_reducible exact cell_al _ ku1) | (with_reducible exact cell_al _ (cell_al _ ku1)) | go_simp)
                replace zs : w.heap.size < w6.heap.size := World.block_lt_of_cell? _ _ ks0
                replace zt : w.heap.size + 1 < w6.heap.size := World.block_lt_of_cell? _ _ kt0
                replace zu : w.heap.size + 1 + 1 < w6.heap.size := World.block_lt_of_cell? _ _ ku0
                replace hb0 : Below w.heap.size w w6 := (by repeat (first | exact Below.refl _ _ | assumption | refine bstep ?_ (by assumption) | refine Below.drew ?_ | refine balloc ?_ _ | refine Below.setCell ?_ (by first | omega | (simp <;> omega)) _))
                clear hb
                go_wp2_with fail
                refine Calls.mono (C6 _) ?_
                rintro e w7 ⟨rfl, hb⟩
                replace ks0 : w7.cell? ⟨w.heap.size, 0, none⟩ = some (.int .i64 s1) := cell_later hb (by first | (with_reducible exact ks0) | (with_reducible exact cell_al _ ks0) | (with_reducible exact cell_al _ (cell_al _ ks0)) | go_simp)
                replace ks1 : w7.cell? ⟨w.heap.size, 1, none⟩ = some (.int .i64 s2) := cell_later hb (by first | (with_reducible exact ks1) | (with_reducible exact cell_al _ ks1) | (with_reducible exact cell_al _ (cell_al _ ks1)) | go_simp)
                replace kt0 : w7.cell? ⟨w.heap.size + 1, 0, none⟩ = some (.int .i64 t1) := cell_later hb (by first | (with_reducible exact kt0) | (with_reducible exact cell_al _ kt0) | (with_reducible exact cell_al _ (cell_al _ kt0)) | go_simp)
                replace kt1 : w7.cell? ⟨w.heap.size + 1, 1, none⟩ = some (.int .i64 t2) := cell_later hb (by first | (with_reducible exact kt1) | (with_reducible exact cell_al _ kt1) | (with_reducible exact cell_al _ (cell_al _ kt1)) | go_simp)
                replace ku0 : w7.cell? ⟨w.heap.size + 1 + 1, 0, none⟩ = some (.int .i64 u1) := cell_later hb (by first | (with_reducible exact ku0) | (with_reducible exact cell_al _ ku0) | (with_reducible exact cell_al _ (cell_al _ ku0)) | go_simp)
                replace ku1 : w7.cell? ⟨w.heap.size + 1 + 1, 1, none⟩ = some (.int .i64 u2) := cell_later hb (by first | (with_reducible exact ku1) | (with_reducible exact cell_al _ ku1) | (with_reducible exact cell_al _ (cell_al _ ku1)) | go_simp)
                have kx0 : w7.cell? ⟨w6.heap.size, 0, none⟩ = some (.int .i64 (dn (min (s1 * n) (s2 * n)) d)) := cell_later hb (by go_simp)
                have kx1 : w7.cell? ⟨w6.heap.size, 1, none⟩ = some (.int .i64 (upd (max (s1 * n) (s2 * n)) d)) := cell_later hb (by go_simp)
                replace zs : w.heap.size < w7.heap.size := World.block_lt_of_cell? _ _ ks0
                replace zt : w.heap.size + 1 < w7.heap.size := World.block_lt_of_cell? _ _ kt0
                replace zu : w.heap.size + 1 + 1 < w7.heap.size := World.block_lt_of_cell? _ _ ku0
                have zx : w6.heap.size < w7.heap.size := World.block_lt_of_cell? _ _ kx0
                replace hb0 : Below w.heap.size w w7 := (by repeat (first | exact Below.refl _ _ | assumption | refine bstep ?_ (by assumption) | refine Below.drew ?_ | refine balloc ?_ _ | refine Below.setCell ?_ (by first | omega | (simp <;> omega)) _))
                clear hb
                go_wp2
                all_goals first | (exfalso; omega) | (go_ret; refine ret_bool ?_ (by repeat (first | exact Below.refl _ _ | assumption | refine bstep ?_ (by assumption) | refine Below.drew ?_ | refine balloc ?_ _ | refine Below.setCell ?_ (by first | omega | (simp <;> omega)) _)); first | (simp; done) | (simp <;> omega))
            ·
              have vss : vScale s1 s2 n d = true := by unfold vScale; rw [h1, hk]; rfl
              have C5 := fun w => Scale_c s1 s2 n d w
              simp only [vss, r1, selI, selB, erv, cond_true, cond_false, Bool.and_true, Bool.and_false, Bool.true_and, Bool.false_and] at C5
              clear vss
              have C6 := fun w => Scale_c t1 t2 n d w
              go_wp2_with fail
              refine Calls.mono (C5 _) ?_
              rintro e w6 ⟨rfl, hb⟩
              replace ks0 : w6.cell? ⟨w.heap.size, 0, none⟩ = some (.int .i64 s1) := cell_later hb (by first | (with_reducible exact ks0) | (with_reducible exact cell_al _ ks0) | (with_reducible exact cell_al _ (cell_al _ ks0)) | go_simp)
              replace ks1 : w6.cell? ⟨w.heap.size, 1, none⟩ = some (.int .i64 s2) := cell_later hb (by first | (with_reducible exact ks1) | (with_reducible exact cell_al _ ks1) | (with_reducible exact cell_al _ (cell_al _ ks1)) | go_simp)
              replace kt0 : w6.cell? ⟨w.heap.size + 1, 0, none⟩ = some (.int .i64 t1) := cell_later hb (by first | (with_reducible exact kt0) | (with_reducible exact cell_al _ kt0) | (with_reducible exact cell_al _ (cell_al _ kt0)) | go_simp)
              replace kt1 : w6.cell? ⟨w.heap.size + 1, 1, none⟩ = some (.int .i64 t2) := cell_later hb (by first | (with_reducible exact kt1) | (with_reducible exact cell_al _ kt1) | (with_reducible exact cell_al _ (cell_al _ kt1)) | go_simp)
              replace ku0 : w6.cell? ⟨w.heap.size + 1 + 1, 0, none⟩ = some (.int .i64 u1) := cell_later hb (by first | (with_reducible exact ku0) | (with_reducible exact cell_al _ ku0) | (with_reducible exact cell_al _ (cell_al _ ku0)) | go_simp)
              replace ku1 : w6.cell? ⟨w.heap.size + 1 + 1, 1, none⟩ = some (.int .i64 u2) := cell_later hb (by first | (with_reducible exact ku1) | (with_reducible exact cell_al _ ku1) | (with_reducible exact cell_al _ (cell_al _ ku1)) | go_simp)
              replace zs : w.heap.size < w6.heap.size := World.block_lt_of_cell? _ _ ks0
              replace zt : w.heap.size + 1 < w6.heap.size := World.block_lt_of_cell? _ _ kt0
              replace zu : w.heap.size + 1 + 1 < w6.heap.size := World.block_lt_of_cell? _ _ ku0
              replace hb0 : Below w.heap.size w w6 := (by repeat (first | exact Below.refl _ _ | assumption | refine bstep ?_ (by assumption) | refine Below.drew ?_ | refine balloc ?_ _ | refine Below.setCell ?_ (by first | omega | (simp <;> omega)) _))
              clear hb
              go_wp2_with fail
              refine Calls.mono (C6 _) ?_
              rintro e w7 ⟨rfl, hb⟩
              replace ks0 : w7.cell? ⟨w.heap.size, 0, none⟩ = some (.int .i64 s1) := cell_later hb (by first | (with_reducible exact ks0) | (with_reducible exact cell_al _ ks0) | (with_reducible exact cell_al _ (cell_al _ ks0)) | go_simp)
              replace ks1 : w7.cell? ⟨w.heap.size, 1, none⟩ = some (.int .i64 s2) := cell_later hb (by first | (with_reducible exact ks1) | (with_reducible exact cell_al _ ks1) | (with_reducible exact cell_al _ (cell_al _ ks1)) | go_simp)
              replace kt0 : w7.cell? ⟨w.heap.size + 1, 0, none⟩ = some (.int .i64 t1) := cell_later hb (by first | (with_reducible exact kt0) | (with_reducible exact cell_al _ kt0) | (with_reducible exact cell_al _ (cell_al _ kt0)) | go_simp)
              replace kt1 : w7.cell? ⟨w.heap.size + 1, 1, none⟩ = some (.int .i64 t2) := cell_later hb (by first | (with_reducible exact kt1) | (with_reducible exact cell_al _ kt1) | (with_reducible exact cell_al _ (cell_al _ kt1)) | go_simp)
              replace ku0 : w7.cell? ⟨w.heap.size + 1 + 1, 0, none⟩ = some (.int .i64 u1) := cell_later hb (by first | (with_reducible exact ku0) | (with_reducible exact cell_al _ ku0) | (with_reducible exact cell_al _ (cell_al _ ku0)) | go_simp)
              replace ku1 : w7.cell? ⟨w.heap.size + 1 + 1, 1, none⟩ = some (.int .i64 u2) := cell_later hb (by first | (with_reducible exact ku1) | (with_reducible exact cell_al _ ku1) | (with_reducible exact cell_al _ (cell_al _ ku1)) | go_simp)
              have kx0 : w7.cell? ⟨w6.heap.size, 0, none⟩ = some (.int .i64 0) := cell_later hb (by go_simp)
              have kx1 : w7.cell? ⟨w6.heap.size, 1, none⟩ = some (.int .i64 0) := cell_later hb (by go_simp)
              replace zs : w.heap.size < w7.heap.size := World.block_lt_of_cell? _ _ ks0
              replace zt : w.heap.size + 1 < w7.heap.size := World.block_lt_of_cell? _ _ kt0
              replace zu : w.heap.size + 1 + 1 < w7.heap.size := World.block_lt_of_cell? _ _ ku0
              have zx : w6.heap.size < w7.heap.size := World.block_lt_of_cell? _ _ kx0
              replace hb0 : Below w.heap.size w w7 := (by repeat (first | exact Below.refl _ _ | assumption | refine bstep ?_ (by assumption) | refine Below.drew ?_ | refine balloc ?_ _ | refine Below.setCell ?_ (by first | omega | (simp <;> omega)) _))
              clear hb
              go_wp2
              all_goals first | (exfalso; omega) | (go_ret; refine ret_bool ?_ (by repeat (first | exact Below.refl _ _ | assumption | refine bstep ?_ (by assumption) | refine Below.drew ?_ | refine balloc ?_ _ | refine Below.setCell ?_ (by first | omega | (simp <;> omega)) _)); first | (simp; done) | (simp <;> omega))
          ·
            have vss : vScale s1 s2 n d = false := by unfold vScale; rw [h1, hk]; rfl
            have C5 := fun w => Scale_c s1 s2 n d w
            simp only [vss, selI, selB, erv, cond_true, cond_false, Bool.and_true, Bool.and_false, Bool.true_and, Bool.false_and] at C5
            clear vss
            have C6 := fun w => Scale_c t1 t2 n d w
            go_wp2_with fail
            refine Calls.mono (C5 _) ?_
            rintro e w6 ⟨rfl, hb⟩
            replace ks0 : w6.cell? ⟨w.heap.size, 0, none⟩ = some (.int .i64 s1) := cell_later hb (by first | (with_reducible exact ks0) | (with_reducible exact cell_al _ ks0) | (with_reducible exact cell_al _ (cell_al _ ks0)) | go_simp)
            replace ks1 : w6.cell? ⟨w.heap.size, 1, none⟩ = some (.int .i64 s2) := cell_later hb (by first | (with_reducible exact ks1) | (with_reducible exact cell_al _ ks1) | (with_reducible exact cell_al _ (cell_al _ ks1)) | go_simp)
            replace kt0 : w6.cell? ⟨w.heap.size + 1, 0, none⟩ = some (.int .i64 t1) := cell_later hb (by first | (with_reducible exact kt0) | (with_reducible exact cell_al _ kt0) | (with_reducible exact cell_al _ (cell_al _ kt0)) | go_simp)
            replace kt1 : w6.cell? ⟨w.heap.size + 1, 1, none⟩ = some (.int .i64 t2) := cell_later hb (by first | (with_reducible exact kt1) | (with_reducible exact cell_al _ kt1) | (with_reducible exact cell_al _ (cell_al _ kt1)) | go_simp)
            replace ku0 : w6.cell? ⟨w.heap.size + 1 + 1, 0, none⟩ = some (.int .i64 u1) := cell_later hb (by first | (with_reducible exact ku0) | (with_reducible exact cell_al _ ku0) | (with_reducible exact cell_al _ (cell_al _ ku0)) | go_simp)
            replace ku1 : w6.cell? ⟨w.heap.size + 1 + 1, 1, none⟩ = some (.int .i64 u2) := cell_later hb (by first | (with_reducible exact ku1) | (with_reducible exact cell_al _ ku1) | (with_reducible exact cell_al _ (cell_al _ ku1)) | go_simp)
            replace zs : w.heap.size < w6.heap.size := World.block_lt_of_cell? _ _ ks0
            replace zt : w.heap.size + 1 < w6.heap.size := World.block_lt_of_cell? _ _ kt0
            replace zu : w.heap.size + 1 + 1 < w6.heap.size := World.block_lt_of_cell? _ _ ku0
            replace hb0 : Below w.heap.size w w6 := (by repeat (first | exact Below.refl _ _ | assumption | refine bstep ?_ (by assumption) | refine Below.drew ?_ | refine balloc ?_ _ | refine Below.setCell ?_ (by first | omega | (simp <;> omega)) _))
            clear hb
            go_wp2_with fail
            refine Calls.mono (C6 _) ?_
            rintro e w7 ⟨rfl, hb⟩
            replace ks0 : w7.cell? ⟨w.heap.size, 0, none⟩ = some (.int .i64 s1) := cell_later hb (by first | (with_reducible exact ks0) | (with_reducible exact cell_al _ ks0) | (with_reducible exact cell_al _ (cell_al _ ks0)) | go_simp)
            replace ks1 : w7.cell? ⟨w.heap.size, 1, none⟩ = some (.int .i64 s2) := cell_later hb (by first | (with_reducible exact ks1) | (with_reducible exact cell_al _ ks1) | (with_reducible exact cell_al _ (cell_al _ ks1)) | go_simp)
            replace kt0 : w7.cell? ⟨w.heap.size + 1, 0, none⟩ = some (.int .i64 t1) := cell_later hb (by first | (with_reducible exact kt0) | (with_reducible exact cell_al _ kt0) | (with_reducible exact cell_al _ (cell_al _ kt0)) | go_simp)
            replace kt1 : w7.cell? ⟨w.heap.size + 1, 1, none⟩ = some (.int .i64 t2) := cell_later hb (by first | (with_reducible exact kt1) | (with_reducible exact cell_al _ kt1) | (with_reducible exact cell_al _ (cell_al _ kt1)) | go_simp)
            replace ku0 : w7.cell? ⟨w.heap.size + 1 + 1, 0, none⟩ = some (.int .i64 u1) := cell_later hb (by first | (with_reducible exact ku0) | (with_reducible exact cell_al _ ku0) | (with_reducible exact cell_al _ (cell_al _ ku0)) | go_simp)
            replace ku1 : w7.cell? ⟨w.heap.size + 1 + 1, 1, none⟩ = some (.int .i64 u2) := cell_later hb (by first | (with_reducible exact ku1) | (with_reducible exact cell_al _ ku1) | (with_reducible exact cell_al _ (cell_al _ ku1)) | go_simp)
            have kx0 : w7.cell? ⟨w6.heap.size, 0, none⟩ = some (.int .i64 0) := cell_later hb (by go_simp)
            have kx1 : w7.cell? ⟨w6.heap.size, 1, none⟩ = some (.int .i64 0) := cell_later hb (by go_simp)
            replace zs : w.heap.size < w7.heap.size := World.block_lt_of_cell? _ _ ks0
            replace zt : w.heap.size + 1 < w7.heap.size := World.block_lt_of_cell? _ _ kt0
            replace zu : w.heap.size + 1 + 1 < w7.heap.size := World.block_lt_of_cell? _ _ ku0
            have zx : w6.heap.size < w7.heap.size := World.block_lt_of_cell? _ _ kx0
            replace hb0 : Below w.heap.size w w7 := (by repeat (first | exact Below.refl _ _ | assumption | refine bstep ?_ (by assumption) | refine Below.drew ?_ | refine balloc ?_ _ | refine Below.setCell ?_ (by first | omega | (simp <;> omega)) _))
            clear hb
            go_wp2
            all_goals first | (exfalso; omega) | (go_ret; refine ret_bool ?_ (by repeat (first | exact Below.refl _ _ | assumption | refine bstep ?_ (by assumption) | refine Below.drew ?_ | refine balloc ?_ _ | refine Below.setCell ?_ (by first | omega | (simp <;> omega)) _)); first | (simp; done) | (simp <;> omega))
    ·
      have v2 : vWithin t1 t2 u1 u2 = false := by unfold vWithin; simp [h3]
      have v3 : vWithin s1 s2 u1 u2 = false := by unfold vWithin; simp [h3]
      simp only [v2, selI, selB, erv, cond_true, cond_false, Bool.and_true, Bool.and_false, Bool.true_and, Bool.false_and] at C2
      simp only [v3, selI, selB, erv, cond_true, cond_false, Bool.and_true, Bool.and_false, Bool.true_and, Bool.false_and] at C3
      clear v2 v3
      go_enter Try.func8, Try.ntmps8
      go_wp2_with fail
      refine Calls.mono (head_c _) ?_
      rintro e w1 ⟨rfl, hb⟩
      have ks0 : w1.cell? ⟨w.heap.size, 0, none⟩ = some (.int .i64 s1) := cell_later hb (by go_simp)
      have ks1 : w1.cell? ⟨w.heap.size, 1, none⟩ = some (.int .i64 s2) := cell_later hb (by go_simp)
      have kt0 : w1.cell? ⟨w.heap.size + 1, 0, none⟩ = some (.int .i64 t1) := cell_later hb (by go_simp)
      have kt1 : w1.cell? ⟨w.heap.size + 1, 1, none⟩ = some (.int .i64 t2) := cell_later hb (by go_simp)
      have ku0 : w1.cell? ⟨w.heap.size + 1 + 1, 0, none⟩ = some (.int .i64 u1) := cell_later hb (by go_simp)
      have ku1 : w1.cell? ⟨w.heap.size + 1 + 1, 1, none⟩ = some (.int .i64 u2) := cell_later hb (by go_simp)
      have zs : w.heap.size < w1.heap.size := World.block_lt_of_cell? _ _ ks0
      have zt : w.heap.size + 1 < w1.heap.size := World.block_lt_of_cell? _ _ kt0
      have zu : w.heap.size + 1 + 1 < w1.heap.size := World.block_lt_of_cell? _ _ ku0
      have hb0 : Below w.heap.size w w1 := (by repeat (first | exact Below.refl _ _ | assumption | refine bstep ?_ (by assumption) | refine Below.drew ?_ | refine balloc ?_ _ | refine Below.setCell ?_ (by first | omega | (simp <;> omega)) _))
      clear hb
      go_wp2_with fail
      refine Calls.mono (C1 _) ?_
      rintro e w2 ⟨rfl, hb⟩
      replace ks0 : w2.cell? ⟨w.heap.size, 0, none⟩ = some (.int .i64 s1) := cell_later hb (by first | (with_reducible exact ks0) | (with_reducible exact cell_al _ ks0) | (with_reducible exact cell_al _ (cell_al _ ks0)) | go_simp)
      replace ks1 : w2.cell? ⟨w.heap.size, 1, none⟩ = some (.int .i64 s2) := cell_later hb (by first | (with_reducible exact ks1) | (with_reducible exact cell_al _ ks1) | (with_reducible exact cell_al _ (cell_al _ ks1)) | go_simp)
      replace kt0 : w2.cell? ⟨w.heap.size + 1, 0, none⟩ = some (.int .i64 t1) := cell_later hb (by first | (with_reducible exact kt0) | (with_reducible exact cell_al _ kt0) | (with_reducible exact cell_al _ (cell_al _ kt0)) | go_simp)
      replace kt1 : w2.cell? ⟨w.heap.size + 1, 1, none⟩ = some (.int .i64 t2) := cell_later hb (by first | (with_reducible exact kt1) | (with_reducible exact cell_al _ kt1) | (with_reducible exact cell_al _ (cell_al _ kt1)) | go_simp)
      replace ku0 : w2.cell? ⟨w.heap.size + 1 + 1, 0, none⟩ = some (.int .i64 u1) := cell_later hb (by first | (with_reducible exact ku0) | (with_reducible exact cell_al _ ku0) | (with_reducible exact cell_al _ (cell_al _ ku0)) | go_simp)
      replace ku1 : w2.cell? ⟨w.heap.size + 1 + 1, 1, none⟩ = some (.int .i64 u2) := cell_later hb (by first | (with_reducible exact ku1) | (with_reducible exact cell_al _ ku1) | (with_reducible exact cell_al _ (cell_al _ ku1)) | go_simp)
      replace zs : w.heap.size < w2.heap.size := World.block_lt_of_cell? _ _ ks0
      replace zt : w.heap.size + 1 < w2.heap.size := World.block_lt_of_cell? _ _ kt0
      replace zu : w.heap.size + 1 + 1 < w2.heap.size := World.block_lt_of_cell? _ _ ku0
      replace hb0 : Below w.heap.size w w2 := (by repeat (first | exact Below.refl _ _ | assumption | refine bstep ?_ (by assumption) | refine Below.drew ?_ | refine balloc ?_ _ | refine Below.setCell ?_ (by first | omega | (simp <;> omega)) _))
      clear hb
      go_wp2_with fail
      refine Calls.mono (C2 _) ?_
      rintro e w3 ⟨rfl, hb⟩
      replace ks0 : w3.cell? ⟨w.heap.size, 0, none⟩ = some (.int .i64 s1) := cell_later hb (by first | (with_reducible exact ks0) | (with_reducible exact cell_al _ ks0) | (with_reducible exact cell_al _ (cell_al _ ks0)) | go_simp)
      replace ks1 : w3.cell? ⟨w.heap.size, 1, none⟩ = some (.int .i64 s2) := cell_later hb (by first | (with_reducible exact ks1) | (with_reducible exact cell_al _ ks1) | (with_reducible exact cell_al _ (cell_al _ ks1)) | go_simp)
      replace kt0 : w3.cell? ⟨w.heap.size + 1, 0, none⟩ = some (.int .i64 t1) := cell_later hb (by first | (with_reducible exact kt0) | (with_reducible exact cell_al _ kt0) | (with_reducible exact cell_al _ (cell_al _ kt0)) | go_simp)
      replace kt1 : w3.cell? ⟨w.heap.size + 1, 1, none⟩ = some (.int .i64 t2) := cell_later hb (by first | (with_reducible exact kt1) | (with_reducible exact cell_al _ kt1) | (with_reducible exact cell_al _ (cell_al _ kt1)) | go_simp)
      replace ku0 : w3.cell? ⟨w.heap.size + 1 + 1, 0, none⟩ = some (.int .i64 u1) := cell_later hb (by first | (with_reducible exact ku0) | (with_reducible exact cell_al _ ku0) | (with_reducible exact cell_al _ (cell_al _ ku0)) | go_simp)
      replace ku1 : w3.cell? ⟨w.heap.size + 1 + 1, 1, none⟩ = some (.int .i64 u2) := cell_later hb (by first | (with_reducible exact ku1) | (with_reducible exact cell_al _ ku1) | (with_reducible exact cell_al _ (cell_al _ ku1)) | go_simp)
      replace zs : w.heap.size < w3.heap.size := World.block_lt_of_cell? _ _ ks0
      replace zt : w.heap.size + 1 < w3.heap.size := World.block_lt_of_cell? _ _ kt0
      replace zu : w.heap.size + 1 + 1 < w3.heap.size := World.block_lt_of_cell? _ _ ku0
      replace hb0 : Below w.heap.size w w3 := (by repeat (first | exact Below.refl _ _ | assumption | refine bstep ?_ (by assumption) | refine Below.drew ?_ | refine balloc ?_ _ | refine Below.setCell ?_ (by first | omega | (simp <;> omega)) _))
      clear hb
      go_wp2_with fail
      refine Calls.mono (C3 _) ?_
      rintro e w4 ⟨rfl, hb⟩
      replace ks0 : w4.cell? ⟨w.heap.size, 0, none⟩ = some (.int .i64 s1) := cell_later hb (by first | (with_reducible exact ks0) | (with_reducible exact cell_al _ ks0) | (with_reducible exact cell_al _ (cell_al _ ks0)) | go_simp)
      replace ks1 : w4.cell? ⟨w.heap.size, 1, none⟩ = some (.int .i64 s2) := cell_later hb (by first | (with_reducible exact ks1) | (with_reducible exact cell_al _ ks1) | (with_reducible exact cell_al _ (cell_al _ ks1)) | go_simp)
      replace kt0 : w4.cell? ⟨w.heap.size + 1, 0, none⟩ = some (.int .i64 t1) := cell_later hb (by first | (with_reducible exact kt0) | (with_reducible exact cell_al _ kt0) | (with_reducible exact cell_al _ (cell_al _ kt0)) | go_simp)
      replace kt1 : w4.cell? ⟨w.heap.size + 1, 1, none⟩ = some (.int .i64 t2) := cell_later hb (by first | (with_reducible exact kt1) | (with_reducible exact cell_al _ kt1) | (with_reducible exact cell_al _ (cell_al _ kt1)) | go_simp)
      replace ku0 : w4.cell? ⟨w.heap.size + 1 + 1, 0, none⟩ = some (.int .i64 u1) := cell_later hb (by first | (with_reducible exact ku0) | (with_reducible exact cell_al _ ku0) | (with_reducible exact cell_al _ (cell_al _ ku0)) | go_simp)
      replace ku1 : w4.cell? ⟨w.heap.size + 1 + 1, 1, none⟩ = some (.int .i64 u2) := cell_later hb (by first | (with_reducible exact ku1) | (with_reducible exact cell_al _ ku1) | (with_reducible exact cell_al _ (cell_al _ ku1)) | go_simp)
      replace zs : w.heap.size < w4.heap.size := World.block_lt_of_cell? _ _ ks0
      replace zt : w.heap.size + 1 < w4.heap.size := World.block_lt_of_cell? _ _ kt0
      replace zu : w.heap.size + 1 + 1 < w4.heap.size := World.block_lt_of_cell? _ _ ku0
      replace hb0 : Below w.heap.size w w4 := (by repeat (first | exact Below.refl _ _ | assumption | refine bstep ?_ (by assumption) | refine Below.drew ?_ | refine balloc ?_ _ | refine Below.setCell ?_ (by first | omega | (simp <;> omega)) _))
      clear hb
      go_wp2_with fail
      refine Calls.mono (C4 _) ?_
      rintro e w5 ⟨rfl, hb⟩
      replace ks0 : w5.cell? ⟨w.heap.size, 0, none⟩ = some (.int .i64 s1) := cell_later hb (by first | (with_reducible exact ks0) | (with_reducible exact cell_al _ ks0) | (with_reducible exact cell_al _ (cell_al _ ks0)) | go_simp)
      replace ks1 : w5.cell? ⟨w.heap.size, 1, none⟩ = some (.int .i64 s2) := cell_later hb (by first | (with_reducible exact ks1) | (with_reducible exact cell_al _ ks1) | (with_reducible exact cell_al _ (cell_al _ ks1)) | go_simp)
      replace kt0 : w5.cell? ⟨w.heap.size + 1, 0, none⟩ = some (.int .i64 t1) := cell_later hb (by first | (with_reducible exact kt0) | (with_reducible exact cell_al _ kt0) | (with_reducible exact cell_al _ (cell_al _ kt0)) | go_simp)
      replace kt1 : w5.cell? ⟨w.heap.size + 1, 1, none⟩ = some (.int .i64 t2) := cell_later hb (by first | (with_reducible exact kt1) | (with_reducible exact cell_al _ kt1) | (with_reducible exact cell_al _ (cell_al _ kt1)) | go_simp)
      replace ku0 : w5.cell? ⟨w.heap.size + 1 + 1, 0, none⟩ = some (.int .i64 u1) := cell_later hb (by first | (with_reducible exact ku0) | (with_reducible exact cell_al _ ku0) | (with_reducible exact cell_al _ (cell_al _ ku0)) | go_simp)
      replace ku1 : w5.cell? ⟨w.heap.size + 1 + 1, 1, none⟩ = some (.int .i64 u2) := cell_later hb (by first | (with_reducible exact ku1) | (with_reducible exact cell_al _ ku1) | (with_reducible exact cell_al _ (cell_al _ ku1)) | go_simp)
      replace zs : w.heap.size < w5.heap.size := World.block_lt_of_cell? _ _ ks0
      replace zt : w.heap.size + 1 < w5.heap.size := World.block_lt_of_cell? _ _ kt0
      replace zu : w.heap.size + 1 + 1 < w5.heap.size := World.block_lt_of_cell? _ _ ku0
      replace hb0 : Below w.heap.size w w5 := (by repeat (first | exact Below.refl _ _ | assumption | refine bstep ?_ (by assumption) | refine Below.drew ?_ | refine balloc ?_ _ | refine Below.setCell ?_ (by first | omega | (simp <;> omega)) _))
      clear hb
      go_upto_region 8 with fail
      go_cut [11] (fun s11 wx => s11 = .bool true ∧ wx.cell? ⟨w.heap.size, 0, none⟩ = some (.int .i64 s1) ∧ wx.cell? ⟨w.heap.size, 1, none⟩ = some (.int .i64 s2) ∧ wx.cell? ⟨w.heap.size + 1, 0, none⟩ = some (.int .i64 t1) ∧ wx.cell? ⟨w.heap.size + 1, 1, none⟩ = some (.int .i64 t2) ∧ wx.cell? ⟨w.heap.size + 1 + 1, 0, none⟩ = some (.int .i64 u1) ∧ wx.cell? ⟨w.heap.size + 1 + 1, 1, none⟩ = some (.int .i64 u2) ∧ Below w.heap.size w wx)
      case first =>
        clear C1 C2 C3 C4 hA hB hE hD kAB
        cases A <;> cases D
        all_goals first | (exact absurd kAD (by decide)) | skip
        all_goals
          go_wp2_with fail
          all_goals
            go_meet
            refine ⟨?_, ?_, ?_, ?_, ?_, ?_, ?_, (by repeat (first | exact Below.refl _ _ | assumption | refine bstep ?_ (by assumption) | refine Below.drew ?_ | refine balloc ?_ _ | refine Below.setCell ?_ (by first | omega | (simp <;> omega)) _))⟩
            all_goals first | (with_reducible assumption) | (go_simp; done) | rfl | (refine congrArg Value.bool ?_; rw [Bool.eq_iff_iff]; rfl)
      case rest =>
        obtain ⟨rfl, ks0, ks1, kt0, kt1, ku0, ku1, hb0⟩ := hcut
        have zs : w.heap.size < wc.heap.size := World.block_lt_of_cell? _ _ ks0
        have zt : w.heap.size + 1 < wc.heap.size := World.block_lt_of_cell? _ _ kt0
        have zu : w.heap.size + 1 + 1 < wc.heap.size := World.block_lt_of_cell? _ _ ku0
        rcases Bool.eq_false_or_eq_true (kS n d) with hk | hk
        ·
          rcases Bool.eq_false_or_eq_true (rScale s1 s2 n d) with r1 | r1
          ·
            rcases Bool.eq_false_or_eq_true (rScale t1 t2 n d) with r2 | r2
            ·
              have vss : vScale s1 s2 n d = true := by unfold vScale; rw [h1, hk]; rfl
              have C5 := fun w => Scale_c s1 s2 n d w
              simp only [vss, r1, selI, selB, erv, cond_true, cond_false, Bool.and_true, Bool.and_false, Bool.true_and, Bool.false_and] at C5
              clear vss
              have vst : vScale t1 t2 n d = true := by unfold vScale; rw [h2, hk]; rfl
              have C6 := fun w => Scale_c t1 t2 n d w
              simp only [vst, r2, selI, selB, erv, cond_true, cond_false, Bool.and_true, Bool.and_false, Bool.true_and, Bool.false_and] at C6
              clear vst
              have kk := kS_iff.1 hk
              have g1 : vE 1000000000000 (dn (min (s1 * n) (s2 * n)) d) (upd (max (s1 * n) (s2 * n)) d) = true := r1
              have g2 : vE 1000000000000 (dn (min (t1 * n) (t2 * n)) d) (upd (max (t1 * n) (t2 * n)) d) = true := r2
              cases A
              ·
                go_wp2_with fail
                refine Calls.mono (C5 _) ?_
                rintro e w6 ⟨rfl, hb⟩
                replace ks0 : w6.cell? ⟨w.heap.size, 0, none⟩ = some (.int .i64 s1) := cell_later hb (by first | (with_reducible exact ks0) | (with_reducible exact cell_al _ ks0) | (with_reducible exact cell_al _ (cell_al _ ks0)) | go_simp)
                replace ks1 : w6.cell? ⟨w.heap.size, 1, none⟩ = some (.int .i64 s2) := cell_later hb (by first | (with_reducible exact ks1) | (with_reducible exact cell_al _ ks1) | (with_reducible exact cell_al _ (cell_al _ ks1)) | go_simp)
                replace kt0 : w6.cell? ⟨w.heap.size + 1, 0, none⟩ = some (.int .i64 t1) := cell_later hb (by first | (with_reducible exact kt0) | (with_reducible exact cell_al _ kt0) | (with_reducible exact cell_al _ (cell_al _ kt0)) | go_simp)
                replace kt1 : w6.cell? ⟨w.heap.size + 1, 1, none⟩ = some (.int .i64 t2) := cell_later hb (by first | (with_reducible exact kt1) | (with_reducible exact cell_al _ kt1) | (with_reducible exact cell_al _ (cell_al _ kt1)) | go_simp)
                replace ku0 : w6.cell? ⟨w.heap.size + 1 + 1, 0, none⟩ = some (.int .i64 u1) := cell_later hb (by first | (with_reducible exact ku0) | (with_reducible exact cell_al _ ku0) | (with_reducible exact cell_al _ (cell_al _ ku0)) | go_simp)
                replace ku1 : w6.cell? ⟨w.heap.size + 1 + 1, 1, none⟩ = some (.int .i64 u2) := cell_later hb (by first | (with_reducible exact ku1) | (with_reducible exact cell_al _ ku1) | (with_reducible exact cell_al _ (cell_al _ ku1)) | go_simp)
                replace zs : w.heap.size < w6.heap.size := World.block_lt_of_cell? _ _ ks0
                replace zt : w.heap.size + 1 < w6.heap.size := World.block_lt_of_cell? _ _ kt0
                replace zu : w.heap.size + 1 + 1 < w6.heap.size := World.block_lt_of_cell? _ _ ku0
                replace hb0 : Below w.heap.size w w6 := (by repeat (first | exact Below.refl _ _ | assumption | refine bstep ?_ (by assumption) | refine Below.drew ?_ | refine balloc ?_ _ | refine Below.setCell ?_ (by first | omega | (simp <;> omega)) _))
                clear hb
                go_wp2_with fail
                refine Calls.mono (C6 _) ?_
                rintro e w7 ⟨rfl, hb⟩
                replace ks0 : w7.cell? ⟨w.heap.size, 0, none⟩ = some (.int .i64 s1) := cell_later hb (by first | (with_reducible exact ks0) | (with_reducible exact cell_al _ ks0) | (with_reducible exact cell_al _ (cell_al _ ks0)) | go_simp)
                replace ks1 : w7.cell? ⟨w.heap.size, 1, none⟩ = some (.int .i64 s2) := cell_later hb (by first | (with_reducible exact ks1) | (with_reducible exact cell_al _ ks1) | (with_reducible exact cell_al _ (cell_al _ ks1)) | go_simp)
                replace kt0 : w7.cell? ⟨w.heap.size + 1, 0, none⟩ = some (.int .i64 t1) := cell_later hb (by first | (with_reducible exact kt0) | (with_reducible exact cell_al _ kt0) | (with_reducible exact cell_al _ (cell_al _ kt0)) | go_simp)
                replace kt1 : w7.cell? ⟨w.heap.size + 1, 1, none⟩ = some (.int .i64 t2) := cell_later hb (by first | (with_reducible exact kt1) | (with_reducible exact cell_al _ kt1) | (with_reducible exact cell_al _ (cell_al _ kt1)) | go_simp)
                replace ku0 : w7.cell? ⟨w.heap.size + 1 + 1, 0, none⟩ = some (.int .i64 u1) := cell_later hb (by first | (with_reducible exact ku0) | (with_reducible exact cell_al _ ku0) | (with_reducible exact cell_al _ (cell_al _ ku0)) | go_simp)
                replace ku1 : w7.cell? ⟨w.heap.size + 1 + 1, 1, none⟩ = some (.int .i64 u2) := cell_later hb (by first | (with_reducible exact ku1) | (with_reducible exact cell_al _ ku1) | (with_reducible exact cell_al _ (cell_al _ ku1)) | go_simp)
                have kx0 : w7.cell? ⟨w6.heap.size, 0, none⟩ = some (.int .i64 (dn (min (s1 * n) (s2 * n)) d)) := cell_later hb (by go_simp)
                have kx1 : w7.cell? ⟨w6.heap.size, 1, none⟩ = some (.int .i64 (upd (max (s1 * n) (s2 * n)) d)) := cell_later hb (by go_simp)
                replace zs : w.heap.size < w7.heap.size := World.block_lt_of_cell? _ _ ks0
                replace zt : w.heap.size + 1 < w7.heap.size := World.block_lt_of_cell? _ _ kt0
                replace zu : w.heap.size + 1 + 1 < w7.heap.size := World.block_lt_of_cell? _ _ ku0
                have zx : w6.heap.size < w7.heap.size := World.block_lt_of_cell? _ _ kx0
                replace hb0 : Below w.heap.size w w7 := (by repeat (first | exact Below.refl _ _ | assumption | refine bstep ?_ (by assumption) | refine Below.drew ?_ | refine balloc ?_ _ | refine Below.setCell ?_ (by first | omega | (simp <;> omega)) _))
                clear hb
                go_wp2
                all_goals first | (exfalso; omega) | (go_ret; refine ret_bool ?_ (by repeat (first | exact Below.refl _ _ | assumption | refine bstep ?_ (by assumption) | refine Below.drew ?_ | refine balloc ?_ _ | refine Below.setCell ?_ (by first | omega | (simp <;> omega)) _)); first | (simp; done) | (simp <;> omega))
              ·
                have ha2 := wI_iff.1 hA
                have f1 := between_mul2 (n := n) (a := t1) (b := t2) (x := s1) (by omega) (by omega)
                have f2 := between_mul2 (n := n) (a := t1) (b := t2) (x := s2) (by omega) (by omega)
                have f3 := dn_mono (a := min (t1 * n) (t2 * n)) (b := min (s1 * n) (s2 * n)) (d := d) (by omega) (by omega)
                have f4 := upd_mono (a := max (s1 * n) (s2 * n)) (b := max (t1 * n) (t2 * n)) (d := d) (by omega) (by omega)
                clear f1 f2 ha2 kk r1 r2
                generalize dn (min (s1 * n) (s2 * n)) d = X1 at *
                generalize upd (max (s1 * n) (s2 * n)) d = X2 at *
                generalize dn (min (t1 * n) (t2 * n)) d = Y1 at *
                generalize upd (max (t1 * n) (t2 * n)) d = Y2 at *
                have v7 : vWithin X1 X2 Y1 Y2 = true := by unfold vWithin; rw [g1, g2]; rfl
                have w7 : wI X1 X2 Y1 Y2 = true := by rw [wI_iff]; omega
                have C7 := fun w => Within_c X1 X2 Y1 Y2 w
                simp only [v7, w7, selI, selB, erv, cond_true, cond_false, Bool.and_true, Bool.and_false, Bool.true_and, Bool.false_and] at C7
                clear v7 w7
                go_wp2_with fail
                refine Calls.mono (C5 _) ?_
                rintro e w6 ⟨rfl, hb⟩
                replace ks0 : w6.cell? ⟨w.heap.size, 0, none⟩ = some (.int .i64 s1) := cell_later hb (by first | (with_reducible exact ks0) | (with_reducible exact cell_al _ ks0) | (with_reducible exact cell_al _ (cell_al _ ks0)) | go_simp)
                replace ks1 : w6.cell? ⟨w.heap.size, 1, none⟩ = some (.int .i64 s2) := cell_later hb (by first | (with_reducible exact ks1) | (with_reducible exact cell_al _ ks1) | (with_reducible exact cell_al _ (cell_al _ ks1)) | go_simp)
                replace kt0 : w6.cell? ⟨w.heap.size + 1, 0, none⟩ = some (.int .i64 t1) := cell_later hb (by first | (with_reducible exact kt0) | (with_reducible exact cell_al _ kt0) | (with_reducible exact cell_al _ (cell_al _ kt0)) | go_simp)
                replace kt1 : w6.cell? ⟨w.heap.size + 1, 1, none⟩ = some (.int .i64 t2) := cell_later hb (by first | (with_reducible exact kt1) | (with_reducible exact cell_al _ kt1) | (with_reducible exact cell_al _ (cell_al _ kt1)) | go_simp)
                replace ku0 : w6.cell? ⟨w.heap.size + 1 + 1, 0, none⟩ = some (.int .i64 u1) := cell_later hb (by first | (with_reducible exact ku0) | (with_reducible exact cell_al _ ku0) | (with_reducible exact cell_al _ (cell_al _ ku0)) | go_simp)
                replace ku1 : w6.cell? ⟨w.heap.size + 1 + 1, 1, none⟩ = some (.int .i64 u2) := cell_later hb (by first | (with_reducible exact ku1) | (with_reducible exact cell_al _ ku1) | (with_reducible exact cell_al _ (cell_al _ ku1)) | go_simp)
                replace zs : w.heap.size < w6.heap.size := World.block_lt_of_cell? _ _ ks0
                replace zt : w.heap.size + 1 < w6.heap.size := World.block_lt_of_cell? _ _ kt0
                replace zu : w.heap.size + 1 + 1 < w6.heap.size := World.block_lt_of_cell? _ _ ku0
                replace hb0 : Below w.heap.size w w6 := (by repeat (first | exact Below.refl _ _ | assumption | refine bstep ?_ (by assumption) | refine Below.drew ?_ | refine balloc ?_ _ | refine Below.setCell ?_ (by first | omega | (simp <;> omega)) _))
                clear hb
                go_wp2_with fail
                refine Calls.mono (C6 _) ?_
                rintro e w7 ⟨rfl, hb⟩
                replace ks0 : w7.cell? ⟨w.heap.size, 0, none⟩ = some (.int .i64 s1) := cell_later hb (by first | (with_reducible exact ks0) | (with_reducible exact cell_al _ ks0) | (with_reducible exact cell_al _ (cell_al _ ks0)) | go_simp)
                replace ks1 : w7.cell? ⟨w.heap.size, 1, none⟩ = some (.int .i64 s2) := cell_later hb (by first | (with_reducible exact ks1) | (with_reducible exact cell_al _ ks1) | (with_reducible exact cell_al _ (cell_al _ ks1)) | go_simp)
                replace kt0 : w7.cell? ⟨w.heap.size + 1, 0, none⟩ = some (.int .i64 t1) := cell_later hb (by first | (with_reducible exact kt0) | (with_reducible exact cell_al _ kt0) | (with_reducible exact cell_al _ (cell_al _ kt0)) | go_simp)
                replace kt1 : w7.cell? ⟨w.heap.size + 1, 1, none⟩ = some (.int .i64 t2) := cell_later hb (by first | (with_reducible exact kt1) | (with_reducible exact cell_al _ kt1) | (with_reducible exact cell_al _ (cell_al _ kt1)) | go_simp)
                replace ku0 : w7.cell? ⟨w.heap.size + 1 + 1, 0, none⟩ = some (.int .i64 u1) := cell_later hb (by first | (with_reducible exact ku0) | (with_reducible exact cell_al _ ku0) | (with_reducible exact cell_al _ (cell_al _ ku0)) | go_simp)
                replace ku1 : w7.cell? ⟨w.heap.size + 1 + 1, 1, none⟩ = some (.int .i64 u2) := cell_later hb (by first | (with_reducible exact ku1) | (with_reducible exact cell_al _ ku1) | (with_reducible exact cell_al _ (cell_al _ ku1)) | go_simp)
                have kx0 : w7.cell? ⟨w6.heap.size, 0, none⟩ = some (.int .i64 X1) := cell_later hb (by go_simp)
                have kx1 : w7.cell? ⟨w6.heap.size, 1, none⟩ = some (.int .i64 X2) := cell_later hb (by go_simp)
                replace zs : w.heap.size < w7.heap.size := World.block_lt_of_cell? _ _ ks0
                replace zt : w.heap.size + 1 < w7.heap.size := World.block_lt_of_cell? _ _ kt0
                replace zu : w.heap.size + 1 + 1 < w7.heap.size := World.block_lt_of_cell? _ _ ku0
                have zx : w6.heap.size < w7.heap.size := World.block_lt_of_cell? _ _ kx0
                replace hb0 : Below w.heap.size w w7 := (by repeat (first | exact Below.refl _ _ | assumption | refine bstep ?_ (by assumption) | refine Below.drew ?_ | refine balloc ?_ _ | refine Below.setCell ?_ (by first | omega | (simp <;> omega)) _))
                clear hb
                go_wp2_with fail
                refine Calls.mono (C7 _) ?_
                rintro e w8 ⟨rfl, hb⟩
                replace ks0 : w8.cell? ⟨w.heap.size, 0, none⟩ = some (.int .i64 s1) := cell_later hb (by first | (with_reducible exact ks0) | (with_reducible exact cell_al _ ks0) | (with_reducible exact cell_al _ (cell_al _ ks0)) | go_simp)
                replace ks1 : w8.cell? ⟨w.heap.size, 1, none⟩ = some (.int .i64 s2) := cell_later hb (by first | (with_reducible exact ks1) | (with_reducible exact cell_al _ ks1) | (with_reducible exact cell_al _ (cell_al _ ks1)) | go_simp)
                replace kt0 : w8.cell? ⟨w.heap.size + 1, 0, none⟩ = some (.int .i64 t1) := cell_later hb (by first | (with_reducible exact kt0) | (with_reducible exact cell_al _ kt0) | (with_reducible exact cell_al _ (cell_al _ kt0)) | go_simp)
                replace kt1 : w8.cell? ⟨w.heap.size + 1, 1, none⟩ = some (.int .i64 t2) := cell_later hb (by first | (with_reducible exact kt1) | (with_reducible exact cell_al _ kt1) | (with_reducible exact cell_al _ (cell_al _ kt1)) | go_simp)
                replace ku0 : w8.cell? ⟨w.heap.size + 1 + 1, 0, none⟩ = some (.int .i64 u1) := cell_later hb (by first | (with_reducible exact ku0) | (with_reducible exact cell_al _ ku0) | (with_reducible exact cell_al _ (cell_al _ ku0)) | go_simp)
                replace ku1 : w8.cell? ⟨w.heap.size + 1 + 1, 1, none⟩ = some (.int .i64 u2) := cell_later hb (by first | (with_reducible exact ku1) | (with_reducible exact cell_al _ ku1) | (with_reducible exact cell_al _ (cell_al _ ku1)) | go_simp)
                replace kx0 : w8.cell? ⟨w6.heap.size, 0, none⟩ = some (.int .i64 X1) := cell_later hb (by first | (with_reducible exact kx0) | (with_reducible exact cell_al _ kx0) | (with_reducible exact cell_al _ (cell_al _ kx0)) | go_simp)
                replace kx1 : w8.cell? ⟨w6.heap.size, 1, none⟩ = some (.int .i64 X2) := cell_later hb (by first | (with_reducible exact kx1) | (with_reducible exact cell_al _ kx1) | (with_reducible exact cell_al _ (cell_al _ kx1)) | go_simp)
                have ky0 : w8.cell? ⟨w7.heap.size, 0, none⟩ = some (.int .i64 Y1) := cell_later hb (by go_simp)
                have ky1 : w8.cell? ⟨w7.heap.size, 1, none⟩ = some (.int .i64 Y2) := cell_later hb (by go_simp)
                replace zs : w.heap.size < w8.heap.size := World.block_lt_of_cell? _ _ ks0
                replace zt : w.heap.size + 1 < w8.heap.size := World.block_lt_of_cell? _ _ kt0
                replace zu : w.heap.size + 1 + 1 < w8.heap.size := World.block_lt_of_cell? _ _ ku0
                replace zx : w6.heap.size < w8.heap.size := World.block_lt_of_cell? _ _ kx0
                have zy : w7.heap.size < w8.heap.size := World.block_lt_of_cell? _ _ ky0
                replace hb0 : Below w.heap.size w w8 := (by repeat (first | exact Below.refl _ _ | assumption | refine bstep ?_ (by assumption) | refine Below.drew ?_ | refine balloc ?_ _ | refine Below.setCell ?_ (by first | omega | (simp <;> omega)) _))
                clear hb
                go_wp2
                all_goals first | (exfalso; omega) | (go_ret; refine ret_bool ?_ (by repeat (first | exact Below.refl _ _ | assumption | refine bstep ?_ (by assumption) | refine Below.drew ?_ | refine balloc ?_ _ | refine Below.setCell ?_ (by first | omega | (simp <;> omega)) _)); first | (simp; done) | (simp <;> omega))
            ·
              have vss : vScale s1 s2 n d = true := by unfold vScale; rw [h1, hk]; rfl
              have C5 := fun w => Scale_c s1 s2 n d w
              simp only [vss, r1, selI, selB, erv, cond_true, cond_false, Bool.and_true, Bool.and_false, Bool.true_and, Bool.false_and] at C5
              clear vss
              have vst : vScale t1 t2 n d = true := by unfold vScale; rw [h2, hk]; rfl
              have C6 := fun w => Scale_c t1 t2 n d w
              simp only [vst, r2, selI, selB, erv, cond_true, cond_false, Bool.and_true, Bool.and_false, Bool.true_and, Bool.false_and] at C6
              clear vst
              go_wp2_with fail
              refine Calls.mono (C5 _) ?_
              rintro e w6 ⟨rfl, hb⟩
              replace ks0 : w6.cell? ⟨w.heap.size, 0, none⟩ = some (.int .i64 s1) := cell_later hb (by first | (with_reducible exact ks0) | (with_reducible exact cell_al _ ks0) | (with_reducible exact cell_al _ (cell_al _ ks0)) | go_simp)
              replace ks1 : w6.cell? ⟨w.heap.size, 1, none⟩ = some (.int .i64 s2) := cell_later hb (by first | (with_reducible exact ks1) | (with_reducible exact cell_al _ ks1) | (with_reducible exact cell_al _ (cell_al _ ks1)) | go_simp)
              replace kt0 : w6.cell? ⟨w.heap.size + 1, 0, none⟩ = some (.int .i64 t1) := cell_later hb (by first | (with_reducible exact kt0) | (with_reducible exact cell_al _ kt0) | (with_reducible exact cell_al _ (cell_al _ kt0)) | go_simp)
              replace kt1 : w6.cell? ⟨w.heap.size + 1, 1, none⟩ = some (.int .i64 t2) := cell_later hb (by first | (with_reducible exact kt1) | (with_reducible exact cell_al _ kt1) | (with_reducible exact cell_al _ (cell_al _ kt1)) | go_simp)
              replace ku0 : w6.cell? ⟨w.heap.size + 1 + 1, 0, none⟩ = some (.int .i64 u1) := cell_later hb (by first | (with_reducible exact ku0) | (with_reducible exact cell_al _ ku0) | (with_reducible exact cell_al _ (cell_al _ ku0)) | go_simp)
              replace ku1 : w6.cell? ⟨w.heap.size + 1 + 1, 1, none⟩ = some (.int .i64 u2) := cell_later hb (by first | (with_reducible exact ku1) | (with_reducible exact cell_al _ ku1) | (with_reducible exact cell_al _ (cell_al _ ku1)) | go_simp)
              replace zs : w.heap.size < w6.heap.size := World.block_lt_of_cell? _ _ ks0
              replace zt : w.heap.size + 1 < w6.heap.size := World.block_lt_of_cell? _ _ kt0
              replace zu : w.heap.size + 1 + 1 < w6.heap.size := World.block_lt_of_cell? _ _ ku0
              replace hb0 : Below w.heap.size w w6 := (by repeat (first | exact Below.refl _ _ | assumption | refine bstep ?_ (by assumption) | refine Below.drew ?_ | refine balloc ?_ _ | refine Below.setCell ?_ (by first | omega | (simp <;> omega)) _))
              clear hb
              go_wp2_with fail
              refine Calls.mono (C6 _) ?_
              rintro e w7 ⟨rfl, hb⟩
              replace ks0 : w7.cell? ⟨w.heap.size, 0, none⟩ = some (.int .i64 s1) := cell_later hb (by first | (with_reducible exact ks0) | (with_reducible exact cell_al _ ks0) | (with_reducible exact cell_al _ (cell_al _ ks0)) | go_simp)
              replace ks1 : w7.cell? ⟨w.heap.size, 1, none⟩ = some (.int .i64 s2) := cell_later hb (by first | (with_reducible exact ks1) | (with_reducible exact cell_al _ ks1) | (with_reducible exact cell_al _ (cell_al _ ks1)) | go_simp)
              replace kt0 : w7.cell? ⟨w.heap.size + 1, 0, none⟩ = some (.int .i64 t1) := cell_later hb (by first | (with_reducible exact kt0) | (with_reducible exact cell_al _ kt0) | (with_reducible exact cell_al _ (cell_al _ kt0)) | go_simp)
              replace kt1 : w7.cell? ⟨w.heap.size + 1, 1, none⟩ = some (.int .i64 t2) := cell_later hb (by first | (with_reducible exact kt1) | (with_reducible exact cell_al _ kt1) | (with_reducible exact cell_al _ (cell_al _ kt1)) | go_simp)
              replace ku0 : w7.cell? ⟨w.heap.size + 1 + 1, 0, none⟩ = some (.int .i64 u1) := cell_later hb (by first | (with_reducible exact ku0) | (with_reducible exact cell_al _ ku0) | (with_reducible exact cell_al _ (cell_al _ ku0)) | go_simp)
              replace ku1 : w7.cell? ⟨w.heap.size + 1 + 1, 1, none⟩ = some (.int .i64 u2) := cell_later hb (by first | (with_reducible exact ku1) | (with_reducible exact cell_al _ ku1) | (with_reducible exact cell_al _ (cell_al _ ku1)) | go_simp)
              have kx0 : w7.cell? ⟨w6.heap.size, 0, none⟩ = some (.int .i64 (dn (min (s1 * n) (s2 * n)) d)) := cell_later hb (by go_simp)
              have kx1 : w7.cell? ⟨w6.heap.size, 1, none⟩ = some (.int .i64 (upd (max (s1 * n) (s2 * n)) d)) := cell_later hb (by go_simp)
              replace zs : w.heap.size < w7.heap.size := World.block_lt_of_cell? _ _ ks0
              replace zt : w.heap.size + 1 < w7.heap.size := World.block_lt_of_cell? _ _ kt0
              replace zu : w.heap.size + 1 + 1 < w7.heap.size := World.block_lt_of_cell? _ _ ku0
              have zx : w6.heap.size < w7.heap.size := World.block_lt_of_cell? _ _ kx0
              replace hb0 : Below w.heap.size w w7 := (by repeat (first | exact Below.refl _ _ | assumption | refine bstep ?_ (by assumption) | refine Below.drew ?_ | refine balloc ?_ _ | refine Below.setCell ?_ (by first | omega | (simp <;> omega)) _))
              clear hb
              go_wp2
              all_goals first | (exfalso; omega) | (go_ret; refine ret_bool ?_ (by repeat (first | exact Below.refl _ _ | assumption | refine bstep ?_ (by assumption) | refine Below.drew ?_ | refine balloc ?_ _ | refine Below.setCell ?_ (by first | omega | (simp <;> omega)) _)); first | (simp; done) | (simp <;> omega))
          ·
            have vss : vScale s1 s2 n d = true := by unfold vScale; rw [h1, hk]; rfl
            have C5 := fun w => Scale_c s1 s2 n d w
            simp only [vss, r1, selI, selB, erv, cond_true, cond_false, Bool.and_true, Bool.and_false, Bool.true_and, Bool.false_and] at C5
            clear vss
            have C6 := fun w => Scale_c t1 t2 n d w
            go_wp2_with fail
            refine Calls.mono (C5 _) ?_
            rintro e w6 ⟨rfl, hb⟩
            replace ks0 : w6.cell? ⟨w.heap.size, 0, none⟩ = some (.int .i64 s1) := cell_later hb (by first | (with_reducible exact ks0) | (with_reducible exact cell_al _ ks0) | (with_reducible exact cell_al _ (cell_al _ ks0)) | go_simp)
            replace ks1 : w6.cell? ⟨w.heap.size, 1, none⟩ = some (.int .i64 s2) := cell_later hb (by first | (with_reducible exact ks1) | (with_reducible exact cell_al _ ks1) | (with_reducible exact cell_al _ (cell_al _ ks1)) | go_simp)
            replace kt0 : w6.cell? ⟨w.heap.size + 1, 0, none⟩ = some (.int .i64 t1) := cell_later hb (by first | (with_reducible exact kt0) | (with_reducible exact cell_al _ kt0) | (with_reducible exact cell_al _ (cell_al _ kt0)) | go_simp)
            replace kt1 : w6.cell? ⟨w.heap.size + 1, 1, none⟩ = some (.int .i64 t2) := cell_later hb (by first | (with_reducible exact kt1) | (with_reducible exact cell_al _ kt1) | (with_reducible exact cell_al _ (cell_al _ kt1)) | go_simp)
            replace ku0 : w6.cell? ⟨w.heap.size + 1 + 1, 0, none⟩ = some (.int .i64 u1) := cell_later hb (by first | (with_reducible exact ku0) | (with_reducible exact cell_al _ ku0) | (with_reducible exact cell_al _ (cell_al _ ku0)) | go_simp)
            replace ku1 : w6.cell? ⟨w.heap.size + 1 + 1, 1, none⟩ = some (.int .i64 u2) := cell_later hb (by first | (with_reducible exact ku1) | (with_reducible exact cell_al _ ku1) | (with_reducible exact cell_al _ (cell_al _ ku1)) | go_simp)
            replace zs : w.heap.size < w6.heap.size := World.block_lt_of_cell? _ _ ks0
            replace zt : w.heap.size + 1 < w6.heap.size := World.block_lt_of_cell? _ _ kt0
            replace zu : w.heap.size + 1 + 1 < w6.heap.size := World.block_lt_of_cell? _ _ ku0
            replace hb0 : Below w.heap.size w w6 := (by repeat (first | exact Below.refl _ _ | assumption | refine bstep ?_ (by assumption) | refine Below.drew ?_ | refine balloc ?_ _ | refine Below.setCell ?_ (by first | omega | (simp <;> omega)) _))
            clear hb
            go_wp2_with fail
            refine Calls.mono (C6 _) ?_
            rintro e w7 ⟨rfl, hb⟩
            replace ks0 : w7.cell? ⟨w.heap.size, 0, none⟩ = some (.int .i64 s1) := cell_later hb (by first | (with_reducible exact ks0) | (with_reducible exact cell_al _ ks0) | (with_reducible exact cell_al _ (cell_al _ ks0)) | go_simp)
            replace ks1 : w7.cell? ⟨w.heap.size, 1, none⟩ = some (.int .i64 s2) := cell_later hb (by first | (with_reducible exact ks1) | (with_reducible exact cell_al _ ks1) | (with_reducible exact cell_al _ (cell_al _ ks1)) | go_simp)
            replace kt0 : w7.cell? ⟨w.heap.size + 1, 0, none⟩ = some (.int .i64 t1) := cell_later hb (by first | (with_reducible exact kt0) | (with_reducible exact cell_al _ kt0) | (with_reducible exact cell_al _ (cell_al _ kt0)) | go_simp)
            replace kt1 : w7.cell? ⟨w.heap.size + 1, 1, none⟩ = some (.int .i64 t2) := cell_later hb (by first | (with_reducible exact kt1) | (with_reducible exact cell_al _ kt1) | (with_reducible exact cell_al _ (cell_al _ kt1)) | go_simp)
            replace ku0 : w7.cell? ⟨w.heap.size + 1 + 1, 0, none⟩ = some (.int .i64 u1) := cell_later hb (by first | (with_reducible exact ku0) | (with_reducible exact cell_al _ ku0) | (with_reducible exact cell_al _ (cell_al _ ku0)) | go_simp)
            replace ku1 : w7.cell? ⟨w.heap.size + 1 + 1, 1, none⟩ = some (.int .i64 u2) := cell_later hb (by first | (with_reducible exact ku1) | (with_reducible exact cell_al _ ku1) | (with_reducible exact cell_al _ (cell_al _ ku1)) | go_simp)
            have kx0 : w7.cell? ⟨w6.heap.size, 0, none⟩ = some (.int .i64 0) := cell_later hb (by go_simp)
            have kx1 : w7.cell? ⟨w6.heap.size, 1, none⟩ = some (.int .i64 0) := cell_later hb (by go_simp)
            replace zs : w.heap.size < w7.heap.size := World.block_lt_of_cell? _ _ ks0
            replace zt : w.heap.size + 1 < w7.heap.size := World.block_lt_of_cell? _ _ kt0
            replace zu : w.heap.size + 1 + 1 < w7.heap.size := World.block_lt_of_cell? _ _ ku0
            have zx : w6.heap.size < w7.heap.size := World.block_lt_of_cell? _ _ kx0
            replace hb0 : Below w.heap.size w w7 := (by repeat (first | exact Below.refl _ _ | assumption | refine bstep ?_ (by assumption) | refine Below.drew ?_ | refine balloc ?_ _ | refine Below.setCell ?_ (by first | omega | (simp <;> omega)) _))
            clear hb
            go_wp2
            all_goals first | (exfalso; omega) | (go_ret; refine ret_bool ?_ (by repeat (first | exact Below.refl _ _ | assumption | refine bstep ?_ (by assumption) | refine Below.drew ?_ | refine balloc ?_ _ | refine Below.setCell ?_ (by first | omega | (simp <;> omega)) _)); first | (simp; done) | (simp <;> omega))
        ·
          have vss : vScale s1 s2 n d = false := by unfold vScale; rw [h1, hk]; rfl
          have C5 := fun w => Scale_c s1 s2 n d w
          simp only [vss, selI, selB, erv, cond_true, cond_false, Bool.and_true, Bool.and_false, Bool.true_and, Bool.false_and] at C5
          clear vss
          have C6 := fun w => Scale_c t1 t2 n d w
          go_wp2_with fail
          refine Calls.mono (C5 _) ?_
          rintro e w6 ⟨rfl, hb⟩
          replace ks0 : w6.cell? ⟨w.heap.size, 0, none⟩ = some (.int .i64 s1) := cell_later hb (by first | (with_reducible exact ks0) | (with_reducible exact cell_al _ ks0) | (with_reducible exact cell_al _ (cell_al _ ks0)) | go_simp)
          replace ks1 : w6.cell? ⟨w.heap.size, 1, none⟩ = some (.int .i64 s2) := cell_later hb (by first | (with_reducible exact ks1) | (with_reducible exact cell_al _ ks1) | (with_reducible exact cell_al _ (cell_al _ ks1)) | go_simp)
          replace kt0 : w6.cell? ⟨w.heap.size + 1, 0, none⟩ = some (.int .i64 t1) := cell_later hb (by first | (with_reducible exact kt0) | (with_reducible exact cell_al _ kt0) | (with_reducible exact cell_al _ (cell_al _ kt0)) | go_simp)
          replace kt1 : w6.cell? ⟨w.heap.size + 1, 1, none⟩ = some (.int .i64 t2) := cell_later hb (by first | (with_reducible exact kt1) | (with_reducible exact cell_al _ kt1) | (with_reducible exact cell_al _ (cell_al _ kt1)) | go_simp)
          replace ku0 : w6.cell? ⟨w.heap.size + 1 + 1, 0, none⟩ = some (.int .i64 u1) := cell_later hb (by first | (with_reducible exact ku0) | (with_reducible exact cell_al _ ku0) | (with_reducible exact cell_al _ (cell_al _ ku0)) | go_simp)
          replace ku1 : w6.cell? ⟨w.heap.size + 1 + 1, 1, none⟩ = some (.int .i64 u2) := cell_later hb (by first | (with_reducible exact ku1) | (with_reducible exact cell_al _ ku1) | (with_reducible exact cell_al _ (cell_al _ ku1)) | go_simp)
          replace zs : w.heap.size < w6.heap.size := World.block_lt_of_cell? _ _ ks0
          replace zt : w.heap.size + 1 < w6.heap.size := World.block_lt_of_cell? _ _ kt0
          replace zu : w.heap.size + 1 + 1 < w6.heap.size := World.block_lt_of_cell? _ _ ku0
          replace hb0 : Below w.heap.size w w6 := (by repeat (first | exact Below.refl _ _ | assumption | refine bstep ?_ (by assumption) | refine Below.drew ?_ | refine balloc ?_ _ | refine Below.setCell ?_ (by first | omega | (simp <;> omega)) _))
          clear hb
          go_wp2_with fail
          refine Calls.mono (C6 _) ?_
          rintro e w7 ⟨rfl, hb⟩
          replace ks0 : w7.cell? ⟨w.heap.size, 0, none⟩ = some (.int .i64 s1) := cell_later hb (by first | (with_reducible exact ks0) | (with_reducible exact cell_al _ ks0) | (with_reducible exact cell_al _ (cell_al _ ks0)) | go_simp)
          replace ks1 : w7.cell? ⟨w.heap.size, 1, none⟩ = some (.int .i64 s2) := cell_later hb (by first | (with_reducible exact ks1) | (with_reducible exact cell_al _ ks1) | (with_reducible exact cell_al _ (cell_al _ ks1)) | go_simp)
          replace kt0 : w7.cell? ⟨w.heap.size + 1, 0, none⟩ = some (.int .i64 t1) := cell_later hb (by first | (with_reducible exact kt0) | (with_reducible exact cell_al _ kt0) | (with_reducible exact cell_al _ (cell_al _ kt0)) | go_simp)
          replace kt1 : w7.cell? ⟨w.heap.size + 1, 1, none⟩ = some (.int .i64 t2) := cell_later hb (by first | (with_reducible exact kt1) | (with_reducible exact cell_al _ kt1) | (with_reducible exact cell_al _ (cell_al _ kt1)) | go_simp)
          replace ku0 : w7.cell? ⟨w.heap.size + 1 + 1, 0, none⟩ = some (.int .i64 u1) := cell_later hb (by first | (with_reducible exact ku0) | (with_reducible exact cell_al _ ku0) | (with_reducible exact cell_al _ (cell_al _ ku0)) | go_simp)
          replace ku1 : w7.cell? ⟨w.heap.size + 1 + 1, 1, none⟩ = some (.int .i64 u2) := cell_later hb (by first | (with_reducible exact ku1) | (with_reducible exact cell_al _ ku1) | (with_reducible exact cell_al _ (cell_al _ ku1)) | go_simp)
          have kx0 : w7.cell? ⟨w6.heap.size, 0, none⟩ = some (.int .i64 0) := cell_later hb (by go_simp)
          have kx1 : w7.cell? ⟨w6.heap.size, 1, none⟩ = some (.int .i64 0) := cell_later hb (by go_simp)
          replace zs : w.heap.size < w7.heap.size := World.block_lt_of_cell? _ _ ks0
          replace zt : w.heap.size + 1 < w7.heap.size := World.block_lt_of_cell? _ _ kt0
          replace zu : w.heap.size + 1 + 1 < w7.heap.size := World.block_lt_of_cell? _ _ ku0
          have zx : w6.heap.size < w7.heap.size := World.block_lt_of_cell? _ _ kx0
          replace hb0 : Below w.heap.size w w7 := (by repeat (first | exact Below.refl _ _ | assumption | refine bstep ?_ (by assumption) | refine Below.drew ?_ | refine balloc ?_ _ | refine Below.setCell ?_ (by first | omega | (simp <;> omega)) _))
          clear hb
          go_wp2
          all_goals first | (exfalso; omega) | (go_ret; refine ret_bool ?_ (by repeat (first | exact Below.refl _ _ | assumption | refine bstep ?_ (by assumption) | refine Below.drew ?_ | refine balloc ?_ _ | refine Below.setCell ?_ (by first | omega | (simp <;> omega)) _)); first | (simp; done) | (simp <;> omega))
  ·
    have v1 : vWithin s1 s2 t1 t2 = false := hv
    have v4 : vWithin t1 t2 s1 s2 = false := by unfold vWithin; rw [Bool.and_comm]; exact hv
    have C1 := fun w => Within_c s1 s2 t1 t2 w
    simp only [v1, selI, selB, erv, cond_true, cond_false, Bool.and_true, Bool.and_false, Bool.true_and, Bool.false_and] at C1
    have C4 := fun w => Within_c t1 t2 s1 s2 w
    simp only [v4, selI, selB, erv, cond_true, cond_false, Bool.and_true, Bool.and_false, Bool.true_and, Bool.false_and] at C4
    clear v1 v4
    go_enter Try.func8, Try.ntmps8
    go_wp2_with fail
    refine Calls.mono (head_c _) ?_
    rintro e w1 ⟨rfl, hb⟩
    have ks0 : w1.cell? ⟨w.heap.size, 0, none⟩ = some (.int .i64 s1) := cell_later hb (by go_simp)
    have ks1 : w1.cell? ⟨w.heap.size, 1, none⟩ = some (.int .i64 s2) := cell_later hb (by go_simp)
    have kt0 : w1.cell? ⟨w.heap.size + 1, 0, none⟩ = some (.int .i64 t1) := cell_later hb (by go_simp)
    have kt1 : w1.cell? ⟨w.heap.size + 1, 1, none⟩ = some (.int .i64 t2) := cell_later hb (by go_simp)
    have ku0 : w1.cell? ⟨w.heap.size + 1 + 1, 0, none⟩ = some (.int .i64 u1) := cell_later hb (by go_simp)
    have ku1 : w1.cell? ⟨w.heap.size + 1 + 1, 1, none⟩ = some (.int .i64 u2) := cell_later hb (by go_simp)
    have zs : w.heap.size < w1.heap.size := World.block_lt_of_cell? _ _ ks0
    have zt : w.heap.size + 1 < w1.heap.size := World.block_lt_of_cell? _ _ kt0
    have zu : w.heap.size + 1 + 1 < w1.heap.size := World.block_lt_of_cell? _ _ ku0
    have hb0 : Below w.heap.size w w1 := (by repeat (first | exact Below.refl _ _ | assumption | refine bstep ?_ (by assumption) | refine Below.drew ?_ | refine balloc ?_ _ | refine Below.setCell ?_ (by first | omega | (simp <;> omega)) _))
    clear hb
    go_wp2_with fail
    refine Calls.mono (C1 _) ?_
    rintro e w2 ⟨rfl, hb⟩
    replace ks0 : w2.cell? ⟨w.heap.size, 0, none⟩ = some (.int .i64 s1) := cell_later hb (by first | (with_reducible exact ks0) | (with_reducible exact cell_al _ ks0) | (with_reducible exact cell_al _ (cell_al _ ks0)) | go_simp)
    replace ks1 : w2.cell? ⟨w.heap.size, 1, none⟩ = some (.int .i64 s2) := cell_later hb (by first | (with_reducible exact ks1) | (with_reducible exact cell_al _ ks1) | (with_reducible exact cell_al _ (cell_al _ ks1)) | go_simp)
    replace kt0 : w2.cell? ⟨w.heap.size + 1, 0, none⟩ = some (.int .i64 t1) := cell_later hb (by first | (with_reducible exact kt0) | (with_reducible exact cell_al _ kt0) | (with_reducible exact cell_al _ (cell_al _ kt0)) | go_simp)
    replace kt1 : w2.cell? ⟨w.heap.size + 1, 1, none⟩ = some (.int .i64 t2) := cell_later hb (by first | (with_reducible exact kt1) | (with_reducible exact cell_al _ kt1) | (with_reducible exact cell_al _ (cell_al _ kt1)) | go_simp)
    replace ku0 : w2.cell? ⟨w.heap.size + 1 + 1, 0, none⟩ = some (.int .i64 u1) := cell_later hb (by first | (with_reducible exact ku0) | (with_reducible exact cell_al _ ku0) | (with_reducible exact cell_al _ (cell_al _ ku0)) | go_simp)
    replace ku1 : w2.cell? ⟨w.heap.size + 1 + 1, 1, none⟩ = some (.int .i64 u2) := cell_later hb (by first | (with_reducible exact ku1) | (with_reducible exact cell_al _ ku1) | (with_reducible exact cell_al _ (cell_al _ ku1)) | go_simp)
    replace zs : w.heap.size < w2.heap.size := World.block_lt_of_cell? _ _ ks0
    replace zt : w.heap.size + 1 < w2.heap.size := World.block_lt_of_cell? _ _ kt0
    replace zu : w.heap.size + 1 + 1 < w2.heap.size := World.block_lt_of_cell? _ _ ku0
    replace hb0 : Below w.heap.size w w2 := (by repeat (first | exact Below.refl _ _ | assumption | refine bstep ?_ (by assumption) | refine Below.drew ?_ | refine balloc ?_ _ | refine Below.setCell ?_ (by first | omega | (simp <;> omega)) _))
    clear hb
    go_wp2_with fail
    refine Calls.mono (C2 _) ?_
    rintro e w3 ⟨rfl, hb⟩
    replace ks0 : w3.cell? ⟨w.heap.size, 0, none⟩ = some (.int .i64 s1) := cell_later hb (by first | (with_reducible exact ks0) | (with_reducible exact cell_al _ ks0) | (with_reducible exact cell_al _ (cell_al _ ks0)) | go_simp)
    replace ks1 : w3.cell? ⟨w.heap.size, 1, none⟩ = some (.int .i64 s2) := cell_later hb (by first | (with_reducible exact ks1) | (with_reducible exact cell_al _ ks1) | (with_reducible exact cell_al _ (cell_al _ ks1)) | go_simp)
    replace kt0 : w3.cell? ⟨w.heap.size + 1, 0, none⟩ = some (.int .i64 t1) := cell_later hb (by first | (with_reducible exact kt0) | (with_reducible exact cell_al _ kt0) | (with_reducible exact cell_al _ (cell_al _ kt0)) | go_simp)
    replace kt1 : w3.cell? ⟨w.heap.size + 1, 1, none⟩ = some (.int .i64 t2) := cell_later hb (by first | (with_reducible exact kt1) | (with_reducible exact cell_al _ kt1) | (with_reducible exact cell_al _ (cell_al _ kt1)) | go_simp)
    replace ku0 : w3.cell? ⟨w.heap.size + 1 + 1, 0, none⟩ = some (.int .i64 u1) := cell_later hb (by first | (with_reducible exact ku0) | (with_reducible exact cell_al _ ku0) | (with_reducible exact cell_al _ (cell_al _ ku0)) | go_simp)
    replace ku1 : w3.cell? ⟨w.heap.size + 1 + 1, 1, none⟩ = some (.int .i64 u2) := cell_later hb (by first | (with_reducible exact ku1) | (with_reducible exact cell_al _ ku1) | (with_reducible exact cell_al _ (cell_al _ ku1)) | go_simp)
    replace zs : w.heap.size < w3.heap.size := World.block_lt_of_cell? _ _ ks0
    replace zt : w.heap.size + 1 < w3.heap.size := World.block_lt_of_cell? _ _ kt0
    replace zu : w.heap.size + 1 + 1 < w3.heap.size := World.block_lt_of_cell? _ _ ku0
    replace hb0 : Below w.heap.size w w3 := (by repeat (first | exact Below.refl _ _ | assumption | refine bstep ?_ (by assumption) | refine Below.drew ?_ | refine balloc ?_ _ | refine Below.setCell ?_ (by first | omega | (simp <;> omega)) _))
    clear hb
    go_wp2_with fail
    refine Calls.mono (C3 _) ?_
    rintro e w4 ⟨rfl, hb⟩
    replace ks0 : w4.cell? ⟨w.heap.size, 0, none⟩ = some (.int .i64 s1) := cell_later hb (by first | (with_reducible exact ks0) | (with_reducible exact cell_al _ ks0) | (with_reducible exact cell_al _ (cell_al _ ks0)) | go_simp)
    replace ks1 : w4.cell? ⟨w.heap.size, 1, none⟩ = some (.int .i64 s2) := cell_later hb (by first | (with_reducible exact ks1) | (with_reducible exact cell_al _ ks1) | (with_reducible exact cell_al _ (cell_al _ ks1)) | go_simp)
    replace kt0 : w4.cell? ⟨w.heap.size + 1, 0, none⟩ = some (.int .i64 t1) := cell_later hb (by first | (with_reducible exact kt0) | (with_reducible exact cell_al _ kt0) | (with_reducible exact cell_al _ (cell_al _ kt0)) | go_simp)
    replace kt1 : w4.cell? ⟨w.heap.size + 1, 1, none⟩ = some (.int .i64 t2) := cell_later hb (by first | (with_reducible exact kt1) | (with_reducible exact cell_al _ kt1) | (with_reducible exact cell_al _ (cell_al _ kt1)) | go_simp)
    replace ku0 : w4.cell? ⟨w.heap.size + 1 + 1, 0, none⟩ = some (.int .i64 u1) := cell_later hb (by first | (with_reducible exact ku0) | (with_reducible exact cell_al _ ku0) | (with_reducible exact cell_al _ (cell_al _ ku0)) | go_simp)
    replace ku1 : w4.cell? ⟨w.heap.size + 1 + 1, 1, none⟩ = some (.int .i64 u2) := cell_later hb (by first | (with_reducible exact ku1) | (with_reducible exact cell_al _ ku1) | (with_reducible exact cell_al _ (cell_al _ ku1)) | go_simp)
    replace zs : w.heap.size < w4.heap.size := World.block_lt_of_cell? _ _ ks0
    replace zt : w.heap.size + 1 < w4.heap.size := World.block_lt_of_cell? _ _ kt0
    replace zu : w.heap.size + 1 + 1 < w4.heap.size := World.block_lt_of_cell? _ _ ku0
    replace hb0 : Below w.heap.size w w4 := (by repeat (first | exact Below.refl _ _ | assumption | refine bstep ?_ (by assumption) | refine Below.drew ?_ | refine balloc ?_ _ | refine Below.setCell ?_ (by first | omega | (simp <;> omega)) _))
    clear hb
    go_wp2_with fail
    refine Calls.mono (C4 _) ?_
    rintro e w5 ⟨rfl, hb⟩
    replace ks0 : w5.cell? ⟨w.heap.size, 0, none⟩ = some (.int .i64 s1) := cell_later hb (by first | (with_reducible exact ks0) | (with_reducible exact cell_al _ ks0) | (with_reducible exact cell_al _ (cell_al _ ks0)) | go_simp)
    replace ks1 : w5.cell? ⟨w.heap.size, 1, none⟩ = some (.int .i64 s2) := cell_later hb (by first | (with_reducible exact ks1) | (with_reducible exact cell_al _ ks1) | (with_reducible exact cell_al _ (cell_al _ ks1)) | go_simp)
    replace kt0 : w5.cell? ⟨w.heap.size + 1, 0, none⟩ = some (.int .i64 t1) := cell_later hb (by first | (with_reducible exact kt0) | (with_reducible exact cell_al _ kt0) | (with_reducible exact cell_al _ (cell_al _ kt0)) | go_simp)
    replace kt1 : w5.cell? ⟨w.heap.size + 1, 1, none⟩ = some (.int .i64 t2) := cell_later hb (by first | (with_reducible exact kt1) | (with_reducible exact cell_al _ kt1) | (with_reducible exact cell_al _ (cell_al _ kt1)) | go_simp)
    replace ku0 : w5.cell? ⟨w.heap.size + 1 + 1, 0, none⟩ = some (.int .i64 u1) := cell_later hb (by first | (with_reducible exact ku0) | (with_reducible exact cell_al _ ku0) | (with_reducible exact cell_al _ (cell_al _ ku0)) | go_simp)
    replace ku1 : w5.cell? ⟨w.heap.size + 1 + 1, 1, none⟩ = some (.int .i64 u2) := cell_later hb (by first | (with_reducible exact ku1) | (with_reducible exact cell_al _ ku1) | (with_reducible exact cell_al _ (cell_al _ ku1)) | go_simp)
    replace zs : w.heap.size < w5.heap.size := World.block_lt_of_cell? _ _ ks0
    replace zt : w.heap.size + 1 < w5.heap.size := World.block_lt_of_cell? _ _ kt0
    replace zu : w.heap.size + 1 + 1 < w5.heap.size := World.block_lt_of_cell? _ _ ku0
    replace hb0 : Below w.heap.size w w5 := (by repeat (first | exact Below.refl _ _ | assumption | refine bstep ?_ (by assumption) | refine Below.drew ?_ | refine balloc ?_ _ | refine Below.setCell ?_ (by first | omega | (simp <;> omega)) _))
    clear hb
    go_wp2
    all_goals first | (exfalso; omega) | (go_ret; refine ret_bool ?_ (by repeat (first | exact Below.refl _ _ | assumption | refine bstep ?_ (by assumption) | refine Below.drew ?_ | refine balloc ?_ _ | refine Below.setCell ?_ (by first | omega | (simp <;> omega)) _)); first | (simp; done) | (simp <;> omega))


end Go.Proofs.Ytendnhmobhicmaa
