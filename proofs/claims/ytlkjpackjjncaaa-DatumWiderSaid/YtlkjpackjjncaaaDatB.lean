/- DatB: the rows. -/
import Derived.Test.YtlkjpackjjncaaaDatA
import Derived.Test.YtlkjpackjjncaaaRows
import Derived.WalkKit
import Derived.WalkSpells
import Derived.WalkLawsBesides
import Derived.Lib.Hide
import Derived.Deep.QuietTactic
import Derived.BigQuiet
import Derived.RegionTactic
import Derived.ChangeAlike
import Derived.BigRegion
import Derived.Deep.RegionHeld3
import Derived.Deep.RegionWith
import Derived.Outline
import Derived.Laws.EntriesVeiled
import Derived.Deep.DeepCutAuto
namespace Go.Proofs.Ytlkjpackjjncaaa.Da
open Go.RowKit Sp
set_option linter.unusedSimpArgs false
set_option linter.unusedVariables false

set_option maxHeartbeats 400000 in
theorem det_c (m1 m2 m3 m4 m5 m6 : Int) (w : World) (hm1 : -2000000 ≤ m1 ∧ m1 ≤ 2000000) (hm2 : -2000000 ≤ m2 ∧ m2 ≤ 2000000) (hm4 : -2000000 ≤ m4 ∧ m4 ≤ 2000000) (hm5 : -2000000 ≤ m5 ∧ m5 ≤ 2000000) : Calls Try.prog 32 #[(.agg #[(.int .i64 m1), (.int .i64 m2), (.int .i64 m3), (.int .i64 m4), (.int .i64 m5), (.int .i64 m6)])] w (Ret w (.int .i64 (m1 * m5 - m2 * m4))) := by
  have mb_m1m5 := mul_bd (a := m1) (b := m5) (A := 2000000) (B := 2000000) (by omega) (by omega) (by omega) (by omega)
  have mb_m2m4 := mul_bd (a := m2) (b := m4) (A := 2000000) (B := 2000000) (by omega) (by omega) (by omega) (by omega)
  go_enter Try.func32, Try.ntmps32
  go_wp2
  all_goals
    go_ret
    exact ⟨rfl, (by repeat (first | with_reducible exact Below.refl _ _ | with_reducible assumption | with_reducible refine Below.setCell ?_ (by first | omega | (simp <;> omega)) _ | with_reducible refine balloc ?_ _ | with_reducible refine Below.drew ?_ | with_reducible refine bstep ?_ (by with_reducible assumption)))⟩

set_option maxHeartbeats 400000 in
theorem value_c (r1 r2 r3 p1 p2 : Int) (w : World) (hr1 : -2000000 ≤ r1 ∧ r1 ≤ 2000000) (hr2 : -2000000 ≤ r2 ∧ r2 ≤ 2000000) (hr3 : -100000 ≤ r3 ∧ r3 ≤ 100000) (hp1 : -1000000 ≤ p1 ∧ p1 ≤ 1000000) (hp2 : -1000000 ≤ p2 ∧ p2 ≤ 1000000) : Calls Try.prog 53 #[(.agg #[(.int .i64 r1), (.int .i64 r2), (.int .i64 r3)]), (.agg #[(.int .i64 p1), (.int .i64 p2)])] w (Ret w (.int .i64 (rv r1 r2 r3 p1 p2))) := by
  have mb_r1p1 := mul_bd (a := r1) (b := p1) (A := 2000000) (B := 1000000) (by omega) (by omega) (by omega) (by omega)
  have mb_r2p2 := mul_bd (a := r2) (b := p2) (A := 2000000) (B := 1000000) (by omega) (by omega) (by omega) (by omega)
  go_enter Try.func53, Try.ntmps53
  go_wp2
  all_goals
    go_ret
    exact ⟨rfl, (by repeat (first | with_reducible exact Below.refl _ _ | with_reducible assumption | with_reducible refine Below.setCell ?_ (by first | omega | (simp <;> omega)) _ | with_reducible refine balloc ?_ _ | with_reducible refine Below.drew ?_ | with_reducible refine bstep ?_ (by with_reducible assumption)))⟩

set_option maxHeartbeats 400000 in
theorem multiple_c (s1 s2 n : Int) (w : World) (h1 : -9000000000000000000 ≤ s1 * n ∧ s1 * n ≤ 9000000000000000000) (h2 : -9000000000000000000 ≤ s2 * n ∧ s2 * n ≤ 9000000000000000000) : Calls Try.prog 67 #[(.agg #[(.int .i64 s1), (.int .i64 s2)]), (.int .i64 n)] w (Ret w (.agg #[(.int .i64 (min (s1 * n) (s2 * n))), (.int .i64 (max (s1 * n) (s2 * n)))])) := by
  go_enter Try.func67, Try.ntmps67
  go_wp2
  all_goals
    refine bodyPost_ret ?_ rfl ⟨rfl, (by repeat (first | with_reducible exact Below.refl _ _ | with_reducible assumption | with_reducible refine Below.setCell ?_ (by first | omega | (simp <;> omega)) _ | with_reducible refine balloc ?_ _ | with_reducible refine Below.drew ?_ | with_reducible refine bstep ?_ (by with_reducible assumption)))⟩
    simp [results, Try.results67, go_sem] <;> omega

set_option maxHeartbeats 400000 in
theorem shift_c (r1 r2 r3 n : Int) (w : World) (hr3 : -100000 ≤ r3 ∧ r3 ≤ 100000) (hn : 0 ≤ n ∧ n ≤ 1000) : Calls Try.prog 78 #[(.agg #[(.int .i64 r1), (.int .i64 r2), (.int .i64 r3)]), (.int .i64 n)] w (Ret w (.agg #[(.int .i64 (r3 - n)), (.int .i64 (r3 + n))])) := by
  go_enter Try.func78, Try.ntmps78
  go_wp2
  all_goals
    refine bodyPost_ret ?_ rfl ⟨rfl, (by repeat (first | with_reducible exact Below.refl _ _ | with_reducible assumption | with_reducible refine Below.setCell ?_ (by first | omega | (simp <;> omega)) _ | with_reducible refine balloc ?_ _ | with_reducible refine Below.drew ?_ | with_reducible refine bstep ?_ (by with_reducible assumption)))⟩
    simp [results, Try.results78, go_sem]

set_option maxHeartbeats 400000 in
theorem weight_c (r1 r2 r3 n : Int) (w : World) (hr1 : -10000000 ≤ r1 ∧ r1 ≤ 10000000) (hr2 : -10000000 ≤ r2 ∧ r2 ≤ 10000000) (hn : 0 ≤ n ∧ n ≤ 1) : Calls Try.prog 82 #[(.agg #[(.int .i64 r1), (.int .i64 r2), (.int .i64 r3)]), (.int .i64 n)] w (Ret w (.int .i64 (max r1 (-r1) + max r2 (-r2) + n))) := by
  go_enter Try.func82, Try.ntmps82
  go_wp2
  all_goals
    go_ret
    refine ret_int ?_ (by repeat (first | with_reducible exact Below.refl _ _ | with_reducible assumption | with_reducible refine Below.setCell ?_ (by first | omega | (simp <;> omega)) _ | with_reducible refine balloc ?_ _ | with_reducible refine Below.drew ?_ | with_reducible refine bstep ?_ (by with_reducible assumption)))
    omega

set_option maxHeartbeats 3200000 in
theorem over_c (r1 r2 r3 b1 b2 b3 b4 : Int) (w : World) (hr1 : -2000000 ≤ r1 ∧ r1 ≤ 2000000) (hr2 : -2000000 ≤ r2 ∧ r2 ≤ 2000000) (hr3 : -100000 ≤ r3 ∧ r3 ≤ 100000) (hb1 : -1200000 ≤ b1 ∧ b1 ≤ 1200000) (hb2 : -1200000 ≤ b2 ∧ b2 ≤ 1200000) (hb3 : -1200000 ≤ b3 ∧ b3 ≤ 1200000) (hb4 : -1200000 ≤ b4 ∧ b4 ≤ 1200000) : Calls Try.prog 55 #[(.agg #[(.int .i64 r1), (.int .i64 r2), (.int .i64 r3)]), (.agg #[(.int .i64 b1), (.int .i64 b2), (.int .i64 b3), (.int .i64 b4)])] w (Ret w (.agg #[(.int .i64 (oL r1 r2 r3 b1 b2 b3 b4)), (.int .i64 (oH r1 r2 r3 b1 b2 b3 b4))])) := by
  have mb_b1r1 := mul_bd (a := b1) (b := r1) (A := 1200000) (B := 2000000) (by omega) (by omega) (by omega) (by omega)
  have mb_b2r1 := mul_bd (a := b2) (b := r1) (A := 1200000) (B := 2000000) (by omega) (by omega) (by omega) (by omega)
  have mb_b3r2 := mul_bd (a := b3) (b := r2) (A := 1200000) (B := 2000000) (by omega) (by omega) (by omega) (by omega)
  have mb_b4r2 := mul_bd (a := b4) (b := r2) (A := 1200000) (B := 2000000) (by omega) (by omega) (by omega) (by omega)
  go_enter Try.func55, Try.ntmps55
  go_upto_region 1 with fail
  go_cut [5, 6] (fun s5 s6 wx => ∃ gx gy : Nat, s5 = .pointer (some ⟨gx, 0, none⟩) ∧ s6 = .pointer (some ⟨gy, 0, none⟩) ∧ w.heap.size + 1 + 1 + 1 ≤ gx ∧ w.heap.size + 1 + 1 + 1 ≤ gy ∧ wx.cell? ⟨gx, 0, none⟩ = some (.int .i64 (min (b1 * r1) (b2 * r1))) ∧ wx.cell? ⟨gx, 1, none⟩ = some (.int .i64 (max (b1 * r1) (b2 * r1))) ∧ wx.cell? ⟨gy, 0, none⟩ = some (.int .i64 (min (b3 * r2) (b4 * r2))) ∧ wx.cell? ⟨gy, 1, none⟩ = some (.int .i64 (max (b3 * r2) (b4 * r2))) ∧ wx.cell? ⟨w.heap.size, 0, none⟩ = some (.int .i64 r1) ∧ wx.cell? ⟨w.heap.size, 1, none⟩ = some (.int .i64 r2) ∧ wx.cell? ⟨w.heap.size, 2, none⟩ = some (.int .i64 r3) ∧ wx.cell? ⟨w.heap.size + 1, 0, none⟩ = some (.int .i64 b1) ∧ wx.cell? ⟨w.heap.size + 1, 1, none⟩ = some (.int .i64 b2) ∧ wx.cell? ⟨w.heap.size + 1, 2, none⟩ = some (.int .i64 b3) ∧ wx.cell? ⟨w.heap.size + 1, 3, none⟩ = some (.int .i64 b4) ∧ wx.cell? ⟨w.heap.size + 1 + 1, 0, none⟩ = some (.int .i64 0) ∧ wx.frozen? ⟨w.heap.size + 1 + 1, 0, none⟩ = false ∧ wx.cell? ⟨w.heap.size + 1 + 1, 1, none⟩ = some (.int .i64 0) ∧ wx.frozen? ⟨w.heap.size + 1 + 1, 1, none⟩ = false ∧ Below w.heap.size w wx)
  case first =>
    refine wp_region_held_drew (S := fun w' => w'.cell? ⟨w.heap.size, 0, none⟩ = some (.int .i64 r1) ∧ w'.cell? ⟨w.heap.size, 1, none⟩ = some (.int .i64 r2) ∧ w'.cell? ⟨w.heap.size, 2, none⟩ = some (.int .i64 r3) ∧ w'.cell? ⟨w.heap.size + 1, 0, none⟩ = some (.int .i64 b1) ∧ w'.cell? ⟨w.heap.size + 1, 1, none⟩ = some (.int .i64 b2) ∧ w'.cell? ⟨w.heap.size + 1, 2, none⟩ = some (.int .i64 b3) ∧ w'.cell? ⟨w.heap.size + 1, 3, none⟩ = some (.int .i64 b4)) (by kernel_rfl) (by first | (go_keep; done) | ((repeat' apply And.intro) <;> go_simp)) (fun hHeld => ?_)
    refine wpAnyH_take (i := 0) (oi := ⟨some 7, _, _, _, _, _⟩) (v := ?_) rfl (by kernel_rfl) (by kernel_rfl) (by kernel_rfl) (fun _ _ _ h => h) (Or.inl ⟨by rfl, ?_⟩) (by assumption) ?_
    rotate_left
    · intro w hSw; (try dsimp only at hSw); go_simp; try with_reducible rfl
    try simp only [Act.put, List.setIfInBounds_toArray, List.set_cons_zero, List.set_cons_succ]
    refine wpAnyH_take (i := 1) (oi := ⟨some 8, _, _, _, _, _⟩) (v := ?_) rfl (by kernel_rfl) (by kernel_rfl) (by kernel_rfl) (fun _ _ _ h => h) (Or.inl ⟨by rfl, ?_⟩) (by assumption) ?_
    rotate_left
    · intro w hSw; (try dsimp only at hSw); go_simp; try with_reducible rfl
    try simp only [Act.put, List.setIfInBounds_toArray, List.set_cons_zero, List.set_cons_succ]
    refine wpAnyH_take (i := 2) (oi := ⟨some 9, _, _, _, _, _⟩) (v := ?_) rfl (by kernel_rfl) (by kernel_rfl) (by kernel_rfl) (fun _ _ _ h => h) (Or.inl ⟨by rfl, ?_⟩) (by assumption) ?_
    rotate_left
    · intro w hSw; (try dsimp only at hSw); go_simp; try with_reducible rfl
    try simp only [Act.put, List.setIfInBounds_toArray, List.set_cons_zero, List.set_cons_succ]
    refine wpAnyH_take (i := 3) (oi := ⟨some 10, _, _, _, _, _⟩) (v := ?_) rfl (by kernel_rfl) (by kernel_rfl) (by kernel_rfl) (fun _ _ _ h => h) (Or.inl ⟨by rfl, ?_⟩) (by assumption) ?_
    rotate_left
    · intro w hSw; (try dsimp only at hSw); go_simp; try with_reducible rfl
    try simp only [Act.put, List.setIfInBounds_toArray, List.set_cons_zero, List.set_cons_succ]
    refine wpAnyH_take (i := 5) (oi := ⟨some 12, _, _, _, _, _⟩) (v := ?_) rfl (by kernel_rfl) (by kernel_rfl) (by kernel_rfl) (fun _ _ _ h => h) (Or.inl ⟨by rfl, ?_⟩) (by assumption) ?_
    rotate_left
    · intro w hSw; (try dsimp only at hSw); go_simp; try with_reducible rfl
    try simp only [Act.put, List.setIfInBounds_toArray, List.set_cons_zero, List.set_cons_succ]
    refine wpAnyH_take (i := 6) (oi := ⟨some 13, _, _, _, _, _⟩) (v := ?_) rfl (by kernel_rfl) (by kernel_rfl) (by kernel_rfl) (fun _ _ _ h => h) (Or.inl ⟨by rfl, ?_⟩) (by assumption) ?_
    rotate_left
    · intro w hSw; (try dsimp only at hSw); go_simp; try with_reducible rfl
    try simp only [Act.put, List.setIfInBounds_toArray, List.set_cons_zero, List.set_cons_succ]
    refine wpAnyH_take (i := 7) (oi := ⟨some 14, _, _, _, _, _⟩) (v := ?_) rfl (by kernel_rfl) (by kernel_rfl) (by kernel_rfl) (fun _ _ _ h => h) (Or.inl ⟨by rfl, ?_⟩) (by assumption) ?_
    rotate_left
    · intro w hSw; (try dsimp only at hSw); go_simp; try with_reducible rfl
    try simp only [Act.put, List.setIfInBounds_toArray, List.set_cons_zero, List.set_cons_succ]
    refine wpAnyH_take (i := 8) (oi := ⟨some 15, _, _, _, _, _⟩) (v := ?_) rfl (by kernel_rfl) (by kernel_rfl) (by kernel_rfl) (fun _ _ _ h => h) (Or.inl ⟨by rfl, ?_⟩) (by assumption) ?_
    rotate_left
    · intro w hSw; (try dsimp only at hSw); go_simp; try with_reducible rfl
    try simp only [Act.put, List.setIfInBounds_toArray, List.set_cons_zero, List.set_cons_succ]
    refine wpAnyH_ready (rs := [4, 10, 11]) (by kernel_rfl) (by simp) ?_
    refine AllReadyH.cons (o := ⟨some 11, _, _, _, _, _⟩) rfl (fun KK hKK => ?_) (AllReadyH.cons (o := ⟨some 5, _, _, _, _, _⟩) rfl (fun KK hKK => ?_) (AllReadyH.cons (o := ⟨some 6, _, _, _, _, _⟩) rfl (fun KK hKK => ?_) AllReadyH.nil))
    · go_simp
      refine Calls.mono (multiple_c b1 b2 r1 _ (by omega) (by omega)) ?_
      rintro e wt1 ⟨rfl, hb⟩
      have kr0 : wt1.cell? ⟨w.heap.size, 0, none⟩ = some (.int .i64 r1) := cell_later hb (by go_simp)
      have kr1 : wt1.cell? ⟨w.heap.size, 1, none⟩ = some (.int .i64 r2) := cell_later hb (by go_simp)
      have kr2 : wt1.cell? ⟨w.heap.size, 2, none⟩ = some (.int .i64 r3) := cell_later hb (by go_simp)
      have kb0 : wt1.cell? ⟨w.heap.size + 1, 0, none⟩ = some (.int .i64 b1) := cell_later hb (by go_simp)
      have kb1 : wt1.cell? ⟨w.heap.size + 1, 1, none⟩ = some (.int .i64 b2) := cell_later hb (by go_simp)
      have kb2 : wt1.cell? ⟨w.heap.size + 1, 2, none⟩ = some (.int .i64 b3) := cell_later hb (by go_simp)
      have kb3 : wt1.cell? ⟨w.heap.size + 1, 3, none⟩ = some (.int .i64 b4) := cell_later hb (by go_simp)
      have kz0 : wt1.cell? ⟨w.heap.size + 1 + 1, 0, none⟩ = some (.int .i64 0) := cell_later hb (by go_simp)
      have jz0 : wt1.frozen? ⟨w.heap.size + 1 + 1, 0, none⟩ = false := by rw [(bcell hb).2 _ _ (by first | omega | (simp <;> omega))]; go_simp
      have kz1 : wt1.cell? ⟨w.heap.size + 1 + 1, 1, none⟩ = some (.int .i64 0) := cell_later hb (by go_simp)
      have jz1 : wt1.frozen? ⟨w.heap.size + 1 + 1, 1, none⟩ = false := by rw [(bcell hb).2 _ _ (by first | omega | (simp <;> omega))]; go_simp
      have zr : w.heap.size < wt1.heap.size := World.block_lt_of_cell? _ _ kr0
      have zr_wt1 := zr
      have zb : w.heap.size + 1 < wt1.heap.size := World.block_lt_of_cell? _ _ kb0
      have zb_wt1 := zb
      have zz : w.heap.size + 1 + 1 < wt1.heap.size := World.block_lt_of_cell? _ _ kz0
      have zz_wt1 := zz
      have hb0 : Below w.heap.size w wt1 := (by repeat (first | with_reducible exact Below.refl _ _ | with_reducible assumption | with_reducible refine Below.setCell ?_ (by first | omega | (simp <;> omega)) _ | with_reducible refine balloc ?_ _ | with_reducible refine Below.drew ?_ | with_reducible refine bstep ?_ (by with_reducible assumption)))
      have hs_wt1 := hb.size; (try simp only [World.size_alloc, World.size_setCell] at hs_wt1)
      clear hb
      (try go_wp2_with fail)
      refine hKK.out _ _ (by first | (go_keep; done) | ((repeat' apply And.intro) <;> go_simp)) (fun hHeld => ?_)
      clear hKK KK
      try simp only [Act.put, List.setIfInBounds_toArray, List.set_cons_zero, List.set_cons_succ]
      refine wpAnyH_ready (rs := [9, 10, 11]) (by kernel_rfl) (by simp) ?_
      refine AllReadyH.cons (o := ⟨some 16, _, _, _, _, _⟩) rfl (fun KK hKK => ?_) (AllReadyH.cons (o := ⟨some 5, _, _, _, _, _⟩) rfl (fun KK hKK => ?_) (AllReadyH.cons (o := ⟨some 6, _, _, _, _, _⟩) rfl (fun KK hKK => ?_) AllReadyH.nil))
      · go_simp
        refine Calls.mono (multiple_c b3 b4 r2 _ (by omega) (by omega)) ?_
        rintro e wt2 ⟨rfl, hb⟩
        replace kr0 := cell_later hb kr0
        replace kr1 := cell_later hb kr1
        replace kr2 := cell_later hb kr2
        replace kb0 := cell_later hb kb0
        replace kb1 := cell_later hb kb1
        replace kb2 := cell_later hb kb2
        replace kb3 := cell_later hb kb3
        replace jz0 := fro_later hb kz0 jz0
        replace kz0 := cell_later hb kz0
        replace jz1 := fro_later hb kz1 jz1
        replace kz1 := cell_later hb kz1
        replace zr : w.heap.size < wt2.heap.size := World.block_lt_of_cell? _ _ kr0
        have zr_wt2 := zr
        replace zb : w.heap.size + 1 < wt2.heap.size := World.block_lt_of_cell? _ _ kb0
        have zb_wt2 := zb
        replace zz : w.heap.size + 1 + 1 < wt2.heap.size := World.block_lt_of_cell? _ _ kz0
        have zz_wt2 := zz
        replace hb0 : Below w.heap.size w wt2 := (by repeat (first | with_reducible exact Below.refl _ _ | with_reducible assumption | with_reducible refine Below.setCell ?_ (by first | omega | (simp <;> omega)) _ | with_reducible refine balloc ?_ _ | with_reducible refine Below.drew ?_ | with_reducible refine bstep ?_ (by with_reducible assumption)))
        have hs_wt2 : wt1.heap.size ≤ wt2.heap.size := hb.size
        clear hb
        (try go_wp2_with fail)
        refine hKK.out _ _ (by first | (go_keep; done) | ((repeat' apply And.intro) <;> go_simp)) (fun hHeld => ?_)
        clear hKK KK
        try simp only [Act.put, List.setIfInBounds_toArray, List.set_cons_zero, List.set_cons_succ]
        refine wpAnyH_ready (rs := [10, 11]) (by kernel_rfl) (by simp) ?_
        refine AllReadyH.cons (o := ⟨some 5, _, _, _, _, _⟩) rfl (fun KK hKK => ?_) (AllReadyH.cons (o := ⟨some 6, _, _, _, _, _⟩) rfl (fun KK hKK => ?_) AllReadyH.nil)
        · go_simp
          (try go_wp2_with fail)
          refine hKK.out _ _ (by first | (go_keep; done) | ((repeat' apply And.intro) <;> go_simp)) (fun hHeld => ?_)
          clear hKK KK
          try simp only [Act.put, List.setIfInBounds_toArray, List.set_cons_zero, List.set_cons_succ]
          refine wpAnyH_ready (rs := [11]) (by kernel_rfl) (by simp) ?_
          refine AllReadyH.cons (o := ⟨some 6, _, _, _, _, _⟩) rfl (fun KK hKK => ?_) AllReadyH.nil
          go_simp
          (try go_wp2_with fail)
          refine hKK.out _ _ (by first | (go_keep; done) | ((repeat' apply And.intro) <;> go_simp)) (fun hHeld => ?_)
          clear hKK KK
          try simp only [Act.put, List.setIfInBounds_toArray, List.set_cons_zero, List.set_cons_succ]
          refine wpAnyH_ready (rs := [12]) (by kernel_rfl) (by simp) ?_
          refine AllReadyH.cons (o := ⟨none, _, _, _, _, _⟩) rfl (fun KK hKK => ?_) AllReadyH.nil
          go_simp
          (try go_wp2_with fail)
          refine hKK.out _ _ (by first | (go_keep; done) | ((repeat' apply And.intro) <;> go_simp)) (fun hHeld => ?_)
          clear hKK KK
          try simp only [Act.put, List.setIfInBounds_toArray, List.set_cons_zero, List.set_cons_succ]
          refine wpAnyH_ready (rs := [13]) (by kernel_rfl) (by simp) ?_
          refine AllReadyH.cons (o := ⟨none, _, _, _, _, _⟩) rfl (fun KK hKK => ?_) AllReadyH.nil
          go_simp
          (try go_wp2_with fail)
          refine hKK.out _ _ (by first | (go_keep; done) | ((repeat' apply And.intro) <;> go_simp)) (fun hHeld => ?_)
          clear hKK KK
          try simp only [Act.put, List.setIfInBounds_toArray, List.set_cons_zero, List.set_cons_succ]
          refine wpAnyH_done (by kernel_rfl) ?_ _
          (try dsimp only [Exit.then, Met])
          go_wp2_with fail
          go_meet
          refine ⟨_, _, rfl, rfl, by first | omega | (simp; omega), by first | omega | (simp; omega), ?_, ?_, ?_, ?_, ?_, ?_, ?_, ?_, ?_, ?_, ?_, ?_, ?_, ?_, ?_, (by repeat (first | with_reducible exact Below.refl _ _ | with_reducible assumption | with_reducible refine Below.setCell ?_ (by first | omega | (simp <;> omega)) _ | with_reducible refine balloc ?_ _ | with_reducible refine Below.drew ?_ | with_reducible refine bstep ?_ (by with_reducible assumption)))⟩
          all_goals first | (with_reducible assumption) | go_simp
        · go_simp
          (try go_wp2_with fail)
          refine hKK.out _ _ (by first | (go_keep; done) | ((repeat' apply And.intro) <;> go_simp)) (fun hHeld => ?_)
          clear hKK KK
          try simp only [Act.put, List.setIfInBounds_toArray, List.set_cons_zero, List.set_cons_succ]
          refine wpAnyH_ready (rs := [10]) (by kernel_rfl) (by simp) ?_
          refine AllReadyH.cons (o := ⟨some 5, _, _, _, _, _⟩) rfl (fun KK hKK => ?_) AllReadyH.nil
          go_simp
          (try go_wp2_with fail)
          refine hKK.out _ _ (by first | (go_keep; done) | ((repeat' apply And.intro) <;> go_simp)) (fun hHeld => ?_)
          clear hKK KK
          try simp only [Act.put, List.setIfInBounds_toArray, List.set_cons_zero, List.set_cons_succ]
          refine wpAnyH_ready (rs := [12]) (by kernel_rfl) (by simp) ?_
          refine AllReadyH.cons (o := ⟨none, _, _, _, _, _⟩) rfl (fun KK hKK => ?_) AllReadyH.nil
          go_simp
          (try go_wp2_with fail)
          refine hKK.out _ _ (by first | (go_keep; done) | ((repeat' apply And.intro) <;> go_simp)) (fun hHeld => ?_)
          clear hKK KK
          try simp only [Act.put, List.setIfInBounds_toArray, List.set_cons_zero, List.set_cons_succ]
          refine wpAnyH_ready (rs := [13]) (by kernel_rfl) (by simp) ?_
          refine AllReadyH.cons (o := ⟨none, _, _, _, _, _⟩) rfl (fun KK hKK => ?_) AllReadyH.nil
          go_simp
          (try go_wp2_with fail)
          refine hKK.out _ _ (by first | (go_keep; done) | ((repeat' apply And.intro) <;> go_simp)) (fun hHeld => ?_)
          clear hKK KK
          try simp only [Act.put, List.setIfInBounds_toArray, List.set_cons_zero, List.set_cons_succ]
          refine wpAnyH_done (by kernel_rfl) ?_ _
          (try dsimp only [Exit.then, Met])
          go_wp2_with fail
          go_meet
          refine ⟨_, _, rfl, rfl, by first | omega | (simp; omega), by first | omega | (simp; omega), ?_, ?_, ?_, ?_, ?_, ?_, ?_, ?_, ?_, ?_, ?_, ?_, ?_, ?_, ?_, (by repeat (first | with_reducible exact Below.refl _ _ | with_reducible assumption | with_reducible refine Below.setCell ?_ (by first | omega | (simp <;> omega)) _ | with_reducible refine balloc ?_ _ | with_reducible refine Below.drew ?_ | with_reducible refine bstep ?_ (by with_reducible assumption)))⟩
          all_goals first | (with_reducible assumption) | go_simp
      · go_simp
        (try go_wp2_with fail)
        refine hKK.out _ _ (by first | (go_keep; done) | ((repeat' apply And.intro) <;> go_simp)) (fun hHeld => ?_)
        clear hKK KK
        try simp only [Act.put, List.setIfInBounds_toArray, List.set_cons_zero, List.set_cons_succ]
        refine wpAnyH_ready (rs := [9, 11]) (by kernel_rfl) (by simp) ?_
        refine AllReadyH.cons (o := ⟨some 16, _, _, _, _, _⟩) rfl (fun KK hKK => ?_) (AllReadyH.cons (o := ⟨some 6, _, _, _, _, _⟩) rfl (fun KK hKK => ?_) AllReadyH.nil)
        · go_simp
          refine Calls.mono (multiple_c b3 b4 r2 _ (by omega) (by omega)) ?_
          rintro e wt2 ⟨rfl, hb⟩
          replace kr0 := cell_later hb (cell_al _ kr0)
          replace kr1 := cell_later hb (cell_al _ kr1)
          replace kr2 := cell_later hb (cell_al _ kr2)
          replace kb0 := cell_later hb (cell_al _ kb0)
          replace kb1 := cell_later hb (cell_al _ kb1)
          replace kb2 := cell_later hb (cell_al _ kb2)
          replace kb3 := cell_later hb (cell_al _ kb3)
          replace jz0 := fro_later hb (cell_al _ kz0) (fro_al jz0)
          replace kz0 := cell_later hb (cell_al _ kz0)
          replace jz1 := fro_later hb (cell_al _ kz1) (fro_al jz1)
          replace kz1 := cell_later hb (cell_al _ kz1)
          have kx0 : wt2.cell? ⟨wt1.heap.size, 0, none⟩ = some (.int .i64 0) := cell_later hb (by go_simp)
          have jx0 : wt2.frozen? ⟨wt1.heap.size, 0, none⟩ = false := by rw [(bcell hb).2 _ _ (by first | omega | (simp <;> omega))]; go_simp
          have kx1 : wt2.cell? ⟨wt1.heap.size, 1, none⟩ = some (.int .i64 0) := cell_later hb (by go_simp)
          have jx1 : wt2.frozen? ⟨wt1.heap.size, 1, none⟩ = false := by rw [(bcell hb).2 _ _ (by first | omega | (simp <;> omega))]; go_simp
          replace zr : w.heap.size < wt2.heap.size := World.block_lt_of_cell? _ _ kr0
          have zr_wt2 := zr
          replace zb : w.heap.size + 1 < wt2.heap.size := World.block_lt_of_cell? _ _ kb0
          have zb_wt2 := zb
          replace zz : w.heap.size + 1 + 1 < wt2.heap.size := World.block_lt_of_cell? _ _ kz0
          have zz_wt2 := zz
          have zx : wt1.heap.size < wt2.heap.size := World.block_lt_of_cell? _ _ kx0
          have zx_wt2 := zx
          replace hb0 : Below w.heap.size w wt2 := (by repeat (first | with_reducible exact Below.refl _ _ | with_reducible assumption | with_reducible refine Below.setCell ?_ (by first | omega | (simp <;> omega)) _ | with_reducible refine balloc ?_ _ | with_reducible refine Below.drew ?_ | with_reducible refine bstep ?_ (by with_reducible assumption)))
          have hs_wt2 := hb.size; (try simp only [World.size_alloc, World.size_setCell] at hs_wt2)
          clear hb
          (try go_wp2_with fail)
          refine hKK.out _ _ (by first | (go_keep; done) | ((repeat' apply And.intro) <;> go_simp)) (fun hHeld => ?_)
          clear hKK KK
          try simp only [Act.put, List.setIfInBounds_toArray, List.set_cons_zero, List.set_cons_succ]
          refine wpAnyH_ready (rs := [11]) (by kernel_rfl) (by simp) ?_
          refine AllReadyH.cons (o := ⟨some 6, _, _, _, _, _⟩) rfl (fun KK hKK => ?_) AllReadyH.nil
          go_simp
          (try go_wp2_with fail)
          refine hKK.out _ _ (by first | (go_keep; done) | ((repeat' apply And.intro) <;> go_simp)) (fun hHeld => ?_)
          clear hKK KK
          try simp only [Act.put, List.setIfInBounds_toArray, List.set_cons_zero, List.set_cons_succ]
          refine wpAnyH_ready (rs := [12]) (by kernel_rfl) (by simp) ?_
          refine AllReadyH.cons (o := ⟨none, _, _, _, _, _⟩) rfl (fun KK hKK => ?_) AllReadyH.nil
          go_simp
          (try go_wp2_with fail)
          refine hKK.out _ _ (by first | (go_keep; done) | ((repeat' apply And.intro) <;> go_simp)) (fun hHeld => ?_)
          clear hKK KK
          try simp only [Act.put, List.setIfInBounds_toArray, List.set_cons_zero, List.set_cons_succ]
          refine wpAnyH_ready (rs := [13]) (by kernel_rfl) (by simp) ?_
          refine AllReadyH.cons (o := ⟨none, _, _, _, _, _⟩) rfl (fun KK hKK => ?_) AllReadyH.nil
          go_simp
          (try go_wp2_with fail)
          refine hKK.out _ _ (by first | (go_keep; done) | ((repeat' apply And.intro) <;> go_simp)) (fun hHeld => ?_)
          clear hKK KK
          try simp only [Act.put, List.setIfInBounds_toArray, List.set_cons_zero, List.set_cons_succ]
          refine wpAnyH_done (by kernel_rfl) ?_ _
          (try dsimp only [Exit.then, Met])
          go_wp2_with fail
          go_meet
          refine ⟨_, _, rfl, rfl, by first | omega | (simp; omega), by first | omega | (simp; omega), ?_, ?_, ?_, ?_, ?_, ?_, ?_, ?_, ?_, ?_, ?_, ?_, ?_, ?_, ?_, (by repeat (first | with_reducible exact Below.refl _ _ | with_reducible assumption | with_reducible refine Below.setCell ?_ (by first | omega | (simp <;> omega)) _ | with_reducible refine balloc ?_ _ | with_reducible refine Below.drew ?_ | with_reducible refine bstep ?_ (by with_reducible assumption)))⟩
          all_goals first | (with_reducible assumption) | go_simp
        · go_simp
          (try go_wp2_with fail)
          refine hKK.out _ _ (by first | (go_keep; done) | ((repeat' apply And.intro) <;> go_simp)) (fun hHeld => ?_)
          clear hKK KK
          try simp only [Act.put, List.setIfInBounds_toArray, List.set_cons_zero, List.set_cons_succ]
          refine wpAnyH_ready (rs := [9]) (by kernel_rfl) (by simp) ?_
          refine AllReadyH.cons (o := ⟨some 16, _, _, _, _, _⟩) rfl (fun KK hKK => ?_) AllReadyH.nil
          go_simp
          refine Calls.mono (multiple_c b3 b4 r2 _ (by omega) (by omega)) ?_
          rintro e wt2 ⟨rfl, hb⟩
          replace kr0 := cell_later hb (cell_al _ (cell_al _ kr0))
          replace kr1 := cell_later hb (cell_al _ (cell_al _ kr1))
          replace kr2 := cell_later hb (cell_al _ (cell_al _ kr2))
          replace kb0 := cell_later hb (cell_al _ (cell_al _ kb0))
          replace kb1 := cell_later hb (cell_al _ (cell_al _ kb1))
          replace kb2 := cell_later hb (cell_al _ (cell_al _ kb2))
          replace kb3 := cell_later hb (cell_al _ (cell_al _ kb3))
          replace jz0 := fro_later hb (cell_al _ (cell_al _ kz0)) (fro_al (fro_al jz0))
          replace kz0 := cell_later hb (cell_al _ (cell_al _ kz0))
          replace jz1 := fro_later hb (cell_al _ (cell_al _ kz1)) (fro_al (fro_al jz1))
          replace kz1 := cell_later hb (cell_al _ (cell_al _ kz1))
          have kx0 : wt2.cell? ⟨wt1.heap.size, 0, none⟩ = some (.int .i64 0) := cell_later hb (by go_simp)
          have jx0 : wt2.frozen? ⟨wt1.heap.size, 0, none⟩ = false := by rw [(bcell hb).2 _ _ (by first | omega | (simp <;> omega))]; go_simp
          have kx1 : wt2.cell? ⟨wt1.heap.size, 1, none⟩ = some (.int .i64 0) := cell_later hb (by go_simp)
          have jx1 : wt2.frozen? ⟨wt1.heap.size, 1, none⟩ = false := by rw [(bcell hb).2 _ _ (by first | omega | (simp <;> omega))]; go_simp
          have ky0 : wt2.cell? ⟨wt1.heap.size + 1, 0, none⟩ = some (.int .i64 0) := cell_later hb (by go_simp)
          have jy0 : wt2.frozen? ⟨wt1.heap.size + 1, 0, none⟩ = false := by rw [(bcell hb).2 _ _ (by first | omega | (simp <;> omega))]; go_simp
          have ky1 : wt2.cell? ⟨wt1.heap.size + 1, 1, none⟩ = some (.int .i64 0) := cell_later hb (by go_simp)
          have jy1 : wt2.frozen? ⟨wt1.heap.size + 1, 1, none⟩ = false := by rw [(bcell hb).2 _ _ (by first | omega | (simp <;> omega))]; go_simp
          replace zr : w.heap.size < wt2.heap.size := World.block_lt_of_cell? _ _ kr0
          have zr_wt2 := zr
          replace zb : w.heap.size + 1 < wt2.heap.size := World.block_lt_of_cell? _ _ kb0
          have zb_wt2 := zb
          replace zz : w.heap.size + 1 + 1 < wt2.heap.size := World.block_lt_of_cell? _ _ kz0
          have zz_wt2 := zz
          have zx : wt1.heap.size < wt2.heap.size := World.block_lt_of_cell? _ _ kx0
          have zx_wt2 := zx
          have zy : wt1.heap.size + 1 < wt2.heap.size := World.block_lt_of_cell? _ _ ky0
          have zy_wt2 := zy
          replace hb0 : Below w.heap.size w wt2 := (by repeat (first | with_reducible exact Below.refl _ _ | with_reducible assumption | with_reducible refine Below.setCell ?_ (by first | omega | (simp <;> omega)) _ | with_reducible refine balloc ?_ _ | with_reducible refine Below.drew ?_ | with_reducible refine bstep ?_ (by with_reducible assumption)))
          have hs_wt2 := hb.size; (try simp only [World.size_alloc, World.size_setCell] at hs_wt2)
          clear hb
          (try go_wp2_with fail)
          refine hKK.out _ _ (by first | (go_keep; done) | ((repeat' apply And.intro) <;> go_simp)) (fun hHeld => ?_)
          clear hKK KK
          try simp only [Act.put, List.setIfInBounds_toArray, List.set_cons_zero, List.set_cons_succ]
          refine wpAnyH_ready (rs := [12]) (by kernel_rfl) (by simp) ?_
          refine AllReadyH.cons (o := ⟨none, _, _, _, _, _⟩) rfl (fun KK hKK => ?_) AllReadyH.nil
          go_simp
          (try go_wp2_with fail)
          refine hKK.out _ _ (by first | (go_keep; done) | ((repeat' apply And.intro) <;> go_simp)) (fun hHeld => ?_)
          clear hKK KK
          try simp only [Act.put, List.setIfInBounds_toArray, List.set_cons_zero, List.set_cons_succ]
          refine wpAnyH_ready (rs := [13]) (by kernel_rfl) (by simp) ?_
          refine AllReadyH.cons (o := ⟨none, _, _, _, _, _⟩) rfl (fun KK hKK => ?_) AllReadyH.nil
          go_simp
          (try go_wp2_with fail)
          refine hKK.out _ _ (by first | (go_keep; done) | ((repeat' apply And.intro) <;> go_simp)) (fun hHeld => ?_)
          clear hKK KK
          try simp only [Act.put, List.setIfInBounds_toArray, List.set_cons_zero, List.set_cons_succ]
          refine wpAnyH_done (by kernel_rfl) ?_ _
          (try dsimp only [Exit.then, Met])
          go_wp2_with fail
          go_meet
          refine ⟨_, _, rfl, rfl, by first | omega | (simp; omega), by first | omega | (simp; omega), ?_, ?_, ?_, ?_, ?_, ?_, ?_, ?_, ?_, ?_, ?_, ?_, ?_, ?_, ?_, (by repeat (first | with_reducible exact Below.refl _ _ | with_reducible assumption | with_reducible refine Below.setCell ?_ (by first | omega | (simp <;> omega)) _ | with_reducible refine balloc ?_ _ | with_reducible refine Below.drew ?_ | with_reducible refine bstep ?_ (by with_reducible assumption)))⟩
          all_goals first | (with_reducible assumption) | go_simp
      · go_simp
        (try go_wp2_with fail)
        refine hKK.out _ _ (by first | (go_keep; done) | ((repeat' apply And.intro) <;> go_simp)) (fun hHeld => ?_)
        clear hKK KK
        try simp only [Act.put, List.setIfInBounds_toArray, List.set_cons_zero, List.set_cons_succ]
        refine wpAnyH_ready (rs := [9, 10]) (by kernel_rfl) (by simp) ?_
        refine AllReadyH.cons (o := ⟨some 16, _, _, _, _, _⟩) rfl (fun KK hKK => ?_) (AllReadyH.cons (o := ⟨some 5, _, _, _, _, _⟩) rfl (fun KK hKK => ?_) AllReadyH.nil)
        · go_simp
          refine Calls.mono (multiple_c b3 b4 r2 _ (by omega) (by omega)) ?_
          rintro e wt2 ⟨rfl, hb⟩
          replace kr0 := cell_later hb (cell_al _ kr0)
          replace kr1 := cell_later hb (cell_al _ kr1)
          replace kr2 := cell_later hb (cell_al _ kr2)
          replace kb0 := cell_later hb (cell_al _ kb0)
          replace kb1 := cell_later hb (cell_al _ kb1)
          replace kb2 := cell_later hb (cell_al _ kb2)
          replace kb3 := cell_later hb (cell_al _ kb3)
          replace jz0 := fro_later hb (cell_al _ kz0) (fro_al jz0)
          replace kz0 := cell_later hb (cell_al _ kz0)
          replace jz1 := fro_later hb (cell_al _ kz1) (fro_al jz1)
          replace kz1 := cell_later hb (cell_al _ kz1)
          have ky0 : wt2.cell? ⟨wt1.heap.size, 0, none⟩ = some (.int .i64 0) := cell_later hb (by go_simp)
          have jy0 : wt2.frozen? ⟨wt1.heap.size, 0, none⟩ = false := by rw [(bcell hb).2 _ _ (by first | omega | (simp <;> omega))]; go_simp
          have ky1 : wt2.cell? ⟨wt1.heap.size, 1, none⟩ = some (.int .i64 0) := cell_later hb (by go_simp)
          have jy1 : wt2.frozen? ⟨wt1.heap.size, 1, none⟩ = false := by rw [(bcell hb).2 _ _ (by first | omega | (simp <;> omega))]; go_simp
          replace zr : w.heap.size < wt2.heap.size := World.block_lt_of_cell? _ _ kr0
          have zr_wt2 := zr
          replace zb : w.heap.size + 1 < wt2.heap.size := World.block_lt_of_cell? _ _ kb0
          have zb_wt2 := zb
          replace zz : w.heap.size + 1 + 1 < wt2.heap.size := World.block_lt_of_cell? _ _ kz0
          have zz_wt2 := zz
          have zy : wt1.heap.size < wt2.heap.size := World.block_lt_of_cell? _ _ ky0
          have zy_wt2 := zy
          replace hb0 : Below w.heap.size w wt2 := (by repeat (first | with_reducible exact Below.refl _ _ | with_reducible assumption | with_reducible refine Below.setCell ?_ (by first | omega | (simp <;> omega)) _ | with_reducible refine balloc ?_ _ | with_reducible refine Below.drew ?_ | with_reducible refine bstep ?_ (by with_reducible assumption)))
          have hs_wt2 := hb.size; (try simp only [World.size_alloc, World.size_setCell] at hs_wt2)
          clear hb
          (try go_wp2_with fail)
          refine hKK.out _ _ (by first | (go_keep; done) | ((repeat' apply And.intro) <;> go_simp)) (fun hHeld => ?_)
          clear hKK KK
          try simp only [Act.put, List.setIfInBounds_toArray, List.set_cons_zero, List.set_cons_succ]
          refine wpAnyH_ready (rs := [10]) (by kernel_rfl) (by simp) ?_
          refine AllReadyH.cons (o := ⟨some 5, _, _, _, _, _⟩) rfl (fun KK hKK => ?_) AllReadyH.nil
          go_simp
          (try go_wp2_with fail)
          refine hKK.out _ _ (by first | (go_keep; done) | ((repeat' apply And.intro) <;> go_simp)) (fun hHeld => ?_)
          clear hKK KK
          try simp only [Act.put, List.setIfInBounds_toArray, List.set_cons_zero, List.set_cons_succ]
          refine wpAnyH_ready (rs := [12]) (by kernel_rfl) (by simp) ?_
          refine AllReadyH.cons (o := ⟨none, _, _, _, _, _⟩) rfl (fun KK hKK => ?_) AllReadyH.nil
          go_simp
          (try go_wp2_with fail)
          refine hKK.out _ _ (by first | (go_keep; done) | ((repeat' apply And.intro) <;> go_simp)) (fun hHeld => ?_)
          clear hKK KK
          try simp only [Act.put, List.setIfInBounds_toArray, List.set_cons_zero, List.set_cons_succ]
          refine wpAnyH_ready (rs := [13]) (by kernel_rfl) (by simp) ?_
          refine AllReadyH.cons (o := ⟨none, _, _, _, _, _⟩) rfl (fun KK hKK => ?_) AllReadyH.nil
          go_simp
          (try go_wp2_with fail)
          refine hKK.out _ _ (by first | (go_keep; done) | ((repeat' apply And.intro) <;> go_simp)) (fun hHeld => ?_)
          clear hKK KK
          try simp only [Act.put, List.setIfInBounds_toArray, List.set_cons_zero, List.set_cons_succ]
          refine wpAnyH_done (by kernel_rfl) ?_ _
          (try dsimp only [Exit.then, Met])
          go_wp2_with fail
          go_meet
          refine ⟨_, _, rfl, rfl, by first | omega | (simp; omega), by first | omega | (simp; omega), ?_, ?_, ?_, ?_, ?_, ?_, ?_, ?_, ?_, ?_, ?_, ?_, ?_, ?_, ?_, (by repeat (first | with_reducible exact Below.refl _ _ | with_reducible assumption | with_reducible refine Below.setCell ?_ (by first | omega | (simp <;> omega)) _ | with_reducible refine balloc ?_ _ | with_reducible refine Below.drew ?_ | with_reducible refine bstep ?_ (by with_reducible assumption)))⟩
          all_goals first | (with_reducible assumption) | go_simp
        · go_simp
          (try go_wp2_with fail)
          refine hKK.out _ _ (by first | (go_keep; done) | ((repeat' apply And.intro) <;> go_simp)) (fun hHeld => ?_)
          clear hKK KK
          try simp only [Act.put, List.setIfInBounds_toArray, List.set_cons_zero, List.set_cons_succ]
          refine wpAnyH_ready (rs := [9]) (by kernel_rfl) (by simp) ?_
          refine AllReadyH.cons (o := ⟨some 16, _, _, _, _, _⟩) rfl (fun KK hKK => ?_) AllReadyH.nil
          go_simp
          refine Calls.mono (multiple_c b3 b4 r2 _ (by omega) (by omega)) ?_
          rintro e wt2 ⟨rfl, hb⟩
          replace kr0 := cell_later hb (cell_al _ (cell_al _ kr0))
          replace kr1 := cell_later hb (cell_al _ (cell_al _ kr1))
          replace kr2 := cell_later hb (cell_al _ (cell_al _ kr2))
          replace kb0 := cell_later hb (cell_al _ (cell_al _ kb0))
          replace kb1 := cell_later hb (cell_al _ (cell_al _ kb1))
          replace kb2 := cell_later hb (cell_al _ (cell_al _ kb2))
          replace kb3 := cell_later hb (cell_al _ (cell_al _ kb3))
          replace jz0 := fro_later hb (cell_al _ (cell_al _ kz0)) (fro_al (fro_al jz0))
          replace kz0 := cell_later hb (cell_al _ (cell_al _ kz0))
          replace jz1 := fro_later hb (cell_al _ (cell_al _ kz1)) (fro_al (fro_al jz1))
          replace kz1 := cell_later hb (cell_al _ (cell_al _ kz1))
          have ky0 : wt2.cell? ⟨wt1.heap.size, 0, none⟩ = some (.int .i64 0) := cell_later hb (by go_simp)
          have jy0 : wt2.frozen? ⟨wt1.heap.size, 0, none⟩ = false := by rw [(bcell hb).2 _ _ (by first | omega | (simp <;> omega))]; go_simp
          have ky1 : wt2.cell? ⟨wt1.heap.size, 1, none⟩ = some (.int .i64 0) := cell_later hb (by go_simp)
          have jy1 : wt2.frozen? ⟨wt1.heap.size, 1, none⟩ = false := by rw [(bcell hb).2 _ _ (by first | omega | (simp <;> omega))]; go_simp
          have kx0 : wt2.cell? ⟨wt1.heap.size + 1, 0, none⟩ = some (.int .i64 0) := cell_later hb (by go_simp)
          have jx0 : wt2.frozen? ⟨wt1.heap.size + 1, 0, none⟩ = false := by rw [(bcell hb).2 _ _ (by first | omega | (simp <;> omega))]; go_simp
          have kx1 : wt2.cell? ⟨wt1.heap.size + 1, 1, none⟩ = some (.int .i64 0) := cell_later hb (by go_simp)
          have jx1 : wt2.frozen? ⟨wt1.heap.size + 1, 1, none⟩ = false := by rw [(bcell hb).2 _ _ (by first | omega | (simp <;> omega))]; go_simp
          replace zr : w.heap.size < wt2.heap.size := World.block_lt_of_cell? _ _ kr0
          have zr_wt2 := zr
          replace zb : w.heap.size + 1 < wt2.heap.size := World.block_lt_of_cell? _ _ kb0
          have zb_wt2 := zb
          replace zz : w.heap.size + 1 + 1 < wt2.heap.size := World.block_lt_of_cell? _ _ kz0
          have zz_wt2 := zz
          have zy : wt1.heap.size < wt2.heap.size := World.block_lt_of_cell? _ _ ky0
          have zy_wt2 := zy
          have zx : wt1.heap.size + 1 < wt2.heap.size := World.block_lt_of_cell? _ _ kx0
          have zx_wt2 := zx
          replace hb0 : Below w.heap.size w wt2 := (by repeat (first | with_reducible exact Below.refl _ _ | with_reducible assumption | with_reducible refine Below.setCell ?_ (by first | omega | (simp <;> omega)) _ | with_reducible refine balloc ?_ _ | with_reducible refine Below.drew ?_ | with_reducible refine bstep ?_ (by with_reducible assumption)))
          have hs_wt2 := hb.size; (try simp only [World.size_alloc, World.size_setCell] at hs_wt2)
          clear hb
          (try go_wp2_with fail)
          refine hKK.out _ _ (by first | (go_keep; done) | ((repeat' apply And.intro) <;> go_simp)) (fun hHeld => ?_)
          clear hKK KK
          try simp only [Act.put, List.setIfInBounds_toArray, List.set_cons_zero, List.set_cons_succ]
          refine wpAnyH_ready (rs := [12]) (by kernel_rfl) (by simp) ?_
          refine AllReadyH.cons (o := ⟨none, _, _, _, _, _⟩) rfl (fun KK hKK => ?_) AllReadyH.nil
          go_simp
          (try go_wp2_with fail)
          refine hKK.out _ _ (by first | (go_keep; done) | ((repeat' apply And.intro) <;> go_simp)) (fun hHeld => ?_)
          clear hKK KK
          try simp only [Act.put, List.setIfInBounds_toArray, List.set_cons_zero, List.set_cons_succ]
          refine wpAnyH_ready (rs := [13]) (by kernel_rfl) (by simp) ?_
          refine AllReadyH.cons (o := ⟨none, _, _, _, _, _⟩) rfl (fun KK hKK => ?_) AllReadyH.nil
          go_simp
          (try go_wp2_with fail)
          refine hKK.out _ _ (by first | (go_keep; done) | ((repeat' apply And.intro) <;> go_simp)) (fun hHeld => ?_)
          clear hKK KK
          try simp only [Act.put, List.setIfInBounds_toArray, List.set_cons_zero, List.set_cons_succ]
          refine wpAnyH_done (by kernel_rfl) ?_ _
          (try dsimp only [Exit.then, Met])
          go_wp2_with fail
          go_meet
          refine ⟨_, _, rfl, rfl, by first | omega | (simp; omega), by first | omega | (simp; omega), ?_, ?_, ?_, ?_, ?_, ?_, ?_, ?_, ?_, ?_, ?_, ?_, ?_, ?_, ?_, (by repeat (first | with_reducible exact Below.refl _ _ | with_reducible assumption | with_reducible refine Below.setCell ?_ (by first | omega | (simp <;> omega)) _ | with_reducible refine balloc ?_ _ | with_reducible refine Below.drew ?_ | with_reducible refine bstep ?_ (by with_reducible assumption)))⟩
          all_goals first | (with_reducible assumption) | go_simp
    · go_simp
      (try go_wp2_with fail)
      refine hKK.out _ _ (by first | (go_keep; done) | ((repeat' apply And.intro) <;> go_simp)) (fun hHeld => ?_)
      clear hKK KK
      try simp only [Act.put, List.setIfInBounds_toArray, List.set_cons_zero, List.set_cons_succ]
      refine wpAnyH_ready (rs := [4, 11]) (by kernel_rfl) (by simp) ?_
      refine AllReadyH.cons (o := ⟨some 11, _, _, _, _, _⟩) rfl (fun KK hKK => ?_) (AllReadyH.cons (o := ⟨some 6, _, _, _, _, _⟩) rfl (fun KK hKK => ?_) AllReadyH.nil)
      · go_simp
        refine Calls.mono (multiple_c b1 b2 r1 _ (by omega) (by omega)) ?_
        rintro e wt1 ⟨rfl, hb⟩
        have kr0 : wt1.cell? ⟨w.heap.size, 0, none⟩ = some (.int .i64 r1) := cell_later hb (by go_simp)
        have kr1 : wt1.cell? ⟨w.heap.size, 1, none⟩ = some (.int .i64 r2) := cell_later hb (by go_simp)
        have kr2 : wt1.cell? ⟨w.heap.size, 2, none⟩ = some (.int .i64 r3) := cell_later hb (by go_simp)
        have kb0 : wt1.cell? ⟨w.heap.size + 1, 0, none⟩ = some (.int .i64 b1) := cell_later hb (by go_simp)
        have kb1 : wt1.cell? ⟨w.heap.size + 1, 1, none⟩ = some (.int .i64 b2) := cell_later hb (by go_simp)
        have kb2 : wt1.cell? ⟨w.heap.size + 1, 2, none⟩ = some (.int .i64 b3) := cell_later hb (by go_simp)
        have kb3 : wt1.cell? ⟨w.heap.size + 1, 3, none⟩ = some (.int .i64 b4) := cell_later hb (by go_simp)
        have kz0 : wt1.cell? ⟨w.heap.size + 1 + 1, 0, none⟩ = some (.int .i64 0) := cell_later hb (by go_simp)
        have jz0 : wt1.frozen? ⟨w.heap.size + 1 + 1, 0, none⟩ = false := by rw [(bcell hb).2 _ _ (by first | omega | (simp <;> omega))]; go_simp
        have kz1 : wt1.cell? ⟨w.heap.size + 1 + 1, 1, none⟩ = some (.int .i64 0) := cell_later hb (by go_simp)
        have jz1 : wt1.frozen? ⟨w.heap.size + 1 + 1, 1, none⟩ = false := by rw [(bcell hb).2 _ _ (by first | omega | (simp <;> omega))]; go_simp
        have kx0 : wt1.cell? ⟨w.heap.size + 1 + 1 + 1, 0, none⟩ = some (.int .i64 0) := cell_later hb (by go_simp)
        have jx0 : wt1.frozen? ⟨w.heap.size + 1 + 1 + 1, 0, none⟩ = false := by rw [(bcell hb).2 _ _ (by first | omega | (simp <;> omega))]; go_simp
        have kx1 : wt1.cell? ⟨w.heap.size + 1 + 1 + 1, 1, none⟩ = some (.int .i64 0) := cell_later hb (by go_simp)
        have jx1 : wt1.frozen? ⟨w.heap.size + 1 + 1 + 1, 1, none⟩ = false := by rw [(bcell hb).2 _ _ (by first | omega | (simp <;> omega))]; go_simp
        have zr : w.heap.size < wt1.heap.size := World.block_lt_of_cell? _ _ kr0
        have zr_wt1 := zr
        have zb : w.heap.size + 1 < wt1.heap.size := World.block_lt_of_cell? _ _ kb0
        have zb_wt1 := zb
        have zz : w.heap.size + 1 + 1 < wt1.heap.size := World.block_lt_of_cell? _ _ kz0
        have zz_wt1 := zz
        have zx : w.heap.size + 1 + 1 + 1 < wt1.heap.size := World.block_lt_of_cell? _ _ kx0
        have zx_wt1 := zx
        have hb0 : Below w.heap.size w wt1 := (by repeat (first | with_reducible exact Below.refl _ _ | with_reducible assumption | with_reducible refine Below.setCell ?_ (by first | omega | (simp <;> omega)) _ | with_reducible refine balloc ?_ _ | with_reducible refine Below.drew ?_ | with_reducible refine bstep ?_ (by with_reducible assumption)))
        have hs_wt1 := hb.size; (try simp only [World.size_alloc, World.size_setCell] at hs_wt1)
        clear hb
        (try go_wp2_with fail)
        refine hKK.out _ _ (by first | (go_keep; done) | ((repeat' apply And.intro) <;> go_simp)) (fun hHeld => ?_)
        clear hKK KK
        try simp only [Act.put, List.setIfInBounds_toArray, List.set_cons_zero, List.set_cons_succ]
        refine wpAnyH_ready (rs := [9, 11]) (by kernel_rfl) (by simp) ?_
        refine AllReadyH.cons (o := ⟨some 16, _, _, _, _, _⟩) rfl (fun KK hKK => ?_) (AllReadyH.cons (o := ⟨some 6, _, _, _, _, _⟩) rfl (fun KK hKK => ?_) AllReadyH.nil)
        · go_simp
          refine Calls.mono (multiple_c b3 b4 r2 _ (by omega) (by omega)) ?_
          rintro e wt2 ⟨rfl, hb⟩
          replace kr0 := cell_later hb kr0
          replace kr1 := cell_later hb kr1
          replace kr2 := cell_later hb kr2
          replace kb0 := cell_later hb kb0
          replace kb1 := cell_later hb kb1
          replace kb2 := cell_later hb kb2
          replace kb3 := cell_later hb kb3
          replace jz0 := fro_later hb kz0 jz0
          replace kz0 := cell_later hb kz0
          replace jz1 := fro_later hb kz1 jz1
          replace kz1 := cell_later hb kz1
          replace jx0 := fro_later hb kx0 jx0
          replace kx0 := cell_later hb kx0
          replace jx1 := fro_later hb kx1 jx1
          replace kx1 := cell_later hb kx1
          replace zr : w.heap.size < wt2.heap.size := World.block_lt_of_cell? _ _ kr0
          have zr_wt2 := zr
          replace zb : w.heap.size + 1 < wt2.heap.size := World.block_lt_of_cell? _ _ kb0
          have zb_wt2 := zb
          replace zz : w.heap.size + 1 + 1 < wt2.heap.size := World.block_lt_of_cell? _ _ kz0
          have zz_wt2 := zz
          replace zx : w.heap.size + 1 + 1 + 1 < wt2.heap.size := World.block_lt_of_cell? _ _ kx0
          have zx_wt2 := zx
          replace hb0 : Below w.heap.size w wt2 := (by repeat (first | with_reducible exact Below.refl _ _ | with_reducible assumption | with_reducible refine Below.setCell ?_ (by first | omega | (simp <;> omega)) _ | with_reducible refine balloc ?_ _ | with_reducible refine Below.drew ?_ | with_reducible refine bstep ?_ (by with_reducible assumption)))
          have hs_wt2 : wt1.heap.size ≤ wt2.heap.size := hb.size
          clear hb
          (try go_wp2_with fail)
          refine hKK.out _ _ (by first | (go_keep; done) | ((repeat' apply And.intro) <;> go_simp)) (fun hHeld => ?_)
          clear hKK KK
          try simp only [Act.put, List.setIfInBounds_toArray, List.set_cons_zero, List.set_cons_succ]
          refine wpAnyH_ready (rs := [11]) (by kernel_rfl) (by simp) ?_
          refine AllReadyH.cons (o := ⟨some 6, _, _, _, _, _⟩) rfl (fun KK hKK => ?_) AllReadyH.nil
          go_simp
          (try go_wp2_with fail)
          refine hKK.out _ _ (by first | (go_keep; done) | ((repeat' apply And.intro) <;> go_simp)) (fun hHeld => ?_)
          clear hKK KK
          try simp only [Act.put, List.setIfInBounds_toArray, List.set_cons_zero, List.set_cons_succ]
          refine wpAnyH_ready (rs := [12]) (by kernel_rfl) (by simp) ?_
          refine AllReadyH.cons (o := ⟨none, _, _, _, _, _⟩) rfl (fun KK hKK => ?_) AllReadyH.nil
          go_simp
          (try go_wp2_with fail)
          refine hKK.out _ _ (by first | (go_keep; done) | ((repeat' apply And.intro) <;> go_simp)) (fun hHeld => ?_)
          clear hKK KK
          try simp only [Act.put, List.setIfInBounds_toArray, List.set_cons_zero, List.set_cons_succ]
          refine wpAnyH_ready (rs := [13]) (by kernel_rfl) (by simp) ?_
          refine AllReadyH.cons (o := ⟨none, _, _, _, _, _⟩) rfl (fun KK hKK => ?_) AllReadyH.nil
          go_simp
          (try go_wp2_with fail)
          refine hKK.out _ _ (by first | (go_keep; done) | ((repeat' apply And.intro) <;> go_simp)) (fun hHeld => ?_)
          clear hKK KK
          try simp only [Act.put, List.setIfInBounds_toArray, List.set_cons_zero, List.set_cons_succ]
          refine wpAnyH_done (by kernel_rfl) ?_ _
          (try dsimp only [Exit.then, Met])
          go_wp2_with fail
          go_meet
          refine ⟨_, _, rfl, rfl, by first | omega | (simp; omega), by first | omega | (simp; omega), ?_, ?_, ?_, ?_, ?_, ?_, ?_, ?_, ?_, ?_, ?_, ?_, ?_, ?_, ?_, (by repeat (first | with_reducible exact Below.refl _ _ | with_reducible assumption | with_reducible refine Below.setCell ?_ (by first | omega | (simp <;> omega)) _ | with_reducible refine balloc ?_ _ | with_reducible refine Below.drew ?_ | with_reducible refine bstep ?_ (by with_reducible assumption)))⟩
          all_goals first | (with_reducible assumption) | go_simp
        · go_simp
          (try go_wp2_with fail)
          refine hKK.out _ _ (by first | (go_keep; done) | ((repeat' apply And.intro) <;> go_simp)) (fun hHeld => ?_)
          clear hKK KK
          try simp only [Act.put, List.setIfInBounds_toArray, List.set_cons_zero, List.set_cons_succ]
          refine wpAnyH_ready (rs := [9]) (by kernel_rfl) (by simp) ?_
          refine AllReadyH.cons (o := ⟨some 16, _, _, _, _, _⟩) rfl (fun KK hKK => ?_) AllReadyH.nil
          go_simp
          refine Calls.mono (multiple_c b3 b4 r2 _ (by omega) (by omega)) ?_
          rintro e wt2 ⟨rfl, hb⟩
          replace kr0 := cell_later hb (cell_al _ kr0)
          replace kr1 := cell_later hb (cell_al _ kr1)
          replace kr2 := cell_later hb (cell_al _ kr2)
          replace kb0 := cell_later hb (cell_al _ kb0)
          replace kb1 := cell_later hb (cell_al _ kb1)
          replace kb2 := cell_later hb (cell_al _ kb2)
          replace kb3 := cell_later hb (cell_al _ kb3)
          replace jz0 := fro_later hb (cell_al _ kz0) (fro_al jz0)
          replace kz0 := cell_later hb (cell_al _ kz0)
          replace jz1 := fro_later hb (cell_al _ kz1) (fro_al jz1)
          replace kz1 := cell_later hb (cell_al _ kz1)
          replace jx0 := fro_later hb (cell_al _ kx0) (fro_al jx0)
          replace kx0 := cell_later hb (cell_al _ kx0)
          replace jx1 := fro_later hb (cell_al _ kx1) (fro_al jx1)
          replace kx1 := cell_later hb (cell_al _ kx1)
          have ky0 : wt2.cell? ⟨wt1.heap.size, 0, none⟩ = some (.int .i64 0) := cell_later hb (by go_simp)
          have jy0 : wt2.frozen? ⟨wt1.heap.size, 0, none⟩ = false := by rw [(bcell hb).2 _ _ (by first | omega | (simp <;> omega))]; go_simp
          have ky1 : wt2.cell? ⟨wt1.heap.size, 1, none⟩ = some (.int .i64 0) := cell_later hb (by go_simp)
          have jy1 : wt2.frozen? ⟨wt1.heap.size, 1, none⟩ = false := by rw [(bcell hb).2 _ _ (by first | omega | (simp <;> omega))]; go_simp
          replace zr : w.heap.size < wt2.heap.size := World.block_lt_of_cell? _ _ kr0
          have zr_wt2 := zr
          replace zb : w.heap.size + 1 < wt2.heap.size := World.block_lt_of_cell? _ _ kb0
          have zb_wt2 := zb
          replace zz : w.heap.size + 1 + 1 < wt2.heap.size := World.block_lt_of_cell? _ _ kz0
          have zz_wt2 := zz
          replace zx : w.heap.size + 1 + 1 + 1 < wt2.heap.size := World.block_lt_of_cell? _ _ kx0
          have zx_wt2 := zx
          have zy : wt1.heap.size < wt2.heap.size := World.block_lt_of_cell? _ _ ky0
          have zy_wt2 := zy
          replace hb0 : Below w.heap.size w wt2 := (by repeat (first | with_reducible exact Below.refl _ _ | with_reducible assumption | with_reducible refine Below.setCell ?_ (by first | omega | (simp <;> omega)) _ | with_reducible refine balloc ?_ _ | with_reducible refine Below.drew ?_ | with_reducible refine bstep ?_ (by with_reducible assumption)))
          have hs_wt2 := hb.size; (try simp only [World.size_alloc, World.size_setCell] at hs_wt2)
          clear hb
          (try go_wp2_with fail)
          refine hKK.out _ _ (by first | (go_keep; done) | ((repeat' apply And.intro) <;> go_simp)) (fun hHeld => ?_)
          clear hKK KK
          try simp only [Act.put, List.setIfInBounds_toArray, List.set_cons_zero, List.set_cons_succ]
          refine wpAnyH_ready (rs := [12]) (by kernel_rfl) (by simp) ?_
          refine AllReadyH.cons (o := ⟨none, _, _, _, _, _⟩) rfl (fun KK hKK => ?_) AllReadyH.nil
          go_simp
          (try go_wp2_with fail)
          refine hKK.out _ _ (by first | (go_keep; done) | ((repeat' apply And.intro) <;> go_simp)) (fun hHeld => ?_)
          clear hKK KK
          try simp only [Act.put, List.setIfInBounds_toArray, List.set_cons_zero, List.set_cons_succ]
          refine wpAnyH_ready (rs := [13]) (by kernel_rfl) (by simp) ?_
          refine AllReadyH.cons (o := ⟨none, _, _, _, _, _⟩) rfl (fun KK hKK => ?_) AllReadyH.nil
          go_simp
          (try go_wp2_with fail)
          refine hKK.out _ _ (by first | (go_keep; done) | ((repeat' apply And.intro) <;> go_simp)) (fun hHeld => ?_)
          clear hKK KK
          try simp only [Act.put, List.setIfInBounds_toArray, List.set_cons_zero, List.set_cons_succ]
          refine wpAnyH_done (by kernel_rfl) ?_ _
          (try dsimp only [Exit.then, Met])
          go_wp2_with fail
          go_meet
          refine ⟨_, _, rfl, rfl, by first | omega | (simp; omega), by first | omega | (simp; omega), ?_, ?_, ?_, ?_, ?_, ?_, ?_, ?_, ?_, ?_, ?_, ?_, ?_, ?_, ?_, (by repeat (first | with_reducible exact Below.refl _ _ | with_reducible assumption | with_reducible refine Below.setCell ?_ (by first | omega | (simp <;> omega)) _ | with_reducible refine balloc ?_ _ | with_reducible refine Below.drew ?_ | with_reducible refine bstep ?_ (by with_reducible assumption)))⟩
          all_goals first | (with_reducible assumption) | go_simp
      · go_simp
        (try go_wp2_with fail)
        refine hKK.out _ _ (by first | (go_keep; done) | ((repeat' apply And.intro) <;> go_simp)) (fun hHeld => ?_)
        clear hKK KK
        try simp only [Act.put, List.setIfInBounds_toArray, List.set_cons_zero, List.set_cons_succ]
        refine wpAnyH_ready (rs := [4]) (by kernel_rfl) (by simp) ?_
        refine AllReadyH.cons (o := ⟨some 11, _, _, _, _, _⟩) rfl (fun KK hKK => ?_) AllReadyH.nil
        go_simp
        refine Calls.mono (multiple_c b1 b2 r1 _ (by omega) (by omega)) ?_
        rintro e wt1 ⟨rfl, hb⟩
        have kr0 : wt1.cell? ⟨w.heap.size, 0, none⟩ = some (.int .i64 r1) := cell_later hb (by go_simp)
        have kr1 : wt1.cell? ⟨w.heap.size, 1, none⟩ = some (.int .i64 r2) := cell_later hb (by go_simp)
        have kr2 : wt1.cell? ⟨w.heap.size, 2, none⟩ = some (.int .i64 r3) := cell_later hb (by go_simp)
        have kb0 : wt1.cell? ⟨w.heap.size + 1, 0, none⟩ = some (.int .i64 b1) := cell_later hb (by go_simp)
        have kb1 : wt1.cell? ⟨w.heap.size + 1, 1, none⟩ = some (.int .i64 b2) := cell_later hb (by go_simp)
        have kb2 : wt1.cell? ⟨w.heap.size + 1, 2, none⟩ = some (.int .i64 b3) := cell_later hb (by go_simp)
        have kb3 : wt1.cell? ⟨w.heap.size + 1, 3, none⟩ = some (.int .i64 b4) := cell_later hb (by go_simp)
        have kz0 : wt1.cell? ⟨w.heap.size + 1 + 1, 0, none⟩ = some (.int .i64 0) := cell_later hb (by go_simp)
        have jz0 : wt1.frozen? ⟨w.heap.size + 1 + 1, 0, none⟩ = false := by rw [(bcell hb).2 _ _ (by first | omega | (simp <;> omega))]; go_simp
        have kz1 : wt1.cell? ⟨w.heap.size + 1 + 1, 1, none⟩ = some (.int .i64 0) := cell_later hb (by go_simp)
        have jz1 : wt1.frozen? ⟨w.heap.size + 1 + 1, 1, none⟩ = false := by rw [(bcell hb).2 _ _ (by first | omega | (simp <;> omega))]; go_simp
        have kx0 : wt1.cell? ⟨w.heap.size + 1 + 1 + 1, 0, none⟩ = some (.int .i64 0) := cell_later hb (by go_simp)
        have jx0 : wt1.frozen? ⟨w.heap.size + 1 + 1 + 1, 0, none⟩ = false := by rw [(bcell hb).2 _ _ (by first | omega | (simp <;> omega))]; go_simp
        have kx1 : wt1.cell? ⟨w.heap.size + 1 + 1 + 1, 1, none⟩ = some (.int .i64 0) := cell_later hb (by go_simp)
        have jx1 : wt1.frozen? ⟨w.heap.size + 1 + 1 + 1, 1, none⟩ = false := by rw [(bcell hb).2 _ _ (by first | omega | (simp <;> omega))]; go_simp
        have ky0 : wt1.cell? ⟨w.heap.size + 1 + 1 + 1 + 1, 0, none⟩ = some (.int .i64 0) := cell_later hb (by go_simp)
        have jy0 : wt1.frozen? ⟨w.heap.size + 1 + 1 + 1 + 1, 0, none⟩ = false := by rw [(bcell hb).2 _ _ (by first | omega | (simp <;> omega))]; go_simp
        have ky1 : wt1.cell? ⟨w.heap.size + 1 + 1 + 1 + 1, 1, none⟩ = some (.int .i64 0) := cell_later hb (by go_simp)
        have jy1 : wt1.frozen? ⟨w.heap.size + 1 + 1 + 1 + 1, 1, none⟩ = false := by rw [(bcell hb).2 _ _ (by first | omega | (simp <;> omega))]; go_simp
        have zr : w.heap.size < wt1.heap.size := World.block_lt_of_cell? _ _ kr0
        have zr_wt1 := zr
        have zb : w.heap.size + 1 < wt1.heap.size := World.block_lt_of_cell? _ _ kb0
        have zb_wt1 := zb
        have zz : w.heap.size + 1 + 1 < wt1.heap.size := World.block_lt_of_cell? _ _ kz0
        have zz_wt1 := zz
        have zx : w.heap.size + 1 + 1 + 1 < wt1.heap.size := World.block_lt_of_cell? _ _ kx0
        have zx_wt1 := zx
        have zy : w.heap.size + 1 + 1 + 1 + 1 < wt1.heap.size := World.block_lt_of_cell? _ _ ky0
        have zy_wt1 := zy
        have hb0 : Below w.heap.size w wt1 := (by repeat (first | with_reducible exact Below.refl _ _ | with_reducible assumption | with_reducible refine Below.setCell ?_ (by first | omega | (simp <;> omega)) _ | with_reducible refine balloc ?_ _ | with_reducible refine Below.drew ?_ | with_reducible refine bstep ?_ (by with_reducible assumption)))
        have hs_wt1 := hb.size; (try simp only [World.size_alloc, World.size_setCell] at hs_wt1)
        clear hb
        (try go_wp2_with fail)
        refine hKK.out _ _ (by first | (go_keep; done) | ((repeat' apply And.intro) <;> go_simp)) (fun hHeld => ?_)
        clear hKK KK
        try simp only [Act.put, List.setIfInBounds_toArray, List.set_cons_zero, List.set_cons_succ]
        refine wpAnyH_ready (rs := [9]) (by kernel_rfl) (by simp) ?_
        refine AllReadyH.cons (o := ⟨some 16, _, _, _, _, _⟩) rfl (fun KK hKK => ?_) AllReadyH.nil
        go_simp
        refine Calls.mono (multiple_c b3 b4 r2 _ (by omega) (by omega)) ?_
        rintro e wt2 ⟨rfl, hb⟩
        replace kr0 := cell_later hb kr0
        replace kr1 := cell_later hb kr1
        replace kr2 := cell_later hb kr2
        replace kb0 := cell_later hb kb0
        replace kb1 := cell_later hb kb1
        replace kb2 := cell_later hb kb2
        replace kb3 := cell_later hb kb3
        replace jz0 := fro_later hb kz0 jz0
        replace kz0 := cell_later hb kz0
        replace jz1 := fro_later hb kz1 jz1
        replace kz1 := cell_later hb kz1
        replace jx0 := fro_later hb kx0 jx0
        replace kx0 := cell_later hb kx0
        replace jx1 := fro_later hb kx1 jx1
        replace kx1 := cell_later hb kx1
        replace jy0 := fro_later hb ky0 jy0
        replace ky0 := cell_later hb ky0
        replace jy1 := fro_later hb ky1 jy1
        replace ky1 := cell_later hb ky1
        replace zr : w.heap.size < wt2.heap.size := World.block_lt_of_cell? _ _ kr0
        have zr_wt2 := zr
        replace zb : w.heap.size + 1 < wt2.heap.size := World.block_lt_of_cell? _ _ kb0
        have zb_wt2 := zb
        replace zz : w.heap.size + 1 + 1 < wt2.heap.size := World.block_lt_of_cell? _ _ kz0
        have zz_wt2 := zz
        replace zx : w.heap.size + 1 + 1 + 1 < wt2.heap.size := World.block_lt_of_cell? _ _ kx0
        have zx_wt2 := zx
        replace zy : w.heap.size + 1 + 1 + 1 + 1 < wt2.heap.size := World.block_lt_of_cell? _ _ ky0
        have zy_wt2 := zy
        replace hb0 : Below w.heap.size w wt2 := (by repeat (first | with_reducible exact Below.refl _ _ | with_reducible assumption | with_reducible refine Below.setCell ?_ (by first | omega | (simp <;> omega)) _ | with_reducible refine balloc ?_ _ | with_reducible refine Below.drew ?_ | with_reducible refine bstep ?_ (by with_reducible assumption)))
        have hs_wt2 : wt1.heap.size ≤ wt2.heap.size := hb.size
        clear hb
        (try go_wp2_with fail)
        refine hKK.out _ _ (by first | (go_keep; done) | ((repeat' apply And.intro) <;> go_simp)) (fun hHeld => ?_)
        clear hKK KK
        try simp only [Act.put, List.setIfInBounds_toArray, List.set_cons_zero, List.set_cons_succ]
        refine wpAnyH_ready (rs := [12]) (by kernel_rfl) (by simp) ?_
        refine AllReadyH.cons (o := ⟨none, _, _, _, _, _⟩) rfl (fun KK hKK => ?_) AllReadyH.nil
        go_simp
        (try go_wp2_with fail)
        refine hKK.out _ _ (by first | (go_keep; done) | ((repeat' apply And.intro) <;> go_simp)) (fun hHeld => ?_)
        clear hKK KK
        try simp only [Act.put, List.setIfInBounds_toArray, List.set_cons_zero, List.set_cons_succ]
        refine wpAnyH_ready (rs := [13]) (by kernel_rfl) (by simp) ?_
        refine AllReadyH.cons (o := ⟨none, _, _, _, _, _⟩) rfl (fun KK hKK => ?_) AllReadyH.nil
        go_simp
        (try go_wp2_with fail)
        refine hKK.out _ _ (by first | (go_keep; done) | ((repeat' apply And.intro) <;> go_simp)) (fun hHeld => ?_)
        clear hKK KK
        try simp only [Act.put, List.setIfInBounds_toArray, List.set_cons_zero, List.set_cons_succ]
        refine wpAnyH_done (by kernel_rfl) ?_ _
        (try dsimp only [Exit.then, Met])
        go_wp2_with fail
        go_meet
        refine ⟨_, _, rfl, rfl, by first | omega | (simp; omega), by first | omega | (simp; omega), ?_, ?_, ?_, ?_, ?_, ?_, ?_, ?_, ?_, ?_, ?_, ?_, ?_, ?_, ?_, (by repeat (first | with_reducible exact Below.refl _ _ | with_reducible assumption | with_reducible refine Below.setCell ?_ (by first | omega | (simp <;> omega)) _ | with_reducible refine balloc ?_ _ | with_reducible refine Below.drew ?_ | with_reducible refine bstep ?_ (by with_reducible assumption)))⟩
        all_goals first | (with_reducible assumption) | go_simp
    · go_simp
      (try go_wp2_with fail)
      refine hKK.out _ _ (by first | (go_keep; done) | ((repeat' apply And.intro) <;> go_simp)) (fun hHeld => ?_)
      clear hKK KK
      try simp only [Act.put, List.setIfInBounds_toArray, List.set_cons_zero, List.set_cons_succ]
      refine wpAnyH_ready (rs := [4, 10]) (by kernel_rfl) (by simp) ?_
      refine AllReadyH.cons (o := ⟨some 11, _, _, _, _, _⟩) rfl (fun KK hKK => ?_) (AllReadyH.cons (o := ⟨some 5, _, _, _, _, _⟩) rfl (fun KK hKK => ?_) AllReadyH.nil)
      · go_simp
        refine Calls.mono (multiple_c b1 b2 r1 _ (by omega) (by omega)) ?_
        rintro e wt1 ⟨rfl, hb⟩
        have kr0 : wt1.cell? ⟨w.heap.size, 0, none⟩ = some (.int .i64 r1) := cell_later hb (by go_simp)
        have kr1 : wt1.cell? ⟨w.heap.size, 1, none⟩ = some (.int .i64 r2) := cell_later hb (by go_simp)
        have kr2 : wt1.cell? ⟨w.heap.size, 2, none⟩ = some (.int .i64 r3) := cell_later hb (by go_simp)
        have kb0 : wt1.cell? ⟨w.heap.size + 1, 0, none⟩ = some (.int .i64 b1) := cell_later hb (by go_simp)
        have kb1 : wt1.cell? ⟨w.heap.size + 1, 1, none⟩ = some (.int .i64 b2) := cell_later hb (by go_simp)
        have kb2 : wt1.cell? ⟨w.heap.size + 1, 2, none⟩ = some (.int .i64 b3) := cell_later hb (by go_simp)
        have kb3 : wt1.cell? ⟨w.heap.size + 1, 3, none⟩ = some (.int .i64 b4) := cell_later hb (by go_simp)
        have kz0 : wt1.cell? ⟨w.heap.size + 1 + 1, 0, none⟩ = some (.int .i64 0) := cell_later hb (by go_simp)
        have jz0 : wt1.frozen? ⟨w.heap.size + 1 + 1, 0, none⟩ = false := by rw [(bcell hb).2 _ _ (by first | omega | (simp <;> omega))]; go_simp
        have kz1 : wt1.cell? ⟨w.heap.size + 1 + 1, 1, none⟩ = some (.int .i64 0) := cell_later hb (by go_simp)
        have jz1 : wt1.frozen? ⟨w.heap.size + 1 + 1, 1, none⟩ = false := by rw [(bcell hb).2 _ _ (by first | omega | (simp <;> omega))]; go_simp
        have ky0 : wt1.cell? ⟨w.heap.size + 1 + 1 + 1, 0, none⟩ = some (.int .i64 0) := cell_later hb (by go_simp)
        have jy0 : wt1.frozen? ⟨w.heap.size + 1 + 1 + 1, 0, none⟩ = false := by rw [(bcell hb).2 _ _ (by first | omega | (simp <;> omega))]; go_simp
        have ky1 : wt1.cell? ⟨w.heap.size + 1 + 1 + 1, 1, none⟩ = some (.int .i64 0) := cell_later hb (by go_simp)
        have jy1 : wt1.frozen? ⟨w.heap.size + 1 + 1 + 1, 1, none⟩ = false := by rw [(bcell hb).2 _ _ (by first | omega | (simp <;> omega))]; go_simp
        have zr : w.heap.size < wt1.heap.size := World.block_lt_of_cell? _ _ kr0
        have zr_wt1 := zr
        have zb : w.heap.size + 1 < wt1.heap.size := World.block_lt_of_cell? _ _ kb0
        have zb_wt1 := zb
        have zz : w.heap.size + 1 + 1 < wt1.heap.size := World.block_lt_of_cell? _ _ kz0
        have zz_wt1 := zz
        have zy : w.heap.size + 1 + 1 + 1 < wt1.heap.size := World.block_lt_of_cell? _ _ ky0
        have zy_wt1 := zy
        have hb0 : Below w.heap.size w wt1 := (by repeat (first | with_reducible exact Below.refl _ _ | with_reducible assumption | with_reducible refine Below.setCell ?_ (by first | omega | (simp <;> omega)) _ | with_reducible refine balloc ?_ _ | with_reducible refine Below.drew ?_ | with_reducible refine bstep ?_ (by with_reducible assumption)))
        have hs_wt1 := hb.size; (try simp only [World.size_alloc, World.size_setCell] at hs_wt1)
        clear hb
        (try go_wp2_with fail)
        refine hKK.out _ _ (by first | (go_keep; done) | ((repeat' apply And.intro) <;> go_simp)) (fun hHeld => ?_)
        clear hKK KK
        try simp only [Act.put, List.setIfInBounds_toArray, List.set_cons_zero, List.set_cons_succ]
        refine wpAnyH_ready (rs := [9, 10]) (by kernel_rfl) (by simp) ?_
        refine AllReadyH.cons (o := ⟨some 16, _, _, _, _, _⟩) rfl (fun KK hKK => ?_) (AllReadyH.cons (o := ⟨some 5, _, _, _, _, _⟩) rfl (fun KK hKK => ?_) AllReadyH.nil)
        · go_simp
          refine Calls.mono (multiple_c b3 b4 r2 _ (by omega) (by omega)) ?_
          rintro e wt2 ⟨rfl, hb⟩
          replace kr0 := cell_later hb kr0
          replace kr1 := cell_later hb kr1
          replace kr2 := cell_later hb kr2
          replace kb0 := cell_later hb kb0
          replace kb1 := cell_later hb kb1
          replace kb2 := cell_later hb kb2
          replace kb3 := cell_later hb kb3
          replace jz0 := fro_later hb kz0 jz0
          replace kz0 := cell_later hb kz0
          replace jz1 := fro_later hb kz1 jz1
          replace kz1 := cell_later hb kz1
          replace jy0 := fro_later hb ky0 jy0
          replace ky0 := cell_later hb ky0
          replace jy1 := fro_later hb ky1 jy1
          replace ky1 := cell_later hb ky1
          replace zr : w.heap.size < wt2.heap.size := World.block_lt_of_cell? _ _ kr0
          have zr_wt2 := zr
          replace zb : w.heap.size + 1 < wt2.heap.size := World.block_lt_of_cell? _ _ kb0
          have zb_wt2 := zb
          replace zz : w.heap.size + 1 + 1 < wt2.heap.size := World.block_lt_of_cell? _ _ kz0
          have zz_wt2 := zz
          replace zy : w.heap.size + 1 + 1 + 1 < wt2.heap.size := World.block_lt_of_cell? _ _ ky0
          have zy_wt2 := zy
          replace hb0 : Below w.heap.size w wt2 := (by repeat (first | with_reducible exact Below.refl _ _ | with_reducible assumption | with_reducible refine Below.setCell ?_ (by first | omega | (simp <;> omega)) _ | with_reducible refine balloc ?_ _ | with_reducible refine Below.drew ?_ | with_reducible refine bstep ?_ (by with_reducible assumption)))
          have hs_wt2 : wt1.heap.size ≤ wt2.heap.size := hb.size
          clear hb
          (try go_wp2_with fail)
          refine hKK.out _ _ (by first | (go_keep; done) | ((repeat' apply And.intro) <;> go_simp)) (fun hHeld => ?_)
          clear hKK KK
          try simp only [Act.put, List.setIfInBounds_toArray, List.set_cons_zero, List.set_cons_succ]
          refine wpAnyH_ready (rs := [10]) (by kernel_rfl) (by simp) ?_
          refine AllReadyH.cons (o := ⟨some 5, _, _, _, _, _⟩) rfl (fun KK hKK => ?_) AllReadyH.nil
          go_simp
          (try go_wp2_with fail)
          refine hKK.out _ _ (by first | (go_keep; done) | ((repeat' apply And.intro) <;> go_simp)) (fun hHeld => ?_)
          clear hKK KK
          try simp only [Act.put, List.setIfInBounds_toArray, List.set_cons_zero, List.set_cons_succ]
          refine wpAnyH_ready (rs := [12]) (by kernel_rfl) (by simp) ?_
          refine AllReadyH.cons (o := ⟨none, _, _, _, _, _⟩) rfl (fun KK hKK => ?_) AllReadyH.nil
          go_simp
          (try go_wp2_with fail)
          refine hKK.out _ _ (by first | (go_keep; done) | ((repeat' apply And.intro) <;> go_simp)) (fun hHeld => ?_)
          clear hKK KK
          try simp only [Act.put, List.setIfInBounds_toArray, List.set_cons_zero, List.set_cons_succ]
          refine wpAnyH_ready (rs := [13]) (by kernel_rfl) (by simp) ?_
          refine AllReadyH.cons (o := ⟨none, _, _, _, _, _⟩) rfl (fun KK hKK => ?_) AllReadyH.nil
          go_simp
          (try go_wp2_with fail)
          refine hKK.out _ _ (by first | (go_keep; done) | ((repeat' apply And.intro) <;> go_simp)) (fun hHeld => ?_)
          clear hKK KK
          try simp only [Act.put, List.setIfInBounds_toArray, List.set_cons_zero, List.set_cons_succ]
          refine wpAnyH_done (by kernel_rfl) ?_ _
          (try dsimp only [Exit.then, Met])
          go_wp2_with fail
          go_meet
          refine ⟨_, _, rfl, rfl, by first | omega | (simp; omega), by first | omega | (simp; omega), ?_, ?_, ?_, ?_, ?_, ?_, ?_, ?_, ?_, ?_, ?_, ?_, ?_, ?_, ?_, (by repeat (first | with_reducible exact Below.refl _ _ | with_reducible assumption | with_reducible refine Below.setCell ?_ (by first | omega | (simp <;> omega)) _ | with_reducible refine balloc ?_ _ | with_reducible refine Below.drew ?_ | with_reducible refine bstep ?_ (by with_reducible assumption)))⟩
          all_goals first | (with_reducible assumption) | go_simp
        · go_simp
          (try go_wp2_with fail)
          refine hKK.out _ _ (by first | (go_keep; done) | ((repeat' apply And.intro) <;> go_simp)) (fun hHeld => ?_)
          clear hKK KK
          try simp only [Act.put, List.setIfInBounds_toArray, List.set_cons_zero, List.set_cons_succ]
          refine wpAnyH_ready (rs := [9]) (by kernel_rfl) (by simp) ?_
          refine AllReadyH.cons (o := ⟨some 16, _, _, _, _, _⟩) rfl (fun KK hKK => ?_) AllReadyH.nil
          go_simp
          refine Calls.mono (multiple_c b3 b4 r2 _ (by omega) (by omega)) ?_
          rintro e wt2 ⟨rfl, hb⟩
          replace kr0 := cell_later hb (cell_al _ kr0)
          replace kr1 := cell_later hb (cell_al _ kr1)
          replace kr2 := cell_later hb (cell_al _ kr2)
          replace kb0 := cell_later hb (cell_al _ kb0)
          replace kb1 := cell_later hb (cell_al _ kb1)
          replace kb2 := cell_later hb (cell_al _ kb2)
          replace kb3 := cell_later hb (cell_al _ kb3)
          replace jz0 := fro_later hb (cell_al _ kz0) (fro_al jz0)
          replace kz0 := cell_later hb (cell_al _ kz0)
          replace jz1 := fro_later hb (cell_al _ kz1) (fro_al jz1)
          replace kz1 := cell_later hb (cell_al _ kz1)
          replace jy0 := fro_later hb (cell_al _ ky0) (fro_al jy0)
          replace ky0 := cell_later hb (cell_al _ ky0)
          replace jy1 := fro_later hb (cell_al _ ky1) (fro_al jy1)
          replace ky1 := cell_later hb (cell_al _ ky1)
          have kx0 : wt2.cell? ⟨wt1.heap.size, 0, none⟩ = some (.int .i64 0) := cell_later hb (by go_simp)
          have jx0 : wt2.frozen? ⟨wt1.heap.size, 0, none⟩ = false := by rw [(bcell hb).2 _ _ (by first | omega | (simp <;> omega))]; go_simp
          have kx1 : wt2.cell? ⟨wt1.heap.size, 1, none⟩ = some (.int .i64 0) := cell_later hb (by go_simp)
          have jx1 : wt2.frozen? ⟨wt1.heap.size, 1, none⟩ = false := by rw [(bcell hb).2 _ _ (by first | omega | (simp <;> omega))]; go_simp
          replace zr : w.heap.size < wt2.heap.size := World.block_lt_of_cell? _ _ kr0
          have zr_wt2 := zr
          replace zb : w.heap.size + 1 < wt2.heap.size := World.block_lt_of_cell? _ _ kb0
          have zb_wt2 := zb
          replace zz : w.heap.size + 1 + 1 < wt2.heap.size := World.block_lt_of_cell? _ _ kz0
          have zz_wt2 := zz
          replace zy : w.heap.size + 1 + 1 + 1 < wt2.heap.size := World.block_lt_of_cell? _ _ ky0
          have zy_wt2 := zy
          have zx : wt1.heap.size < wt2.heap.size := World.block_lt_of_cell? _ _ kx0
          have zx_wt2 := zx
          replace hb0 : Below w.heap.size w wt2 := (by repeat (first | with_reducible exact Below.refl _ _ | with_reducible assumption | with_reducible refine Below.setCell ?_ (by first | omega | (simp <;> omega)) _ | with_reducible refine balloc ?_ _ | with_reducible refine Below.drew ?_ | with_reducible refine bstep ?_ (by with_reducible assumption)))
          have hs_wt2 := hb.size; (try simp only [World.size_alloc, World.size_setCell] at hs_wt2)
          clear hb
          (try go_wp2_with fail)
          refine hKK.out _ _ (by first | (go_keep; done) | ((repeat' apply And.intro) <;> go_simp)) (fun hHeld => ?_)
          clear hKK KK
          try simp only [Act.put, List.setIfInBounds_toArray, List.set_cons_zero, List.set_cons_succ]
          refine wpAnyH_ready (rs := [12]) (by kernel_rfl) (by simp) ?_
          refine AllReadyH.cons (o := ⟨none, _, _, _, _, _⟩) rfl (fun KK hKK => ?_) AllReadyH.nil
          go_simp
          (try go_wp2_with fail)
          refine hKK.out _ _ (by first | (go_keep; done) | ((repeat' apply And.intro) <;> go_simp)) (fun hHeld => ?_)
          clear hKK KK
          try simp only [Act.put, List.setIfInBounds_toArray, List.set_cons_zero, List.set_cons_succ]
          refine wpAnyH_ready (rs := [13]) (by kernel_rfl) (by simp) ?_
          refine AllReadyH.cons (o := ⟨none, _, _, _, _, _⟩) rfl (fun KK hKK => ?_) AllReadyH.nil
          go_simp
          (try go_wp2_with fail)
          refine hKK.out _ _ (by first | (go_keep; done) | ((repeat' apply And.intro) <;> go_simp)) (fun hHeld => ?_)
          clear hKK KK
          try simp only [Act.put, List.setIfInBounds_toArray, List.set_cons_zero, List.set_cons_succ]
          refine wpAnyH_done (by kernel_rfl) ?_ _
          (try dsimp only [Exit.then, Met])
          go_wp2_with fail
          go_meet
          refine ⟨_, _, rfl, rfl, by first | omega | (simp; omega), by first | omega | (simp; omega), ?_, ?_, ?_, ?_, ?_, ?_, ?_, ?_, ?_, ?_, ?_, ?_, ?_, ?_, ?_, (by repeat (first | with_reducible exact Below.refl _ _ | with_reducible assumption | with_reducible refine Below.setCell ?_ (by first | omega | (simp <;> omega)) _ | with_reducible refine balloc ?_ _ | with_reducible refine Below.drew ?_ | with_reducible refine bstep ?_ (by with_reducible assumption)))⟩
          all_goals first | (with_reducible assumption) | go_simp
      · go_simp
        (try go_wp2_with fail)
        refine hKK.out _ _ (by first | (go_keep; done) | ((repeat' apply And.intro) <;> go_simp)) (fun hHeld => ?_)
        clear hKK KK
        try simp only [Act.put, List.setIfInBounds_toArray, List.set_cons_zero, List.set_cons_succ]
        refine wpAnyH_ready (rs := [4]) (by kernel_rfl) (by simp) ?_
        refine AllReadyH.cons (o := ⟨some 11, _, _, _, _, _⟩) rfl (fun KK hKK => ?_) AllReadyH.nil
        go_simp
        refine Calls.mono (multiple_c b1 b2 r1 _ (by omega) (by omega)) ?_
        rintro e wt1 ⟨rfl, hb⟩
        have kr0 : wt1.cell? ⟨w.heap.size, 0, none⟩ = some (.int .i64 r1) := cell_later hb (by go_simp)
        have kr1 : wt1.cell? ⟨w.heap.size, 1, none⟩ = some (.int .i64 r2) := cell_later hb (by go_simp)
        have kr2 : wt1.cell? ⟨w.heap.size, 2, none⟩ = some (.int .i64 r3) := cell_later hb (by go_simp)
        have kb0 : wt1.cell? ⟨w.heap.size + 1, 0, none⟩ = some (.int .i64 b1) := cell_later hb (by go_simp)
        have kb1 : wt1.cell? ⟨w.heap.size + 1, 1, none⟩ = some (.int .i64 b2) := cell_later hb (by go_simp)
        have kb2 : wt1.cell? ⟨w.heap.size + 1, 2, none⟩ = some (.int .i64 b3) := cell_later hb (by go_simp)
        have kb3 : wt1.cell? ⟨w.heap.size + 1, 3, none⟩ = some (.int .i64 b4) := cell_later hb (by go_simp)
        have kz0 : wt1.cell? ⟨w.heap.size + 1 + 1, 0, none⟩ = some (.int .i64 0) := cell_later hb (by go_simp)
        have jz0 : wt1.frozen? ⟨w.heap.size + 1 + 1, 0, none⟩ = false := by rw [(bcell hb).2 _ _ (by first | omega | (simp <;> omega))]; go_simp
        have kz1 : wt1.cell? ⟨w.heap.size + 1 + 1, 1, none⟩ = some (.int .i64 0) := cell_later hb (by go_simp)
        have jz1 : wt1.frozen? ⟨w.heap.size + 1 + 1, 1, none⟩ = false := by rw [(bcell hb).2 _ _ (by first | omega | (simp <;> omega))]; go_simp
        have ky0 : wt1.cell? ⟨w.heap.size + 1 + 1 + 1, 0, none⟩ = some (.int .i64 0) := cell_later hb (by go_simp)
        have jy0 : wt1.frozen? ⟨w.heap.size + 1 + 1 + 1, 0, none⟩ = false := by rw [(bcell hb).2 _ _ (by first | omega | (simp <;> omega))]; go_simp
        have ky1 : wt1.cell? ⟨w.heap.size + 1 + 1 + 1, 1, none⟩ = some (.int .i64 0) := cell_later hb (by go_simp)
        have jy1 : wt1.frozen? ⟨w.heap.size + 1 + 1 + 1, 1, none⟩ = false := by rw [(bcell hb).2 _ _ (by first | omega | (simp <;> omega))]; go_simp
        have kx0 : wt1.cell? ⟨w.heap.size + 1 + 1 + 1 + 1, 0, none⟩ = some (.int .i64 0) := cell_later hb (by go_simp)
        have jx0 : wt1.frozen? ⟨w.heap.size + 1 + 1 + 1 + 1, 0, none⟩ = false := by rw [(bcell hb).2 _ _ (by first | omega | (simp <;> omega))]; go_simp
        have kx1 : wt1.cell? ⟨w.heap.size + 1 + 1 + 1 + 1, 1, none⟩ = some (.int .i64 0) := cell_later hb (by go_simp)
        have jx1 : wt1.frozen? ⟨w.heap.size + 1 + 1 + 1 + 1, 1, none⟩ = false := by rw [(bcell hb).2 _ _ (by first | omega | (simp <;> omega))]; go_simp
        have zr : w.heap.size < wt1.heap.size := World.block_lt_of_cell? _ _ kr0
        have zr_wt1 := zr
        have zb : w.heap.size + 1 < wt1.heap.size := World.block_lt_of_cell? _ _ kb0
        have zb_wt1 := zb
        have zz : w.heap.size + 1 + 1 < wt1.heap.size := World.block_lt_of_cell? _ _ kz0
        have zz_wt1 := zz
        have zy : w.heap.size + 1 + 1 + 1 < wt1.heap.size := World.block_lt_of_cell? _ _ ky0
        have zy_wt1 := zy
        have zx : w.heap.size + 1 + 1 + 1 + 1 < wt1.heap.size := World.block_lt_of_cell? _ _ kx0
        have zx_wt1 := zx
        have hb0 : Below w.heap.size w wt1 := (by repeat (first | with_reducible exact Below.refl _ _ | with_reducible assumption | with_reducible refine Below.setCell ?_ (by first | omega | (simp <;> omega)) _ | with_reducible refine balloc ?_ _ | with_reducible refine Below.drew ?_ | with_reducible refine bstep ?_ (by with_reducible assumption)))
        have hs_wt1 := hb.size; (try simp only [World.size_alloc, World.size_setCell] at hs_wt1)
        clear hb
        (try go_wp2_with fail)
        refine hKK.out _ _ (by first | (go_keep; done) | ((repeat' apply And.intro) <;> go_simp)) (fun hHeld => ?_)
        clear hKK KK
        try simp only [Act.put, List.setIfInBounds_toArray, List.set_cons_zero, List.set_cons_succ]
        refine wpAnyH_ready (rs := [9]) (by kernel_rfl) (by simp) ?_
        refine AllReadyH.cons (o := ⟨some 16, _, _, _, _, _⟩) rfl (fun KK hKK => ?_) AllReadyH.nil
        go_simp
        refine Calls.mono (multiple_c b3 b4 r2 _ (by omega) (by omega)) ?_
        rintro e wt2 ⟨rfl, hb⟩
        replace kr0 := cell_later hb kr0
        replace kr1 := cell_later hb kr1
        replace kr2 := cell_later hb kr2
        replace kb0 := cell_later hb kb0
        replace kb1 := cell_later hb kb1
        replace kb2 := cell_later hb kb2
        replace kb3 := cell_later hb kb3
        replace jz0 := fro_later hb kz0 jz0
        replace kz0 := cell_later hb kz0
        replace jz1 := fro_later hb kz1 jz1
        replace kz1 := cell_later hb kz1
        replace jy0 := fro_later hb ky0 jy0
        replace ky0 := cell_later hb ky0
        replace jy1 := fro_later hb ky1 jy1
        replace ky1 := cell_later hb ky1
        replace jx0 := fro_later hb kx0 jx0
        replace kx0 := cell_later hb kx0
        replace jx1 := fro_later hb kx1 jx1
        replace kx1 := cell_later hb kx1
        replace zr : w.heap.size < wt2.heap.size := World.block_lt_of_cell? _ _ kr0
        have zr_wt2 := zr
        replace zb : w.heap.size + 1 < wt2.heap.size := World.block_lt_of_cell? _ _ kb0
        have zb_wt2 := zb
        replace zz : w.heap.size + 1 + 1 < wt2.heap.size := World.block_lt_of_cell? _ _ kz0
        have zz_wt2 := zz
        replace zy : w.heap.size + 1 + 1 + 1 < wt2.heap.size := World.block_lt_of_cell? _ _ ky0
        have zy_wt2 := zy
        replace zx : w.heap.size + 1 + 1 + 1 + 1 < wt2.heap.size := World.block_lt_of_cell? _ _ kx0
        have zx_wt2 := zx
        replace hb0 : Below w.heap.size w wt2 := (by repeat (first | with_reducible exact Below.refl _ _ | with_reducible assumption | with_reducible refine Below.setCell ?_ (by first | omega | (simp <;> omega)) _ | with_reducible refine balloc ?_ _ | with_reducible refine Below.drew ?_ | with_reducible refine bstep ?_ (by with_reducible assumption)))
        have hs_wt2 : wt1.heap.size ≤ wt2.heap.size := hb.size
        clear hb
        (try go_wp2_with fail)
        refine hKK.out _ _ (by first | (go_keep; done) | ((repeat' apply And.intro) <;> go_simp)) (fun hHeld => ?_)
        clear hKK KK
        try simp only [Act.put, List.setIfInBounds_toArray, List.set_cons_zero, List.set_cons_succ]
        refine wpAnyH_ready (rs := [12]) (by kernel_rfl) (by simp) ?_
        refine AllReadyH.cons (o := ⟨none, _, _, _, _, _⟩) rfl (fun KK hKK => ?_) AllReadyH.nil
        go_simp
        (try go_wp2_with fail)
        refine hKK.out _ _ (by first | (go_keep; done) | ((repeat' apply And.intro) <;> go_simp)) (fun hHeld => ?_)
        clear hKK KK
        try simp only [Act.put, List.setIfInBounds_toArray, List.set_cons_zero, List.set_cons_succ]
        refine wpAnyH_ready (rs := [13]) (by kernel_rfl) (by simp) ?_
        refine AllReadyH.cons (o := ⟨none, _, _, _, _, _⟩) rfl (fun KK hKK => ?_) AllReadyH.nil
        go_simp
        (try go_wp2_with fail)
        refine hKK.out _ _ (by first | (go_keep; done) | ((repeat' apply And.intro) <;> go_simp)) (fun hHeld => ?_)
        clear hKK KK
        try simp only [Act.put, List.setIfInBounds_toArray, List.set_cons_zero, List.set_cons_succ]
        refine wpAnyH_done (by kernel_rfl) ?_ _
        (try dsimp only [Exit.then, Met])
        go_wp2_with fail
        go_meet
        refine ⟨_, _, rfl, rfl, by first | omega | (simp; omega), by first | omega | (simp; omega), ?_, ?_, ?_, ?_, ?_, ?_, ?_, ?_, ?_, ?_, ?_, ?_, ?_, ?_, ?_, (by repeat (first | with_reducible exact Below.refl _ _ | with_reducible assumption | with_reducible refine Below.setCell ?_ (by first | omega | (simp <;> omega)) _ | with_reducible refine balloc ?_ _ | with_reducible refine Below.drew ?_ | with_reducible refine bstep ?_ (by with_reducible assumption)))⟩
        all_goals first | (with_reducible assumption) | go_simp
  case rest =>
    obtain ⟨gx, gy, rfl, rfl, lgx, lgy, kx0, kx1, ky0, ky1, kr0, kr1, kr2, kb0, kb1, kb2, kb3, kz0, jz0, kz1, jz1, hb0⟩ := hcut
    have zx : gx < wc.heap.size := World.block_lt_of_cell? _ _ kx0
    have zx_wc := zx
    have zy : gy < wc.heap.size := World.block_lt_of_cell? _ _ ky0
    have zy_wc := zy
    have zr : w.heap.size < wc.heap.size := World.block_lt_of_cell? _ _ kr0
    have zr_wc := zr
    have zb : w.heap.size + 1 < wc.heap.size := World.block_lt_of_cell? _ _ kb0
    have zb_wc := zb
    have zz : w.heap.size + 1 + 1 < wc.heap.size := World.block_lt_of_cell? _ _ kz0
    have zz_wc := zz
    go_wp2
    refine bodyPost_ret ?_ rfl ⟨rfl, (by repeat (first | with_reducible exact Below.refl _ _ | with_reducible assumption | with_reducible refine Below.setCell ?_ (by first | omega | (simp <;> omega)) _ | with_reducible refine balloc ?_ _ | with_reducible refine Below.drew ?_ | with_reducible refine bstep ?_ (by with_reducible assumption)))⟩
    simp [results, Try.results55, go_sem, oL, oH, kz0, kz1]


end Go.Proofs.Ytlkjpackjjncaaa.Da
